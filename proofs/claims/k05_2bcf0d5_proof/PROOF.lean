import PyProof.Rows.All
import Wide.All
import OpenK.AllK
import Wide.FinOn
import Lean
import PyProof.EqAt
import PyProof.EqKinds
import PyProof.TupleCall
import PyProof.NeKinds
import PyProof.StationsW
import PyProof.ExcClass3
import PyProof.ExcBaseAll.ValueError
import PyProof.ExcArgsOwn
import KE.KIsAll
import PyProof.ZipIter
import PyProof.RulesAs
import KE.KLam
import PyProof.NsDelKeeps
import PyProof.Rows.Range3
import PyProof.SumWalkG
import PyProof.EnumMake
import PyProof.EnumFor
import PyProof.WalkInts
import PyProof.Rows.SortWalk
import KE.KSortAsk
import PySem.SetOps
import KE.KSortTup
import PyProof.Rows.SetFrom
import PyProof.SetRoads
import PyProof.Rows.CallKwBuiltin
import PySem.Challenge.RW_nearorders_k05_spans_of_rows
open Array renaming getElem?_eq_some_iff->du,getElem?_eq_getElem->gp,getElem?_setIfInBounds_self_of_lt->jg,getD->kr,getElem?_toList->ly,length_toList->nu,getElem?_eq_none->ue,perm_iff_toList_perm->yu,getElem?_replicate->Bd,mem_toList_iff->Cm,forIn_toList->Dg
open Bool renaming false_eq_true->cp,and_eq_true->cw,eq_iff_iff->dh,false_ne_true->jf,not_true->qd,and_false->qv,true_and->wg
open Classical renaming em->sj
open False renaming elim->ig
open ForInStep renaming yield->tj
open Int renaming toNat_natCast->gr
open List renaming mem_cons_of_mem->ao,size_toArray->av,mem_cons->ay,getElem?_eq_some_iff->ba,mem_cons_self->bc,range->bf,getElem?_eq_getElem->bg,length_map->bj,mem_range->br,length_append->bu,mem_of_getElem?->bx,filterMap_cons->bz,mem_append->cg,mem_append_right->cm,getElem_mem->cx,getElem?_set_self->cz,mem_map->de,mem_singleton->df,length_cons->dj,map_cons->dk,pairwise_cons->ed,getElem?_set_ne->ey,getElem?_map->fe,getElem?_append_left->fh,all_eq_true->fj,getElem?_append_right->gv,mem_filter->gw,pairwise_iff_getElem->ie,lookup_cons->ja,mem_append_left->jb,nodup_cons->jm,length_take->js,filter_cons->jt,mem_filterMap->jw,map_append->jz,take_succ_eq_append_getElem->ka,flatMap_cons->kd,getElem_of_mem->kh,filter_eq_nil_iff->kz,append_nil->lj,length_set->lr,length_filter_le->md,length_range->my,map_map->nr,length_filterMap_le->oi,length_nil->oj,getD->ow,ext_getElem?->pf,length_drop->pq,any_eq_true->pw,mem_iff_getElem->qe,mem_of_mem_drop->qf,forIn_cons->qi,range_succ->qj,perm_ext_iff_of_nodup->qw,getElem_range->rf,getElem?_zip_eq_some->rn,length->rz,pairwise_map->sk,append_assoc->sr,reverse_cons->sv,getElem?_replicate->tu,getElem?_cons_succ->tw,countP_cons->ua,nodup_range->ub,length_eq_zero_iff->uc,take_of_length_le->uh,mem_of_mem_take->vj,forall_mem_cons->vk,forall_mem_nil->vp,map_drop->wj,eraseIdx_eq_take_drop_succ->xk,mem_flatMap->xv,not_mem_nil->xw,of_mem_zip->yg,replicate->yx,nodup_iff_pairwise_ne->zu,length_eraseIdx_of_lt->zv,mem_or_eq_of_mem_set->Be,getElem?_take_of_lt->Bh,map_take->Bp,range_succ_eq_map->Bw,any_map->By,pairwise_lt_range->Bz,drop_of_length_le->Cb,length_singleton->Cg,take_append_drop->Ck,getElem?_eq_none->Co,getElem?_toArray->Cp,filterMap_append->Cq,filterMap_eq_map->Cs,flatMap_append->Dh
open List.Pairwise renaming nil->um,imp_of_mem->wu
open List.Perm renaming refl->xg,append_left->zw,swap->Df
open List.cons renaming injEq->Cv
open Nat renaming le_refl->ak,lt_of_lt_of_le->aw,ne_of_lt->az,le_trans->dm,lt_irrefl->gy,le_of_lt->ic,lt_succ_of_lt->ik,zero_le->jc,ne_of_gt->jh,lt_or_ge->ji,lt_succ_self->jv,mul_le_mul->nj,succ_ne_self->nv,le_of_eq->qt,le_add_right->ud,succ_mul->xj,min_self->Ci,lt_asymm->Cn
open Ne renaming symm->cy
open Option renaming isSome_iff_exists->yy
open Option.some renaming inj->cq,injEq->Bf
open Prod renaming fst->fg,snd->qz
open PyProof.Rows renaming slot_tuple_getitem->da,callWith_type1->ki,IntsAre->ku,get?_update_seq->nh,AllBare->uf,listUpdate_at->uv,size_push'->vm,tupleItemsOf_->xl,assignInOrder_cons->ya,IsTup->yi,lt_int->yk
open PyProof.Rows.IsTup renaming push->yw
open PySem renaming wpAny_bind->aa,Value->af,Shared->ag,wpAny_pure->ah,Addr->ai,starEach->au,Program->bh,FuncData->bo,Expr->bq,sizeLine->bw,Around->cf,World->cn,Heap->cu,wpAny_newObj_type->dg,bootBuiltins->dw,mainGlobals->dz,wpAny_field->fi,wpAny_call_entry->fv,wpAny_holding->fz,mem_of_lookup->gg,wpAny_callSpecial?_slot->gm,IsTupleKey->gu,Stmt->gz,Scope->iq,SetTable->iu,wpAny_seqItems->iz,wpAny_setField_rec->jl,sizeLine_eq->jn,wpAny_setState_of->jq,codeAny_builtin->jr,wpAny_truthy_bool->kg,Comprehension->kj,NameKind->lg,wpAny_mono->mf,wpAny_Call_Name_kw->mq,Builtin->mr,wpAny_passesOwn->nc,Arguments->ni,wpAny_pyIter_list->nq,codeAny_call_builtin->oh,wpAny_typeOf->om,wpAny_askSetting->oq,wpAny_execs_nil->pd,wpAny_pyIter_tuple->pg,codeAny_mono->pz,IsPair->qc,wpAny_execs_cons->qk,wpAny_rule->ql,wpAny_forIn_list->qo,wpAny_standAt->qr,wpAny_letGo->qu,pushCells_keeps->rh,wpAny_of_eq->ug,IsPart->uk,wpAny_onRaise->uq,wpAny_newList->uw,wpAny_updateSeq_pair->wq,wpAny_runValue->wx,TriplesOk->wy,wpAny_setEntries_of->xh,wpAny_attempt->xm,plainId_quiet->xq,Result->yb,wpAny_call->yc,wpAny_sequenceKey->ym,boot_len->yr,wpAny_eqBool_int->Aa,PassesOwn->Ab,noFill_tuple_add->Ae,wpAny_isInstance->Bc,Model->Bg,IsZip->Bo,wpAny_updateSeq->Bt,call_meets->Cf,wpAny_setField->Cj,wpAny_tryCatch->Cr,seq_tuple_add->Cz,evalPart_none->Dc,wpAny_comprehension_free->Dd
open PySem.Around renaming under_plainId->iw,frames_deeper->Bv
open PySem.Builtin.Builtins renaming bindParams->vg
open PySem.Builtin.Frozenset renaming updateFrom->ux
open PySem.Builtin.List renaming listExtendWith->km,listTooLong->qh,listSameRef->wz,listTouch->xr
open PySem.Builtin.Slice renaming slicePlaces->gh,sliceAdjust->jd,sliceApplied->kn,sliceFields->wk
open PySem.Builtin.SmallTypes renaming nextOf->fw,ownedTupleIsFree->rj,stopIteration->tm
open PySem.Builtin.Tuple renaming tupleExact->gn,tupleItemsOf->vz
open PySem.Calls renaming evalArgs_plain->vf,Name_function_global->yj,call_function_entry->zy,callWith_builtin->Bs,spliced_cons->Cy
open PySem.Challenge renaming pw_nearorders_k05_spans_of_rows->ae
open PySem.Code renaming quiet_builtin->wm
open PySem.EntryCells renaming newEntry->Bb
open PySem.F renaming args_tuple_add_2->rg,entry_tuple_add->sf,plainAttrs_list->si,slot_tuple_add->tq,args_tuple_getitem_2->xi,entry_tuple_getitem->xu,excBase_ValueError->ye,slot_tuple_index->yt
open PySem.Heap renaming get?_push_of_some->aj,lt_size->ar,get?_push_size->ax,size_push->fq,SameBut->je,get?_update_ne->jo,get?_update_self->jx,get?_update_other->kv,ExtBut->Cu
open PySem.Heap.IsSliceOf renaming new->yh
open PySem.Heap.SameBut renaming update->ph,refl->ve
open PySem.IsL renaming update->Ce
open PySem.NameKind renaming free->cb,cell->dy
open PySem.Obj renaming mapSeq->ou,data_mapFields->wo,isFreed_of_fields->Ct
open PySem.PassesOwn renaming leaving->Bx
open PySem.SeqAt renaming EqAt->vv,RcAt->De
open PySem.SeqAt.EqAt renaming same->sh,int_str->uy,str_int->uz,int_int->vc,none_tuple->yo,bool_tuple->yq,none_bool->zc,none_list->ze,bool_none->zg,bool_bool->zi,bool_list->zk,int_tuple->zm,str_tuple->zt,none_int->Ag,none_str->Ai,bool_int->Ak,bool_str->Am,int_none->Ao,int_bool->Aq,int_list->Au,str_none->Aw,str_bool->Ay,str_list->Ba,str_str->Bm,of_refs->Bn
open PySem.SeqAt.RcAt renaming none_tuple->yn,bool_tuple->yp,none_none->yz,none_bool->zb,none_list->zd,bool_none->zf,bool_bool->zh,bool_list->zj,int_tuple->zl,str_tuple->zq,none_int->Af,none_str->Ah,bool_int->Aj,bool_str->Al,int_none->An,int_bool->Ap,int_list->As,str_none->Av,str_bool->Ax,str_list->Az,int_int->Bi,int_str->Bj,str_int->Bk,str_str->Bl
open PySem.SetTable renaming insertAt->jk,turns->ui,below->uj,sizeAbove->Ca
open PySem.Shared renaming TypeIs->pj
open PySem.Str renaming ofString->lh
open PySem.Value renaming ref->ij,none->ju,isInt_shape->pb,builtin->vn,type->vq,bool->Cw
open PySem.W renaming Frag->aq,kitOne->di,subIn->jy,kla_obj->kq,keepIn->mn,CodeHd->mw,envX->oz,fnOf->qg,kla_fn->qp,tabObj->ur,excIn->vh,methodObj->vt,nsIn->wc,codeIn->yd,kitCls->yf,cellsFrom_some->Ac,hideAll_size->Bq,hideAll_none->Br,hideAll_get->Bu,of_hideAll->Cc,callWith_K->Cd
open PySem.Walks renaming list->we
open PySem.pickOrder renaming go->yv
open Sum renaming inl->xc,inr->xf
set_option Elab.async false
set_option linter.all false
set_option maxRecDepth 100000
set_option maxHeartbeats 4000000
namespace L2.Mr
open PySem PySem.Spec PySem.Calls PyProof.Rows PySem.W
def PH (o:Obj):Bool:=match o.cls,o.data with
 | .none,.fields _=>false
 |_,_=>true
def nQ (h:cu):List ai->Frag
 | []=>[]
 |a::as=>match h.get? a with
  |some o=>match PH o with
   |true=>(a,o)::nQ h as
   |false=>nQ h as
  |none=>nQ h as
def sL (h:cu):Frag:=nQ h (bf h.objs.size)
theorem vJ (h:cu):∀as,(nQ h as).In h
 | [],_,_,e=>nomatch e
 |a::as,b,o,e=>by
  unfold nQ at e
  split at e
  ·rename_i o' q
   split at e
   ·rw[ja]at e
    cases z:b==a with
    |true=>rw[z]at e;cases e;rw[eq_of_beq z];exact q
    |false=>rw[z]at e;exact vJ h as b o e
   ·exact vJ h as b o e
  ·exact vJ h as b o e
theorem vK (h:cu):∀as,noTabs (nQ h as)=true
 | []=>rfl
 |a::as=>by
  unfold nQ
  split
  ·split
   ·rename_i q;show(_&&_)=true;rw[cw];refine⟨?_,vK h as⟩;exact q
   ·exact vK h as
  ·exact vK h as
def cH (K:Frag) (f:ai):Option bo:=match K.lookup f with
 |some o=>match o.data with
  | .func fd=>some { fd with kwdefaults:=.none,doc:=.none,pyModule:=.none,annotations:=none,closureTuple:=.none }
  |_=>none
 |none=>none
theorem PJ {K:Frag}{f:ai}{n q:Str}{A:ni}{B:List gz}{S:iq}{dV cd:af}(h:cH K f=some (fnOf n q A B S dV .none .none .none none cd .none)):
  ∃(oc:af) (od:Option ai) (kV dc pm:af) (an:Option ai) (ct:af) (sl:Array (Option af)),K.lookup f=some ⟨oc,od,.func (fnOf n q A B S dV kV dc pm an cd ct),sl⟩:=by
 unfold cH at h
 split at h
 ·rename_i o e
  split at h
  ·rename_i fd q;obtain⟨oc,od,dt,sl⟩:=o;cases fd;simp only[Bf,FuncData.mk.injEq]at h;obtain⟨rfl,rfl,rfl,rfl,rfl,rfl,rfl,rfl,_,_,_,_,rfl,_,rfl⟩:=h;simp only at q;subst q;exact⟨_,_,_,_,_,_,_,_,e⟩
  ·cases h
 ·cases h
theorem nS {F:List (Frag->Bool)}{K:Frag}(h:F.all (λf=>f K)=true) (i:Nat) {f:Frag->Bool}(e:F[i]?=some f):f K=true:=fj.mp h f (bx e)
theorem PK {l m:List (Option bo)}(h:l=m) (i:Nat) {a b:Option bo}(e:l[i]?=some a) (e':m[i]?=some b):a=b:=by subst h;rw[e]at e';exact cq e'
def vL (K:Frag) (q:ai):Bool:=match K.lookup q with
 |some ⟨_,_,.cls _,_⟩=>true
 |_=>false
theorem F5 {K:Frag}{q:ai}(h:vL K q=true):∃lo ld lc ls,K.lookup q=some ⟨lo,ld,.cls lc,ls⟩:=by
 unfold vL at h
 split at h
 ·exact⟨_,_,_,_,by assumption⟩
 ·cases h
def zS (K:Frag) (n:Str) (v:Int):Bool:=match nsIn K dz n with
 |some (some (.int i _))=>i==v
 |_=>false
theorem PL {K:Frag}{n:Str}{v:Int}(h:zS K n v=true):∃t,nsIn K dz n=some (some (.int v t)):=by
 unfold zS at h
 split at h
 ·rename_i i t e;rw[eq_of_beq h]at e;exact⟨t,e⟩
 ·cases h
theorem zT (p:bh) (w:cn) (N:Nat) {α:Type}(f:ag->α):(openEnds treeTable p w N).map f=(((Fast.tw10274390034422433532 Fast.tw14364793385576792824 (opening p) w N (PySem.start (opening p)).1 (PySem.start (opening p)).2).bind (Fast.tw14289696077712309145 p)).bind λs₀=>match s₀.heap.isNs dz&&s₀.gens.size==0 with
 |true=>(Fast.tw14082659384304107361 Fast.tw14364793385576792824 p w s₀.heap.objs.size (s₀.heap.nsMap dz "__annotations__") N s₀ (topStub p)).bind λs₁=>match staticsOk (importedModules p.main.body) s₀.heap s₁.heap&&namesBound p s₁.heap&&gensDone s₁&&laidKept s₀.heap s₁.heap with
   |true=>some s₁
   |false=>none
 |false=>none).map f:=by
 rw[<-Fast.te10274390034422433532,<-Fast.te14364793385576792824,<-Fast.te14289696077712309145,<-Fast.te14082659384304107361];rfl
abbrev F6:List af:=[.type "ValueError",.type "Exception",.type "BaseException",.type "object"]
def PM (s:gz) (cd:ai):Option bo:=match s with
 | .FunctionDef n a b _ _ _ sc _ _ _=>some (fnOf n n a b sc .none .none .none .none none (.ref cd) .none)
 |_=>none
def fE (p:bh) (i:Nat) (cd:ai):Option bo:=PM (p.main.body.getD i (.Pass ⟨0,0,0,0⟩)) cd
def nR (K:Frag) (n:Str) (a:ai):Bool:=decide (nsIn K dz n=some (some (.ref a)))
def nN (K:Frag) (n:Str):Bool:=decide (nsIn K dz n=some none)
def sI (K:Frag) (a b:af) (v:Bool):Bool:=decide (subIn K a b=some v)
def kI (K:Frag) (a b:ai) (v:Bool):Bool:=decide (kitOne K (.ref a) (.ref b)=some v)
theorem dA {F:List (Frag->Bool)}{K:Frag}(h:F.all (λf=>f K)=true) (i:Nat) {g:Frag->Prop}[∀K,Decidable (g K)] (e:F[i]?=some (λK=>decide (g K))):g K:=of_decide_eq_true (nS h i e)
end L2.Mr
namespace L2.Mr.K05
open PySem PySem.Spec PySem.Calls PySem.W PyProof.Rows L2.Mr
def vw:bh:={ ae with main:={ ae.main with body:=List.filterMap (λi=>ae.main.body[i]?) [1,2,3,4,5,6,7,8,9,10,11,12,14,15,16,18,19,20,21,22,23,24,25,26,27,28,30,31,32,33,34,35,37,38,39,40,41,42,43,44,45,46,47,48,49,50,51,52] } }
def Xw:ag->Bool:=λs=>xlAt vw [] s&&recOk (RowW.records (OpenRow.toRowW PySem.Challenge.rw_nearorders_k05_spans_of_rows.row)) s
def obF:List (Frag->Bool):=[(nR · "is_whole" 166),(nR · "is_between" 173),(nR · "is_rising" 178),(nR · "is_thing" 185),(nR · "are_things" 190),(nR · "is_pair" 197),(nR · "are_pairs" 202),(nR · "has_alike" 207),(nR · "is_complete" 212),(nR · "is_order" 219),(nR · "need_order" 226),(nR · "are_loose" 233),(nR · "loose_pairs" 238),(nR · "is_row" 243),(nR · "need_row" 250),(nR · "apart" 257),(nR · "greatest_apart" 262),(nR · "span_of" 269),(nR · "farthest" 276),(nR · "_law_cell_at" 283),(nR · "_law_state" 290),(nR · "_law_take" 297),(nR · "_law_mixed_row" 304),(nR · "_law_closed" 309),(nR · "_law_order" 314),(nR · "_law_loose" 321),(nR · "_law_span" 326),(nR · "_law_whole" 333),(nR · "_law_is_row" 338),(nR · "_law_some_row" 343),(nR · "_law_bent_row" 350),(nR · "_law_bad_order" 357),(nR · "_law_same" 362),(nR · "_law_refused" 367),(nR · "law" 372),(nR · "NoOrder" 37),(nR · "NoNumber" 49),(nR · "NoPairs" 61),(nR · "Round" 73),(nR · "NoThing" 85),(nR · "NoRow" 97),(nR · "TooMany" 109),(nR · "TooFew" 121),(nR · "NoText" 133),(nR · "NoLine" 145),(nR · "NoDeed" 157),(nR · "NearError" 24),(nN · "ValueError"),(nN · "abs"),(nN · "all"),(nN · "any"),(nN · "bool"),(nN · "int"),(nN · "isinstance"),(nN · "len"),(nN · "list"),(nN · "max"),(nN · "min"),(nN · "range"),(nN · "set"),(nN · "sorted"),(nN · "tuple"),(nN · "zip"),(codeIn · (.ref 165) "is_whole"),(codeIn · (.ref 172) "is_between"),(codeIn · (.ref 177) "is_rising"),(codeIn · (.ref 184) "is_thing"),(codeIn · (.ref 189) "are_things"),(codeIn · (.ref 196) "is_pair"),(codeIn · (.ref 201) "are_pairs"),(codeIn · (.ref 206) "has_alike"),(codeIn · (.ref 211) "is_complete"),(codeIn · (.ref 218) "is_order"),(codeIn · (.ref 225) "need_order"),(codeIn · (.ref 232) "are_loose"),(codeIn · (.ref 237) "loose_pairs"),(codeIn · (.ref 242) "is_row"),(codeIn · (.ref 249) "need_row"),(codeIn · (.ref 256) "apart"),(codeIn · (.ref 261) "greatest_apart"),(codeIn · (.ref 268) "span_of"),(codeIn · (.ref 275) "farthest"),(codeIn · (.ref 282) "_law_cell_at"),(codeIn · (.ref 289) "_law_state"),(codeIn · (.ref 296) "_law_take"),(codeIn · (.ref 303) "_law_mixed_row"),(codeIn · (.ref 308) "_law_closed"),(codeIn · (.ref 313) "_law_order"),(codeIn · (.ref 320) "_law_loose"),(codeIn · (.ref 325) "_law_span"),(codeIn · (.ref 332) "_law_whole"),(codeIn · (.ref 337) "_law_is_row"),(codeIn · (.ref 342) "_law_some_row"),(codeIn · (.ref 349) "_law_bent_row"),(codeIn · (.ref 356) "_law_bad_order"),(codeIn · (.ref 361) "_law_same"),(codeIn · (.ref 366) "_law_refused"),(codeIn · (.ref 371) "law"),(keepIn · (.ref 166)),(keepIn · (.ref 173)),(keepIn · (.ref 178)),(keepIn · (.ref 185)),(keepIn · (.ref 190)),(keepIn · (.ref 197)),(keepIn · (.ref 202)),(keepIn · (.ref 207)),(keepIn · (.ref 212)),(keepIn · (.ref 219)),(keepIn · (.ref 226)),(keepIn · (.ref 233)),(keepIn · (.ref 238)),(keepIn · (.ref 243)),(keepIn · (.ref 250)),(keepIn · (.ref 257)),(keepIn · (.ref 262)),(keepIn · (.ref 269)),(keepIn · (.ref 276)),(keepIn · (.ref 283)),(keepIn · (.ref 290)),(keepIn · (.ref 297)),(keepIn · (.ref 304)),(keepIn · (.ref 309)),(keepIn · (.ref 314)),(keepIn · (.ref 321)),(keepIn · (.ref 326)),(keepIn · (.ref 333)),(keepIn · (.ref 338)),(keepIn · (.ref 343)),(keepIn · (.ref 350)),(keepIn · (.ref 357)),(keepIn · (.ref 362)),(keepIn · (.ref 367)),(keepIn · (.ref 372)),(zS · "MOST_THINGS" 6),λK=>decide (tabIn K "law" = some (371,369)),(sI · (.ref 37) (.ref 24) true),(sI · (.ref 49) (.ref 24) true),(sI · (.ref 61) (.ref 24) true),(sI · (.ref 73) (.ref 24) true),(sI · (.ref 85) (.ref 24) true),(sI · (.ref 97) (.ref 24) true),(sI · (.ref 109) (.ref 24) true),(sI · (.ref 121) (.ref 24) true),(sI · (.ref 133) (.ref 24) true),(sI · (.ref 145) (.ref 24) true),(sI · (.ref 157) (.ref 24) true),(kI · 37 37 true),(kI · 37 49 false),(kI · 37 61 false),(kI · 37 73 false),(kI · 37 85 false),(kI · 37 97 false),(kI · 37 109 false),(kI · 37 121 false),(kI · 37 133 false),(kI · 37 145 false),(kI · 37 157 false),(kI · 97 37 false),(kI · 97 49 false),(kI · 97 61 false),(kI · 97 73 false),(kI · 97 85 false),(kI · 97 97 true),(kI · 97 109 false),(kI · 97 121 false),(kI · 97 133 false),(kI · 97 145 false),(kI · 97 157 false),λK=>decide (findIn K (.ref 37) "__getattribute__" = some (some (.builtin "BaseException.__getattribute__"))),λK=>decide (findIn K (.ref 37) "__getattr__" = some none),λK=>decide (findIn K (.ref 37) "__class__" = some (some (.builtin "object.__class__"))),λK=>decide (mroIn K 37 (.type "object")=some true),(sI · (.ref 37) (.type "BaseException") true),λK=>decide (kitCls K (.ref 37) (.ref 37)=some true),(vL · 37),λK=>decide (findIn K (.ref 97) "__getattribute__" = some (some (.builtin "BaseException.__getattribute__"))),λK=>decide (findIn K (.ref 97) "__getattr__" = some none),λK=>decide (findIn K (.ref 97) "__class__" = some (some (.builtin "object.__class__"))),λK=>decide (mroIn K 97 (.type "object")=some true),(sI · (.ref 97) (.type "BaseException") true),λK=>decide (kitCls K (.ref 97) (.ref 97)=some true),(vL · 97),(excIn · 37 F6 "ValueError.__new__"),(excIn · 97 F6 "ValueError.__new__"),λK=>decide (kitOne K (.ref 37) (.type "ValueError")=some true),λK=>decide (kitOne K (.ref 97) (.type "ValueError")=some true),(sI · (.ref 24) (.type "BaseException") true),(sI · (.type "type") (.type "tuple") false),λK=>decide (kitCls K (.ref 24) (.ref 24)=some true)]
def zU (K:Frag):List (Option bo):=[cH K 166,cH K 173,cH K 178,cH K 185,cH K 190,cH K 197,cH K 202,cH K 207,cH K 212,cH K 219,cH K 226,cH K 233,cH K 238,cH K 243,cH K 250,cH K 257,cH K 262,cH K 269,cH K 276,cH K 283,cH K 290,cH K 297,cH K 304,cH K 309,cH K 314,cH K 321,cH K 326,cH K 333,cH K 338,cH K 343,cH K 350,cH K 357,cH K 362,cH K 367,cH K 372]
def zV:List (Option bo):=[fE ae 14 165,fE ae 15 172,fE ae 16 177,fE ae 19 184,fE ae 20 189,fE ae 21 196,fE ae 22 201,fE ae 23 206,fE ae 24 211,fE ae 25 218,fE ae 26 225,fE ae 27 232,fE ae 28 237,fE ae 30 242,fE ae 31 249,fE ae 32 256,fE ae 33 261,fE ae 34 268,fE ae 35 275,fE ae 37 282,fE ae 38 289,fE ae 39 296,fE ae 40 303,fE ae 41 308,fE ae 42 313,fE ae 43 320,fE ae 44 325,fE ae 45 332,fE ae 46 337,fE ae 47 342,fE ae 48 349,fE ae 49 356,fE ae 50 361,fE ae 51 366,fE ae 52 371]
def ob (K:Frag):Bool×List (Option bo):=(obF.all (λf=>f K),zU K)
abbrev obE:Bool×List (Option bo):=(true,zV)
theorem F7 {α β γ:Type}{o:Option α}{f:α->β}{g:α->γ}{a:β}{b:γ}(h1:o.map f=some a) (h2:o.map g=some b):o.map (λs=>(f s,g s))=some (a,b):=by
 cases o with
 |none=>cases h1
 |some s=>cases h1;cases h2;rfl
theorem PN (w:cn):(openEnds treeTable ae w 8000).map (λs=>openSeen vw [] (importedModules (ae).main.body) Xw true s)=some (openGood vw []):=by rw[zT,Fast.te4187177175401517315];kernel_rfl
theorem PQ (w:cn):(openEnds treeTable ae w 8000).map (λs=>obF.all (λf=>f (sL s.heap)))=some true:=by rw[zT];kernel_rfl
theorem PR (w:cn):(openEnds treeTable ae w 8000).map (λs=>zU (sL s.heap))=some zV:=by rw[zT];kernel_rfl
theorem left:LeftO ae vw [] Xw (λs=>ob (sL s.heap)) (λ_=>obE) 8000:=λw=>F7 (PN w) (F7 (PQ w) (PR w))
end L2.Mr.K05
namespace L2
open PySem PySem.Spec PyProof.Rows
abbrev gZ:=Sum Int Str
def F8:gZ->af->Bool
 | .inl k,v=>Value.isInt k v
 | .inr x,v=>Value.isStrOf x v
def PV (w:cn):gZ->Int
 | .inl k=>hashInt k
 | .inr x=>hashStr w x
theorem mH:∀{k:gZ}{v:af},F8 k v=true->(∃i t,k=xc i/\v=Value.int i t)∨(∃x t,k=xf x/\v=Value.str x t)
 | .inl i,v,h=>by obtain⟨t,e⟩:=pb (k:=i) (v:=v) h;exact .inl ⟨i,t,rfl,e⟩
 | .inr x,v,h=>by obtain⟨t,e⟩:=Value.isStrOf_shape (x:=x) (v:=v) h;exact .inr ⟨x,t,rfl,e⟩
theorem PX (a b:Int):decide ((xc a:gZ)=xc b)=(a==b):=by
 by_cases e:a=b
 ·subst e;simp
 ·have h:¬ (xc a:gZ)=xc b:=λq=>e (Sum.inl.inj q);rw[decide_eq_false h];exact(beq_eq_false_iff_ne.mpr e).symm
theorem PY (a b:Str):decide ((xf a:gZ)=xf b)=decide (a=b):=by
 by_cases e:a=b
 ·subst e;simp
 ·have h:¬ (xf a:gZ)=xf b:=λq=>e (Sum.inr.inj q);rw[decide_eq_false h,decide_eq_false e]
theorem PZ (a:Int) (b:Str):decide ((xc a:gZ)=xf b)=false:=decide_eq_false (λq=>nomatch q)
theorem P0 (a:Str) (b:Int):decide ((xf a:gZ)=xc b)=false:=decide_eq_false (λq=>nomatch q)
def zW (prog:bh) (w:cn):PySem.KeyKind prog w gZ where
 is:=F8
 hash:=PV w
 inj:=λv a b ha hb=>by
  rcases mH ha with⟨i,t,rfl,rfl⟩|⟨x,t,rfl,rfl⟩
  ·rcases mH hb with⟨j,u,rfl,e⟩|⟨y,u,rfl,e⟩
   ·injection e with e1 _;rw[e1]
   ·exact nomatch e
  ·rcases mH hb with⟨j,u,rfl,e⟩|⟨y,u,rfl,e⟩
   ·exact nomatch e
   ·injection e with e1 _;rw[e1]
 byValue:=λk v h=>by rcases mH h with⟨i,t,rfl,rfl⟩|⟨x,t,rfl,rfl⟩ <;> rfl
 pyHash:=λhv h=>by
  rcases mH hv with⟨i,t,rfl,rfl⟩|⟨x,t,rfl,rfl⟩
  ·exact wpAny_pyHash_int h
  ·exact wpAny_pyHash_str h
 eqBool:=λhu hv h=>by
  rcases mH hu with⟨i,t,rfl,rfl⟩|⟨x,t,rfl,rfl⟩
  ·rcases mH hv with⟨j,u,rfl,rfl⟩|⟨y,u,rfl,rfl⟩
   ·rw[PX]at h;exact Aa h
   ·rw[PZ]at h;exact uy i t y u _ _ _ _ h
  ·rcases mH hv with⟨j,u,rfl,rfl⟩|⟨y,u,rfl,rfl⟩
   ·rw[P0]at h;exact uz x t j u _ _ _ _ h
   ·rw[PY]at h;exact wpAny_eqBool_str h
 «strs»:=λk x t v h=>by
  rcases mH h with⟨i,u,rfl,e⟩|⟨y,u,rfl,e⟩
  ·exact nomatch e
  ·injection e with e1 _;subst e1
   cases v <;> rfl
inductive V where
 |non|bl (b:Bool)|int (i:Int)|str (x:Str)|byt (b:Array UInt8)|flt (b:UInt64)|ref (a:ai)|ty (n:String)
 deriving DecidableEq
def RelV:V->af->Prop
 | .non,u=>u=ju
 | .bl b,u=>u=Cw b
 | .int i,u=>∃t,u=Value.int i t
 | .str x,u=>∃t,u=Value.str x t
 | .byt b,u=>∃t,u=Value.bytes b t
 | .flt b,u=>∃t,u=Value.float b t
 | .ref a,u=>u=ij a
 | .ty n,u=>u=vq n
abbrev Vals:List V->List af->Prop:=Paired RelV
theorem Vals.length {xs:List V}{us:List af}(r:Vals xs us):xs.length=us.length:=Paired.length r
theorem Vals.get:∀{xs:List V}{us:List af}{i:Nat}{x:V},Vals xs us->xs[i]?=some x->∃u,us[i]?=some u/\RelV x u
 |_,_,_,_,.nil,e=>by simp at e
 |_,_,0,_,.cons r _,e=>by simp at e;subst e;exact⟨_,rfl,r⟩
 |_,_,i+1,x,.cons _ t,e=>by obtain⟨u,h1,h2⟩:=Vals.get (i:=i) (x:=x) t (by simpa using e);exact⟨u,by simpa using h1,h2⟩
theorem Vals.set {x:V}{u:af}(r:RelV x u):∀{xs:List V}{us:List af}(i:Nat),Vals xs us->Vals (xs.set i x) (us.set i u)
 |_,_,_,.nil=>.nil
 |_,_,0,.cons _ t=>.cons r t
 |_,_,i+1,.cons q t=>.cons q (Vals.set r i t)
theorem Vals.append:∀{xs ys:List V}{us ws:List af},Vals xs us->Vals ys ws->Vals (xs++ys) (us++ws)
 |_,_,_,_,.nil,s=>s
 |_,_,_,_,.cons r t,s=>.cons r (Vals.append t s)
theorem Vals.take:∀{xs:List V}{us:List af}(n:Nat),Vals xs us->Vals (xs.take n) (us.take n)
 |_,_,0,_=>.nil
 |_,_,_+1,.nil=>.nil
 |_,_,n+1,.cons r t=>.cons r (Vals.take n t)
theorem Vals.drop:∀{xs:List V}{us:List af}(n:Nat),Vals xs us->Vals (xs.drop n) (us.drop n)
 |_,_,0,r=>r
 |_,_,_+1,.nil=>.nil
 |_,_,n+1,.cons _ t=>Vals.drop n t
def F9:Option V->Option af->Prop
 |some v,some u=>RelV v u
 |none,none=>True
 |_,_=>False
def KV {κ:Type}:List (κ×V)->List (κ×af)->Prop:=Paired λ(p:κ×V) (q:κ×af)=>p.1=q.1/\RelV p.2 q.2
def kV:gZ->V
 | .inl i=>.int i
 | .inr x=>.str x
inductive HO where
 |lst (xs:List V)
 |tup (xs:List V)
 |dK (kvs:List (gZ×V))|dT (kvs:List (List gZ×V))
 |set (S:Int->Bool) (n:Nat)
 |ins (C dx:ai) (fs:List (Str×V))
 |own (x:ai)
 |xd (fs:List (Str×V))
 |met (f x:ai)
 |rng (lo hi:Int)
 |frz (o:Obj) (u:HO)
 |tbl (ps:Array af)
 |ext (φ:cu->Prop)
abbrev Hp:=ai->Option HO
def upd (H:Hp) (a:ai) (o:HO):Hp:=λb=>if b=a then some o else H b
theorem cK {H:Hp}{a:ai}{o:HO}:upd H a o a=some o:=by unfold upd;rw[if_pos rfl]
theorem bP {H:Hp}{a b:ai}{o:HO}(h:b≠a):upd H a o b=H b:=by unfold upd;rw[if_neg h]
theorem nU {H:Hp}{a b:ai}{o u:HO}(h:H a=some o) (h':H b=some u) (d:o≠u):a≠b:=by intro e;subst e;rw[h]at h';exact d (cq h')
theorem fO {H:Hp}{a b:ai}{o:HO}(h:H a=some o) (h':H b=none):a≠b:=by intro e;subst e;rw[h]at h';cases h'
def IsTupX (h:cu) (a:ai) (items:Array af):Prop:=∃o,h.get? a=some o/\o.cls=.type "tuple"/\o.dict=none/\∃n,o.data=.seq items n
theorem IsTupX.tup {h:cu}{a:ai}{items:Array af}(x:IsTupX h a items):yi h a items:=let ⟨o,e,c,_,d⟩:=x;⟨o,e,c,d⟩
theorem IsTupX.lt {h:cu}{a:ai}{items:Array af}(x:IsTupX h a items):a<h.objs.size:=let ⟨_,e,_⟩:=x;ar e
theorem IsTupX.new (h:cu) (items:Array af):IsTupX (h.push { cls:=.type "tuple",data:=.seq items }) h.objs.size items:=⟨_,ax _ rfl,rfl,rfl,_,rfl⟩
section
variable(P:bh) (w:cn)
def ObjOk (H:Hp) (h:cu) (a:ai):HO->Prop
 | .lst xs=>xs.length<=bw/\∃(its:List af) (n:Nat),Vals xs its/\h.get? a=some { cls:=.type "list",data:=.seq its.toArray n }
 | .tup xs=>xs.length<=bw/\∃its:List af,Vals xs its/\IsTupX h a its.toArray
 | .dK kvs=>kvs.length<=bw/\(a==sysModules)=false/\∃vs,KV kvs vs/\h.DictOf (zW P w) a vs
 | .dT kvs=>kvs.length<=bw/\(a==sysModules)=false/\∃xs:List (List gZ×ai×af),
   Paired (λ(p:List gZ×V) (q:List gZ×ai×af)=>p.1=q.1/\H q.2.1=some (.tup (p.1.map kV))/\RelV p.2 q.2.2) kvs xs /\
   ∃o es ep,h.get? a=some o/\o.ExactDict/\o.data=.dict es ep/\es.toList=xs.map (entryOfKey (tupleKind (zW P w)))/\(xs.map (·.1)).Nodup
 | .set S n=>h.SetOf (intKind P w) a S n
 | .ins C dx fs=>H dx=some (.own a)/\fs.length<=1000/\dx≠a/\h.get? a=some (PySem.W.instObj C dx) /\
   ∃mA,h.Ns1 dx mA/\(∀f,F9 (fs.lookup f) (mA f))/\PySem.Within mA (fs.map (·.1))
 | .own _=>∃o,h.get? a=some o
 | .xd fs=>∃mA,h.Ns1 a mA/\∀f,F9 (fs.lookup f) (mA f)
 | .rng lo hi=>∃t u v,h.get? a=some { cls:=.type "range",data:=.fields #[.int lo t,.int hi u,.int 1 v] }
 | .frz o u=>h.get? a=some o/\ObjOk H h a u
 | .tbl ps=>h.get? a=some { cls:=.none,data:=.fields ps }
 | .met f x=>h.get? a=some (vt (.ref f) (.ref x))
 | .ext φ=>φ h/\(∃o,h.get? a=some o)/\∀h1 h2:cu,φ h1->(∀o,h1.get? a=some o->h2.get? a=some o)->φ h2
def HOk (H:Hp) (h:cu):Prop:=∀a o,H a=some o->ObjOk P w H h a o
end
section
variable{P:bh}{w:cn}{H H':Hp}{h h':cu}{a:ai}{o:HO}
theorem ObjOk.lt (x:ObjOk P w H h a o):a<h.objs.size:=by
 cases o with
 |lst xs=>obtain⟨_,_,_,_,e⟩:=x;exact ar e
 |tup xs=>obtain⟨_,_,_,p⟩:=x;exact p.lt
 |dK kvs=>obtain⟨_,_,_,_,o,_,_,e,_⟩:=x;exact ar e
 |dT kvs=>obtain⟨_,_,_,_,o,_,_,e,_⟩:=x;exact ar e
 |set S n=>obtain⟨o,_,_,_,e,_⟩:=x;exact ar e
 |ins C dx fs=>obtain⟨_,_,_,e,_⟩:=x;exact ar e
 |own y=>obtain⟨_,e⟩:=x;exact ar e
 |xd fs=>obtain⟨_,⟨_,_,_,e,_⟩,_⟩:=x;exact ar e
 |rng lo hi=>obtain⟨_,_,_,e⟩:=x;exact ar e
 |frz ob u=>obtain⟨e,_⟩:=x;exact ar e
 |tbl ps=>exact ar (show h.get? a=some _ from x)
 |met f y=>exact ar (show h.get? a=some _ from x)
 |ext φ=>obtain⟨_,⟨_,e⟩,_⟩:=x;exact ar e
theorem Paired.mapP {α β:Type}{F G:α->β->Prop}:∀{l₁:List α}{l₂:List β},Paired F l₁ l₂->(∀a b,F a b->G a b)->Paired G l₁ l₂
 |_,_,.nil,_=>.nil
 |_,_,.cons r t,f=>.cons (f _ _ r) (Paired.mapP t f)
theorem ObjOk.stay (x:ObjOk P w H h a o) (k:∀b u,(b=a∨H b=some (.own a))->h.get? b=some u->h'.get? b=some u)
  (ho:∀b,H b=some (.own a)->H' b=some (.own a)) (ht:∀b xs,H b=some (.tup xs)->H' b=some (.tup xs)):ObjOk P w H' h' a o:=by
 induction o with
 |lst xs=>obtain⟨z,its,n,r,e⟩:=x;exact⟨z,its,n,r,k _ _ (.inl rfl) e⟩
 |tup xs=>obtain⟨z,its,r,ob,e,c⟩:=x;exact⟨z,its,r,ob,k _ _ (.inl rfl) e,c⟩
 |dK kvs=>obtain⟨z,y,vs,r,ob,es,ep,e,c⟩:=x;exact⟨z,y,vs,r,ob,es,ep,k _ _ (.inl rfl) e,c⟩
 |dT kvs=>obtain⟨z,y,xs,r,ob,es,ep,e,c⟩:=x;exact⟨z,y,xs,Paired.mapP r λp q z=>⟨z.1,ht _ _ z.2.1,z.2.2⟩,ob,es,ep,k _ _ (.inl rfl) e,c⟩
 |set S n=>obtain⟨ob,es,ep,t,e,c⟩:=x;exact⟨ob,es,ep,t,k _ _ (.inl rfl) e,c⟩
 |ins C dx fs=>obtain⟨d,z,ne,e,mA,⟨od,es,ep,e2,c⟩,r⟩:=x;exact⟨ho _ d,z,ne,k _ _ (.inl rfl) e,mA,⟨od,es,ep,k _ _ (.inr d) e2,c⟩,r⟩
 |own y=>obtain⟨ob,e⟩:=x;exact⟨ob,k _ _ (.inl rfl) e⟩
 |xd fs=>obtain⟨mA,⟨od,es,ep,e,c⟩,r⟩:=x;exact⟨mA,⟨od,es,ep,k _ _ (.inl rfl) e,c⟩,r⟩
 |rng lo hi=>obtain⟨t,u,v,e⟩:=x;exact⟨t,u,v,k _ _ (.inl rfl) e⟩
 |frz ob u ih=>obtain⟨e,q⟩:=x;exact⟨k _ _ (.inl rfl) e,ih q⟩
 |tbl ps=>have e:h.get? a=some { cls:=.none,data:=.fields ps }:=x;show h'.get? a=some { cls:=.none,data:=.fields ps };exact k a _ (.inl rfl) e
 |met f y=>have e:h.get? a=some (vt (.ref f) (.ref y)):=x;show h'.get? a=some (vt (.ref f) (.ref y));exact k a _ (.inl rfl) e
 |ext φ=>obtain⟨p,⟨o,e⟩,st⟩:=x;exact⟨st _ _ p λo q=>k _ _ (.inl rfl) q,⟨o,k _ _ (.inl rfl) e⟩,st⟩
theorem HOk.lt (x:HOk P w H h) (e:H a=some o):a<h.objs.size:=(x a o e).lt
theorem HOk.fresh (x:HOk P w H h) (e:h.objs.size<=a):H a=none:=by
 cases q:H a with
 |none=>rfl
 |some u=>exact absurd (aw (x.lt q) e) (gy _)
theorem HOk.kept (x:HOk P w H h) (k:∀b u,h.get? b=some u->h'.get? b=some u):HOk P w H h':=λa o e=>(x a o e).stay (λb u _ q=>k b u q) (λ_ q=>q) λ_ _ q=>q
theorem HOk.laid (x:HOk P w H h) (k:∀b u,h.get? b=some u->h'.get? b=some u) (hp:h.objs.size<=a) (new:ObjOk P w (upd H a o) h' a o):HOk P w (upd H a o) h':=λb u e=>by
 have hn:=x.fresh hp
 by_cases hb:b=a
 ·subst hb;rw[cK]at e;cases e;exact new
 ·rw[bP hb]at e;exact(x b u e).stay (λc v _ q=>k c v q) (λc q=>by rw[bP (fO q hn)];exact q) λc xs q=>by rw[bP (fO q hn)];exact q
end
def Rd (H:Hp) (a:ai) (u:HO):Prop:=H a=some u∨∃o,H a=some (.frz o u)
theorem Rd.ok {P:bh}{w:cn}{H:Hp}{h:cu}{a:ai}{u:HO}(r:Rd H a u) (x:HOk P w H h):ObjOk P w H h a u:=by
 rcases r with r|⟨o,r⟩
 ·exact x a u r
 ·obtain⟨_,q⟩:=x a _ r;exact q
def vM:Option HO->Prop
 |some (.lst _)=>True
 |some (.dK _)=>True
 |some (.dT _)=>True
 |some (.set _ _)=>True
 |some (.ins _ _ _)=>True
 |some (.ext _)=>True
 |_=>False
section
variable{P:bh}{w:cn}{H:Hp}{h h':cu}{x e:ai}{o':HO}
theorem HOk.write (ok:HOk P w H h) (mu:vM (H x)) (he:e=x∨H e=some (.own x)) (k:∀b u,b≠e->h.get? b=some u->h'.get? b=some u) (heo:∃u,h'.get? e=some u)
  (new:ObjOk P w (upd H x o') h' x o'):HOk P w (upd H x o') h':=λb u q=>by
 have nown:∀c y,H c=some (.own y)->c≠x:=λc y r z=>by subst z;rw[r]at mu;exact mu
 have ntup:∀c xs,H c=some (.tup xs)->c≠x:=λc xs r z=>by subst z;rw[r]at mu;exact mu
 by_cases hb:b=x
 ·subst hb;rw[cK]at q;cases q;exact new
 ·rw[bP hb]at q
  by_cases hbe:b=e
  ·have q':H b=some (.own x):=by
    rcases he with z|z
    ·exact absurd (hbe.trans z) hb
    ·rw[hbe];exact z
   rw[q]at q';cases q';obtain⟨v,hv⟩:=heo;exact⟨v,by rw[hbe];exact hv⟩
  ·refine(ok b u q).stay (λc v hc r=>k c v ?_ r) (λc r=>by rw[bP (nown c b r)];exact r) λc xs r=>by rw[bP (ntup c xs r)];exact r
   rcases hc with rfl|hc
   ·exact hbe
   ·rintro rfl
    rcases he with z|z
    ·exact nown c b hc z
    ·rw[hc]at z;cases z;exact hb rfl
end
structure Un (fs ex:List ai) (H H':Hp) (h h':cu):Prop where
 keep:∀b o,h.get? b=some o->H b=none->b∉fs->b∉ex->h'.get? b=some o
 slot:∀b o,h.get? b=some o->H b=none->b∈fs->b∉ex->∃sl,h'.get? b=some { o with slots:=sl }
 free:∀b o,h.get? b=some o->H b=none->b∉ex->H' b=none
 there:∀b o,h.get? b=some o->b∉ex->∃o',h'.get? b=some o'
 tups:∀b xs,H b=some (.tup xs)->H' b=some (.tup xs)
 frzs:∀b o u,H b=some (.frz o u)->H' b=some (.frz o u)
 tbls:∀b ps,H b=some (.tbl ps)->∃more,H' b=some (.tbl (ps++more))
section
variable{fs fs' ex ex':List ai}{H H1 H2:Hp}{h h1 h2 h':cu}{a x e:ai}{o:HO}
theorem Un.any (u:Un fs ex H H1 h h1) {b:ai}{ob:Obj}(q:h.get? b=some ob) (n:H b=none) (hx:b∉ex):∃sl,h1.get? b=some { ob with slots:=sl }:=by
 by_cases hb:b∈fs
 ·exact u.slot b ob q n hb hx
 ·exact⟨ob.slots,u.keep b ob q n hb hx⟩
theorem Un.kept (k:∀b u,h.get? b=some u->h'.get? b=some u):Un fs ex H H h h':=⟨λb ob q _ _ _=>k b ob q,λb ob q _ _ _=>⟨ob.slots,k b ob q⟩,λ_ _ _ n _=>n,λb ob q _=>⟨ob,k b ob q⟩,λ_ _ q=>q,λ_ _ _ q=>q,λ_ ps q=>⟨#[],by rw[q];simp⟩⟩
theorem Un.refl:Un fs ex H H h h:=Un.kept λ_ _ q=>q
theorem Un.laid (k:∀b u,h.get? b=some u->h'.get? b=some u) (hp:h.objs.size<=a) (hn:H a=none):Un fs ex H (upd H a o) h h' where
 keep:=λb u q _ _ _=>k b u q
 slot:=λb u q _ _ _=>⟨u.slots,k b u q⟩
 free:=λb u q n _=>by rw[bP (az (aw (ar q) hp))];exact n
 there:=λb u q _=>⟨u,k b u q⟩
 tups:=λb xs q=>by rw[bP (fO q hn)];exact q
 frzs:=λb u xs q=>by rw[bP (fO q hn)];exact q
 tbls:=λb ps q=>⟨#[],by rw[bP (fO q hn),q];simp⟩
theorem Un.write (mu:vM (H x)) (he:e=x∨H e=some (.own x)) (k:∀b u,b≠e->h.get? b=some u->h'.get? b=some u) (heo:∃u,h'.get? e=some u):Un fs ex H (upd H x o) h h':=by
 have hx:∀b,H b=none->b≠x:=λb n z=>by subst z;rw[n]at mu;exact mu
 have hb:∀b,H b=none->b≠e:=λb n z=>by
  subst z
  rcases he with r|r
  ·exact hx b n r
  ·rw[n]at r;cases r
 have hm:∀b u,H b=some u->¬ vM (some u)->b≠x:=λb u q nm z=>by subst z;rw[q]at mu;exact nm mu
 refine⟨λb u q n _ _=>k b u (hb b n) q,λb u q n _ _=>⟨u.slots,k b u (hb b n) q⟩,λb u q n _=>by rw[bP (hx b n)];exact n,λb u q _=>?_,
  λb xs q=>by rw[bP (hm b _ q λz=>z)];exact q,λb u xs q=>by rw[bP (hm b _ q λz=>z)];exact q,λb ps q=>⟨#[],by rw[bP (hm b _ q λz=>z),q];simp⟩⟩
 by_cases hbe:b=e
 ·subst hbe;exact heo
 ·exact⟨u,k b u hbe q⟩
end
def vN (h:cu) (H:Hp):List ai:=(bf h.objs.size).filter λa=>(H a).isSome
def kC (h:cu) (H:Hp):cu:=PySem.W.hideAll h (vN h H)
theorem P4 (h:cu) (H:Hp):(kC h H).objs.size=h.objs.size:=Bq _ _
theorem P5 {h:cu}{H:Hp}{b:ai}{o:Obj}(e:h.get? b=some o) (n:H b=none):(kC h H).get? b=some o:=Bu _ e λhm=>by have q:(H b).isSome=true:=(gw.mp hm).2;rw[n]at q;simp at q
theorem P6 {h:cu}{H:Hp}{b:ai}{o:Obj}(e:(kC h H).get? b=some o):h.get? b=some o/\H b=none:=by
 have e':h.get? b=some o:=Cc (vN h H) e;refine⟨e', ?_⟩
 cases q:H b with
 |none=>rfl
 |some x=>have hm:b∈vN h H:=gw.mpr ⟨br.mpr (ar e'),by simp[q]⟩;have z:(kC h H).get? b=none:=Br (vN h H) hm;rw[z]at e;cases e
structure Mod (K:aq) (mg:Str->Option af) (base:cu):Prop where
 kin:K.In base
 glob:base.Ns dz mg
 blt:∃mb,base.Ns builtinsNs mb/\∀x:Str,x ≠ "__name__"->mb x=dw x
 nolimit:base.NoLimit
structure Cx where
 prog:bh
 w:cn
 K:aq
 mg:Str->Option af
 base:cu
 A:cf
 N:List Str
 s₀:ag
 H₀:Hp
 env:Env
 outer:List Env
 stack:List Env
 ex:List ai
 fn:Str->Bool
 calm:Bool
 pn:List (ai×Obj)
 xe:af->ag->Prop
def dH (l:List Env):List ai:=l.filterMap (·.frame)
abbrev Cx.fs (X:Cx):List ai:=dH X.outer
def qG (sc:iq) (x:Str):Prop:=sc.names.lookup x=some .local∨sc.names.lookup x=some .cell∨sc.names.lookup x=some .free
def kT (sc:iq) (x:Str):Prop:=sc.names.lookup x=some .local∨sc.names.lookup x=some .cell
def GA (env:Env) (h:cu) (m:Str->Option af) (x:Str) (u:af):Prop:=(env.kindOf x=some .local/\m x=some u)∨((env.kindOf x=some .cell∨env.kindOf x=some .free)/\∃c,env.cells.lookup x=some c/\h.IsCell c (some u))
structure Cx.Ok (X:Cx):Prop where
 mod:Mod X.K X.mg X.base
 kind:X.env.scope.kind=.function
 glob:X.env.globals=dz
 blt:X.env.builtins=builtinsNs
 above:X.s₀.heap.objs.size<=X.env.locals
 inj:∀x y c,X.env.cells.lookup x=some c->X.env.cells.lookup y=some c->x=y
 has:∀x,(X.env.kindOf x=some .cell∨X.env.kindOf x=some .free)->∃c,X.env.cells.lookup x=some c
 cab:∀x c,X.fn x=true->X.env.cells.lookup x=some c->X.s₀.heap.objs.size<=c
 hd:X.calm=true->X.A.handled=none
 frames:X.A.frames=some X.stack
 stk:X.stack=X.outer∨(X.stack=X.env::X.outer/\X.env.frame=some X.env.locals)
 exf:∀b∈X.ex,b≠X.env.locals/\∀x c,X.env.cells.lookup x=some c->c≠b
 bs:∀b o,X.base.get? b=some o->X.s₀.heap.get? b=some o/\X.H₀ b=none
 bsz:X.base.objs.size<=X.s₀.heap.objs.size
 noex:∀b o,X.base.get? b=some o->b∉X.ex
 exfs:∀b∈X.ex,b∉X.fs
 funs:X.s₀.heap.FunFrames X.base X.outer
 frf:∀b∈X.fs,X.H₀ b=none
structure Inv (X:Cx) (pins:List (ai×Obj)) (σ:List (Option V)) (H:Hp) (s:ag):Prop where
 ok:X.Ok
 os:s.os=X.s₀.os
 bare:uf s.gens
 base:Un X.fs X.ex X.H₀ H X.s₀.heap s.heap
 loc:∃m,s.heap.Ns X.env.locals m/\∀(i:Nat) (x:Str) (v:V),X.N[i]?=some x->σ[i]?=some (some v)->qG X.env.scope x->∃u,RelV v u/\GA X.env s.heap m x u
 cell:∀x c,X.env.cells.lookup x=some c->∃v,s.heap.IsCell c v
 free:H X.env.locals=none
 freeC:∀x c,X.env.cells.lookup x=some c->H c=none
 pin:∀p∈X.pn++pins,s.heap.get? p.1=some p.2/\H p.1=none/\p.1≠X.env.locals/\p.1∉X.fs/\∀v,p.2.data≠.cell v
 hok:HOk X.prog X.w H s.heap
 len:σ.length=X.N.length
section
variable{X:Cx}{pins:List (ai×Obj)}{σ:List (Option V)}{H H':Hp}{s:ag}{h':cu}
theorem Cx.Ok.nofr (ok:X.Ok) {b:ai}{o:Obj}(e:X.base.get? b=some o):b∉X.fs:=λhb=>by have:=(ok.funs.mem hb).1;rw[e]at this;cases this
theorem Inv.bs (I:Inv X pins σ H s):∀b o,X.base.get? b=some o->s.heap.get? b=some o/\H b=none:=λb o e=>⟨I.base.keep b o (I.ok.bs b o e).1 (I.ok.bs b o e).2 (I.ok.nofr e) (I.ok.noex b o e),I.base.free b o (I.ok.bs b o e).1 (I.ok.bs b o e).2 (I.ok.noex b o e)⟩
theorem Inv.bk (I:Inv X pins σ H s):∀b o,X.base.get? b=some o->s.heap.get? b=some o:=λb o e=>(I.bs b o e).1
theorem Inv.mod (I:Inv X pins σ H s):Mod X.K X.mg X.base:=I.ok.mod
theorem Inv.kIn (I:Inv X pins σ H s):X.K.In s.heap:=I.ok.mod.kin.keeps I.bk
theorem Inv.lt (I:Inv X pins σ H s):X.env.locals<s.heap.objs.size:=let ⟨_,hn,_⟩:=I.loc;hn.lt
theorem Inv.sz (I:Inv X pins σ H s):X.s₀.heap.objs.size<=s.heap.objs.size:=dm I.ok.above (ic I.lt)
theorem Inv.nofs (I:Inv X pins σ H s) {a:ai}(h:s.heap.objs.size<=a):a∉X.fs:=λhb=>by obtain⟨_,o,ho,_⟩:=I.ok.funs.mem hb;exact absurd (aw (ar ho) (dm I.sz h)) (gy _)
theorem Inv.cne (I:Inv X pins σ H s):∀x c,X.env.cells.lookup x=some c->c≠X.env.locals:=λx c e z=>by obtain⟨v,o,ho,hd⟩:=I.cell x c e;obtain⟨m,⟨o',es,ep,ho',hd',_⟩,_⟩:=I.loc;rw[z,ho']at ho;cases ho;rw[hd']at hd;cases hd
theorem Inv.funs (I:Inv X pins σ H s):s.heap.FunFrames X.base X.outer:=by
 have all:∀(l:List Env),(∀b∈dH l,b∈X.fs)->X.s₀.heap.FunFrames X.base l->s.heap.FunFrames X.base l:=by
  intro l
  induction l with
  |nil=>intro _ _;trivial
  |cons env r ih=>intro hs hl;obtain⟨hk,⟨L,o,hf,hn,ho,hd⟩,hr⟩:=hl;have hL:L∈X.fs:=hs L (by unfold dH;rw[bz,hf];exact bc);obtain⟨sl,e⟩:=I.base.slot L o ho (I.ok.frf L hL) hL λz=>I.ok.exfs L z hL;exact⟨hk,⟨L,_,hf,hn,e,hd⟩,ih (λb hb=>hs b (by unfold dH;rw[bz,hf];exact ao _ hb)) hr⟩
 exact all X.outer (λ_ hb=>hb) I.ok.funs
theorem Inv.stack (I:Inv X pins σ H s):s.heap.FunFrames X.base X.stack:=by
 rcases I.ok.stk with e|⟨e,hf⟩
 ·rw[e];exact I.funs
 ·rw[e];obtain⟨m,hn,_⟩:=I.loc;refine .cons (by rw[I.ok.kind];decide) hf hn ?_ I.funs;exact Heap.get?_none_of_le (dm I.ok.bsz I.ok.above)
theorem Inv.stkSub (I:Inv X pins σ H s):∀b∈dH X.stack,b∈X.env.locals::X.fs:=λb hb=>by
 rcases I.ok.stk with e|⟨e,hf⟩
 ·rw[e]at hb;exact ao _ hb
 ·rw[e]at hb;unfold dH at hb;rw[bz,hf]at hb;exact hb
theorem Inv.stkFree (I:Inv X pins σ H s):∀b∈dH X.stack,H b=none:=λb hb=>by
 rcases ay.mp (I.stkSub b hb)with e|hb
 ·rw[e];exact I.free
 ·obtain⟨_,o,ho,_⟩:=I.ok.funs.mem hb;exact I.base.free b o ho (I.ok.frf b hb) λz=>I.ok.exfs b z hb
theorem Inv.step {g':Array GenState}{t':Nat}{d':Drawn}{ch:List ai}(I:Inv X pins σ H s)
  (hch:∀b∈ch,(b∈X.ex∨X.s₀.heap.objs.size<=b)/\b≠X.env.locals/\(∀x c,X.env.cells.lookup x=some c->c≠b)/\∀p∈X.pn++pins,p.1≠b)
  (keep:∀b o,b≠X.env.locals->b∉X.fs->b∉ch->s.heap.get? b=some o->H b=none->h'.get? b=some o)
  (slot:∀b o,b≠X.env.locals->b∈X.fs->b∉ch->s.heap.get? b=some o->H b=none->∃sl,h'.get? b=some { o with slots:=sl }) (free:∀b o,b∉ch->s.heap.get? b=some o->H b=none->H' b=none)
  (there:∀b o,b∉ch->s.heap.get? b=some o->∃o',h'.get? b=some o')
  (tups:∀b xs,H b=some (.tup xs)->H' b=some (.tup xs)) (frzs:∀b o u,H b=some (.frz o u)->H' b=some (.frz o u)) (tbls:∀b ps,H b=some (.tbl ps)->∃more,H' b=some (.tbl (ps++more)))
  (ns:∀m,s.heap.Ns X.env.locals m->h'.Ns X.env.locals m) (hok:HOk X.prog X.w H' h') (hg:uf g'):
  Inv X pins σ H' { s with heap:=h',gens:=g',drawn:=d',toks:=t' }:=by
 have neL:∀b o,X.s₀.heap.get? b=some o->b≠X.env.locals:=λb o e=>az (aw (ar e) I.ok.above);have neC:∀b o,X.s₀.heap.get? b=some o->b∉X.ex->b∉ch:=λb o e hx hb=>by
  rcases(hch b hb).1 with z|z
  ·exact hx z
  ·exact absurd (aw (ar e) z) (gy _)
 have cellK:∀x c,X.env.cells.lookup x=some c->∀v,s.heap.IsCell c v->h'.IsCell c v:=λx c e v ⟨o,ho,hd⟩=>by
  have nch:c∉ch:=λz=>(hch c z).2.2.1 x c e rfl
  by_cases hc:c∈X.fs
  ·obtain⟨sl,q⟩:=slot c o (I.cne x c e) hc nch ho (I.freeC x c e);exact⟨_,q,hd⟩
  ·exact⟨o,keep c o (I.cne x c e) hc nch ho (I.freeC x c e),hd⟩
 refine⟨I.ok,I.os,hg,⟨λb o e n hb hx=>?_,λb o e n hb hx=>?_,λb o e n hx=>?_,λb o e hx=>?_,λb xs e=>tups b xs (I.base.tups b xs e),λb o xs e=>frzs b o xs (I.base.frzs b o xs e),λb ps e=>?_⟩, ?_,λx c e=>?_, ?_,λx c e=>?_,λp hp=>?_,hok,I.len⟩
 ·exact keep b o (neL b o e) hb (neC b o e hx) (I.base.keep b o e n hb hx) (I.base.free b o e n hx)
 ·obtain⟨sl,e1⟩:=I.base.slot b o e n hb hx;obtain⟨sl',e2⟩:=slot b _ (neL b o e) hb (neC b o e hx) e1 (I.base.free b o e n hx);exact⟨sl',e2⟩
 ·obtain⟨o',e1⟩:=I.base.there b o e hx;exact free b o' (neC b o e hx) e1 (I.base.free b o e n hx)
 ·obtain⟨o',e1⟩:=I.base.there b o e hx;exact there b o' (neC b o e hx) e1
 ·obtain⟨m1,e1⟩:=I.base.tbls b ps e;obtain⟨m2,e2⟩:=tbls b _ e1;exact⟨m1++m2,by rw[e2,Array.append_assoc]⟩
 ·obtain⟨m,hn,hl⟩:=I.loc;refine⟨m,ns m hn,λi x v e1 e2 e3=>?_⟩;obtain⟨u,r,l⟩:=hl i x v e1 e2 e3;refine⟨u,r, ?_⟩
  rcases l with l|⟨k,c,e,z⟩
  ·exact .inl l
  ·exact .inr ⟨k,c,e,cellK x c e _ z⟩
 ·obtain⟨v,z⟩:=I.cell x c e;exact⟨v,cellK x c e v z⟩
 ·obtain⟨m,⟨o,_,_,ho,_⟩,_⟩:=I.loc;exact free _ o (λz=>(hch _ z).2.1 rfl) ho I.free
 ·obtain⟨v,o,ho,hd⟩:=I.cell x c e;exact free c o (λz=>(hch c z).2.2.1 x c e rfl) ho (I.freeC x c e)
 ·obtain⟨e,n,ne,nf,d⟩:=I.pin p hp;have nch:p.1∉ch:=λz=>(hch p.1 z).2.2.2 p hp rfl;exact⟨keep p.1 p.2 ne nf nch e n,free p.1 p.2 nch e n,ne,nf,d⟩
theorem Inv.un {t':Nat}(I:Inv X pins σ H s) (u:Un X.fs [] H H' s.heap h') (hok:HOk X.prog X.w H' h'):Inv X pins σ H' { s with heap:=h',toks:=t' }:=by obtain⟨m,⟨o,es,ep,ho,r⟩,_⟩:=id I.loc;obtain⟨sl,hL⟩:=u.any ho I.free (by simp);exact I.step (g':=s.gens) (d':=s.drawn) (ch:=[]) (λ_ z=>nomatch z) (λb o _ hb _ e n=>u.keep b o e n hb (by simp)) (λb o _ hb _ e n=>u.slot b o e n hb (by simp)) (λb o _ e n=>u.free b o e n (by simp)) (λb o _ e=>u.there b o e (by simp)) u.tups u.frzs u.tbls (λm' hm=>by obtain⟨o',es',ep',ho',r'⟩:=hm;rw[ho]at ho';cases ho';exact⟨_,es',ep',hL,r'⟩) hok I.bare
theorem Inv.call {g':Array GenState}{t':Nat}{d':Drawn}{ch:List ai}(I:Inv X pins σ H s) (u:Un (dH X.stack) ch H H' s.heap h') (hok:HOk X.prog X.w H' h') (hg:uf g')
  (hch:∀b∈ch,(b∈X.ex∨X.s₀.heap.objs.size<=b)/\b≠X.env.locals/\(∀x c,X.env.cells.lookup x=some c->c≠b)/\∀p∈X.pn++pins,p.1≠b):
  Inv X pins σ H' { s with heap:=h',gens:=g',drawn:=d',toks:=t' }:=by
 obtain⟨m,⟨o,es,ep,ho,r⟩,_⟩:=id I.loc;obtain⟨sl,hL⟩:=u.any ho I.free λz=>(hch _ z).2.1 rfl;exact I.step (ch:=ch) hch (λb o hL hb hc e n=>u.keep b o e n (λz=>(ay.mp (I.stkSub b z)).elim hL hb) hc) (λb o _ _ hc e n=>u.any e n hc) (λb o hc e n=>u.free b o e n hc) (λb o hc e=>u.there b o e hc) u.tups u.frzs u.tbls (λm' hm=>by obtain⟨o',es',ep',ho',r'⟩:=hm;rw[ho]at ho';cases ho';exact⟨_,es',ep',hL,r'⟩) hok hg
theorem Inv.turned {t':Nat}{it:ai}(I:Inv X pins σ H s) (k:∀b o,b≠it->s.heap.get? b=some o->h'.get? b=some o) (hn:H it=none) (hL:it≠X.env.locals)
  (h1:it∈X.ex∨X.s₀.heap.objs.size<=it) (h2:∀x c,X.env.cells.lookup x=some c->c≠it) (h3:∀p∈X.pn++pins,p.1≠it):Inv X pins σ H { s with heap:=h',toks:=t' }:=by
 have nit:∀b u,H b=some u->b≠it:=λb u e z=>by rw[z,hn]at e;cases e
 refine I.step (g':=s.gens) (d':=s.drawn) (ch:=[it]) (λb hb=>?_) (λb o _ _ hc e _=>k b o (λz=>hc (by simp[z])) e) (λb o _ _ hc e _=>⟨o.slots,k b o (λz=>hc (by simp[z])) e⟩) (λ_ _ _ _ n=>n)
  (λb o hc e=>⟨o,k b o (λz=>hc (by simp[z])) e⟩) (λ_ _ e=>e) (λ_ _ _ e=>e) (λb ps e=>⟨#[],by rw[e];simp⟩) (λm hm=>?_) (λb u e=>?_) I.bare
 ·have e:b=it:=by simpa using hb
  subst e;exact⟨h1,hL,h2,h3⟩
 ·obtain⟨o,es,ep,ho,r⟩:=hm;exact⟨o,es,ep,k _ o (cy hL) ho,r⟩
 ·refine(I.hok b u e).stay (λc v hc q=>k c v ?_ q) (λ_ q=>q) λ_ _ q=>q
  rcases hc with z|z
  ·rw[z];exact nit b u e
  ·exact nit c _ z
theorem Inv.tok (I:Inv X pins σ H s) (t:Nat):Inv X pins σ H { s with toks:=t }:=I.un (h':=s.heap) (t':=t) Un.refl I.hok
theorem Inv.kept {t':Nat}(I:Inv X pins σ H s) (k:∀b u,s.heap.get? b=some u->h'.get? b=some u):Inv X pins σ H { s with heap:=h',toks:=t' }:=I.un (Un.kept k) (I.hok.kept k)
theorem Inv.laid {a:ai}{o:HO}{t':Nat}(I:Inv X pins σ H s) (k:∀b u,s.heap.get? b=some u->h'.get? b=some u) (hp:s.heap.objs.size<=a) (new:ObjOk X.prog X.w (upd H a o) h' a o):
  Inv X pins σ (upd H a o) { s with heap:=h',toks:=t' }:=I.un (Un.laid k hp (I.hok.fresh hp)) (I.hok.laid k hp new)
theorem Inv.write {x e:ai}{o:HO}{t':Nat}(I:Inv X pins σ H s) (mu:vM (H x)) (he:e=x∨H e=some (.own x)) (k:∀b u,b≠e->s.heap.get? b=some u->h'.get? b=some u) (heo:∃u,h'.get? e=some u)
  (new:ObjOk X.prog X.w (upd H x o) h' x o):Inv X pins σ (upd H x o) { s with heap:=h',toks:=t' }:=I.un (Un.write mu he k heo) (I.hok.write mu he k heo new)
theorem Inv.pins_of {pins':List (ai×Obj)}(I:Inv X pins σ H s) (h:∀p∈pins',s.heap.get? p.1=some p.2/\H p.1=none/\p.1≠X.env.locals/\p.1∉X.fs/\∀v,p.2.data≠.cell v):Inv X pins' σ H s:=⟨I.ok,I.os,I.bare,I.base,I.loc,I.cell,I.free,I.freeC,λp hp=>(cg.mp hp).elim (λz=>I.pin p (jb _ z)) (h p),I.hok,I.len⟩
theorem zX {N:List Str}(hN:N.Nodup) {i j:Nat}{x:Str}(a:N[i]?=some x) (b:N[j]?=some x):i=j:=by obtain⟨h1,e1⟩:=ba.mp a;obtain⟨h2,e2⟩:=ba.mp b;exact(List.getElem_inj hN).mp (e1.trans e2.symm)
theorem GB {M:Bg}{A:cf}{E:af->ag->Prop}{i:Nat}{x:Str}{v:V}{u:af}{Q:Unit->ag->Prop}(I:Inv X pins σ H s) (hN:X.N.Nodup) (hi:X.N[i]?=some x) (hx:kT X.env.scope x) (r:RelV v u)
  (h:∀s',Inv X pins (σ.set i (some v)) H s'->(∃a,je a s.heap s'.heap/\(a=X.env.locals∨X.env.cells.lookup x=some a))->Q () s') (hf:X.fn x=true∨X.env.scope.names.lookup x=some .local:=by first|exact .inl rfl|exact .inr rfl|assumption):wpAny M A (storeName X.env x u) Q E s:=by
 obtain⟨m,hn,hl⟩:=id I.loc;have hcls:(X.env.scope.kind==.class||(X.env.scope.kind==.module&&X.env.locals != X.env.globals))=false:=by rw[I.ok.kind];rfl
 have hiσ:i<σ.length:=by rw[I.len];exact(ba.mp hi).1
 have cne:=I.cne;have tracked:∀{a:ai}{h':cu},(∃o,s.heap.get? a=some o/\H a=none)->je a s.heap h'->HOk X.prog X.w H h':=λ{a h'} ha hs b ob e=>by
  obtain⟨_,_,hfree⟩:=ha;refine(I.hok b ob e).stay (λc w' hc q=>(hs.2 c ?_).trans q) (λ_ q=>q) λ_ _ q=>q
  rintro rfl
  rcases hc with rfl|hc
  ·rw[hfree]at e;cases e
  ·rw[hfree]at hc;cases hc
 rcases hx with hk|hk
 ·refine wpAny_storeName_local hk hn (λh' hn' hs=>?_) hcls;obtain⟨oL,_,_,hoL,_⟩:=id hn;refine h _ ⟨I.ok,I.os,I.bare,⟨λb o e n hb hx=>?_,λb o e n hb hx=>?_,I.base.free,λb o e hx=>?_,I.base.tups,I.base.frzs,I.base.tbls⟩,⟨_,hn',λj y v' e1 e2 e3=>?_⟩,λy c e=>?_,I.free,I.freeC,λp hp=>?_,tracked ⟨oL,hoL,I.free⟩ hs,by simpa using I.len⟩ ⟨_,hs,.inl rfl⟩
  ·exact(hs.2 b (az (aw (ar e) I.ok.above))).trans (I.base.keep b o e n hb hx)
  ·obtain⟨sl,e1⟩:=I.base.slot b o e n hb hx;exact⟨sl,(hs.2 b (az (aw (ar e) I.ok.above))).trans e1⟩
  ·obtain⟨o',e1⟩:=I.base.there b o e hx;exact⟨o',(hs.2 b (az (aw (ar e) I.ok.above))).trans e1⟩
  ·by_cases hj:j=i
   ·subst hj;rw[hi]at e1;cases e1;rw[cz hiσ]at e2;cases e2;exact⟨u,r,.inl ⟨hk,by simp⟩⟩
   ·rw[ey (cy hj)]at e2;obtain⟨u',r',q⟩:=hl j y v' e1 e2 e3;refine⟨u',r', ?_⟩
    rcases q with⟨k,e⟩|⟨k,c,e,z⟩
    ·refine .inl ⟨k, ?_⟩;have:y≠x:=λe=>hj (zX hN e1 (e▸hi));simp[this,e]
    ·exact .inr ⟨k,c,e,z.sameBut hs (cne y c e)⟩
  ·obtain⟨w',z⟩:=I.cell y c e;exact⟨w',z.sameBut hs (cne y c e)⟩
  ·obtain⟨e,n,ne,nf,d⟩:=I.pin p hp;exact⟨(hs.2 p.1 ne).trans e,n,ne,nf,d⟩
 ·have hfn:X.fn x=true:=by
   rcases hf with z|z
   ·exact z
   ·rw[z]at hk;cases hk
  obtain⟨c,hc⟩:=I.ok.has x (.inl hk);obtain⟨w',z⟩:=I.cell x c hc;refine wpAny_storeName_cell I.ok.kind hk hc z (λh' hc' hs=>?_);obtain⟨oc,hoc,hocd⟩:=id z;refine h { s with heap:=h' } ⟨I.ok,I.os,I.bare,⟨λb o e n hb hx=>?_,λb o e n hb hx=>?_,I.base.free,λb o e hx=>?_,I.base.tups,I.base.frzs,I.base.tbls⟩,⟨m,hn.sameBut hs (cy (cne x c hc)),λj y v' e1 e2 e3=>?_⟩,λy c' e=>?_,I.free,I.freeC,λp hp=>?_,tracked ⟨oc,hoc,I.freeC x c hc⟩ hs,by simpa using I.len⟩ ⟨c,hs,.inr hc⟩
  ·exact(hs.2 b (az (aw (ar e) (I.ok.cab x c hfn hc)))).trans (I.base.keep b o e n hb hx)
  ·obtain⟨sl,e1⟩:=I.base.slot b o e n hb hx;exact⟨sl,(hs.2 b (az (aw (ar e) (I.ok.cab x c hfn hc)))).trans e1⟩
  ·obtain⟨o',e1⟩:=I.base.there b o e hx;exact⟨o',(hs.2 b (az (aw (ar e) (I.ok.cab x c hfn hc)))).trans e1⟩
  ·by_cases hj:j=i
   ·subst hj;rw[hi]at e1;cases e1;rw[cz hiσ]at e2;cases e2;exact⟨u,r,.inr ⟨.inl hk,c,hc,hc'⟩⟩
   ·rw[ey (cy hj)]at e2;obtain⟨u',r',q⟩:=hl j y v' e1 e2 e3;refine⟨u',r', ?_⟩
    rcases q with q|⟨k,c',e,z'⟩
    ·exact .inl q
    ·refine .inr ⟨k,c',e,z'.sameBut hs ?_⟩
     rintro rfl
     exact hj (zX hN e1 (I.ok.inj _ _ _ e hc▸hi))
  ·by_cases hcc:c'=c
   ·subst hcc;exact⟨_,hc'⟩
   ·obtain⟨w2,z2⟩:=I.cell y c' e;exact⟨w2,z2.sameBut hs hcc⟩
  ·obtain⟨e,n,ne,nf,d⟩:=I.pin p hp;refine⟨(hs.2 p.1 ?_).trans e,n,ne,nf,d⟩;intro q;rw[q,hoc]at e;have q':oc=p.2:=cq e;exact d w' (by rw[<-q'];exact hocd)
theorem sM {M:Bg}{A:cf}{E:af->ag->Prop}{i:Nat}{x:Str}{v:V}{u:af}{Q:Unit->ag->Prop}(I:Inv X pins σ H s) (hN:X.N.Nodup) (hi:X.N[i]?=some x) (hx:kT X.env.scope x) (r:RelV v u)
  (h:∀s',Inv X pins (σ.set i (some v)) H s'->Q () s') (hf:X.fn x=true∨X.env.scope.names.lookup x=some .local:=by first|exact .inl rfl|exact .inr rfl|assumption):wpAny M A (storeName X.env x u) Q E s:=
 GB I hN hi hx r (λs' I' _=>h s' I') hf
theorem Inv.call' {s':ag}{ch:List ai}(I:Inv X pins σ H s) (ho:s'.os=s.os) (u:Un (dH X.stack) ch H H' s.heap s'.heap) (hok:HOk X.prog X.w H' s'.heap) (hg:uf s'.gens)
  (hch:∀b∈ch,(b∈X.ex∨X.s₀.heap.objs.size<=b)/\b≠X.env.locals/\(∀x c,X.env.cells.lookup x=some c->c≠b)/\∀p∈X.pn++pins,p.1≠b):Inv X pins σ H' s':=by
 obtain⟨h',g',d',t',o'⟩:=s';have e:o'=s.os:=ho;subst e;exact I.call (g':=g') (t':=t') (d':=d') u hok hg hch
end
abbrev XK:=af->Option ai->Hp->Prop
abbrev St:=List (Option V)
abbrev VK:=V->Hp->Prop
abbrev TE:=St->Hp->VK->Prop
abbrev TT:=St->Hp->(Bool->Hp->Prop)->Prop
abbrev TA:=St->Hp->(List V->Hp->Prop)->Prop
structure Ends where
 nx:St->Hp->Prop
 rt:VK
 bk:St->Hp->Prop:=λ_ _=>False
 ct:St->Hp->Prop:=λ_ _=>False
abbrev TS:=Ends->St->Hp->Prop
def EP (X:Cx) (pins:List (ai×Obj)) (σ:St) (Q:VK) (u:af) (s':ag):Prop:=∃v H',Inv X pins σ H' s'/\RelV v u/\Q v H'
def TP (X:Cx) (pins:List (ai×Obj)) (σ:St) (Q:Bool->Hp->Prop) (b:Bool) (s':ag):Prop:=∃H',Inv X pins σ H' s'/\Q b H'
def AP (X:Cx) (pins:List (ai×Obj)) (σ:St) (Q:List V->Hp->Prop) (us:List af) (s':ag):Prop:=∃vs H',Inv X pins σ H' s'/\Vals vs us/\Q vs H'
def SP (X:Cx) (pins:List (ai×Obj)) (D:Ends) (f:Flow) (s':ag):Prop:=
 match f with
 | .next=>∃σ' H',Inv X pins σ' H' s'/\D.nx σ' H'
 | .brk=>∃σ' H',Inv X pins σ' H' s'/\D.bk σ' H'
 | .cont=>∃σ' H',Inv X pins σ' H' s'/\D.ct σ' H'
 | .ret u=>∃v σ' H',Inv X pins σ' H' s'/\RelV v u/\D.rt v H'
def PE (X:Cx) (e:bq) (t:TE):Prop:=∀(pins:List (ai×Obj)) (s:ag) (σ:St) (H:Hp) (Q:VK),Inv X pins σ H s->t σ H Q->wpAny (model X.prog X.w) X.A (eval e X.env) (EP X pins σ Q) X.xe s
def PT (X:Cx) (e:bq) (t:TT):Prop:=∀(pins:List (ai×Obj)) (s:ag) (σ:St) (H:Hp) (Q:Bool->Hp->Prop),Inv X pins σ H s->t σ H Q->wpAny (model X.prog X.w) X.A (isTrue e X.env (eval e X.env)) (TP X pins σ Q) X.xe s
def PW (X:Cx) (e:bq) (t:TT):Prop:=∀(whole:Sem af) (pins:List (ai×Obj)) (s:ag) (σ:St) (H:Hp) (Q:Bool->Hp->Prop),Inv X pins σ H s->t σ H Q->wpAny (model X.prog X.w) X.A (isTrue e X.env whole) (TP X pins σ Q) X.xe s
theorem PW.pt {X:Cx}{e:bq}{t:TT}(h:PW X e t):PT X e t:=h _
def PA (X:Cx) (es:List bq) (t:TA):Prop:=∀(pos:Pos) (pins:List (ai×Obj)) (s:ag) (σ:St) (H:Hp) (Q:List V->Hp->Prop),Inv X pins σ H s->t σ H Q->wpAny (model X.prog X.w) X.A (spliced (backTo pos (au es X.env))) (AP X pins σ Q) X.xe s
def PS (X:Cx) (st:gz) (t:TS):Prop:=∀(pins:List (ai×Obj)) (s:ag) (σ:St) (H:Hp) (D:Ends),Inv X pins σ H s->t D σ H->wpAny (model X.prog X.w) X.A (exec st X.env) (SP X pins D) X.xe s
def PSs (X:Cx) (st:List gz) (t:TS):Prop:=∀(pins:List (ai×Obj)) (s:ag) (σ:St) (H:Hp) (D:Ends),Inv X pins σ H s->t D σ H->wpAny (model X.prog X.w) X.A (execs st X.env) (SP X pins D) X.xe s
theorem aV {α:Type}{t:Sem α}{Q Q':α->ag->Prop}{M:Bg}{A:cf}{E:af->ag->Prop}{s:ag}(h:wpAny M A t Q E s) (hQ:∀a s,Q a s->Q' a s):wpAny M A t Q' E s:=mf h hQ λ_ _ x=>x
section
variable{X:Cx}
def P7 (i:Nat):TE:=λσ H Q=>∃v,σ[i]?=some (some v)/\Q v H
def tC (v:V):TE:=λ_ H Q=>Q v H
theorem zY {i:Nat}{x:Str}{pos:Pos}(hN:X.N[i]?=some x) (hv:qG X.env.scope x) (hd:(x==("__debug__" : Str))=false:=by decide) (hcd:(x==("__classdict__" : Str))=false:=by decide):PE X (.Name x pos) (P7 i):=by
 intro pins s σ H Q I h;obtain⟨v,e,h⟩:=h;obtain⟨m,hn,hl⟩:=I.loc;obtain⟨u,r,l⟩:=hl i x v hN e hv;have fin:EP X pins σ Q u s:=⟨v,H,I,r,h⟩
 rcases l with⟨hk,hm⟩|⟨hk,c,hc,hcell⟩
 ·exact wpAny_Name (wpAny_loadName_local I.ok.kind hk hn hm fin) hd
 ·rcases hk with hk|hk
  ·exact wpAny_Name (wpAny_loadName_cell I.ok.kind hk hc hcell fin) hd
  ·exact wpAny_Name (wpAny_loadName_free I.ok.kind hk hc hcell fin hcd) hd
theorem GC {i j pos}:PE X (.Constant (.int i) j pos) (tC (.int i)):=λ_ _ _ H _ I h=>wpAny_Constant_int ⟨.int i,H,I.tok _,⟨_,rfl⟩,h⟩
theorem P8 {b j pos}:PE X (.Constant (.bool b) j pos) (tC (.bl b)):=λ_ _ _ H _ I h=>Constant_bool ⟨.bl b,H,I,rfl,h⟩
theorem GD {j pos}:PE X (.Constant .none j pos) (tC .non):=λ_ _ _ H _ I h=>Constant_none ⟨.non,H,I,rfl,h⟩
theorem P9 {x j pos}:PE X (.Constant (.str x) j pos) (tC (.str x)):=λ_ _ _ H _ I h=>Calls.Constant_str ⟨.str x,H,I.tok _,⟨_,rfl⟩,h⟩
def Gl (X:Cx) (x:Str):Prop:=X.env.kindOf x=some .globalImplicit
theorem sN {E:af->ag->Prop}{pins:List (ai×Obj)}{s:ag}{σ:St}{H:Hp}{x:Str}{u:af}{pos:Pos}{Q:af->ag->Prop}(I:Inv X pins σ H s) (hg:Gl X x) (hm:X.mg x=some u) (h:Q u s)
  (hd:(x==("__debug__" : Str))=false:=by decide):wpAny (model X.prog X.w) X.A (eval (.Name x pos) X.env) Q E s:=
 yj I.ok.kind hg (Calls.loadGlobal_global (by rw[I.ok.glob];exact I.mod.glob.keeps I.bk) hm h) hd
theorem pE {E:af->ag->Prop}{pins:List (ai×Obj)}{s:ag}{σ:St}{H:Hp}{x:Str}{u:af}{pos:Pos}{Q:af->ag->Prop}(I:Inv X pins σ H s) (hg:Gl X x) (hm:X.mg x=none) (hv:dw x=some u) (h:Q u s)
  (hn:x ≠ "__name__" := by decide) (hd:(x==("__debug__" : Str))=false:=by decide):wpAny (model X.prog X.w) X.A (eval (.Name x pos) X.env) Q E s:=by
 obtain⟨mb,h1,h2⟩:=I.mod.blt;exact yj I.ok.kind hg (Calls.loadGlobal_builtin (by rw[I.ok.glob];exact I.mod.glob.keeps I.bk) hm (by rw[I.ok.blt];exact h1.keeps I.bk) ((h2 x hn).trans hv) h) hd
theorem GF {x:Str}{v:V}{u:af}{pos:Pos}(hg:Gl X x) (hm:X.mg x=some u) (r:RelV v u) (hd:(x==("__debug__" : Str))=false:=by decide):PE X (.Name x pos) (tC v):=λ_ _ _ H _ I h=>sN I hg hm ⟨v,H,I,r,h⟩ hd
variable{a b:bq}{ta tb:TE}{pos:Pos}
def tB (t:TE):TT:=λσ H Q=>t σ H λx H1=>∃c,x=.bl c/\Q c H1
variable{tA tB':TT}{rest:List bq}
def GG (t u:TT):TT:=λσ H Q=>t σ H λc H1=>if c=true then u σ H1 Q else Q false H1
def GH (t u:TT):TT:=λσ H Q=>t σ H λc H1=>if c=true then Q true H1 else u σ H1 Q
def QA (t:TT):TT:=λσ H Q=>t σ H λc H1=>Q (!c) H1
theorem QB (ha:PT X a tA):PW X (.BoolOp .And [a] pos) tA:=by
 intro wh pins s σ H Q I h;refine isTrue_and (aV (ha pins s σ H Q I h) λc s1 e=>?_)
 cases c with
 |true=>exact isTrue_and_nil e
 |false=>exact e
theorem QC (ha:PT X a tA):PW X (.BoolOp .Or [a] pos) tA:=by
 intro wh pins s σ H Q I h;refine isTrue_or (aV (ha pins s σ H Q I h) λc s1 e=>?_)
 cases c with
 |false=>exact isTrue_or_nil e
 |true=>exact e
theorem QD (ha:PT X a tA) (hb:PW X (.BoolOp .And (b::rest) pos) tB'):PW X (.BoolOp .And (a::b::rest) pos) (GG tA tB'):=by
 intro wh pins s σ H Q I h;refine isTrue_and (aV (ha pins s σ H _ I h) λc s1 ⟨H1,I1,q1⟩=>?_)
 cases c with
 |true=>exact hb wh pins s1 σ H1 Q I1 q1
 |false=>exact⟨H1,I1,q1⟩
theorem QE (ha:PT X a tA) (hb:PW X (.BoolOp .Or (b::rest) pos) tB'):PW X (.BoolOp .Or (a::b::rest) pos) (GH tA tB'):=by
 intro wh pins s σ H Q I h;refine isTrue_or (aV (ha pins s σ H _ I h) λc s1 ⟨H1,I1,q1⟩=>?_)
 cases c with
 |true=>exact⟨H1,I1,q1⟩
 |false=>exact hb wh pins s1 σ H1 Q I1 q1
theorem QF (ha:PT X a tA):PT X (.UnaryOp .Not a pos) (QA tA):=by intro pins s σ H Q I h;exact isTrue_not (ha pins s σ H (λc H1=>Q (!c) H1) I h)
def QG (ta tb:TE):TE:=λσ H Q=>ta σ H λx H1=>∃c,x=.bl c/\if c=true then tb σ H1 Q else Q (.bl false) H1
def QH (ta:TE):TE:=λσ H Q=>ta σ H λx H1=>∃c,x=.bl c/\Q (.bl (!c)) H1
theorem QI {op} {t:TE}(h:PE X a t):PE X (.BoolOp op [a] pos) t:=λpins s σ H Q I hw=>BoolOp_one (h pins s σ H Q I hw)
theorem QJ (ha:PE X a ta) (hb:PE X (.BoolOp .And (b::rest) pos) tb):PE X (.BoolOp .And (a::b::rest) pos) (QG ta tb):=by
 intro pins s σ H Q I h;refine BoolOp_and (aV (ha pins s σ H _ I h) λv s1 ⟨x,H1,I1,r1,q1⟩=>?_);obtain⟨c,rfl,q1⟩:=q1;cases r1;refine kg ?_
 cases c with
 |true=>exact hb pins s1 σ H1 Q I1 q1
 |false=>exact⟨.bl false,H1,I1,rfl,q1⟩
theorem QK (ha:PE X a ta):PE X (.UnaryOp .Not a pos) (QH ta):=by intro pins s σ H Q I h;refine UnaryOp_ (aV (ha pins s σ H _ I h) λv s1 ⟨x,H1,I1,r1,q1⟩=>?_);obtain⟨c,rfl,q1⟩:=q1;cases r1;exact not_of (kg ⟨.bl (!c),H1,I1,rfl,q1⟩)
end
def SqL (K:aq) (H:Hp) (a:ai) (xs:List V):Prop:=
 Rd H a (.lst xs) ∨
  ∃(o:Obj) (its:Array af) (n:Nat),K.lookup a=some o/\o.cls=.type "list"/\o.dict=none/\o.data=.seq its n/\its.size<=bw/\Vals xs its.toList
def SqT (K:aq) (H:Hp) (a:ai) (xs:List V):Prop:=
 Rd H a (.tup xs) ∨
  ∃(o:Obj) (its:Array af) (n:Nat),K.lookup a=some o/\o.cls=.type "tuple"/\o.data=.seq its n/\its.size<=bw/\Vals xs its.toList
def QL:af->Option V
 | .none=>some .non
 | .bool b=>some (.bl b)
 | .int i _=>some (.int i)
 | .str x _=>some (.str x)
 | .bytes b _=>some (.byt b)
 | .float b _=>some (.flt b)
 | .ref a=>some (.ref a)
 | .type n=>some (.ty n)
 |_=>none
theorem RelV.abs {x:V}{u:af}(r:RelV x u):QL u=some x:=by
 cases x with
 |non=>cases r;rfl
 |bl _=>cases r;rfl
 |int _=>obtain⟨t,rfl⟩:=r;rfl
 |str _=>obtain⟨t,rfl⟩:=r;rfl
 |byt _=>obtain⟨t,rfl⟩:=r;rfl
 |flt _=>obtain⟨t,rfl⟩:=r;rfl
 |ref _=>cases r;rfl
 |ty _=>cases r;rfl
theorem RelV.inj {x y:V}{u:af}(r:RelV x u) (q:RelV y u):x=y:=cq (r.abs.symm.trans q.abs)
theorem Vals.inj:∀{xs ys:List V}{us:List af},Vals xs us->Vals ys us->xs=ys
 |_,_,_,.nil,.nil=>rfl
 |_,_,_,.cons r t,.cons r' t'=>by rw[r.inj r',Vals.inj t t']
section
variable{X:Cx}{pins:List (ai×Obj)}{σ:St}{H:Hp}{s:ag}{a:ai}{xs ys:List V}
theorem SqL.of {K:aq}(h:H a=some (.lst xs)):SqL K H a xs:=.inl (.inl h)
theorem SqT.of {K:aq}(h:H a=some (.tup xs)):SqT K H a xs:=.inl (.inl h)
theorem Inv.list (I:Inv X pins σ H s) (h:SqL X.K H a xs):∃its:List af,Vals xs its/\PlainL s.heap a its.toArray/\xs.length<=bw:=by
 rcases h with h|⟨o,its,n,hk,hc,hd,hs,hz,r⟩
 ·obtain⟨z,its,n,r,e⟩:=h.ok I.hok;exact⟨its,r,⟨_,n,e,rfl,rfl,rfl⟩,z⟩
 ·refine⟨its.toList,r,⟨o,n,I.kIn a o hk,hc,hd,by simpa using hs⟩, ?_⟩;have e:=r.length;simp only[nu]at e;omega
theorem Inv.tuple (I:Inv X pins σ H s) (h:SqT X.K H a xs):∃its:List af,Vals xs its/\yi s.heap a its.toArray/\xs.length<=bw:=by
 rcases h with h|⟨o,its,n,hk,hc,hs,hz,r⟩
 ·obtain⟨z,its,r,p⟩:=h.ok I.hok;exact⟨its,r,p.tup,z⟩
 ·refine⟨its.toList,r,⟨o,I.kIn a o hk,hc,n,by simpa using hs⟩, ?_⟩;have e:=r.length;simp only[nu]at e;omega
theorem Inv.list_inj (I:Inv X pins σ H s) (h:SqL X.K H a xs) (h':SqL X.K H a ys):xs=ys:=by
 obtain⟨its,r,⟨o,n,e,_,_,d⟩,_⟩:=I.list h;obtain⟨its',r',⟨o',n',e',_,_,d'⟩,_⟩:=I.list h';rw[e]at e';cases e';rw[d]at d';injection d' with d1 _;have:its=its':=by simpa using congrArg Array.toList d1
 subst this;exact r.inj r'
theorem Inv.tuple_inj (I:Inv X pins σ H s) (h:SqT X.K H a xs) (h':SqT X.K H a ys):xs=ys:=by
 obtain⟨its,r,⟨o,e,_,n,d⟩,_⟩:=I.tuple h;obtain⟨its',r',⟨o',e',_,n',d'⟩,_⟩:=I.tuple h';rw[e]at e';cases e';rw[d]at d';injection d' with d1 _;have:its=its':=by simpa using congrArg Array.toList d1
 subst this;exact r.inj r'
end
abbrev Cx.wish (X:Cx) (E:af->ag->Prop):Cx:={ X with xe:=E }
abbrev Cx.nox (X:Cx):Cx:=X.wish λ_ _=>False
theorem Cx.Ok.wish {X:Cx}(ok:X.Ok) (E:af->ag->Prop):(X.wish E).Ok:=⟨ok.mod,ok.kind,ok.glob,ok.blt,ok.above,ok.inj,ok.has,ok.cab,ok.hd,ok.frames,ok.stk,ok.exf,ok.bs,ok.bsz,ok.noex,ok.exfs,ok.funs,ok.frf⟩
theorem Cx.Ok.unwish {X:Cx}{E:af->ag->Prop}(ok:(X.wish E).Ok):X.Ok:=⟨ok.mod,ok.kind,ok.glob,ok.blt,ok.above,ok.inj,ok.has,ok.cab,ok.hd,ok.frames,ok.stk,ok.exf,ok.bs,ok.bsz,ok.noex,ok.exfs,ok.funs,ok.frf⟩
section
variable{X:Cx}{pins:List (ai×Obj)}{σ:St}{H:Hp}{s:ag}{E:af->ag->Prop}
theorem Inv.wish (I:Inv X pins σ H s) (E:af->ag->Prop):Inv (X.wish E) pins σ H s:=⟨I.ok.wish E,I.os,I.bare,I.base,I.loc,I.cell,I.free,I.freeC,I.pin,I.hok,I.len⟩
theorem Inv.unwish (I:Inv (X.wish E) pins σ H s):Inv X pins σ H s:=⟨I.ok.unwish,I.os,I.bare,I.base,I.loc,I.cell,I.free,I.freeC,I.pin,I.hok,I.len⟩
end
section
variable{X:Cx}{st:gz}{rest:List gz}{t u:TS}{e:bq}{te:TE}{pos:Pos}
def QM:TS:=λD σ H=>D.nx σ H
def QN (t u:TS):TS:=λD σ H=>t { D with nx:=u D } σ H
theorem QO:PSs X [] QM:=λ_ _ σ H _ I h=>pd ⟨σ,H,I,h⟩
theorem QP (h1:PS X st t) (h2:PSs X rest u):PSs X (st::rest) (QN t u):=by
 intro pins s σ H D I h;refine qk (aV (h1 pins s σ H { D with nx:=u D } I h) λf s1 q=>?_)
 cases f with
 |next=>obtain⟨σ',H',I',q⟩:=q;exact h2 pins s1 σ' H' D I' q
 |ret v=>exact q
 |brk=>exact q
 |cont=>exact q
theorem GI (h1:PS X st t):PSs X [st] t:=by
 intro pins s σ H D I h;refine qk (aV (h1 pins s σ H D I h) λf s1 q=>?_)
 cases f with
 |next=>exact pd q
 |ret v=>exact q
 |brk=>exact q
 |cont=>exact q
theorem Inv.quiet {pins:List (ai×Obj)}{σ:St}{H:Hp}{s:ag}(I:Inv X pins σ H s):interactive X.env=false:=by simp[interactive,I.ok.kind]
def QQ (te:TE):TS:=λD σ H=>te σ H λ_ H1=>D.nx σ H1
theorem QR (he:PE X e te) (hs:swapsWith e none pos.line X.env=pure false:=by rfl):PS X (.Expr e pos) (QQ te):=by intro pins s σ H D I h;exact wpAny_Expr_any (aV (he pins s σ H _ I h) λv s1 ⟨x,H1,I1,r1,q1⟩=>⟨σ,H1,I1,q1⟩) I.quiet hs
def QS (te:TE):TS:=λD σ H=>te σ H D.rt
theorem QT (he:PE X e te):PS X (.Return (some e) pos) (QS te):=by intro pins s σ H D I h;exact wpAny_Return_some (aV (he pins s σ H _ I h) λv s1 ⟨x,H1,I1,r1,q1⟩=>⟨x,σ,H1,I1,r1,q1⟩)
def QU (c:TT) (t u:TS):TS:=λD σ H=>c σ H λb H1=>if b=true then t D σ H1 else u D σ H1
theorem QV {c:bq}{a b:List gz}{tc:TT}(hc:PT X c tc) (ha:PSs X a t) (hb:PSs X b u):PS X (.If c a b pos) (QU tc t u):=by
 intro pins s σ H D I h;refine wpAny_If (aV (hc pins s σ H _ I h) λd s1 ⟨H1,I1,q1⟩=>?_)
 cases d with
 |true=>exact ha pins s1 σ H1 D I1 q1
 |false=>exact hb pins s1 σ H1 D I1 q1
end
abbrev TG:=V->St->Hp->(St->Hp->Prop)->Prop
abbrev mI:=List V->St->Hp->(St->Hp->Prop)->Prop
def PG (X:Cx) (target:bq) (t:TG):Prop:=
 ∀(pins:List (ai×Obj)) (s:ag) (σ:St) (H:Hp) (v:V) (u:af) (Q:St->Hp->Prop),Inv X pins σ H s->RelV v u->t v σ H Q->
  wpAny (model X.prog X.w) X.A (assign target X.env u) (λ_ s'=>∃σ' H',Inv X pins σ' H' s'/\Q σ' H') X.xe s
def PGs (X:Cx) (ts:List bq) (t:mI):Prop:=
 ∀(pins:List (ai×Obj)) (s:ag) (σ:St) (H:Hp) (vs:List V) (us:List af) (Q:St->Hp->Prop),Inv X pins σ H s->Vals vs us->t vs σ H Q->
  wpAny (model X.prog X.w) X.A (assignInOrder ((assignEach ts X.env).map (·.2)) us) (λ_ s'=>∃σ' H',Inv X pins σ' H' s'/\Q σ' H') X.xe s
abbrev zZ:=V->V->V->Hp->(Hp->Prop)->Prop
def GJ (X:Cx) (t:zZ):Prop:=
 ∀(pins:List (ai×Obj)) (s:ag) (σ:St) (H:Hp) (o i v:V) (ov iv u:af) (Q:Hp->Prop),Inv X pins σ H s->RelV o ov->RelV i iv->RelV v u->t o i v H Q->
  wpAny (model X.prog X.w) X.A (setItem ov iv u) (λ_ s'=>∃H',Inv X pins σ H' s'/\Q H') X.xe s
section
variable{X:Cx}{pos:Pos}
def AA (i:Nat):TG:=λv σ H Q=>Q (σ.set i (some v)) H
theorem QW {i:Nat}{x:Str}(hN:X.N.Nodup) (hi:X.N[i]?=some x) (hx:kT X.env.scope x) (hf:X.fn x=true∨X.env.scope.names.lookup x=some .local:=by first|exact .inl rfl|exact .inr rfl|assumption):PG X (.Name x pos) (AA i):=by intro pins s σ H v u Q I r h;exact wpAny_assign_Name (sM I hN hi hx r (λs' I'=>⟨_,H,I',h⟩) hf)
def QX:mI:=λvs σ H Q=>vs=[]/\Q σ H
def QY (t:TG) (u:mI):mI:=λvs σ H Q=>∃v r,vs=v::r/\t v σ H λσ' H'=>u r σ' H' Q
theorem GK:PGs X [] QX:=by intro pins s σ H vs us Q I r h;obtain⟨e,h⟩:=h;subst e;cases r;exact assignInOrder_nil ⟨σ,H,I,h⟩
theorem AB {e:bq}{es:List bq}{t:TG}{u:mI}(h1:PG X e t) (h2:PGs X es u)
  (hs:(assignEach (e::es) X.env).map (·.2)=assign e X.env::(assignEach es X.env).map (·.2):=by rfl):PGs X (e::es) (QY t u):=by
 intro pins s σ H vs us Q I r h;obtain⟨v,vr,e1,h⟩:=h;subst e1
 cases r with
 |cons r rr=>rw[hs];refine ya (aV (h1 pins s σ H _ _ _ I r h) λ_ s1 ⟨σ1,H1,I1,q1⟩=>?_);exact h2 pins s1 σ1 H1 _ _ Q I1 rr q1
def QZ (K:aq) (n:Nat) (t:mI):TG:=λv σ H Q=>∃a xs,v=.ref a/\SqT K H a xs/\xs.length=n/\t xs σ H Q
theorem GL {es:List bq}{k:Nat}{t:mI}{n:Nat}(hc:X.calm=true) (h:PGs X es t)
  (hn:(assignEach es X.env).length=n:=by rfl) (hst:(assignEach es X.env).findIdx? (·.1)=none:=by rfl):PG X (.Tuple es k pos) (QZ X.K n t):=by
 intro pins s σ H v u Q I r hw;obtain⟨a,xs,e1,hq,hl,hw⟩:=hw;subst e1;cases r;obtain⟨its,rv,ht,hz⟩:=I.tuple hq;refine assign_Tuple_tuple (I.ok.hd hc) ht (by simp[hn,<-hl,rv.length]) hst λh' hx=>?_;have I1:Inv X pins σ H { s with heap:=h' }:=I.kept (t':=s.toks) λb o e=>hx b o (az (ar e)) e;exact h pins _ σ H xs _ Q I1 (by simpa using rv) hw
def Q0 (to ti:TE) (t:zZ):TG:=λv σ H Q=>to σ H λo H1=>ti σ H1 λi H2=>t o i v H2 λH3=>Q σ H3
theorem AD {o i:bq}{to ti:TE}{t:zZ}(ho:PE X o to) (hi:PE X i ti) (hs:GJ X t)
  (ha:∀v,assign (.Subscript o i pos) X.env v=(do
   let ov <-holding [v] (eval o X.env)
   let iv <-holding [v,ov] (eval i X.env)
   standAt pos
   holding [v,ov,iv] (setItem ov iv v)
   release [v,ov,iv] []):=by intro _;rfl):PG X (.Subscript o i pos) (Q0 to ti t):=by
 intro pins s σ H v u Q I r h;rw[ha];refine aa (fz (aV (ho pins s σ H _ I h) λov s1 ⟨x,H1,I1,r1,q1⟩=>?_));refine aa (fz (aV (hi pins s1 σ H1 _ I1 q1) λiv s2 ⟨y,H2,I2,r2,q2⟩=>?_));refine aa (qr (aa (fz (aV (hs pins s2 σ H2 x y v ov iv u _ I2 r1 r2 r q2) λ_ s3 ⟨H3,I3,q3⟩=>?_))));exact wpAny_release ⟨σ,H3,I3,q3⟩
def vO (te:TE) (g:TG):TS:=λD σ H=>te σ H λx H1=>g x σ H1 D.nx
theorem AE {tg e:bq}{te:TE}{g:TG}(he:PE X e te) (hg:PG X tg g) (hs:swapsWithSole [tg] e pos.line X.env=pure false:=by rfl) (hw:swappedStores [tg] e X.env=pure none:=by rfl)
  (h1:(assignEach [tg] X.env).map (·.2)=[assign tg X.env]:=by rfl):PS X (.Assign [tg] e pos) (vO te g):=by
 intro pins s σ H D I h;refine wpAny_Assign_stores (aV (he pins s σ H _ I h) λv s1 ⟨x,H1,I1,r1,q1⟩=>?_) hs hw;rw[h1];exact aV (hg pins s1 σ H1 x v _ I1 r1 q1) λ_ s2 q=>q
theorem AF {i:Nat}{x:Str}{e:bq}{te:TE}{pos':Pos}(hN:X.N.Nodup) (hi:X.N[i]?=some x) (hx:kT X.env.scope x) (he:PE X e te) (hs:swapsWith e (some (.Name x pos')) pos.line X.env=pure false:=by rfl) (hf:X.fn x=true∨X.env.scope.names.lookup x=some .local:=by first|exact .inl rfl|exact .inr rfl|assumption):
  PS X (.Assign [.Name x pos'] e pos) (vO te (AA i)):=by
 intro pins s σ H D I h;refine wpAny_Assign_Name (aV (he pins s σ H _ I h) λv s1 ⟨y,H1,I1,r1,q1⟩=>?_) hs;exact sM I1 hN hi hx r1 (λs2 I2=>⟨_,H1,I2,q1⟩) hf
def Q2 (i j:Nat) (ta:TA):TS:=λD σ H=>ta σ H λvs H1=>∃v w,vs=[v,w]/\D.nx ((σ.set i (some v)).set j (some w)) H1
theorem Q3 {i j:Nat}{x y:Str}{a b:bq}{ta:TA}{px py pt:Pos}{kt k2 pt2} (hc:X.calm=true) (hN:X.N.Nodup) (hi:X.N[i]?=some x) (hj:X.N[j]?=some y) (hij:i≠j)
  (hx:X.env.scope.names.lookup x=some .local) (hy:X.env.scope.names.lookup y=some .local) (ha:PA X [a,b] ta)
  (hw:swappedStores [.Tuple [.Name x px,.Name y py] kt pt] (.Tuple [a,b] k2 pt2) X.env=pure (some [x,y]))
  (hs:swapsWithSole [.Tuple [.Name x px,.Name y py] kt pt] (.Tuple [a,b] k2 pt2) pos.line X.env=pure false:=by rfl):
  PS X (.Assign [.Tuple [.Name x px,.Name y py] kt pt] (.Tuple [a,b] k2 pt2) pos) (Q2 i j ta):=by
 intro pins s σ H D I h;rw[exec_Assign_arm];refine aa (qr ?_);rw[hs];refine aa (ah ?_);rw[if_neg (by decide)];refine aa (Tuple_ (aV (ha _ pins s σ H _ I h) λus s1 ⟨vs,H1,I1,r1,q1⟩=>?_));obtain⟨v,w,e1,q1⟩:=q1;subst e1;obtain⟨u1,u2,rfl,rv,rw'⟩:∃u1 u2,us=[u1,u2]/\RelV v u1/\RelV w u2:=by
  cases r1 with
  |cons p q=>
   cases q with
   |cons p' q'=>cases q';exact⟨_,_,rfl,p,p'⟩
 refine dg ?_ (by show 2<=bw;decide);have I2:Inv X pins σ H1 { s1 with heap:=s1.heap.push { cls:=.type "tuple",data:=.seq [u1,u2].toArray } }:=I1.kept (t':=s1.toks) λb o e=>aj _ e;rw[hw];refine aa (ah ?_);show wpAny (model X.prog X.w) X.A (do rule "assign.swapped-stores"; let items <-unpackItems (.ref s1.heap.objs.size) 2 none;assignInOrder [λv=>bindName X.env y v,λv=>bindName X.env x v] items.reverse;pure Flow.next) _ _ _;refine aa (ql (aa (unpackItems_tuple (items:=#[u1,u2]) (I.ok.hd hc) (IsTup.new s1.heap _) λh' hx'=>?_)));have I3:=I2.kept (h':=h') (t':=s1.toks) λb o e=>hx' b o (az (ar e)) e;show wpAny _ _ (assignInOrder [λv=>bindName X.env y v,λv=>bindName X.env x v] [u2,u1] >>= λ_=>pure Flow.next) _ _ _;refine aa (ya (wpAny_bindName (sM I3 hN hj (.inl hy) rw' (λs2 I4=>?_) (.inr hy))));refine ya (wpAny_bindName (sM I4 hN hi (.inl hx) rv (λs3 I5=>assignInOrder_nil (ah ?_)) (.inr hx)));rw[List.set_comm _ _ (cy hij)]at I5;exact⟨_,H1,I5,q1⟩
end
section
variable{X:Cx}{pos:Pos}
def Q4 (c:TT) (tb:TS):TS:=λD σ H=>∃W:Nat->St->Hp->Prop,(∃m,W m σ H)/\∀m σ H,W m σ H->
 c σ H λb H1=>if b=true then ∃N:St->Hp->Prop,(∀σ' H',N σ' H'->∃m',m'<m/\W m' σ' H')/\tb { D with nx:=N,ct:=N,bk:=D.nx } σ H1 else D.nx σ H1
theorem Q5 {c:bq}{body:List gz}{tc:TT}{tb:TS}(hp:Ab (model X.prog X.w) X.A X.env X.xe) (hc:PT X c tc) (hb:PSs X body tb):PS X (.While c body [] pos) (Q4 tc tb):=by
 intro pins s σ H D I h;obtain⟨W,⟨m0,w0⟩,turn⟩:=h;refine wpAny_While (codeAny_whileLoop (λn s'=>∃σ' H',Inv X pins σ' H' s'/\W n σ' H') ?_ m0 ⟨σ,H,I,w0⟩)
 rintro n s1 ⟨σ1,H1,I1,w1⟩
 refine nc hp (aV (hc pins s1 σ1 H1 _ I1 (turn n σ1 H1 w1)) λb s2 ⟨H2,I2,q2⟩=>?_)
 cases b with
 |true=>
  obtain⟨N,hN,q2⟩:=q2;rw[if_pos rfl];refine nc hp (aV (hb pins s2 σ1 H2 _ I2 q2) λf s3 q3=>?_)
  cases f with
  |next=>obtain⟨σ3,H3,I3,n3⟩:=q3;obtain⟨m',hm,w3⟩:=hN σ3 H3 n3;exact⟨m',hm,σ3,H3,I3,w3⟩
  |cont=>obtain⟨σ3,H3,I3,n3⟩:=q3;obtain⟨m',hm,w3⟩:=hN σ3 H3 n3;exact⟨m',hm,σ3,H3,I3,w3⟩
  |brk=>exact q3
  |ret v=>exact q3
 |false=>rw[if_neg jf];exact pd ⟨σ1,H2,I2,q2⟩
end
structure It where
 go:Nat->Hp->Prop
 yld:Nat->Hp->V->Hp->Prop
 stop:Nat->Hp->Prop
def dG (X:Cx) (pins:List (ai×Obj)) (H:Hp) (b:ai):Prop:=H b=none/\b≠X.env.locals/\b∉X.fs/\(b∈X.ex∨X.s₀.heap.objs.size<=b)/\(∀x c,X.env.cells.lookup x=some c->c≠b)/\∀p∈X.pn++pins,p.1≠b
theorem Inv.fpOk {X:Cx}{pins:List (ai×Obj)}{σ:St}{H H':Hp}{s:ag}{b:ai}(I:Inv X pins σ H s) (hb:s.heap.objs.size<=b) (hn:H' b=none):dG X pins H' b:=by
 refine⟨hn,jh (aw I.lt hb),I.nofs hb,.inr (dm I.sz hb),λx c e z=>?_,λp hp z=>?_⟩
 ·obtain⟨v,q⟩:=I.cell x c e;exact absurd (aw q.lt (by rw[z];exact hb)) (gy _)
 ·exact absurd (aw (ar (I.pin p hp).1) (by rw[z];exact hb)) (gy _)
structure Turn (P:bh) (w:cn) (K:aq) (tg:bq) (J:It) (fp:List ai) (it:ai) (tn:Nat->cu->Prop):Prop where
 mem:it∈fp
 obj:∀i h,tn i h->∀b∈fp,∃o,h.get? b=some o/\∀v,o.data≠.cell v
 keep:∀i h h',tn i h->(∀b∈fp,∀o,h.get? b=some o->h'.get? b=some o)->tn i h'
 item:∀(X:Cx),X.prog=P->X.w=w->X.K=K->X.calm=true->∀(i:Nat) (pins:List (ai×Obj)) (s:ag) (σ:St) (H:Hp) (E:af->ag->Prop),Inv X pins σ H s->(∀b∈fp,dG X pins H b)->tn i s.heap->J.go i H->
  wpAny (model P w) X.A (pyNext (.ref it)) (λr s1=>∃u,r=some u /\
   wpAny (model P w) X.A (letOwnedTupleGo tg (.ref it) u) (λ_ s2=>∃x H',Inv X pins σ H' s2/\RelV x u/\J.yld i H x H'/\tn (i+1) s2.heap/\∀b∈fp,H' b=none) E s1) E s
 done:∀(X:Cx),X.prog=P->X.w=w->X.K=K->X.calm=true->∀(i:Nat) (pins:List (ai×Obj)) (s:ag) (σ:St) (H:Hp) (E:af->ag->Prop),Inv X pins σ H s->(∀b∈fp,dG X pins H b)->tn i s.heap->J.stop i H->
  wpAny (model P w) X.A (pyNext (.ref it)) (λr s1=>r=none/\Inv X pins σ H s1) E s
 self:∀(A:cf) (i:Nat) (s:ag) (Q:af->ag->Prop) (E:af->ag->Prop),tn i s.heap->Q (.ref it) s->wpAny (model P w) A (pyIter (.ref it)) Q E s
abbrev TI:=St->Hp->(It->Hp->Prop)->Prop
def GN (X:Cx) (pins:List (ai×Obj)) (σ:St) (tg:bq) (R:It->Hp->Prop) (itv:af) (s2:ag):Prop:=∃(it:ai) (fp:List ai) (tn:Nat->cu->Prop) (J:It) (H':Hp),itv=.ref it/\Inv X pins σ H' s2/\Turn X.prog X.w X.K tg J fp it tn/\tn 0 s2.heap/\(∀b∈fp,dG X pins H' b)/\R J H'
def PI (X:Cx) (tg iter:bq) (wi:TI):Prop:=
 ∀(pins:List (ai×Obj)) (s:ag) (σ:St) (H:Hp) (R:It->Hp->Prop),Inv X pins σ H s->wi σ H R->
  wpAny (model X.prog X.w) X.A (eval iter X.env) (λv s1=>wpAny (model X.prog X.w) X.A (pyIter v) (GN X pins σ tg R) X.xe s1) X.xe s
theorem AG {M:Bg}{A:cf}{E:af->ag->Prop}{s:ag}{tg:bq}{it:ai}{u:af}{o:Obj}{n:String}{vs:Array af}{Q:Unit->ag->Prop}(ho:s.heap.get? it=some o) (hc:o.cls=.type n) (hd:o.data=.fields vs)
  (hn:["enumerate","zip","dict_itemiterator","dict_reverseitemiterator","odict_iterator","itertools.zip_longest","itertools.pairwise"].contains n=false) (hQ:Q () s):wpAny M A (letOwnedTupleGo tg (.ref it) u) Q E s:=by
 unfold letOwnedTupleGo
 cases tg <;> first
  |exact ah hQ
  |(cases u <;> first
    |exact ah hQ
    |(refine aa (wpAny_load ho ?_);rw[hc,hd];show wpAny M A (if(["enumerate","zip","dict_itemiterator","dict_reverseitemiterator","odict_iterator","itertools.zip_longest","itertools.pairwise"].contains n&&vs[0]?==some (rawInt _))=true then _ else _) Q E s;rw[if_neg (by intro h;rw[hn,Bool.false_and]at h;cases h)];exact ah hQ))
def GO (K:aq) (a:ai):It:=⟨λi H=>∃xs x,SqL K H a xs/\xs[i]?=some x,λi H x H'=>H'=H/\∀xs,SqL K H a xs->xs[i]?=some x,λi H=>∃xs,SqL K H a xs/\xs.length<=i⟩
def AH (K:aq) (a:ai):It:=⟨λi H=>∃xs x,SqT K H a xs/\xs[i]?=some x,λi H x H'=>H'=H/\∀xs,SqT K H a xs->xs[i]?=some x,λi H=>∃xs,SqT K H a xs/\xs.length<=i⟩
def sO (lo:Int) (n:Nat):It:=⟨λi _=>i<n,λi H x H'=>H'=H/\x=.int (lo+i),λi _=>n<=i⟩
theorem Q6 {P:bh}{w:cn}{K:aq}{tg:bq}(a it:ai):Turn P w K tg (GO K a) [it] it (λi h=>h.IsListIter it a i) where
 mem:=by simp
 obj:=λi h st b hb=>by
  have e:b=it:=by simpa using hb
  subst e;obtain⟨o,e,c,d⟩:=st;exact⟨o,e,λv z=>by rw[d]at z;cases z⟩
 keep:=λi h h' st k=>st.at λo e=>k it (by simp) o e
 item:=by intro X hP hw hK hc i pins s σ H E I hf st hg;subst hP hw hK;obtain⟨xs,x,hq,hx⟩:=hg;obtain⟨its,rv,p,hz⟩:=I.list hq;obtain⟨u,hu,ru⟩:=rv.get hx;obtain⟨f0,f1,f2,f3,f4,f5⟩:=hf it (by simp);refine wpAny_pyNext_list_item st p.isList (x:=u) (by simpa using hu) λh' st' sb=>?_;have I1:Inv X pins σ H { s with heap:=h' }:=I.turned (t':=s.toks) (λb o hb e=>(sb.2 b hb).trans e) f0 f1 f3 f4 f5;obtain⟨o,e,c,d⟩:=id st';exact⟨u,rfl,AG (s:={ s with heap:=h' }) e c d (by decide) ⟨x,H,I1,ru,⟨rfl,λys hy=>by rw[I.list_inj hy hq];exact hx⟩,st',λb hb=>(hf b hb).1⟩⟩
 done:=by intro X hP hw hK hc i pins s σ H E I hf st hg;subst hP hw hK;obtain⟨xs,hq,hx⟩:=hg;obtain⟨its,rv,p,hz⟩:=I.list hq;obtain⟨f0,f1,f2,f3,f4,f5⟩:=hf it (by simp);have hl:=rv.length;exact wpAny_pyNext_list_end (I.ok.hd hc) st p.isList (by simp;omega) λh' eb=>⟨rfl,I.turned (t':=s.toks) (λb o hb e=>eb b o hb e) f0 f1 f3 f4 f5⟩
 self:=λ_ _ _ _ _ st h=>wpAny_pyIter_listiter st h
theorem Q7 {P:bh}{w:cn}{K:aq}{tg:bq}(a it:ai):Turn P w K tg (AH K a) [it] it (λi h=>h.IsTupleIter it a i) where
 mem:=by simp
 obj:=λi h st b hb=>by
  have e:b=it:=by simpa using hb
  subst e;obtain⟨o,e,c,d⟩:=st;exact⟨o,e,λv z=>by rw[d]at z;cases z⟩
 keep:=λi h h' st k=>st.at λo e=>k it (by simp) o e
 item:=by intro X hP hw hK hc i pins s σ H E I hf st hg;subst hP hw hK;obtain⟨xs,x,hq,hx⟩:=hg;obtain⟨its,rv,p,hz⟩:=I.tuple hq;obtain⟨u,hu,ru⟩:=rv.get hx;obtain⟨f0,f1,f2,f3,f4,f5⟩:=hf it (by simp);refine wpAny_pyNext_tuple_item st (show s.heap.IsTuple a its.toArray from p) (x:=u) (by simpa using hu) λh' st' sb=>?_;have I1:Inv X pins σ H { s with heap:=h' }:=I.turned (t':=s.toks) (λb o hb e=>(sb.2 b hb).trans e) f0 f1 f3 f4 f5;obtain⟨o,e,c,d⟩:=id st';exact⟨u,rfl,AG (s:={ s with heap:=h' }) e c d (by decide) ⟨x,H,I1,ru,⟨rfl,λys hy=>by rw[I.tuple_inj hy hq];exact hx⟩,st',λb hb=>(hf b hb).1⟩⟩
 done:=by intro X hP hw hK hc i pins s σ H E I hf st hg;subst hP hw hK;obtain⟨xs,hq,hx⟩:=hg;obtain⟨its,rv,p,hz⟩:=I.tuple hq;obtain⟨f0,f1,f2,f3,f4,f5⟩:=hf it (by simp);have hl:=rv.length;exact wpAny_pyNext_tuple_end (I.ok.hd hc) st (show s.heap.IsTuple a its.toArray from p) (by simp;omega) λh' eb=>⟨rfl,I.turned (t':=s.toks) (λb o hb e=>eb b o hb e) f0 f1 f3 f4 f5⟩
 self:=λ_ _ _ _ _ st h=>wpAny_pyIter_tupleiter st h
theorem Q8 {P:bh}{w:cn}{K:aq}{tg:bq}(it:ai) (lo:Int) (n:Nat):Turn P w K tg (sO lo n) [it] it (λi h=>IsRangeIter h it (lo+(i:Nat)*1) ((n:Int) - (i:Nat)) 1) where
 mem:=by simp
 obj:=λi h st b hb=>by
  have e:b=it:=by simpa using hb
  subst e;exact⟨_,st,λv z=>by
   have z':Data.fields _=Data.cell v:=z
   cases z'⟩
 keep:=λi h h' st k=>k it (by simp) _ st
 item:=by intro X hP hw hK hc i pins s σ H E I hf st hg;subst hP hw hK;obtain⟨f0,f1,f2,f3,f4,f5⟩:=hf it (by simp);have W:=Walks.range (prog:=X.prog) (w:=X.w) (I.ok.hd hc) it lo 1 n;refine W.item i s _ _ hg st λv h' tk hv st' kk=>?_;obtain⟨t,rfl⟩:=hv;have I1:Inv X pins σ H { s with heap:=h',toks:=tk }:=I.turned (λb o hb e=>kk b o (by simpa using hb) e) f0 f1 f3 f4 f5;refine⟨_,rfl,AG (s:={ s with heap:=h',toks:=tk }) (n := "range_iterator") st' rfl rfl (by decide) ⟨.int (lo+i),H,I1,⟨t, ?_⟩,⟨rfl,rfl⟩,st',λb hb=>(hf b hb).1⟩⟩;rw[Int.mul_one]
 done:=by intro X hP hw hK hc i pins s σ H E I hf st hg;subst hP hw hK;obtain⟨f0,f1,f2,f3,f4,f5⟩:=hf it (by simp);exact wpAny_pyNext_range_end (I.ok.hd hc) st (by have:n<=i:=hg;omega) λh' eb=>⟨rfl,I.turned (t':=s.toks) (λb o hb e=>eb b o hb e) f0 f1 f3 f4 f5⟩
 self:=λ_ _ _ _ _ st h=>wpAny_pyIter_rangeiter st h
section
variable{X:Cx}{tg:bq}
def Q9 (K:aq) (tl:TE):TI:=λσ H R=>tl σ H λx H1=>∃a,x=.ref a/\(∃xs,SqL K H1 a xs)/\R (GO K a) H1
def RA (K:aq) (tl:TE):TI:=λσ H R=>tl σ H λx H1=>∃a,x=.ref a/\(∃xs,SqT K H1 a xs)/\R (AH K a) H1
theorem RC {l:bq}{tl:TE}(hl:PE X l tl):PI X tg l (Q9 X.K tl):=by
 intro pins s σ H R I h;refine aV (hl pins s σ H _ I h) λv s1 ⟨x,H1,I1,r1,q1⟩=>?_;obtain⟨a,e,⟨xs,hq⟩,q⟩:=q1;subst e;cases r1;obtain⟨its,rv,p,hz⟩:=I1.list hq;refine nq p.isList ?_;refine⟨s1.heap.objs.size,[s1.heap.objs.size],_,_,H1,rfl,I1.kept (t':=s1.toks) λb o e=>aj _ e,Q6 a _,⟨_,ax _ rfl,rfl,rfl⟩,λb hb=>?_,q⟩;have e:b=s1.heap.objs.size:=by simpa using hb
 subst e;exact I1.fpOk (ak _) (I1.hok.fresh (ak _))
theorem RD {l:bq}{tl:TE}(hl:PE X l tl):PI X tg l (RA X.K tl):=by
 intro pins s σ H R I h;refine aV (hl pins s σ H _ I h) λv s1 ⟨x,H1,I1,r1,q1⟩=>?_;obtain⟨a,e,⟨xs,hq⟩,q⟩:=q1;subst e;cases r1;obtain⟨its,rv,p,hz⟩:=I1.tuple hq;refine pg (show s1.heap.IsTuple a its.toArray from p) ?_;refine⟨s1.heap.objs.size,[s1.heap.objs.size],_,_,H1,rfl,I1.kept (t':=s1.toks) λb o e=>aj _ e,Q7 a _,⟨_,ax _ rfl,rfl,rfl⟩,λb hb=>?_,q⟩;have e:b=s1.heap.objs.size:=by simpa using hb
 subst e;exact I1.fpOk (ak _) (I1.hok.fresh (ak _))
theorem GP {pins:List (ai×Obj)}{σ:St}{H:Hp}{s:ag}{R:It->Hp->Prop}{E:af->ag->Prop}{lo hi:Int}{t u v:Tok}{tk:Nat}(I:Inv X pins σ H s) (h1 : -(2 ^ 62)<=lo) (h2:lo<2 ^ 62) (h3 : -(2 ^ 62)<=hi) (h4:hi<2 ^ 62)
  (q:R (sO lo (hi - lo).toNat) H):wpAny (model X.prog X.w) X.A (pyIter (.ref s.heap.objs.size)) (GN X pins σ tg R) E { s with heap:=s.heap.push { cls:=.type "range",data:=.fields #[.int lo t,.int hi u,.int 1 v] },toks:=tk }:=by
 refine wpAny_pyIter_range (IsRange.new ..) (small_one h1 h2 h3 h4) ?_;have I1:Inv X pins σ H { s with heap:=s.heap.push { cls:=.type "range",data:=.fields #[.int lo t,.int hi u,.int 1 v] },toks:=tk }:=I.kept λb o e=>aj _ e;refine⟨(s.heap.push { cls:=.type "range",data:=.fields #[.int lo t,.int hi u,.int 1 v] }).objs.size,[(s.heap.push { cls:=.type "range",data:=.fields #[.int lo t,.int hi u,.int 1 v] }).objs.size],_,_,H,rfl,
  I1.kept (t':=tk) λb o e=>aj _ e,Q8 _ lo (hi - lo).toNat, ?_,λb hb=>?_,q⟩
 ·have e1:lo+((0:Nat):Int)*1=lo:=by simp
  have e2:(((hi - lo).toNat:Nat):Int) - ((0:Nat):Int)=Builtin.Range.rangeSize lo hi 1:=by rw[rangeSize_one];split <;> omega
  show IsRangeIter _ _ (lo+((0:Nat):Int)*1) ((((hi - lo).toNat:Nat):Int) - ((0:Nat):Int)) 1;rw[e1,e2];exact ax _ rfl
 ·have e:b=(s.heap.push { cls:=.type "range",data:=.fields #[.int lo t,.int hi u,.int 1 v] }).objs.size:=by simpa using hb
  subst e;exact I1.fpOk (ak _) (I1.hok.fresh (ak _))
def RE (ta:TA):TI:=λσ H R=>ta σ H λvs H1=>∃j:Int,vs=[.int j]/\-(2 ^ 62)<=j/\j<2 ^ 62/\R (sO 0 j.toNat) H1
def RF (ta:TA):TI:=λσ H R=>ta σ H λvs H1=>∃i j:Int,vs=[.int i,.int j]/\(-(2 ^ 62)<=i/\i<2 ^ 62/\-(2 ^ 62)<=j/\j<2 ^ 62)/\R (sO i (j - i).toNat) H1
theorem RG {a:bq}{ta:TA}{p pos:Pos}(hg:Gl X "range") (hm:X.mg "range" = none) (ha:PA X [a] ta) (hs:au [a] X.env=[(false,eval a X.env)]:=by rfl):PI X tg (.Call (.Name "range" p) [a] [] pos) (RE ta):=by
 intro pins s σ H R I h;refine Call_ (pE I hg hm boot_range (ki (aV (ha pos pins s σ H _ I h) λus s1 ⟨vs,H1,I1,r1,q1⟩=>?_) hs rfl));obtain⟨j,e,q1,q2,q⟩:=q1;subst e
 cases r1 with
 |cons r rr=>cases rr;obtain⟨t,rfl⟩:=r;exact call_range_1 (GP I1 (by omega) (by omega) q1 q2 (by simpa using q))
theorem RH {a b:bq}{ta:TA}{p pos:Pos}(hg:Gl X "range") (hm:X.mg "range" = none) (ha:PA X [a,b] ta) (hs:au [a,b] X.env=[(false,eval a X.env),(false,eval b X.env)]:=by rfl) (hs2:au [b] X.env=[(false,eval b X.env)]:=by rfl):
  PI X tg (.Call (.Name "range" p) [a,b] [] pos) (RF ta):=by
 intro pins s σ H R I h;refine Call_ (pE I hg hm boot_range (ki (aV (ha pos pins s σ H _ I h) λus s1 ⟨vs,H1,I1,r1,q1⟩=>?_) (by rw[hs,hs2]) (by rw[hs2];rfl)));obtain⟨i,j,e,⟨q1,q2,q3,q4⟩,q⟩:=q1;subst e
 cases r1 with
 |cons r rr=>
  cases rr with
  |cons r' rr=>cases rr;obtain⟨t,rfl⟩:=r;obtain⟨t',rfl⟩:=r';exact call_range_2 (GP I1 q1 q2 q3 q4 q)
def RI (wi:TI) (g:TG) (tb:TS):TS:=λD σ H=>wi σ H λJ H1=>∃W:Nat->Nat->St->Hp->Prop,(∃m,W 0 m σ H1)/\∀i m σ H,W i m σ H->
 (J.stop i H/\D.nx σ H)∨(J.go i H/\∃N:St->Hp->Prop,(∀σ' H',N σ' H'->∃m',m'<m/\W (i+1) m' σ' H')/\∀x H',J.yld i H x H'->g x σ H' λσ2 H2=>tb { D with nx:=N,ct:=N,bk:=D.nx } σ2 H2)
def jR (fp:List ai) (h:cu):List (ai×Obj):=fp.filterMap λb=>(h.get? b).map λo=>(b,o)
theorem qH {fp:List ai}{h:cu}{b:ai}{o:Obj}(hb:b∈fp) (e:h.get? b=some o):(b,o)∈jR fp h:=jw.mpr ⟨b,hb,by rw[e];rfl⟩
theorem AI {fp:List ai}{h:cu}{p:ai×Obj}(hp:p∈jR fp h):p.1∈fp/\h.get? p.1=some p.2:=by
 obtain⟨b,hb,e⟩:=jw.mp hp
 cases q:h.get? b with
 |none=>rw[q]at e;cases e
 |some o=>rw[q]at e;have e':(b,o)=p:=cq e;subst e';exact⟨hb,q⟩
theorem Inv.pinned {pins:List (ai×Obj)}{σ:St}{H:Hp}{s:ag}{fp:List ai}(I:Inv X pins σ H s) (hf:∀b∈fp,dG X pins H b) (ho:∀b∈fp,∃o,s.heap.get? b=some o/\∀v,o.data≠.cell v):Inv X (pins++jR fp s.heap) σ H s:=I.pins_of λp hp=>(cg.mp hp).elim (λz=>I.pin p (cm _ z)) λz=>by obtain⟨hb,e⟩:=AI z;obtain⟨f0,f1,f2,_⟩:=hf p.1 hb;obtain⟨o,e',d⟩:=ho p.1 hb;rw[e]at e';cases e';exact⟨e,f0,f1,f2,d⟩
theorem Inv.unpinned {pins pl:List (ai×Obj)}{σ:St}{H:Hp}{s:ag}(I:Inv X (pins++pl) σ H s):Inv X pins σ H s:=I.pins_of λp hp=>I.pin p (cm _ (jb _ hp))
theorem RJ {iter:bq}{body:List gz}{wi:TI}{g:TG}{tb:TS}{pos:Pos}(hp:Ab (model X.prog X.w) X.A X.env X.xe) (hc:X.calm=true) (hi:PI X tg iter wi) (hg:PG X tg g) (hb:PSs X body tb)
  (hs:∀x,foldedSetIterable iter X.env x=pure x:=by intro _;rfl):PS X (.For tg iter body [] pos) (RI wi g tb):=by
 intro pins s σ H D I h;refine wpAny_For (aV (hi pins s σ H _ I h) λv s1 h1=>aV h1 λitv s2 h2=>?_) hs;obtain⟨it,fp,tn,J,H2,e,I2,T,st2,f2,W,⟨m0,w0⟩,turn⟩:=h2;subst e;have stat:∀{H':Hp},(∀b∈fp,H' b=none)->∀b∈fp,dG X pins H' b:=λhn b hb=>⟨hn b hb,(f2 b hb).2⟩
 refine codeAny_forLoop_any (λn s'=>∃i σ' H',Inv X pins σ' H' s'/\tn i s'.heap/\(∀b∈fp,H' b=none)/\W i n σ' H') ?_ m0 ⟨0,σ,H2,I2,st2,λb hb=>(f2 b hb).1,w0⟩
 rintro n s3 ⟨i,σ3,H3,I3,st3,fr3,w3⟩
 rcases turn i n σ3 H3 w3 with⟨stop,qn⟩|⟨go,N,hN,step⟩
 ·refine nc hp (aV (T.done X rfl rfl rfl hc i pins s3 σ3 H3 X.xe I3 (stat fr3) st3 stop) λr s4 ⟨hr,I4⟩=>?_);subst hr;exact pd ⟨σ3,H3,I4,qn⟩
 ·refine nc hp (aV (T.item X rfl rfl rfl hc i pins s3 σ3 H3 X.xe I3 (stat fr3) st3 go) λr s4 ⟨u,hr,h4⟩=>?_);subst hr;refine nc hp (aV h4 λ_ s5 ⟨x,H5,I5,r5,y5,st5,fr5⟩=>?_);have I5':=I5.pinned (stat fr5) (T.obj _ _ st5);refine nc hp (aV (hg _ s5 σ3 H5 x u _ I5' r5 (step x H5 y5)) λ_ s6 ⟨σ6,H6,I6,q6⟩=>?_);refine nc hp (aV (hb _ s6 σ6 H6 _ I6 q6) λf s7 q7=>?_);have again:∀{σ7:St}{H7:Hp},Inv X (pins++jR fp s5.heap) σ7 H7 s7->N σ7 H7->∃m,m<n/\∃i σ' H',Inv X pins σ' H' s7/\tn i s7.heap/\(∀b∈fp,H' b=none)/\W i m σ' H':=λ{σ7 H7} I7 n7=>by obtain⟨m',hm,w7⟩:=hN σ7 H7 n7;refine⟨m',hm,i+1,σ7,H7,I7.unpinned,T.keep _ _ _ st5 λb hb o e=>(I7.pin (b,o) (cm _ (cm _ (qH hb e)))).1,λb hb=>?_,w7⟩;obtain⟨o,e,d⟩:=T.obj _ _ st5 b hb;exact(I7.pin (b,o) (cm _ (cm _ (qH hb e)))).2.1
  cases f with
  |next=>obtain⟨σ7,H7,I7,n7⟩:=q7;exact again I7 n7
  |cont=>obtain⟨σ7,H7,I7,n7⟩:=q7;exact again I7 n7
  |brk=>obtain⟨σ7,H7,I7,q7⟩:=q7;exact⟨σ7,H7,I7.unpinned,q7⟩
  |ret v=>obtain⟨x7,σ7,H7,I7,r7,q7⟩:=q7;exact⟨x7,σ7,H7,I7.unpinned,r7,q7⟩
end
abbrev R2:=V->V->Hp->VK->Prop
def OpR (X:Cx) (f:af->af->Sem af) (r:R2):Prop:=
 ∀(pins:List (ai×Obj)) (s:ag) (σ:St) (H:Hp) (x y:V) (v u:af) (Q:VK),Inv X pins σ H s->RelV x v->RelV y u->r x y H Q->
  wpAny (model X.prog X.w) X.A (f v u) (EP X pins σ Q) X.xe s
def vP (X:Cx) (f:af->Sem af) (r:V->Hp->VK->Prop):Prop:=
 ∀(pins:List (ai×Obj)) (s:ag) (σ:St) (H:Hp) (x:V) (v:af) (Q:VK),Inv X pins σ H s->RelV x v->r x H Q->
  wpAny (model X.prog X.w) X.A (f v) (EP X pins σ Q) X.xe s
def CallR (X:Cx) (f:af) (r:List V->Hp->VK->Prop):Prop:=
 ∀(pins:List (ai×Obj)) (s:ag) (σ:St) (H:Hp) (xs:List V) (us:List af) (Q:VK),Inv X pins σ H s->Vals xs us->r xs H Q->
  wpAny (model X.prog X.w) X.A (call f us) (EP X pins σ Q) X.xe s
def RK (X:Cx) (r:V->Hp->(Bool->Hp->Prop)->Prop):Prop:=
 ∀(pins:List (ai×Obj)) (s:ag) (σ:St) (H:Hp) (x:V) (v:af) (Q:Bool->Hp->Prop),Inv X pins σ H s->RelV x v->r x H Q->
  wpAny (model X.prog X.w) X.A (truthy v) (TP X pins σ Q) X.xe s
def sP (r:R2) (ta tb:TE):TE:=λσ H Q=>ta σ H λx H1=>tb σ H1 λy H2=>r x y H2 Q
def RM (r:V->Hp->VK->Prop) (ta:TE):TE:=λσ H Q=>ta σ H λx H1=>r x H1 Q
def rI (C:Int->Int->Prop) (g:Int->Int->V):R2:=λx y H Q=>∃i j,x=.int i/\y=.int j/\C i j/\Q (g i j) H
def jS (g:Int->Int->V):R2:=λx y H Q=>∃i j,x=.int i/\y=.int j/\Q (g i j) H
def rU (g:Int->V):V->Hp->VK->Prop:=λx H Q=>∃i,x=.int i/\Q (g i) H
section
variable{X:Cx}{a b c:bq}{ta tb tc:TE}{pos:Pos}
theorem AJ (ha:PE X a ta) (hb:PE X b tb) {pins:List (ai×Obj)}{s:ag}{σ:St}{H:Hp}{R:V->V->Hp->Prop}(I:Inv X pins σ H s)
  (h:ta σ H λx H1=>tb σ H1 λy H2=>R x y H2) {Q:af->ag->Prop}{f:af->af->Sem af}
  (hf:∀v u s2 x y H2,Inv X pins σ H2 s2->RelV x v->RelV y u->R x y H2->wpAny (model X.prog X.w) X.A (f v u) Q X.xe s2):
  wpAny (model X.prog X.w) X.A (eval a X.env) (λv s₁=>wpAny (model X.prog X.w) X.A (eval b X.env) (λu s₂=>wpAny (model X.prog X.w) X.A (f v u) Q X.xe s₂) X.xe s₁) X.xe s:=by
 refine aV (ha pins s σ H _ I h) λv s1 ⟨x,H1,I1,r1,q1⟩=>?_;refine aV (hb pins s1 σ H1 _ I1 q1) λu s2 ⟨y,H2,I2,r2,q2⟩=>?_;exact hf v u s2 x y H2 I2 r1 r2 q2
theorem RN {op:Operator}{r:R2}(ho:OpR X (binaryOp op) r) (ha:PE X a ta) (hb:PE X b tb):PE X (.BinOp a op b pos) (sP r ta tb):=by intro pins s σ H Q I h;exact wpAny_BinOp (AJ ha hb I h λv u s2 x y H2 I2 rx ry q=>ho pins s2 σ H2 x y v u Q I2 rx ry q)
theorem RO {op:UnaryOp}{r:V->Hp->VK->Prop}(ho:vP X (unaryOp op) r) (ha:PE X a ta):PE X (.UnaryOp op a pos) (RM r ta):=by intro pins s σ H Q I h;exact UnaryOp_ (aV (ha pins s σ H _ I h) λv s1 ⟨x,H1,I1,r1,q1⟩=>ho pins s1 σ H1 x v Q I1 r1 q1)
theorem vQ {f:af->af->Sem af}{C:Int->Int->Prop}{g:Int->Int->Int}
  (rule:∀(i j:Int) (t u:Tok) (s:ag) (Q:af->ag->Prop) (E:af->ag->Prop),C i j->Q (.int (g i j) s.toks) { s with toks:=s.toks+1 }->wpAny (model X.prog X.w) X.A (f (.int i t) (.int j u)) Q E s):
  OpR X f (rI C λi j=>.int (g i j)):=by
 intro pins s σ H x y v u Q I rx ry h;obtain⟨i,j,rfl,rfl,hc,q⟩:=h;obtain⟨t,rfl⟩:=rx;obtain⟨t',rfl⟩:=ry;exact rule i j t t' s _ _ hc ⟨.int (g i j),H,I.tok _,⟨_,rfl⟩,q⟩
theorem GQ {f:af->af->Sem af}{g:Int->Int->Int}
  (rule:∀(i j:Int) (t u:Tok) (s:ag) (Q:af->ag->Prop) (E:af->ag->Prop),Q (.int (g i j) s.toks) { s with toks:=s.toks+1 }->wpAny (model X.prog X.w) X.A (f (.int i t) (.int j u)) Q E s):
  OpR X f (jS λi j=>.int (g i j)):=by
 intro pins s σ H x y v u Q I rx ry h;obtain⟨i,j,rfl,rfl,q⟩:=h;obtain⟨t,rfl⟩:=rx;obtain⟨t',rfl⟩:=ry;exact rule i j t t' s _ _ ⟨.int (g i j),H,I.tok _,⟨_,rfl⟩,q⟩
theorem vR {f:af->af->Sem af}{g:Int->Int->Bool}
  (rule:∀(i j:Int) (t u:Tok) (s:ag) (Q:af->ag->Prop) (E:af->ag->Prop),Q (.bool (g i j)) s->wpAny (model X.prog X.w) X.A (f (.int i t) (.int j u)) Q E s):
  OpR X f (jS λi j=>.bl (g i j)):=by
 intro pins s σ H x y v u Q I rx ry h;obtain⟨i,j,rfl,rfl,q⟩:=h;obtain⟨t,rfl⟩:=rx;obtain⟨t',rfl⟩:=ry;exact rule i j t t' s _ _ ⟨.bl (g i j),H,I,rfl,q⟩
def AK (i j:Int):Prop:=0<=j/\j<=1000000/\i.natAbs<2 ^ 64
def CMul (i j:Int):Prop:=(-(2 ^ 64)<i/\i<2 ^ 64)∨(-(2 ^ 64)<j/\j<2 ^ 64)
theorem CMul.ok {i j:Int}(h:CMul i j):IntMulOk i j:=by
 rcases h with⟨h1,h2⟩|⟨h1,h2⟩
 ·exact .of_left (intBits_le_64 h1 h2)
 ·exact .of_right (intBits_le_64 h1 h2)
theorem op_add:OpR X (binaryOp .Add) (jS λi j=>.int (i+j)):=GQ λ_ _ _ _ _ _ _ q=>add_int q
theorem RP:OpR X (binaryOp .Sub) (jS λi j=>.int (i - j)):=GQ λ_ _ _ _ _ _ _ q=>sub_int q
theorem RQ:OpR X (binaryOp .Mult) (rI CMul λi j=>.int (i*j)):=vQ λ_ _ _ _ _ _ _ hc q=>mul_int q hc.ok
theorem RR:OpR X (binaryOp .Mod) (rI (λ_ j=>0<j) λi j=>.int (i % j)):=vQ λi j _ _ _ _ _ hc q=>by have h1:(0:Int)<j:=hc;exact mod_int' (by omega) (by rw[Int.fmod_eq_emod_of_nonneg i (by omega)];exact q)
theorem RS:OpR X (binaryOp .Pow) (rI AK λi j=>.int (i ^ j.toNat)):=vQ λ_ _ _ _ _ _ _ hc q=>pow_int_small hc.1 hc.2.1 hc.2.2 q
theorem RT {f:af->Sem af}{g:Int->Int}
  (rule:∀(i:Int) (t:Tok) (s:ag) (Q:af->ag->Prop) (E:af->ag->Prop),Q (.int (g i) s.toks) { s with toks:=s.toks+1 }->wpAny (model X.prog X.w) X.A (f (.int i t)) Q E s):
  vP X f (rU λi=>.int (g i)):=by
 intro pins s σ H x v Q I rx h;obtain⟨i,rfl,q⟩:=h;obtain⟨t,rfl⟩:=rx;exact rule i t s _ _ ⟨.int (g i),H,I.tok _,⟨_,rfl⟩,q⟩
theorem RU:vP X (unaryOp .USub) (rU λi=>.int (-i)):=RT λ_ _ _ _ _ q=>neg_int q
end
section
variable{X:Cx}{a b c:bq}{ta tb tc:TE}{pos:Pos}
theorem GR:OpR X (compareOp .Lt) (jS λi j=>.bl (decide (i<j))):=vR λ_ _ _ _ _ _ _ q=>lt_int q
theorem GS:OpR X (compareOp .LtE) (jS λi j=>.bl (decide (i<=j))):=vR λ_ _ _ _ _ _ _ q=>le_int q
theorem GU:OpR X (compareOp .Gt) (jS λi j=>.bl (decide (j<i))):=vR λ_ _ _ _ _ _ _ q=>gt_int q
theorem RV:OpR X (compareOp .GtE) (jS λi j=>.bl (decide (j<=i))):=vR λ_ _ _ _ _ _ _ q=>ge_int q
theorem OpR.or {f:af->af->Sem af}{r r':R2}(h:OpR X f r) (h':OpR X f r'):OpR X f (λx y H Q=>r x y H Q∨r' x y H Q):=by
 intro pins s σ H x y v u Q I rx ry q
 rcases q with q|q
 ·exact h pins s σ H x y v u Q I rx ry q
 ·exact h' pins s σ H x y v u Q I rx ry q
theorem mJ (b:bq) {op:CmpOp}(h:op≠.In:=by decide) (h2:op≠.NotIn:=by decide):behindInMarks op b=false:=by
 have e1:(op==CmpOp.In)=false:=by cases op <;> first|rfl|exact absurd rfl h
 have e2:(op==CmpOp.NotIn)=false:=by cases op <;> first|rfl|exact absurd rfl h2
 cases b <;> simp[behindInMarks,e1,e2]
theorem RW {op:CmpOp}{r:R2}(ho:OpR X (compareOp op) r) (ha:PE X a ta) (hb:PE X b tb) (hm:behindInMarks op b=false):PE X (.Compare a [op] [b] pos) (sP r ta tb):=by intro pins s σ H Q I h;exact wpAny_Compare1 (AJ ha hb I h λv u s2 x y H2 I2 rx ry q=>ho pins s2 σ H2 x y v u Q I2 rx ry q) hm
def RX (t:TE):TT:=λσ H Q=>t σ H λx H'=>∃k,x=.bl k/\Q k H'
theorem RY {op:CmpOp}{r:R2}(ho:OpR X (compareOp op) r) (ha:PE X a ta) (hb:PE X b tb) (hm:behindInMarks op b=false):PT X (.Compare a [op] [b] pos) (RX (sP r ta tb)):=by intro pins s σ H Q I h;refine wpAny_isTrue_Compare1 (aV (ha pins s σ H _ I h) λv s1 ⟨x,H1,I1,r1,q1⟩=>aV (hb pins s1 σ H1 _ I1 q1) λu s2 ⟨y,H2,I2,r2,q2⟩=>aV (ho pins s2 σ H2 x y v u _ I2 r1 r2 q2) λc s3 ⟨z,H3,I3,r3,k,e,q3⟩=>?_) hm;subst e;cases r3;exact kg ⟨H3,I3,q3⟩
def GV (r r':R2) (ta tb tc:TE):TE:=λσ H Q=>ta σ H λx H1=>tb σ H1 λy H2=>r x y H2 λz H3=>∃k,z=.bl k /\
 (if k=true then tc σ H3 λw' H4=>r' y w' H4 Q else Q (.bl false) H3)
theorem RZ {op op':CmpOp}{r r':R2}(ho:OpR X (compareOp op) r) (ho':OpR X (compareOp op') r') (ha:PE X a ta) (hb:PE X b tb) (hc:PE X c tc)
  (hm:lastMarks [op,op'] [b,c]=false:=by with_unfolding_all rfl):PE X (.Compare a [op,op'] [b,c] pos) (GV r r' ta tb tc):=by
 intro pins s σ H Q I h;refine Compare_chain (aV (ha pins s σ H _ I h) λv s1 ⟨x,H1,I1,r1,q1⟩=>chain_link (aV (hb pins s1 σ H1 _ I1 q1) λu s2 ⟨y,H2,I2,r2,q2⟩=>aV (ho pins s2 σ H2 x y v u _ I2 r1 r2 q2) λd s3 ⟨z,H3,I3,r3,k,e,q3⟩=>?_)) hm;subst e;cases r3;refine kg ?_
 cases k with
 |false=>exact ite_ff ⟨.bl false,H3,I3,rfl,q3⟩
 |true=>exact ite_tt (chain_last (aV (hc pins s3 σ H3 _ I3 q3) λw' s4 ⟨z',H4,I4,r4,q4⟩=>ho' pins s4 σ H4 y z' u w' Q I4 r2 r4 q4))
def GW (K:aq) (x:V) (H:Hp) (k:Bool):Prop:=
 match x with
 | .non=>k=false
 | .bl b=>k=b
 | .int i=>k=(i != 0)
 | .str y=>y.length<=bw/\k=((y.length:Int) != 0)
 | .byt y=>y.size<=bw/\k=((y.size:Int) != 0)
 | .ref p=>(∃xs,SqL K H p xs/\k=!xs.isEmpty)∨(∃xs,SqT K H p xs/\k=!xs.isEmpty)∨∃kvs,H p=some (.dK kvs)/\k=!kvs.isEmpty
 |_=>False
theorem R0 {κ:Type}{kvs:List (κ×V)}{vs:List (κ×af)}(r:KV kvs vs):(!vs.isEmpty)=!kvs.isEmpty:=by cases r <;> rfl
theorem GX {xs:List V}{its:List af}(r:Vals xs its):(!its.toArray.isEmpty)=!xs.isEmpty:=by cases r <;> simp
theorem qI:(bw:Nat)<2 ^ 63:=by rw[jn];decide
theorem R3:RK X (λx H Q=>∃k,GW X.K x H k/\Q k H):=by
 intro pins s σ H x v Q I rx h;obtain⟨k,e,q⟩:=h;have hl:=qI;have hs:bw=16777216:=jn
 cases x with
 |non=>cases rx;have e':k=false:=e;subst e';exact truthy_none ⟨H,I,q⟩
 |bl b=>cases rx;have e':k=b:=e;subst e';exact kg ⟨H,I,q⟩
 |int i=>obtain⟨t,rfl⟩:=rx;have e':k=(i != 0):=e;subst e';exact PySem.P.truthy_int ⟨H,I,q⟩
 |str y=>obtain⟨t,rfl⟩:=rx;obtain⟨hy,e'⟩:y.length<=bw/\k=((y.length:Int) != 0):=e;subst e';exact PySem.P.truthy_str (by omega) ⟨H,I.tok _,q⟩
 |byt y=>obtain⟨t,rfl⟩:=rx;obtain⟨hy,e'⟩:y.size<=bw/\k=((y.size:Int) != 0):=e;subst e';exact PySem.W.truthy_bytes (by omega) ⟨H,I.tok _,q⟩
 |ref p=>
  cases rx;have e':(∃xs,SqL X.K H p xs/\k=!xs.isEmpty)∨(∃xs,SqT X.K H p xs/\k=!xs.isEmpty)∨∃kvs,H p=some (.dK kvs)/\k=!kvs.isEmpty:=e
  rcases e' with⟨xs,hx,e'⟩|⟨xs,hx,e'⟩|⟨kvs,hx,e'⟩
  ·subst e';obtain⟨its,r,pl,hz⟩:=I.list hx;have hlen:=r.length;exact wpAny_truthy_list pl.isList (by simp only[av];omega) ⟨H,I.tok _,by rw[GX r];exact q⟩
  ·subst e';obtain⟨its,r,pl,hz⟩:=I.tuple hx;have hlen:=r.length;exact truthy_tuple pl (by simp only[av];omega) ⟨H,I.tok _,by rw[GX r];exact q⟩
  ·subst e';obtain⟨hz,hS,vs,r,m⟩:kvs.length<=bw/\(p==sysModules)=false/\∃vs,KV kvs vs/\s.heap.DictOf (zW X.prog X.w) p vs:=I.hok p _ hx;have hlen:kvs.length=vs.length:=Paired.length r;exact wpAny_truthy_dict hS m (by omega) ⟨H,I.tok _,by rw[R0 r];exact q⟩
 |_=>exact(show False from e).elim
theorem R4 (ha:PE X a ta) (he:∀whole,isTrue a X.env whole=(do let v <-whole;standAt a.pos;holding [v] (truthy v))):
  PT X a (λσ H Q=>ta σ H λx H'=>∃k,GW X.K x H' k/\Q k H'):=by
 intro pins s σ H Q I h;exact isTrue_plain (aV (ha pins s σ H _ I h) λv s1 ⟨x,H1,I1,r1,q1⟩=>R3 pins s1 σ H1 x v Q I1 r1 q1) (he _)
theorem hJ {x:V}{us:List af}(r:Vals [x] us):∃u,us=[u]/\RelV x u:=by
 cases r with
 |cons r1 r2=>cases r2;exact⟨_,rfl,r1⟩
theorem sQ {x y:V}{us:List af}(r:Vals [x,y] us):∃u w',us=[u,w']/\RelV x u/\RelV y w':=by
 cases r with
 |cons r1 r2=>
  cases r2 with
  |cons r3 r4=>cases r4;exact⟨_,_,rfl,r1,r3⟩
theorem R5:CallR X (.builtin "abs") (λxs H Q=>∃i,xs=[.int i]/\Q (.int (if i<0 then -i else i)) H):=by intro pins s σ H xs us Q I r h;obtain⟨i,rfl,q⟩:=h;obtain⟨u,rfl,t,rfl⟩:=hJ r;exact call_abs_int λu tk=>⟨.int (if i<0 then -i else i),H,I.tok _,⟨_,rfl⟩,q⟩
theorem R6 (hc:X.calm=true):CallR X (.builtin "max") (λxs H Q=>∃i j,xs=[.int i,.int j]/\Q (.int (if j>i then j else i)) H):=by
 intro pins s σ H xs us Q I r h;obtain⟨i,j,rfl,q⟩:=h;obtain⟨u,w',rfl,⟨t,rfl⟩,⟨t',rfl⟩⟩:=sQ r;refine max_two_ints (I.ok.hd hc) λh' tk k=>⟨_,H,I.kept k, ?_,q⟩
 by_cases hj:j>i
 ·rw[if_pos hj,if_pos hj];exact⟨_,rfl⟩
 ·rw[if_neg hj,if_neg hj];exact⟨_,rfl⟩
theorem R7 (hc:X.calm=true):CallR X (.builtin "min") (λxs H Q=>∃i j,xs=[.int i,.int j]/\Q (.int (if j<i then j else i)) H):=by
 intro pins s σ H xs us Q I r h;obtain⟨i,j,rfl,q⟩:=h;obtain⟨u,w',rfl,⟨t,rfl⟩,⟨t',rfl⟩⟩:=sQ r;refine min_two_ints (I.ok.hd hc) λh' tk k=>⟨_,H,I.kept k, ?_,q⟩
 by_cases hj:j<i
 ·rw[if_pos hj,if_pos hj];exact⟨_,rfl⟩
 ·rw[if_neg hj,if_neg hj];exact⟨_,rfl⟩
end
section
variable{prog:bh}{w:cn}{A:cf}{E:af->ag->Prop}{s:ag}{K:aq}{x dx C f:ai}{mA:Str->Option af}{name:Str}{v:af}
end
section
variable{P:bh}{w:cn}{H H':Hp}{h h':cu}{a C dx:ai}{fs fs':List (Str×V)}
end
section
variable{X:Cx}{pins:List (ai×Obj)}{σ:St}{H:Hp}{s:ag}{a C dx:ai}{fs:List (Str×V)}{f:Str}{v:V}{A:cf}{E:af->ag->Prop}
end
section
variable{X:Cx}{o e value:bq}{f:Str}{pos pos' tpos:Pos}{ta tv:TE}
end
section
variable{X:Cx}{pins:List (ai×Obj)}{σ:St}{H:Hp}{s:ag}{A:cf}{E:af->ag->Prop}{Q:af->ag->Prop}{c:af}{b:Bool}
end
structure Room (k:Nat) (A:cf):Prop where
 hd:A.handled=none
 dp:A.depth+3*k+5<recursionLimit
 un:A.units+16*k+200<cLine
theorem Room.mono {j k:Nat}{A:cf}(r:Room k A) (h:j<=k):Room j A:=⟨r.hd,by have:=r.dp;omega,by have:=r.un;omega⟩
theorem Room.deeper {k:Nat}{A:cf}(r:Room (k+1) A) (env:Env):Room k (A.deeper env):=⟨r.hd,by have:=r.dp;show A.depth+1+3*k+5<_;omega,by have:=r.un;show A.units+3+16*k+200<_;omega⟩
theorem Room.depth {k:Nat}{A:cf}(r:Room k A):A.depth<recursionLimit:=by have:=r.dp;omega
theorem Room.units {k:Nat}{A:cf}(r:Room k A):A.units+64<cLine:=by have:=r.un;omega
def GY:TA:=λ_ H Q=>Q [] H
def GZ (ta:TE) (tr:TA):TA:=λσ H Q=>ta σ H λx H1=>tr σ H1 λxs H2=>Q (x::xs) H2
section
variable{X:Cx}{e:bq}{es:List bq}{te:TE}{t:TA}{pos:Pos}
theorem iX:PA X [] GY:=λ_ _ _ _ H Q I h=>Calls.spliced_nil ⟨[],H,I,.nil,h⟩
theorem hO (ha:PE X e te) (hr:PA X es t) (hs:au (e::es) X.env=(false,eval e X.env)::au es X.env:=by rfl):PA X (e::es) (GZ te t):=by intro pos pins s σ H Q I h;rw[hs];show wpAny _ _ (spliced ((false,eval e X.env)::backTo pos (au es X.env))) _ _ s;refine Cy (aV (ha pins s σ H _ I h) λu s1 ⟨x,H1,I1,r1,q1⟩=>?_);exact aV (hr pos pins s1 σ H1 _ I1 q1) λus s2 ⟨xs,H2,I2,r2,q2⟩=>⟨x::xs,H2,I2,.cons r1 r2,q2⟩
def R8 (t:TA):TE:=λσ H Q=>t σ H λxs H1=>xs.length<=bw/\∀p,H1 p=none->Q (.ref p) (upd H1 p (.tup xs))
def R9 (t:TA):TE:=λσ H Q=>t σ H λxs H1=>xs.length<=bw/\∀p,H1 p=none->Q (.ref p) (upd H1 p (.lst xs))
theorem G1 {x1} (h:PA X es t):PE X (.Tuple es x1 pos) (R8 t):=by intro pins s σ H Q I hq;refine wpAny_Tuple_spliced (aV (h pos pins s σ H _ I hq) λus s1 ⟨xs,H1,I1,r,z,q⟩=>⟨by rw[<-r.length];exact z, ?_⟩);have hf:H1 s1.heap.objs.size=none:=I1.hok.fresh (ak _);refine⟨.ref s1.heap.objs.size,upd H1 s1.heap.objs.size (.tup xs),I1.laid (t':=s1.toks) (λb u e=>aj _ e) (ak _) ?_,rfl,q _ hf⟩;exact⟨z,us,r,⟨_,ax _ rfl,rfl,rfl,_,rfl⟩⟩
theorem SA (h:PA X es t):PE X (.List es pos) (R9 t):=by intro pins s σ H Q I hq;refine wpAny_List_spliced (aV (h pos pins s σ H _ I hq) λus s1 ⟨xs,H1,I1,r,z,q⟩=>⟨by rw[<-r.length];exact z, ?_⟩);have hf:H1 s1.heap.objs.size=none:=I1.hok.fresh (ak _);refine⟨.ref s1.heap.objs.size,upd H1 s1.heap.objs.size (.lst xs),I1.laid (t':=s1.toks) (λb u e=>aj _ e) (ak _) ?_,rfl,q _ hf⟩;exact⟨z,us,0,r,ax _ rfl⟩
end
abbrev Sp:=List V->Hp->VK->XK->Prop
abbrev mK:=List Env->Hp->ag->XK->af->ag->Prop
structure Env0 (P:bh) (w:cn) (K:aq) (mg:Str->Option af) (base:cu) (A:cf) (outer:List Env) (s:ag) (H:Hp):Prop where
 frames:A.frames=some outer
 mod:Mod K mg base
 bs:∀b o,base.get? b=some o->s.heap.get? b=some o/\H b=none
 bsz:base.objs.size<=s.heap.objs.size
 funs:s.heap.FunFrames base outer
 frf:∀b∈dH outer,H b=none
 hok:HOk P w H s.heap
 bare:uf s.gens
def CE (outer:List Env) (P:bh) (w:cn) (H:Hp) (s:ag) (Q:VK) (u:af) (s':ag):Prop:=∃v H',s'.os=s.os/\uf s'.gens/\Un (dH outer) [] H H' s.heap s'.heap/\HOk P w H' s'.heap/\RelV v u/\Q v H'
def CR (CX:mK) (outer:List Env) (P:bh) (w:cn) (H:Hp) (s:ag) (Q:VK) (E:XK) (r:yb) (s':ag):Prop:=
 match r with
 | .ok (.ret u)=>CE outer P w H s Q u s'
 | .ok _=>False
 | .error e=>CX outer H s E e s'
structure FnOk (P:bh) (w:cn) (K:aq) (mg:Str->Option af) (base:cu) (CX:mK) (k:Nat) (f:ai) (fd:bo) (ps:List Str) (sp:Sp):Prop where
 len:∀vs H Q E,sp vs H Q E->vs.length=ps.length
 run:∀(A:cf) (outer:List Env) (s:ag) (H:Hp) (args:Args) (us:List af) (vs:List V) (Q:VK) (E:XK),Room k A->Env0 P w K mg base A outer s H->BindsTo s fd args (ps.zip us)->Vals vs us->sp vs H Q E->
  codeAny (model P w) A (.call (.ref f) args) (CR CX outer P w H s Q E) s
section
variable{X:Cx}{pins:List (ai×Obj)}{σ:St}{H:Hp}{s s':ag}
theorem Inv.env0 (I:Inv X pins σ H s):Env0 X.prog X.w X.K X.mg X.base X.A X.stack s H:=⟨I.ok.frames,I.ok.mod,I.bs,dm I.ok.bsz I.sz,I.stack,I.stkFree,I.hok,I.bare⟩
theorem Inv.after {Q:VK}{u:af}(I:Inv X pins σ H s) (h:CE X.stack X.prog X.w H s Q u s'):EP X pins σ Q u s':=by obtain⟨v,H',os,bare,un,hok,r,q⟩:=h;obtain⟨hh,g,d,t,os'⟩:=s';obtain rfl:os'=s.os:=os;exact⟨v,H',I.call (h':=hh) (g':=g) (d':=d) (t':=t) (ch:=[]) un hok bare (λb z=>absurd z (by simp)),r,q⟩
end
def SD (sp:Sp) (dvs:List V) (E:XK) (t:TA):TE:=λσ H Q=>t σ H λvs H1=>sp (vs++dvs) H1 Q E
def Binds (K:aq) (fd:bo) (ps:List Str) (ds:List af):Prop:=∀(s:ag) (us:List af),K.In s.heap->(us++ds).length=ps.length->BindsTo s fd ⟨us,[]⟩ (ps.zip (us++ds))
theorem Binds.all {K:aq}{fd:bo}{ps:List Str}(h:∀us:List af,us.length=ps.length->bindArgs fd ⟨us,[]⟩=pure (ps.zip us)):Binds K fd ps []:=λs us _ hl=>by rw[lj]at hl ⊢;exact .of_eq (h us hl)
def AL (CX:mK) (X:Cx) (E:XK):Prop:=∀(pins:List (ai×Obj)) (σ:St) (H:Hp) (s:ag) (e:af) (s':ag),Inv X pins σ H s->CX X.stack H s E e s'->X.xe e s'
section
variable{X:Cx}{CX:mK}{k:Nat}{f C:ai}{fd:bo}{ps:List Str}{sp:Sp}{dvs:List V}{ds:List af}{E:XK}{x m:Str}{p pos apos:Pos}{e o:bq}{es:List bq}{ta:TE}{t:TA}
theorem SE {pins:List (ai×Obj)}{σ:St}{H:Hp}{s:ag}{Q:VK}{us:List af}{vs:List V}(F:FnOk X.prog X.w X.K X.mg X.base CX k f fd ps sp) (hr:Room k X.A) (hb:Binds X.K fd ps ds) (hd:Vals dvs ds) (hx:AL CX X E)
  (I:Inv X pins σ H s) (r:Vals vs us) (h:sp (vs++dvs) H Q E):wpAny (model X.prog X.w) X.A (call (.ref f) us) (EP X pins σ Q) X.xe s:=by
 have r2:Vals (vs++dvs) (us++ds):=r.append hd;have hl:(us++ds).length=ps.length:=by rw[<-r2.length];exact F.len _ _ _ _ h
 refine yc (pz (F.run X.A X.stack s H ⟨us,[]⟩ (us++ds) (vs++dvs) Q E hr I.env0 (hb s us I.kIn hl) r2 h) λr s' hq=>?_)
 cases r with
 |error e=>exact hx pins σ H s e s' I hq
 |ok fl=>
  cases fl with
  |ret u=>exact I.after hq
  |next=>exact ig hq
  |brk=>exact ig hq
  |cont=>exact ig hq
theorem SF (F:FnOk X.prog X.w X.K X.mg X.base CX k f fd ps sp) (hr:Room k X.A) (hg:Gl X x) (hm:X.mg x=some (.ref f)) (hk:mn X.K (.ref f)=true) (hb:Binds X.K fd ps ds) (hd:Vals dvs ds) (hx:AL CX X E)
  (ha:PA X (e::es) t) (hdb:(x==("__debug__" : Str))=false:=by decide) (he:au (e::es) X.env=(false,eval e X.env)::au es X.env:=by rfl) (hpl:(backTo pos (au es X.env)).any (·.1)=false:=by rfl):
  PE X (.Call (.Name x p) (e::es) [] pos) (SD sp dvs E t):=by
 intro pins s σ H Q I h;refine mq (sN I hg hm ?_ hdb);refine Cd (h₀:=X.base) I.ok.mod.kin hk (aV (ha pos pins s σ H _ I h) λus s1 ⟨vs,H1,I1,r,q⟩=>⟨I1.kIn, ?_⟩) he hpl;exact SE F hr hb hd hx I1 r q
end
section
variable{X:Cx}{CX:mK}{k:Nat}{f C:ai}{fd:bo}{ps ks:List Str}{sp:Sp}{E:XK}{x m:Str}{p pos apos kpos:Pos}{e o:bq}{es:List bq}{kws:List Keyword}{te ta:TE}{t tk:TA}{nm:Option Str}
variable{g:List af->List af->List af}{gV:List V->List V->List V}
end
structure FnScope (N P:List Str) (sc:iq):Prop where
 kind:sc.kind=.function
 co:sc.isCoroutine=false
 gen:sc.isGenerator=false
 nd:N.Nodup
 pre:N.take P.length=P
 par:∀x∈P,sc.names.lookup x=some .local∨sc.names.lookup x=some .cell
 nofree:∀y∈sc.names,y.2≠.free
theorem G2 {kindOf:Str->Option lg}{x:Str}:∀{binds:List (Str×af)}{m:Str->Option af},(∀v,(x,v)∉binds)->bindL kindOf binds m x=m x
 | [],_,_=>rfl
 |(n,v)::r,m,h=>by
  unfold bindL;rw[G2 λw hw=>h w (ao _ hw)]
  split
  ·have:x≠n:=by rintro rfl;exact h v bc
   simp[this]
  ·rfl
theorem G3 {kindOf:Str->Option lg}{x:Str}:∀{binds:List (Str×af)}{m:Str->Option af},(∀v,(x,v)∉binds)->bindC kindOf binds m x=m x
 | [],_,_=>rfl
 |(n,v)::r,m,h=>by
  unfold bindC;rw[G3 λw hw=>h w (ao _ hw)]
  split
  ·rfl
  ·have:x≠n:=by rintro rfl;exact h v bc
   simp[this]
theorem G4 {kindOf:Str->Option lg}{x:Str}{v:af}:∀{P:List Str}{vs:List af}{i:Nat}{m:Str->Option af},P.Nodup->P[i]?=some x->vs[i]?=some v->kindOf x=some .local->
  bindL kindOf (P.zip vs) m x=some v
 | [],_,_,_,_,h,_,_=>by simp at h
 |_::_,[],_,_,_,_,h,_=>by simp at h
 |p::P,w::vs,0,m,nd,h1,h2,hk=>by simp at h1 h2;subst h1;subst h2;show bindL kindOf ((p,w)::P.zip vs) m p=_;unfold bindL;rw[G2 λv hv=>(jm.mp nd).1 (yg hv).1,if_pos hk];simp
 |p::P,w::vs,i+1,m,nd,h1,h2,hk=>by show bindL kindOf ((p,w)::P.zip vs) m x=_;unfold bindL;exact G4 (i:=i) (jm.mp nd).2 (by simpa using h1) (by simpa using h2) hk
theorem G5 {kindOf:Str->Option lg}{x:Str}{v:af}:∀{P:List Str}{vs:List af}{i:Nat}{m:Str->Option af},P.Nodup->P[i]?=some x->vs[i]?=some v->kindOf x≠some .local->
  bindC kindOf (P.zip vs) m x=some v
 | [],_,_,_,_,h,_,_=>by simp at h
 |_::_,[],_,_,_,_,h,_=>by simp at h
 |p::P,w::vs,0,m,nd,h1,h2,hk=>by simp at h1 h2;subst h1;subst h2;show bindC kindOf ((p,w)::P.zip vs) m p=_;unfold bindC;rw[G3 λv hv=>(jm.mp nd).1 (yg hv).1,if_neg hk];simp
 |p::P,w::vs,i+1,m,nd,h1,h2,hk=>by show bindC kindOf ((p,w)::P.zip vs) m x=_;unfold bindC;exact G5 (i:=i) (jm.mp nd).2 (by simpa using h1) (by simpa using h2) hk
def start (N:List Str) (vs:List V):St:=vs.map some++yx (N.length - vs.length) none
def gB (CX:mK) (P:bh) (w:cn) (K:aq) (mg:Str->Option af) (base:cu) (N:List Str) (qual:Str) (scope:iq) (f:ai) (cd:af) (A:cf) (outer:List Env) (s:ag) (H:Hp) (E:XK):Cx where
 prog:=P
 w:=w
 K:=K
 mg:=mg
 base:=base
 A:=A.deeper (envOfC qual scope s.heap.objs.size f cd)
 N:=N
 s₀:=s
 H₀:=H
 env:=envOfC qual scope s.heap.objs.size f cd
 outer:=outer
 stack:=envOfC qual scope s.heap.objs.size f cd::outer
 ex:=[]
 calm:=true
 fn:=λ_=>true
 pn:=[]
 xe:=λe s'=>wpAny (model P w) (A.deeper (envOfC qual scope s.heap.objs.size f cd)) (leaving (envOfC qual scope s.heap.objs.size f cd) e) (λ_ s''=>CX outer H s E e s'') (λe' s''=>CX outer H s E e' s'') s'
theorem G6 {sc:iq}{n:Nat}{x:Str}(h:sc.names.lookup x=some .cell):∃c,(cellsFrom n sc.names []).lookup x=some c:=by have q:=Ac sc.names n [] (.inl h);exact yy.mp q
theorem SG {CX:mK}{P:bh}{w:cn}{K:aq}{mg:Str->Option af}{base:cu}{N ps:List Str}{qual:Str}{scope:iq}{f:ai}{cd:af}{A:cf}{outer:List Env}{s s1:ag}{H:Hp}{E:XK}{us:List af}{vs:List V}
  (S:FnScope N ps scope) (hd:A.handled=none) (e0:Env0 P w K mg base A outer s H) (hl:vs.length=ps.length) (r:Vals vs us)
  (x:InCallC s s.heap.objs.size (bindL (envOfC qual scope s.heap.objs.size f cd).kindOf (ps.zip us) λ_=>none) (cellsFrom (s.heap.objs.size+1) scope.names []) (bindC (envOfC qual scope s.heap.objs.size f cd).kindOf (ps.zip us) λ_=>none) s1):
  Inv (gB CX P w K mg base N qual scope f cd A outer s H E) [] (start N vs) H s1:=by
 have hpl:ps.length<=N.length:=by have:=congrArg rz S.pre;rw[js]at this;omega
 obtain⟨h1,tk,rfl,hk⟩:=x.done;have noA:∀b:ai,b∉(gB CX P w K mg base N qual scope f cd A outer s H E).ex:=λb z=>absurd (show b∈([]:List ai) from z) (by simp);refine⟨⟨e0.mod,S.kind,rfl,rfl,ak _,λy z c h1 h2=>?_,λy hy=>?_,λy c _ h=>?_,λ_=>hd,Bv e0.frames,.inr ⟨rfl,rfl⟩,λb z=>absurd z (noA b),e0.bs,e0.bsz,λb _ _=>noA b,λb z=>absurd z (noA b),e0.funs,e0.frf⟩,
  rfl,e0.bare,Un.kept hk,⟨_,x.toInCall.ns,λi y v h1 h2 h3=>?_⟩,λy c h=>⟨_,x.cell y c h⟩,e0.hok.fresh (ak _),λy c h=>?_,λp hp=>absurd (show p∈([]:List (ai×Obj)) from hp) (by simp),e0.hok.kept hk, ?_⟩
 ·exact name_of_addr x.apart (gg h1) (gg h2)
 ·have hy:scope.names.lookup y=some .cell∨scope.names.lookup y=some .free:=hy
  rcases hy with hy|hy
  ·exact G6 hy
  ·exact absurd rfl (S.nofree _ (gg hy))
 ·exact ic (x.above y c (gg h))
 ·have hi:i<vs.length:=by
   unfold start at h2
   by_cases hi:i<vs.length
   ·exact hi
   ·rw[gv (by simpa using hi)]at h2;rw[tu]at h2
    split at h2 <;> cases h2
  have ha:vs[i]?=some v:=by
   unfold start at h2;rw[fh (by simpa using hi),fe]at h2
   cases e:vs[i]? with
   |none=>rw[e]at h2;cases h2
   |some a=>rw[e]at h2;cases h2;rfl
  obtain⟨u,hu,rv⟩:=r.get ha;have hp:ps[i]?=some y:=by rw[<-S.pre,Bh (by omega)];exact h1
  have ndP:ps.Nodup:=by rw[<-S.pre];exact S.nd.sublist (List.take_sublist _ _)
  refine⟨u,rv, ?_⟩
  rcases S.par y (bx hp)with k|k
  ·exact .inl ⟨k,G4 ndP hp hu k⟩
  ·obtain⟨c,e⟩:=G6 (n:=s.heap.objs.size+1) k;refine .inr ⟨.inl k,c,e, ?_⟩;have q:=x.cell y c e;rw[G5 ndP hp hu (by show scope.names.lookup y≠_;rw[k];decide)]at q;exact q
 ·exact e0.hok.fresh (ic (x.above y c (gg h)))
 ·unfold start;show _=N.length;rw[bu,bj,List.length_replicate];omega
theorem AM {CX:mK}{P:bh}{w:cn}{K:aq}{mg:Str->Option af}{base:cu}{k:Nat}{f:ai}{name qual:Str}{params:ni}{body:List gz}{scope:iq}{dV kV doc pm cdv ct oc:af}{an od:Option ai}
  {osl:Array (Option af)}{N ps:List Str}{sp:Sp}(lk:K.lookup f=some ⟨oc,od,.func (qg name qual params body scope dV kV doc pm an cdv ct),osl⟩) (hcd:yd K cdv qual=true) (S:FnScope N ps scope)
  (len:∀vs H Q E,sp vs H Q E->vs.length=ps.length)
  (hbody:∀(A:cf) (outer:List Env) (s:ag) (H:Hp) (vs:List V) (Q:VK) (E:XK),Room k (A.deeper (envOfC qual scope s.heap.objs.size f cdv))->sp vs H Q E->
   ∃t,PSs (gB CX P w K mg base N qual scope f cdv A outer s H E) body t/\t { nx:=λ_ H'=>Q .non H',rt:=Q } (start N vs) H):
  FnOk P w K mg base CX (k+1) f (qg name qual params body scope dV kV doc pm an cdv ct) ps sp:=by
 refine⟨len,λA outer s H args us vs Q E hr e0 hb r hsp=>?_⟩;have hl:=len _ _ _ _ hsp;have KX:K.In s.heap:=e0.mod.kin.keeps λb o e=>(e0.bs b o e).1;have lim:s.heap.NoLimit:=e0.mod.nolimit.keeps λb o e=>(e0.bs b o e).1;have hkind:∀y∈ps.zip us,scope.names.lookup y.1=some .local∨(scope.names.lookup y.1=some .cell/\((cellsFrom (s.heap.objs.size+1) scope.names []).lookup y.1).isSome=true):=λ⟨n,v⟩ hy=>by
  rcases S.par n (yg hy).1 with q|q
  ·exact .inl q
  ·exact .inr ⟨q,Ac _ _ _ (.inl q)⟩
 refine codeAny_call_function hr.depth (KX _ _ lk) rfl S.co S.gen rfl (PySem.W.codeRec_of KX hcd) (hb _ _ _ _ ?_);refine wpAny_newFunctionEnv_cells S.kind hkind λenv he s1 x=>?_;subst he;refine⟨lim.keeps x.toInCall.keep,codeAny_func ?_⟩;obtain⟨t,ht,hq⟩:=hbody A outer s H vs Q E (hr.deeper _) hsp;have I:Inv (gB CX P w K mg base N qual scope f cdv A outer s H E) [] (start N vs) H s1:=SG S hr.hd e0 hl r x;refine mf (ht [] s1 (start N vs) H _ I hq) (λfl s' hs=>?_) λe s' hs=>hs;have fin:∀{σ':St}{H':Hp}{v:V}{u:af},Inv (gB CX P w K mg base N qual scope f cdv A outer s H E) [] σ' H' s'->RelV v u->Q v H'->CE outer P w H s Q u s':=λ{σ' H' v u} J rv q=>⟨v,H',J.os,J.bare,J.base,J.hok,rv,q⟩
 cases fl with
 |ret u=>obtain⟨v,σ',H',J,rv,q⟩:=hs;exact fin J rv q
 |next=>obtain⟨σ',H',J,q⟩:=hs;exact fin (v:=V.non) (u:=ju) J rfl q
 |brk=>obtain⟨_,_,_,q⟩:=hs;exact ig q
 |cont=>obtain⟨_,_,_,q⟩:=hs;exact ig q
section
variable{X:Cx}{x:Str}{p pos:Pos}{e:bq}{es:List bq}{t:TA}{id T:String}{r:List V->Hp->VK->Prop}
def vS (r:List V->Hp->VK->Prop) (t:TA):TE:=λσ H Q=>t σ H λvs H1=>r vs H1 Q
theorem qJ (hc:CallR X (.builtin id) r) (hg:Gl X x) (hm:X.mg x=none) (hv:dw x=some (.builtin id)) (ha:PA X (e::es) t) (hn:x ≠ "__name__" := by decide) (hdb:(x==("__debug__" : Str))=false:=by decide)
  (he:au (e::es) X.env=(false,eval e X.env)::au es X.env:=by rfl) (hpl:(backTo pos (au es X.env)).any (·.1)=false:=by rfl):PE X (.Call (.Name x p) (e::es) [] pos) (vS r t):=by
 intro pins s σ H Q I h;refine mq (pE I hg hm hv ?_ hn hdb);exact PyProof.Rows.callWith_builtin1 (aV (ha pos pins s σ H _ I h) λus s1 ⟨vs,H1,I1,r1,q1⟩=>hc pins s1 σ H1 vs us Q I1 r1 q1) he hpl
theorem sR (hc:CallR X (.type T) r) (hg:Gl X x) (hm:X.mg x=none) (hv:dw x=some (.type T)) (ha:PA X (e::es) t) (hn:x ≠ "__name__" := by decide) (hdb:(x==("__debug__" : Str))=false:=by decide)
  (he:au (e::es) X.env=(false,eval e X.env)::au es X.env:=by rfl) (hpl:(backTo pos (au es X.env)).any (·.1)=false:=by rfl):PE X (.Call (.Name x p) (e::es) [] pos) (vS r t):=by
 intro pins s σ H Q I h;refine mq (pE I hg hm hv ?_ hn hdb);exact ki (aV (ha pos pins s σ H _ I h) λus s1 ⟨vs,H1,I1,r1,q1⟩=>hc pins s1 σ H1 vs us Q I1 r1 q1) he hpl
end
end L2
namespace HT
open PySem PyProof.Rows
def lexLt:List Int->List Int->Bool
 | [],[]=>false
 | [],_::_=>true
 |_::_,[]=>false
 |x::xs,y::ys=>if x=y then lexLt xs ys else decide (x<y)
theorem lexLt_cons (x y:Int) (xs ys:List Int):lexLt (x::xs) (y::ys)=if x=y then lexLt xs ys else decide (x<y):=rfl
theorem SH:lexLt [] []=false:=rfl
theorem SI (y:Int) (ys:List Int):lexLt [] (y::ys)=true:=rfl
theorem SJ (x:Int) (xs:List Int):lexLt (x::xs) []=false:=rfl
theorem SK (A:cf) (s:ag) (a:Int) (t:Tok) (c:Int) (u:Tok):∃e,vv A s (.int a t) (.int c u) e/\(e=true↔a=c):=⟨(a==c),vc a t c u,by simp⟩
theorem SN (A:cf) (s:ag) (a:Int) (t:Tok) (c:Int) (u:Tok) (prog:bh) (w:cn) (E:af->ag->Prop) (Q:af->ag->Prop) (h:Q (.bool (decide (a<c))) s):
  wpAny (model prog w) A (richCompare .Lt (.int a t) (.int c u)) Q E s:=
 (yk h:wpAny (model prog w) A (compareOp .Lt (.int a t) (.int c u)) Q E s)
section
open PySem.SeqAt
open PySem.AutoSeq1 (wpAny_loadPart')
open PySem.MeetsSeq PySem.MeetsSeq2 PySem.MeetsSeq3
theorem SO (l b:ai) (items items2:Array af) (n n2:Nat) (dd dd2:Option ai) (sl sl2:Array (Option af)) (ns ms:List Int) (hi:ku items.toList ns) (hj:ku items2.toList ms):
  Meets (mr.«tuple.__lt__» ⟨[.ref l,.ref b],[]⟩)
   (λ_ R s=>s.heap.get? l=some { cls:=.type "tuple",dict:=dd,data:=.seq items n,slots:=sl }/\s.heap.get? b=some { cls:=.type "tuple",dict:=dd2,data:=.seq items2 n2,slots:=sl2 } /\
    R (.ok (.ret (.bool (lexLt ns ms)))) s):=
 .of_wp λprog w A R s h=>by
  obtain⟨hp,g,d,tk,os⟩:=s;obtain⟨hl,hb,h⟩:=h;have f2:=AutoSeq1.sub_tuple_tuple;have z1:items.size=ns.length:=by rw[<-hi.length];simp
  have z2:items2.size=ms.length:=by rw[<-hj.length];simp
  wp_walk using wpAny_loadPart' hl,wpAny_loadPart' hb,qo _ (λrest b s'=>b.1=none/\s'=⟨hp,g,d,tk,os⟩/\∃(vs ws:List af) (ns' ms':List Int),rest=vs.zip ws /\
   ku vs ns'/\ku ws ms'/\ns'.length+items2.size=ms'.length+items.size/\R (.ok (.ret (.bool (lexLt ns' ms')))) ⟨hp,g,d,tk,os⟩) _
  case turn=>
   rintro ⟨y,x⟩ rest b s' ⟨hb',rfl,vs,ws,ns',ms',hz,hvi,hwi,hlen,hR⟩
   cases hvi with
   |nil=>rw[List.zip_nil_left]at hz;cases hz
   |cons a t hvi'=>
    cases hwi with
    |nil=>rw[List.zip_nil_right]at hz;cases hz
    |cons c u hwi'=>
     rw[List.zip_cons_cons]at hz;injection hz with hyx hrest;injection hyx with hy hx;subst hy hx;rw[lexLt_cons]at hR;simp only[dj]at hlen;obtain⟨e,he,hiff⟩:=SK A.in1 ⟨hp,g,d,tk,os⟩ a t c u;refine aa (he prog w _ _ ?_)
     cases e with
     |true=>
      rw[if_pos (hiff.mp rfl)]at hR
      wp_walk
      exact⟨rfl,rfl,_,_,_,_,hrest,hvi',hwi',by omega,hR⟩
     |false=>
      rw[if_neg (λq=>absurd (hiff.mpr q) jf)]at hR;have hri:=SN A.in1 ⟨hp,g,d,tk,os⟩ a t c u prog w
      wp_walk using hri
      exact⟨_,rfl,by simpa using hR⟩
  case fin=>
   rintro ⟨b1,b2⟩ s' ⟨hb',rfl,vs,ws,ns',ms',hz,hvi,hwi,hlen,hR⟩
   simp only at hb';subst hb';have hv:lexLt ns' ms'=decide (items.size<items2.size):=by
    cases hvi with
    |nil=>
     cases hwi with
     |nil=>simp only[oj]at hlen;rw[SH];exact(decide_eq_false (by omega)).symm
     |cons c u hw=>simp only[oj,dj]at hlen;rw[SI];exact(decide_eq_true (by omega)).symm
    |cons a t hv=>
     cases hwi with
     |nil=>simp only[oj,dj]at hlen;rw[SJ];exact(decide_eq_false (by omega)).symm
     |cons c u hw=>rw[List.zip_cons_cons]at hz;cases hz
   rw[hv]at hR
   wp_walk
   exact⟨_,rfl,by simpa[Builtin.Tuple.tupleCompareSizes]using hR⟩
  case h=>exact⟨rfl,rfl,items.toList,items2.toList,ns,ms,rfl,hi,hj,by omega,h⟩
end
section
variable{prog:bh}{w:cn}{A:cf}{E:af->ag->Prop}{s:ag}
theorem lt_tupInts {l b:ai}{items items2:Array af}{ns ms:List Int}{Q:af->ag->Prop}(hl:yi s.heap l items) (hb:yi s.heap b items2) (hi:ku items.toList ns) (hj:ku items2.toList ms)
  (hu:A.units<cLine) (h:Q (.bool (lexLt ns ms)) s):wpAny (model prog w) A (compareOp .Lt (.ref l) (.ref b)) Q E s:=by
 obtain⟨⟨cls,dd,data,sl⟩,ho,hc,n,hd⟩:=id hl;obtain⟨⟨cls2,dd2,data2,sl2⟩,ho2,hc2,n2,hd2⟩:=id hb;simp only at hc hd hc2 hd2;subst hc hd hc2 hd2;exact richCompare_meets_room (op:=.Lt) ⟨_,ho,rfl⟩ ⟨_,ho2,rfl⟩ PySem.F.slot_tuple_lt PySem.F.entry_tuple_lt (PySem.F.args_tuple_lt_2 _ _) (SO l b items items2 n n2 dd dd2 sl sl2 ns ms hi hj)
  ⟨ho,ho2,show Cw (lexLt ns ms)≠Value.notImplemented/\Q (.bool (lexLt ns ms)) s from⟨(λx=>nomatch x),h⟩⟩ hu
theorem cat_tup {t b:ai}{vs ws:List af}{Q:af->ag->Prop}(ht:yi s.heap t vs.toArray) (hb:yi s.heap b ws.toArray) (hv:vs≠[])
  (h1:ws=[]->Q (.ref t) s) (h2:ws≠[]->Q (.ref s.heap.objs.size) { s with heap:=s.heap.push { cls:=.type "tuple",data:=.seq (vs++ws).toArray } })
  (hsz:vs.length+ws.length<=bw):wpAny (model prog w) A (binaryOp .Add (.ref t) (.ref b)) Q E s:=by
 obtain⟨⟨cls,dd,data,sl⟩,ho,hc,n,hd⟩:=id ht;obtain⟨⟨cls2,dd2,data2,sl2⟩,ho2,hc2,n2,hd2⟩:=id hb;simp only at hc hd hc2 hd2;subst hc hd hc2 hd2;have e:vs.toArray++ws.toArray=(vs++ws).toArray:=by simp
 by_cases hw:ws=[]
 ·exact concat_meets ⟨_,ho,rfl⟩ ⟨_,ho2,rfl⟩ Ae Cz tq sf (rg _ _)
   (tuple_addW1 t b vs.toArray ws.toArray n n2 dd dd2 sl sl2 (by simpa using hv) (by simp[hw])) ⟨ho,ho2,h1 hw⟩
 ·refine concat_meets ⟨_,ho,rfl⟩ ⟨_,ho2,rfl⟩ Ae Cz tq sf (rg _ _)
   (tuple_addW2 t b vs.toArray ws.toArray n n2 dd dd2 sl sl2 (by simpa using hv) (by simpa using hw) (by rw[av,av];exact hsz)) ⟨ho,ho2, ?_⟩
  rw[e];exact h2 hw
def sIx (n d:Nat):Option Int->Nat
 |none=>d
 |some v=>if v<0 then(v+(n:Int)).toNat else min v.toNat n
theorem sIx_none (n d:Nat):sIx n d none=d:=rfl
theorem sIx_nat (n d k:Nat):sIx n d (some (k:Int))=min k n:=by show(if(k:Int)<0 then((k:Int)+(n:Int)).toNat else min (k:Int).toNat n)=min k n;rw[if_neg (by omega),gr]
theorem SQ (n d:Nat) (hd:d<=n) (o:Option Int):sIx n d o<=n:=by
 cases o with
 |none=>exact hd
 |some v=>
  show(if v<0 then(v+(n:Int)).toNat else min v.toNat n)<=n
  by_cases hv:v<0
  ·rw[if_pos hv];omega
  ·rw[if_neg hv];exact Nat.min_le_right _ _
theorem G7 (v:Int) (n d:Nat):(if v<0 then max (v+(n:Int)) 0 else min v (n:Int))=((sIx n d (some v):Nat):Int):=by
 show(if v<0 then max (v+(n:Int)) 0 else min v (n:Int))=(((if v<0 then(v+(n:Int)).toNat else min v.toNat n):Nat):Int)
 by_cases hv:v<0
 ·simp only[if_pos hv];omega
 ·simp only[if_neg hv];omega
theorem SS (lo hi:Option Int) (n:Nat):jd lo hi 1 (n:Int)=(((sIx n 0 lo:Nat):Int),((sIx n n hi:Nat):Int)):=by
 have h1:¬ ((1:Int)<0):=by omega
 unfold jd;simp only[h1,if_false];refine Prod.ext ?_ ?_
 ·cases lo with
  |none=>rfl
  |some v=>exact G7 v n 0
 ·cases hi with
  |none=>rfl
  |some v=>exact G7 v n n
theorem SU (i j:Nat):gh (i:Int) (j:Int) 1=j - i:=by
 unfold gh;have h1:(1:Int)>0:=by omega
 simp only[h1,if_true,Int.ediv_one]
 split <;> omega
theorem slicePart_ {v:af}{o:Option Int}{Q:Option Int->ag->Prop}(p:uk v o) (h:Q o s):wpAny (model prog w) A (Builtin.Slice.slicePartIndex v) Q E s:=by
 cases p with
 |none=>exact slicePart_none h
 |int i t=>exact slicePart_int h
theorem sliceApplied_gen {sl:ai}{vl vu:af}{lo hi:Option Int}{n:Nat}{Q:Int×Int×Nat->ag->Prop}(hs:s.heap.IsSliceOf sl vl vu .none) (pl:uk vl lo) (pu:uk vu hi)
  (h:Q (((sIx n 0 lo:Nat):Int),1,sIx n n hi - sIx n 0 lo) s):wpAny (model prog w) A (kn (.ref sl) (pure (n:Int))) Q E s:=by
 obtain⟨os,hos,hcs,hds⟩:=id hs;unfold kn wk;refine aa (aa (fi hos hds (x:=vl) rfl (aa (fi hos hds (x:=vu) rfl (aa (fi hos hds (x:=.none) rfl (ah ?_)))))));refine aa (slicePart_none ?_);show wpAny _ _ (if((1:Int)==0)=true then _ else _) _ _ s;rw[if_neg (by decide)];refine aa (slicePart_ pl (aa (slicePart_ pu (aa (ah ?_)))));show wpAny _ _ (match jd lo hi 1 (n:Int)with|(lo,hi)=>pure (lo,(1:Int),gh lo hi 1)) _ _ s;rw[SS lo hi n];show wpAny _ _ (pure (((sIx n 0 lo:Nat):Int),(1:Int),gh ((sIx n 0 lo:Nat):Int) ((sIx n n hi:Nat):Int) 1)) _ _ s;rw[SU];exact ah h
theorem SV (xs:Array af) (i k:Nat):((bf k).filterMap λ(m:Nat)=>xs[((i:Int)+(m:Int)*1).toNat]?).toArray=((xs.toList.drop i).take k).toArray:=by
 have e:(λ(m:Nat)=>xs[((i:Int)+(m:Int)*1).toNat]?)=λm=>xs[i+m]?:=by
  funext m
  have:((i:Int)+(m:Int)*1).toNat=i+m:=by omega
  rw[this]
 rw[e];have:=pick_run xs i k;rw[List.filterMap_map]at this;have e2:((λx=>xs[x]?)∘λx=>i+x)=λm=>xs[i+m]?:=rfl;rw[e2]at this;rw[this]
theorem getItem_tuple_cut {t sl:ai}{items:Array af}{vl vu:af}{lo hi:Option Int}{Q:af->ag->Prop}(ht:yi s.heap t items) (hs:s.heap.IsSliceOf sl vl vu .none) (pl:uk vl lo) (pu:uk vu hi)
  (hw:¬ (sIx items.size 0 lo=0/\sIx items.size items.size hi=items.size))
  (h:Q (.ref s.heap.objs.size) { s with heap:=s.heap.push { cls:=.type "tuple",data:=.seq ((items.toList.drop (sIx items.size 0 lo)).take (sIx items.size items.size hi - sIx items.size 0 lo)).toArray } })
  (hsz:items.size<=bw):wpAny (model prog w) A (getItem (.ref t) (.ref sl)) Q E s:=by
 have htake:sizeOk (.seq ((items.toList.drop (sIx items.size 0 lo)).take (sIx items.size items.size hi - sIx items.size 0 lo)).toArray):=by show((items.toList.drop (sIx items.size 0 lo)).take (sIx items.size items.size hi - sIx items.size 0 lo)).toArray.size<=bw;rw[av,js,pq,nu];omega
 have hj:sIx items.size items.size hi<=items.size:=SQ _ _ (ak _) hi;obtain⟨os,hos,hcs,hds⟩:=id hs;have hTs:s.TypeIs (.ref sl) "slice" := ⟨os,hos,hcs⟩;unfold getItem
 try with_reducible refine fz ?_
 first|refine aa (ah ?_)|skip
 refine aa (ym ht.typeIs (by decide) ?_);refine aa (gm (name:=lh "__getitem__") ht.typeIs da
  (fv da ht.typeIs entry_tuple_getitem ?_ (args_tuple_getitem _ _)))
 show wpAny _ _ (vz (.ref t) >>= _) _ _ s;refine aa (xl ht ?_);refine aa (om hTs ?_);rw[if_pos (by decide)];refine aa (sliceApplied_gen hs pl pu ?_);have hno:¬ ((((sIx items.size 0 lo:Nat):Int)==0&&(1:Int)==1&&(sIx items.size items.size hi - sIx items.size 0 lo)==items.size)=true):=by intro q;rw[cw,cw]at q;have q1:((sIx items.size 0 lo:Nat):Int)=0:=eq_of_beq q.1.1;have q2:sIx items.size items.size hi - sIx items.size 0 lo=items.size:=eq_of_beq q.2;exact hw ⟨by omega,by omega⟩
 show wpAny _ _ (if(((sIx items.size 0 lo:Nat):Int)==0&&(1:Int)==1&&(sIx items.size items.size hi - sIx items.size 0 lo)==items.size)=true then _ else _) _ _ s;rw[if_neg hno,SV]
 first
  |exact aa (m:=gn _) (dg (ah ⟨_,rfl,ah h⟩) htake)
  |exact aa (m:=gn _) (dg (aa (ah (ah ⟨_,rfl,ah h⟩))) htake)
  |exact aa (aa (m:=gn _) (dg (ah (ah ⟨_,rfl,ah h⟩)) htake))
  |exact aa (aa (m:=gn _) (dg (ah ⟨_,rfl,ah h⟩) htake))
end
end HT
namespace L2
open PySem PySem.Spec PyProof.Rows
abbrev TO:=St->Hp->(Option Int->Hp->Prop)->Prop
def PO (X:Cx) (e:Option bq) (t:TO):Prop:=
 ∀(pins:List (ai×Obj)) (s:ag) (σ:St) (H:Hp) (Q:Option Int->Hp->Prop),Inv X pins σ H s->t σ H Q->
  wpAny (model X.prog X.w) X.A (evalPart e X.env) (λu s'=>∃o H',Inv X pins σ H' s'/\uk u o/\Q o H') X.xe s
def SX:TO:=λ_ H Q=>Q none H
def SY (t:TE):TO:=λσ H Q=>t σ H λx H1=>∃i,x=.int i/\Q (some i) H1
theorem G8 {ns:List Int}:∀{us:List af},Vals (ns.map V.int) us->ku us ns:=by
 induction ns with
 |nil=>intro us r;rw[List.map_nil]at r;cases r;exact .nil
 |cons n ns ih=>
  intro us r;rw[dk]at r
  cases r with
  |cons r1 r2=>obtain⟨t,e⟩:=r1;subst e;exact .cons n t (ih r2)
section
variable{X:Cx}{e:bq}{te:TE}{lo hi:Option bq}{tl th:TO}{pos p2:Pos}
theorem S0:PO X none SX:=by intro pins s σ H Q I h;rw[Dc];exact ah ⟨none,H,I,.none,h⟩
theorem S1 (h:PE X e te):PO X (some e) (SY te):=by intro pins s σ H Q I hw;rw[evalPart_some];refine aV (h pins s σ H _ I hw) λu s1 ⟨x,H1,I1,r1,q1⟩=>?_;obtain⟨i,rfl,q⟩:=q1;obtain⟨t,rfl⟩:=r1;exact⟨some i,H1,I1,.int i t,q⟩
def SlR (X:Cx) (r:V->Option Int->Option Int->Hp->VK->Prop):Prop:=
 ∀(pins:List (ai×Obj)) (s:ag) (σ:St) (H:Hp) (x:V) (v vl vu:af) (lo hi:Option Int) (sl:ai) (Q:VK),Inv X pins σ H s->RelV x v->s.heap.IsSliceOf sl vl vu .none->uk vl lo->uk vu hi->r x lo hi H Q->
  ∃T id,typeLookup (.type T) "__getitem__" = pure (some (.builtin id))/\s.TypeIs v T/\wpAny (model X.prog X.w) X.A (getItem v (.ref sl)) (EP X pins σ Q) X.xe s
theorem SlR.or {r r':V->Option Int->Option Int->Hp->VK->Prop}(h:SlR X r) (h':SlR X r'):SlR X (λx lo hi H Q=>r x lo hi H Q∨r' x lo hi H Q):=by
 intro pins s σ H x v vl vu lo hi sl Q I rx hs pl pu q
 rcases q with q|q
 ·exact h pins s σ H x v vl vu lo hi sl Q I rx hs pl pu q
 ·exact h' pins s σ H x v vl vu lo hi sl Q I rx hs pl pu q
def S3 (r:V->Option Int->Option Int->Hp->VK->Prop) (te:TE) (tl th:TO):TE:=λσ H Q=>te σ H λx H1=>tl σ H1 λl H2=>th σ H2 λu H3=>r x l u H3 Q
theorem S4 {r:V->Option Int->Option Int->Hp->VK->Prop}(hr:SlR X r) (he:PE X e te) (hl:PO X lo tl) (hu:PO X hi th):PE X (.Subscript e (.Slice lo hi none p2) pos) (S3 r te tl th):=by intro pins s σ H Q I h;refine Subscript_ (aV (he pins s σ H _ I h) λv s1 ⟨x,H1,I1,r1,q1⟩=>?_);refine wpAny_Slice (aV (hl pins s1 σ H1 _ I1 q1) λvl s2 ⟨l,H2,I2,pl,q2⟩=>aV (hu pins s2 σ H2 _ I2 q2) λvu s3 ⟨u,H3,I3,pu,q3⟩=>?_);rw[Dc];refine ah ?_;have I4:Inv X pins σ H3 { s3 with heap:=s3.heap.push { cls:=.type "slice",data:=.fields #[vl,vu,.none] } }:=I3.kept (t':=s3.toks) λb ob q=>aj _ q;obtain⟨T,id,hT,ht,hg⟩:=hr pins { s3 with heap:=s3.heap.push { cls:=.type "slice",data:=.fields #[vl,vu,.none] } } σ H3 x v vl vu l u s3.heap.objs.size Q I4 r1 (yh ..) pl pu q3;show wpAny (model X.prog X.w) X.A (subscriptTail e (.Slice lo hi none p2) v (.ref s3.heap.objs.size)) (EP X pins σ Q) X.xe { s3 with heap:=s3.heap.push { cls:=.type "slice",data:=.fields #[vl,vu,.none] } };exact tail_any (ops:=[.ref s3.heap.objs.size,v]) ht hT hg (by with_unfolding_all rfl)
def nV (xs:List V) (lo hi:Option Int):List V:=(xs.drop (HT.sIx xs.length 0 lo)).take (HT.sIx xs.length xs.length hi - HT.sIx xs.length 0 lo)
theorem G9 (xs:List V) (lo hi:Option Int):(nV xs lo hi).length<=xs.length:=by unfold nV;rw[js,pq];omega
def S5 (K:aq):V->Option Int->Option Int->Hp->VK->Prop:=λx lo hi H Q=>∃a xs,x=.ref a/\SqT K H a xs /\
 ¬ (HT.sIx xs.length 0 lo=0/\HT.sIx xs.length xs.length hi=xs.length)/\∀p,H p=none->Q (.ref p) (upd H p (.tup (nV xs lo hi)))
theorem S6:SlR X (S5 X.K):=by
 intro pins s σ H x v vl vu lo hi sl Q I rx hs pl pu h;obtain⟨a,xs,rfl,hx,hw,q⟩:=h;cases rx;obtain⟨its,r,ht,hz⟩:=I.tuple hx;have hlen:its.toArray.size=xs.length:=by rw[av];exact r.length.symm
 refine⟨"tuple",_,da.lookup,ht.typeIs, ?_⟩;refine HT.getItem_tuple_cut ht hs pl pu (by rw[hlen];exact hw) ?_ (by rw[hlen];exact hz);rw[hlen];refine⟨.ref s.heap.objs.size,_,I.laid (t':=s.toks) (o:=.tup (nV xs lo hi)) (λb ob q=>aj _ q) (ak _) ?_,rfl,q _ (I.hok.fresh (ak _))⟩;exact⟨dm (G9 xs lo hi) hz,_,(r.drop (HT.sIx xs.length 0 lo)).take (HT.sIx xs.length xs.length hi - HT.sIx xs.length 0 lo),IsTupX.new _ _⟩
def HC (K:aq):R2:=λx y H Q=>∃a b ns ms,x=.ref a/\y=.ref b/\SqT K H a (ns.map V.int)/\SqT K H b (ms.map V.int)/\Q (.bl (HT.lexLt ns ms)) H
theorem HD (hu:X.A.units<cLine):OpR X (compareOp .Lt) (HC X.K):=by intro pins s σ H x y v u Q I rx ry h;obtain⟨a,b,ns,ms,rfl,rfl,ha,hb,q⟩:=h;cases rx;cases ry;obtain⟨its,r1,p1,_⟩:=I.tuple ha;obtain⟨its2,r2,p2,_⟩:=I.tuple hb;have i1:ku its.toArray.toList ns:=G8 r1;have i2:ku its2.toArray.toList ms:=G8 r2;exact HT.lt_tupInts p1 p2 i1 i2 hu ⟨.bl (HT.lexLt ns ms),H,I,rfl,q⟩
def HE (K:aq):R2:=λx y H Q=>∃a b xs ys,x=.ref a/\y=.ref b/\SqT K H a xs/\SqT K H b ys/\xs≠[]/\xs.length+ys.length<=bw /\
 (ys=[]->Q (.ref a) H)/\(ys≠[]->∀p,H p=none->Q (.ref p) (upd H p (.tup (xs++ys))))
theorem Vals.nil_iff {xs:List V}{us:List af}(r:Vals xs us):us=[]↔xs=[]:=by
 cases r with
 |nil=>simp
 |cons _ _=>simp
theorem S7:OpR X (binaryOp .Add) (HE X.K):=by intro pins s σ H x y v u Q I rx ry h;obtain⟨a,b,xs,ys,rfl,rfl,ha,hb,hx,hz,q1,q2⟩:=h;cases rx;cases ry;obtain⟨its,r1,p1,_⟩:=I.tuple ha;obtain⟨its2,r2,p2,_⟩:=I.tuple hb;refine HT.cat_tup p1 p2 (λz=>hx (r1.nil_iff.mp z)) (λz=>⟨.ref a,H,I,rfl,q1 (r2.nil_iff.mp z)⟩) (λz=>?_) (by rw[<-r1.length,<-r2.length];exact hz);refine⟨.ref s.heap.objs.size,_,I.laid (t':=s.toks) (o:=.tup (xs++ys)) (λb ob q=>aj _ q) (ak _) ?_,rfl,q2 (λw=>z (r2.nil_iff.mpr w)) _ (I.hok.fresh (ak _))⟩;exact⟨by rw[bu];exact hz,_,r1.append r2,IsTupX.new _ _⟩
end
def dX (n:Nat) (i:Int):Option Nat:=if 0<=i then(if i<n then some i.toNat else none)else if -(n:Int)<=i then some (i+n).toNat else none
def gC {α:Type}(xs:List α) (i:Int):Option α:=(dX xs.length i).bind λj=>xs[j]?
theorem AN {n:Nat}{i:Int}{j:Nat}(h:dX n i=some j):seqIndex? i n=some j/\j<n/\-(n:Int)<=i/\i<n:=by
 unfold dX at h
 by_cases h0:0<=i
 ·rw[if_pos h0]at h
  by_cases h1:i<n
  ·rw[if_pos h1]at h;have e:i.toNat=j:=cq h;exact⟨by rw[seqIndex_of h0 h1,e],by omega,by omega,h1⟩
  ·rw[if_neg h1]at h;cases h
 ·rw[if_neg h0]at h
  by_cases h1 : -(n:Int)<=i
  ·rw[if_pos h1]at h;have e:(i+n).toNat=j:=cq h;exact⟨by rw[seqIndex_neg (by omega) h1,e],by omega,h1,by omega⟩
  ·rw[if_neg h1]at h;cases h
theorem AO {α:Type}{xs:List α}{i:Int}{v:α}(h:gC xs i=some v):∃j,seqIndex? i xs.length=some j/\xs[j]?=some v/\j<xs.length/\-(xs.length:Int)<=i/\i<xs.length:=by
 unfold gC at h
 cases e:dX xs.length i with
 |none=>rw[e]at h;cases h
 |some j=>rw[e]at h;obtain⟨h1,h2,h3,h4⟩:=AN e;exact⟨j,h1,h,h2,h3,h4⟩
def AQ (b:bq):Prop:=∀o i,subscripted b false o i=operate [o,i] (getItem o i)
def IxR (X:Cx) (r:R2):Prop:=
 ∀(value slice:bq) (pins:List (ai×Obj)) (s:ag) (σ:St) (H:Hp) (x y:V) (v u:af) (Q:VK),Inv X pins σ H s->RelV x v->RelV y u->r x y H Q->
  subscripted slice false v u=operate [v,u] (getItem v u)->wpAny (model X.prog X.w) X.A (subscriptTail value slice v u) (EP X pins σ Q) X.xe s
def AR (X:Cx) (id:String) (r:V->List V->Hp->VK->Prop):Prop:=
 ∀(pins:List (ai×Obj)) (s:ag) (σ:St) (H:Hp) (x:V) (xs:List V) (v:af) (us:List af) (Q:VK),Inv X pins σ H s->RelV x v->Vals xs us->r x xs H Q->
  wpAny (model X.prog X.w) X.A (call (.builtin id) (v::us)) (EP X pins σ Q) X.xe s
section
variable{X:Cx}{a b:bq}{ta tb:TE}{pos:Pos}
theorem IxR.or {r r':R2}(h:IxR X r) (h':IxR X r'):IxR X (λx y H Q=>r x y H Q∨r' x y H Q):=by
 intro value slice pins s σ H x y v u Q I rx ry q hs
 rcases q with q|q
 ·exact h value slice pins s σ H x y v u Q I rx ry q hs
 ·exact h' value slice pins s σ H x y v u Q I rx ry q hs
theorem HF {r:R2}(hr:IxR X r) (ha:PE X a ta) (hb:PE X b tb) (hs:AQ b):PE X (.Subscript a b pos) (sP r ta tb):=by intro pins s σ H Q I h;exact Subscript_ (AJ ha hb I h λv u s2 x y H2 I2 rx ry q=>hr a b pins s2 σ H2 x y v u Q I2 rx ry q (hs _ _))
def HG (K:aq):R2:=λx y H Q=>∃p xs i v,x=.ref p/\y=.int i/\SqL K H p xs/\gC xs i=some v/\Q v H
def HH (K:aq):R2:=λx y H Q=>∃p xs i v,x=.ref p/\y=.int i/\SqT K H p xs/\gC xs i=some v/\Q v H
def HI:R2:=λx y H Q=>∃z i c,x=.str z/\y=.int i/\z.length<=bw/\gC z.cps.toList i=some c/\Q (.str ⟨#[c]⟩) H
theorem ix_list:IxR X (HG X.K):=by
 intro value slice pins s σ H x y v u Q I rx ry h hs;obtain⟨p,xs,i,z,rfl,rfl,hq,he,q⟩:=h;cases rx;obtain⟨t,rfl⟩:=ry;obtain⟨its,r,pl,hz⟩:=I.list hq;obtain⟨j,h1,h2,h3,h4,h5⟩:=AO he;obtain⟨w,ew,rw'⟩:=r.get h2;have hl:=r.length;have hn:=qI;have fin:EP X pins σ Q w s:=⟨z,H,I,rw',q⟩
 by_cases h0:0<=i
 ·have hj:i.toNat=j:=by rw[seqIndex_of h0 h5]at h1;exact cq h1
  exact item_listR pl.isList h0 (by omega) (by rw[hj];simpa using ew) fin hs
 ·have hj:(i+(its.toArray.size:Int)).toNat=j:=by rw[seqIndex_neg (by omega) h4]at h1;rw[av,<-hl];exact cq h1
  exact subscriptTail_builtinR (x:=w) pl.isList.typeIs slot_list_getitem.lookup
   (wpAny_getItem_list_neg (Q:=λr s'=>r=w/\EP X pins σ Q r s') pl.isList (by omega) (by rw[av] <;> omega) (by omega) (by rw[hj];simpa using ew) ⟨rfl,fin⟩) hs
theorem ix_tup:IxR X (HH X.K):=by
 intro value slice pins s σ H x y v u Q I rx ry h hs;obtain⟨p,xs,i,z,rfl,rfl,hq,he,q⟩:=h;cases rx;obtain⟨t,rfl⟩:=ry;obtain⟨its,r,pl,hz⟩:=I.tuple hq;obtain⟨j,h1,h2,h3,h4,h5⟩:=AO he;obtain⟨w,ew,rw'⟩:=r.get h2;have hl:=r.length;have hn:=qI;have fin:EP X pins σ Q w s:=⟨z,H,I,rw',q⟩
 exact subscriptTail_builtinR (x:=w) pl.typeIs slot_tuple_getitem.lookup
  (getItem_tuple (j:=j) (Q:=λr s'=>r=w/\EP X pins σ Q r s') pl (by omega) (by omega) (by rw[av,<-hl];exact h1) (by simpa using ew) ⟨rfl,fin⟩) hs
theorem S8:IxR X HI:=by
 intro value slice pins s σ H x y v u Q I rx ry h hs;obtain⟨z,i,c,rfl,rfl,hz,he,q⟩:=h;obtain⟨t,rfl⟩:=rx;obtain⟨t',rfl⟩:=ry;obtain⟨j,h1,h2,h3,h4,h5⟩:=AO he;have hl:z.cps.toList.length=z.length:=by simp[Str.length]
 rw[hl]at h1 h4 h5;have hn:=qI;exact tail_any (typeIs_str s z t) slot_str_getitem.lookup (getItem_str (c:=c) (by have e1:decide (i < -(2 ^ 63:Int))=false:=decide_eq_false (by omega);have e2:decide (i>=2 ^ 63)=false:=decide_eq_false (by omega);rw[e1,e2,Bool.or_false]) (by rw[h1];simpa using h2) ⟨.str ⟨#[c]⟩,H,I.tok _,⟨_,rfl⟩,q⟩) hs
def AS (K:aq):R2:=λx y H Q=>HG K x y H Q∨HH K x y H Q∨HI x y H Q
theorem HJ:IxR X (AS X.K):=ix_list.or (ix_tup.or S8)
theorem S9 (its:List af) (n j:Nat) (u:af):ou (·.setIfInBounds j u) { cls:=.type "list",data:=.seq its.toArray n }={ cls:=.type "list",data:=.seq (its.set j u).toArray n }:=by simp[ou]
theorem Inv.lst {pins:List (ai×Obj)}{σ:St}{H:Hp}{s:ag}{p:ai}{xs:List V}(I:Inv X pins σ H s) (h:H p=some (.lst xs)):
  ∃(its:List af) (n:Nat),Vals xs its/\s.heap.get? p=some { cls:=.type "list",data:=.seq its.toArray n }/\xs.length<=bw:=by
 obtain⟨z,its,n,r,e⟩:=I.hok p _ h;exact⟨its,n,r,e,z⟩
theorem Inv.lstUpd {pins:List (ai×Obj)}{σ:St}{H:Hp}{s:ag}{p:ai}{xs ys:List V}{its its':List af}{n n':Nat}{f:Obj->Obj}(I:Inv X pins σ H s) (h:H p=some (.lst xs))
  (ho:s.heap.get? p=some { cls:=.type "list",data:=.seq its.toArray n }) (hf:f { cls:=.type "list",data:=.seq its.toArray n }={ cls:=.type "list",data:=.seq its'.toArray n' }) (r:Vals ys its') (hz:ys.length<=bw) (t:Nat):
  Inv X pins σ (upd H p (.lst ys)) { s with heap:=s.heap.update p f,toks:=t }:=by
 have e:(s.heap.update p f).get? p=some { cls:=.type "list",data:=.seq its'.toArray n' }:=by rw[jx f ho (by rw[hf] <;> rfl),hf]
 refine I.write (x:=p) (e:=p) (by rw[h];trivial) (.inl rfl) (λb u hb q=>(kv _ _ (cy hb)).trans q) ⟨_,e⟩ ?_;exact⟨hz,its',n',r,e⟩
def TB:V->V->V->Hp->(Hp->Prop)->Prop:=λo i v H Q=>∃p xs k j,o=.ref p/\i=.int k/\H p=some (.lst xs)/\dX xs.length k=some j/\Q (upd H p (.lst (xs.set j v)))
theorem AU:GJ X TB:=by
 intro pins s σ H o i v ov iv u Q I ro ri rv h;obtain⟨p,xs,k,j,rfl,rfl,hp,hj,q⟩:=h;cases ro;obtain⟨t,rfl⟩:=ri;obtain⟨its,n,r,ho,hz⟩:=I.lst hp;obtain⟨h1,h2,h3,h4⟩:=AN hj;have hl:=r.length;have hn:=qI;have I':Inv X pins σ (upd H p (.lst (xs.set j v))) { s with heap:=s.heap.update p (ou (·.setIfInBounds j u)) }:=I.lstUpd hp ho (S9 its n j u) (r.set rv j) (by rw[lr];exact hz) s.toks
 by_cases h0:0<=k
 ·have hk:k.toNat=j:=by rw[seqIndex_of h0 h4]at h1;exact cq h1
  exact PySem.W.ki_setAt ho h0 (by omega) (by rw[av,<-hl];exact h4) (by rw[hk];exact⟨_,I',q⟩)
 ·have hk:(k+(its.toArray.size:Int)).toNat=j:=by rw[seqIndex_neg (by omega) h3]at h1;rw[av,<-hl];exact cq h1
  exact PySem.W.ki_setBack ho (by omega) (by rw[av,<-hl];exact h3) (by omega) (by rw[hk];exact⟨_,I',q⟩)
theorem TF (lo hi:Option Int) (n:Nat):(sliceBounds lo hi none n).1=((HT.sIx n 0 lo:Nat):Int)/\(sliceBounds lo hi none n).2.1=((HT.sIx n n hi:Nat):Int)/\(sliceBounds lo hi none n).2.2=1:=by
 refine⟨?_, ?_,rfl⟩
 ·cases lo with
  |none=>simp[sliceBounds,HT.sIx]
  |some i=>
   simp only[sliceBounds,HT.sIx,Option.getD_none,show(1:Int)>0 by decide,if_true]
   by_cases h:i<0
   ·simp only[h,if_true] <;> omega
   ·simp only[h,if_false] <;> omega
 ·cases hi with
  |none=>simp[sliceBounds,HT.sIx]
  |some i=>
   simp only[sliceBounds,HT.sIx,Option.getD_none,show(1:Int)>0 by decide,if_true]
   by_cases h:i<0
   ·simp only[h,if_true] <;> omega
   ·simp only[h,if_false] <;> omega
theorem TH (its:List af) (lo hi:Option Int):slicePick its.toArray lo hi none=((its.drop (HT.sIx its.length 0 lo)).take (HT.sIx its.length its.length hi - HT.sIx its.length 0 lo)).toArray:=by obtain⟨h1,h2,h3⟩:=TF lo hi its.toArray.size;unfold slicePick;rw[h1,h2,h3];simp only[sliceRange_one,pick_run,av] <;> rfl
def TJ (K:aq):V->Option Int->Option Int->Hp->VK->Prop:=λx lo hi H Q=>∃a xs,x=.ref a/\SqL K H a xs/\∀p,H p=none->Q (.ref p) (upd H p (.lst (nV xs lo hi)))
theorem TL:SlR X (TJ X.K):=by intro pins s σ H x v vl vu lo hi sl Q I rx hs pl pu h;obtain⟨a,xs,rfl,hx,q⟩:=h;cases rx;obtain⟨its,r,ht,hz⟩:=I.list hx;have hlen:=r.length;refine⟨"list",_,slot_list_getitem.lookup,ht.isList.typeIs, ?_⟩;refine wpAny_getItem_list_slice ht.isList hs pl pu .none (by simp) ?_ (by rw[av] <;> omega);rw[TH,<-hlen];refine⟨.ref s.heap.objs.size,_,I.laid (t':=s.toks) (o:=.lst (nV xs lo hi)) (λb ob q=>aj _ q) (ak _) ?_,rfl,q _ (I.hok.fresh (ak _))⟩;exact⟨dm (G9 xs lo hi) hz,_,0,(r.drop (HT.sIx xs.length 0 lo)).take (HT.sIx xs.length xs.length hi - HT.sIx xs.length 0 lo),ax _ rfl⟩
theorem HK:CallR X (.builtin "len") (λxs H Q=>∃p ys,xs=[.ref p]/\(SqL X.K H p ys∨SqT X.K H p ys)/\Q (.int ys.length) H):=by
 intro pins s σ H xs us Q I r h;obtain⟨p,ys,rfl,hq,q⟩:=h;obtain⟨u,rfl,rx⟩:=hJ r;cases rx;have hn:=qI
 rcases hq with hq|hq
 ·obtain⟨its,r',pl,hz⟩:=I.list hq;have hlen:=r'.length;exact Calls.call_len_list pl.isList (by simp only[av] <;> omega) ⟨.int ys.length,H,I.tok _,⟨s.toks+1,by rw[av,hlen]⟩,q⟩
 ·obtain⟨its,r',pl,hz⟩:=I.tuple hq;have hlen:=r'.length;exact len_tuple pl (by simp only[av] <;> omega) ⟨.int ys.length,H,I.tok _,⟨s.toks+1,by rw[av,hlen]⟩,q⟩
theorem TM:CallR X (.type "list") (λxs H Q=>∃p ys,xs=[.ref p]/\(SqL X.K H p ys∨SqT X.K H p ys)/\∀l,H l=none->Q (.ref l) (upd H l (.lst ys))):=by
 intro pins s σ H xs us Q I r h;obtain⟨p,ys,rfl,hq,q⟩:=h;obtain⟨u,rfl,rx⟩:=hJ r;cases rx;have fin:∀(its:List af),Vals ys its->ys.length<=bw->∀(h':cu) (c':Nat),(∀b o',s.heap.get? b=some o'->h'.get? b=some o')->
   h'.get? s.heap.objs.size=some { cls:=.type "list",dict:=none,data:=.seq its.toArray c',slots:=#[] }->EP X pins σ Q (.ref s.heap.objs.size) { s with heap:=h' }:=λits r' hz h' c' kp e=>
  ⟨.ref s.heap.objs.size,_,I.laid (t':=s.toks) kp (ak _) (show ObjOk X.prog X.w _ h' _ (.lst ys) from⟨hz,its,c',r',e⟩),rfl,q _ (I.hok.fresh (ak _))⟩
 rcases hq with hq|hq
 ·obtain⟨its,r',pl,hz⟩:=I.list hq;have hlen:=r'.length;obtain⟨o,ho,hc,n,hd⟩:=pl.isList;exact call_list_seq p (.inl rfl) ho hc hd (λh' c' kp e=>fin its r' hz h' c' kp e) (by simp only[av] <;> omega)
 ·obtain⟨its,r',pl,hz⟩:=I.tuple hq;have hlen:=r'.length;obtain⟨o,ho,hc,n,hd⟩:=pl;exact call_list_seq p (.inr rfl) ho hc hd (λh' c' kp e=>fin its r' hz h' c' kp e) (by simp only[av] <;> omega)
theorem TN:CallR X (.type "tuple") (λxs H Q=>∃p ys,xs=[.ref p]/\((SqL X.K H p ys/\∀l,H l=none->Q (.ref l) (upd H l (.tup ys)))∨(SqT X.K H p ys/\Q (.ref p) H))):=by
 intro pins s σ H xs us Q I r h;obtain⟨p,ys,rfl,h⟩:=h;obtain⟨u,rfl,rx⟩:=hJ r;cases rx
 rcases h with⟨hq,q⟩|⟨hq,q⟩
 ·obtain⟨its,r',pl,hz⟩:=I.list hq;have hlen:=r'.length;refine call_tuple_list pl.isList (λh' kp=>?_) (by simp only[av] <;> omega);have I1:Inv X pins σ H { s with heap:=h' }:=I.kept (t':=s.toks) kp;have I2:Inv X pins σ (upd H h'.objs.size (.tup ys)) { s with heap:=h'.push { cls:=.type "tuple",data:=.seq its.toArray } }:=I1.laid (t':=s.toks) (λb o e=>aj _ e) (ak _) (show ObjOk X.prog X.w _ _ _ (.tup ys) from⟨hz,its,r',IsTupX.new _ _⟩);exact⟨.ref h'.objs.size,_,I2,rfl,q _ (I1.hok.fresh (ak _))⟩
 ·obtain⟨its,r',pl,hz⟩:=I.tuple hq;exact call_tuple_same pl ⟨.ref p,H,I,rfl,q⟩
def vT (K:aq) (T:String) (x:V) (H:Hp):Prop:=match x with
 | .str _=>T = "str"
 | .int _=>T = "int"
 | .ref p=>(T = "list"/\∃xs,SqL K H p xs)∨(T = "tuple"/\∃o,K.lookup p=some o/\o.cls=.type "tuple"/\o.dict=none) ∨
   (T = "dict"/\((∃kvs,H p=some (.dK kvs))∨∃kvs,H p=some (.dT kvs)))∨(T = "set"/\∃S n,H p=some (.set S n))
 |_=>False
theorem TQ {pins:List (ai×Obj)}{σ:St}{H:Hp}{s:ag}{T:String}{x:V}{v:af}(I:Inv X pins σ H s) (r:RelV x v) (ty:vT X.K T x H):
  s.TypeIs v T/\∀a,v=.ref a->∃ob,s.heap.get? a=some ob/\ob.dict=none:=by
 cases x with
 |str z=>
  obtain⟨t,rfl⟩:=r
  cases (show T = "str" from ty)
  exact⟨typeIs_str s z t,λ_ e=>nomatch e⟩
 |int i=>
  obtain⟨t,rfl⟩:=r
  cases (show T = "int" from ty)
  exact⟨typeIs_int s i t,λ_ e=>nomatch e⟩
 |ref p=>
  cases r
  rcases ty with⟨rfl,xs,hq⟩|⟨rfl,o,hk,hc,hd⟩|⟨rfl,hk⟩|⟨rfl,S,n,hk⟩
  ·obtain⟨its,_,pl,_⟩:=I.list hq;refine⟨pl.isList.typeIs,λa e=>?_⟩;cases e;obtain⟨o,n,e,c,hd,_⟩:=pl;exact⟨o,e,hd⟩
  ·refine⟨⟨o,I.kIn p o hk,hc⟩,λa e=>?_⟩;cases e;exact⟨o,I.kIn _ o hk,hd⟩
  ·have z:∃o,s.heap.get? p=some o/\o.ExactDict:=by
    rcases hk with⟨kvs,hk⟩|⟨kvs,hk⟩
    ·obtain⟨_,_,_,_,o,_,_,e,ex,_⟩:=I.hok p _ hk;exact⟨o,e,ex⟩
    ·obtain⟨_,_,_,_,o,_,_,e,ex,_⟩:=I.hok p _ hk;exact⟨o,e,ex⟩
   obtain⟨o,e,ex⟩:=z;refine⟨⟨o,e,ex.1⟩,λa e2=>?_⟩;cases e2;exact⟨o,e,ex.2.1⟩
  ·obtain⟨o,_,_,_,e,ex,_⟩:=I.hok p _ hk;refine⟨⟨o,e,ex.1⟩,λa e2=>?_⟩;cases e2;exact⟨o,e,ex.2.1⟩
 |_=>exact ig ty
def TR (K:aq) (T:String) (r:V->List V->Hp->VK->Prop) (to:TE) (t:TA):TE:=λσ H Q=>to σ H λx H1=>vT K T x H1/\t σ H1 λxs H2=>r x xs H2 Q
variable{o e:bq}{es:List bq}{to:TE}{t:TA}{name:Str}{apos cpos:Pos}{T id:String}{r:V->List V->Hp->VK->Prop}
theorem AV (pa:PlainAttrs T) (slot:Slot T name id) (hty:typeOf (.builtin id)=pure (.type "method_descriptor")) (hm:AR X id r) (ho:PE X o to) (ha:PA X (e::es) t)
  (hbase:attributeBase o name X.env (eval o X.env)=eval o X.env:=by rfl)
  (hfew:((backTo cpos (au (e::es) X.env)).all (λx=>!x.1)&&(backToKw cpos (keywordEach [] X.env)).all (λx=>x.1.isSome)
   && decide ((e::es).length+([]:List Keyword).length+(if([]:List Keyword).isEmpty then 0 else 1)<30))=true:=by rfl)
  (hline:(apos.endLine==cpos.line)=true:=by rfl) (hs:au (e::es) X.env=(false,eval e X.env)::au es X.env:=by rfl) (hplain:(backTo cpos (au es X.env)).any (·.1)=false:=by rfl):
  PE X (.Call (.Attribute o name apos) (e::es) [] cpos) (TR X.K T r to t):=by
 intro pins s σ H Q I h;refine wpAny_Call_method_late hbase hfew hline rfl (aV (ho pins s σ H _ I h) λv s1 ⟨x,H1,I1,r1,ty,q1⟩=>?_);obtain⟨h1,h2⟩:=TQ I1 r1 ty;refine⟨T,id,pa,slot,hty,h1,h2, ?_⟩;have hA:=ha cpos pins s1 σ H1 _ I1 q1;rw[hs]at hA ⊢;refine Bs (by show(false||(backTo cpos (au es X.env)).any (·.1))=false;rw[hplain] <;> rfl) (vf ?_);exact aV hA λus s2 ⟨vs,H2,I2,r2,q2⟩=>hm pins s2 σ H2 x vs v us Q I2 r1 r2 q2
end
def AW (X:Cx) (id:String) (r:V->List V->Hp->VK->Prop):Prop:=
 ∀(pins:List (ai×Obj)) (s:ag) (σ:St) (H:Hp) (x:V) (xs:List V) (v:af) (us:List af) (Q:VK),Inv X pins σ H s->RelV x v->Vals xs us->r x xs H Q->
  wpAny (model X.prog X.w) X.A (call (.builtin id) (v::us)) (EP X pins σ Q) X.xe s
theorem Vals.one:∀{x:V}{us:List af},Vals [x] us->∃u,us=[u]/\RelV x u
 |_,_,.cons r .nil=>⟨_,rfl,r⟩
theorem Vals.eraseIdx:∀{xs:List V}{us:List af}(i:Nat),Vals xs us->Vals (xs.eraseIdx i) (us.eraseIdx i)
 |_,_,_,.nil=>.nil
 |_,_,0,.cons _ t=>t
 |_,_,i+1,.cons r t=>.cons r (Vals.eraseIdx i t)
theorem HL {α:Type}:∀(l:List α) (i:Nat),(l.eraseIdx i).length<=l.length
 | [],_=>ak _
 |_::_,0=>Nat.le_succ _
 |_::r,i+1=>Nat.succ_le_succ (HL r i)
section
variable{X:Cx}{pins:List (ai×Obj)}{σ:St}{H:Hp}{s:ag}{l b:ai}{xs ys zs:List V}
theorem Inv.lset {its its':List af}{n:Nat}{f:Array af->Array af}{t':Nat}(I:Inv X pins σ H s) (hH:H l=some (.lst xs))
  (e:s.heap.get? l=some { cls:=.type "list",data:=.seq its.toArray n }) (hf:f its.toArray=its'.toArray) (hv:Vals ys its') (hz:ys.length<=bw):
  Inv X pins σ (upd H l (.lst ys)) { s with heap:=s.heap.update l (ou f),toks:=t' }:=by
 have q:=Ce e f;rw[hf]at q;refine I.write (x:=l) (e:=l) (by rw[hH];exact trivial) (.inl rfl) (λb' u hb hu=>(kv s.heap (ou f) (cy hb)).trans hu) ⟨_,q⟩ ?_;exact⟨hz,its',_,hv,q⟩
theorem Inv.lnew {its:List af}{t':Nat}(I:Inv X pins σ H s) (hv:Vals ys its) (hz:ys.length<=bw):
  Inv X pins σ (upd H s.heap.objs.size (.lst ys)) { s with heap:=s.heap.push { cls:=.type "list",data:=.seq its.toArray },toks:=t' }:=
 I.laid (λ_ _ q=>aj _ q) (ak _) ⟨hz,its,0,hv,ax _ rfl⟩
theorem Inv.fresh (I:Inv X pins σ H s):H s.heap.objs.size=none:=I.hok.fresh (ak _)
theorem Inv.lstM (I:Inv X pins σ H s) (hH:H l=some (.lst xs)):xs.length<=bw/\∃(its:List af) (n:Nat),Vals xs its/\xs.length=its.length/\s.heap.get? l=some { cls:=.type "list",data:=.seq its.toArray n }:=by obtain⟨z,its,n,r,e⟩:=I.hok l _ hH;exact⟨z,its,n,r,r.length,e⟩
theorem TU {n:Nat}(h:n<=bw):qh n=false:=by unfold qh;exact decide_eq_false (by omega)
end
section
variable{X:Cx}
def TV:V->List V->Hp->VK->Prop:=λx vs H Q=>∃l xs y,x=.ref l/\vs=[y]/\H l=some (.lst xs)/\xs.length<bw/\Q .non (upd H l (.lst (xs++[y])))
theorem TX:AW X "list.append" TV:=by intro pins s σ H x vs v us Q I rx rv h;obtain⟨l,xs,y,rfl,rfl,hH,hz,q⟩:=h;cases rx;obtain⟨u,rfl,ru⟩:=rv.one;obtain⟨z,its,n,r,hl,e⟩:=I.lstM hH;refine Cf F.slot_list_append ⟨_,e,rfl⟩ F.entry_list_append (F.args_list_append_2 _ _) (PySem.list_append l its.toArray n u (by rw[av];omega)) ⟨e, ?_⟩;refine⟨.non,_,I.lset (its':=its++[u]) hH e (by simp) (r.append (.cons ru .nil)) ?_,rfl,q⟩;rw[bu,Cg];omega
def TY:V->List V->Hp->VK->Prop:=λx vs H Q=>∃l b xs zs,x=.ref l/\vs=[.ref b]/\H l=some (.lst xs)/\H b=some (.lst zs)/\xs.length+zs.length<=bw/\Q .non (upd H l (.lst (xs++zs)))
theorem TZ:AW X "list.extend" TY:=by
 intro pins s σ H x vs v us Q I rx rv h;obtain⟨l,b,xs,zs,rfl,rfl,hH,hB,hz,q⟩:=h;cases rx;obtain⟨u,rfl,ru⟩:=rv.one;cases ru;obtain⟨z,its,n,r,hl,e⟩:=I.lstM hH;obtain⟨z2,its2,n2,r2,hl2,e2⟩:=I.lstM hB;have hsz:its.toArray.size+its2.toArray.size<=bw:=by rw[av,av];omega
 have hlong:¬ (!its.toArray.isEmpty&&qh (its.toArray.size+its2.toArray.size))=true:=by rw[TU hsz,qv];exact jf
 refine Cf F.slot_list_extend ⟨_,e,rfl⟩ F.entry_list_extend (F.args_list_extend_2 _ _)
  (AutoSeq1.list_extend_list_list_0 l its.toArray n b its2.toArray n2 hlong (by rw[av];omega) (by omega)) ⟨e,e2, ?_⟩
 refine⟨.non,_,I.lset (its':=its++its2) hH e (by simp) (r.append r2) ?_,rfl,q⟩;rw[bu];omega
def T1:V->List V->Hp->VK->Prop:=λx vs H Q=>∃l xs i k y,x=.ref l/\vs=[.int i]/\H l=some (.lst xs)/\-(2 ^ 63)<=i/\i<2 ^ 63/\seqIndex? i xs.length=some k/\xs[k]?=some y/\Q y (upd H l (.lst (xs.eraseIdx k)))
theorem T3:AW X "list.pop" T1:=by
 intro pins s σ H x vs v us Q I rx rv h;obtain⟨l,xs,i,k,y,rfl,rfl,hH,h1,h2,hk,hy,q⟩:=h;cases rx;obtain⟨u,rfl,ru⟩:=rv.one;obtain⟨t,rfl⟩:=ru;obtain⟨z,its,n,r,hl,e⟩:=I.lstM hH;obtain⟨w,hw,rw'⟩:=r.get hy;refine Cf F.slot_list_pop ⟨_,e,rfl⟩ F.entry_list_pop (F.args_list_pop_2 _ _)
  (MeetsSeq.list_pop_at l its.toArray n i t k w (fitsIndex_both h1 h2) (by rw[av,<-hl];exact hk) (by rw[<-ly];exact hw) (by rw[av];omega)) ⟨e, ?_⟩
 refine⟨y,_,I.lset (its':=its.eraseIdx k) hH e ?_ (r.eraseIdx k) ?_,rw',q⟩
 ·show its.toArray.eraseIdxIfInBounds k=(its.eraseIdx k).toArray;rw[List.eraseIdxIfInBounds_toArray]
 ·have:=HL xs k;omega
def HM:R2:=λx y H Q=>∃l b xs zs,x=.ref l/\y=.ref b/\H l=some (.lst xs)/\H b=some (.lst zs)/\xs.length+zs.length<=bw/\∀p,H p=none->Q (.ref p) (upd H p (.lst (xs++zs)))
theorem op_cat:OpR X (binaryOp .Add) HM:=by
 intro pins s σ H x y v u Q I rx ry h;obtain⟨l,b,xs,zs,rfl,rfl,hH,hB,hz,q⟩:=h;cases rx;cases ry;obtain⟨z,its,n,r,hl,e⟩:=I.lstM hH;obtain⟨z2,its2,n2,r2,hl2,e2⟩:=I.lstM hB;refine PySem.P.add_list e e2 ?_ (by rw[av,av];omega);have ea:its.toArray++its2.toArray=(its++its2).toArray:=by simp
 rw[ea];exact⟨.ref _,_,I.lnew (t':=s.toks) (r.append r2) (by rw[bu];omega),rfl,q _ I.fresh⟩
end
section
variable{prog:bh}{w:cn}{A:cf}{E:af->ag->Prop}{s:ag}
set_option maxRecDepth 100000 in
end
section
variable{X:Cx}
end
end L2
namespace Att
open PySem PySem.W PySem.Calls PyProof.Rows
theorem T4 {P:Params}{h:cu}:∀(ns:List Int) (vs:List af),WellAll P h vs (ns.map WData.int)->ku vs ns:=by
 intro ns
 induction ns with
 |nil=>intro vs w;rw[List.map_nil]at w;cases w;exact .nil
 |cons n ns ih=>
  intro vs w;rw[dk]at w
  cases w with
  |cons a b=>cases a;exact .cons _ _ (ih _ b)
theorem T5 {l:OpenLaw}{n:Nat}(hn:l.most=some n) {P:Params}{h:cu}{args:List WData}{vals:List af}
  (hpre:l.row.toRowW.claim.pre args=true) (hwl:WellAll P h vals args):
  ∃a vs ns,vals=[ij a]/\args=[WData.list (ns.map WData.int)]/\h.get? a=some { cls:=.type "list",data:=.seq vs.toArray }/\ku vs ns/\ns.length<=n:=by
 have hsh:WShape.hasAll [] args [.list .int]=true:=(pre_splitW hpre).1;have hc:l.pre.holds [] { args:=args }=true:=(pre_splitW hpre).2;obtain⟨d,r,rfl,h1,h2⟩:=hasAllW_cons hsh;obtain rfl:=hasAllW_nil h2;obtain⟨xs,rfl,h3⟩:=hasW_list h1;obtain⟨ns,rfl⟩:=items_int h3;have hlen:ns.length<=n:=by
  unfold OpenLaw.pre at hc;have h4:(WTm.not (.lt (.lit (.int (n:Int))) (.len (.arg 0)))).holds [] { args:=[.list (ns.map .int)] }=true:=by have h4:=(holds_andW hc).1;rw[hn]at h4;exact h4
  have h5:=condW_of h4 (w_not (w_lt w_lit (w_len_list (w_arg rfl))));rw[bj]at h5;refine Nat.le_of_not_lt λq=>?_;have q':(n:Int)<((ns.length:Nat):Int):=by omega
  first
   |(rw[decide_eq_true q']at h5;exact absurd h5 (by decide))
   |(simp at h5;omega)
 cases hwl with
 |cons w1 w2=>
  cases w2
  cases w1 with
  |list ho hall=>exact⟨_,_,ns,rfl,rfl,ho,T4 ns _ hall,hlen⟩
theorem T6 (l:OpenLaw) (args:List WData):l.row.toRowW.claim.post args (.bool true) args=true:=
 postW_of (r:=l.row.toRowW) (X:=(true==true))
  (show WShape.has [] (.bool true) .bool=true by first|rfl|decide|simp[WShape.has,WShape.arms,WShape.armsAll])
  (show(WTm.eq .res (.lit (.bool true))).value [] { args:=args,res:=some (.bool true),after:=args }=some (.bool (true==true)) from w_eq_bool (w_res rfl) w_lit) rfl
theorem attach_call {l:OpenLaw}{n:Nat}{q:bh}{loose:List Str}{XP:(Str->Option af)->cu->Prop}{YP:cn->cu->Prop}{d:DefRec}
  (hn:l.most=some n) (hdf:d.params.defaults=[])
  (call:∀(w:cn) (s₀ s₁:ag) (mg mb:Str->Option af) (fa:ai) (o:Obj) (pm cd doc:af) (a:ai) (vs:List af) (ns:List Int),
   Ground q loose [] XP w s₀ mg mb s₁.heap->YP w s₁.heap->
   s₁.heap.get? fa=some o->o.data=.func (docDef d.name d.params d.body d.scope pm cd doc)->s₁.heap.CodeRec cd d.name->mg d.name=some (.ref fa)->
   s₁.heap.get? a=some { cls:=.type "list",data:=.seq vs.toArray }->ku vs ns->ns.length<=n->s₁.gens=#[]->
   codeAny (model l.prog w) callerA (.call (.ref fa) ⟨[.ref a],[]⟩) (λr s'=>r=.ok (.ret (.bool true))/\OldK s₁.heap s'.heap/\s'.os=s₁.os/\uf s'.gens) s₁):
  WalkO q loose XP YP l.row.toRowW d [] (λf vs=>PySem.call f vs):=by
 intro w s₀ s₁ mg mb G Y fa o pm cd doc dV kV ho hd hcd hD hmg hg args vals as hpre hlay hrd hwl hlo;obtain rfl:dV=.none:=Dflts.none hD hdf;obtain rfl:kV=.none:=Dflts.noKw hD;obtain⟨a,vs,ns,rfl,rfl,hobj,hints,hlen⟩:=T5 hn hpre hwl;refine enter_call (pz (call w s₀ s₁ mg mb fa o pm cd doc a vs ns G Y ho (fd_plain hd) hcd hmg hobj hints hlen hg) λr s' hq=>?_);obtain⟨rfl,h2,h3,h4⟩:=hq;exact⟨.inl ⟨.bool true,.bool true,[],rfl,λ_=>rfl,.bool true,T6 l _,λ_=>⟨um,λ_ hm=>(nomatch hm)⟩⟩,h2,h3,h4⟩
section
variable{prog:bh}{w:cn}{A:cf}{E:af->ag->Prop}{s:ag}{K:Frag}
end
end Att
namespace L2
open PySem PySem.Spec PyProof.Rows
theorem sT:∀{vs:List af}{ns:List Int},ku vs ns->Vals (ns.map V.int) vs
 |_,_,.nil=>.nil
 |_,_,.cons n t h=>.cons ⟨t,rfl⟩ (sT h)
def nW (s:gz):ni:=match s with
 | .FunctionDef _ a _ _ _ _ _ _ _ _=>a
 |_=>{ posonlyargs:=[],args:=[],vararg:=none,kwonlyargs:=[],kw_defaults:=[],kwarg:=none,defaults:=[] }
def iY (s:gz):List gz:=match s with
 | .FunctionDef _ _ b _ _ _ _ _ _ _=>b
 |_=>[]
def aU (s:gz):iq:=match s with
 | .FunctionDef _ _ _ _ _ _ sc _ _ _=>sc
 |_=>{ kind:=.function,names:=[],isGenerator:=false,isCoroutine:=false }
abbrev E0:XK:=λ_ _ _=>False
structure Fun (K:aq) (x qual:Str) (st:gz) (f:ai) (fd:bo):Prop where
 ex:∃(oc:af) (od:Option ai) (kV doc pm:af) (an:Option ai) (cdv ct:af) (osl:Array (Option af)),
  fd=qg x qual (nW st) (iY st) (aU st) .none kV doc pm an cdv ct/\K.lookup f=some ⟨oc,od,.func fd,osl⟩/\yd K cdv qual=true
 kp:mn K (.ref f)=true
section
variable{P:bh}{w:cn}{K:aq}{mg:Str->Option af}{base:cu}
theorem Fun.binds {x qual:Str}{st:gz}{f:ai}{fd:bo}{ps:List Str}(F:Fun K x qual st f fd)
  (h:∀(kV doc pm:af) (an:Option ai) (cdv ct:af) (us:List af),us.length=ps.length->bindArgs (qg x qual (nW st) (iY st) (aU st) .none kV doc pm an cdv ct) ⟨us,[]⟩=pure (ps.zip us)):Binds K fd ps []:=by
 obtain⟨oc,od,kV,doc,pm,an,cdv,ct,osl,rfl,lk,hcd⟩:=F.ex;exact .all (h kV doc pm an cdv ct)
theorem HN {x qual:Str}{st:gz}{f:ai}{oc:af}{od an:Option ai}{osl:Array (Option af)}{kV doc pm cdv ct:af}(l:K.lookup f=some ⟨oc,od,.func (qg x qual (nW st) (iY st) (aU st) .none kV doc pm an cdv ct),osl⟩)
  (c:yd K cdv qual=true) (k:mn K (.ref f)=true):Fun K x qual st f (qg x qual (nW st) (iY st) (aU st) .none kV doc pm an cdv ct):=⟨⟨oc,od,kV,doc,pm,an,cdv,ct,osl,rfl,l,c⟩,k⟩
end
section
variable{X:Cx}
end
theorem HP {A B:Prop}(h:B):if false=true then A else B:=by rw[if_neg jf];exact h
theorem HQ {A B:Prop}(h:A):if true=true then A else B:=by rw[if_pos rfl];exact h
def Same (H H':Hp):Prop:=∀b o,H b=some o->H' b=some o
theorem Same.refl (H:Hp):Same H H:=λ_ _ h=>h
theorem vU {β:Type}(x y:Str) (c:β) (acc:List (Str×β)):((y,c)::acc).lookup x=if x=y then some c else acc.lookup x:=by
 rw[ja]
 by_cases e:x=y
 ·have hb:(x==y)=true:=beq_iff_eq.mpr e;rw[hb,if_pos e]
 ·have hb:(x==y)=false:=beq_eq_false_iff_ne.mpr e;rw[hb,if_neg e]
def cU (env:Env):List (Str×lg)->List (Str×ai)->List (Str×ai)
 | [],acc=>acc
 |(x,k)::r,acc=>cU env r (if k==.free then(x,(env.cells.lookup x).getD 0)::acc else acc)
theorem AX {env:Env}:∀(l:List (Str×lg)) (acc:List (Str×ai)),(∀x,(x,cb)∈l->∃c,env.cells.lookup x=some c)->
  (forIn l acc (λ(x:Str×lg) (r:List (Str×ai))=>match x with
   |(name,kind)=>if(kind==cb)=true then(do let a <-cellOf env name;pure (tj ((name,a)::r)))else(pure (tj r):Sem (ForInStep (List (Str×ai))))))=(pure (cU env l acc):Sem (List (Str×ai)))
 | [],acc,_=>rfl
 |(x,k)::l,acc,h=>by
  rw[qi];dsimp only
  cases hk:k==cb with
  |true=>
   have e:k=.free:=by cases k <;> first|rfl|cases hk
   subst e;obtain⟨c,hc⟩:=h x (bc ..);rw[if_pos rfl,show cU env ((x,cb)::l) acc=cU env l ((x,c)::acc)by rw[cU,if_pos hk,hc];rfl,<-AX l ((x,c)::acc) λy hy=>h y (ao _ hy)];unfold cellOf;rw[hc];rfl
  |false=>rw[if_neg (by simp),show cU env ((x,k)::l) acc=cU env l acc by rw[cU,hk];rfl,<-AX l acc λy hy=>h y (ao _ hy)];rfl
theorem AY {env:Env}{scope:iq}(h:∀x,(x,cb)∈scope.names->∃c,env.cells.lookup x=some c):closureFor scope env=pure (cU env scope.names []):=by unfold closureFor;have:=AX (env:=env) scope.names [] h;show(forIn scope.names [] _ >>= λcs=>pure cs)=_;exact(congrArg (λ(m:Sem (List (Str×ai)))=>m >>= λcs=>pure cs) this)
theorem sU {env:Env}{x:Str}:∀(l:List (Str×lg)) (acc:List (Str×ai)),((x,cb)∈l∨acc.lookup x=some ((env.cells.lookup x).getD 0))->(cU env l acc).lookup x=some ((env.cells.lookup x).getD 0)
 | [],acc,h=>h.elim (λz=>nomatch z) id
 |(y,k)::l,acc,h=>by
  rw[cU]
  cases hk:k==cb with
  |true=>
   refine sU l _ ?_;rw[if_pos rfl]
   by_cases e:x=y
   ·subst e;right;rw[vU,if_pos rfl]
   ·rcases h with h|h
    ·rcases ay.mp h with h|h
     ·cases h;exact absurd rfl e
     ·exact .inl h
    ·right;rw[vU,if_neg e];exact h
  |false=>
   refine sU l _ ?_
   rcases h with h|h
   ·rcases ay.mp h with h|h
    ·cases h;simp at hk
    ·exact .inl h
   ·exact .inr h
structure BlkCells (h h':cu) (names:List (Str×lg)) (acc cs:List (Str×ai)):Prop where
 cases:∀x c,cs.lookup x=some c->acc.lookup x=some c∨(h.objs.size<=c/\h'.IsCell c none/\(x,dy)∈names)
 own:∀x,(x,dy)∈names->∃c,cs.lookup x=some c
 old:∀x,(x,dy)∉names->cs.lookup x=acc.lookup x
 inj:(∀x y c,acc.lookup x=some c->acc.lookup y=some c->x=y)->(∀x c,acc.lookup x=some c->c<h.objs.size)->∀x y c,cs.lookup x=some c->cs.lookup y=some c->x=y
theorem sV:∀(names:List (Str×lg)) (h:cu) (acc:List (Str×ai)),BlkCells h (pushCells h names) names acc (cellsFrom h.objs.size names acc)
 | [],h,acc=>{ cases:=λ_ _ e=>.inl e,own:=λ_ z=>(nomatch z),old:=λ_ _=>rfl,inj:=λa _=>a }
 |(y,k)::r,h,acc=>by
  cases hk:k==dy with
  |true=>
   have ek:k=.cell:=by cases k <;> first|rfl|cases hk
   subst ek;have ih:=sV r (h.push { cls:=.type "cell",data:=.cell none }) ((y,h.objs.size)::acc);have e1:pushCells h ((y,dy)::r)=pushCells (h.push { cls:=.type "cell",data:=.cell none }) r:=rfl;have e2:cellsFrom h.objs.size ((y,dy)::r) acc=cellsFrom (h.push { cls:=.type "cell",data:=.cell none }).objs.size r ((y,h.objs.size)::acc):=by rw[fq];rfl
   rw[e1,e2];have look:∀x,((y,h.objs.size)::acc).lookup x=if x=y then some h.objs.size else acc.lookup x:=λx=>vU ..
   refine⟨λx c e=>?_,λx hx=>?_,λx hx=>?_,λh1 h2 x z c ex ez=>?_⟩
   ·rcases ih.cases x c e with q|⟨q1,q2,q3⟩
    ·rw[look]at q
     by_cases exy:x=y
     ·rw[if_pos exy]at q;cases q;refine .inr ⟨ak _,⟨_,rh r _ _ _ (ax _ rfl),rfl⟩,by rw[exy];exact bc ..⟩
     ·rw[if_neg exy]at q;exact .inl q
    ·rw[fq]at q1;exact .inr ⟨Nat.le_of_succ_le q1,q2,ao _ q3⟩
   ·by_cases hr:(x,dy)∈r
    ·exact ih.own x hr
    ·rw[ih.old x hr,look]
     rcases ay.mp hx with z|z
     ·cases z;exact⟨_,if_pos rfl⟩
     ·exact absurd z hr
   ·rw[ih.old x λz=>hx (ao _ z),look,if_neg]
    rintro rfl
    exact hx (bc ..)
   ·refine ih.inj ?_ ?_ x z c ex ez
    ·intro a b c ea eb;rw[look]at ea eb
     by_cases qa:a=y
     ·rw[if_pos qa]at ea;cases ea
      by_cases qb:b=y
      ·exact qa.trans qb.symm
      ·rw[if_neg qb]at eb;exact absurd (h2 b _ eb) (gy _)
     ·rw[if_neg qa]at ea
      by_cases qb:b=y
      ·rw[if_pos qb]at eb;cases eb;exact absurd (h2 a _ ea) (gy _)
      ·rw[if_neg qb]at eb;exact h1 a b c ea eb
    ·intro a c ea;rw[fq];rw[look]at ea
     by_cases qa:a=y
     ·rw[if_pos qa]at ea;cases ea;exact jv _
     ·rw[if_neg qa]at ea;exact ik (h2 a c ea)
  |false=>
   have ih:=sV r h acc;have e1:pushCells h ((y,k)::r)=pushCells h r:=by rw[pushCells,hk];rfl
   have e2:cellsFrom h.objs.size ((y,k)::r) acc=cellsFrom h.objs.size r acc:=by rw[cellsFrom,hk];rfl
   rw[e1,e2];have nk:∀x,(x,dy)∈(y,k)::r->(x,dy)∈r:=λx z=>by
    rcases ay.mp z with z|z
    ·cases z;simp at hk
    ·exact z
   exact⟨λx c e=>(ih.cases x c e).imp id λ⟨a,b,c⟩=>⟨a,b,ao _ c⟩,λx hx=>ih.own x (nk x hx),λx hx=>ih.old x λz=>hx (ao _ z),ih.inj⟩
def HR (scope:iq) (env:Env) (L:ai):Env:={ scope:=relabel scope env,locals:=L,globals:=env.globals,cells:=cellsFrom (L+1) scope.names (cU env scope.names []),qual:=env.qual,func:=none,code:=env.code,frame:=env.frame,builtins:=env.builtins }
theorem T7 {M:Bg}{A:cf}{E:af->ag->Prop}{s:ag}{scope:iq}{env:Env}{cl:List (Str×ai)}{qual:Str}{g:ai}{Q:Env->ag->Prop}
  (h:Q { scope:=scope,locals:=s.heap.objs.size,globals:=g,cells:=cellsFrom (s.heap.objs.size+1) scope.names cl,qual:=qual,func:=none,code:=env.code,frame:=env.frame,builtins:=env.builtins }
   { s with heap:=pushCells (s.heap.push { cls:=.type "dict",data:=.dict #[] }) scope.names }):
  wpAny M A (newFunctionEnv scope g cl [] qual none .none (some env)) Q E s:=by
 simp only[newFunctionEnv,Option.isSome_some,if_true];refine aa (wpAny_alloc ?_);refine aa (wpAny_layCells _ (λname kind cells=>by cases hkc:kind==dy <;> simp[hkc]) _ _ _ _ ?_);rw[show({ s with heap:=s.heap.push { cls:=.type "dict",data:=.dict #[] } }:ag).heap.objs.size=s.heap.objs.size+1 from fq ..];exact aa (ah (ah h))
def cV (X:Cx) (scope:iq) (N:List Str) (s:ag) (H:Hp) (ex:List ai):Cx:={ X with N:=N,s₀:=s,H₀:=H,env:=HR scope X.env s.heap.objs.size,outer:=X.stack,stack:=X.stack,ex:=ex,fn:=λx=>scope.names.lookup x==some .cell,xe:=λ_ _=>False }
def qK (cap:List (Option Nat)) (σ:St):St:=cap.map λo=>match o with|some j=>(σ[j]?).getD none|none=>none
structure CapOk (X:Cx) (scope:iq) (N:List Str) (cap:List (Option Nat)):Prop where
 kind:scope.kind=.function
 nd:∀x∈scope.names,x.2=.local->scope.names.lookup x.1=some .local
 len:cap.length=N.length
 free:∀x,(x,cb)∈scope.names->X.env.kindOf x=some .cell∨X.env.kindOf x=some .free
 apart:∀x,(x,cb)∈scope.names->(x,dy)∉scope.names
 cap:∀(i j:Nat) (x:Str),cap[i]?=some (some j)->N[i]?=some x->X.N[j]?=some x/\(x,cb)∈scope.names/\(relabel scope X.env).names.lookup x≠some .local
theorem AZ {scope:iq}{env:Env}{x:Str}:∀{l:List (Str×lg)}{k:lg},(l.map λ(n,k)=>if(k==cb&&env.scope.kind==.function&&env.kindOf n==some .cell)then(n,dy)else(n,k)).lookup x=some k->
  (x,k)∈l∨(k=.cell/\(x,cb)∈l)
 | [],_,h=>by simp at h
 |(n,q)::r,k,h=>by
  have ih:=@AZ scope env x r k;rw[dk]at h
  by_cases hc:(q==cb&&env.scope.kind==.function&&env.kindOf n==some .cell)=true
  ·have hq:q=.free:=by
    have:(q==cb)=true:=by
     cases z:q==cb with
     |true=>rfl
     |false=>rw[z]at hc;simp at hc
    cases q <;> first|rfl|cases this
   dsimp only at h;rw[if_pos hc,ja]at h
   cases e:x==n with
   |true=>rw[e]at h;have h':dy=k:=cq h;subst h';have ex:=beq_iff_eq.mp e;subst ex;subst hq;exact .inr ⟨rfl,bc ..⟩
   |false=>rw[e]at h;exact(ih h).imp (ao _) λ⟨a,b⟩=>⟨a,ao _ b⟩
  ·dsimp only at h;rw[if_neg hc,ja]at h
   cases e:x==n with
   |true=>rw[e]at h;have h':q=k:=cq h;subst h';have ex:=beq_iff_eq.mp e;subst ex;exact .inl (bc ..)
   |false=>rw[e]at h;exact(ih h).imp (ao _) λ⟨a,b⟩=>⟨a,ao _ b⟩
theorem vV {env:Env}{x:Str}{c:ai}:∀(l:List (Str×lg)) (acc:List (Str×ai)),(cU env l acc).lookup x=some c->acc.lookup x=some c∨((x,cb)∈l/\c=(env.cells.lookup x).getD 0)
 | [],acc,h=>.inl h
 |(y,k)::l,acc,h=>by
  rw[cU]at h
  cases hk:k==cb with
  |true=>
   have ek:k=.free:=by cases k <;> first|rfl|cases hk
   subst ek;rw[if_pos hk]at h
   rcases vV l _ h with q|⟨q1,q2⟩
   ·rw[vU]at q
    by_cases e:x=y
    ·rw[if_pos e]at q;subst e;exact .inr ⟨bc ..,(cq q).symm⟩
    ·rw[if_neg e]at q;exact .inl q
   ·exact .inr ⟨ao _ q1,q2⟩
  |false=>rw[if_neg (by rw[hk];exact jf)]at h;exact(vV l _ h).imp id λ⟨a,b⟩=>⟨ao _ a,b⟩
section
variable{X:Cx}{pins:List (ai×Obj)}{σ:St}{H:Hp}{s:ag}{scope:iq}{N:List Str}{cap:List (Option Nat)}{ex:List ai}
theorem vW (I:Inv X pins σ H s) (C:CapOk X scope N cap) {x:Str}{c:ai}(e:(cU X.env scope.names []).lookup x=some c):(x,cb)∈scope.names/\X.env.cells.lookup x=some c:=by
 rcases vV _ _ e with q|⟨q1,q2⟩
 ·cases q
 ·obtain⟨c',h'⟩:=I.ok.has x (C.free x q1);rw[h']at q2;subst q2;exact⟨q1,h'⟩
theorem vX (I:Inv X pins σ H s) (C:CapOk X scope N cap) {x:Str}{c:ai}(e:(HR scope X.env s.heap.objs.size).cells.lookup x=some c):
  (X.env.cells.lookup x=some c/\(x,cb)∈scope.names)∨(s.heap.objs.size<c/\(pushCells (s.heap.push { cls:=.type "dict",data:=.dict #[] }) scope.names).IsCell c none/\(x,dy)∈scope.names):=by
 have B:=sV scope.names (s.heap.push { cls:=.type "dict",data:=.dict #[] }) (cU X.env scope.names []);rw[fq]at B
 rcases B.cases x c e with q|⟨q1,q2,q3⟩
 ·obtain⟨a,b⟩:=vW I C q;exact .inl ⟨b,a⟩
 ·rw[fq]at q1;exact .inr ⟨q1,q2,q3⟩
theorem HS (I:Inv X pins σ H s) (C:CapOk X scope N cap) (hex:∀b∈ex,dG X pins H b/\b<s.heap.objs.size):(cV X scope N s H ex).Ok:=by
 have B:=sV scope.names (s.heap.push { cls:=.type "dict",data:=.dict #[] }) (cU X.env scope.names []);rw[fq]at B;have kf:∀x,(x,cb)∈scope.names->∃c,X.env.cells.lookup x=some c:=λx hx=>I.ok.has x (C.free x hx);refine⟨I.ok.mod,C.kind,I.ok.glob,I.ok.blt,ak _, ?_, ?_, ?_,I.ok.hd,I.ok.frames,.inl rfl, ?_,I.bs,dm I.ok.bsz I.sz, ?_, ?_,I.stack,I.stkFree⟩
 ·refine B.inj (λx y c e1 e2=>?_) λx c e=>?_
  ·exact I.ok.inj x y c (vW I C e1).2 (vW I C e2).2
  ·obtain⟨v,q⟩:=I.cell x c (vW I C e).2;rw[fq];exact ik q.lt
 ·intro x hx;have hx':(relabel scope X.env).names.lookup x=some .cell∨(relabel scope X.env).names.lookup x=some .free:=hx;have mem:(x,dy)∈scope.names∨(x,cb)∈scope.names:=by
   rcases hx' with h|h
   ·rcases AZ (scope:=scope) h with q|⟨_,q⟩
    ·exact .inl q
    ·exact .inr q
   ·rcases AZ (scope:=scope) h with q|⟨z,q⟩
    ·exact .inr q
    ·exact .inr q
  by_cases hc:(x,dy)∈scope.names
  ·exact B.own x hc
  ·rcases mem with h|h
   ·exact absurd h hc
   ·exact⟨_,(B.old x hc).trans (sU _ _ (.inl h))⟩
 ·intro x c hf e;have hf':(scope.names.lookup x==some .cell)=true:=hf;have hm:(x,dy)∈scope.names:=gg (eq_of_beq hf')
  rcases vX I C e with⟨_,q⟩|⟨q,_⟩
  ·exact absurd hm (C.apart x q)
  ·exact ic q
 ·intro b hb;obtain⟨⟨f0,f1,f2,f3,f4,f5⟩,hlt⟩:=hex b hb;refine⟨az hlt,λx c e z=>?_⟩
  rcases vX I C e with⟨q,_⟩|⟨q,_⟩
  ·exact f4 x c q z
  ·subst z;exact gy _ (Nat.lt_trans q hlt)
 ·intro b o e hb;obtain⟨⟨f0,f1,f2,f3,f4,f5⟩,hlt⟩:=hex b hb
  rcases f3 with q|q
  ·exact I.ok.noex b o e q
  ·exact gy _ (aw (ar e) (dm I.ok.bsz q))
 ·intro b hb z;obtain⟨⟨f0,f1,f2,f3,f4,f5⟩,hlt⟩:=hex b hb
  rcases ay.mp (I.stkSub b z)with q|q
  ·exact f1 q
  ·exact f2 q
theorem T9 (I:Inv X pins σ H s) (C:CapOk X scope N cap) (hex:∀b∈ex,dG X pins H b/\b<s.heap.objs.size):
  Inv (cV X scope N s H ex) pins (qK cap σ) H { s with heap:=pushCells (s.heap.push { cls:=.type "dict",data:=.dict #[] }) scope.names }:=by
 have B:=sV scope.names (s.heap.push { cls:=.type "dict",data:=.dict #[] }) (cU X.env scope.names []);rw[fq]at B;have kp:∀b o,s.heap.get? b=some o->(pushCells (s.heap.push { cls:=.type "dict",data:=.dict #[] }) scope.names).get? b=some o:=λb o e=>rh _ _ _ _ (aj _ e);have ns:(pushCells (s.heap.push { cls:=.type "dict",data:=.dict #[] }) scope.names).Ns s.heap.objs.size (λ_=>none):=⟨_,#[],_,rh _ _ _ _ (ax _ rfl),rfl,(λe he=>absurd he (by simp)),λ_=>rfl⟩
 obtain⟨m,hn,hl⟩:=I.loc;refine⟨HS I C hex,rfl,I.bare,Un.kept kp,⟨_,ns,λi x v h1 h2 h3=>?_⟩,λx c e=>?_,I.hok.fresh (ak _),λx c e=>?_,λp hp=>?_,I.hok.kept kp, ?_⟩
 ·have h2':(cap.map λo=>match o with|some j=>(σ[j]?).getD none|none=>none)[i]?=some (some v):=h2;rw[fe]at h2'
  cases q:cap[i]? with
  |none=>rw[q]at h2';cases h2'
  |some o=>
   rw[q]at h2'
   cases o with
   |none=>cases h2'
   |some j=>
    have e1:(σ[j]?).getD none=some v:=cq h2';have e2:σ[j]?=some (some v):=by
     cases z:σ[j]? with
     |none=>rw[z]at e1;cases e1
     |some w=>rw[z]at e1;exact congrArg some e1
    obtain⟨c1,c2,c3⟩:=C.cap i j x q h1;have vis:qG X.env.scope x:=by
     rcases C.free x c2 with z|z
     ·exact .inr (.inl z)
     ·exact .inr (.inr z)
    obtain⟨u,r,l⟩:=hl j x v c1 e2 vis;refine⟨u,r, ?_⟩
    rcases l with⟨hk,hm⟩|⟨hk,c,hc,hcell⟩
    ·rcases C.free x c2 with z|z
     ·rw[z]at hk;cases hk
     ·rw[z]at hk;cases hk
    ·refine .inr ⟨?_,c, ?_, ?_⟩
     ·have h3':qG (relabel scope X.env) x:=h3
      rcases h3' with z|z|z
      ·exact absurd z c3
      ·exact .inl z
      ·exact .inr z
     ·have:=(B.old x (C.apart x c2)).trans (sU _ _ (.inl c2));rw[hc]at this;exact this
     ·obtain⟨o,ho,hd⟩:=hcell;exact⟨o,kp _ _ ho,hd⟩
 ·rcases vX I C e with⟨q,_⟩|⟨_,q,_⟩
  ·obtain⟨v,o,ho,hd⟩:=I.cell x c q;exact⟨v,o,kp _ _ ho,hd⟩
  ·exact⟨none,q⟩
 ·rcases vX I C e with⟨q,_⟩|⟨q,_⟩
  ·exact I.freeC x c q
  ·exact I.hok.fresh (ic q)
 ·obtain⟨a1,a2,a3,a4,a5⟩:=I.pin p hp;refine⟨kp _ _ a1,a2,az (ar a1),λz=>?_,a5⟩
  rcases ay.mp (I.stkSub _ z)with q|q
  ·exact a3 q
  ·exact a4 q
 ·show(cap.map _).length=N.length;rw[bj];exact C.len
theorem UA (I:Inv X pins σ H s) (C:CapOk X scope N cap) (hex:∀b∈ex,dG X pins H b/\b<s.heap.objs.size):∀b∈ex,dG (cV X scope N s H ex) pins H b:=by intro b hb;obtain⟨⟨f0,f1,f2,f3,f4,f5⟩,hlt⟩:=hex b hb;have ok:=HS (N:=N) I C hex;exact⟨f0,(ok.exf b hb).1,ok.exfs b hb,.inl hb,(ok.exf b hb).2,f5⟩
theorem UB {σ':St}{H':Hp}{s':ag}{h':cu}(I:Inv X pins σ H s) (hex:∀b∈ex,dG X pins H b/\b<s.heap.objs.size) (I':Inv (cV X scope N s H ex) pins σ' H' s') (hh:je s.heap.objs.size s'.heap h'):
  Inv X pins σ H' { s' with heap:=h' }:=by
 have u:Un (dH X.stack) ex H H' s.heap s'.heap:=I'.base;have up:∀b o o',s.heap.get? b=some o->s'.heap.get? b=some o'->h'.get? b=some o':=λb o o' e e'=>(hh.2 b (az (ar e))).trans e';have hL:H' s.heap.objs.size=none:=I'.free;refine I.call' (s':={ s' with heap:=h' }) (ch:=ex) I'.os ⟨λb o q n hb hx=>up b o o q (u.keep b o q n hb hx),λb o q n hb hx=>?_,u.free,λb o q hx=>?_,u.tups,u.frzs,u.tbls⟩ (λb o e=>?_) I'.bare λb hb=>?_
 ·obtain⟨sl,e⟩:=u.slot b o q n hb hx;exact⟨sl,up b o _ q e⟩
 ·obtain⟨o',e⟩:=u.there b o q hx;exact⟨o',up b o _ q e⟩
 ·refine(I'.hok b o e).stay (λc v hc q=>(hh.2 c ?_).trans q) (λ_ q=>q) λ_ _ q=>q
  rcases hc with z|z
  ·rw[z];rintro rfl;rw[hL]at e;cases e
  ·rintro rfl;rw[hL]at z;cases z
 ·obtain⟨⟨f0,f1,f2,f3,f4,f5⟩,hlt⟩:=hex b hb;exact⟨f3,f1,f4,f5⟩
theorem Inv.adopt {a:ai}{o:HO}(I:Inv X pins σ H s) (f:dG X pins H a) (ha:X.s₀.heap.objs.size<=a) (new:ObjOk X.prog X.w (upd H a o) s.heap a o):Inv X pins σ (upd H a o) s:=by
 obtain⟨f0,f1,f2,f3,f4,f5⟩:=f;have ne0:∀b ob,X.s₀.heap.get? b=some ob->b≠a:=λb ob e z=>by subst z;exact gy _ (aw (ar e) ha)
 refine⟨I.ok,I.os,I.bare,⟨I.base.keep,I.base.slot,λb ob e n hx=>by rw[bP (ne0 b ob e)];exact I.base.free b ob e n hx,I.base.there,λb xs e=>?_,λb ob u e=>?_,λb ps e=>?_⟩,I.loc,I.cell,by rw[bP (cy f1)];exact I.free,
  λx c e=>by rw[bP (f4 x c e)];exact I.freeC x c e,λp hp=>?_,λb u e=>?_,I.len⟩
 ·have:=I.base.tups b xs e;rw[bP (fO this f0)];exact this
 ·have:=I.base.frzs b ob u e;rw[bP (fO this f0)];exact this
 ·obtain⟨more,this⟩:=I.base.tbls b ps e;exact⟨more,by rw[bP (fO this f0)];exact this⟩
 ·obtain⟨a1,a2,a3,a4,a5⟩:=I.pin p hp;exact⟨a1,by rw[bP (f5 p hp)];exact a2,a3,a4,a5⟩
 ·by_cases hb:b=a
  ·subst hb;rw[cK]at e;cases e;exact new
  ·rw[bP hb]at e;exact(I.hok b u e).stay (λ_ _ _ q=>q) (λc q=>by rw[bP (fO q f0)];exact q) λc xs q=>by rw[bP (fO q f0)];exact q
end
def AccAt (s:ag) (D:ai) (xs:List V):Prop:=xs.length<=bw/\∃(its:List af) (n:Nat),Vals xs its/\s.heap.get? D=some { cls:=.type "list",data:=.seq its.toArray n }
abbrev TC:=St->Hp->List V->(St->Hp->List V->Prop)->Prop
def PCl (X:Cx) (D:ai) (m:Sem Unit) (t:TC):Prop:=
 ∀(pins:List (ai×Obj)) (s:ag) (σ:St) (H:Hp) (xs:List V) (K:St->Hp->List V->Prop),Inv X pins σ H s->AccAt s D xs->dG X pins H D->t σ H xs K->
  wpAny (model X.prog X.w) X.A m (λ_ s'=>∃σ' H' xs',Inv X pins σ' H' s'/\AccAt s' D xs'/\H' D=none/\K σ' H' xs') X.xe s
section
variable{X:Cx}{D:ai}
theorem AccAt.obj {s:ag}{xs:List V}(a:AccAt s D xs):∃o,s.heap.get? D=some o/\∀v,o.data≠.cell v:=by obtain⟨_,its,n,_,e⟩:=a;exact⟨_,e,λv z=>nomatch z⟩
theorem Inv.pinD {pins:List (ai×Obj)}{s:ag}{σ:St}{H:Hp}{xs:List V}(I:Inv X pins σ H s) (a:AccAt s D xs) (f:dG X pins H D):Inv X (pins++jR [D] s.heap) σ H s:=
 I.pinned (λb hb=>by (have e:b=D:=by simpa using hb);subst e;exact f) λb hb=>by
  have e:b=D:=by simpa using hb
  subst e;exact a.obj
theorem Inv.atD {pins:List (ai×Obj)}{s s':ag}{σ':St}{H':Hp}{xs:List V}(a:AccAt s D xs) (I:Inv X (pins++jR [D] s.heap) σ' H' s'):AccAt s' D xs/\H' D=none:=by obtain⟨z,its,n,r,e⟩:=a;have:=I.pin (D,_) (cm _ (cm _ (qH (by simp) e)));exact⟨⟨z,its,n,r,this.1⟩,this.2.1⟩
def HU (te:TE):TC:=λσ H xs K=>te σ H λv H1=>xs.length<bw/\K σ H1 (xs++[v])
theorem A0 {elt:bq}{te:TE}(he:PE X elt te):PCl X D (do let x <-eval elt X.env;let _ <-call (.builtin "list.append") [.ref D,x];pure ()) (HU te):=by
 intro pins s σ H xs K I a f h;refine aa (aV (he _ s σ H _ (I.pinD a f) h) λu s1 ⟨v,H1,I1,r1,hz,q1⟩=>?_);obtain⟨a1,n1⟩:=Inv.atD a I1;have I1':=I1.unpinned;obtain⟨z,its,n,r,e⟩:=a1;have hl:=r.length;refine aa (Cf F.slot_list_append ⟨_,e,rfl⟩ F.entry_list_append (F.args_list_append_2 _ _) (PySem.list_append D its.toArray n u (by rw[av];omega)) ⟨e, ?_⟩);have q:=Ce e (·.push u);have e2:its.toArray.push u=(its++[u]).toArray:=by simp
 rw[e2]at q;refine ah ⟨σ,H1,xs++[v], ?_,⟨by rw[bu,Cg];omega,its++[u],_,r.append (.cons r1 .nil),q⟩,n1,q1⟩;obtain⟨f0,f1,f2,f3,f4,f5⟩:=f;exact I1'.turned (t':=s1.toks) (λb o hb z=>(kv s1.heap _ (cy hb)).trans z) n1 f1 f3 f4 f5
def HV (ifs:List bq) (env:Env):Sem Bool:=forIn ifs true λc r=>if r=true then do let ok <-isTrue c env (eval c env);pure (tj ok)else pure (tj r)
def PTs (X:Cx) (ifs:List bq) (t:TT):Prop:=∀(pins:List (ai×Obj)) (s:ag) (σ:St) (H:Hp) (Q:Bool->Hp->Prop),Inv X pins σ H s->t σ H Q->wpAny (model X.prog X.w) X.A (HV ifs X.env) (TP X pins σ Q) X.xe s
def UC:TT:=λ_ H Q=>Q true H
theorem UD:PTs X [] UC:=λpins s σ H Q I h=>wpAny_tests_nil ⟨H,I,h⟩
theorem UE {c:bq}{t:TT}(h:PT X c t):PTs X [c] t:=λpins s σ H Q I q=>wpAny_tests_one (h pins s σ H Q I q)
def kU (p:Pos) (it:af) (tg:bq) (ifs:List bq) (env:Env) (inner:Sem Unit) (c:Code):Sem PySem.Fin:=do
 standAt p
 match <-pyNext it with
 |none=>pure (.done .next)
 |some v=>do
  letOwnedTupleGo tg it v
  assign tg env v
  let ok <-HV ifs env
  if ok=true then do inner;again c
  else again c
def sW (J:It) (g:TG) (tt:TT) (inner:TC) (K:St->Hp->List V->Prop) (σ:St) (H:Hp) (xs:List V):Prop:=
 ∃W:Nat->Nat->St->Hp->List V->Prop,(∃m,W 0 m σ H xs)/\∀i m σ H xs,W i m σ H xs->
  (J.stop i H/\K σ H xs)∨(J.go i H/\∃N:St->Hp->List V->Prop,(∀σ' H' xs',N σ' H' xs'->∃m',m'<m/\W (i+1) m' σ' H' xs') /\
   ∀x H',J.yld i H x H'->g x σ H' λσ2 H2=>tt σ2 H2 λb H3=>if b=true then inner σ2 H3 xs N else N σ2 H3 xs)
theorem HW {elt:bq}{gens:List kj}{sc:iq}{ps:Pos}{d:Nat}{it:ai}{tg:bq}{ifs:List bq}{p:Pos}{inner:Sem Unit}{g:TG}{tt:TT}{ti:TC}{J:It}{fp:List ai}{tn:Nat->cu->Prop}
  (hx:X.xe=λ_ _=>False) (hc:X.calm=true)
  (ht:compTurn (.ListComp elt gens sc ps) d (.ref it) (.ref D) X.env=kU p (.ref it) tg ifs X.env inner (.compLoop (.ListComp elt gens sc ps) d (.ref it) (.ref D) X.env))
  (hg:PG X tg g) (htt:PTs X ifs tt) (hi:PCl X D inner ti) (T:Turn X.prog X.w X.K tg J fp it tn)
  {pins:List (ai×Obj)}{s:ag}{σ:St}{H:Hp}{xs:List V}{K:St->Hp->List V->Prop}{R:yb->ag->Prop}(I:Inv X pins σ H s) (a:AccAt s D xs) (f:dG X pins H D) (st:tn 0 s.heap) (hf:∀b∈fp,dG X pins H b) (hD:D∉fp)
  (h:sW J g tt ti K σ H xs) (hR:∀σ' H' xs' s',Inv X pins σ' H' s'->AccAt s' D xs'->H' D=none->K σ' H' xs'->R (.ok .next) s'):
  codeAny (model X.prog X.w) X.A (.compLoop (.ListComp elt gens sc ps) d (.ref it) (.ref D) X.env) R s:=by
 obtain⟨W,⟨m0,w0⟩,turn⟩:=h;have stat:∀{H':Hp},(∀b∈fp,H' b=none)->∀b∈fp,dG X pins H' b:=λhn b hb=>⟨hn b hb,(hf b hb).2⟩
 have statD:∀{H':Hp},H' D=none->dG X pins H' D:=λhn=>⟨hn,f.2⟩
 refine codeAny_loop rfl (λn s'=>∃i σ' H' xs',Inv X pins σ' H' s'/\AccAt s' D xs'/\H' D=none/\tn i s'.heap/\(∀b∈fp,H' b=none)/\W i n σ' H' xs') ?_ m0 ⟨0,σ,H,xs,I,a,f.1,st,λb hb=>(hf b hb).1,w0⟩
 rintro n s3 ⟨i,σ3,H3,xs3,I3,a3,n3,st3,fr3,w3⟩
 show wpAny _ X.A ((compTurn (.ListComp elt gens sc ps) d (.ref it) (.ref D) X.env).onRaise (λx=>do noteFrame x X.env;theTreesLotGoes x)) _ _ s3;rw[ht];refine uq (mf (Q:=λfin s'=>match fin with | .done f=>R (.ok f) s' | .again c'=>c'=.compLoop (.ListComp elt gens sc ps) d (.ref it) (.ref D) X.env/\∃m,m<n/\∃i σ' H' xs',Inv X pins σ' H' s'/\AccAt s' D xs'/\H' D=none/\tn i s'.heap/\(∀b∈fp,H' b=none)/\W i m σ' H' xs') (E:=λ_ _=>False) ?_ (λ_ _ z=>z) λ_ _ z=>z.elim);unfold kU;refine aa (qr (aa ?_));have xe':∀{α:Type}{m:Sem α}{Q:α->ag->Prop}{s:ag},wpAny (model X.prog X.w) X.A m Q X.xe s->wpAny (model X.prog X.w) X.A m Q (λ_ _=>False) s:=λ{α m Q s} z=>by rw[hx]at z;exact z
 have I3':=I3.pinD a3 (statD n3);have fr3':∀b∈fp,dG X (pins++jR [D] s3.heap) H3 b:=λb hb=>by
  obtain⟨g0,g1,g2,g3,g4,g5⟩:=stat fr3 b hb;refine⟨g0,g1,g2,g3,g4,λp hp=>?_⟩
  rcases cg.mp hp with z|z
  ·exact g5 p (jb _ z)
  ·rcases cg.mp z with z|z
   ·exact g5 p (cm _ z)
   ·have:=(AI z).1;have e:p.1=D:=by simpa using this
    rw[e];rintro rfl;exact hD hb
 rcases turn i n σ3 H3 xs3 w3 with⟨stop,qn⟩|⟨go,N,hN,step⟩
 ·refine aV (T.done X rfl rfl rfl hc i _ s3 σ3 H3 (λ_ _=>False) I3' fr3' st3 stop) λr s4 ⟨hr,I4⟩=>?_;subst hr;obtain⟨a4,n4⟩:=Inv.atD a3 I4;exact ah (hR σ3 H3 xs3 s4 I4.unpinned a4 n4 qn)
 ·refine aV (T.item X rfl rfl rfl hc i _ s3 σ3 H3 (λ_ _=>False) I3' fr3' st3 go) λr s4 ⟨u,hr,h4⟩=>?_;subst hr;refine aa (aV h4 λ_ s5 ⟨x,H5,I5,r5,y5,st5,fr5⟩=>?_);obtain⟨a5,n5⟩:=Inv.atD a3 I5;have I5u:=I5.unpinned;have I5p:=I5u.pinned (stat fr5) (T.obj _ _ st5);have fD5:dG X (pins++jR fp s5.heap) H5 D:=by
   obtain⟨g0,g1,g2,g3,g4,g5⟩:=statD n5;refine⟨g0,g1,g2,g3,g4,λp hp=>?_⟩
   rcases cg.mp hp with z|z
   ·exact g5 p (jb _ z)
   ·rcases cg.mp z with z|z
    ·exact g5 p (cm _ z)
    ·rintro rfl;exact hD (AI z).1
  have I5':=I5p.pinD a5 fD5;refine aa (xe' (aV (hg _ s5 σ3 H5 x u _ I5' r5 (step x H5 y5)) λ_ s6 ⟨σ6,H6,I6,q6⟩=>?_));obtain⟨a6,n6⟩:=Inv.atD a5 I6;have pin':∀{s σ H},Inv X (pins++jR fp s5.heap) σ H s->tn (i+1) s.heap/\∀b∈fp,H b=none:=λ{s σ H} J=>by refine⟨T.keep _ _ _ st5 λb hb o e=>(J.pin (b,o) (cm _ (cm _ (qH hb e)))).1,λb hb=>?_⟩;obtain⟨o,e,d⟩:=T.obj _ _ st5 b hb;exact(J.pin (b,o) (cm _ (cm _ (qH hb e)))).2.1
  have fD6:dG X (pins++jR fp s5.heap) H6 D:=⟨n6,fD5.2⟩
  have I6u:=I6.unpinned;have I6p:=I6u.pinD a6 fD6;refine aa (xe' (aV (htt _ s6 σ6 H6 _ I6p q6) λb s7 ⟨H7,I7,q7⟩=>?_));obtain⟨a7,n7⟩:=Inv.atD a6 I7;have I7u:=I7.unpinned;have fin:∀{s8 σ8 H8 xs8},Inv X (pins++jR fp s5.heap) σ8 H8 s8->AccAt s8 D xs8->H8 D=none->N σ8 H8 xs8->
    ∃m,m<n/\∃i σ' H' xs',Inv X pins σ' H' s8/\AccAt s8 D xs'/\H' D=none/\tn i s8.heap/\(∀b∈fp,H' b=none)/\W i m σ' H' xs':=λ{s8 σ8 H8 xs8} J a8 n8 q8=>by
   obtain⟨m',hm,w8⟩:=hN σ8 H8 xs8 q8;obtain⟨t8,fr8⟩:=pin' J;exact⟨m',hm,i+1,σ8,H8,xs8,J.unpinned,a8,n8,t8,fr8,w8⟩
  cases b with
  |true=>
   rw[if_pos rfl]at q7 ⊢;have fD7:dG X (pins++jR fp s5.heap) H7 D:=⟨n7,fD5.2⟩
   refine aa (xe' (aV (hi _ s7 σ6 H7 xs3 N I7u a7 fD7 q7) λ_ s8 ⟨σ8,H8,xs8,I8,a8,n8,q8⟩=>?_));exact ah ⟨rfl,fin I8 a8 n8 q8⟩
  |false=>rw[if_neg jf]at q7 ⊢;exact ah ⟨rfl,fin I7u a7 n7 q7⟩
end
theorem HX (elt tg iter:bq) (ifs:List bq) (sc:iq) (ps:Pos) (it:af) (D:ai) (env:Env):
  compTurn (.ListComp elt [⟨tg,iter,ifs,0⟩] sc ps) 0 it (.ref D) env =
   kU iter.pos it tg ifs env (do let x <-eval elt env;let _ <-call (.builtin "list.append") [.ref D,x];pure ()) (.compLoop (.ListComp elt [⟨tg,iter,ifs,0⟩] sc ps) 0 it (.ref D) env):=by rfl
def sX (iter:bq) (e:bq) (d:Nat) (D:ai) (env:Env):Sem Unit:=do
 let x <-eval iter env
 standAt iter.pos
 let x <-foldedSetIterable iter env x
 let it <-holding [x] (pyIter x)
 let _ <-runOwn (.compStart e d it (.ref D) env) env
 pure ()
theorem UG (elt tg iter tg' iter':bq) (ifs ifs':List bq) (sc:iq) (ps:Pos) (it:af) (D:ai) (env:Env):
  compTurn (.ListComp elt [⟨tg,iter,ifs,0⟩,⟨tg',iter',ifs',0⟩] sc ps) 0 it (.ref D) env =
   kU iter.pos it tg ifs env (sX iter' (.ListComp elt [⟨tg,iter,ifs,0⟩,⟨tg',iter',ifs',0⟩] sc ps) 1 D env) (.compLoop (.ListComp elt [⟨tg,iter,ifs,0⟩,⟨tg',iter',ifs',0⟩] sc ps) 0 it (.ref D) env):=by
 unfold kU sX;simp only[bind_assoc,pure_bind];rfl
theorem UH (elt tg iter tg' iter':bq) (ifs ifs':List bq) (sc:iq) (ps:Pos) (it:af) (D:ai) (env:Env):
  compTurn (.ListComp elt [⟨tg,iter,ifs,0⟩,⟨tg',iter',ifs',0⟩] sc ps) 1 it (.ref D) env =
   kU iter'.pos it tg' ifs' env (do let x <-eval elt env;let _ <-call (.builtin "list.append") [.ref D,x];pure ()) (.compLoop (.ListComp elt [⟨tg,iter,ifs,0⟩,⟨tg',iter',ifs',0⟩] sc ps) 1 it (.ref D) env):=by rfl
section
variable{X:Cx}{D:ai}
theorem HY {prog:bh}{w:cn}{A:cf}{R:yb->ag->Prop}{s:ag}{elt:bq}{gens:List kj}{sc:iq}{ps:Pos}{d:Nat}{it acc:af}{env:Env}(ha:((gens)[d]?).elim false (·.is_async != 0)=false)
  (h0:codeAny (model prog w) A (.compLoop (.ListComp elt gens sc ps) d it acc env) R s)
  (h:wpAny (model prog w) A (pyIter it) (λit' s'=>codeAny (model prog w) A (.compLoop (.ListComp elt gens sc ps) d it' acc env) R s') (λ_ _=>False) s):
  codeAny (model prog w) A (.compStart (.ListComp elt gens sc ps) d it acc env) R s:=by
 refine codeAny_of_tree ?_;show wpAny _ _ ((compStart (.ListComp elt gens sc ps) d it acc env).onRaise (λx=>do noteFrame x env;standAt theWindowsPlace)) _ _ s;refine wpAny_notedAt (mf (E:=λ_ _=>False) ?_ (λ_ _ z=>z) λ_ _ z=>z.elim);unfold compStart;rw[show((clausesOf (.ListComp elt gens sc ps))[d]?).elim false (·.is_async != 0)=false from ha];simp only[cp,if_false];refine aa (oq (wpAny_ite ?_))
 split
 ·first
   |exact aa (ah (ah (And.intro rfl h0)))
   |exact ah (And.intro rfl h0)
 ·have fin:∀s:ag,wpAny (model prog w) A (pyIter it) (λit' s'=>codeAny (model prog w) A (.compLoop (.ListComp elt gens sc ps) d it' acc env) R s') (λ_ _=>False) s->
    wpAny (model prog w) A (do let it' <-pyIter it;again (.compLoop (.ListComp elt gens sc ps) d it' acc env)) (λfin s'=>match fin with | .done f=>R (.ok f) s' | .again c=>c.quiet=true/\codeAny (model prog w) A c R s') (λ_ _=>False) s:=λs h=>aa (mf h (λit' s' h'=>ah ⟨rfl,h'⟩) λ_ _ x=>x)
  refine aa (ql ?_);have ec:clausesOf (.ListComp elt gens sc ps)=gens:=rfl;rw[ec]
  cases q:gens[d]? with
  |none=>exact fin s h
  |some g=>exact aa (qr (fin s h))
def HZ (wi:TI) (g:TG) (tt:TT) (inner:TC):TC:=λσ H xs K=>wi σ H λJ H1=>sW J g tt inner K σ H1 xs
theorem UI {elt:bq}{gens:List kj}{sc:iq}{ps:Pos}{d:Nat}{tg iter:bq}{ifs:List bq}{inner:Sem Unit}{wi:TI}{g:TG}{tt:TT}{ti:TC}
  (hx:X.xe=λ_ _=>False) (hc:X.calm=true) (ha:((gens)[d]?).elim false (·.is_async != 0)=false)
  (ht:∀it,compTurn (.ListComp elt gens sc ps) d (.ref it) (.ref D) X.env=kU iter.pos (.ref it) tg ifs X.env inner (.compLoop (.ListComp elt gens sc ps) d (.ref it) (.ref D) X.env))
  (hi:PI X tg iter wi) (hg:PG X tg g) (htt:PTs X ifs tt) (hin:PCl X D inner ti) (hs:∀x,foldedSetIterable iter X.env x=pure x):
  PCl X D (sX iter (.ListComp elt gens sc ps) d D X.env) (HZ wi g tt ti):=by
 intro pins s σ H xs K I a f h;unfold sX;refine aa (aV (hi _ s σ H _ (I.pinD a f) h) λv s1 h1=>aa (qr (aa (ug (hs v) (aa (fz (aV h1 λitv s2 h2=>?_)))))));obtain⟨it,fp,tn,J,H2,e,I2,T,st2,f2,lp⟩:=h2;subst e;obtain⟨a2,n2⟩:=Inv.atD a I2;have I2u:=I2.unpinned;have hpD:∀b∈fp,b≠D:=λb hb z=>by subst z;obtain⟨_,its,n,_,eo⟩:=a;exact(f2 b hb).2.2.2.2.2 (b,_) (cm _ (cm _ (qH (by simp) eo))) rfl
 have f2u:∀b∈fp,dG X pins H2 b:=λb hb=>by
  obtain⟨g0,g1,g2,g3,g4,g5⟩:=f2 b hb;exact⟨g0,g1,g2,g3,g4,λp hp=>g5 p (by
   rcases cg.mp hp with z|z
   ·exact jb _ z
   ·exact cm _ (jb _ z))⟩
 have fD:dG X pins H2 D:=⟨n2,f.2⟩
 refine aa (wpAny_runOwn ?_);have loop:codeAny (model X.prog X.w) X.A (.compLoop (.ListComp elt gens sc ps) d (.ref it) (.ref D) X.env) (λr s'=>match r with
   | .ok f=>wpAny (model X.prog X.w) X.A (pure ():Sem Unit) (λ_ s'=>∃σ' H' xs',Inv X pins σ' H' s'/\AccAt s' D xs'/\H' D=none/\K σ' H' xs') X.xe s'
   | .error e=>cameBackBy (model X.prog X.w) X.A X.env X.xe e s') s2:=
  HW hx hc (ht it) hg htt hin T I2u a2 fD st2 f2u (λz=>hpD D z rfl) lp λσ' H' xs' s' I' a' n' k'=>ah ⟨σ',H',xs',I',a',n',k'⟩
 exact HY ha loop (T.self _ 0 s2 _ _ st2 loop)
end
def A1 (wi:TI) (cap:List (Option Nat)) (g:TG) (tt:TT) (inner:TC):TE:=λσ H Q=>wi σ H λJ H1=>sW J g tt inner (λ_ H' xs=>∀p,H' p=none->Q (.ref p) (upd H' p (.lst xs))) (qK cap σ) H1 []
section
variable{X:Cx}
theorem IA {elt:bq}{gens:List kj}{sc:iq}{ps:Pos}{tg iter:bq}{ifs:List bq}{rest:List kj}{inner:ai->Env->Sem Unit}{g:TG}{tt:TT}{ti:TC}{N:List Str}{cap:List (Option Nat)}{E:af->ag->Prop}
  (hc:X.calm=true) (C:CapOk X sc N cap) (eg:gens=⟨tg,iter,ifs,0⟩::rest)
  (ht:∀it D env,compTurn (.ListComp elt gens sc ps) 0 (.ref it) (.ref D) env=kU iter.pos (.ref it) tg ifs env (inner D env) (.compLoop (.ListComp elt gens sc ps) 0 (.ref it) (.ref D) env))
  (hg:∀s H ex,PG (cV X sc N s H ex) tg g) (htt:∀s H ex,PTs (cV X sc N s H ex) ifs tt) (hin:∀s H ex D,PCl (cV X sc N s H ex) D (inner D (cV X sc N s H ex).env) ti)
  {pins:List (ai×Obj)}{s2:ag}{σ:St}{H2:Hp}{K:St->Hp->List V->Prop}{it:ai}{fp:List ai}{tn:Nat->cu->Prop}{J:It}(I2:Inv X pins σ H2 s2) (T:Turn X.prog X.w X.K tg J fp it tn) (st2:tn 0 s2.heap) (f2:∀b∈fp,dG X pins H2 b)
  (lp:sW J g tt ti K (qK cap σ) H2 []) {R:af->ai->yb->ag->Prop}
  (hR:∀σ' H' xs (s3 s':ag) (C D:ai),X.s₀.heap.objs.size<=D->C=s3.heap.objs.size->(∃m,s'.heap.Ns C m)->AccAt s' D xs->dG X pins H' D->dG X pins H' C->D<C->(∀h',je C s'.heap h'->Inv X pins σ H' { s' with heap:=h' })->K σ' H' xs->R (.ref D) C (.ok .next) s'):
  wpAny (model X.prog X.w) X.A (newList []) (λacc s3=>wpAny (model X.prog X.w) X.A (newFunctionEnv sc X.env.globals (cU X.env sc.names []) [] X.env.qual none .none (some X.env)) (λcenv s4=>codeAny (model X.prog X.w) X.A (.compStart (.ListComp elt gens sc ps) 0 (.ref it) acc { cenv with scope:=relabel sc X.env }) (R acc cenv.locals) s4) E s3) E s2:=by
 refine dg (T7 ?_);dsimp only;generalize hs3:({ s2 with heap:=s2.heap.push { cls:=.type "list",dict:=none,data:=.seq ([]:List af).toArray } }:ag)=s3;have kp:∀b o,s2.heap.get? b=some o->s3.heap.get? b=some o:=λb o e=>by rw[<-hs3];exact aj _ e
 have I3:Inv X pins σ H2 s3:=by rw[<-hs3];exact I2.kept (t':=s2.toks) λb o e=>aj _ e
 have eD:s3.heap.get? s2.heap.objs.size=some { cls:=.type "list",data:=.seq ([]:List af).toArray 0 }:=by rw[<-hs3];exact ax _ rfl
 have nD:H2 s2.heap.objs.size=none:=I2.hok.fresh (ak _);have fD:dG X pins H2 s2.heap.objs.size:=I2.fpOk (ak _) nD;have hlt:s2.heap.objs.size<s3.heap.objs.size:=ar eD;have hex:∀b∈s2.heap.objs.size::fp,dG X pins H2 b/\b<s3.heap.objs.size:=λb hb=>by
  rcases ay.mp hb with rfl|hb
  ·exact⟨fD,hlt⟩
  ·obtain⟨o,e,_⟩:=T.obj 0 _ st2 b hb;exact⟨f2 b hb,ar (kp b o e)⟩
 have hDfp:s2.heap.objs.size∉fp:=λz=>by obtain⟨o,e,_⟩:=T.obj 0 _ st2 _ z;exact gy _ (ar e)
 have I4:=T9 (N:=N) (ex:=s2.heap.objs.size::fp) I3 C hex;have F4:=UA (N:=N) I3 C hex;have st4:tn 0 (pushCells (s3.heap.push { cls:=.type "dict",data:=.dict #[] }) sc.names):=T.keep 0 _ _ st2 λb hb o e=>rh _ _ _ _ (aj _ (kp b o e));have a4:AccAt { s3 with heap:=pushCells (s3.heap.push { cls:=.type "dict",data:=.dict #[] }) sc.names } s2.heap.objs.size []:=⟨jc _,[],0,.nil,rh _ _ _ _ (aj _ eD)⟩
 have loop:codeAny (model X.prog X.w) X.A (.compLoop (.ListComp elt gens sc ps) 0 (.ref it) (.ref s2.heap.objs.size) (cV X sc N s3 H2 (s2.heap.objs.size::fp)).env) (R (.ref s2.heap.objs.size) s3.heap.objs.size)
   { s3 with heap:=pushCells (s3.heap.push { cls:=.type "dict",data:=.dict #[] }) sc.names }:=by
  refine HW (X:=cV X sc N s3 H2 (s2.heap.objs.size::fp)) rfl hc (ht it _ _) (hg _ _ _) (htt _ _ _) (hin _ _ _ _) T I4 a4 (F4 _ (bc ..)) st4 (λb hb=>F4 b (ao _ hb)) hDfp lp λσ' H' xs' s' I' a' n' k'=>?_;obtain⟨m,hn,_⟩:=I'.loc;exact hR σ' H' xs' s3 s' _ _ (dm I2.sz (ak _)) rfl ⟨m,hn⟩ a' ⟨n',fD.2⟩ (I3.fpOk (ak _) I'.free) hlt (λh' hh=>UB I3 hex I' hh) k'
 have ha:((gens)[0]?).elim false (·.is_async != 0)=false:=by rw[eg];rfl
 subst hs3;exact HY ha loop (T.self _ 0 _ _ _ st4 loop)
theorem IB {elt:bq}{gens:List kj}{sc:iq}{ps:Pos}{tg iter:bq}{ifs:List bq}{rest:List kj}{inner:ai->Env->Sem Unit}{wi:TI}{g:TG}{tt:TT}{ti:TC}{N:List Str}{cap:List (Option Nat)}
  (hc:X.calm=true) (C:CapOk X sc N cap) (eg:gens=⟨tg,iter,ifs,0⟩::rest)
  (ht:∀it D env,compTurn (.ListComp elt gens sc ps) 0 (.ref it) (.ref D) env=kU iter.pos (.ref it) tg ifs env (inner D env) (.compLoop (.ListComp elt gens sc ps) 0 (.ref it) (.ref D) env))
  (hi:PI X tg iter wi) (hg:∀s H ex,PG (cV X sc N s H ex) tg g) (htt:∀s H ex,PTs (cV X sc N s H ex) ifs tt) (hin:∀s H ex D,PCl (cV X sc N s H ex) D (inner D (cV X sc N s H ex).env) ti)
  (hs:∀x,foldedSetIterable iter X.env x=pure x):PE X (.ListComp elt gens sc ps) (A1 wi cap g tt ti):=by
 intro pins s σ H Q I h;rw[eval_ListComp];have hcl:closureFor sc X.env=pure (cU X.env sc.names []):=AY λx hx=>I.ok.has x (C.free x hx);have e1:firstAsync gens=false:=by rw[eg];rfl
 have e2:firstIter gens X.env=eval iter X.env:=by rw[eg];rfl
 rw[e1,e2];refine Dd (use:=none) (g:=⟨tg,iter,ifs,0⟩) (gs:=rest) (by rw[eg];rfl) hs hcl C.kind C.nd (aV (hi pins s σ H _ I h) λv s1 h1=>aV h1 λitv s2 h2=>?_);obtain⟨it,fp,tn,J,H2,e,I2,T,st2,f2,lp⟩:=h2;subst e;refine IA (N:=N) (inner:=inner) (R:=λacc C=>compPost (model X.prog X.w) X.A X.xe none (EP X pins σ Q) acc C) hc C eg ht hg htt hin I2 T st2 f2 lp ?_;intro σ' H' xs s3 s' C D hD0 hC hn a f fC hDC hout k;obtain⟨m,hn⟩:=hn;refine⟨m,hn,λh' hh=>?_⟩;have I5:=hout h' hh;obtain⟨hz,its,n,r,eD⟩:=a;have eD':h'.get? D=some { cls:=.type "list",data:=.seq its.toArray n }:=(hh.2 D (az hDC)).trans eD;refine⟨.ref D,upd H' D (.lst xs),I5.adopt f hD0 ⟨hz,its,n,r,eD'⟩,rfl,k D f.1⟩
end
section
variable{X:Cx}
theorem UJ {i:Nat}{x:Str}{px pos:Pos}{elt:bq}{gens:List kj}{sc:iq}{ps:Pos}{tg iter:bq}{ifs:List bq}{rest:List kj}{inner:ai->Env->Sem Unit}{wi:TI}{g:TG}{tt:TT}{ti:TC}{N:List Str}{cap:List (Option Nat)}
  (hsw:swapsWith (.ListComp elt gens sc ps) (some (.Name x px)) pos.line X.env=pure true) (hN:X.N.Nodup) (hi':X.N[i]?=some x) (hx:X.env.scope.names.lookup x=some .local)
  (hc:X.calm=true) (C:CapOk X sc N cap) (eg:gens=⟨tg,iter,ifs,0⟩::rest)
  (ht:∀it D env,compTurn (.ListComp elt gens sc ps) 0 (.ref it) (.ref D) env=kU iter.pos (.ref it) tg ifs env (inner D env) (.compLoop (.ListComp elt gens sc ps) 0 (.ref it) (.ref D) env))
  (hi:PI X tg iter wi) (hg:∀s H ex,PG (cV X sc N s H ex) tg g) (htt:∀s H ex,PTs (cV X sc N s H ex) ifs tt) (hin:∀s H ex D,PCl (cV X sc N s H ex) D (inner D (cV X sc N s H ex).env) ti)
  (hs:∀x,foldedSetIterable iter X.env x=pure x):PS X (.Assign [.Name x px] (.ListComp elt gens sc ps) pos) (vO (A1 wi cap g tt ti) (AA i)):=by
 intro pins s σ H D I h;rw[exec_Assign_Name_used _ _ _ _ hsw];have hcl:closureFor sc X.env=pure (cU X.env sc.names []):=AY λx hx=>I.ok.has x (C.free x hx);have e1:firstAsync gens=false:=by rw[eg];rfl
 have e2:firstIter gens X.env=eval iter X.env:=by rw[eg];rfl
 refine aa (qr (aa ?_));show wpAny _ X.A (do let _ <-comprehension (.ListComp elt gens sc ps) sc X.env (firstIterPos gens ps) (newList []) (firstAsync gens) (firstIter gens X.env) (some (assign (.Name x px) X.env))) _ _ s;rw[e1,e2];refine aa (aV (Dd (use:=some (assign (.Name x px) X.env)) (Q:=λ_ s'=>SP X pins D .next s') (g:=⟨tg,iter,ifs,0⟩) (gs:=rest) (by rw[eg];rfl) hs hcl C.kind C.nd (aV (hi pins s σ H _ I h) λv s1 h1=>aV h1 λitv s2 h2=>?_)) λ_ s' hq=>ah (ah hq));obtain⟨it,fp,tn,J,H2,e,I2,T,st2,f2,lp⟩:=h2;subst e;refine IA (N:=N) (inner:=inner) (R:=λacc C=>compPost (model X.prog X.w) X.A X.xe (some (assign (.Name x px) X.env)) (λ_ s'=>SP X pins D .next s') acc C) hc C eg ht hg htt hin I2 T st2 f2 lp ?_;intro σ' H' xs s3 s' C D' hD0 hC hn a f fC hDC hout k;obtain⟨m,hn⟩:=hn;have I5:Inv X pins σ H' s':=hout s'.heap (ve ..);obtain⟨hz,its,n,r,eD⟩:=a;have I6:Inv X pins σ (upd H' D' (.lst xs)) s':=I5.adopt f hD0 ⟨hz,its,n,r,eD⟩;show wpAny _ X.A (assign (.Name x px) X.env (.ref D')) _ _ s';obtain⟨c0,c1,c2,c3,c4,c5⟩:=fC;have nC:upd H' D' (.lst xs) C=none:=by rw[bP (cy (az hDC))];exact c0
 refine wpAny_assign_Name (GB (v:=V.ref D') I6 hN hi' (.inl hx) rfl (λs'' I7 ⟨a,sb,ha⟩=>?_) (.inr hx));have hCa:C≠a:=by
  rcases ha with z|z
  ·rw[z];exact c1
  ·exact cy (c4 x a z)
 refine⟨m,hn.sameBut sb hCa,λh' hh=>?_⟩;have I8:Inv X pins (σ.set i (some (.ref D'))) (upd H' D' (.lst xs)) { s'' with heap:=h' }:=I7.turned (t':=s''.toks) (λb o hb e=>(hh.2 b hb).trans e) nC c1 c3 c4 c5;exact⟨_,_,I8,k D' f.1⟩
end
inductive Dt where
 |non|bl (b:Bool)|int (i:Int)|str (x:Str)|tup (xs:List Dt)|lst (xs:List Dt)|dct
mutual
def Den (P:ai->Prop) (H:Hp):Dt->V->Prop
 | .non,v=>v=.non
 | .bl b,v=>v=.bl b
 | .int i,v=>v=.int i
 | .str x,v=>v=.str x
 | .tup ds,v=>∃a vs,v=.ref a/\H a=some (.tup vs)/\DenL P H ds vs
 | .lst ds,v=>∃a vs,v=.ref a/\P a/\H a=some (.lst vs)/\DenL P H ds vs
 | .dct,v=>∃a,v=.ref a/\P a/\H a=some (.dK [])
def DenL (P:ai->Prop) (H:Hp):List Dt->List V->Prop
 | [],vs=>vs=[]
 |d::ds,vs=>∃v r,vs=v::r/\Den P H d v/\DenL P H ds r
end
theorem DenL.length {P:ai->Prop}{H:Hp}:∀{ds:List Dt}{vs:List V},DenL P H ds vs->vs.length=ds.length
 | [],vs,h=>by rw[DenL]at h;rw[h];rfl
 |d::ds,vs,h=>by rw[DenL]at h;obtain⟨v,r,rfl,_,h2⟩:=h;simp[DenL.length h2]
theorem DenL.get {P:ai->Prop}{H:Hp}:∀{ds:List Dt}{vs:List V}{i:Nat}{v:V},DenL P H ds vs->vs[i]?=some v->∃d,ds[i]?=some d/\Den P H d v
 | [],vs,i,v,h,e=>by rw[DenL]at h;rw[h]at e;simp at e
 |d::ds,vs,i,v,h,e=>by
  rw[DenL]at h;obtain⟨w,r,rfl,h1,h2⟩:=h
  cases i with
  |zero=>simp at e;subst e;exact⟨d,rfl,h1⟩
  |succ i=>simp at e;exact DenL.get (i:=i) h2 e
theorem DenL.nil {P:ai->Prop}{H:Hp}:DenL P H [] []:=by rw[DenL]
theorem DenL.cons {P:ai->Prop}{H:Hp}{d:Dt}{v:V}{ds:List Dt}{vs:List V}(h:Den P H d v) (t:DenL P H ds vs):DenL P H (d::ds) (v::vs):=by rw[DenL];exact⟨v,vs,rfl,h,t⟩
mutual
def bI:Dt->Dt->Bool
 | .non,.non=>true
 | .bl a,.bl b=>a==b
 | .bl a,.int j=>(if a then 1 else 0)==j
 | .int i,.bl b=>i==(if b then 1 else 0)
 | .int i,.int j=>i==j
 | .str x,.str y=>x==y
 | .tup xs,.tup ys=>eU xs ys
 | .lst xs,.lst ys=>eU xs ys
 |_,_=>false
def eU:List Dt->List Dt->Bool
 | [],[]=>true
 |x::xs,y::ys=>bI x y&&eU xs ys
 |_,_=>false
end
mutual
def fP:Dt->Nat
 | .tup xs=>kW xs+1
 | .lst xs=>kW xs+1
 |_=>0
def kW:List Dt->Nat
 | []=>0
 |x::xs=>max (fP x) (kW xs)
end
mutual
def nod:Dt->Bool
 | .tup xs=>iZ xs
 | .lst xs=>iZ xs
 | .dct=>false
 |_=>true
def iZ:List Dt->Bool
 | []=>true
 |x::xs=>nod x&&iZ xs
end
mutual
theorem A2:∀d:Dt,nod d=true->bI d d=true
 | .non,_=>rfl
 | .bl b,_=>by simp[bI]
 | .int i,_=>by simp[bI]
 | .str x,_=>by simp[bI]
 | .tup xs,h=>by rw[bI];exact A3 xs (by rw[nod]at h;exact h)
 | .lst xs,h=>by rw[bI];exact A3 xs (by rw[nod]at h;exact h)
 | .dct,h=>by simp[nod]at h
theorem A3:∀l:List Dt,iZ l=true->eU l l=true
 | [],_=>rfl
 |x::xs,h=>by rw[iZ,cw]at h;rw[eU,A2 x h.1,A3 xs h.2];rfl
end
theorem A4:∀{l:List Dt}{d:Dt},d∈l->fP d<=kW l
 |x::xs,d,h=>by
  rw[kW]
  rcases ay.mp h with rfl|h
  ·omega
  ·have:=A4 h;omega
theorem sY:∀{l:List Dt}{d:Dt},iZ l=true->d∈l->nod d=true
 |x::xs,d,h,hd=>by
  rw[iZ,cw]at h
  rcases ay.mp hd with rfl|hd
  ·exact h.1
  ·exact sY h.2 hd
theorem sZ:∀{xs ys:List Dt},xs.length=ys.length->eU xs ys=(bf xs.length).all λi=>bI (xs.getD i .non) (ys.getD i .non)
 | [],[],_=>rfl
 |x::xs,y::ys,h=>by rw[eU,sZ (xs:=xs) (ys:=ys) (by simpa using h),dj,Bw,List.all_cons,List.all_map];rfl
theorem tD:∀{xs ys:List Dt},xs.length≠ys.length->eU xs ys=false
 | [],[],h=>absurd rfl h
 | [],_::_,_=>rfl
 |_::_,[],_=>rfl
 |x::xs,y::ys,h=>by rw[eU,tD (xs:=xs) (ys:=ys) (by simpa using h),qv]
mutual
theorem Den.inj {P:ai->Prop}{H:Hp}:∀(d d':Dt) (v:V),Den P H d v->Den P H d' v->d=d'
 | .non,d',v,h,h'=>by
  rw[Den]at h;subst h
  cases d' <;> rw[Den]at h' <;> first|rfl|(obtain⟨_,_,e,_⟩:=h';cases e;done)|(obtain⟨_,e,_⟩:=h';cases e;done)|(cases h';done)
 | .bl b,d',v,h,h'=>by
  rw[Den]at h;subst h
  cases d' <;> rw[Den]at h' <;> first|(obtain⟨_,_,e,_⟩:=h';cases e;done)|(obtain⟨_,e,_⟩:=h';cases e;done)|(cases h';done)|(cases h';rfl)
 | .int b,d',v,h,h'=>by
  rw[Den]at h;subst h
  cases d' <;> rw[Den]at h' <;> first|(obtain⟨_,_,e,_⟩:=h';cases e;done)|(obtain⟨_,e,_⟩:=h';cases e;done)|(cases h';done)|(cases h';rfl)
 | .str b,d',v,h,h'=>by
  rw[Den]at h;subst h
  cases d' <;> rw[Den]at h' <;> first|(obtain⟨_,_,e,_⟩:=h';cases e;done)|(obtain⟨_,e,_⟩:=h';cases e;done)|(cases h';done)|(cases h';rfl)
 | .tup ds,d',v,h,h'=>by
  rw[Den]at h;obtain⟨a,vs,rfl,h1,h2⟩:=h
  cases d' with
  |tup ds'=>rw[Den]at h';obtain⟨a',vs',e,h1',h2'⟩:=h';cases e;rw[h1]at h1';cases h1';rw[DenL.inj ds ds' vs h2 h2']
  |lst ds'=>rw[Den]at h';obtain⟨a',vs',e,_,h1',h2'⟩:=h';cases e;rw[h1]at h1';cases h1'
  |dct=>rw[Den]at h';obtain⟨a',e,_,h1'⟩:=h';cases e;rw[h1]at h1';cases h1'
  |_=>rw[Den]at h';cases h'
 | .lst ds,d',v,h,h'=>by
  rw[Den]at h;obtain⟨a,vs,rfl,_,h1,h2⟩:=h
  cases d' with
  |tup ds'=>rw[Den]at h';obtain⟨a',vs',e,h1',h2'⟩:=h';cases e;rw[h1]at h1';cases h1'
  |lst ds'=>rw[Den]at h';obtain⟨a',vs',e,_,h1',h2'⟩:=h';cases e;rw[h1]at h1';cases h1';rw[DenL.inj ds ds' vs h2 h2']
  |dct=>rw[Den]at h';obtain⟨a',e,_,h1'⟩:=h';cases e;rw[h1]at h1';cases h1'
  |_=>rw[Den]at h';cases h'
 | .dct,d',v,h,h'=>by
  rw[Den]at h;obtain⟨a,rfl,_,h1⟩:=h
  cases d' with
  |tup ds'=>rw[Den]at h';obtain⟨a',vs',e,h1',h2'⟩:=h';cases e;rw[h1]at h1';cases h1'
  |lst ds'=>rw[Den]at h';obtain⟨a',vs',e,_,h1',h2'⟩:=h';cases e;rw[h1]at h1';cases h1'
  |dct=>rfl
  |_=>rw[Den]at h';cases h'
theorem DenL.inj {P:ai->Prop}{H:Hp}:∀(ds ds':List Dt) (vs:List V),DenL P H ds vs->DenL P H ds' vs->ds=ds'
 | [],ds',vs,h,h'=>by
  rw[DenL]at h;subst h
  cases ds' with
  |nil=>rfl
  |cons d ds'=>rw[DenL]at h';obtain⟨_,_,e,_⟩:=h';cases e
 |d::ds,ds',vs,h,h'=>by
  rw[DenL]at h;obtain⟨v,r,rfl,h1,h2⟩:=h
  cases ds' with
  |nil=>rw[DenL]at h';cases h'
  |cons d' ds'=>rw[DenL]at h';obtain⟨v',r',e,h1',h2'⟩:=h';cases e;rw[Den.inj d d' v h1 h1',DenL.inj ds ds' r h2 h2']
end
section
variable{Pg:bh}{w:cn}{P:ai->Prop}{H:Hp}{s:ag}
theorem gJ (hok:HOk Pg w H s.heap) {a:ai}{vs:List V}(e:H a=some (.tup vs)):∃its:List af,Vals vs its/\s.heap.IsTuple a its.toArray:=by
 obtain⟨_,its,r,p⟩:=(show ObjOk Pg w H s.heap a (.tup vs) from hok a _ e)
 exact⟨its,r,p.tup⟩
theorem gK (hok:HOk Pg w H s.heap) {a:ai}{vs:List V}(e:H a=some (.lst vs)):∃its:List af,Vals vs its/\s.heap.IsList a its.toArray:=by
 obtain⟨_,its,n,r,p⟩:=(show ObjOk Pg w H s.heap a (.lst vs) from hok a _ e)
 exact⟨its,r,_,p,rfl,n,rfl⟩
theorem vY {vs:List V}{its:List af}(r:Vals vs its) {j:Nat}(h:j<its.toArray.size):∃v,vs[j]?=some v/\RelV v its.toArray[j]:=by
 have hl:=r.length;have h':j<its.length:=by simpa using h
 have hv:j<vs.length:=by omega
 obtain⟨u,e,q⟩:=r.get (i:=j) (x:=vs[j]) (bg hv);refine⟨vs[j],bg hv, ?_⟩;have:its.toArray[j]=u:=by have:its[j]?=some its[j]:=bg h';rw[this]at e;simpa using e
 rw[this];exact q
theorem A5 (hok:HOk Pg w H s.heap):∀(n:Nat) (A:cf) (d d':Dt) (v v':V) (u u':af),fP d<=n->A.units+n+1<cLine->nod d=true->nod d'=true->Den P H d v->Den P H d' v'->RelV v u->RelV v' u'->
  De A s u u' (bI d d')/\vv A s u u' (bI d d'):=by
 intro n
 induction n with
 |zero=>
  intro A d d' v v' u u' hn hu n1 n2 h h' r r';have hu':A.units<cLine:=by omega
  cases d with
  |non=>
   rw[Den]at h;subst h;cases r
   cases d' with
   |non=>rw[Den]at h';subst h';cases r';exact⟨yz,sh _⟩
   |bl b'=>rw[Den]at h';subst h';cases r';exact⟨zb _,zc _⟩
   |int i'=>rw[Den]at h';subst h';obtain⟨t2,rfl⟩:=r';exact⟨Af _ _,Ag _ _⟩
   |str x'=>rw[Den]at h';subst h';obtain⟨t2,rfl⟩:=r';exact⟨Ah _ _,Ai _ _⟩
   |tup ds'=>rw[Den]at h';obtain⟨a2,vs2,rfl,e2,g2⟩:=h';cases r';obtain⟨its2,q2,tp2⟩:=gJ hok e2;exact⟨yn  tp2 hu',yo  tp2 hu'⟩
   |lst ds'=>rw[Den]at h';obtain⟨a2,vs2,rfl,_,e2,g2⟩:=h';cases r';obtain⟨its2,q2,tp2⟩:=gK hok e2;exact⟨zd  tp2 hu',ze  tp2 hu'⟩
   |dct=>simp[nod]at n2
  |bl b=>
   rw[Den]at h;subst h;cases r
   cases d' with
   |non=>rw[Den]at h';subst h';cases r';exact⟨zf _,zg _⟩
   |bl b'=>rw[Den]at h';subst h';cases r';exact⟨zh _ _,zi _ _⟩
   |int i'=>rw[Den]at h';subst h';obtain⟨t2,rfl⟩:=r';exact⟨Aj _ _ _,Ak _ _ _⟩
   |str x'=>rw[Den]at h';subst h';obtain⟨t2,rfl⟩:=r';exact⟨Al _ _ _,Am _ _ _⟩
   |tup ds'=>rw[Den]at h';obtain⟨a2,vs2,rfl,e2,g2⟩:=h';cases r';obtain⟨its2,q2,tp2⟩:=gJ hok e2;exact⟨yp _ tp2 hu',yq _ tp2 hu'⟩
   |lst ds'=>rw[Den]at h';obtain⟨a2,vs2,rfl,_,e2,g2⟩:=h';cases r';obtain⟨its2,q2,tp2⟩:=gK hok e2;exact⟨zj _ tp2 hu',zk _ tp2 hu'⟩
   |dct=>simp[nod]at n2
  |int i=>
   rw[Den]at h;subst h;obtain⟨t1,rfl⟩:=r
   cases d' with
   |non=>rw[Den]at h';subst h';cases r';exact⟨An _ _,Ao _ _⟩
   |bl b'=>rw[Den]at h';subst h';cases r';exact⟨Ap _ _ _,Aq _ _ _⟩
   |int i'=>rw[Den]at h';subst h';obtain⟨t2,rfl⟩:=r';exact⟨Bi _ _ _ _,vc _ _ _ _⟩
   |str x'=>rw[Den]at h';subst h';obtain⟨t2,rfl⟩:=r';exact⟨Bj _ _ _ _,uy _ _ _ _⟩
   |tup ds'=>rw[Den]at h';obtain⟨a2,vs2,rfl,e2,g2⟩:=h';cases r';obtain⟨its2,q2,tp2⟩:=gJ hok e2;exact⟨zl _ _ tp2 hu',zm _ _ tp2 hu'⟩
   |lst ds'=>rw[Den]at h';obtain⟨a2,vs2,rfl,_,e2,g2⟩:=h';cases r';obtain⟨its2,q2,tp2⟩:=gK hok e2;exact⟨As _ _ tp2 hu',Au _ _ tp2 hu'⟩
   |dct=>simp[nod]at n2
  |str x=>
   rw[Den]at h;subst h;obtain⟨t1,rfl⟩:=r
   cases d' with
   |non=>rw[Den]at h';subst h';cases r';exact⟨Av _ _,Aw _ _⟩
   |bl b'=>rw[Den]at h';subst h';cases r';exact⟨Ax _ _ _,Ay _ _ _⟩
   |int i'=>rw[Den]at h';subst h';obtain⟨t2,rfl⟩:=r';exact⟨Bk _ _ _ _,uz _ _ _ _⟩
   |str x'=>rw[Den]at h';subst h';obtain⟨t2,rfl⟩:=r';exact⟨Bl _ _ _ _,Bm _ _ _ _⟩
   |tup ds'=>rw[Den]at h';obtain⟨a2,vs2,rfl,e2,g2⟩:=h';cases r';obtain⟨its2,q2,tp2⟩:=gJ hok e2;exact⟨zq _ _ tp2 hu',zt _ _ tp2 hu'⟩
   |lst ds'=>rw[Den]at h';obtain⟨a2,vs2,rfl,_,e2,g2⟩:=h';cases r';obtain⟨its2,q2,tp2⟩:=gK hok e2;exact⟨Az _ _ tp2 hu',Ba _ _ tp2 hu'⟩
   |dct=>simp[nod]at n2
  |tup ds=>rw[fP]at hn;omega
  |lst ds=>rw[fP]at hn;omega
  |dct=>simp[nod]at n1
 |succ n ih=>
  intro A d d' v v' u u' hn hu n1 n2 h h' r r';have hu':A.units<cLine:=by omega
  have hin:∀{vs vs':List V}{ds ds':List Dt}{its its':List af},kW ds<=n->iZ ds=true->iZ ds'=true->DenL P H ds vs->DenL P H ds' vs'->Vals vs its->Vals vs' its'->
    ∀j (h1:j<its.toArray.size) (h2:j<its'.toArray.size),vv A.in1 s its.toArray[j] its'.toArray[j] (bI (ds.getD j .non) (ds'.getD j .non)):=by
   intro vs vs' ds ds' its its' hd m1 m2 g g' q q' j h1 h2;obtain⟨x,ex,rx⟩:=vY q h1;obtain⟨x',ex',rx'⟩:=vY q' h2;obtain⟨dx,edx,gx⟩:=g.get ex;obtain⟨dx',edx',gx'⟩:=g'.get ex';have e1:ds.getD j .non=dx:=by simp[ow,edx]
   have e2:ds'.getD j .non=dx':=by simp[ow,edx']
   rw[e1,e2];have hm:=bx edx;exact(ih A.in1 dx dx' x x' _ _ (dm (A4 hm) hd) (by show A.units+1+n+1<cLine;omega) (sY m1 hm) (sY m2 (bx edx')) gx gx' rx rx').2
  cases d with
  |non=>
   rw[Den]at h;subst h;cases r
   cases d' with
   |non=>rw[Den]at h';subst h';cases r';exact⟨yz,sh _⟩
   |bl b'=>rw[Den]at h';subst h';cases r';exact⟨zb _,zc _⟩
   |int i'=>rw[Den]at h';subst h';obtain⟨t2,rfl⟩:=r';exact⟨Af _ _,Ag _ _⟩
   |str x'=>rw[Den]at h';subst h';obtain⟨t2,rfl⟩:=r';exact⟨Ah _ _,Ai _ _⟩
   |tup ds'=>rw[Den]at h';obtain⟨a2,vs2,rfl,e2,g2⟩:=h';cases r';obtain⟨its2,q2,tp2⟩:=gJ hok e2;exact⟨yn  tp2 hu',yo  tp2 hu'⟩
   |lst ds'=>rw[Den]at h';obtain⟨a2,vs2,rfl,_,e2,g2⟩:=h';cases r';obtain⟨its2,q2,tp2⟩:=gK hok e2;exact⟨zd  tp2 hu',ze  tp2 hu'⟩
   |dct=>simp[nod]at n2
  |bl b=>
   rw[Den]at h;subst h;cases r
   cases d' with
   |non=>rw[Den]at h';subst h';cases r';exact⟨zf _,zg _⟩
   |bl b'=>rw[Den]at h';subst h';cases r';exact⟨zh _ _,zi _ _⟩
   |int i'=>rw[Den]at h';subst h';obtain⟨t2,rfl⟩:=r';exact⟨Aj _ _ _,Ak _ _ _⟩
   |str x'=>rw[Den]at h';subst h';obtain⟨t2,rfl⟩:=r';exact⟨Al _ _ _,Am _ _ _⟩
   |tup ds'=>rw[Den]at h';obtain⟨a2,vs2,rfl,e2,g2⟩:=h';cases r';obtain⟨its2,q2,tp2⟩:=gJ hok e2;exact⟨yp _ tp2 hu',yq _ tp2 hu'⟩
   |lst ds'=>rw[Den]at h';obtain⟨a2,vs2,rfl,_,e2,g2⟩:=h';cases r';obtain⟨its2,q2,tp2⟩:=gK hok e2;exact⟨zj _ tp2 hu',zk _ tp2 hu'⟩
   |dct=>simp[nod]at n2
  |int i=>
   rw[Den]at h;subst h;obtain⟨t1,rfl⟩:=r
   cases d' with
   |non=>rw[Den]at h';subst h';cases r';exact⟨An _ _,Ao _ _⟩
   |bl b'=>rw[Den]at h';subst h';cases r';exact⟨Ap _ _ _,Aq _ _ _⟩
   |int i'=>rw[Den]at h';subst h';obtain⟨t2,rfl⟩:=r';exact⟨Bi _ _ _ _,vc _ _ _ _⟩
   |str x'=>rw[Den]at h';subst h';obtain⟨t2,rfl⟩:=r';exact⟨Bj _ _ _ _,uy _ _ _ _⟩
   |tup ds'=>rw[Den]at h';obtain⟨a2,vs2,rfl,e2,g2⟩:=h';cases r';obtain⟨its2,q2,tp2⟩:=gJ hok e2;exact⟨zl _ _ tp2 hu',zm _ _ tp2 hu'⟩
   |lst ds'=>rw[Den]at h';obtain⟨a2,vs2,rfl,_,e2,g2⟩:=h';cases r';obtain⟨its2,q2,tp2⟩:=gK hok e2;exact⟨As _ _ tp2 hu',Au _ _ tp2 hu'⟩
   |dct=>simp[nod]at n2
  |str x=>
   rw[Den]at h;subst h;obtain⟨t1,rfl⟩:=r
   cases d' with
   |non=>rw[Den]at h';subst h';cases r';exact⟨Av _ _,Aw _ _⟩
   |bl b'=>rw[Den]at h';subst h';cases r';exact⟨Ax _ _ _,Ay _ _ _⟩
   |int i'=>rw[Den]at h';subst h';obtain⟨t2,rfl⟩:=r';exact⟨Bk _ _ _ _,uz _ _ _ _⟩
   |str x'=>rw[Den]at h';subst h';obtain⟨t2,rfl⟩:=r';exact⟨Bl _ _ _ _,Bm _ _ _ _⟩
   |tup ds'=>rw[Den]at h';obtain⟨a2,vs2,rfl,e2,g2⟩:=h';cases r';obtain⟨its2,q2,tp2⟩:=gJ hok e2;exact⟨zq _ _ tp2 hu',zt _ _ tp2 hu'⟩
   |lst ds'=>rw[Den]at h';obtain⟨a2,vs2,rfl,_,e2,g2⟩:=h';cases r';obtain⟨its2,q2,tp2⟩:=gK hok e2;exact⟨Az _ _ tp2 hu',Ba _ _ tp2 hu'⟩
   |dct=>simp[nod]at n2
  |tup ds=>
   rw[Den]at h;obtain⟨a1,vs1,rfl,e1,g1⟩:=h;cases r;obtain⟨its1,q1,tp1⟩:=gJ hok e1
   cases d' with
   |non=>rw[Den]at h';subst h';cases r';exact⟨SeqAt.RcAt.tuple_none  tp1 hu',SeqAt.EqAt.tuple_none  tp1 hu'⟩
   |bl b'=>rw[Den]at h';subst h';cases r';exact⟨SeqAt.RcAt.tuple_bool _ tp1 hu',SeqAt.EqAt.tuple_bool _ tp1 hu'⟩
   |int i'=>rw[Den]at h';subst h';obtain⟨t2,rfl⟩:=r';exact⟨SeqAt.RcAt.tuple_int _ _ tp1 hu',SeqAt.EqAt.tuple_int _ _ tp1 hu'⟩
   |str x'=>rw[Den]at h';subst h';obtain⟨t2,rfl⟩:=r';exact⟨SeqAt.RcAt.tuple_str _ _ tp1 hu',SeqAt.EqAt.tuple_str _ _ tp1 hu'⟩
   |tup ds'=>
    rw[Den]at h';obtain⟨a2,vs2,rfl,e2,g2⟩:=h';cases r';obtain⟨its2,q2,tp2⟩:=gJ hok e2;rw[nod]at n1 n2;rw[fP]at hn;have hl1:=g1.length;have hl2:=g2.length;have hq1:=q1.length;have hq2:=q2.length;have key:De A s (.ref a1) (.ref a2) (bI (.tup ds) (.tup ds')):=by
     rw[bI];have z:=SeqAt.RcAt.tuples (e:=λj=>bI (ds.getD j .non) (ds'.getD j .non)) tp1 tp2 hu' (hin (by omega) n1 n2 g1 g2 q1 q2);have s1:its1.toArray.size=ds.length:=by simp;omega
     have s2:its2.toArray.size=ds'.length:=by simp;omega
     rw[s1,s2]at z
     by_cases hlen:ds.length=ds'.length
     ·rw[sZ hlen];rw[<-hlen,Ci]at z;simpa using z
     ·rw[tD hlen];rw[show(ds.length==ds'.length)=false from beq_eq_false_iff_ne.mpr hlen,qv]at z;exact z
    refine⟨key, ?_⟩
    by_cases hab:a1=a2
    ·subst hab;rw[e1]at e2;cases e2;rw[DenL.inj ds ds' _ g1 g2,A2 _ (by rw[nod];exact n2)];exact sh _
    ·exact Bn hab key
   |lst ds'=>rw[Den]at h';obtain⟨a2,vs2,rfl,_,e2,g2⟩:=h';cases r';obtain⟨its2,q2,tp2⟩:=gK hok e2;exact⟨SeqAt.RcAt.tuple_list tp1 tp2 hu',SeqAt.EqAt.tuple_list tp1 tp2 hu'⟩
   |dct=>simp[nod]at n2
  |lst ds=>
   rw[Den]at h;obtain⟨a1,vs1,rfl,_,e1,g1⟩:=h;cases r;obtain⟨its1,q1,tp1⟩:=gK hok e1
   cases d' with
   |non=>rw[Den]at h';subst h';cases r';exact⟨SeqAt.RcAt.list_none  tp1 hu',SeqAt.EqAt.list_none  tp1 hu'⟩
   |bl b'=>rw[Den]at h';subst h';cases r';exact⟨SeqAt.RcAt.list_bool _ tp1 hu',SeqAt.EqAt.list_bool _ tp1 hu'⟩
   |int i'=>rw[Den]at h';subst h';obtain⟨t2,rfl⟩:=r';exact⟨SeqAt.RcAt.list_int _ _ tp1 hu',SeqAt.EqAt.list_int _ _ tp1 hu'⟩
   |str x'=>rw[Den]at h';subst h';obtain⟨t2,rfl⟩:=r';exact⟨SeqAt.RcAt.list_str _ _ tp1 hu',SeqAt.EqAt.list_str _ _ tp1 hu'⟩
   |tup ds'=>rw[Den]at h';obtain⟨a2,vs2,rfl,e2,g2⟩:=h';cases r';obtain⟨its2,q2,tp2⟩:=gJ hok e2;exact⟨SeqAt.RcAt.list_tuple tp1 tp2 hu',SeqAt.EqAt.list_tuple tp1 tp2 hu'⟩
   |lst ds'=>
    rw[Den]at h';obtain⟨a2,vs2,rfl,_,e2,g2⟩:=h';cases r';obtain⟨its2,q2,tp2⟩:=gK hok e2;rw[nod]at n1 n2;rw[fP]at hn;have hl1:=g1.length;have hl2:=g2.length;have hq1:=q1.length;have hq2:=q2.length;have key:De A s (.ref a1) (.ref a2) (bI (.lst ds) (.lst ds')):=by
     rw[bI]
     by_cases hlen:ds.length=ds'.length
     ·have z:=SeqAt.RcAt.lists (e:=λj=>bI (ds.getD j .non) (ds'.getD j .non)) tp1 tp2 (by simp;omega) hu' (hin (by omega) n1 n2 g1 g2 q1 q2);rw[sZ hlen];simpa[hq1.symm,hl1]using z
     ·rw[tD hlen];exact SeqAt.RcAt.lists_lengths tp1 tp2 (by simp;omega) hu'
    refine⟨key, ?_⟩
    by_cases hab:a1=a2
    ·subst hab;rw[e1]at e2;cases e2;rw[DenL.inj ds ds' _ g1 g2,A2 _ (by rw[nod];exact n2)];exact sh _
    ·exact Bn hab key
   |dct=>simp[nod]at n2
  |dct=>simp[nod]at n1
end
end L2
namespace L2.Mr
open PySem PySem.Spec PyProof.Rows
inductive Dv where
 |non|bl (b:Bool)|int (i:Int)|str (x:Str)|tup (xs:List Dv)|ref (i:Nat)|edc|exc (c:Nat)|scr
inductive Ob where
 |lst (xs:List Dv)
abbrev Hs:=List Ob
abbrev Ev:=List (Option Dv)
inductive Rs (α:Type) where
 |ok (a:α) (h:Hs)|ex (c:Nat) (h:Hs)|bad
def Rs.bind {α β:Type}(r:Rs α) (f:α->Hs->Rs β):Rs β:=match r with
 | .ok a h=>f a h
 | .ex c h=>.ex c h
 | .bad=>.bad
@[simp] theorem Rs.bind_ok {α β:Type}(a:α) (h:Hs) (f:α->Hs->Rs β):(Rs.ok a h).bind f=f a h:=rfl
@[simp] theorem Rs.bind_ex {α β:Type}(c:Nat) (h:Hs) (f:α->Hs->Rs β):(Rs.ex c h).bind f=.ex c h:=rfl
@[simp] theorem Rs.bind_bad {α β:Type}(f:α->Hs->Rs β):(Rs.bad).bind f=.bad:=rfl
abbrev M (α:Type):=Ev->Hs->Rs α
structure Cfg where
 K:aq
 cl:Nat->ai
 scr:List Int
 sa:ai
 tab:Option ai:=none
 lq:Str:=Str.empty
def dJ (C:af) (e T:ai) (a0:af) (h:cu):Prop:=∃oe vs,h.get? e=some oe/\oe.cls=C/\oe.data=.fields vs/\vs[0]?=some a0/\vs[1]?=some (.ref T)/\oe.dict=none
def vZ (G:Cfg) (H:Hp) (c:Nat) (u:af):Prop:=∃e φ,u=.ref e/\H e=some (.ext φ)/\∀h,φ h->∃o,h.get? e=some o/\o.cls=.ref (G.cl c)
def A6:HO->Prop
 | .tup _=>True
 | .dK kvs=>kvs=[]
 | .frz _ _=>True
 |_=>False
def FzL (K:aq) (H:Hp) (a:ai) (xs:List V):Prop:=(∃o,H a=some (.frz o (.lst xs))) ∨
  ∃(o:Obj) (its:Array af) (n:Nat),K.lookup a=some o/\o.cls=.type "list"/\o.dict=none/\o.data=.seq its n/\its.size<=bw/\Vals xs its.toList
theorem FzL.sq {K:aq}{H:Hp}{a:ai}{xs:List V}(h:FzL K H a xs):SqL K H a xs:=by
 rcases h with⟨o,h⟩|h
 ·exact .inl (.inr ⟨o,h⟩)
 ·exact .inr h
theorem FzL.keep {K:aq}{H H':Hp}{a:ai}{xs:List V}(h:FzL K H a xs) (k:∀a o,A6 o->H a=some o->H' a=some o):FzL K H' a xs:=by
 rcases h with⟨o,h⟩|h
 ·exact .inl ⟨o,k a _ trivial h⟩
 ·exact .inr h
mutual
def RelD (G:Cfg) (μ:Nat->ai) (n:Nat) (H:Hp):Dv->V->Prop
 | .non,v=>v=.non
 | .bl b,v=>v=.bl b
 | .int i,v=>v=.int i
 | .str x,v=>v=.str x
 | .tup ds,v=>∃a vs,v=.ref a/\H a=some (.tup vs)/\RelDL G μ n H ds vs
 | .ref i,v=>i<n/\v=.ref (μ i)
 | .edc,v=>∃a,v=.ref a/\H a=some (.dK [])
 | .exc c,v=>∃a o u,v=.ref a/\H a=some (.frz o u)/\o.cls=.ref (G.cl c)/\o.dict=none/\∃vs,o.data=.fields vs
 | .scr,v=>v=.ref G.sa/\FzL G.K H G.sa (G.scr.map V.int)
def RelDL (G:Cfg) (μ:Nat->ai) (n:Nat) (H:Hp):List Dv->List V->Prop
 | [],vs=>vs=[]
 |d::ds,vs=>∃v r,vs=v::r/\RelD G μ n H d v/\RelDL G μ n H ds r
end
structure Ext (μ:Nat->ai) (n:Nat) (H:Hp) (μ':Nat->ai) (n':Nat) (H':Hp):Prop where
 le:n<=n'
 mu:∀i,i<n->μ' i=μ i
 im:∀a o,A6 o->H a=some o->H' a=some o
theorem Ext.refl {μ:Nat->ai}{n:Nat}{H:Hp}:Ext μ n H μ n H:=⟨ak _,λ_ _=>rfl,λ_ _ _ e=>e⟩
theorem Ext.trans {μ μ1 μ2:Nat->ai}{n n1 n2:Nat}{H H1 H2:Hp}(a:Ext μ n H μ1 n1 H1) (b:Ext μ1 n1 H1 μ2 n2 H2):Ext μ n H μ2 n2 H2:=⟨dm a.le b.le,λi hi=>(b.mu i (aw hi a.le)).trans (a.mu i hi),λc o i e=>b.im c o i (a.im c o i e)⟩
section
variable{G:Cfg}{μ μ':Nat->ai}{n n':Nat}{H H':Hp}
mutual
theorem RelD.mono (x:Ext μ n H μ' n' H'):∀(d:Dv) (v:V),RelD G μ n H d v->RelD G μ' n' H' d v
 | .non,v,h=>h
 | .bl b,v,h=>h
 | .int i,v,h=>h
 | .str s,v,h=>h
 | .tup ds,v,h=>by obtain⟨a,vs,e,h1,h2⟩:=h;exact⟨a,vs,e,x.im a _ trivial h1,RelDL.mono x ds vs h2⟩
 | .ref i,v,h=>by obtain⟨h1,h2⟩:=h;exact⟨aw h1 x.le,by rw[x.mu i h1];exact h2⟩
 | .edc,v,h=>by obtain⟨a,e,h1⟩:=h;exact⟨a,e,x.im a _ rfl h1⟩
 | .exc c,v,h=>by obtain⟨a,o,u,e,h1,h2⟩:=h;exact⟨a,o,u,e,x.im a _ trivial h1,h2⟩
 | .scr,v,h=>by obtain⟨h1,h2⟩:=h;exact⟨h1,h2.keep x.im⟩
theorem RelDL.mono (x:Ext μ n H μ' n' H'):∀(ds:List Dv) (vs:List V),RelDL G μ n H ds vs->RelDL G μ' n' H' ds vs
 | [],vs,h=>h
 |d::ds,vs,h=>by obtain⟨v,r,e,h1,h2⟩:=h;exact⟨v,r,e,RelD.mono x d v h1,RelDL.mono x ds r h2⟩
end
theorem RelDL.length:∀{ds:List Dv}{vs:List V},RelDL G μ n H ds vs->vs.length=ds.length
 | [],_,h=>by rw[RelDL]at h;subst h;rfl
 |d::ds,_,h=>by rw[RelDL]at h;obtain⟨v,r,rfl,_,h2⟩:=h;rw[dj,dj,RelDL.length h2]
theorem RelDL.get:∀{ds:List Dv}{vs:List V}{i:Nat}{d:Dv},RelDL G μ n H ds vs->ds[i]?=some d->∃v,vs[i]?=some v/\RelD G μ n H d v
 | [],_,_,_,_,e=>by simp at e
 |d::ds,_,0,d',h,e=>by rw[RelDL]at h;obtain⟨v,r,rfl,h1,_⟩:=h;simp at e;subst e;exact⟨v,rfl,h1⟩
 |d::ds,_,i+1,d',h,e=>by rw[RelDL]at h;obtain⟨v,r,rfl,_,h2⟩:=h;obtain⟨u,e1,h3⟩:=RelDL.get (i:=i) h2 (by simpa using e);exact⟨u,by simpa using e1,h3⟩
theorem RelDL.nil:RelDL G μ n H [] []:=by rw[RelDL]
theorem RelDL.cons {d:Dv}{v:V}{ds:List Dv}{vs:List V}(h:RelD G μ n H d v) (t:RelDL G μ n H ds vs):RelDL G μ n H (d::ds) (v::vs):=by rw[RelDL];exact⟨v,vs,rfl,h,t⟩
theorem RelDL.append:∀{ds es:List Dv}{vs ws:List V},RelDL G μ n H ds vs->RelDL G μ n H es ws->RelDL G μ n H (ds++es) (vs++ws)
 | [],_,_,_,h,h'=>by rw[RelDL]at h;subst h;exact h'
 |d::ds,_,_,_,h,h'=>by rw[RelDL]at h;obtain⟨v,r,rfl,h1,h2⟩:=h;exact RelDL.cons h1 (RelDL.append h2 h')
theorem RelDL.take:∀{ds:List Dv}{vs:List V}(k:Nat),RelDL G μ n H ds vs->RelDL G μ n H (ds.take k) (vs.take k)
 | [],_,k,h=>by rw[RelDL]at h;subst h;simp[RelDL.nil]
 |d::ds,_,0,h=>by simp[RelDL.nil]
 |d::ds,_,k+1,h=>by rw[RelDL]at h;obtain⟨v,r,rfl,h1,h2⟩:=h;exact RelDL.cons h1 (RelDL.take k h2)
theorem RelDL.drop:∀{ds:List Dv}{vs:List V}(k:Nat),RelDL G μ n H ds vs->RelDL G μ n H (ds.drop k) (vs.drop k)
 | [],_,k,h=>by rw[RelDL]at h;subst h;simp[RelDL.nil]
 |d::ds,_,0,h=>h
 |d::ds,_,k+1,h=>by rw[RelDL]at h;obtain⟨v,r,rfl,h1,h2⟩:=h;exact RelDL.drop k h2
theorem RelDL.set {x:Dv}{u:V}(hx:RelD G μ n H x u):∀{ds:List Dv}{vs:List V}(i:Nat),RelDL G μ n H ds vs->RelDL G μ n H (ds.set i x) (vs.set i u)
 | [],_,_,h=>by rw[RelDL]at h;subst h;exact RelDL.nil
 |d::ds,_,0,h=>by rw[RelDL]at h;obtain⟨v,r,rfl,h1,h2⟩:=h;exact RelDL.cons hx h2
 |d::ds,_,i+1,h=>by rw[RelDL]at h;obtain⟨v,r,rfl,h1,h2⟩:=h;exact RelDL.cons h1 (RelDL.set hx i h2)
end
def UK (G:Cfg) (μ:Nat->ai) (n:Nat) (H:Hp) (a:ai):Ob->Prop
 | .lst xs=>∃vs,H a=some (.lst vs)/\RelDL G μ n H xs vs
def wB (q:Str) (oc:Obj):Prop:=∃vs t,oc.data=.fields vs/\vs[1]?=some (.str q t)
def TabOk (G:Cfg) (H:Hp):Prop:=∀P,G.tab=some P->∃ps,H P=some (.tbl ps)/\wy ps.toList/\∀pos cv,codeAmong pos ps.toList=some cv->∃q oc,cv=.ref q/\H q=some (.frz oc (.own 0))/\wB G.lq oc
theorem TabOk.keep {G:Cfg}{H H':Hp}(t:TabOk G H) (k:∀a o,(∀xs,o≠.lst xs)->(∀φ,o≠.ext φ)->H a=some o->H' a=some o):TabOk G H':=λP e=>by obtain⟨ps,h1,h2,h3⟩:=t P e;refine⟨ps,k P _ (λ_ z=>by cases z) (λ_ z=>by cases z) h1,h2,λpos cv q=>?_⟩;obtain⟨a,oc,e1,e2,e3⟩:=h3 pos cv q;exact⟨a,oc,e1,k a _ (λ_ z=>by cases z) (λ_ z=>by cases z) e2,e3⟩
structure Sim (G:Cfg) (μ:Nat->ai) (h:Hs) (H:Hp):Prop where
 inj:∀i j,i<h.length->j<h.length->μ i=μ j->i=j
 ob:∀(i:Nat) (o:Ob),h[i]?=some o->UK G μ h.length H (μ i) o
 tab:TabOk G H
structure RelS (G:Cfg) (μ:Nat->ai) (n:Nat) (H:Hp) (ρ:Ev) (σ:St):Prop where
 len:ρ.length=σ.length
 at_:∀(i:Nat) (d:Dv),ρ[i]?=some (some d)->∃v,σ[i]?=some (some v)/\RelD G μ n H d v
theorem RelS.mono {G:Cfg}{μ μ':Nat->ai}{n n':Nat}{H H':Hp}{ρ:Ev}{σ:St}(r:RelS G μ n H ρ σ) (x:Ext μ n H μ' n' H'):RelS G μ' n' H' ρ σ:=⟨r.len,λi d e=>let ⟨v,e1,h⟩:=r.at_ i d e;⟨v,e1,RelD.mono x d v h⟩⟩
def Out {α β:Type}(G:Cfg) (E:XK) (μ:Nat->ai) (n:Nat) (H:Hp) (r:Rs α) (R:(Nat->ai)->Nat->Hp->α->β->Prop) (Q:β->Hp->Prop):Prop:=
 match r with
 | .ok d h'=>∀μ' H' v,Ext μ n H μ' h'.length H'->Sim G μ' h' H'->R μ' h'.length H' d v->Q v H'
 | .ex c h'=>∀μ' H' u,Ext μ n H μ' h'.length H'->Sim G μ' h' H'->vZ G H' c u->E u none H'
 | .bad=>False
theorem Out.bind {α β γ δ:Type}{G:Cfg}{E:XK}{μ:Nat->ai}{n:Nat}{H:Hp}{r:Rs α}{f:α->Hs->Rs γ}{R:(Nat->ai)->Nat->Hp->γ->δ->Prop}{Q:δ->Hp->Prop}{R1:(Nat->ai)->Nat->Hp->α->β->Prop}
  (o:Out G E μ n H (r.bind f) R Q):Out G E μ n H r R1 λv H1=>∃μ1 d h1,Ext μ n H μ1 h1.length H1/\Sim G μ1 h1 H1/\R1 μ1 h1.length H1 d v/\Out G E μ1 h1.length H1 (f d h1) R Q:=by
 cases r with
 |bad=>exact o
 |ex c h'=>exact o
 |ok d h'=>
  intro μ1 H1 v x1 s1 r1;refine⟨μ1,d,h',x1,s1,r1, ?_⟩;have o':Out G E μ n H (f d h') R Q:=o
  cases e:f d h' with
  |bad=>rw[e]at o';exact o'
  |ex c h2=>rw[e]at o';exact λμ2 H2 u x2 s2 r2=>o' μ2 H2 u (x1.trans x2) s2 r2
  |ok d2 h2=>rw[e]at o';exact λμ2 H2 u x2 s2 r2=>o' μ2 H2 u (x1.trans x2) s2 r2
theorem Out.mono {α β:Type}{G:Cfg}{E:XK}{μ:Nat->ai}{n:Nat}{H:Hp}{r:Rs α}{R:(Nat->ai)->Nat->Hp->α->β->Prop}{Q Q':β->Hp->Prop}(o:Out G E μ n H r R Q) (h:∀v H',Q v H'->Q' v H'):Out G E μ n H r R Q':=by
 cases r with
 |bad=>exact o
 |ex c h'=>exact o
 |ok d h'=>exact λμ' H' v x s r=>h _ _ (o μ' H' v x s r)
abbrev RB:(Nat->ai)->Nat->Hp->Bool->Bool->Prop:=λ_ _ _ b b'=>b'=b
def hV (G:Cfg) (E:XK) (m:M Dv):TE:=λσ H Q=>∃μ ρ h,RelS G μ h.length H ρ σ/\Sim G μ h H/\Out G E μ h.length H (m ρ h) (RelD G) Q
def iD (G:Cfg) (E:XK) (m:M Bool):TT:=λσ H Q=>∃μ ρ h,RelS G μ h.length H ρ σ/\Sim G μ h H/\Out G E μ h.length H (m ρ h) RB Q
def A7 (G:Cfg) (E:XK) (m:M (List Dv)):TA:=λσ H Q=>∃μ ρ h,RelS G μ h.length H ρ σ/\Sim G μ h H/\Out G E μ h.length H (m ρ h) (RelDL G) Q
def aJ (X:Cx) (G:Cfg) (E:XK) (pe:bq) (m:M Dv):Prop:=X.K=G.K->PE X pe (hV G E m)
def gL (X:Cx) (G:Cfg) (E:XK) (pe:bq) (m:M Bool):Prop:=X.K=G.K->PT X pe (iD G E m)
def dM (X:Cx) (G:Cfg) (E:XK) (pe:List bq) (m:M (List Dv)):Prop:=X.K=G.K->PA X pe (A7 G E m)
theorem PE.imp {X:Cx}{e:bq}{t t':TE}(h:PE X e t) (i:∀σ H Q,t' σ H Q->t σ H Q):PE X e t':=λpins s σ H Q I q=>h pins s σ H Q I (i σ H Q q)
theorem PT.imp {X:Cx}{e:bq}{t t':TT}(h:PT X e t) (i:∀σ H Q,t' σ H Q->t σ H Q):PT X e t':=λpins s σ H Q I q=>h pins s σ H Q I (i σ H Q q)
theorem PA.imp {X:Cx}{e:List bq}{t t':TA}(h:PA X e t) (i:∀σ H Q,t' σ H Q->t σ H Q):PA X e t':=λpos pins s σ H Q I q=>h pos pins s σ H Q I (i σ H Q q)
section
variable{G:Cfg}{E:XK}{σ:St}{H:Hp}
theorem eI {m:M Dv}{γ δ:Type}{f:Dv->Hs->Rs γ}{R:(Nat->ai)->Nat->Hp->γ->δ->Prop}{Q:δ->Hp->Prop}{Q1:V->Hp->Prop}{μ:Nat->ai}{ρ:Ev}{h:Hs}(rs:RelS G μ h.length H ρ σ) (s:Sim G μ h H) (o:Out G E μ h.length H ((m ρ h).bind f) R Q)
  (k:∀μ1 d h1 v H1,Ext μ h.length H μ1 h1.length H1->RelS G μ1 h1.length H1 ρ σ->Sim G μ1 h1 H1->RelD G μ1 h1.length H1 d v->Out G E μ1 h1.length H1 (f d h1) R Q->Q1 v H1):hV G E m σ H Q1:=
 ⟨μ,ρ,h,rs,s,(o.bind (R1:=RelD G)).mono λv H1 ⟨μ1,d,h1,x,s1,r1,o1⟩=>k μ1 d h1 v H1 x (rs.mono x) s1 r1 o1⟩
theorem A8 {m:M Bool}{γ δ:Type}{f:Bool->Hs->Rs γ}{R:(Nat->ai)->Nat->Hp->γ->δ->Prop}{Q:δ->Hp->Prop}{Q1:Bool->Hp->Prop}{μ:Nat->ai}{ρ:Ev}{h:Hs}(rs:RelS G μ h.length H ρ σ) (s:Sim G μ h H) (o:Out G E μ h.length H ((m ρ h).bind f) R Q)
  (k:∀μ1 b h1 H1,Ext μ h.length H μ1 h1.length H1->RelS G μ1 h1.length H1 ρ σ->Sim G μ1 h1 H1->Out G E μ1 h1.length H1 (f b h1) R Q->Q1 b H1):iD G E m σ H Q1:=
 ⟨μ,ρ,h,rs,s,(o.bind (R1:=RB)).mono λv H1 ⟨μ1,d,h1,x,s1,r1,o1⟩=>by have e:v=d:=r1;subst e;exact k μ1 v h1 H1 x (rs.mono x) s1 o1⟩
theorem kD {m:M (List Dv)}{γ δ:Type}{f:List Dv->Hs->Rs γ}{R:(Nat->ai)->Nat->Hp->γ->δ->Prop}{Q:δ->Hp->Prop}{Q1:List V->Hp->Prop}{μ:Nat->ai}{ρ:Ev}{h:Hs}(rs:RelS G μ h.length H ρ σ) (s:Sim G μ h H) (o:Out G E μ h.length H ((m ρ h).bind f) R Q)
  (k:∀μ1 d h1 v H1,Ext μ h.length H μ1 h1.length H1->RelS G μ1 h1.length H1 ρ σ->Sim G μ1 h1 H1->RelDL G μ1 h1.length H1 d v->Out G E μ1 h1.length H1 (f d h1) R Q->Q1 v H1):A7 G E m σ H Q1:=
 ⟨μ,ρ,h,rs,s,(o.bind (R1:=RelDL G)).mono λv H1 ⟨μ1,d,h1,x,s1,r1,o1⟩=>k μ1 d h1 v H1 x (rs.mono x) s1 r1 o1⟩
theorem Out.val {α β:Type}{μ:Nat->ai}{h:Hs}{d:α}{R:(Nat->ai)->Nat->Hp->α->β->Prop}{Q:β->Hp->Prop}{v:β}(s:Sim G μ h H) (o:Out G E μ h.length H (.ok d h) R Q) (r:R μ h.length H d v):Q v H:=o μ H v Ext.refl s r
end
section
variable{G:Cfg}{μ:Nat->ai}{h:Hs}{H H':Hp}{p:ai}{n:Nat}
theorem Ext.same (e:Same H H'):Ext μ n H μ n H':=⟨ak _,λ_ _=>rfl,λa o _ q=>e a o q⟩
theorem Sim.same (s:Sim G μ h H) (e:Same H H'):Sim G μ h H':=⟨s.inj,λi o q=>by
 have r:=s.ob i o q
 cases o with
 |lst xs=>obtain⟨vs,e1,r1⟩:=r;exact⟨vs,e _ _ e1,RelDL.mono (Ext.same e) _ _ r1⟩,s.tab.keep λa o _ _ q=>e a o q⟩
theorem cI {o:HO}(h:H p=none):Same H (upd H p o):=λb u e=>by rw[bP (fO e h)];exact e
theorem Sim.not (s:Sim G μ h H) (hp:H p=none):∀(i:Nat),i<h.length->μ i≠p:=λi hi z=>by
 have q:h[i]?=some h[i]:=bg hi;generalize h[i]=o at q
 cases o with
 |lst xs=>obtain⟨vs,e1,_⟩:=s.ob i _ q;rw[z,hp]at e1;cases e1
theorem Sim.alloc {ds:List Dv}{vs:List V}(s:Sim G μ h H) (hp:H p=none) (r:RelDL G μ h.length H ds vs):
  Ext μ h.length H (λi=>if i=h.length then p else μ i) (h++[Ob.lst ds]).length (upd H p (.lst vs))/\Sim G (λi=>if i=h.length then p else μ i) (h++[.lst ds]) (upd H p (.lst vs)):=by
 have hl:(h++[Ob.lst ds]).length=h.length+1:=by simp
 have hq:=s.not hp;have x:Ext μ h.length H (λi=>if i=h.length then p else μ i) (h++[Ob.lst ds]).length (upd H p (.lst vs)):=⟨by omega,λi hi=>if_neg (az hi),λa o _ e=>cI hp a o e⟩
 refine⟨x,λi j hi hj e=>?_,λi o q=>?_,s.tab.keep λa o _ _ q=>cI hp a o q⟩
 ·rw[hl]at hi hj
  by_cases h1:i=h.length <;> by_cases h2:j=h.length
  ·omega
  ·rw[if_pos h1,if_neg h2]at e;exact absurd e.symm (hq j (by omega))
  ·rw[if_neg h1,if_pos h2]at e;exact absurd e (hq i (by omega))
  ·rw[if_neg h1,if_neg h2]at e;exact s.inj i j (by omega) (by omega) e
 ·by_cases h1:i<h.length
  ·rw[fh h1]at q;have r1:=s.ob i o q
   cases o with
   |lst xs=>obtain⟨ws,e1,r2⟩:=r1;exact⟨ws,by rw[if_neg (az h1)];exact cI hp _ _ e1,RelDL.mono x _ _ r2⟩
  ·rw[gv (by omega)]at q;have h2:i=h.length:=by have:=(ba.mp q).1;simp at this;omega
   subst h2;simp at q;subst q;exact⟨vs,by rw[if_pos rfl];exact cK,RelDL.mono x _ _ r⟩
theorem Sim.write {xs ys:List Dv}{i:Nat}{vs:List V}(s:Sim G μ h H) (q:h[i]?=some (.lst xs)) (r:RelDL G μ h.length H ys vs):
  Ext μ h.length H μ (h.set i (.lst ys)).length (upd H (μ i) (.lst vs))/\Sim G μ (h.set i (.lst ys)) (upd H (μ i) (.lst vs)):=by
 obtain⟨us,e0,r0⟩:=s.ob i _ q;have hi:i<h.length:=(ba.mp q).1;have im:∀a o,A6 o->H a=some o->upd H (μ i) (.lst vs) a=some o:=λa o m e=>by
  rw[bP];exact e
  rintro rfl;rw[e0]at e;cases e;exact m
 have x:Ext μ h.length H μ (h.set i (.lst ys)).length (upd H (μ i) (.lst vs)):=⟨by simp,λ_ _=>rfl,im⟩
 refine⟨x,λa b ha hb=>?_,λj o e=>?_,s.tab.keep λa o n1 _ q=>?_⟩
 rotate_left 2
 ·rw[bP];exact q
  rintro rfl;rw[e0]at q;cases q;exact n1 _ rfl
 ·rw[lr]at ha hb;exact s.inj a b ha hb
 ·by_cases hij:i=j
  ·subst hij;rw[cz hi]at e;cases e;exact⟨vs,cK,RelDL.mono x _ _ r⟩
  ·rw[ey hij]at e;have hj:j<h.length:=(ba.mp e).1;have r1:=s.ob j o e;have ne:μ j≠μ i:=λz=>hij (s.inj j i hj hi z).symm
   cases o with
   |lst zs=>obtain⟨ws,e1,r2⟩:=r1;exact⟨ws,by rw[bP ne];exact e1,RelDL.mono x _ _ r2⟩
end
def lim {α:Type}(n:Nat) (r:Rs α):Rs α:=if n<=1000000 then r else .bad
theorem tE {n:Nat}(h:n<=1000000):n<=bw:=dm h (by decide)
def getL (h:Hs) (i:Nat):Option (List Dv):=match h[i]? with
 |some (.lst xs)=>some xs
 |none=>none
theorem cY {h:Hs}{i:Nat}{xs:List Dv}(e:getL h i=some xs):h[i]?=some (.lst xs):=by
 unfold getL at e
 cases q:h[i]? with
 |none=>rw[q]at e;cases e
 |some o=>cases o;rw[q]at e;cases e;rfl
section
variable{X:Cx}{G:Cfg}{E:XK}{a b c:bq}{ma mb mc:M Dv}{pos:Pos}{es:List bq}{aS:M (List Dv)}
def aA (i:Nat):M Dv:=λρ h=>match ρ[i]? with
 |some (some d)=>.ok d h
 |_=>.bad
theorem aD (i:Nat) {x:Str}(hN:X.N[i]?=some x:=by rfl) (hv:qG X.env.scope x:=by first|exact Or.inl rfl|exact Or.inr (Or.inl rfl)|exact Or.inr (Or.inr rfl))
  (hd:(x==("__debug__" : Str))=false:=by decide) (hcd:(x==("__classdict__" : Str))=false:=by decide):aJ X G E (.Name x pos) (aA i):=λ_=>PE.imp (zY hN hv hd hcd) λσ H Q ⟨μ,ρ,h,rs,s,o⟩=>by
 unfold aA at o
 split at o
 ·rename_i d e;obtain⟨v,e1,r⟩:=rs.at_ i d e;exact⟨v,e1,o.val s r⟩
 ·exact o.elim
def mC (d:Dv):M Dv:=λ_ h=>.ok d h
theorem aZ {i j}:aJ X G E (.Constant (.int i) j pos) (mC (.int i)):=λ_=>PE.imp GC λσ H Q ⟨μ,ρ,h,rs,s,o⟩=>o.val s (show RelD G μ _ H (.int i) (.int i) from rfl)
theorem fS {i j}:aJ X G E (.Constant (.bool i) j pos) (mC (.bl i)):=λ_=>PE.imp P8 λσ H Q ⟨μ,ρ,h,rs,s,o⟩=>o.val s (show RelD G μ _ H (.bl i) (.bl i) from rfl)
theorem pF {j}:aJ X G E (.Constant .none j pos) (mC .non):=λ_=>PE.imp GD λσ H Q ⟨μ,ρ,h,rs,s,o⟩=>o.val s (show RelD G μ _ H .non .non from rfl)
theorem wC {x j}:aJ X G E (.Constant (.str x) j pos) (mC (.str x)):=λ_=>PE.imp P9 λσ H Q ⟨μ,ρ,h,rs,s,o⟩=>o.val s (show RelD G μ _ H (.str x) (.str x) from rfl)
def aC:M (List Dv):=λ_ h=>.ok [] h
def aB (m:M Dv) (ms:M (List Dv)):M (List Dv):=λρ h=>(m ρ h).bind λd h1=>(ms ρ h1).bind λds h2=>.ok (d::ds) h2
theorem aN:dM X G E [] aC:=λ_=>PA.imp iX λσ H Q ⟨μ,ρ,h,rs,s,o⟩=>o.val s RelDL.nil
theorem aG (ha:aJ X G E a ma) (hr:dM X G E es aS) (hs:au (a::es) X.env=(false,eval a X.env)::au es X.env:=by rfl):dM X G E (a::es) (aB ma aS):=λhK=>PA.imp (hO (ha hK) (hr hK) hs) λσ H Q ⟨μ,ρ,h,rs,s,o⟩=>eI rs s o λμ1 d h1 v H1 x1 rs1 s1 r1 o1=>kD rs1 s1 o1 λμ2 ds h2 vs H2 x2 rs2 s2 r2 o2=>o2.val s2 (RelDL.cons (RelD.mono x2 _ _ r1) r2)
def aL (ms:M (List Dv)):M Dv:=λρ h=>(ms ρ h).bind λds h1=>lim ds.length (.ok (.tup ds) h1)
theorem gM {k} (h:dM X G E es aS):aJ X G E (.Tuple es k pos) (aL aS):=λhK=>PE.imp (G1 (h hK)) λσ H Q ⟨μ,ρ,h,rs,s,o⟩=>kD rs s o λμ1 ds h1 vs H1 x1 rs1 s1 r1 o1=>by
 unfold lim at o1
 split at o1
 ·rename_i hl;refine⟨by rw[r1.length];exact tE hl,λp hp=>?_⟩;exact o1 μ1 _ _ (Ext.same (cI hp)) (s1.same (cI hp)) ⟨p,vs,rfl,cK,RelDL.mono (Ext.same (cI hp)) _ _ r1⟩
 ·exact o1.elim
def aR (ms:M (List Dv)):M Dv:=λρ h=>(ms ρ h).bind λds h1=>lim ds.length (.ok (.ref h1.length) (h1++[.lst ds]))
theorem pG {μ:Nat->ai}{h:Hs}{H:Hp}{ds:List Dv}{vs:List V}{Q:VK}{p:ai}(s:Sim G μ h H) (r:RelDL G μ h.length H ds vs) (hp:H p=none) (o:Out G E μ h.length H (.ok (.ref h.length) (h++[.lst ds])) (RelD G) Q):Q (.ref p) (upd H p (.lst vs)):=by obtain⟨x,s'⟩:=s.alloc hp r;exact o _ _ _ x s' ⟨by simp,by show V.ref p=V.ref (if h.length=h.length then p else μ h.length);rw[if_pos rfl]⟩
theorem fU (h:dM X G E es aS):aJ X G E (.List es pos) (aR aS):=λhK=>PE.imp (SA (h hK)) λσ H Q ⟨μ,ρ,h,rs,s,o⟩=>kD rs s o λμ1 ds h1 vs H1 x1 rs1 s1 r1 o1=>by
 unfold lim at o1
 split at o1
 ·rename_i hl;exact⟨by rw[r1.length];exact tE hl,λp hp=>pG s1 r1 hp o1⟩
 ·exact o1.elim
def m2 (f:Dv->Dv->Hs->Rs Dv) (ma mb:M Dv):M Dv:=λρ h=>(ma ρ h).bind λx h1=>(mb ρ h1).bind λy h2=>f x y h2
def fV (G:Cfg) (r:R2) (f:Dv->Dv->Hs->Rs Dv):Prop:=∀(E:XK) (μ:Nat->ai) (h:Hs) (H:Hp) (x y:Dv) (vx vy:V) (Q:VK),Sim G μ h H->RelD G μ h.length H x vx->RelD G μ h.length H y vy->Out G E μ h.length H (f x y h) (RelD G) Q->r vx vy H Q
theorem tF {r:R2}{f:Dv->Dv->Hs->Rs Dv}(hd:fV G r f) {σ:St}{H:Hp}{Q:VK}(t:hV G E (m2 f ma mb) σ H Q):sP r (hV G E ma) (hV G E mb) σ H Q:=by obtain⟨μ,ρ,h,rs,s,o⟩:=t;exact eI rs s o λμ1 x h1 vx H1 x1 rs1 s1 r1 o1=>eI rs1 s1 o1 λμ2 y h2 vy H2 x2 rs2 s2 r2 o2=>hd E μ2 h2 H2 x y vx vy Q s2 (RelD.mono x2 _ _ r1) r2 o2
theorem qL {op:Operator}{r:R2}{f:Dv->Dv->Hs->Rs Dv}(ho:OpR X (binaryOp op) r) (hd:fV G r f) (ha:aJ X G E a ma) (hb:aJ X G E b mb):aJ X G E (.BinOp a op b pos) (m2 f ma mb):=λhK=>PE.imp (RN ho (ha hK) (hb hK)) λ_ _ _ t=>tF hd t
theorem qM {op:CmpOp}{r:R2}{f:Dv->Dv->Hs->Rs Dv}(ho:OpR X (compareOp op) r) (hd:fV G r f) (ha:aJ X G E a ma) (hb:aJ X G E b mb) (hm:behindInMarks op b=false):aJ X G E (.Compare a [op] [b] pos) (m2 f ma mb):=λhK=>PE.imp (RW ho (ha hK) (hb hK) hm) λ_ _ _ t=>tF hd t
def dI:Dv->Hs->Rs Bool
 | .bl b,h=>.ok b h
 |_,_=>.bad
def mB (m:M Dv):M Bool:=λρ h=>(m ρ h).bind dI
theorem UL {m:M Dv}{σ:St}{H:Hp}{Q:Bool->Hp->Prop}(t:iD G E (mB m) σ H Q):hV G E m σ H λx H'=>∃k,x=.bl k/\Q k H':=by
 obtain⟨μ,ρ,h,rs,s,o⟩:=t;refine eI rs s o λμ1 x h1 vx H1 x1 rs1 s1 r1 o1=>?_
 cases x with
 |bl k=>exact⟨k,r1,o1.val s1 rfl⟩
 |_=>exact o1.elim
theorem qN {op:CmpOp}{r:R2}{f:Dv->Dv->Hs->Rs Dv}(ho:OpR X (compareOp op) r) (hd:fV G r f) (ha:aJ X G E a ma) (hb:aJ X G E b mb) (hm:behindInMarks op b=false):gL X G E (.Compare a [op] [b] pos) (mB (m2 f ma mb)):=λhK=>PT.imp (RY ho (ha hK) (hb hK) hm) λσ H Q t=>tF hd (UL t)
def qO (f f':Dv->Dv->Hs->Rs Dv) (ma mb mc:M Dv):M Dv:=λρ h=>(ma ρ h).bind λx h1=>(mb ρ h1).bind λy h2=>(f x y h2).bind λz h3=>match z with
 | .bl true=>(mc ρ h3).bind λw h4=>f' y w h4
 | .bl false=>.ok (.bl false) h3
 |_=>.bad
theorem UM {r r':R2}{f f':Dv->Dv->Hs->Rs Dv}(hd:fV G r f) (hd':fV G r' f') {σ:St}{H:Hp}{Q:VK}(t:hV G E (qO f f' ma mb mc) σ H Q):GV r r' (hV G E ma) (hV G E mb) (hV G E mc) σ H Q:=by
 obtain⟨μ,ρ,h,rs,s,o⟩:=t;refine eI rs s o λμ1 x h1 vx H1 x1 rs1 s1 r1 o1=>eI rs1 s1 o1 λμ2 y h2 vy H2 x2 rs2 s2 r2 o2=>?_;refine hd E μ2 h2 H2 x y vx vy _ s2 (RelD.mono x2 _ _ r1) r2 ((o2.bind (R1:=RelD G)).mono λvz H3 ⟨μ3,z,h3,x3,s3,r3,o3⟩=>?_)
 cases z with
 |bl k=>
  refine⟨k,r3, ?_⟩
  cases k with
  |true=>exact HQ (eI (rs2.mono x3) s3 o3 λμ4 w h4 vw H4 x4 pD s4 r4 o4=>hd' E μ4 h4 H4 y w vy vw Q s4 (RelD.mono (x3.trans x4) _ _ r2) r4 o4)
  |false=>exact HP (o3.val s3 rfl)
 |_=>exact o3.elim
theorem UN {op op':CmpOp}{r r':R2}{f f':Dv->Dv->Hs->Rs Dv}(ho:OpR X (compareOp op) r) (ho':OpR X (compareOp op') r') (hd:fV G r f) (hd':fV G r' f') (ha:aJ X G E a ma) (hb:aJ X G E b mb) (hc:aJ X G E c mc)
  (hm:lastMarks [op,op'] [b,c]=false:=by with_unfolding_all rfl):aJ X G E (.Compare a [op,op'] [b,c] pos) (qO f f' ma mb mc):=λhK=>
 PE.imp (RZ ho ho' (ha hK) (hb hK) (hc hK) hm) λ_ _ _ t=>UM hd hd' t
def kE (G:Cfg) (r:V->Hp->VK->Prop) (f:Dv->Hs->Rs Dv):Prop:=∀(E:XK) (μ:Nat->ai) (h:Hs) (H:Hp) (x:Dv) (vx:V) (Q:VK),Sim G μ h H->RelD G μ h.length H x vx->Out G E μ h.length H (f x h) (RelD G) Q->r vx H Q
def m1 (f:Dv->Hs->Rs Dv) (ma:M Dv):M Dv:=λρ h=>(ma ρ h).bind f
theorem UO {op:UnaryOp}{r:V->Hp->VK->Prop}{f:Dv->Hs->Rs Dv}(ho:vP X (unaryOp op) r) (hd:kE G r f) (ha:aJ X G E a ma):aJ X G E (.UnaryOp op a pos) (m1 f ma):=λhK=>PE.imp (RO ho (ha hK)) λσ H Q ⟨μ,ρ,h,rs,s,o⟩=>eI rs s o λμ1 x h1 vx H1 x1 rs1 s1 r1 o1=>hd E μ1 h1 H1 x vx Q s1 r1 o1
variable{tA tB':M Bool}{rest:List bq}
def jA (t u:M Bool):M Bool:=λρ h=>(t ρ h).bind λc h1=>if c=true then u ρ h1 else .ok false h1
def dQ (t u:M Bool):M Bool:=λρ h=>(t ρ h).bind λc h1=>if c=true then .ok true h1 else u ρ h1
def cB (t:M Bool):M Bool:=λρ h=>(t ρ h).bind λc h1=>.ok (!c) h1
def SndW (X:Cx) (G:Cfg) (E:XK) (pe:bq) (m:M Bool):Prop:=X.K=G.K->PW X pe (iD G E m)
theorem SndW.t {pe:bq}{m:M Bool}(h:SndW X G E pe m):gL X G E pe m:=λhK=>(h hK).pt
theorem PW.imp {e:bq}{t t':TT}(h:PW X e t) (i:∀σ H Q,t' σ H Q->t σ H Q):PW X e t':=λwh pins s σ H Q I q=>h wh pins s σ H Q I (i σ H Q q)
theorem IC (ha:gL X G E a tA):SndW X G E (.BoolOp .And [a] pos) tA:=λhK=>QB (ha hK)
theorem pH (ha:gL X G E a tA):SndW X G E (.BoolOp .Or [a] pos) tA:=λhK=>QC (ha hK)
theorem UP {σ:St}{H:Hp}{Q:Bool->Hp->Prop}(t:iD G E (jA tA tB') σ H Q):GG (iD G E tA) (iD G E tB') σ H Q:=by
 obtain⟨μ,ρ,h,rs,s,o⟩:=t;refine A8 rs s o λμ1 k h1 H1 x1 rs1 s1 o1=>?_
 cases k with
 |true=>rw[if_pos rfl]at o1 ⊢;exact⟨μ1,ρ,h1,rs1,s1,o1⟩
 |false=>rw[if_neg (by decide)]at o1 ⊢;exact o1.val s1 rfl
theorem UQ {σ:St}{H:Hp}{Q:Bool->Hp->Prop}(t:iD G E (dQ tA tB') σ H Q):GH (iD G E tA) (iD G E tB') σ H Q:=by
 obtain⟨μ,ρ,h,rs,s,o⟩:=t;refine A8 rs s o λμ1 k h1 H1 x1 rs1 s1 o1=>?_
 cases k with
 |false=>rw[if_neg (by decide)]at o1 ⊢;exact⟨μ1,ρ,h1,rs1,s1,o1⟩
 |true=>rw[if_pos rfl]at o1 ⊢;exact o1.val s1 rfl
theorem ID (ha:gL X G E a tA) (hb:SndW X G E (.BoolOp .And (b::rest) pos) tB'):SndW X G E (.BoolOp .And (a::b::rest) pos) (jA tA tB'):=λhK=>PW.imp (QD (ha hK) (hb hK)) λ_ _ _ t=>UP t
theorem nX (ha:gL X G E a tA) (hb:SndW X G E (.BoolOp .Or (b::rest) pos) tB'):SndW X G E (.BoolOp .Or (a::b::rest) pos) (dQ tA tB'):=λhK=>PW.imp (QE (ha hK) (hb hK)) λ_ _ _ t=>UQ t
theorem iN (ha:gL X G E a tA):gL X G E (.UnaryOp .Not a pos) (cB tA):=λhK=>PT.imp (QF (ha hK)) λσ H Q ⟨μ,ρ,h,rs,s,o⟩=>A8 rs s o λμ1 k h1 H1 x1 rs1 s1 o1=>o1.val s1 rfl
def cZ (m u:M Dv):M Dv:=λρ h=>(m ρ h).bind λd h1=>match d with
 | .bl true=>u ρ h1
 | .bl false=>.ok (.bl false) h1
 |_=>.bad
def nY:Dv->Hs->Rs Dv
 | .bl b,h=>.ok (.bl (!b)) h
 |_,_=>.bad
theorem nZ {op} {m:M Dv}(h:aJ X G E a m):aJ X G E (.BoolOp op [a] pos) m:=λhK=>QI (h hK)
theorem mM (ha:aJ X G E a ma) (hb:aJ X G E (.BoolOp .And (b::rest) pos) mb):aJ X G E (.BoolOp .And (a::b::rest) pos) (cZ ma mb):=λhK=>PE.imp (QJ (ha hK) (hb hK)) λσ H Q ⟨μ,ρ,h,rs,s,o⟩=>
 eI rs s o λμ1 x h1 vx H1 x1 rs1 s1 r1 o1=>by
  cases x with
  |bl k=>
   refine⟨k,r1, ?_⟩
   cases k with
   |true=>exact HQ ⟨μ1,ρ,h1,rs1,s1,o1⟩
   |false=>exact HP (o1.val s1 rfl)
  |_=>exact o1.elim
theorem A9 (ha:aJ X G E a ma):aJ X G E (.UnaryOp .Not a pos) (m1 nY ma):=λhK=>PE.imp (QK (ha hK)) λσ H Q ⟨μ,ρ,h,rs,s,o⟩=>
 eI rs s o λμ1 x h1 vx H1 x1 rs1 s1 r1 o1=>by
  cases x with
  |bl k=>exact⟨k,r1,o1.val s1 rfl⟩
  |_=>exact o1.elim
def eJ:Dv->Hs->Rs Bool
 | .non,h=>.ok false h
 | .bl b,h=>.ok b h
 | .int i,h=>.ok (i != 0) h
 | .tup xs,h=>.ok (!xs.isEmpty) h
 | .ref i,h=>match getL h i with
  |some xs=>.ok (!xs.isEmpty) h
  |none=>.bad
 |_,_=>.bad
def bC (m:M Dv):M Bool:=λρ h=>(m ρ h).bind eJ
theorem IE {μ:Nat->ai}{n:Nat}{H:Hp}{ds:List Dv}{vs:List V}(r:RelDL G μ n H ds vs):vs.isEmpty=ds.isEmpty:=by
 have:=r.length
 cases ds <;> cases vs <;> simp_all
theorem fW (ha:aJ X G E a ma) (he:∀whole,isTrue a X.env whole=(do let v <-whole;standAt a.pos;holding [v] (truthy v)):=by intro _;rfl):gL X G E a (bC ma):=λhK=>PT.imp (R4 (ha hK) he) λσ H Q ⟨μ,ρ,h,rs,s,o⟩=>
 eI rs s o λμ1 x h1 vx H1 x1 rs1 s1 r1 o1=>by
  cases x with
  |non=>rw[RelD]at r1;subst r1;exact⟨_,rfl,o1.val s1 rfl⟩
  |bl k=>rw[RelD]at r1;subst r1;exact⟨_,rfl,o1.val s1 rfl⟩
  |int i=>rw[RelD]at r1;subst r1;exact⟨_,rfl,o1.val s1 rfl⟩
  |tup ds=>obtain⟨p,vs,rfl,e,r⟩:=r1;exact⟨_,.inr (.inl ⟨vs,SqT.of e,rfl⟩),by rw[IE r];exact o1.val s1 rfl⟩
  |ref i=>
   obtain⟨hi,rfl⟩:=r1;dsimp only[eJ]at o1
   cases q:getL h1 i with
   |none=>rw[q]at o1;exact o1.elim
   |some xs=>obtain⟨vs,e,r⟩:=s1.ob i _ (cY q);rw[q]at o1;exact⟨_,.inl ⟨vs,SqL.of e,rfl⟩,by rw[IE r];exact o1.val s1 rfl⟩
  |_=>exact o1.elim
end
end L2.Mr
namespace L2
open PySem PySem.Spec PyProof.Rows
section
variable{Pg:bh}{w:cn}{P:ai->Prop}{H:Hp}{s:ag}
theorem UR (hok:HOk Pg w H s.heap) (n:Nat) (A:cf) (d d':Dt) (v v':V) (u u':af) (hn:fP d<=n) (hu:A.units+n+1<cLine) (n1:nod d=true) (n2:nod d'=true) (h:Den P H d v) (h':Den P H d' v') (r:RelV v u) (r':RelV v' u'):
  SeqAt.RcNeAt A s u u' (!bI d d'):=by
 have hu':A.units<cLine:=by omega
 have hin:∀{vs vs':List V}{ds ds':List Dt}{its its':List af},kW ds+1<=n->iZ ds=true->iZ ds'=true->DenL P H ds vs->DenL P H ds' vs'->Vals vs its->Vals vs' its'->
   ∀j (h1:j<its.toArray.size) (h2:j<its'.toArray.size),vv A.in1 s its.toArray[j] its'.toArray[j] (bI (ds.getD j .non) (ds'.getD j .non)):=by
  intro vs vs' ds ds' its its' hd m1 m2 g g' q q' j h1 h2;obtain⟨x,ex,rx⟩:=vY q h1;obtain⟨x',ex',rx'⟩:=vY q' h2;obtain⟨dx,edx,gx⟩:=g.get ex;obtain⟨dx',edx',gx'⟩:=g'.get ex';have e1:ds.getD j .non=dx:=by simp[ow,edx]
  have e2:ds'.getD j .non=dx':=by simp[ow,edx']
  rw[e1,e2];have hm:=bx edx;have hdm:=A4 hm;exact(A5 hok (n - 1) A.in1 dx dx' x x' _ _ (by omega) (by show A.units+1+(n - 1)+1<cLine;omega) (sY m1 hm) (sY m2 (bx edx')) gx gx' rx rx').2
 cases d with
 |non=>
  rw[Den]at h;subst h;cases r
  cases d' with
  |non=>rw[Den]at h';subst h';cases r';exact SeqAt.RcNeAt.none_none
  |bl b'=>rw[Den]at h';subst h';cases r';exact SeqAt.RcNeAt.none_bool  _
  |int i'=>rw[Den]at h';subst h';obtain⟨t2,rfl⟩:=r';exact SeqAt.RcNeAt.none_int  _ _
  |str x'=>rw[Den]at h';subst h';obtain⟨t2,rfl⟩:=r';exact SeqAt.RcNeAt.none_str  _ _
  |tup ds'=>rw[Den]at h';obtain⟨a2,vs2,rfl,e2,g2⟩:=h';cases r';obtain⟨its2,q2,tp2⟩:=gJ hok e2;exact SeqAt.RcNeAt.none_tuple  tp2 hu'
  |lst ds'=>rw[Den]at h';obtain⟨a2,vs2,rfl,_,e2,g2⟩:=h';cases r';obtain⟨its2,q2,tp2⟩:=gK hok e2;exact SeqAt.RcNeAt.none_list  tp2 hu'
  |dct=>simp[nod]at n2
 |bl b=>
  rw[Den]at h;subst h;cases r
  cases d' with
  |non=>rw[Den]at h';subst h';cases r';exact SeqAt.RcNeAt.bool_none _
  |bl b'=>rw[Den]at h';subst h';cases r';exact SeqAt.RcNeAt.bool_bool _ _
  |int i'=>rw[Den]at h';subst h';obtain⟨t2,rfl⟩:=r';exact SeqAt.RcNeAt.bool_int _ _ _
  |str x'=>rw[Den]at h';subst h';obtain⟨t2,rfl⟩:=r';exact SeqAt.RcNeAt.bool_str _ _ _
  |tup ds'=>rw[Den]at h';obtain⟨a2,vs2,rfl,e2,g2⟩:=h';cases r';obtain⟨its2,q2,tp2⟩:=gJ hok e2;exact SeqAt.RcNeAt.bool_tuple _ tp2 hu'
  |lst ds'=>rw[Den]at h';obtain⟨a2,vs2,rfl,_,e2,g2⟩:=h';cases r';obtain⟨its2,q2,tp2⟩:=gK hok e2;exact SeqAt.RcNeAt.bool_list _ tp2 hu'
  |dct=>simp[nod]at n2
 |int i=>
  rw[Den]at h;subst h;obtain⟨t1,rfl⟩:=r
  cases d' with
  |non=>rw[Den]at h';subst h';cases r';exact SeqAt.RcNeAt.int_none _ _
  |bl b'=>rw[Den]at h';subst h';cases r';exact SeqAt.RcNeAt.int_bool _ _ _
  |int i'=>rw[Den]at h';subst h';obtain⟨t2,rfl⟩:=r';exact SeqAt.RcNeAt.int_int _ _ _ _
  |str x'=>rw[Den]at h';subst h';obtain⟨t2,rfl⟩:=r';exact SeqAt.RcNeAt.int_str _ _ _ _
  |tup ds'=>rw[Den]at h';obtain⟨a2,vs2,rfl,e2,g2⟩:=h';cases r';obtain⟨its2,q2,tp2⟩:=gJ hok e2;exact SeqAt.RcNeAt.int_tuple _ _ tp2 hu'
  |lst ds'=>rw[Den]at h';obtain⟨a2,vs2,rfl,_,e2,g2⟩:=h';cases r';obtain⟨its2,q2,tp2⟩:=gK hok e2;exact SeqAt.RcNeAt.int_list _ _ tp2 hu'
  |dct=>simp[nod]at n2
 |str x=>
  rw[Den]at h;subst h;obtain⟨t1,rfl⟩:=r
  cases d' with
  |non=>rw[Den]at h';subst h';cases r';exact SeqAt.RcNeAt.str_none _ _
  |bl b'=>rw[Den]at h';subst h';cases r';exact SeqAt.RcNeAt.str_bool _ _ _
  |int i'=>rw[Den]at h';subst h';obtain⟨t2,rfl⟩:=r';exact SeqAt.RcNeAt.str_int _ _ _ _
  |str x'=>rw[Den]at h';subst h';obtain⟨t2,rfl⟩:=r';exact SeqAt.RcNeAt.str_str _ _ _ _
  |tup ds'=>rw[Den]at h';obtain⟨a2,vs2,rfl,e2,g2⟩:=h';cases r';obtain⟨its2,q2,tp2⟩:=gJ hok e2;exact SeqAt.RcNeAt.str_tuple _ _ tp2 hu'
  |lst ds'=>rw[Den]at h';obtain⟨a2,vs2,rfl,_,e2,g2⟩:=h';cases r';obtain⟨its2,q2,tp2⟩:=gK hok e2;exact SeqAt.RcNeAt.str_list _ _ tp2 hu'
  |dct=>simp[nod]at n2
 |tup ds=>
  rw[Den]at h;obtain⟨a1,vs1,rfl,e1,g1⟩:=h;cases r;obtain⟨its1,q1,tp1⟩:=gJ hok e1
  cases d' with
  |non=>rw[Den]at h';subst h';cases r';exact SeqAt.RcNeAt.tuple_none  tp1 hu'
  |bl b'=>rw[Den]at h';subst h';cases r';exact SeqAt.RcNeAt.tuple_bool _ tp1 hu'
  |int i'=>rw[Den]at h';subst h';obtain⟨t2,rfl⟩:=r';exact SeqAt.RcNeAt.tuple_int _ _ tp1 hu'
  |str x'=>rw[Den]at h';subst h';obtain⟨t2,rfl⟩:=r';exact SeqAt.RcNeAt.tuple_str _ _ tp1 hu'
  |tup ds'=>
   rw[Den]at h';obtain⟨a2,vs2,rfl,e2,g2⟩:=h';cases r';obtain⟨its2,q2,tp2⟩:=gJ hok e2;rw[nod]at n1 n2;rw[fP]at hn;have hl1:=g1.length;have hl2:=g2.length;have hq1:=q1.length;have hq2:=q2.length;rw[bI];have z:=SeqAt.RcNeAt.tuples (e:=λj=>bI (ds.getD j .non) (ds'.getD j .non)) tp1 tp2 hu' (hin hn n1 n2 g1 g2 q1 q2);have s1:its1.toArray.size=ds.length:=by simp;omega
   have s2:its2.toArray.size=ds'.length:=by simp;omega
   rw[s1,s2]at z
   by_cases hlen:ds.length=ds'.length
   ·rw[sZ hlen];rw[<-hlen,Ci]at z;simpa using z
   ·rw[tD hlen];rw[show(ds.length==ds'.length)=false from beq_eq_false_iff_ne.mpr hlen,qv]at z;exact z
  |lst ds'=>rw[Den]at h';obtain⟨a2,vs2,rfl,_,e2,g2⟩:=h';cases r';obtain⟨its2,q2,tp2⟩:=gK hok e2;exact SeqAt.RcNeAt.tuple_list tp1 tp2 hu'
  |dct=>simp[nod]at n2
 |lst ds=>
  rw[Den]at h;obtain⟨a1,vs1,rfl,_,e1,g1⟩:=h;cases r;obtain⟨its1,q1,tp1⟩:=gK hok e1
  cases d' with
  |non=>rw[Den]at h';subst h';cases r';exact SeqAt.RcNeAt.list_none  tp1 hu'
  |bl b'=>rw[Den]at h';subst h';cases r';exact SeqAt.RcNeAt.list_bool _ tp1 hu'
  |int i'=>rw[Den]at h';subst h';obtain⟨t2,rfl⟩:=r';exact SeqAt.RcNeAt.list_int _ _ tp1 hu'
  |str x'=>rw[Den]at h';subst h';obtain⟨t2,rfl⟩:=r';exact SeqAt.RcNeAt.list_str _ _ tp1 hu'
  |tup ds'=>rw[Den]at h';obtain⟨a2,vs2,rfl,e2,g2⟩:=h';cases r';obtain⟨its2,q2,tp2⟩:=gJ hok e2;exact SeqAt.RcNeAt.list_tuple tp1 tp2 hu'
  |lst ds'=>
   rw[Den]at h';obtain⟨a2,vs2,rfl,_,e2,g2⟩:=h';cases r';obtain⟨its2,q2,tp2⟩:=gK hok e2;rw[nod]at n1 n2;rw[fP]at hn;have hl1:=g1.length;have hl2:=g2.length;have hq1:=q1.length;have hq2:=q2.length;rw[bI]
   by_cases hlen:ds.length=ds'.length
   ·have z:=SeqAt.RcNeAt.lists (e:=λj=>bI (ds.getD j .non) (ds'.getD j .non)) tp1 tp2 (by simp;omega) hu' (hin hn n1 n2 g1 g2 q1 q2);rw[sZ hlen];simpa[hq1.symm,hl1]using z
   ·rw[tD hlen];exact SeqAt.RcNeAt.lists_lengths tp1 tp2 (by simp;omega) hu'
  |dct=>simp[nod]at n2
 |dct=>simp[nod]at n1
end
end L2
namespace L2.Mr
open PySem PySem.Spec PyProof.Rows
def bJ {α β:Type}(f:α->Option β):List α->Option (List β)
 | []=>some []
 |x::xs=>match f x with
  |none=>none
  |some y=>match bJ f xs with
   |none=>none
   |some ys=>some (y::ys)
def bF:Nat->Hs->Dv->Option Dt
 |0,_,_=>none
 |k+1,h,d=>match d with
  | .non=>some .non
  | .bl b=>some (.bl b)
  | .int i=>some (.int i)
  | .str x=>some (.str x)
  | .tup xs=>match bJ (bF k h) xs with
   |some ts=>some (.tup ts)
   |none=>none
  | .ref i=>match getL h i with
   |some xs=>match bJ (bF k h) xs with
    |some ts=>some (.lst ts)
    |none=>none
   |none=>none
  |_=>none
abbrev jT:ai->Prop:=λ_=>True
section
variable{G:Cfg}{μ:Nat->ai}{h:Hs}{H:Hp}
theorem qP (s:Sim G μ h H):∀(k:Nat) (d:Dv) (v:V) (t:Dt),RelD G μ h.length H d v->bF k h d=some t->Den jT H t v/\fP t<=k/\nod t=true:=by
 intro k
 induction k with
 |zero=>intro d v t _ e;cases e
 |succ k ih=>
  have il:∀(xs:List Dv) (vs:List V) (ts:List Dt),RelDL G μ h.length H xs vs->bJ (bF k h) xs=some ts->DenL jT H ts vs/\kW ts<=k/\iZ ts=true:=by
   intro xs
   induction xs with
   |nil=>intro vs ts r e;cases e;rw[RelDL]at r;subst r;exact⟨DenL.nil,by simp[kW],rfl⟩
   |cons x xs ihx=>
    intro vs ts r e;rw[RelDL]at r;obtain⟨v,rr,rfl,r1,r2⟩:=r;unfold bJ at e
    cases q:bF k h x with
    |none=>rw[q]at e;cases e
    |some y=>
     rw[q]at e;dsimp only at e
     cases q2:bJ (bF k h) xs with
     |none=>rw[q2]at e;cases e
     |some ys=>rw[q2]at e;cases e;obtain⟨a1,a2,a3⟩:=ih x v y r1 q;obtain⟨b1,b2,b3⟩:=ihx rr ys r2 q2;exact⟨DenL.cons a1 b1,by rw[kW];omega,by rw[iZ,a3,b3];rfl⟩
  intro d v t r e;unfold bF at e
  cases d with
  |non=>cases e;rw[RelD]at r;subst r;exact⟨by rw[Den],by simp[fP],rfl⟩
  |bl b=>cases e;rw[RelD]at r;subst r;exact⟨by rw[Den],by simp[fP],rfl⟩
  |int b=>cases e;rw[RelD]at r;subst r;exact⟨by rw[Den],by simp[fP],rfl⟩
  |str b=>cases e;rw[RelD]at r;subst r;exact⟨by rw[Den],by simp[fP],rfl⟩
  |tup xs=>
   dsimp only at e
   cases q:bJ (bF k h) xs with
   |none=>rw[q]at e;cases e
   |some ts=>rw[q]at e;cases e;obtain⟨a,vs,rfl,e1,r1⟩:=r;obtain⟨b1,b2,b3⟩:=il xs vs ts r1 q;exact⟨by rw[Den];exact⟨a,vs,rfl,e1,b1⟩,by rw[fP];omega,by rw[nod];exact b3⟩
  |ref i=>
   dsimp only at e
   cases g:getL h i with
   |none=>rw[g]at e;cases e
   |some xs=>
    rw[g]at e;dsimp only at e
    cases q:bJ (bF k h) xs with
    |none=>rw[q]at e;cases e
    |some ts=>rw[q]at e;cases e;obtain⟨hi,rfl⟩:=r;obtain⟨vs,e1,r1⟩:=s.ob i _ (cY g);obtain⟨b1,b2,b3⟩:=il xs vs ts r1 q;exact⟨by rw[Den];exact⟨_,vs,rfl,trivial,e1,b1⟩,by rw[fP];omega,by rw[nod];exact b3⟩
  |edc=>cases e
  |exc c=>cases e
  |scr=>cases e
end
def bW:Nat:=30
def bL (x y:Dv) (h:Hs):Rs Dv:=match bF bW h x,bF bW h y with
 |some s,some t=>.ok (.bl (bI s t)) h
 |_,_=>.bad
def bQ (x y:Dv) (h:Hs):Rs Dv:=match bF bW h x,bF bW h y with
 |some s,some t=>.ok (.bl (!bI s t)) h
 |_,_=>.bad
def wD (neg:Bool):R2:=λx y H Q=>∃t t',Den jT H t x/\Den jT H t' y/\fP t<=bW/\nod t=true/\nod t'=true/\Q (.bl (if neg then !bI t t' else bI t t')) H
section
variable{X:Cx}{G:Cfg}
theorem IF (hu:X.A.units+64<cLine):OpR X (compareOp .Eq) (wD false):=by intro pins s σ H x y v u Q I r1 r2 ⟨t,t',d,d',hd,n1,n2,q⟩;exact EqBoolInt.of_rc (A5 I.hok bW X.A t t' x y v u hd (by unfold bW;omega) n1 n2 d d' r1 r2).1 ⟨.bl _,H,I,rfl,q⟩
theorem IG (hu:X.A.units+64<cLine):OpR X (compareOp .NotEq) (wD true):=by intro pins s σ H x y v u Q I r1 r2 ⟨t,t',d,d',hd,n1,n2,q⟩;exact EqBoolInt.of_rcne (UR I.hok bW X.A t t' x y v u hd (by unfold bW;omega) n1 n2 d d' r1 r2) ⟨.bl _,H,I,rfl,q⟩
theorem IH:fV G (wD false) bL:=by
 intro E μ h H x y vx vy Q s rx ry o;unfold bL at o
 split at o
 ·rename_i t t' e e';obtain⟨a1,a2,a3⟩:=qP s _ x vx t rx e;obtain⟨b1,b2,b3⟩:=qP s _ y vy t' ry e';exact⟨t,t',a1,b1,a2,a3,b3,o.val s rfl⟩
 ·exact o.elim
theorem II:fV G (wD true) bQ:=by
 intro E μ h H x y vx vy Q s rx ry o;unfold bQ at o
 split at o
 ·rename_i t t' e e';obtain⟨a1,a2,a3⟩:=qP s _ x vx t rx e;obtain⟨b1,b2,b3⟩:=qP s _ y vy t' ry e';exact⟨t,t',a1,b1,a2,a3,b3,o.val s rfl⟩
 ·exact o.elim
end
def iE (g:Int->Int->Dv):Dv->Dv->Hs->Rs Dv
 | .int i,.int j,h=>.ok (g i j) h
 |_,_,_=>.bad
def kX (C:Int->Int->Bool) (g:Int->Int->Dv):Dv->Dv->Hs->Rs Dv
 | .int i,.int j,h=>if C i j=true then .ok (g i j) h else .bad
 |_,_,_=>.bad
section
variable{X:Cx}{G:Cfg}
theorem US {f:Int->Int->Int}:fV G (jS λi j=>.int (f i j)) (iE λi j=>.int (f i j)):=by
 intro E μ h H x y vx vy Q s rx ry o
 cases x with
 |int i=>
  cases y with
  |int j=>exact⟨i,j,rx,ry,o.val s rfl⟩
  |_=>exact o.elim
 |_=>exact o.elim
theorem qQ {f:Int->Int->Bool}:fV G (jS λi j=>.bl (f i j)) (iE λi j=>.bl (f i j)):=by
 intro E μ h H x y vx vy Q s rx ry o
 cases x with
 |int i=>
  cases y with
  |int j=>exact⟨i,j,rx,ry,o.val s rfl⟩
  |_=>exact o.elim
 |_=>exact o.elim
theorem wF {C:Int->Int->Prop}{B:Int->Int->Bool}{f:Int->Int->Int}(hB:∀i j,B i j=true->C i j):fV G (rI C λi j=>.int (f i j)) (kX B λi j=>.int (f i j)):=by
 intro E μ h H x y vx vy Q s rx ry o
 cases x with
 |int i=>
  cases y with
  |int j=>
   dsimp only[kX]at o
   split at o
   ·rename_i hb;exact⟨i,j,rx,ry,hB i j hb,o.val s rfl⟩
   ·exact o.elim
  |_=>exact o.elim
 |_=>exact o.elim
def kY (i:Int):Bool:=decide (-18446744073709551616<i)&&decide (i<18446744073709551616)
def wG (i j:Int):Bool:=kY i||kY j
theorem UT (i j:Int) (h:wG i j=true):CMul i j:=by
 unfold wG kY at h;unfold CMul;simp only[Bool.or_eq_true,cw,decide_eq_true_eq]at h
 rcases h with h|h
 ·exact .inl ⟨by omega,by omega⟩
 ·exact .inr ⟨by omega,by omega⟩
def qR (_ j:Int):Bool:=decide (0<j)
theorem UU (i j:Int) (h:qR i j=true):0<j:=by unfold qR at h;simpa using h
def tG (i j:Int):Bool:=decide (0<=j)&&decide (j<=1000000)&&decide (i.natAbs<18446744073709551616)
theorem UW (i j:Int) (h:tG i j=true):AK i j:=by unfold tG at h;unfold AK;simp only[cw,decide_eq_true_eq]at h;exact⟨h.1.1,h.1.2,by have:=h.2;omega⟩
def kZ:Dv->Dv->Hs->Rs Dv
 | .int i,.int j,h=>.ok (.int (i+j)) h
 | .ref i,.ref j,h=>match getL h i,getL h j with
  |some xs,some ys=>lim (xs.length+ys.length) (.ok (.ref h.length) (h++[.lst (xs++ys)]))
  |_,_=>.bad
 | .tup xs,.tup ys,h=>if xs.isEmpty=true then .bad else lim (xs.length+ys.length) (.ok (.tup (xs++ys)) h)
 |_,_,_=>.bad
def BA (K:aq):R2:=λx y H Q=>(jS λi j=>.int (i+j)) x y H Q∨HM x y H Q∨HE K x y H Q
theorem UX:OpR X (binaryOp .Add) (BA X.K):=op_add.or (op_cat.or S7)
theorem UY:fV G (BA G.K) kZ:=by
 intro E μ h H x y vx vy Q s rx ry o
 cases x with
 |int i=>
  cases y with
  |int j=>exact .inl ⟨i,j,rx,ry,o.val s rfl⟩
  |_=>exact o.elim
 |ref i=>
  cases y with
  |ref j=>
   dsimp only[kZ]at o
   cases g1:getL h i with
   |none=>rw[g1]at o;exact o.elim
   |some xs=>
    cases g2:getL h j with
    |none=>rw[g1,g2]at o;exact o.elim
    |some ys=>
     rw[g1,g2]at o;dsimp only at o;unfold lim at o
     split at o
     ·rename_i hl;obtain⟨vs,e1,r1⟩:=s.ob i _ (cY g1);obtain⟨ws,e2,r2⟩:=s.ob j _ (cY g2);obtain⟨_,rfl⟩:=rx;obtain⟨_,rfl⟩:=ry;exact .inr (.inl ⟨_,_,vs,ws,rfl,rfl,e1,e2,by rw[r1.length,r2.length];exact tE hl,λp hp=>pG s (r1.append r2) hp o⟩)
     ·exact o.elim
  |_=>exact o.elim
 |tup xs=>
  cases y with
  |tup ys=>
   dsimp only[kZ]at o
   split at o
   ·exact o.elim
   ·rename_i hne;unfold lim at o
    split at o
    ·rename_i hl;obtain⟨a,vs,rfl,e1,r1⟩:=rx;obtain⟨b,ws,rfl,e2,r2⟩:=ry;refine .inr (.inr ⟨a,b,vs,ws,rfl,rfl,SqT.of e1,SqT.of e2, ?_,by rw[r1.length,r2.length];exact tE hl,λz=>?_,λ_ p hp=>?_⟩)
     ·intro z;subst z;have:=r1.length
      cases xs <;> simp_all
     ·subst z;have e3:ys=[]:=by have:=r2.length;cases ys <;> simp_all
      subst e3;refine o.val s ?_;rw[lj];exact⟨a,vs,rfl,e1,r1⟩
     ·exact o μ _ _ (Ext.same (cI hp)) (s.same (cI hp)) ⟨p,_,rfl,cK,RelDL.mono (Ext.same (cI hp)) _ _ (r1.append r2)⟩
    ·exact o.elim
  |_=>exact o.elim
 |_=>exact o.elim
def jU (xs:List Dv) (i:Int) (h:Hs):Rs Dv:=match gC xs i with
 |some d=>.ok d h
 |none=>.bad
def gD (scr:List Int):Dv->Dv->Hs->Rs Dv
 | .tup xs,.int i,h=>jU xs i h
 | .ref k,.int i,h=>match getL h k with
  |some xs=>jU xs i h
  |none=>.bad
 | .scr,.int i,h=>jU (scr.map Dv.int) i h
 |_,_,_=>.bad
theorem qS {μ:Nat->ai}{n:Nat}{H:Hp}:∀ns:List Int,RelDL G μ n H (ns.map Dv.int) (ns.map V.int)
 | []=>RelDL.nil
 |i::ns=>RelDL.cons rfl (qS ns)
theorem BB {E:XK}{μ:Nat->ai}{h:Hs}{H:Hp}{xs:List Dv}{vs:List V}{i:Int}{Q:VK}(s:Sim G μ h H) (r:RelDL G μ h.length H xs vs) (o:Out G E μ h.length H (jU xs i h) (RelD G) Q):∃v,gC vs i=some v/\Q v H:=by
 unfold jU at o
 cases e:gC xs i with
 |none=>rw[e]at o;exact o.elim
 |some d=>
  rw[e]at o;unfold gC at e ⊢;rw[r.length]
  cases q:dX xs.length i with
  |none=>rw[q]at e;cases e
  |some j=>rw[q]at e;obtain⟨v,e1,r1⟩:=r.get e;exact⟨v,e1,o.val s r1⟩
theorem IJ:fV G (AS G.K) (gD G.scr):=by
 intro E μ h H x y vx vy Q s rx ry o
 cases y with
 |int i=>
  cases x with
  |tup xs=>obtain⟨a,vs,rfl,e1,r1⟩:=rx;obtain⟨v,e2,q⟩:=BB s r1 o;exact .inr (.inl ⟨a,vs,i,v,rfl,ry,SqT.of e1,e2,q⟩)
  |ref k=>
   dsimp only[gD]at o
   cases g:getL h k with
   |none=>rw[g]at o;exact o.elim
   |some xs=>rw[g]at o;obtain⟨vs,e1,r1⟩:=s.ob k _ (cY g);obtain⟨_,rfl⟩:=rx;obtain⟨v,e2,q⟩:=BB s r1 o;exact .inl ⟨_,vs,i,v,rfl,ry,SqL.of e1,e2,q⟩
  |scr=>obtain⟨rfl,hf⟩:=rx;obtain⟨v,e2,q⟩:=BB s (qS G.scr) o;exact .inl ⟨_,_,i,v,rfl,ry,hf.sq,e2,q⟩
  |_=>exact o.elim
 |_=>cases x <;> exact o.elim
theorem UZ {E:XK}{a b:bq}{ma mb:M Dv}{pos:Pos}(ha:aJ X G E a ma) (hb:aJ X G E b mb) (hs:AQ b:=by intro _ _;rfl):aJ X G E (.Subscript a b pos) (m2 (gD G.scr) ma mb):=λhK=>PE.imp (HF (by have:=HJ (X:=X);rw[hK]at this;exact this) (ha hK) (hb hK) hs) λ_ _ _ t=>tF IJ t
theorem VA:dw "abs" = some (.builtin "abs"):=by decide +kernel
theorem BC:dw "tuple" = some (.type "tuple"):=by decide +kernel
theorem wH:dw "list" = some (.type "list"):=by decide +kernel
theorem BD:dw "max" = some (.builtin "max"):=by decide +kernel
theorem VB:dw "min" = some (.builtin "min"):=by decide +kernel
variable{E:XK}{aS:M (List Dv)}{e:bq}{es:List bq}{x:Str}{p pos:Pos}{id T:String}
def pI (G:Cfg) (r:List V->Hp->VK->Prop) (f:List Dv->Hs->Rs Dv):Prop:=∀(E:XK) (μ:Nat->ai) (h:Hs) (H:Hp) (xs:List Dv) (vs:List V) (Q:VK),Sim G μ h H->RelDL G μ h.length H xs vs->Out G E μ h.length H (f xs h) (RelD G) Q->r vs H Q
def aE (f:List Dv->Hs->Rs Dv) (ms:M (List Dv)):M Dv:=λρ h=>(ms ρ h).bind f
theorem IK {r:List V->Hp->VK->Prop}{f:List Dv->Hs->Rs Dv}(hd:pI G r f) {σ:St}{H:Hp}{Q:VK}(t:hV G E (aE f aS) σ H Q):vS r (A7 G E aS) σ H Q:=by obtain⟨μ,ρ,h,rs,s,o⟩:=t;exact kD rs s o λμ1 ds h1 vs H1 x1 rs1 s1 r1 o1=>hd E μ1 h1 H1 ds vs Q s1 r1 o1
theorem pJ {r:List V->Hp->VK->Prop}{f:List Dv->Hs->Rs Dv}(hc:CallR X (.builtin id) r) (hd:pI G r f) (hg:Gl X x) (hm:X.mg x=none) (hv:dw x=some (.builtin id)) (ha:dM X G E (e::es) aS) (hn:x ≠ "__name__" := by decide) (hdb:(x==("__debug__" : Str))=false:=by decide)
  (he:au (e::es) X.env=(false,eval e X.env)::au es X.env:=by rfl) (hpl:(backTo pos (au es X.env)).any (·.1)=false:=by rfl):aJ X G E (.Call (.Name x p) (e::es) [] pos) (aE f aS):=λhK=>
 PE.imp (qJ hc hg hm hv (ha hK) hn hdb he hpl) λ_ _ _ t=>IK hd t
theorem IL {r:List V->Hp->VK->Prop}{f:List Dv->Hs->Rs Dv}(hc:CallR X (.type T) r) (hd:pI G r f) (hg:Gl X x) (hm:X.mg x=none) (hv:dw x=some (.type T)) (ha:dM X G E (e::es) aS) (hn:x ≠ "__name__" := by decide) (hdb:(x==("__debug__" : Str))=false:=by decide)
  (he:au (e::es) X.env=(false,eval e X.env)::au es X.env:=by rfl) (hpl:(backTo pos (au es X.env)).any (·.1)=false:=by rfl):aJ X G E (.Call (.Name x p) (e::es) [] pos) (aE f aS):=λhK=>
 PE.imp (sR hc hg hm hv (ha hK) hn hdb he hpl) λ_ _ _ t=>IK hd t
def fX (scr:List Int):Dv->Hs->Option (List Dv)
 | .tup xs,_=>some xs
 | .ref i,h=>getL h i
 | .scr,_=>some (scr.map Dv.int)
 |_,_=>none
def f1 (g:Dv->Hs->Rs Dv):List Dv->Hs->Rs Dv
 | [d],h=>g d h
 |_,_=>.bad
def iF (scr:List Int) (d:Dv) (h:Hs):Rs Dv:=match fX scr d h with
 |some xs=>.ok (.int xs.length) h
 |none=>.bad
theorem qT {μ:Nat->ai}{n:Nat}{H:Hp}{d:Dv}{vs:List V}(r:RelDL G μ n H [d] vs):∃v,vs=[v]/\RelD G μ n H d v:=by rw[RelDL]at r;obtain⟨v,rr,rfl,h1,h2⟩:=r;rw[RelDL]at h2;subst h2;exact⟨v,rfl,h1⟩
theorem pK {r:V->Hp->VK->Prop}{g:Dv->Hs->Rs Dv}(hg:kE G r g):pI G (λxs H Q=>∃v,xs=[v]/\r v H Q) (f1 g):=by
 intro E μ h H xs vs Q s rr o
 match xs,rr,o with
 | [],_,o=>exact o.elim
 |_::_::_,_,o=>exact o.elim
 | [d],rr,o=>obtain⟨v,rfl,r1⟩:=qT rr;exact⟨v,rfl,hg E μ h H d v Q s r1 o⟩
theorem wI {μ:Nat->ai}{n:Nat}{H:Hp}{d d':Dv}{vs:List V}(r:RelDL G μ n H [d,d'] vs):∃v v',vs=[v,v']/\RelD G μ n H d v/\RelD G μ n H d' v':=by rw[RelDL]at r;obtain⟨v,rr,rfl,h1,h2⟩:=r;obtain⟨v',rfl,h3⟩:=qT h2;exact⟨v,v',rfl,h1,h3⟩
theorem BE {μ:Nat->ai}{h:Hs}{H:Hp}{d:Dv}{v:V}{xs:List Dv}(s:Sim G μ h H) (r:RelD G μ h.length H d v) (e:fX G.scr d h=some xs):∃a vs,v=.ref a/\(SqL G.K H a vs∨SqT G.K H a vs)/\RelDL G μ h.length H xs vs:=by
 cases d with
 |tup ds=>cases e;obtain⟨a,vs,rfl,e1,r1⟩:=r;exact⟨a,vs,rfl,.inr (SqT.of e1),r1⟩
 |ref i=>obtain⟨_,rfl⟩:=r;obtain⟨vs,e1,r1⟩:=s.ob i _ (cY e);exact⟨_,vs,rfl,.inl (SqL.of e1),r1⟩
 |scr=>cases e;obtain⟨rfl,hf⟩:=r;exact⟨_,_,rfl,.inl hf.sq,qS _⟩
 |_=>cases e
def IM (K:aq):V->Hp->VK->Prop:=λx H Q=>∃p ys,x=.ref p/\(SqL K H p ys∨SqT K H p ys)/\Q (.int ys.length) H
theorem IP:kE G (IM G.K) (iF G.scr):=by
 intro E μ h H d v Q s r1 o;unfold iF at o
 cases e:fX G.scr d h with
 |none=>rw[e]at o;exact o.elim
 |some ys=>rw[e]at o;obtain⟨a,ws,rfl,hs,r2⟩:=BE s r1 e;exact⟨a,ws,rfl,hs,by rw[r2.length];exact o.val s rfl⟩
theorem CallR.imp {f:af}{r r':List V->Hp->VK->Prop}(h:CallR X f r) (i:∀xs H Q,r' xs H Q->r xs H Q):CallR X f r':=λpins s σ H xs us Q I rv q=>h pins s σ H xs us Q I rv (i xs H Q q)
theorem IQ (hg:Gl X "len") (hm:X.mg "len" = none) (ha:dM X G E (e::es) aS)
  (he:au (e::es) X.env=(false,eval e X.env)::au es X.env:=by rfl) (hpl:(backTo pos (au es X.env)).any (·.1)=false:=by rfl):aJ X G E (.Call (.Name "len" p) (e::es) [] pos) (aE (f1 (iF G.scr)) aS):=λhK=>
 pJ (CallR.imp (HK (X:=X)) λxs H Q ⟨v,h1,a,ys,h2,h3,h4⟩=>⟨a,ys,by rw[h1,h2],by rw[hK];exact h3,h4⟩) (pK IP) hg hm yr ha (by decide) (by decide) he hpl hK
def kF:Dv->Hs->Rs Dv
 | .int i,h=>.ok (.int (if i<0 then -i else i)) h
 |_,_=>.bad
theorem VC:kE G (λx H Q=>∃i,x=.int i/\Q (.int (if i<0 then -i else i)) H) kF:=by
 intro E μ h H d v Q s r1 o
 cases d with
 |int i=>rw[RelD]at r1;subst r1;exact⟨i,rfl,o.val s rfl⟩
 |_=>exact o.elim
theorem BF (hg:Gl X "abs") (hm:X.mg "abs" = none) (ha:dM X G E (e::es) aS)
  (he:au (e::es) X.env=(false,eval e X.env)::au es X.env:=by rfl) (hpl:(backTo pos (au es X.env)).any (·.1)=false:=by rfl):aJ X G E (.Call (.Name "abs" p) (e::es) [] pos) (aE (f1 kF) aS):=
 pJ (CallR.imp (R5 (X:=X)) λxs H Q ⟨v,h1,i,h2,h3⟩=>⟨i,by rw[h1,h2],h3⟩) (pK VC) hg hm VA ha (by decide) (by decide) he hpl
def mO:List Dv->Hs->Rs Dv
 | [.int i,.int j],h=>.ok (.int (if j>i then j else i)) h
 |_,_=>.bad
def qU:List Dv->Hs->Rs Dv
 | [.int i,.int j],h=>.ok (.int (if j<i then j else i)) h
 |_,_=>.bad
theorem IS {f:List Dv->Hs->Rs Dv}{g:Int->Int->Int}(h2:∀i j h,f [.int i,.int j] h=.ok (.int (g i j)) h) (hb:∀xs h,(∀i j,xs≠[.int i,.int j])->f xs h=.bad):
  pI G (λxs H Q=>∃i j,xs=[.int i,.int j]/\Q (.int (g i j)) H) f:=by
 intro E μ h H xs vs Q s r o
 by_cases hx:∃i j,xs=[.int i,.int j]
 ·obtain⟨i,j,rfl⟩:=hx;obtain⟨v,v',rfl,r1,r2⟩:=wI r;rw[RelD]at r1 r2;subst r1;subst r2;rw[h2]at o;exact⟨i,j,rfl,o.val s rfl⟩
 ·rw[hb xs h (λi j e=>hx ⟨i,j,e⟩)]at o;exact o.elim
theorem VD:pI G (λxs H Q=>∃i j,xs=[.int i,.int j]/\Q (.int (if j>i then j else i)) H) mO:=IS (λ_ _ _=>rfl) λxs h hx=>by
 unfold mO;split
 ·rename_i i j;exact absurd rfl (hx i j)
 ·rfl
theorem VE:pI G (λxs H Q=>∃i j,xs=[.int i,.int j]/\Q (.int (if j<i then j else i)) H) qU:=IS (λ_ _ _=>rfl) λxs h hx=>by
 unfold qU;split
 ·rename_i i j;exact absurd rfl (hx i j)
 ·rfl
def gN:Dv->Hs->Rs Dv
 | .tup xs,h=>.ok (.tup xs) h
 | .ref i,h=>match getL h i with
  |some xs=>.ok (.tup xs) h
  |none=>.bad
 |_,_=>.bad
def VF (K:aq):V->Hp->VK->Prop:=λx H Q=>∃p ys,x=.ref p/\((SqL K H p ys/\∀l,H l=none->Q (.ref l) (upd H l (.tup ys)))∨(SqT K H p ys/\Q (.ref p) H))
theorem VG:kE G (VF G.K) gN:=by
 intro E μ h H d v Q s r1 o
 cases d with
 |tup ds=>have r1':=r1;obtain⟨a,ws,rfl,e1,r2⟩:=r1;exact⟨a,ws,rfl,.inr ⟨SqT.of e1,o.val s r1'⟩⟩
 |ref i=>
  dsimp only[gN]at o
  cases g:getL h i with
  |none=>rw[g]at o;exact o.elim
  |some ys=>rw[g]at o;obtain⟨_,rfl⟩:=r1;obtain⟨ws,e1,r2⟩:=s.ob i _ (cY g);exact⟨_,ws,rfl,.inl ⟨SqL.of e1,λl hl=>o μ _ _ (Ext.same (cI hl)) (s.same (cI hl)) ⟨l,ws,rfl,cK,RelDL.mono (Ext.same (cI hl)) _ _ r2⟩⟩⟩
 |_=>exact o.elim
theorem wJ (hg:Gl X "tuple") (hm:X.mg "tuple" = none) (ha:dM X G E (e::es) aS)
  (he:au (e::es) X.env=(false,eval e X.env)::au es X.env:=by rfl) (hpl:(backTo pos (au es X.env)).any (·.1)=false:=by rfl):aJ X G E (.Call (.Name "tuple" p) (e::es) [] pos) (aE (f1 gN) aS):=λhK=>
 IL (CallR.imp (TN (X:=X)) λxs H Q ⟨v,h1,a,ys,h2,h3⟩=>⟨a,ys,by rw[h1,h2],by rw[hK];exact h3⟩) (pK VG) hg hm BC ha (by decide) (by decide) he hpl hK
def pL (scr:List Int) (d:Dv) (h:Hs):Rs Dv:=match fX scr d h with
 |some xs=>.ok (.ref h.length) (h++[.lst xs])
 |none=>.bad
theorem VH:kE G (λx H Q=>∃p ys,x=.ref p/\(SqL G.K H p ys∨SqT G.K H p ys)/\∀l,H l=none->Q (.ref l) (upd H l (.lst ys))) (pL G.scr):=by
 intro E μ h H d v Q s r1 o;unfold pL at o
 cases e:fX G.scr d h with
 |none=>rw[e]at o;exact o.elim
 |some ys=>rw[e]at o;obtain⟨a,ws,rfl,hs,r2⟩:=BE s r1 e;exact⟨a,ws,rfl,hs,λl hl=>pG s r2 hl o⟩
theorem IT (hc:X.calm=true) (hg:Gl X "max") (hm:X.mg "max" = none) (ha:dM X G E (e::es) aS)
  (he:au (e::es) X.env=(false,eval e X.env)::au es X.env:=by rfl) (hpl:(backTo pos (au es X.env)).any (·.1)=false:=by rfl):aJ X G E (.Call (.Name "max" p) (e::es) [] pos) (aE mO aS):=
 pJ (R6 hc) VD hg hm BD ha (by decide) (by decide) he hpl
theorem VI (hc:X.calm=true) (hg:Gl X "min") (hm:X.mg "min" = none) (ha:dM X G E (e::es) aS)
  (he:au (e::es) X.env=(false,eval e X.env)::au es X.env:=by rfl) (hpl:(backTo pos (au es X.env)).any (·.1)=false:=by rfl):aJ X G E (.Call (.Name "min" p) (e::es) [] pos) (aE qU aS):=
 pJ (R7 hc) VE hg hm VB ha (by decide) (by decide) he hpl
end
inductive Sr where
 |nx (ρ:Ev) (h:Hs)|rt (d:Dv) (h:Hs)|bk (ρ:Ev) (h:Hs)|ct (ρ:Ev) (h:Hs)|ex (c:Nat) (h:Hs)|bad
abbrev MS:=Ev->Hs->Sr
def SOut (G:Cfg) (E:XK) (μ:Nat->ai) (n:Nat) (H:Hp) (r:Sr) (D:Ends):Prop:=match r with
 | .nx ρ h'=>∀μ' H' σ',Ext μ n H μ' h'.length H'->Sim G μ' h' H'->RelS G μ' h'.length H' ρ σ'->D.nx σ' H'
 | .bk ρ h'=>∀μ' H' σ',Ext μ n H μ' h'.length H'->Sim G μ' h' H'->RelS G μ' h'.length H' ρ σ'->D.bk σ' H'
 | .ct ρ h'=>∀μ' H' σ',Ext μ n H μ' h'.length H'->Sim G μ' h' H'->RelS G μ' h'.length H' ρ σ'->D.ct σ' H'
 | .rt d h'=>∀μ' H' v,Ext μ n H μ' h'.length H'->Sim G μ' h' H'->RelD G μ' h'.length H' d v->D.rt v H'
 | .ex c h'=>∀μ' H' u,Ext μ n H μ' h'.length H'->Sim G μ' h' H'->vZ G H' c u->E u none H'
 | .bad=>False
theorem SOut.ext {G:Cfg}{E:XK}{μ μ1:Nat->ai}{n n1:Nat}{H H1:Hp}{r:Sr}{D:Ends}(o:SOut G E μ n H r D) (x:Ext μ n H μ1 n1 H1):SOut G E μ1 n1 H1 r D:=by
 cases r with
 |nx ρ h'=>exact λμ' H' σ' y=>o μ' H' σ' (x.trans y)
 |bk ρ h'=>exact λμ' H' σ' y=>o μ' H' σ' (x.trans y)
 |ct ρ h'=>exact λμ' H' σ' y=>o μ' H' σ' (x.trans y)
 |rt d h'=>exact λμ' H' σ' y=>o μ' H' σ' (x.trans y)
 |ex c h'=>exact λμ' H' σ' y=>o μ' H' σ' (x.trans y)
 |bad=>exact o
def wK (G:Cfg) (E:XK) (m:MS):TS:=λD σ H=>∃μ ρ h,RelS G μ h.length H ρ σ/\Sim G μ h H/\SOut G E μ h.length H (m ρ h) D
def hW (X:Cx) (G:Cfg) (E:XK) (st:gz) (m:MS):Prop:=X.K=G.K->PS X st (wK G E m)
def jB (X:Cx) (G:Cfg) (E:XK) (st:List gz) (m:MS):Prop:=X.K=G.K->PSs X st (wK G E m)
theorem PS.imp {X:Cx}{e:gz}{t t':TS}(h:PS X e t) (i:∀D σ H,t' D σ H->t D σ H):PS X e t':=λpins s σ H D I q=>h pins s σ H D I (i D σ H q)
theorem PSs.imp {X:Cx}{e:List gz}{t t':TS}(h:PSs X e t) (i:∀D σ H,t' D σ H->t D σ H):PSs X e t':=λpins s σ H D I q=>h pins s σ H D I (i D σ H q)
def Rs.thenS {α:Type}(r:Rs α) (f:α->Hs->Sr):Sr:=match r with
 | .ok a h=>f a h
 | .ex c h=>.ex c h
 | .bad=>.bad
@[simp] theorem Rs.thenS_ok {α:Type}(a:α) (h:Hs) (f:α->Hs->Sr):(Rs.ok a h).thenS f=f a h:=rfl
@[simp] theorem Rs.thenS_ex {α:Type}(c:Nat) (h:Hs) (f:α->Hs->Sr):(Rs.ex c h).thenS f=.ex c h:=rfl
@[simp] theorem Rs.thenS_bad {α:Type}(f:α->Hs->Sr):(Rs.bad).thenS f=.bad:=rfl
theorem SOut.thenS {α β:Type}{G:Cfg}{E:XK}{μ:Nat->ai}{n:Nat}{H:Hp}{r:Rs α}{f:α->Hs->Sr}{D:Ends}{R:(Nat->ai)->Nat->Hp->α->β->Prop}
  (o:SOut G E μ n H (r.thenS f) D):Out G E μ n H r R λv H1=>∃μ1 d h1,Ext μ n H μ1 h1.length H1/\Sim G μ1 h1 H1/\R μ1 h1.length H1 d v/\SOut G E μ1 h1.length H1 (f d h1) D:=by
 cases r with
 |bad=>exact o
 |ex c h'=>exact o
 |ok d h'=>exact λμ1 H1 v x1 s1 r1=>⟨μ1,d,h',x1,s1,r1,SOut.ext o x1⟩
section
variable{X:Cx}{G:Cfg}{E:XK}{st:gz}{rest:List gz}{m u:MS}{e:bq}{me:M Dv}{pos:Pos}
theorem jC {m:M Dv}{σ:St}{H:Hp}{f:Dv->Hs->Sr}{D:Ends}{Q1:V->Hp->Prop}{μ:Nat->ai}{ρ:Ev}{h:Hs}(rs:RelS G μ h.length H ρ σ) (s:Sim G μ h H) (o:SOut G E μ h.length H ((m ρ h).thenS f) D)
  (k:∀μ1 d h1 v H1,Ext μ h.length H μ1 h1.length H1->RelS G μ1 h1.length H1 ρ σ->Sim G μ1 h1 H1->RelD G μ1 h1.length H1 d v->SOut G E μ1 h1.length H1 (f d h1) D->Q1 v H1):hV G E m σ H Q1:=
 ⟨μ,ρ,h,rs,s,(o.thenS (R:=RelD G)).mono λv H1 ⟨μ1,d,h1,x,s1,r1,o1⟩=>k μ1 d h1 v H1 x (rs.mono x) s1 r1 o1⟩
theorem IU {m:M Bool}{σ:St}{H:Hp}{f:Bool->Hs->Sr}{D:Ends}{Q1:Bool->Hp->Prop}{μ:Nat->ai}{ρ:Ev}{h:Hs}(rs:RelS G μ h.length H ρ σ) (s:Sim G μ h H) (o:SOut G E μ h.length H ((m ρ h).thenS f) D)
  (k:∀μ1 b h1 H1,Ext μ h.length H μ1 h1.length H1->RelS G μ1 h1.length H1 ρ σ->Sim G μ1 h1 H1->SOut G E μ1 h1.length H1 (f b h1) D->Q1 b H1):iD G E m σ H Q1:=
 ⟨μ,ρ,h,rs,s,(o.thenS (R:=RB)).mono λv H1 ⟨μ1,d,h1,x,s1,r1,o1⟩=>by have e:v=d:=r1;subst e;exact k μ1 v h1 H1 x (rs.mono x) s1 o1⟩
def bG:MS:=λρ h=>.nx ρ h
def aI (m u:MS):MS:=λρ h=>match m ρ h with
 | .nx ρ1 h1=>u ρ1 h1
 |r=>r
theorem dY:jB X G E [] bG:=λ_=>PSs.imp QO λD σ H ⟨μ,ρ,h,rs,s,o⟩=>o μ H σ Ext.refl s rs
theorem aY (h1:hW X G E st m) (h2:jB X G E rest u):jB X G E (st::rest) (aI m u):=λhK=>PSs.imp (QP (h1 hK) (h2 hK)) λD σ H ⟨μ,ρ,h,rs,s,o⟩=>by
 refine⟨μ,ρ,h,rs,s, ?_⟩;unfold aI at o
 cases q:m ρ h with
 |nx ρ1 h1=>rw[q]at o;exact λμ1 H1 σ1 x1 s1 rs1=>⟨μ1,ρ1,h1,rs1,s1,SOut.ext o x1⟩
 |bk ρ1 h1=>rw[q]at o;exact o
 |ct ρ1 h1=>rw[q]at o;exact o
 |rt ρ1 h1=>rw[q]at o;exact o
 |ex ρ1 h1=>rw[q]at o;exact o
 |bad=>rw[q]at o;exact o
theorem bB (h1:hW X G E st m):jB X G E [st] m:=λhK=>GI (h1 hK)
def cS (me:M Dv):MS:=λρ h=>(me ρ h).thenS λ_ h1=>.nx ρ h1
theorem oA (he:aJ X G E e me) (hs:swapsWith e none pos.line X.env=pure false:=by rfl):hW X G E (.Expr e pos) (cS me):=λhK=>PS.imp (QR (he hK) hs) λD σ H ⟨μ,ρ,h,rs,s,o⟩=>jC rs s o λμ1 d h1 v H1 x1 rs1 s1 r1 o1=>o1 μ1 H1 σ Ext.refl s1 rs1
def aO (me:M Dv):MS:=λρ h=>(me ρ h).thenS λd h1=>.rt d h1
theorem bT (he:aJ X G E e me):hW X G E (.Return (some e) pos) (aO me):=λhK=>PS.imp (QT (he hK)) λD σ H ⟨μ,ρ,h,rs,s,o⟩=>jC rs s o λμ1 d h1 v H1 x1 rs1 s1 r1 o1=>o1 μ1 H1 v Ext.refl s1 r1
def aX (c:M Bool) (t u:MS):MS:=λρ h=>(c ρ h).thenS λb h1=>if b=true then t ρ h1 else u ρ h1
theorem dZ {c:bq}{a b:List gz}{mc:M Bool}(hc:gL X G E c mc) (ha:jB X G E a m) (hb:jB X G E b u):hW X G E (.If c a b pos) (aX mc m u):=λhK=>PS.imp (QV (hc hK) (ha hK) (hb hK)) λD σ H ⟨μ,ρ,h,rs,s,o⟩=>
 IU rs s o λμ1 k h1 H1 x1 rs1 s1 o1=>by
  cases k with
  |true=>rw[if_pos rfl]at o1 ⊢;exact⟨μ1,ρ,h1,rs1,s1,o1⟩
  |false=>rw[if_neg (by decide)]at o1 ⊢;exact⟨μ1,ρ,h1,rs1,s1,o1⟩
theorem RelS.set {μ:Nat->ai}{n:Nat}{H:Hp}{ρ:Ev}{σ:St}{d:Dv}{v:V}(rs:RelS G μ n H ρ σ) (i:Nat) (r:RelD G μ n H d v):RelS G μ n H (ρ.set i (some d)) (σ.set i (some v)):=⟨by rw[lr,lr];exact rs.len,λj d' e=>by
 have hl:=rs.len
 by_cases hij:i=j
 ·subst hij;have hi:i<ρ.length:=by have:=(ba.mp e).1;simpa using this
  rw[cz hi]at e;cases e;exact⟨v,cz (by omega),r⟩
 ·rw[ey hij]at e ⊢;exact rs.at_ j d' e⟩
abbrev dC:=Dv->Ev->Option Ev
def tH (G:Cfg) (st:dC):TG:=λv σ H Q=>∃μ ρ h d ρ',RelS G μ h H ρ σ/\RelD G μ h H d v/\st d ρ=some ρ'/\∀σ',RelS G μ h H ρ' σ'->Q σ' H
def lA (X:Cx) (G:Cfg) (tg:bq) (st:dC):Prop:=X.K=G.K->PG X tg (tH G st)
theorem PG.imp {tg:bq}{t t':TG}(h:PG X tg t) (i:∀v σ H Q,t' v σ H Q->t v σ H Q):PG X tg t':=λpins s σ H v u Q I r q=>h pins s σ H v u Q I r (i v σ H Q q)
theorem PGs.imp {tg:List bq}{t t':mI}(h:PGs X tg t) (i:∀v σ H Q,t' v σ H Q->t v σ H Q):PGs X tg t':=λpins s σ H v u Q I r q=>h pins s σ H v u Q I r (i v σ H Q q)
def aF (i:Nat):dC:=λd ρ=>some (ρ.set i (some d))
theorem VJ {i:Nat}{x:Str}(hN:X.N.Nodup) (hi:X.N[i]?=some x) (hx:kT X.env.scope x) (hf:X.fn x=true∨X.env.scope.names.lookup x=some .local:=by first|exact .inl rfl|exact .inr rfl|assumption):lA X G (.Name x pos) (aF i):=λ_=>PG.imp (QW hN hi hx hf) λv σ H Q ⟨μ,ρ,h,d,ρ',rs,r,e,k⟩=>by cases e;exact k _ (rs.set i r)
abbrev oC:=List Dv->Ev->Option Ev
def VL (G:Cfg) (st:oC):mI:=λvs σ H Q=>∃μ ρ h ds ρ',RelS G μ h H ρ σ/\RelDL G μ h H ds vs/\st ds ρ=some ρ'/\∀σ',RelS G μ h H ρ' σ'->Q σ' H
def wL (X:Cx) (G:Cfg) (tg:List bq) (st:oC):Prop:=X.K=G.K->PGs X tg (VL G st)
def cM:oC:=λds ρ=>match ds with
 | []=>some ρ
 |_=>none
def bH (s:dC) (t:oC):oC:=λds ρ=>match ds with
 |d::r=>match s d ρ with
  |some ρ1=>t r ρ1
  |none=>none
 | []=>none
theorem jD:wL X G [] cM:=λ_=>PGs.imp GK λvs σ H Q ⟨μ,ρ,h,ds,ρ',rs,r,e,k⟩=>by
 cases ds with
 |nil=>cases e;rw[RelDL]at r;subst r;exact⟨rfl,k _ rs⟩
 |cons d r=>cases e
theorem eC {tg:bq}{tgs:List bq}{s:dC}{t:oC}(h1:lA X G tg s) (h2:wL X G tgs t)
  (hs:(assignEach (tg::tgs) X.env).map (·.2)=assign tg X.env::(assignEach tgs X.env).map (·.2):=by rfl):wL X G (tg::tgs) (bH s t):=λhK=>PGs.imp (AB (h1 hK) (h2 hK) hs) λvs σ H Q ⟨μ,ρ,h,ds,ρ',rs,r,e,k⟩=>by
 cases ds with
 |nil=>cases e
 |cons d ds=>
  rw[RelDL]at r;obtain⟨v,rr,rfl,r1,r2⟩:=r;unfold bH at e;dsimp only at e
  cases q:s d ρ with
  |none=>rw[q]at e;cases e
  |some ρ1=>rw[q]at e;exact⟨v,rr,rfl,μ,ρ,h,d,ρ1,rs,r1,q,λσ1 rs1=>⟨μ,ρ1,h,ds,ρ',rs1,r2,e,k⟩⟩
def cL (n:Nat) (t:oC):dC:=λd ρ=>match d with
 | .tup ds=>if ds.length=n then t ds ρ else none
 |_=>none
theorem jE {tgs:List bq}{k:Nat}{t:oC}{n:Nat}(hc:X.calm=true) (h:wL X G tgs t)
  (hn:(assignEach tgs X.env).length=n:=by rfl) (hst:(assignEach tgs X.env).findIdx? (·.1)=none:=by rfl):lA X G (.Tuple tgs k pos) (cL n t):=λhK=>
 PG.imp (GL hc (h hK) hn hst) λv σ H Q ⟨μ,ρ,hh,d,ρ',rs,r,e,kk⟩=>by
  cases d with
  |tup ds=>
   dsimp only[cL]at e
   split at e
   ·rename_i hl;obtain⟨a,vs,rfl,e1,r1⟩:=r;exact⟨a,vs,rfl,SqT.of e1,by rw[r1.length];exact hl,μ,ρ,hh,ds,ρ',rs,r1,e,kk⟩
   ·cases e
  |_=>cases e
def aK (me:M Dv) (st:dC):MS:=λρ h=>(me ρ h).thenS λd h1=>match st d ρ with
 |some ρ1=>.nx ρ1 h1
 |none=>.bad
theorem VM {st:dC}{σ:St}{H:Hp}{D:Ends}(t:wK G E (aK me st) D σ H):vO (hV G E me) (tH G st) D σ H:=by
 obtain⟨μ,ρ,h,rs,s,o⟩:=t;refine jC rs s o λμ1 d h1 v H1 x1 rs1 s1 r1 o1=>?_
 cases q:st d ρ with
 |none=>rw[q]at o1;exact o1.elim
 |some ρ1=>rw[q]at o1;exact⟨μ1,ρ,h1.length,d,ρ1,rs1,r1,q,λσ' rs'=>o1 μ1 H1 σ' Ext.refl s1 rs'⟩
theorem IV {tg:bq}{st:dC}(he:aJ X G E e me) (hg:lA X G tg st) (hs:swapsWithSole [tg] e pos.line X.env=pure false:=by rfl) (hw:swappedStores [tg] e X.env=pure none:=by rfl)
  (h1:(assignEach [tg] X.env).map (·.2)=[assign tg X.env]:=by rfl):hW X G E (.Assign [tg] e pos) (aK me st):=λhK=>PS.imp (AE (he hK) (hg hK) hs hw h1) λ_ _ _ t=>VM t
theorem BG {i:Nat}{x:Str}{pos':Pos}(hN:X.N.Nodup) (hi:X.N[i]?=some x) (hx:kT X.env.scope x) (he:aJ X G E e me) (hs:swapsWith e (some (.Name x pos')) pos.line X.env=pure false:=by rfl) (hf:X.fn x=true∨X.env.scope.names.lookup x=some .local:=by first|exact .inl rfl|exact .inr rfl|assumption):
  hW X G E (.Assign [.Name x pos'] e pos) (aK me (aF i)):=λhK=>PS.imp (AF hN hi hx (he hK) hs hf) λD σ H t=>by
 obtain⟨μ,ρ,h,rs,s,o⟩:=t;exact jC rs s o λμ1 d h1 v H1 x1 rs1 s1 r1 o1=>o1 μ1 H1 _ Ext.refl s1 (rs1.set i r1)
end
structure Src where
 n:Nat
 get:Nat->Hs->Option Dv
 fin:Hs->Bool
def ItOk (G:Cfg) (μ0:Nat->ai) (n0:Nat) (H0:Hp) (src:Src) (J:It):Prop:=
 ∀(k:Nat) (μ:Nat->ai) (h:Hs) (H:Hp),Ext μ0 n0 H0 μ h.length H->Sim G μ h H->
  (k<src.n->∀d,src.get k h=some d->J.go k H/\∀x H',J.yld k H x H'->Same H H'/\RelD G μ h.length H' d x)/\(k=src.n->src.fin h=true->J.stop k H)
def BH (G:Cfg) (E:XK) (m:M Src):TI:=λσ H R=>∃μ ρ h,RelS G μ h.length H ρ σ/\Sim G μ h H/\Out G E μ h.length H (m ρ h) (ItOk G) R
def lB (X:Cx) (G:Cfg) (E:XK) (tg iter:bq) (m:M Src):Prop:=X.K=G.K->PI X tg iter (BH G E m)
theorem PI.imp {X:Cx}{tg iter:bq}{t t':TI}(h:PI X tg iter t) (i:∀σ H R,t' σ H R->t σ H R):PI X tg iter t':=λpins s σ H R I q=>h pins s σ H R I (i σ H R q)
def cT (xs:List Dv):Src:=⟨xs.length,λk _=>xs[k]?,λ_=>true⟩
def cE (i n:Nat):Src:=⟨n,λk h=>match getL h i with
 |some xs=>if xs.length=n then xs[k]? else none
 |none=>none,λh=>match getL h i with
 |some xs=>xs.length==n
 |none=>false⟩
def cJ (lo hi:Int):Src:=⟨(hi - lo).toNat,λk _=>some (.int (lo+k)),λ_=>true⟩
def bS (f:Dv->Hs->Rs Src) (m:M Dv):M Src:=λρ h=>(m ρ h).bind f
section
variable{X:Cx}{G:Cfg}{E:XK}{tg e a b:bq}{me ma mb:M Dv}{pos p:Pos}
def dD:Dv->Hs->Rs Src
 | .ref i,h=>match getL h i with
  |some xs=>.ok (cE i xs.length) h
  |none=>.bad
 |_,_=>.bad
def eV:Dv->Hs->Rs Src
 | .tup xs,h=>.ok (cT xs) h
 |_,_=>.bad
theorem oD (he:aJ X G E e me):lB X G E tg e (bS dD me):=λhK=>PI.imp (RC (he hK)) λσ H R ⟨μ,ρ,h,rs,s,o⟩=>eI rs s o λμ1 x h1 vx H1 x1 rs1 s1 r1 o1=>by
 rw[hK]
 cases x with
 |ref i=>
  obtain⟨hi,rfl⟩:=r1;dsimp only[dD]at o1
  cases g:getL h1 i with
  |none=>rw[g]at o1;exact o1.elim
  |some xs=>
   rw[g]at o1;obtain⟨vs,e1,r2⟩:=s1.ob i _ (cY g);refine⟨_,rfl,⟨vs,SqL.of e1⟩,o1.val s1 λk μ2 h2 H2 x2 s2=>?_⟩;have emu:=x2.mu i hi;constructor
   ·intro hk d hd;dsimp only[cE]at hd
    cases g2:getL h2 i with
    |none=>rw[g2]at hd;cases hd
    |some ys=>
     rw[g2]at hd;dsimp only at hd
     split at hd
     ·obtain⟨ws,e2,r3⟩:=s2.ob i _ (cY g2);rw[emu]at e2;obtain⟨v,ev,rv⟩:=r3.get hd;refine⟨⟨ws,v,SqL.of e2,ev⟩,λx H' hy=>?_⟩;obtain⟨rfl,hy⟩:=hy;have:=hy ws (SqL.of e2);rw[ev]at this;cases this;exact⟨Same.refl _,rv⟩
     ·cases hd
   ·intro hk hf;dsimp only[cE]at hf
    cases g2:getL h2 i with
    |none=>rw[g2]at hf;cases hf
    |some ys=>
     rw[g2]at hf;obtain⟨ws,e2,r3⟩:=s2.ob i _ (cY g2);rw[emu]at e2;refine⟨ws,SqL.of e2, ?_⟩;have h3:ys.length=xs.length:=by simpa using hf
     rw[r3.length,h3,hk];exact ak _
 |_=>exact o1.elim
theorem ItOk.tup {μ:Nat->ai}{n:Nat}{H:Hp}{a:ai}{vs:List V}{xs:List Dv}{K:aq}(e:H a=some (.tup vs)) (r:RelDL G μ n H xs vs) (hi:∀(X:Cx),True):ItOk G μ n H (cT xs) (AH K a):=by
 intro k μ2 h2 H2 x2 s2;have e2:=x2.im a (.tup vs) trivial e;have r2:=RelDL.mono x2 _ _ r;have inj:∀ws,SqT K H2 a ws->ws=vs->True:=λ_ _ _=>trivial;constructor
 ·intro hk d hd;obtain⟨v,ev,rv⟩:=r2.get hd;refine⟨⟨vs,v,SqT.of e2,ev⟩,λx H' hy=>?_⟩;obtain⟨rfl,hy⟩:=hy;have:=hy vs (SqT.of e2);rw[ev]at this;cases this;exact⟨Same.refl _,rv⟩
 ·intro hk _;exact⟨vs,SqT.of e2,by rw[r2.length,hk];exact ak _⟩
theorem mP (he:aJ X G E e me):lB X G E tg e (bS eV me):=λhK=>PI.imp (RD (he hK)) λσ H R ⟨μ,ρ,h,rs,s,o⟩=>eI rs s o λμ1 x h1 vx H1 x1 rs1 s1 r1 o1=>by
 cases x with
 |tup xs=>obtain⟨a,vs,rfl,e1,r2⟩:=r1;exact⟨a,rfl,⟨vs,SqT.of e1⟩,o1.val s1 (ItOk.tup e1 r2 λ_=>trivial)⟩
 |_=>exact o1.elim
def iG (i:Int):Bool:=decide (-4611686018427387904<=i)&&decide (i<4611686018427387904)
def cN:List Dv->Hs->Rs Src
 | [.int j],h=>if iG j=true then .ok (cJ 0 j) h else .bad
 |_,_=>.bad
def gX:List Dv->Hs->Rs Src
 | [.int i,.int j],h=>if iG i=true/\iG j=true then .ok (cJ i j) h else .bad
 |_,_=>.bad
def aS (f:List Dv->Hs->Rs Src) (ms:M (List Dv)):M Src:=λρ h=>(ms ρ h).bind f
theorem ItOk.rng {μ:Nat->ai}{n:Nat}{H:Hp}(lo hi:Int):ItOk G μ n H (cJ lo hi) (sO lo (hi - lo).toNat):=by
 intro k μ2 h2 H2 x2 s2;constructor
 ·intro hk d hd;cases hd;exact⟨hk,λx H' hy=>by obtain⟨rfl,rfl⟩:=hy;exact⟨Same.refl _,rfl⟩⟩
 ·intro hk _;exact qt hk.symm
variable{ms:M (List Dv)}
theorem lC (hg:Gl X "range") (hm:X.mg "range" = none) (ha:dM X G E [a] ms) (hs:au [a] X.env=[(false,eval a X.env)]:=by rfl):lB X G E tg (.Call (.Name "range" p) [a] [] pos) (aS cN ms):=λhK=>
 PI.imp (RG hg hm (ha hK) hs) λσ H R ⟨μ,ρ,h,rs,s,o⟩=>kD rs s o λμ1 ds h1 vs H1 x1 rs1 s1 r1 o1=>by
  unfold cN at o1
  split at o1
  ·rename_i j
   split at o1
   ·rename_i hj;obtain⟨v,rfl,rv⟩:=qT r1;rw[RelD]at rv;subst rv;simp only[iG,cw,decide_eq_true_eq]at hj;refine⟨j,rfl,by omega,by omega, ?_⟩;have:=o1.val s1 (ItOk.rng (G:=G) (μ:=μ1) (n:=h1.length) (H:=H1) 0 j);rw[Int.sub_zero]at this;exact this
   ·exact o1.elim
  ·exact o1.elim
theorem BI (hg:Gl X "range") (hm:X.mg "range" = none) (ha:dM X G E [a,b] ms) (hs:au [a,b] X.env=[(false,eval a X.env),(false,eval b X.env)]:=by rfl) (hs2:au [b] X.env=[(false,eval b X.env)]:=by rfl):lB X G E tg (.Call (.Name "range" p) [a,b] [] pos) (aS gX ms):=λhK=>
 PI.imp (RH hg hm (ha hK) hs hs2) λσ H R ⟨μ,ρ,h,rs,s,o⟩=>kD rs s o λμ1 ds h1 vs H1 x1 rs1 s1 r1 o1=>by
  unfold gX at o1
  split at o1
  ·rename_i i j
   split at o1
   ·rename_i hj;obtain⟨v,v',rfl,rv,rv'⟩:=wI r1;rw[RelD]at rv rv';subst rv;subst rv';simp only[iG,cw,decide_eq_true_eq]at hj;exact⟨i,j,rfl,⟨by omega,by omega,by omega,by omega⟩,o1.val s1 (ItOk.rng (G:=G) (μ:=μ1) (n:=h1.length) (H:=H1) i j)⟩
   ·exact o1.elim
  ·exact o1.elim
end
def eY (src:Src) (st:dC) (body:MS):Nat->Nat->MS
 |0,_=>λρ h=>if src.fin h=true then .nx ρ h else .bad
 |f+1,k=>λρ h=>match src.get k h with
  |none=>.bad
  |some d=>match st d ρ with
   |none=>.bad
   |some ρ1=>match body ρ1 h with
    | .nx ρ2 h2=>eY src st body f (k+1) ρ2 h2
    | .ct ρ2 h2=>eY src st body f (k+1) ρ2 h2
    | .bk ρ2 h2=>.nx ρ2 h2
    |r=>r
def dN (mi:M Src) (st:dC) (body:MS):MS:=λρ h=>(mi ρ h).thenS λsrc h1=>eY src st body src.n 0 ρ h1
section
variable{X:Cx}{G:Cfg}{E:XK}{tg iter:bq}{body:List gz}{mi:M Src}{st:dC}{mb:MS}{pos:Pos}
theorem lD (hp:Ab (model X.prog X.w) X.A X.env X.xe) (hc:X.calm=true) (hi:lB X G E tg iter mi) (hg:lA X G tg st) (hb:jB X G E body mb)
  (hs:∀x,foldedSetIterable iter X.env x=pure x:=by intro _;rfl):hW X G E (.For tg iter body [] pos) (dN mi st mb):=λhK=>PS.imp (RJ hp hc (hi hK) (hg hK) (hb hK) hs) λD σ H ⟨μ,ρ,h,rs,s,o⟩=>by
 refine⟨μ,ρ,h,rs,s,(o.thenS (R:=ItOk G)).mono λJ H1 ⟨μ1,src,h1,x1,s1,ok,o1⟩=>?_⟩;refine⟨λi m σ H=>∃μ2 ρ2 h2,Ext μ1 h1.length H1 μ2 h2.length H/\RelS G μ2 h2.length H ρ2 σ/\Sim G μ2 h2 H/\i+m=src.n/\SOut G E μ2 h2.length H (eY src st mb m i ρ2 h2) D,⟨src.n,μ1,ρ,h1,Ext.refl,rs.mono x1,s1,Nat.zero_add _,o1⟩, ?_⟩
 rintro i m σ2 H2 ⟨μ2,ρ2,h2,x2,rs2,s2,him,o2⟩
 cases m with
 |zero=>
  unfold eY at o2
  split at o2
  ·rename_i hf;exact .inl ⟨(ok i μ2 h2 H2 x2 s2).2 (by omega) hf,o2 μ2 H2 σ2 Ext.refl s2 rs2⟩
  ·exact o2.elim
 |succ m=>
  unfold eY at o2
  cases q:src.get i h2 with
  |none=>rw[q]at o2;exact o2.elim
  |some d=>
   rw[q]at o2;dsimp only at o2
   cases q2:st d ρ2 with
   |none=>rw[q2]at o2;exact o2.elim
   |some ρ3=>
    rw[q2]at o2;dsimp only at o2;obtain⟨go,yl⟩:=(ok i μ2 h2 H2 x2 s2).1 (by omega) d q;refine .inr ⟨go,λσ' H'=>∃μ3 ρ4 h4,Ext μ1 h1.length H1 μ3 h4.length H'/\RelS G μ3 h4.length H' ρ4 σ'/\Sim G μ3 h4 H'/\(i+1)+m=src.n/\SOut G E μ3 h4.length H' (eY src st mb m (i+1) ρ4 h4) D,λσ' H' z=>⟨m,jv m,z⟩,λx H' hy=>?_⟩;obtain⟨sm,rx⟩:=yl x H' hy;have xs:Ext μ2 h2.length H2 μ2 h2.length H':=Ext.same sm;refine⟨μ2,ρ2,h2.length,d,ρ3,rs2.mono xs,rx,q2,λσ3 rs3=>⟨μ2,ρ3,h2,rs3,s2.same sm, ?_⟩⟩;have step:∀ρ5 h5,SOut G E μ2 h2.length H2 (eY src st mb m (i+1) ρ5 h5) D->∀μ6 H6 σ6,Ext μ2 h2.length H' μ6 h5.length H6->Sim G μ6 h5 H6->RelS G μ6 h5.length H6 ρ5 σ6->
      ∃μ3 ρ4 h4,Ext μ1 h1.length H1 μ3 h4.length H6/\RelS G μ3 h4.length H6 ρ4 σ6/\Sim G μ3 h4 H6/\(i+1)+m=src.n/\SOut G E μ3 h4.length H6 (eY src st mb m (i+1) ρ4 h4) D:=
     λρ5 h5 o5 μ6 H6 σ6 x6 s6 rs6=>⟨μ6,ρ5,h5,(x2.trans xs).trans x6,rs6,s6,by omega,o5.ext (xs.trans x6)⟩
    cases q3:mb ρ3 h2 with
    |nx ρ5 h5=>rw[q3]at o2;exact step ρ5 h5 o2
    |ct ρ5 h5=>rw[q3]at o2;exact step ρ5 h5 o2
    |bk ρ5 h5=>rw[q3]at o2;exact λμ6 H6 σ6 x6 s6 rs6=>o2 μ6 H6 σ6 (xs.trans x6) s6 rs6
    |rt d5 h5=>rw[q3]at o2;exact λμ6 H6 σ6 x6 s6 rs6=>o2 μ6 H6 σ6 (xs.trans x6) s6 rs6
    |ex d5 h5=>rw[q3]at o2;exact λμ6 H6 σ6 x6 s6 rs6=>o2 μ6 H6 σ6 (xs.trans x6) s6 rs6
    |bad=>rw[q3]at o2;exact o2.elim
end
abbrev MC:=Ev->Hs->List Dv->Rs (Ev×List Dv)
def bN (me:M Dv):MC:=λρ h acc=>match me ρ h with
 | .ok d h1=>if acc.length<1000000 then .ok (ρ,acc++[d]) h1 else .bad
 |_=>.bad
def gO (src:Src) (st:dC) (test:M Bool) (inner:MC):Nat->Nat->MC
 |0,_=>λρ h acc=>if src.fin h=true then .ok (ρ,acc) h else .bad
 |f+1,k=>λρ h acc=>match src.get k h with
  |none=>.bad
  |some d=>match st d ρ with
   |none=>.bad
   |some ρ1=>match test ρ1 h with
    | .ok true h2=>match inner ρ1 h2 acc with
     | .ok r h3=>gO src st test inner f (k+1) r.1 h3 r.2
     |_=>.bad
    | .ok false h2=>gO src st test inner f (k+1) ρ1 h2 acc
    |_=>.bad
def kG (mi:M Src) (st:dC) (test:M Bool) (inner:MC):MC:=λρ h acc=>match mi ρ h with
 | .ok src h1=>gO src st test inner src.n 0 ρ h1 acc
 |_=>.bad
def dO:M Bool:=λ_ h=>.ok true h
def lE (cap:List (Option Nat)) (ρ:Ev):Ev:=cap.map λo=>match o with
 |some j=>(ρ[j]?).getD none
 |none=>none
def bU (mi:M Src) (cap:List (Option Nat)) (st:dC) (test:M Bool) (inner:MC):M (List Dv):=λρ h=>(mi ρ h).bind λsrc h1=>match gO src st test inner src.n 0 (lE cap ρ) h1 []with
 | .ok r h2=>.ok r.2 h2
 |_=>.bad
def tI (G:Cfg) (m:MC):TC:=λσ H vs K=>∃μ ρ h xs ρ' xs' h',RelS G μ h.length H ρ σ/\Sim G μ h H/\RelDL G μ h.length H xs vs/\m ρ h xs=.ok (ρ',xs') h' /\
 ∀μ' H' σ' vs',Ext μ h.length H μ' h'.length H'->Sim G μ' h' H'->RelS G μ' h'.length H' ρ' σ'->RelDL G μ' h'.length H' xs' vs'->K σ' H' vs'
section
variable{G:Cfg}
theorem VN {μ:Nat->ai}{n:Nat}{H:Hp}{ρ:Ev}{σ:St}(rs:RelS G μ n H ρ σ) (cap:List (Option Nat)):RelS G μ n H (lE cap ρ) (qK cap σ):=⟨by simp[lE,qK],λi d e=>by
 unfold lE at e;rw[fe]at e
 cases q:cap[i]? with
 |none=>rw[q]at e;cases e
 |some o=>
  rw[q]at e
  cases o with
  |none=>cases e
  |some j=>
   have e':(ρ[j]?).getD none=some d:=by simpa using e
   have e2:ρ[j]?=some (some d):=by
    cases z:ρ[j]? with
    |none=>rw[z]at e';cases e'
    |some y=>rw[z]at e';simp at e';rw[e']
   obtain⟨v,e3,r⟩:=rs.at_ j d e2;refine⟨v, ?_,r⟩;unfold qK;rw[fe,q];simp[e3]⟩
theorem BJ {E:XK}{me:M Dv}{σ:St}{H:Hp}{vs:List V}{K:St->Hp->List V->Prop}(t:tI G (bN me) σ H vs K):HU (hV G E me) σ H vs K:=by
 obtain⟨μ,ρ,h,xs,ρ',xs',h',rs,s,r,e,k⟩:=t;refine⟨μ,ρ,h,rs,s, ?_⟩;unfold bN at e
 cases q:me ρ h with
 |bad=>rw[q]at e;cases e
 |ex c h1=>rw[q]at e;cases e
 |ok d h1=>
  rw[q]at e;dsimp only at e
  split at e
  ·rename_i hl;cases e;intro μ1 H1 v x1 s1 r1;refine⟨?_,k μ1 H1 σ _ x1 s1 (rs.mono x1) ((RelDL.mono x1 _ _ r).append (RelDL.cons r1 RelDL.nil))⟩;rw[r.length];exact aw hl (by decide)
  ·cases e
theorem IW {E:XK}{src:Src}{st:dC}{test:M Bool}{inner:MC}{J:It}{μ1:Nat->ai}{h1:Hs}{H1:Hp}{ρ ρ':Ev}{σ:St}{xs xs':List Dv}{vs:List V}{h':Hs}{K:St->Hp->List V->Prop}
  (ok:ItOk G μ1 h1.length H1 src J) (rs:RelS G μ1 h1.length H1 ρ σ) (s1:Sim G μ1 h1 H1) (r:RelDL G μ1 h1.length H1 xs vs) (e:gO src st test inner src.n 0 ρ h1 xs=.ok (ρ',xs') h')
  (k:∀μ' H' σ' vs',Ext μ1 h1.length H1 μ' h'.length H'->Sim G μ' h' H'->RelS G μ' h'.length H' ρ' σ'->RelDL G μ' h'.length H' xs' vs'->K σ' H' vs'):
  sW J (tH G st) (iD G E test) (tI G inner) K σ H1 vs:=by
 refine⟨λi m σ H vs=>∃μ2 ρ2 h2 xs2,Ext μ1 h1.length H1 μ2 h2.length H/\RelS G μ2 h2.length H ρ2 σ/\Sim G μ2 h2 H/\RelDL G μ2 h2.length H xs2 vs/\i+m=src.n/\gO src st test inner m i ρ2 h2 xs2=.ok (ρ',xs') h',⟨src.n,μ1,ρ,h1,xs,Ext.refl,rs,s1,r,Nat.zero_add _,e⟩, ?_⟩
 rintro i m σ2 H2 vs2 ⟨μ2,ρ2,h2,xs2,x2,rs2,s2,r2,him,e2⟩
 cases m with
 |zero=>
  unfold gO at e2
  split at e2
  ·rename_i hf;cases e2;exact .inl ⟨(ok i μ2 _ H2 x2 s2).2 (by omega) hf,k μ2 H2 σ2 vs2 x2 s2 rs2 r2⟩
  ·cases e2
 |succ m=>
  unfold gO at e2
  cases q:src.get i h2 with
  |none=>rw[q]at e2;cases e2
  |some d=>
   rw[q]at e2;dsimp only at e2
   cases q2:st d ρ2 with
   |none=>rw[q2]at e2;cases e2
   |some ρ3=>
    rw[q2]at e2;dsimp only at e2;obtain⟨go,yl⟩:=(ok i μ2 h2 H2 x2 s2).1 (by omega) d q;refine .inr ⟨go,λσ' H' vs'=>∃μ3 ρ4 h4 xs4,Ext μ1 h1.length H1 μ3 h4.length H'/\RelS G μ3 h4.length H' ρ4 σ'/\Sim G μ3 h4 H'/\RelDL G μ3 h4.length H' xs4 vs'/\(i+1)+m=src.n/\gO src st test inner m (i+1) ρ4 h4 xs4=.ok (ρ',xs') h',
     λσ' H' vs' z=>⟨m,jv m,z⟩,λx H' hy=>?_⟩
    obtain⟨sm,rx⟩:=yl x H' hy;have xsm:Ext μ2 h2.length H2 μ2 h2.length H':=Ext.same sm;refine⟨μ2,ρ2,h2.length,d,ρ3,rs2.mono xsm,rx,q2,λσ3 rs3=>⟨μ2,ρ3,h2,rs3,s2.same sm, ?_⟩⟩
    cases q3:test ρ3 h2 with
    |bad=>rw[q3]at e2;cases e2
    |ex c h3=>rw[q3]at e2;cases e2
    |ok b h3=>
     rw[q3]at e2;intro μ4 H4 b' x4 s4 rb;have eb:b'=b:=rb;subst eb
     cases b' with
     |false=>rw[if_neg (by decide)];exact⟨μ4,ρ3,h3,xs2,(x2.trans xsm).trans x4,rs3.mono x4,s4,RelDL.mono (xsm.trans x4) _ _ r2,by omega,e2⟩
     |true=>
      rw[if_pos rfl];dsimp only at e2
      cases q4:inner ρ3 h3 xs2 with
      |bad=>rw[q4]at e2;cases e2
      |ex c h5=>rw[q4]at e2;cases e2
      |ok rr h5=>rw[q4]at e2;obtain⟨ρ5,xs5⟩:=rr;exact⟨μ4,ρ3,h3,xs2,ρ5,xs5,h5,rs3.mono x4,s4,RelDL.mono (xsm.trans x4) _ _ r2,q4,λμ6 H6 σ6 vs6 x6 s6 rs6 r6=>⟨μ6,ρ5,h5,xs5,((x2.trans xsm).trans x4).trans x6,rs6,s6,r6,by omega,e2⟩⟩
theorem VO {E:XK}{mi:M Src}{st:dC}{test:M Bool}{inner:MC}{σ:St}{H:Hp}{vs:List V}{K:St->Hp->List V->Prop}(t:tI G (kG mi st test inner) σ H vs K):HZ (BH G E mi) (tH G st) (iD G E test) (tI G inner) σ H vs K:=by
 obtain⟨μ,ρ,h,xs,ρ',xs',h',rs,s,r,e,k⟩:=t;refine⟨μ,ρ,h,rs,s, ?_⟩;unfold kG at e
 cases q:mi ρ h with
 |bad=>rw[q]at e;cases e
 |ex c h1=>rw[q]at e;cases e
 |ok src h1=>rw[q]at e;exact λμ1 H1 J x1 s1 ok=>IW ok (rs.mono x1) s1 (RelDL.mono x1 _ _ r) e λμ2 H2 σ2 vs2 x2=>k μ2 H2 σ2 vs2 (x1.trans x2)
def RL (G:Cfg):(Nat->ai)->Nat->Hp->List Dv->V->Prop:=λμ n H xs v=>∃p vs,v=.ref p/\H p=some (.lst vs)/\(∀i,i<n->μ i≠p)/\RelDL G μ n H xs vs
def wM (G:Cfg) (E:XK) (m:M (List Dv)):TE:=λσ H Q=>∃μ ρ h,RelS G μ h.length H ρ σ/\Sim G μ h H/\Out G E μ h.length H (m ρ h) (RL G) Q
def pM (X:Cx) (G:Cfg) (E:XK) (pe:bq) (m:M (List Dv)):Prop:=X.K=G.K->PE X pe (wM G E m)
theorem Sim.adopt {μ:Nat->ai}{h:Hs}{H:Hp}{p:ai}{ds:List Dv}{vs:List V}(s:Sim G μ h H) (e:H p=some (.lst vs)) (hq:∀i,i<h.length->μ i≠p) (r:RelDL G μ h.length H ds vs):
  Ext μ h.length H (λi=>if i=h.length then p else μ i) (h++[Ob.lst ds]).length H/\Sim G (λi=>if i=h.length then p else μ i) (h++[.lst ds]) H:=by
 have hl:(h++[Ob.lst ds]).length=h.length+1:=by simp
 have x:Ext μ h.length H (λi=>if i=h.length then p else μ i) (h++[Ob.lst ds]).length H:=⟨by omega,λi hi=>if_neg (az hi),λa o _ e=>e⟩
 refine⟨x,λi j hi hj e=>?_,λi o q=>?_,s.tab⟩
 ·rw[hl]at hi hj
  by_cases h1:i=h.length <;> by_cases h2:j=h.length
  ·omega
  ·rw[if_pos h1,if_neg h2]at e;exact absurd e.symm (hq j (by omega))
  ·rw[if_neg h1,if_pos h2]at e;exact absurd e (hq i (by omega))
  ·rw[if_neg h1,if_neg h2]at e;exact s.inj i j (by omega) (by omega) e
 ·by_cases h1:i<h.length
  ·rw[fh h1]at q;have r1:=s.ob i o q
   cases o with
   |lst xs=>obtain⟨ws,e1,r2⟩:=r1;exact⟨ws,by rw[if_neg (az h1)];exact e1,RelDL.mono x _ _ r2⟩
  ·rw[gv (by omega)]at q;have h2:i=h.length:=by have:=(ba.mp q).1;simp at this;omega
   subst h2;simp at q;subst q;exact⟨vs,by rw[if_pos rfl];exact e,RelDL.mono x _ _ r⟩
def bM (m:M (List Dv)):M Dv:=λρ h=>(m ρ h).bind λxs h1=>.ok (.ref h1.length) (h1++[.lst xs])
theorem IX {E:XK}{m:M (List Dv)}{σ:St}{H:Hp}{Q:VK}(t:hV G E (bM m) σ H Q):wM G E m σ H Q:=by obtain⟨μ,ρ,h,rs,s,o⟩:=t;refine⟨μ,ρ,h,rs,s,(o.bind (R1:=RL G)).mono λv H1 ⟨μ1,xs,h1,x1,s1,⟨p,vs,ev,e1,hq,r1⟩,o1⟩=>?_⟩;subst ev;obtain⟨x2,s2⟩:=s1.adopt e1 hq r1;exact o1 _ _ _ x2 s2 ⟨by simp,by show V.ref p=V.ref (if h1.length=h1.length then p else μ1 h1.length);rw[if_pos rfl]⟩
theorem mQ {X:Cx}{E:XK}{pe:bq}{m:M (List Dv)}(h:pM X G E pe m):aJ X G E pe (bM m):=λhK=>PE.imp (h hK) λ_ _ _ t=>IX t
theorem BK {E E':XK}{mi:M Src}{cap:List (Option Nat)}{st:dC}{test:M Bool}{inner:MC}{σ:St}{H:Hp}{Q:VK}(t:wM G E (bU mi cap st test inner) σ H Q):A1 (BH G E mi) cap (tH G st) (iD G E' test) (tI G inner) σ H Q:=by
 obtain⟨μ,ρ,h,rs,s,o⟩:=t;refine⟨μ,ρ,h,rs,s,(o.bind (R1:=ItOk G)).mono λJ H1 ⟨μ1,src,h1,x1,s1,ok,o1⟩=>?_⟩
 cases q:gO src st test inner src.n 0 (lE cap ρ) h1 []with
 |bad=>rw[q]at o1;exact o1.elim
 |ex c h2=>rw[q]at o1;exact o1.elim
 |ok r h2=>rw[q]at o1;obtain⟨ρ',xs'⟩:=r;refine IW ok (VN (rs.mono x1) cap) s1 RelDL.nil q λμ2 H2 σ2 vs2 x2 s2 rs2 r2 p hp=>?_;exact o1 μ2 _ _ (x2.trans (Ext.same (cI hp))) (s2.same (cI hp)) ⟨p,vs2,rfl,cK,s2.not hp,RelDL.mono (Ext.same (cI hp)) _ _ r2⟩
end
section
variable{X:Cx}{G:Cfg}{E:XK}{elt tg iter tg' iter':bq}{ifs ifs':List bq}{sc:iq}{ps pos:Pos}{mi mi':M Src}{st st':dC}{test test':M Bool}{me:M Dv}{N:List Str}{cap:List (Option Nat)}
def qV (X:Cx) (G:Cfg) (ifs:List bq) (m:M Bool):Prop:=X.K=G.K->PTs X ifs (iD G E0 m)
theorem PTs.imp {Y:Cx}{ifs:List bq}{t t':TT}(h:PTs Y ifs t) (i:∀σ H Q,t' σ H Q->t σ H Q):PTs Y ifs t':=λpins s σ H Q I q=>h pins s σ H Q I (i σ H Q q)
theorem kH {Y:Cx}:qV Y G [] dO:=λ_=>PTs.imp UD λσ H Q ⟨μ,ρ,h,rs,s,o⟩=>o.val s rfl
theorem kJ {Y:Cx}{c:bq}{m:M Bool}(h:gL Y G E0 c m):qV Y G [c] m:=λhK=>UE (h hK)
theorem PCl.imp {Y:Cx}{D:ai}{m:Sem Unit}{t t':TC}(h:PCl Y D m t) (i:∀σ H xs K,t' σ H xs K->t σ H xs K):PCl Y D m t':=λpins s σ H xs K I a f q=>h pins s σ H xs K I a f (i σ H xs K q)
theorem iH (hc:X.calm=true) (C:CapOk X sc N cap) (hi:lB X G E tg iter mi) (hg:∀s H ex,lA (cV X sc N s H ex) G tg st) (htt:∀s H ex,qV (cV X sc N s H ex) G ifs test) (hel:∀s H ex,aJ (cV X sc N s H ex) G E0 elt me)
  (hs:∀x,foldedSetIterable iter X.env x=pure x:=by intro _;rfl):pM X G E (.ListComp elt [⟨tg,iter,ifs,0⟩] sc ps) (bU mi cap st test (bN me)):=λhK=>
 PE.imp (IB hc C rfl (λit D env=>HX elt tg iter ifs sc ps (.ref it) D env) (hi hK) (λs H ex=>hg s H ex hK) (λs H ex=>htt s H ex hK) (λs H ex D=>PCl.imp (A0 (hel s H ex hK)) λ_ _ _ _ t=>BJ t) hs) λ_ _ _ t=>BK t
theorem IY (hc:X.calm=true) (C:CapOk X sc N cap) (hi:lB X G E tg iter mi) (hg:∀s H ex,lA (cV X sc N s H ex) G tg st) (htt:∀s H ex,qV (cV X sc N s H ex) G ifs test)
  (hi':∀s H ex,lB (cV X sc N s H ex) G E0 tg' iter' mi') (hg':∀s H ex,lA (cV X sc N s H ex) G tg' st') (htt':∀s H ex,qV (cV X sc N s H ex) G ifs' test') (hel:∀s H ex,aJ (cV X sc N s H ex) G E0 elt me)
  (hs:∀x,foldedSetIterable iter X.env x=pure x:=by intro _;rfl) (hs':∀s H ex x,foldedSetIterable iter' (cV X sc N s H ex).env x=pure x:=by intro _ _ _ _;rfl):
  pM X G E (.ListComp elt [⟨tg,iter,ifs,0⟩,⟨tg',iter',ifs',0⟩] sc ps) (bU mi cap st test (kG mi' st' test' (bN me))):=λhK=>
 PE.imp (IB hc C rfl (inner:=λD env=>sX iter' (.ListComp elt [⟨tg,iter,ifs,0⟩,⟨tg',iter',ifs',0⟩] sc ps) 1 D env) (λit D env=>UG elt tg iter tg' iter' ifs ifs' sc ps (.ref it) D env) (hi hK) (λs H ex=>hg s H ex hK) (λs H ex=>htt s H ex hK)
  (λs H ex D=>PCl.imp (UI (X:=cV X sc N s H ex) (D:=D) (gens:=[⟨tg,iter,ifs,0⟩,⟨tg',iter',ifs',0⟩]) (d:=1) rfl hc rfl (λit=>UH elt tg iter tg' iter' ifs ifs' sc ps (.ref it) D _) (hi' s H ex hK) (hg' s H ex hK) (htt' s H ex hK) (PCl.imp (A0 (hel s H ex hK)) λ_ _ _ _ t=>BJ t) (hs' s H ex)) λ_ _ _ _ t=>VO t) hs) λ_ _ _ t=>BK t
end
def dR (T:ai) (h:cu):Prop:=∃oT ts,h.get? T=some oT/\oT.data=.fields ts/\ts[3]?=some .none
structure Chg (fs:List ai) (e T:ai) (h h':cu):Prop where
 new:h.objs.size<=T
 keep:∀b o,b≠e->b∉fs->h.get? b=some o->h'.get? b=some o
 slot:∀b o,b≠e->h.get? b=some o->∃sl,h'.get? b=some { o with slots:=sl }
 tb:dR T h'
theorem VP (f:Array af->Array af) (o:Obj):(Obj.mapFields f o).dict=o.dict:=by
 unfold Obj.mapFields
 split <;> rfl
section
variable{M:Bg}{A:cf}{E:af->ag->Prop}{s:ag}
theorem BL {a:ai}{o:Obj}{vs:Array af}{i:Nat}{v:af}{Q:Unit->ag->Prop}(e:s.heap.get? a=some o) (hd:o.data=.fields vs) (hi:i<vs.size)
  (k:∀h' o',je a s.heap h'->h'.get? a=some o'->o'.cls=o.cls->o'.dict=o.dict->o'.data=.fields (vs.setIfInBounds i v)->Q () { s with heap:=h' }):wpAny M A (setField (.ref a) i v) Q E s:=
 have d':=wo hd (·.setIfInBounds i v)
 Cj e hd hi (k _ _ (ph ..) (jx _ e (Ct d')) (Obj.cls_mapFields ..) (VP ..) d')
theorem VQ {head v:af}{L:Int}{pl:List af}{Q:af->ag->Prop}(hpl:IsPlace pl) (k:∀ob ts,ob.data=.fields ts->3<ts.size->ob.isFreed=false->Q (.ref s.heap.objs.size) { s with heap:=s.heap.push ob }):
  wpAny M A (Bb head v .none (rawInt L) .none pl) Q E s:=
 dg (k _ _ rfl (by simp only[av,bu,dj,oj];omega) rfl) (hpl.sizeOk5 ..)
theorem IZ {e T:ai}{oe oT:Obj}{vs ts:Array af}{Q:Unit->ag->Prop}(he:s.heap.get? e=some oe) (hd:oe.data=.fields vs) (h1:vs[1]?=some (.ref T)) (hT:s.heap.get? T=some oT) (hdT:oT.data=.fields ts) (hs:3<ts.size)
  (k:∀h',je T s.heap h'->dR T h'->Q () { s with heap:=h' }):wpAny M A (setFlight (.ref e) none) Q E s:=by
 refine aa (fi he hd h1 ?_);show wpAny M A (if(ij T != ju)=true then _ else _) Q E s;rw[if_pos (by simp)];exact BL hT hdT hs λh' o' sb g _ _ d=>k h' sb ⟨o',_,g,d,by rw[jg hs];rfl⟩
theorem I0 {base:cu}{l:List Env}{a:ai}{o:Obj}{vs:Array af}(hl:s.heap.FunFrames base l) (e:s.heap.get? a=some o) (hd:o.data=.fields vs):a∉dH l:=λhm=>by obtain⟨_,o',e',nf⟩:=hl.mem hm;rw[e]at e';cases e';exact nf vs hd
theorem JA {base:cu}{env:Env}{outer:List Env}{L e:ai}{oe:Obj}{vs:Array af}{head a0:af}{nx:Bool}{Q:Unit->ag->Prop}(hfr:A.frames=some (env::outer)) (hl:s.heap.FunFrames base (env::outer)) (hf:env.frame=some L)
  (he:s.heap.get? e=some oe) (hd:oe.data=.fields vs) (hdn:oe.dict=none) (hsz:1<vs.size) (h0:vs[0]?=some a0)
  (k:∀h' T,Chg (dH (env::outer)) e T s.heap h'->dJ oe.cls e T a0 h'->Q () { s with heap:=h' }):
  wpAny M A (do let a <-frameOf env;let pl <-entryPlaceOf L nx;let b <-Bb head a .none (rawInt L) .none pl;setField (.ref e) 1 b)
   (λ_ s'=>wpAny M A (setFlight (.ref e) none) Q E s') E s:=by
 have ne:=I0 hl he hd;refine aa (wpAny_frameOf_fun hfr hl hf λg1 so=>aa (wpAny_entryPlaceOf λpl hpl=>aa (VQ hpl λob ts dt hts nf=>?_)));have e1:g1.get? e=some oe:=(so.2.1 e ne).trans he;have lt:e<g1.objs.size:=ar e1;refine BL (s:={ s with heap:=g1.push ob }) (aj _ e1) hd hsz λg2 oe2 sb2 ge c2 dn2 d2=>?_;have gT:g2.get? g1.objs.size=some ob:=sb2.extBut _ _ (jh lt) (ax _ nf);refine IZ (s:={ s with heap:=g2 }) ge d2 (T:=g1.objs.size) (by rw[jg hsz]) gT dt hts λg3 sb3 tb=>?_;have kp:∀b o,b≠e->g1.get? b=some o->g3.get? b=some o:=λb o hb q=>sb3.extBut _ _ (az (ar q)) (sb2.extBut _ _ hb (aj _ q));refine k g3 g1.objs.size ⟨qt so.1.symm,λb o hb hn q=>kp b o hb ((so.2.1 b hn).trans q),λb o hb q=>?_,tb⟩ ⟨oe2,_,sb3.extBut _ _ (az lt) ge,c2,d2, ?_, ?_,dn2.trans hdn⟩
 ·obtain⟨sl,q'⟩:=so.2.2 b o q;exact⟨sl,kp b _ hb q'⟩
 ·rw[Array.getElem?_setIfInBounds_ne (by decide)];exact h0
 ·rw[jg hsz]
theorem VR {base:cu}{env:Env}{outer:List Env}{L e:ai}{oe:Obj}{vs:Array af}{a0:af}{Q:Unit->ag->Prop}(hfr:A.frames=some (env::outer)) (hl:s.heap.FunFrames base (env::outer)) (hf:env.frame=some L)
  (he:s.heap.get? e=some oe) (hd:oe.data=.fields vs) (hdn:oe.dict=none) (h0:vs[0]?=some a0) (h1:vs[1]?=some .none)
  (k:∀h' T,Chg (dH (env::outer)) e T s.heap h'->dJ oe.cls e T a0 h'->Q () { s with heap:=h' }):
  wpAny M A (noteFrame (.ref e) env) (λ_ s'=>wpAny M A (setFlight (.ref e) none) Q E s') E s:=by
 unfold noteFrame;rw[hf];refine aa (fi he hd h1 ?_);exact JA hfr hl hf he hd hdn (du.mp h1).1 h0 k
theorem VS {base:cu}{env:Env}{outer:List Env}{L e T:ai}{C a0:af}{Q:Unit->ag->Prop}(hfr:A.frames=some (env::outer)) (hl:s.heap.FunFrames base (env::outer)) (hf:env.frame=some L)
  (hx:dJ C e T a0 s.heap) (ht:dR T s.heap) (hne:T≠e)
  (k:∀h' T',s.heap.objs.size<=T'->(∀b o,b≠e->b≠T->b∉dH (env::outer)->s.heap.get? b=some o->h'.get? b=some o)->(∀b o,b≠e->b≠T->s.heap.get? b=some o->∃sl,h'.get? b=some { o with slots:=sl })->
   dJ C e T' a0 h'->dR T h'->dR T' h'->Q () { s with heap:=h' }):
  wpAny M A (noteFrame (.ref e) env) (λ_ s'=>wpAny M A (setFlight (.ref e) none) Q E s') E s:=by
 obtain⟨oe,vs,he,rfl,hd,h0,h1,hdn⟩:=hx;obtain⟨oT,ts,hT,hdT,h3⟩:=ht;have l3:3<ts.size:=(du.mp h3).1;have nT:=I0 hl hT hdT;unfold noteFrame;rw[hf];refine aa (fi he hd h1 ?_);rw[if_pos (by simp)];refine aa (fi hT hdT h3 ?_);rw[if_neg (by simp[rawInt])];refine aa (BL hT hdT l3 λg o' sb gT _ _ dT=>?_);have hl':g.FunFrames base (env::outer):=hl.of_keeps λb o q nf=>⟨o,sb.extBut _ _ (λz=>by subst z;rw[hT]at q;cases q;exact nf ts hdT) q,rfl⟩
 refine JA (s:={ s with heap:=g }) hfr hl' hf (sb.extBut _ _ (cy hne) he) hd hdn (du.mp h1).1 h0 λh' T' c x=>?_;refine k h' T' (by rw[<-sb.1];exact c.new) (λb o n1 n2 n3 q=>c.keep b o n1 n3 (sb.extBut _ _ n2 q)) (λb o n1 n2 q=>c.slot b o n1 (sb.extBut _ _ n2 q)) x ⟨_,_,c.keep T _ hne nT gT,dT, ?_⟩ c.tb;rw[jg l3]
end
theorem BM {P:bh}{w:cn}{H:Hp}{h:cu}{a:ai}{o:HO}(x:ObjOk P w H h a o):∃ob,h.get? a=some ob:=by
 cases o with
 |lst xs=>obtain⟨_,_,_,_,e⟩:=x;exact⟨_,e⟩
 |tup xs=>obtain⟨_,_,_,ob,e,_⟩:=x;exact⟨_,e⟩
 |dK kvs=>obtain⟨_,_,_,_,o,_,_,e,_⟩:=x;exact⟨_,e⟩
 |dT kvs=>obtain⟨_,_,_,_,o,_,_,e,_⟩:=x;exact⟨_,e⟩
 |set S n=>obtain⟨o,_,_,_,e,_⟩:=x;exact⟨_,e⟩
 |ins C dx fs=>obtain⟨_,_,_,e,_⟩:=x;exact⟨_,e⟩
 |own y=>exact x
 |xd fs=>obtain⟨_,⟨_,_,_,e,_⟩,_⟩:=x;exact⟨_,e⟩
 |rng lo hi=>obtain⟨_,_,_,e⟩:=x;exact⟨_,e⟩
 |frz ob u=>obtain⟨e,_⟩:=x;exact⟨_,e⟩
 |tbl ps=>exact⟨_,(show h.get? a=some _ from x)⟩
 |met f y=>exact⟨_,(show h.get? a=some _ from x)⟩
 |ext φ=>obtain⟨_,e,_⟩:=x;exact e
def wN (base:cu) (H:Hp) (C:af) (e:ai):Prop:=∃T a0,H e=some (.ext (dJ C e T a0))/\H T=some (.ext (dR T))/\base.get? e=none/\T≠e
def tJ (e:ai) (H H':Hp):Prop:=∀b o,b≠e->H b=some o->H' b=some o
theorem VT {C a0:af}{e T:ai}{h1 h2:cu}(x:dJ C e T a0 h1) (k:∀o,h1.get? e=some o->h2.get? e=some o):dJ C e T a0 h2:=by obtain⟨oe,vs,he,r⟩:=x;exact⟨oe,vs,k oe he,r⟩
theorem VU {T:ai}{h1 h2:cu}(x:dR T h1) (k:∀o,h1.get? T=some o->h2.get? T=some o):dR T h2:=by obtain⟨oe,vs,he,r⟩:=x;exact⟨oe,vs,k oe he,r⟩
theorem JB {P:bh}{w:cn}{H:Hp}{h:cu}{C a0:af}{e T:ai}(x:dJ C e T a0 h):ObjOk P w H h e (.ext (dJ C e T a0)):=⟨x,(let ⟨oe,_,he,_⟩:=x;⟨oe,he⟩),λ_ _ y k=>VT y k⟩
theorem wO {P:bh}{w:cn}{H:Hp}{h:cu}{T:ai}(x:dR T h):ObjOk P w H h T (.ext (dR T)):=⟨x,(let ⟨oe,_,he,_⟩:=x;⟨oe,he⟩),λ_ _ y k=>VU y k⟩
section
variable{P:bh}{w:cn}{M:Bg}{A:cf}{E:af->ag->Prop}{s:ag}{H:Hp}{base:cu}{env:Env}{outer:List Env}{L e:ai}{C:af}
theorem BN {Q:Unit->ag->Prop}(hfr:A.frames=some (env::outer)) (hl:s.heap.FunFrames base (env::outer)) (hf:env.frame=some L) (hok:HOk P w H s.heap) (hfree:∀b∈dH (env::outer),H b=none) (fl:wN base H C e)
  (k:∀h' H',Un (dH (env::outer)) [] H H' s.heap h'->HOk P w H' h'->wN base H' C e->tJ e H H'->Q () { s with heap:=h' }):
  wpAny M A (noteFrame (.ref e) env) (λ_ s'=>wpAny M A (setFlight (.ref e) none) Q E s') E s:=by
 obtain⟨T,a0,he,hT,hb,hne⟩:=fl;have xe:dJ C e T a0 s.heap:=(show ObjOk P w H s.heap e _ from hok e _ he).1;have xt:dR T s.heap:=(show ObjOk P w H s.heap T _ from hok T _ hT).1;refine VS hfr hl hf xe xt hne λh' T' hnew keep slot x' t0 t'=>?_;have nT':H T'=none:=hok.fresh hnew;have eT':T'≠e:=(fO he nT').symm;have TT':T'≠T:=(fO hT nT').symm;have sx:tJ e H (upd (upd H e (.ext (dJ C e T' a0))) T' (.ext (dR T'))):=λb o hbe q=>by rw[bP (fO q nT'),bP hbe];exact q
 have ee:upd (upd H e (.ext (dJ C e T' a0))) T' (.ext (dR T')) e=some (.ext (dJ C e T' a0)):=by rw[bP (cy eT'),cK]
 refine k h' (upd (upd H e (.ext (dJ C e T' a0))) T' (.ext (dR T'))) ?_ ?_ ⟨T',a0,ee,cK,hb,eT'⟩ sx
 ·have free:∀b o,s.heap.get? b=some o->H b=none->upd (upd H e (.ext (dJ C e T' a0))) T' (.ext (dR T')) b=none:=λb o q n=>by have h1:b≠T':=az (aw (ar q) hnew);have h2:b≠e:=(fO he n).symm;rw[bP h1,bP h2];exact n
  refine⟨λb o q n hb _=>keep b o (fO he n).symm (fO hT n).symm hb q,λb o q n _ _=>slot b o (fO he n).symm (fO hT n).symm q,λb o q n _=>free b o q n,λb o q _=>?_,λb xs q=>?_,λb o u q=>?_,λb ps q=>?_⟩
  ·by_cases h1:b=e
   ·subst h1;obtain⟨oe,_,z,_⟩:=x';exact⟨oe,z⟩
   ·by_cases h2:b=T
    ·subst h2;obtain⟨oe,_,z,_⟩:=t0;exact⟨oe,z⟩
    ·obtain⟨sl,z⟩:=slot b o h1 h2 q;exact⟨_,z⟩
  ·exact sx b _ (nU q he (by intro z;cases z)) q
  ·exact sx b _ (nU q he (by intro z;cases z)) q
  ·exact⟨#[],by rw[sx b _ (nU q he (by intro z;cases z)) q];simp⟩
 ·intro a o q
  by_cases h1:a=T'
  ·subst h1;rw[cK]at q;cases q;exact wO t'
  ·rw[bP h1]at q
   by_cases h2:a=e
   ·subst h2;rw[cK]at q;cases q;exact JB x'
   ·rw[bP h2]at q
    by_cases h3:a=T
    ·subst h3;rw[hT]at q;cases q;exact wO t0
    ·have nf:a∉dH (env::outer):=λz=>by rw[hfree a z]at q;cases q
     refine(hok a o q).stay (λb u hb z=>?_) (λb z=>sx b _ (nU z he (by intro y;cases y)) z) λb xs z=>sx b _ (nU z he (by intro y;cases y)) z
     rcases hb with rfl|hb
     ·exact keep b u h2 h3 nf z
     ·exact keep b u (nU hb he (by intro y;cases y)) (nU hb hT (by intro y;cases y)) (λy=>by rw[hfree b y]at hb;cases hb) z
theorem JC {Q:Unit->ag->Prop}{h0:cu}{args:List af}(hfr:A.frames=some (env::outer)) (hl:h0.FunFrames base (env::outer)) (hf:env.frame=some L) (hok:HOk P w H h0) (hfree:∀b∈dH (env::outer),H b=none) (hsb:∀b o,base.get? b=some o->h0.get? b=some o)
  (mx:Heap.MadeExcOf h0 s.heap e C args)
  (k:∀h' H',Un (dH (env::outer)) [] H H' h0 h'->HOk P w H' h'->wN base H' C e->Same H H'->Q () { s with heap:=h' }):
  wpAny M A (noteFrame (.ref e) env) (λ_ s'=>wpAny M A (setFlight (.ref e) none) Q E s') E s:=by
 obtain⟨t,he,hnt,ht⟩:=mx.there;have hbn:base.get? e=none:=by
  cases q:base.get? e with
  |none=>rfl
  |some o=>have:=hsb e o q;rw[mx.new]at this;cases this
 have nH:H e=none:=by
  cases q:H e with
  |none=>rfl
  |some o=>
   have z:∀a o,H a=some o->h0.get? a≠none:=λa o q n=>by
    have lt:=hok.lt q;have:=(hok a o q)
    have ex:∃ob,h0.get? a=some ob:=BM this;obtain⟨ob,eo⟩:=ex;rw[n]at eo;cases eo
   exact absurd mx.new (z e o q)
 have hl1:s.heap.FunFrames base (env::outer):=hl.of_keeps λb o hb _=>⟨o,mx.keeps b o hb,rfl⟩
 refine VR hfr hl1 hf he rfl rfl (a0:=.ref t) rfl rfl λh' T c x=>?_;have ne_e:∀b o,h0.get? b=some o->b≠e:=λb o q z=>by subst z;rw[mx.new]at q;cases q
 have lt0:∀b o,h0.get? b=some o->b<T:=λb o q=>aw (ar (mx.keeps b o q)) c.new;have nT:H T=none:=by
  cases q:H T with
  |none=>rfl
  |some o=>obtain⟨ob,eo⟩:=BM (hok T o q);exact absurd (lt0 T ob eo) (gy _)
 have eT:T≠e:=jh (aw (ar he) c.new);have sm:Same H (upd (upd H e (.ext (dJ C e T (.ref t)))) T (.ext (dR T))):=λb o q=>by rw[bP (fO q nT),bP (fO q nH)];exact q
 refine k h' (upd (upd H e (.ext (dJ C e T (.ref t)))) T (.ext (dR T))) ?_ ?_ ⟨T,.ref t,by rw[bP (cy eT),cK],cK,hbn,eT⟩ sm
 ·refine⟨λb o q n hb _=>c.keep b o (ne_e b o q) hb (mx.keeps b o q),λb o q n _ _=>c.slot b o (ne_e b o q) (mx.keeps b o q),λb o q n _=>?_,λb o q _=>?_,λb xs q=>sm b _ q,λb o u q=>sm b _ q,λb ps q=>⟨#[],by rw[sm b _ q];simp⟩⟩
  ·rw[bP (az (lt0 b o q)),bP (ne_e b o q)];exact n
  ·obtain⟨sl,z⟩:=c.slot b o (ne_e b o q) (mx.keeps b o q);exact⟨_,z⟩
 ·intro a o q
  by_cases h1:a=T
  ·subst h1;rw[cK]at q;cases q;exact wO c.tb
  ·rw[bP h1]at q
   by_cases h2:a=e
   ·subst h2;rw[cK]at q;cases q;exact JB x
   ·rw[bP h2]at q;have nf:a∉dH (env::outer):=λz=>by rw[hfree a z]at q;cases q
    refine(hok a o q).stay (λb u hb z=>?_) (λb z=>sm b _ z) λb xs z=>sm b _ z
    rcases hb with rfl|hb
    ·exact c.keep b u (ne_e b u z) nf (mx.keeps b u z)
    ·exact c.keep b u (ne_e b u z) (λy=>by rw[hfree b y]at hb;cases hb) (mx.keeps b u z)
end
def bK (P:bh) (w:cn) (base:cu):mK:=λouter H s E u s'=>∃e C H',u=.ref e/\s'.os=s.os/\uf s'.gens/\Un (dH outer) [] H H' s.heap s'.heap/\HOk P w H' s'.heap/\wN base H' C e/\E u none H'
def VV (X:Cx) (E:XK):Prop:=∀(pins:List (ai×Obj)) (σ:St) (H:Hp) (s:ag) (h':cu) (e:ai) (C:af) (args:List af),Inv X pins σ H s->Heap.MadeExcOf s.heap h' e C args->
 (∀H',Same H H'->(∃T a0,H' e=some (.ext (dJ C e T a0)))->E (.ref e) none H')->X.xe (.ref e) { s with heap:=h' }
structure Good (X:Cx) (G:Cfg) (E:XK) (k:Nat):Prop where
 calm:X.calm=true
 room:Room k X.A
 K:X.K=G.K
 pas:AL (bK X.prog X.w X.base) X E
 own:Ab (model X.prog X.w) X.A X.env X.xe
 rais:VV X E
def BO (E:XK):Prop:=∀e H H',tJ e H H'->(∃C T a0 T' a0',H e=some (.ext (dJ C e T a0))/\(∃h,dJ C e T a0 h)/\H' e=some (.ext (dJ C e T' a0')))->E (.ref e) none H->E (.ref e) none H'
section
variable{P:bh}{w:cn}{K:aq}{mg:Str->Option af}{base:cu}{N:List Str}{qual:Str}{scope:iq}{f:ai}{cdv:af}{A:cf}{outer:List Env}{s0:ag}{H0:Hp}{E0:XK}{G:Cfg}{E:XK}{k:Nat}
theorem BP (hr:Room k (A.deeper (envOfC qual scope s0.heap.objs.size f cdv))) (hK:K=G.K) (hE:∀u H',E u none H'->E0 u none H') (hF:BO E):
  Good (gB (bK P w base) P w K mg base N qual scope f cdv A outer s0 H0 E0) G E k where
 calm:=rfl
 room:=hr
 K:=hK
 own:=Bx
 pas:=by intro pins σ H s u s' I ⟨e,C,H',eu,os,bare,un,hok,fl,he⟩;subst eu;have I':=I.call' os un hok bare (λb z=>absurd z (by simp));refine aa (BN (P:=P) (w:=w) (H:=H') (base:=base) I'.ok.frames I'.stack rfl hok I'.stkFree fl λh'' H'' un2 hok2 fl2 sx=>?_);have I2:=I'.call (h':=h'') (g':=s'.gens) (d':=s'.drawn) (t':=s'.toks) un2 hok2 I'.bare (λb z=>absurd z (by simp));obtain⟨T,a0,h1,_⟩:=id fl;obtain⟨T2,a2,h3,_⟩:=id fl2;have xe1:dJ C e T a0 s'.heap:=(show ObjOk P w H' s'.heap e _ from hok e _ h1).1;have:E (.ref e) none H'':=hF e H' H'' sx ⟨C,T,a0,T2,a2,h1,⟨_,xe1⟩,h3⟩ he;exact⟨e,C,H'',rfl,I2.os,I2.bare,I2.base,hok2,fl2,hE _ _ this⟩
 rais:=by intro pins σ H s h' e C args I mx he;refine aa (JC (P:=P) (w:=w) (H:=H) (base:=base) I.ok.frames I.stack rfl I.hok I.stkFree I.bk mx λh'' H'' un2 hok2 fl2 sm=>?_);have I2:=I.call (h':=h'') (g':=s.gens) (d':=s.drawn) (t':=s.toks) un2 hok2 I.bare (λb z=>absurd z (by simp));obtain⟨T2,a2,h3,_⟩:=id fl2;exact⟨e,C,H'',rfl,I2.os,I2.bare,I2.base,hok2,fl2,hE _ _ (he H'' sm ⟨T2,a2,h3⟩)⟩
theorem cW {X:Cx}{sc:iq}{N':List Str}{s:ag}{H:Hp}{ex:List ai}(g:Good X G E k):Good (cV X sc N' s H ex) G L2.E0 k where
 calm:=g.calm
 room:=g.room
 K:=g.K
 own:=PassesOwn.never
 pas:=λ_ _ _ _ _ _ _ ⟨_,_,_,_,_,_,_,_,_,z⟩=>z
 rais:=λ_ _ H s h' e C args I mx he=>by
  have nH:H e=none:=by
   cases q:H e with
   |none=>rfl
   |some o=>obtain⟨ob,eo⟩:=BM (I.hok e o q);rw[mx.new]at eo;cases eo
  exact he (upd H e (.ext (dJ C e 0 .none))) (cI nH) ⟨0,.none,cK⟩
def bR (n:Nat) (ds:List Dv):Ev:=ds.map some++yx (n - ds.length) none
def aW:Sr->Rs Dv
 | .rt d h=>.ok d h
 | .nx _ h=>.ok .non h
 | .ex c h=>.ex c h
 |_=>.bad
def aT (np n:Nat) (mb:MS):List Dv->Hs->Rs Dv:=λds h=>if ds.length=np then aW (mb (bR n ds) h)else .bad
def cC (G:Cfg) (F:List Dv->Hs->Rs Dv):Sp:=λvs H Q E=>∃μ h ds,RelDL G μ h.length H ds vs/\Sim G μ h H/\Out G E μ h.length H (F ds h) (RelD G) Q
theorem JD {μ:Nat->ai}{n:Nat}{H:Hp}{ds:List Dv}{vs:List V}(r:RelDL G μ n H ds vs) (N:List Str):RelS G μ n H (bR N.length ds) (start N vs):=by
 have hl:=r.length;refine⟨by simp[bR,start,hl],λi d e=>?_⟩;unfold bR at e
 by_cases hi:i<ds.length
 ·rw[fh (by simpa using hi),fe]at e
  cases q:ds[i]? with
  |none=>rw[q]at e;cases e
  |some d'=>rw[q]at e;cases e;obtain⟨v,e1,r1⟩:=r.get q;refine⟨v, ?_,r1⟩;unfold start;rw[fh (by simp;omega),fe,e1];rfl
 ·rw[gv (by simpa using hi),tu]at e
  split at e <;> cases e
def EB (G:Cfg) (μ0:Nat->ai) (n0:Nat) (H0:Hp) (r:Sr):XK:=λu _ H'=>∃c h' μ',r=.ex c h'/\Ext μ0 n0 H0 μ' h'.length H'/\Sim G μ' h' H'/\vZ G H' c u
theorem Sim.sameX {μ:Nat->ai}{h:Hs}{H H':Hp}{e:ai}(s:Sim G μ h H) (sx:tJ e H H') (hx:∃φ,H e=some (.ext φ)):Sim G μ h H'/\∀(n:Nat),Ext μ n H μ n H':=by
 obtain⟨φ,hx⟩:=hx;have x:∀n:Nat,Ext μ n H μ n H':=λn=>⟨ak _,λ_ _=>rfl,λa o i q=>sx a o (by rintro rfl;rw[hx]at q;cases q;exact i) q⟩
 refine⟨⟨s.inj,λi o q=>?_,s.tab.keep λa o _ n2 q=>sx a o (by rintro rfl;rw[hx]at q;cases q;exact n2 _ rfl) q⟩,x⟩;have r:=s.ob i o q
 cases o with
 |lst xs=>obtain⟨vs,e1,r1⟩:=r;exact⟨vs,sx _ _ (nU e1 hx (by intro z;cases z)) e1,RelDL.mono (x _) _ _ r1⟩
theorem BQ {μ0:Nat->ai}{n0:Nat}{H0:Hp}{r:Sr}:BO (EB G μ0 n0 H0 r):=by intro e H H' sx ⟨C,T,a0,T',a0',h1,⟨hp,hx⟩,h3⟩ ⟨c,h',μ',er,x,s,e',φ,eu,h4,h5⟩;cases eu;obtain⟨s2,x2⟩:=s.sameX sx ⟨_,h1⟩;refine⟨c,h',μ',er,x.trans (x2 _),s2,e,_,rfl,h3,λhh z=>?_⟩;rw[h1]at h4;cases h4;obtain⟨o,g1,g2⟩:=h5 hp hx;obtain⟨oe,vs,g3,g4,_⟩:=hx;rw[g3]at g1;cases g1;obtain⟨oe',vs',g5,g6,_⟩:=z;exact⟨oe',g5,by rw[g6,<-g4,g2]⟩
theorem cX {x qual:Str}{st:gz}{fd:bo}{ps:List Str}{mb:MS}(Fn:Fun K x qual st f fd) (S:FnScope N ps (aU st)) (hK:K=G.K)
  (hbody:∀(cdv:af) (A:cf) (outer:List Env) (s:ag) (H:Hp) (E₀ E:XK),Good (gB (bK P w base) P w K mg base N qual (aU st) f cdv A outer s H E₀) G E k->jB (gB (bK P w base) P w K mg base N qual (aU st) f cdv A outer s H E₀) G E (iY st) mb):
  FnOk P w K mg base (bK P w base) (k+1) f fd ps (cC G (aT ps.length N.length mb)):=by
 obtain⟨oc,od,kV,doc,pm,an,cdv,ct,osl,rfl,lk,hcd⟩:=Fn.ex;have hlen:∀vs H Q E,cC G (aT ps.length N.length mb) vs H Q E->vs.length=ps.length:=λvs H Q E ⟨μ,h,ds,r,sm,o⟩=>by
  rw[r.length];unfold aT at o
  by_cases hd:ds.length=ps.length
  ·exact hd
  ·rw[if_neg hd]at o;exact o.elim
 refine AM lk hcd S hlen λA outer s H vs Q E hr hsp=>?_;have hl:=hlen _ _ _ _ hsp;obtain⟨μ,h,ds,r,sm,o⟩:=hsp;have o':Out G E μ h.length H (aW (mb (bR N.length ds) h)) (RelD G) Q:=by unfold aT at o;rw[if_pos (by rw[<-r.length];exact hl)]at o;exact o
 refine⟨_,hbody cdv A outer s H E (EB G μ h.length H (mb (bR N.length ds) h)) (BP hr hK (λu H' ⟨c,h',μ',er,x,s',fl⟩=>?_) BQ) hK, ?_⟩
 ·rw[er]at o';exact o' μ' H' u x s' fl
 ·refine⟨μ,bR N.length ds,h,JD r N,sm, ?_⟩
  cases q:mb (bR N.length ds) h with
  |bad=>rw[q]at o';exact o'.elim
  |bk ρ h'=>rw[q]at o';exact o'.elim
  |ct ρ h'=>rw[q]at o';exact o'.elim
  |rt d h'=>rw[q]at o';exact o'
  |nx ρ h'=>rw[q]at o';exact λμ' H' σ' x' s' rs'=>o' μ' H' .non x' s' rfl
  |ex c h'=>exact λμ' H' u x' s' fl=>⟨c,h',μ',rfl,x',s',fl⟩
theorem JE {X:Cx}{F:List Dv->Hs->Rs Dv}{ps:List Str}{fd:bo}{x:Str}{p pos:Pos}{e:bq}{es:List bq}{ms:M (List Dv)}{j:Nat}(g:Good X G E k) (Fn:FnOk X.prog X.w X.K X.mg X.base (bK X.prog X.w X.base) j f fd ps (cC G F)) (hj:j<=k)
  (hg:Gl X x) (hm:X.mg x=some (.ref f)) (hk:mn X.K (.ref f)=true) (hb:Binds X.K fd ps []) (ha:dM X G E (e::es) ms)
  (hdb:(x==("__debug__" : Str))=false:=by decide) (he:au (e::es) X.env=(false,eval e X.env)::au es X.env:=by rfl) (hpl:(backTo pos (au es X.env)).any (·.1)=false:=by rfl):
  aJ X G E (.Call (.Name x p) (e::es) [] pos) (aE F ms):=λhK=>
 PE.imp (SF Fn (g.room.mono hj) hg hm hk hb .nil g.pas (ha hK) hdb he hpl) λσ H Q ⟨μ,ρ,h,rs,s,o⟩=>kD rs s o λμ1 ds1 h1 vs H1 x1 rs1 s1 r1 o1=>by rw[lj];exact⟨μ1,h1,ds1,r1,s1,o1⟩
end
abbrev wQ:List af:=[.type "ValueError",.type "Exception",.type "BaseException",.type "object"]
theorem VW {K:aq}{mg:Str->Option af}{base:cu}(p:bh) (m:Mod K mg base):∃loose mb,PySem.W.TopRead p loose mg mb base:=by
 obtain⟨mb,hb,hbb⟩:=m.blt;obtain⟨o,es,ep,ho,hd,hk,hf⟩:=id m.glob;refine⟨es.toList.filterMap λe=>match e.key with
  | .str n _=>some n
  |_=>none,mb,m.glob,hb,m.nolimit,hbb,λx _ hx _ _ _=>?_⟩
 rw[<-hf x]
 cases q:nsFind es x with
 |none=>rfl
 |some v=>
  exfalso
  apply hx
  unfold nsFind findBy at q;obtain⟨e,he,_⟩:=Option.map_eq_some_iff.mp q;have h1:=Array.find?_some he;have h2:=Array.mem_of_find?_eq_some he;obtain⟨n,t,hn⟩:=hk e h2;rw[hn]at h1;have h3:n=x:=by simpa[Value.isStr]using h1
  exact jw.mpr ⟨e,by simpa using h2,by rw[hn,h3]⟩
section
variable{X:Cx}{G:Cfg}{E:XK}{k:Nat}{x:Str}{C:ai}{np cpos pos:Pos}{e:bq}{es:List bq}{t:TA}{ms:M (List Dv)}{c:Nat}
theorem VX (g:Good X G E k) (hg:Gl X x) (hm:X.mg x=some (.ref C)) (hns:wc X.K dz x=some (some (.ref C))) (hx:vh X.K C wQ "ValueError.__new__" = true) (ha:PA X (e::es) t) (hd:(x==("__debug__" : Str))=false:=by decide)
  (he:au (e::es) X.env=(false,eval e X.env)::au es X.env:=by rfl) (hpl:(backTo cpos (au es X.env)).any (·.1)=false:=by rfl):
  PS X (.Raise (some (.Call (.Name x np) (e::es) [] cpos)) none pos) (λ_ σ H=>t σ H λvs H1=>vs.length<=bw/\∀e H',Same H1 H'->(∃T a0,H' e=some (.ext (dJ (.ref C) e T a0)))->E (.ref e) none H'):=by
 intro pins s σ H D I h;obtain⟨bm,N,nm,q,bs,hdct,sn,sub,ab,col,dd,k0,k1,k2,k3,k5,mN,hC,hN,hni,T⟩:=(let ⟨_,_,tr⟩:=VW X.prog I.ok.mod;PySem.W.own_of_in I.ok.mod.kin tr hns hx).obj;refine wpAny_Raise_call_subU (C:=C) (nm:=nm) (q:=q) (N:=N) (bs:=bs) (bm:=bm) (hdct:=hdct) (sn:=sn) (sub:=sub) (ab:=ab) (col:=col) (dd:=dd) (k0:=k0) (k1:=k1) (k2:=k2) (k3:=k3) (k5:=k5)
  ye (by decide) ye (mN:=mN) (T.hasType (by decide)) (I.ok.hd g.calm) (by rw[he];show(false||(backTo cpos (au es X.env)).any (·.1))=false;rw[hpl];rfl) hni (sN I hg hm ⟨rfl, ?_⟩ hd)
 have hh:=ha cpos pins s σ H _ I h;rw[he]at hh ⊢;refine vf (aV hh λus s2 ⟨vs,H2,I2,r,hz,w⟩=>⟨rfl,by rw[<-r.length];exact hz,I2.bk _ _ hC,hN.keeps I2.bk,T.keeps I2.bk,λh' e' mx=>?_⟩);exact g.rais pins σ H2 s2 h' e' _ _ I2 mx λH' sm z=>w e' H' sm z
theorem VY {H:Hp}{e:ai}(hc:C=G.cl c) (z:∃T a0,H e=some (.ext (dJ (.ref C) e T a0))):vZ G H c (.ref e):=by obtain⟨T,a0,z⟩:=z;exact⟨e,_,rfl,z,λh ⟨oe,vs,h1,h2,_⟩=>⟨oe,h1,by rw[h2,hc]⟩⟩
def tK (c:Nat) (ms:M (List Dv)):MS:=λρ h=>(ms ρ h).thenS λds h1=>if ds.length<=1000 then .ex c h1 else .bad
theorem JF (g:Good X G E k) (hg:Gl X x) (hm:X.mg x=some (.ref C)) (hns:wc X.K dz x=some (some (.ref C))) (hx:vh X.K C wQ "ValueError.__new__" = true) (hc:C=G.cl c) (ha:dM X G E (e::es) ms) (hd:(x==("__debug__" : Str))=false:=by decide)
  (he:au (e::es) X.env=(false,eval e X.env)::au es X.env:=by rfl) (hpl:(backTo cpos (au es X.env)).any (·.1)=false:=by rfl):
  hW X G E (.Raise (some (.Call (.Name x np) (e::es) [] cpos)) none pos) (tK c ms):=λhK=>PS.imp (VX g hg hm hns hx (ha hK) hd he hpl) λD σ H ⟨μ,ρ,h,rs,s,o⟩=>
 ⟨μ,ρ,h,rs,s,(o.thenS (R:=RelDL G)).mono λvs H1 ⟨μ1,ds,h1,x1,s1,r1,o1⟩=>by
  split at o1
  ·rename_i hl;refine⟨by rw[r1.length];exact dm hl (by decide),λe' H' sm z=>?_⟩;exact o1 μ1 H' (.ref e') (Ext.same sm) (s1.same sm) (VY hc z)
  ·exact o1.elim⟩
end
open PySem.W
section
variable{prog:bh}{w:cn}{A:cf}{E:af->ag->Prop}{h:cu}{g:Array GenState}{d:Drawn}{t:Nat}{os:OsState}{a C:ai}{o:Obj}{K:Frag}
structure ExK (K:Frag) (C:ai):Prop where
 ga:findIn K (.ref C) "__getattribute__" = some (some (.builtin "BaseException.__getattribute__"))
 ng:findIn K (.ref C) "__getattr__" = some none
 cl:findIn K (.ref C) "__class__" = some (some (.builtin "object.__class__"))
 ob:mroIn K C (.type "object")=some true
 be:subIn K (.ref C) (.type "BaseException")=some true
 se:kitCls K (.ref C) (.ref C)=some true
 lk:∃oc od cd osl,K.lookup C=some ⟨oc,od,.cls cd,osl⟩
theorem kindGa:builtinKind "BaseException.__getattribute__" = some .slot/\splitId "BaseException.__getattribute__" = some ("BaseException","__getattribute__"):=by decide +kernel
theorem VZ:(vn "BaseException.__getattribute__" == vn "object.__getattribute__")=false:=by decide +kernel
section
variable{R:yb->ag->Prop}{s:ag}
theorem V0 {M:Bg}{n:af}{Q:Unit->ag->Prop}(X:K.In s.heap) (I:InstAt s.heap a o C none) (k:ExK K C) (hq:Q () s):wpAny M A (checkBuiltinCall "BaseException.__getattribute__" ⟨[.ref a,n],[]⟩) Q E s:=by
 have one:Looks M s.heap (isInstance (.ref a) (.type "BaseException")) true:=I.type.andThen (looks_subIn X k.be);have two:=F.args_bexc_ga (.ref a) n;obtain⟨hh,g,d,t,os⟩:=s;unfold checkBuiltinCall;rw[kindGa.1,kindGa.2];refine aa (one.at ?_)
 repeat (first|assumption|wp_step)
theorem V1 {n:Tok}(X:K.In s.heap) (I:InstAt s.heap a o C none) (k:ExK K C) (hq:R (.ok (.ret (.ref C))) s):codeAny (model prog w) A (.call (.builtin "BaseException.__getattribute__") ⟨[.ref a,.str "__class__" n],[]⟩) R s:=by
 refine oh F.excAttr_ValueError.ga.plain F.entry_bexc_ga (V0 X I k ?_);have own:=I.type (M:=model prog w);have entry:=looks_findIn (M:=model prog w) X k.cl;have of_get:=F.slot_gs_get.lookup;have of_set:=F.slot_gs_set.lookup;have kind:=F.typeOf_object_class;have kindIs:s.TypeIs (.builtin "object.__class__") "getset_descriptor" := kind;obtain⟨hh,g,d,t,os⟩:=s
 repeat (any_goals (first|assumption|with_reducible refine own.at ?_|with_reducible refine entry.at ?_|wp_step))
 exact class_get (s:=⟨hh,g,d,t,os⟩) X I k.ob (by repeat (any_goals (first|assumption|wp_step)))
end
theorem V2 {Q:Option af->ag->Prop}(X:K.In h) (I:InstAt h a o C none) (k:ExK K C) (hq:Q (some (.ref C)) ⟨h,g,d,t+1,os⟩):
  wpAny (model prog w) A (getAttr? (.ref a) "__class__") Q E ⟨h,g,d,t,os⟩:=by
 have own:=I.type (M:=model prog w);have first_:=looks_findIn (M:=model prog w) X k.ga;have then_:=looks_findIn (M:=model prog w) X k.ng;have bound:=F.excAttr_ValueError.ga.bind (.ref a);have other:=VZ;have apart:(onTheHeap (ij C)&&vn "BaseException.__getattribute__" == vn "object.__getattribute__")=false:=by rw[other];rfl
 unfold getAttr? getAttrBy?
 repeat (any_goals (first|assumption|with_reducible refine own.at ?_|with_reducible refine first_.at ?_|with_reducible refine then_.at ?_|wp_step))
 exact V1 X I k (by repeat (any_goals (first|assumption|wp_step)))
def V3 (a C:ai) (h:cu):Prop:=∃o,InstAt h a o C none
theorem V4 (k:ExK K C):KitX K (.ref a) (.ref C) (V3 a C) where
 ty:=λ_ _ _ ⟨_,I⟩=>I.type
 it:=λ_ _ X _=>(kit_cls X k.se).2.1
 ne:=λh tp dd its n sl X htp=>by
  cases z:(ij C==ij tp)with
  |false=>rfl
  |true=>
   obtain rfl:C=tp:=by simpa using z
   obtain⟨oc,od,cd,osl,lk⟩:=k.lk;have:=X _ _ lk;rw[htp]at this;simp at this
 ca:=λ{prog w A E Q s} X ⟨o,I⟩ hq=>by obtain⟨hh,g,d,t,os⟩:=s;exact V2 X I k hq
end
inductive Ty where
 |non|bl|int|str|tup|lst|dct|exc (c:Nat)
def hX:Dv->Hs->Option Ty
 | .non,_=>some .non
 | .bl _,_=>some .bl
 | .int _,_=>some .int
 | .str _,_=>some .str
 | .tup _,_=>some .tup
 | .ref i,h=>match getL h i with
  |some _=>some .lst
  |none=>none
 | .edc,_=>some .dct
 | .exc c,_=>some (.exc c)
 | .scr,_=>none
def lF (cl:Nat->ai):Ty->af
 | .non=>.type "NoneType"
 | .bl=>.type "bool"
 | .int=>.type "int"
 | .str=>.type "str"
 | .tup=>.type "tuple"
 | .lst=>.type "list"
 | .dct=>.type "dict"
 | .exc c=>.ref (cl c)
def bD (f:Ty->Option Bool) (d:Dv) (h:Hs):Rs Dv:=match hX d h with
 |some ty=>match f ty with
  |some b=>.ok (.bl b) h
  |none=>.bad
 |none=>.bad
section
variable{X:Cx}{G:Cfg}{E:XK}{pins:List (ai×Obj)}{σ:St}{H:Hp}{s:ag}
theorem JG {μ:Nat->ai}{h:Hs}{d:Dv}{v:V}{u:af}{ty:Ty}(I:Inv X pins σ H s) (sm:Sim G μ h H) (r:RelD G μ h.length H d v) (ru:RelV v u) (e:hX d h=some ty) (hex:∀c,ty=.exc c->ExK X.K (G.cl c)):
  ∃P,KitX X.K u (lF G.cl ty) P/\P s.heap/\u≠.builtin "__main__.__loader__#opaque":=by
 cases d with
 |non=>cases e;rw[RelD]at r;subst r;cases ru;exact⟨_,kitx_none,trivial,λz=>nomatch z⟩
 |bl b=>cases e;rw[RelD]at r;subst r;cases ru;exact⟨_,kitx_bool,trivial,λz=>nomatch z⟩
 |int i=>cases e;rw[RelD]at r;subst r;obtain⟨t,rfl⟩:=ru;exact⟨_,kitx_int,trivial,λz=>nomatch z⟩
 |str i=>cases e;rw[RelD]at r;subst r;obtain⟨t,rfl⟩:=ru;exact⟨_,kitx_str,trivial,λz=>nomatch z⟩
 |tup ds=>
  cases e;obtain⟨a,vs,rfl,ea,_⟩:=r;cases ru;obtain⟨_,_,_,o,h1,h2,_⟩:=(show ObjOk X.prog X.w H s.heap a (.tup vs) from I.hok a _ ea)
  exact⟨_,kitx_tuple,⟨o,h1,h2⟩,λz=>nomatch z⟩
 |ref i=>
  dsimp only[hX]at e
  cases g:getL h i with
  |none=>rw[g]at e;cases e
  |some xs=>
   rw[g]at e;cases e;obtain⟨_,rfl⟩:=r;cases ru;obtain⟨vs,ea,_⟩:=sm.ob i _ (cY g);obtain⟨_,_,n,_,h1⟩:=(show ObjOk X.prog X.w H s.heap (μ i) (.lst vs) from I.hok _ _ ea)
   exact⟨_,kitx_list,⟨_,h1,rfl⟩,λz=>nomatch z⟩
 |edc=>
  cases e;obtain⟨a,rfl,ea⟩:=r;cases ru;obtain⟨_,_,vs,_,p⟩:=(show ObjOk X.prog X.w H s.heap a (.dK []) from I.hok a _ ea)
  obtain⟨o,es,ep,h1,h2,_⟩:=p;exact⟨_,kitx_dict,⟨o,h1,h2.1⟩,λz=>nomatch z⟩
 |exc c=>
  cases e;obtain⟨a,o,uo,rfl,ea,hc,hdn,vs,hd⟩:=r;cases ru;obtain⟨h1,_⟩:=(show ObjOk X.prog X.w H s.heap a (.frz o uo) from I.hok a _ ea)
  refine⟨_,V4 (hex c rfl),⟨o,h1,hc, ?_, ?_⟩,λz=>nomatch z⟩
  ·unfold notCls;rw[hd]
  ·rw[hdn];trivial
 |scr=>cases e
end
section
variable{X:Cx}{G:Cfg}{E:XK}{a b:bq}{ma:M Dv}{p pos:Pos}{f:Ty->Option Bool}
theorem JH:dw "isinstance" = some (.builtin "isinstance"):=by decide +kernel
def JI (G:Cfg) (f:Ty->Option Bool) (c:V):List V->Hp->VK->Prop:=λxs H Q=>∃μ h d v ty bb,xs=[v,c]/\Sim G μ h H/\RelD G μ h.length H d v/\hX d h=some ty/\f ty=some bb/\Q (.bl bb) H
theorem V5 {c:V}{u:af}(hc:(∃T,c=.ty T)∨∃C,c=.ref C) (rc:RelV c u) (hf:∀ty bb,f ty=some bb->kitOne X.K (lF G.cl ty) u=some bb) (hex:∀c bb,f (.exc c)=some bb->ExK X.K (G.cl c)):CallR X (.builtin "isinstance") (JI G f c):=by
 intro pins s σ H xs us Q I rv ⟨μ,h,d,v,ty,bb,e1,sm,r,et,ef,q⟩;subst e1;obtain⟨u1,u2,rfl,r1,r2⟩:=sQ rv;have e2:u2=u:=by rcases hc with⟨T,rfl⟩|⟨C,rfl⟩ <;> (cases rc;cases r2;rfl)
 subst e2;obtain⟨P,Z,hP,hne⟩:=JG I sm r r1 et (λc z=>by subst z;exact hex c bb ef);exact kia_one Z I.kIn hP (hf ty bb ef) hne λtk=>⟨.bl bb,H,I.tok _,rfl,q⟩
theorem pN {x:Str}{T:String}(hg:Gl X x) (hm:X.mg x=none) (hv:dw x=some (.type T)) (hn:x ≠ "__name__" := by decide) (hd:(x==("__debug__" : Str))=false:=by decide):PE X (.Name x pos) (tC (.ty T)):=λpins s σ H Q I h=>pE I hg hm hv ⟨.ty T,H,I,rfl,h⟩ hn hd
theorem qW {c:V}{u:af}(hg:Gl X "isinstance") (hm:X.mg "isinstance" = none) (ha:aJ X G E a ma) (hb:PE X b (tC c)) (hc:(∃T,c=.ty T)∨∃C,c=.ref C) (rc:RelV c u)
  (hf:∀ty bb,f ty=some bb->kitOne G.K (lF G.cl ty) u=some bb) (hex:∀c bb,f (.exc c)=some bb->ExK G.K (G.cl c))
  (he:au [a,b] X.env=[(false,eval a X.env),(false,eval b X.env)]:=by rfl) (he2:au [b] X.env=[(false,eval b X.env)]:=by rfl):
  aJ X G E (.Call (.Name "isinstance" p) [a,b] [] pos) (m1 (bD f) ma):=λhK=>
 PE.imp (qJ (V5 (G:=G) (f:=f) hc rc (by rw[hK];exact hf) (by rw[hK];exact hex)) hg hm JH (hO (ha hK) (hO hb iX he2) (by rw[he,he2])) (by decide) (by decide) (by rw[he,he2]) (by rw[he2];rfl))
  λσ H Q ⟨μ,ρ,h,rs,s,o⟩=>eI rs s o λμ1 d h1 v H1 x1 rs1 s1 r1 o1=>by
   show JI G f c [v,c] H1 Q;unfold bD at o1
   cases q:hX d h1 with
   |none=>rw[q]at o1;exact o1.elim
   |some ty=>
    rw[q]at o1;dsimp only at o1
    cases q2:f ty with
    |none=>rw[q2]at o1;exact o1.elim
    |some bb=>rw[q2]at o1;exact⟨μ1,h1,d,v,ty,bb,rfl,s1,r1,q,q2,o1.val s1 rfl⟩
def JJ (G:Cfg) (f:Ty->Option Bool) (cs:List V):List V->Hp->VK->Prop:=λxs H Q=>∃μ h d v ty bb tp,xs=[v,.ref tp]/\H tp=some (.tup cs)/\Sim G μ h H/\RelD G μ h.length H d v/\hX d h=some ty/\f ty=some bb/\Q (.bl bb) H
theorem V6 {cs:List V}{us:List af}(hcs:∀us',Vals cs us'->us'=us) (hf:∀ty bb,f ty=some bb->kitAny X.K (lF G.cl ty) us=some bb) (hex:∀c bb,f (.exc c)=some bb->ExK X.K (G.cl c)):CallR X (.builtin "isinstance") (JJ G f cs):=by
 intro pins s σ H xs uu Q I rv ⟨μ,h,d,v,ty,bb,tp,e1,etp,sm,r,et,ef,q⟩;subst e1;obtain⟨u1,u2,rfl,r1,r2⟩:=sQ rv;cases r2;obtain⟨_,its,rits,o,h1,h2,_,n,h3⟩:=(show ObjOk X.prog X.w H s.heap tp (.tup cs) from I.hok tp _ etp)
 have eits:=hcs its rits;subst eits;obtain⟨oc,od,odata,osl⟩:=o
 cases h2;cases h3
 obtain⟨P,Z,hP,hne⟩:=JG I sm r r1 et (λc z=>by subst z;exact hex c bb ef);exact kia_tup Z I.kIn hP h1 (hf ty bb ef) hne λtk=>⟨.bl bb,H,I.tok _,rfl,q⟩
theorem V7 {cs:List V}{us:List af}{bs:List bq}{kt:Nat}{tpos:Pos}(hg:Gl X "isinstance") (hm:X.mg "isinstance" = none) (ha:aJ X G E a ma) (hb:PA X bs (λ_ H Q=>Q cs H)) (hl:cs.length<=bw) (hcs:∀us',Vals cs us'->us'=us)
  (hf:∀ty bb,f ty=some bb->kitAny G.K (lF G.cl ty) us=some bb) (hex:∀c bb,f (.exc c)=some bb->ExK G.K (G.cl c))
  (he:au [a,.Tuple bs kt tpos] X.env=[(false,eval a X.env),(false,eval (.Tuple bs kt tpos) X.env)]:=by rfl) (he2:au [.Tuple bs kt tpos] X.env=[(false,eval (.Tuple bs kt tpos) X.env)]:=by rfl):
  aJ X G E (.Call (.Name "isinstance" p) [a,.Tuple bs kt tpos] [] pos) (m1 (bD f) ma):=λhK=>
 PE.imp (qJ (V6 (G:=G) (f:=f) hcs (by rw[hK];exact hf) (by rw[hK];exact hex)) hg hm JH (hO (ha hK) (hO (G1 hb) iX he2) (by rw[he,he2])) (by decide) (by decide) (by rw[he,he2]) (by rw[he2];rfl))
  λσ H Q ⟨μ,ρ,h,rs,s,o⟩=>eI rs s o λμ1 d h1 v H1 x1 rs1 s1 r1 o1=>by
   refine⟨hl,λtp htp=>?_⟩;show JJ G f cs [v,.ref tp] (upd H1 tp (.tup cs)) Q;unfold bD at o1
   cases q:hX d h1 with
   |none=>rw[q]at o1;exact o1.elim
   |some ty=>
    rw[q]at o1;dsimp only at o1
    cases q2:f ty with
    |none=>rw[q2]at o1;exact o1.elim
    |some bb=>rw[q2]at o1;have x2:Ext μ1 h1.length H1 μ1 h1.length (upd H1 tp (.tup cs)):=Ext.same (cI htp);exact⟨μ1,h1,d,v,ty,bb,tp,rfl,cK,s1.same (cI htp),RelD.mono x2 _ _ r1,q,q2,o1 μ1 _ _ x2 (s1.same (cI htp)) rfl⟩
end
def oE:Dv->Option Bool
 | .bl b=>some b
 |_=>none
theorem BR {G:Cfg}{μ:Nat->ai}{n:Nat}{H:Hp}:∀{xs:List Dv}{vs:List V}{bs:List Bool},RelDL G μ n H xs vs->bJ oE xs=some bs->vs=bs.map V.bl
 | [],vs,bs,r,e=>by cases e;rw[RelDL]at r;exact r
 |x::xs,vs,bs,r,e=>by
  rw[RelDL]at r;obtain⟨v,rr,rfl,r1,r2⟩:=r;unfold bJ at e
  cases x with
  |bl b=>
   dsimp only[oE]at e
   cases q:bJ oE xs with
   |none=>rw[q]at e;cases e
   |some zs=>rw[q]at e;cases e;rw[RelD]at r1;subst r1;rw[BR r2 q];rfl
  |_=>cases e
section
variable{X:Cx}{pins:List (ai×Obj)}{σ:St}{H:Hp}{s:ag}
theorem V8 (bs:List Bool):(bf bs.length).all (λi=>bs.getD i false)=bs.all id:=by
 rw[dh,fj,fj];constructor
 ·intro h b hb;obtain⟨i,hi,rfl⟩:=qe.mp hb;simpa[ow,hi]using h i (br.mpr hi)
 ·intro h i hi;have hi:=br.mp hi;simpa[ow,hi]using h _ (cx hi)
theorem V9 (bs:List Bool):(bf bs.length).any (λi=>bs.getD i false)=bs.any id:=by
 rw[dh,pw,pw];constructor
 ·rintro ⟨i,hi,h⟩
  have hi:=br.mp hi;exact⟨bs[i],cx hi,by simpa[ow,hi]using h⟩
 ·rintro ⟨b,hb,h⟩
  obtain⟨i,hi,rfl⟩:=qe.mp hb;exact⟨i,br.mpr hi,by simpa[ow,hi]using h⟩
theorem WA {bs:List Bool}{its:List af}(rv:Vals (bs.map V.bl) its) {i:Nat}{v:af}(e:its.toArray[i]?=some v):v=.bool (bs.getD i false):=by
 have hl:=rv.length;rw[bj]at hl;have e':its[i]?=some v:=by simpa using e
 have hi:i<its.length:=(ba.mp e').1;have hb:i<bs.length:=by omega
 obtain⟨u,e2,r⟩:=rv.get (i:=i) (x:=V.bl bs[i]) (by simp[hb]);rw[e']at e2;cases e2;have hg:bs.getD i false=bs[i]:=by simp[ow,hb]
 rw[hg];exact r
theorem JK {bs:List Bool}{its:List af}{A:cf}(rv:Vals (bs.map V.bl) its):TruthOf X.prog X.w A (λi v=>its.toArray[i]?=some v) (λi=>bs.getD i false):=by intro i v s Q E e q;rw[WA rv e];exact kg q
theorem BS {o:Obj}{h':cu}{tk:Nat}(I:Inv X pins σ H s) (k:∀b u,b∉[s.heap.objs.size]->(s.heap.push o).get? b=some u->h'.get? b=some u):Inv X pins σ H { s with heap:=h',toks:=tk }:=by have I1:Inv X pins σ H { s with heap:=s.heap.push o }:=I.kept (t':=s.toks) λb u e=>aj _ e;obtain⟨f0,f1,f2,f3,f4,f5⟩:=I.fpOk (ak s.heap.objs.size) I.fresh;exact I1.turned (t':=tk) (λb u hb e=>k b u (by simpa using hb) e) f0 f1 f3 f4 f5
theorem WB (hc:X.calm=true):CallR X (.builtin "all") (λxs H Q=>∃(p:ai) (bs:List Bool),xs=[.ref p]/\H p=some (.lst (bs.map V.bl))/\Q (.bl (bs.all id)) H):=by
 intro pins s σ H xs us Q I rv ⟨p,bs,e,hp,q⟩;subst e;obtain⟨u,rfl,ru⟩:=hJ rv;cases ru;obtain⟨its,rits,pl,hz⟩:=I.list (SqL.of hp);have hn:its.toArray.size=bs.length:=by have:=rits.length;simp at this ⊢;omega
 have ne:p≠s.heap.objs.size:=az (I.hok.lt hp);refine call_all_walk (nq pl.isList ⟨_,_,_,_,_,_,λi=>bs.getD i false,rfl,we (A:=X.A.in1) (show X.A.in1.handled=none from I.ok.hd hc) _ p ne its.toArray,⟨⟨_,ax _ rfl,rfl,rfl⟩,pl.isList.push _⟩,JK rits,λh' tk k=>?_⟩);rw[hn,V8];exact⟨.bl _,H,(BS (tk:=tk) I k:Inv X pins σ H { s with heap:=h',toks:=tk }),rfl,q⟩
theorem WC (hc:X.calm=true):CallR X (.builtin "any") (λxs H Q=>∃(p:ai) (bs:List Bool),xs=[.ref p]/\H p=some (.lst (bs.map V.bl))/\Q (.bl (bs.any id)) H):=by
 intro pins s σ H xs us Q I rv ⟨p,bs,e,hp,q⟩;subst e;obtain⟨u,rfl,ru⟩:=hJ rv;cases ru;obtain⟨its,rits,pl,hz⟩:=I.list (SqL.of hp);have hn:its.toArray.size=bs.length:=by have:=rits.length;simp at this ⊢;omega
 have ne:p≠s.heap.objs.size:=az (I.hok.lt hp);refine call_any_walk (nq pl.isList ⟨_,_,_,_,_,_,λi=>bs.getD i false,rfl,we (A:=X.A.in1) (show X.A.in1.handled=none from I.ok.hd hc) _ p ne its.toArray,⟨⟨_,ax _ rfl,rfl,rfl⟩,pl.isList.push _⟩,JK rits,λh' tk k=>?_⟩);rw[hn,V9];exact⟨.bl _,H,(BS (tk:=tk) I k:Inv X pins σ H { s with heap:=h',toks:=tk }),rfl,q⟩
end
section
variable{X:Cx}{G:Cfg}{E:XK}{e:bq}{ml:M (List Dv)}{x:Str}{p pos:Pos}{bid T:String}
def mL (f:List Dv->Hs->Rs Dv) (ml:M (List Dv)):M Dv:=λρ h=>(ml ρ h).bind f
def JL (G:Cfg) (r:List V->Hp->VK->Prop) (f:List Dv->Hs->Rs Dv):Prop:=∀(E:XK) (μ:Nat->ai) (h:Hs) (H:Hp) (xs:List Dv) (a:ai) (vs:List V) (Q:VK),Sim G μ h H->H a=some (.lst vs)->RelDL G μ h.length H xs vs->Out G E μ h.length H (f xs h) (RelD G) Q->r [.ref a] H Q
theorem WD {r:List V->Hp->VK->Prop}{f:List Dv->Hs->Rs Dv}(hd:JL G r f) {σ:St}{H:Hp}{Q:VK}(t:hV G E (mL f ml) σ H Q):vS r (GZ (wM G E ml) GY) σ H Q:=by obtain⟨μ,ρ,h,rs,s,o⟩:=t;refine⟨μ,ρ,h,rs,s,(o.bind (R1:=RL G)).mono λv H1 ⟨μ1,xs,h1,x1,s1,⟨a,vs,ev,ea,_,r1⟩,o1⟩=>?_⟩;subst ev;exact hd E μ1 h1 H1 xs a vs Q s1 ea r1 o1
theorem JM {r:List V->Hp->VK->Prop}{f:List Dv->Hs->Rs Dv}(hc:CallR X (.builtin bid) r) (hd:JL G r f) (hg:Gl X x) (hm:X.mg x=none) (hv:dw x=some (.builtin bid)) (ha:pM X G E e ml) (hn:x ≠ "__name__" := by decide) (hdb:(x==("__debug__" : Str))=false:=by decide)
  (he:au [e] X.env=[(false,eval e X.env)]:=by rfl):aJ X G E (.Call (.Name x p) [e] [] pos) (mL f ml):=λhK=>
 PE.imp (qJ hc hg hm hv (hO (ha hK) iX he) hn hdb he rfl) λ_ _ _ t=>WD hd t
theorem WE:dw "all" = some (.builtin "all"):=by decide +kernel
theorem WG:dw "any" = some (.builtin "any"):=by decide +kernel
def iO (xs:List Dv) (h:Hs):Rs Dv:=match bJ oE xs with
 |some bs=>.ok (.bl (bs.all id)) h
 |none=>.bad
def tL (xs:List Dv) (h:Hs):Rs Dv:=match bJ oE xs with
 |some bs=>.ok (.bl (bs.any id)) h
 |none=>.bad
theorem qX (hc:X.calm=true) (hg:Gl X "all") (hm:X.mg "all" = none) (ha:pM X G E e ml) (he:au [e] X.env=[(false,eval e X.env)]:=by rfl):aJ X G E (.Call (.Name "all" p) [e] [] pos) (mL iO ml):=
 JM (WB hc) (λE μ h H xs a vs Q s ea r o=>by
  unfold iO at o
  cases q:bJ oE xs with
  |none=>rw[q]at o;exact o.elim
  |some bs=>rw[q]at o;exact⟨a,bs,rfl,by rw[ea,BR r q],o.val s rfl⟩) hg hm WE ha (by decide) (by decide) he
theorem WH (hc:X.calm=true) (hg:Gl X "any") (hm:X.mg "any" = none) (ha:pM X G E e ml) (he:au [e] X.env=[(false,eval e X.env)]:=by rfl):aJ X G E (.Call (.Name "any" p) [e] [] pos) (mL tL ml):=
 JM (WC hc) (λE μ h H xs a vs Q s ea r o=>by
  unfold tL at o
  cases q:bJ oE xs with
  |none=>rw[q]at o;exact o.elim
  |some bs=>rw[q]at o;exact⟨a,bs,rfl,by rw[ea,BR r q],o.val s rfl⟩) hg hm WG ha (by decide) (by decide) he
end
section
variable{X:Cx}{G:Cfg}{E:XK}{o e i:bq}{mo me mi:M Dv}{ml:M (List Dv)}{pos apos cpos:Pos}
theorem WI {H:Hp}{a:ai}{vs:List V}(e:H a=some (.lst vs)):vT X.K "list" (.ref a) H:=.inl ⟨rfl,vs,SqL.of e⟩
def pO (o d:Dv) (h:Hs):Rs Dv:=match o with
 | .ref j=>match getL h j with
  |some xs=>if xs.length<1000000 then .ok .non (h.set j (.lst (xs++[d])))else .bad
  |none=>.bad
 |_=>.bad
def jF (o:Dv) (h:Hs):Bool:=match o with
 | .ref j=>(getL h j).isSome
 |_=>false
def kK (mo me:M Dv):M Dv:=λρ h=>(mo ρ h).bind λx h1=>if jF x h1=true then(me ρ h1).bind λd h2=>pO x d h2 else .bad
theorem BU {μ:Nat->ai}{h:Hs}{H:Hp}{x:Dv}{v:V}(s:Sim G μ h H) (r:RelD G μ h.length H x v) (e:jF x h=true):vT X.K "list" v H:=by
 cases x with
 |ref j=>obtain⟨xs,q⟩:=yy.mp (show(getL h j).isSome=true from e);obtain⟨vs,ea,_⟩:=s.ob j _ (cY q);obtain⟨_,rfl⟩:=r;exact WI ea
 |_=>cases e
theorem BV {y:Str}{np:Pos}(ho:aJ X G E (.Name y np) mo) (he:aJ X G E e me) (hs:au [e] X.env=[(false,eval e X.env)]:=by rfl) (hl:(apos.endLine==cpos.line)=true:=by rfl):aJ X G E (.Call (.Attribute (.Name y np) "append" apos) [e] [] cpos) (kK mo me):=λhK=>
 PE.imp (AV si PySem.F.slot_list_append PySem.F.type_list_append TX (ho hK) (hO (he hK) iX hs) rfl (by rw[hs];rfl) hl hs rfl) λσ H Q ⟨μ,ρ,h,rs,s,oo⟩=>eI rs s oo λμ1 x h1 vx H1 x1 rs1 s1 r1 o1=>by
  split at o1
  ·rename_i hl;refine⟨BU s1 r1 hl,eI rs1 s1 o1 λμ2 d h2 vd H2 x2 rs2 s2 r2 o2=>?_⟩
   cases x with
   |ref j=>
    dsimp only[pO]at o2
    cases q:getL h2 j with
    |none=>rw[q]at o2;exact o2.elim
    |some xs=>
     rw[q]at o2;dsimp only at o2
     split at o2
     ·rename_i hz;obtain⟨vs,ea,ra⟩:=s2.ob j _ (cY q);obtain⟨_,rfl⟩:=RelD.mono x2 _ _ r1;obtain⟨x3,s3⟩:=s2.write (cY q) (ra.append (RelDL.cons r2 RelDL.nil));exact⟨_,vs,vd,rfl,rfl,ea,by rw[ra.length];exact aw hz (by decide),o2 μ2 _ _ x3 s3 rfl⟩
     ·exact o2.elim
   |_=>exact o2.elim
  ·exact o1.elim
end
section
variable{X:Cx}{G:Cfg}{E:XK}{e i:bq}{mo me mi:M Dv}{ml:M (List Dv)}{pos apos cpos np:Pos}{y:Str}
def wR (o:Dv) (ys:List Dv) (h:Hs):Rs Dv:=match o with
 | .ref j=>match getL h j with
  |some xs=>lim (xs.length+ys.length) (.ok .non (h.set j (.lst (xs++ys))))
  |none=>.bad
 |_=>.bad
def pP (mo:M Dv) (ml:M (List Dv)):M Dv:=λρ h=>(mo ρ h).bind λx h1=>if jF x h1=true then(ml ρ h1).bind λys h2=>wR x ys h2 else .bad
theorem WJ (ho:aJ X G E (.Name y np) mo) (he:pM X G E e ml) (hs:au [e] X.env=[(false,eval e X.env)]:=by rfl) (hl:(apos.endLine==cpos.line)=true:=by rfl):aJ X G E (.Call (.Attribute (.Name y np) "extend" apos) [e] [] cpos) (pP mo ml):=λhK=>
 PE.imp (AV si PySem.F.slot_list_extend PySem.F.type_list_extend TZ (ho hK) (hO (he hK) iX hs) rfl (by rw[hs];rfl) hl hs rfl) λσ H Q ⟨μ,ρ,h,rs,s,oo⟩=>eI rs s oo λμ1 x h1 vx H1 x1 rs1 s1 r1 o1=>by
  split at o1
  ·rename_i hl;refine⟨BU s1 r1 hl,μ1,ρ,h1,rs1,s1,(o1.bind (R1:=RL G)).mono λv H2 ⟨μ2,ys,h2,x2,s2,⟨b,ws,ev,eb,nb,rb⟩,o2⟩=>?_⟩;subst ev
   cases x with
   |ref j=>
    dsimp only[wR]at o2
    cases q:getL h2 j with
    |none=>rw[q]at o2;exact o2.elim
    |some xs=>
     rw[q]at o2;dsimp only at o2;unfold lim at o2
     split at o2
     ·rename_i hz;obtain⟨vs,ea,ra⟩:=s2.ob j _ (cY q);obtain⟨_,rfl⟩:=RelD.mono x2 _ _ r1;obtain⟨x3,s3⟩:=s2.write (cY q) (ra.append rb);exact⟨_,b,vs,ws,rfl,rfl,ea,eb,by rw[ra.length,rb.length];exact tE hz,o2 μ2 _ _ x3 s3 rfl⟩
     ·exact o2.elim
   |_=>exact o2.elim
  ·exact o1.elim
def iP (o i d:Dv) (h:Hs):Option Hs:=match o,i with
 | .ref j,.int k=>match getL h j with
  |some xs=>match dX xs.length k with
   |some n=>some (h.set j (.lst (xs.set n d)))
   |none=>none
  |none=>none
 |_,_=>none
def tM (mo mi me:M Dv):MS:=λρ h=>(me ρ h).thenS λd h1=>(mo ρ h1).thenS λo h2=>(mi ρ h2).thenS λi h3=>match iP o i d h3 with
 |some h4=>.nx ρ h4
 |none=>.bad
theorem JN {o:bq}{spos:Pos}(ho:aJ X G E o mo) (hi:aJ X G E i mi) (he:aJ X G E e me)
  (ha:∀v,assign (.Subscript o i spos) X.env v=(do
   let ov <-holding [v] (eval o X.env)
   let iv <-holding [v,ov] (eval i X.env)
   standAt spos
   holding [v,ov,iv] (setItem ov iv v)
   release [v,ov,iv] []):=by intro _;rfl)
  (hs:swapsWithSole [.Subscript o i spos] e pos.line X.env=pure false:=by rfl) (hw:swappedStores [.Subscript o i spos] e X.env=pure none:=by rfl)
  (h1:(assignEach [.Subscript o i spos] X.env).map (·.2)=[assign (.Subscript o i spos) X.env]:=by rfl):hW X G E (.Assign [.Subscript o i spos] e pos) (tM mo mi me):=λhK=>
 PS.imp (AE (he hK) (AD (ho hK) (hi hK) AU ha) hs hw h1) λD σ H ⟨μ,ρ,h,rs,s,oo⟩=>jC rs s oo λμ1 d h1 v H1 x1 rs1 s1 r1 o1=>jC rs1 s1 o1 λμ2 ob h2 vo H2 x2 rs2 s2 r2 o2=>jC rs2 s2 o2 λμ3 ix h3 vi H3 x3 rs3 s3 r3 o3=>by
  cases ob with
  |ref j=>
   cases ix with
   |int k=>
    dsimp only[iP]at o3
    cases q:getL h3 j with
    |none=>rw[q]at o3;exact o3.elim
    |some xs=>
     rw[q]at o3;dsimp only at o3
     cases q2:dX xs.length k with
     |none=>rw[q2]at o3;exact o3.elim
     |some n=>rw[q2]at o3;obtain⟨vs,ea,ra⟩:=s3.ob j _ (cY q);obtain⟨_,rfl⟩:=RelD.mono x3 _ _ r2;rw[RelD]at r3;subst r3;obtain⟨x4,s4⟩:=s3.write (cY q) (RelDL.set (RelD.mono (x2.trans x3) _ _ r1) n ra);exact⟨_,vs,k,n,rfl,rfl,ea,by rw[ra.length];exact q2,o3 μ3 _ σ x4 s4 (rs3.mono x4)⟩
   |_=>exact o3.elim
  |_=>cases ix <;> exact o3.elim
end
section
variable{prog:bh}{w:cn}{A:cf}{E:af->ag->Prop}{s:ag}
theorem WK {it t:ai}{i:Nat}{items:Array af}{x:af}{Q:af->ag->Prop}(hit:s.heap.IsTupleIter it t i) (ht:s.heap.IsTuple t items) (hx:items[i]?=some x)
  (k:∀h',h'.IsTupleIter it t (i+1)->je it s.heap h'->Q x { s with heap:=h' }):wpAny (model prog w) A (fw (.ref it)) Q E s:=by
 obtain⟨o,ho,hc,hd⟩:=id hit;obtain⟨ol,hol,hcl,nl,hdl⟩:=id ht;refine aa (gm (name:=lh "__next__") hit.typeIs F.slot_tuple_iterator_next (fv F.slot_tuple_iterator_next hit.typeIs F.entry_tuple_iterator_next ?_ (F.args_tuple_iterator_next_1 _)));have q0:∀{Q':af->ag->Prop}{E':af->ag->Prop}{B:cf},Q' (.ref t) s->wpAny (model prog w) B (field (.ref it) 0) Q' E' s:=λq=>fi ho hd (x:=.ref t) rfl q;have q1:∀{Q':af->ag->Prop}{E':af->ag->Prop}{B:cf},Q' (.int i 0) s->wpAny (model prog w) B (field (.ref it) 1) Q' E' s:=λq=>fi ho hd (x:=.int i 0) rfl q;refine aa (ah (aa (q0 ?_)));dsimp only;rw[if_neg (by simp)];refine aa (q1 (aa (iz hol hdl ?_)));rw[show((i:Int)).toNat=i from gr i];dsimp only;rw[hx];refine aa (Cj ho hd (by simp) (ah ⟨x,rfl,ah (k _ ⟨_,jx _ ho (Ct (wo hd _)), ?_, ?_⟩ (ph ..))⟩))
 ·rw[Obj.cls_mapFields];exact hc
 ·rw[wo hd];simp[rawInt]
end
section
variable{prog:bh}{w:cn}{A:cf}{E:af->ag->Prop}{s:ag}
theorem WL {α:Type}{Q:α->ag->Prop}(hh:A.handled=none) (k:∀h' e,(∀b o,s.heap.get? b=some o->h'.get? b=some o)->(∃o,h'.get? e=some o/\o.cls=.type "StopIteration")->E (.ref e) { s with heap:=h' }):
  wpAny (model prog w) A (tm:Sem α) Q E s:=by
 have e0:firstArgMember (.type "StopIteration") []=pure ju:=by show(pure (if _ then ju else ju):Sem af)=_;rw[ite_self]
 unfold tm newExc newTuple;refine aa (aa (dg (aa (ug e0 (dg (wpAny_raiseNew_none hh (k _ _ (λb o q=>aj _ (aj _ q)) ⟨_,ax _ rfl,rfl⟩)) (by size_fits)))) (by size_fits)))
theorem WM {it t:ai}{i:Nat}{items:Array af}{Q:af->ag->Prop}(hh:A.handled=none) (hit:s.heap.IsTupleIter it t i) (ht:s.heap.IsTuple t items) (hx:items[i]?=none)
  (k:∀h' e,Cu it s.heap h'->(∃o,h'.get? e=some o/\o.cls=.type "StopIteration")->E (.ref e) { s with heap:=h' }):wpAny (model prog w) A (fw (.ref it)) Q E s:=by
 obtain⟨o,ho,hc,hd⟩:=id hit;obtain⟨ol,hol,hcl,nl,hdl⟩:=id ht;refine aa (gm (name:=lh "__next__") hit.typeIs F.slot_tuple_iterator_next (fv F.slot_tuple_iterator_next hit.typeIs F.entry_tuple_iterator_next ?_ (F.args_tuple_iterator_next_1 _)));have q0:∀{Q':af->ag->Prop}{E':af->ag->Prop}{B:cf},Q' (.ref t) s->wpAny (model prog w) B (field (.ref it) 0) Q' E' s:=λq=>fi ho hd (x:=.ref t) rfl q;have q1:∀{Q':af->ag->Prop}{E':af->ag->Prop}{B:cf},Q' (.int i 0) s->wpAny (model prog w) B (field (.ref it) 1) Q' E' s:=λq=>fi ho hd (x:=.int i 0) rfl q;refine aa (ah (aa (q0 ?_)));dsimp only;rw[if_neg (by simp)];refine aa (q1 (aa (iz hol hdl ?_)));rw[show((i:Int)).toNat=i from gr i];dsimp only;rw[hx];refine aa (ql (aa (Cj ho hd (by simp) (WL (show A.in1.handled=none from hh) λh' e kp st=>k h' e (λb u hb q=>kp b u ?_) st))));rw[kv _ _ (cy hb)];exact q
end
structure Draws (prog:bh) (w:cn) (it src:ai) (xs:List af) (st:Nat->cu->Prop):Prop where
 keep:∀i h h',st i h->(∀b o,b=it∨b=src->h.get? b=some o->h'.get? b=some o)->st i h'
 there:∀i h,st i h->∃o vs,h.get? it=some o/\o.data=.fields vs
 item:∀(A:cf) (i:Nat) (x:af) (s:ag) (Q:af->ag->Prop) (E:af->ag->Prop),xs[i]?=some x->st i s.heap->
  (∀h',st (i+1) h'->je it s.heap h'->Q x { s with heap:=h' })->wpAny (model prog w) A (fw (.ref it)) Q E s
 done:∀(A:cf) (i:Nat) (s:ag) (Q:af->ag->Prop) (E:af->ag->Prop),A.handled=none->xs[i]?=none->st i s.heap->
  (∀h' e,Cu it s.heap h'->(∃o,h'.get? e=some o/\o.cls=.type "StopIteration")->E (.ref e) { s with heap:=h' })->wpAny (model prog w) A (fw (.ref it)) Q E s
structure Four (z TI TO i j u v:ai):Prop where
 a:z≠TO
 b:z≠i
 c:z≠j
 d:TO≠i
 e:TO≠j
 f:i≠j
 g:TI≠z
 h:TI≠TO
 k:TI≠i
 l:TI≠j
 u1:u≠z
 u2:u≠TO
 u3:u≠i
 u4:u≠j
 v1:v≠z
 v2:v≠TO
 v3:v≠i
 v4:v≠j
theorem hY {b x y c:ai}(h:b=x∨b=y) (p:x≠c) (q:y≠c):b≠c:=by
 rcases h with h|h
 ·rw[h];exact p
 ·rw[h];exact q
def wU (z TO i j:ai) (h h':cu):Prop:=∀b o,b≠z->b≠TO->b≠i->b≠j->h.get? b=some o->h'.get? b=some o
section
variable{prog:bh}{w:cn}{A:cf}{E:af->ag->Prop}{s:ag}{z TI TO i j u v:ai}{xs ys:List af}{st su:Nat->cu->Prop}
theorem WN {n:Nat}{x y a b:af}{Q:af->ag->Prop}(F4:Four z TI TO i j u v) (P:Draws prog w i u xs st) (R:Draws prog w j v ys su) (hz:Bo s.heap z TI TO .none) (hTI:qc s.heap TI (.ref i) (.ref j)) (hTO:qc s.heap TO a b)
  (p:st n s.heap) (r:su n s.heap) (hx:xs[n]?=some x) (hy:ys[n]?=some y)
  (k:∀h' T,s.heap.objs.size<=T->Bo h' z TI TO (rawInt T)->qc h' TI (.ref i) (.ref j)->qc h' TO x y->st (n+1) h'->su (n+1) h'->qc h' T x y->wU z TO i j s.heap h'->Q (.ref T) { s with heap:=h' }):
  wpAny (model prog w) A (mr.«zip.__next__» ⟨[.ref z],[]⟩) (λfin s'=>∃v,fin=.done (.ret v)/\Q v s') E s:=by
 refine aa (ah (aa (fi hz rfl (x:=.bool false) rfl (aa (fi hz rfl (x:=.ref TI) rfl (aa (iz hTI rfl ?_)))))));have fr:∀{Q':Bool->ag->Prop}{E':af->ag->Prop},Q' true s->wpAny (model prog w) A (rj (.ref z)) Q' E' s:=λq=>aa (fi hz rfl (x:=.none) rfl (ah q));refine aa (fr ?_);rw[if_pos rfl];refine aa (ql (aa (fi hz rfl (x:=.ref TO) rfl (aa (jl hz (by simp) λg1 z1 b1=>?_)))));have z1':Bo g1 z TI TO .ellipsis:=z1;refine aa ?_;show wpAny _ _ (forIn [(ij i,0),(ij j,1)] _ _) _ _ _;rw[qi];refine aa (aa (uq ?_));show wpAny _ _ (fw (.ref i) >>= _) _ _ _;refine aa (P.item A n x _ _ _ hx (P.keep n _ _ p λb o hb q=>b1.extBut _ _ (hY hb (cy F4.b) F4.u1) q) λg2 p2 b2=>ah ?_);have t2:qc g2 TO a b:=b2.extBut _ _ F4.d (b1.extBut _ _ (cy F4.a) hTO);refine aa (iz t2 rfl (aa (wq t2 λg3 t3 b3=>aa (qu (ah ?_)))));have t3':qc g3 TO x b:=t3;dsimp only;rw[qi];refine aa (aa (uq ?_));show wpAny _ _ (fw (.ref j) >>= _) _ _ _;have r3:su n g3:=R.keep n _ _ r λb o hb q=>b3.extBut _ _ (hY hb (cy F4.e) F4.v2) (b2.extBut _ _ (hY hb (cy F4.f) F4.v3) (b1.extBut _ _ (hY hb (cy F4.c) F4.v1) q));refine aa (R.item A n y _ _ _ hy r3 λg4 r4 b4=>ah ?_);have t4:qc g4 TO x b:=b4.extBut _ _ F4.e t3';refine aa (iz t4 rfl (aa (wq t4 λg5 t5 b5=>aa (qu (ah ?_)))));have t5':qc g5 TO x y:=t5;dsimp only;rw[List.forIn_nil];refine ah ?_;refine aa (iz t5' rfl (aa (wpAny_newTuple ?_)));have z5:Bo g5 z TI TO .ellipsis:=b5.extBut _ _ F4.a (b4.extBut _ _ F4.c (b3.extBut _ _ F4.a (b2.extBut _ _ F4.b z1')));have sz:g5.objs.size=s.heap.objs.size:=by rw[b5.1,b4.1,b3.1,b2.1,b1.1]
 have all5:wU z TO i j s.heap g5:=λc o c1 c2 c3 c4 q=>b5.extBut _ _ c2 (b4.extBut _ _ c4 (b3.extBut _ _ c2 (b2.extBut _ _ c3 (b1.extBut _ _ c1 q))));have p5:st (n+1) g5:=P.keep _ _ _ p2 λb o hb q=>b5.extBut _ _ (hY hb (cy F4.d) F4.u2) (b4.extBut _ _ (hY hb F4.f F4.u4) (b3.extBut _ _ (hY hb (cy F4.d) F4.u2) q));have r5:su (n+1) g5:=R.keep _ _ _ r4 λb o hb q=>b5.extBut _ _ (hY hb (cy F4.e) F4.v2) q;generalize hob:({ cls:=.type "tuple",dict:=none,data:=.seq [x,y].toArray }:Obj)=ob;have zp:Bo (g5.push ob) z TI TO .ellipsis:=aj _ z5;refine aa (aa (jl zp (by simp) λg7 z7 b7=>?_));have z7':Bo g7 z TI TO (rawInt g5.objs.size):=z7;refine jl z7' (by simp) λg8 z8 b8=>ah ⟨_,rfl, ?_⟩;have up:∀c o,c≠z->g5.get? c=some o->g8.get? c=some o:=λc o c1 q=>b8.extBut _ _ c1 (b7.extBut _ _ c1 (aj _ q));have lz:z<g5.objs.size:=ar z5;have T8:qc g8 g5.objs.size x y:=b8.extBut _ _ (jh lz) (b7.extBut _ _ (jh lz) (by rw[<-hob];exact ax _ rfl));refine k g8 g5.objs.size (qt sz.symm) z8 (up _ _ F4.g (all5 _ _ F4.g F4.h F4.k F4.l hTI)) (up _ _ (cy F4.a) t5') (P.keep _ _ _ p5 λb o hb q=>up _ _ (hY hb (cy F4.b) F4.u1) q) (R.keep _ _ _ r5 λb o hb q=>up _ _ (hY hb (cy F4.c) F4.v1) q) T8 λc o c1 c2 c3 c4 q=>up _ _ c1 (all5 c o c1 c2 c3 c4 q)
end
section
variable{prog:bh}{w:cn}{A:cf}{E:af->ag->Prop}{s:ag}{z TI TO i j u v:ai}{xs ys:List af}{st su:Nat->cu->Prop}
theorem WO {n:Nat}{a b:af}{Q:PySem.Fin->ag->Prop}(hh:A.handled=none) (F4:Four z TI TO i j u v) (P:Draws prog w i u xs st) (R:Draws prog w j v ys su) (hz:Bo s.heap z TI TO .none) (hTI:qc s.heap TI (.ref i) (.ref j)) (hTO:qc s.heap TO a b)
  (p:st n s.heap) (r:su n s.heap) (hend:xs[n]?=none∨ys[n]?=none)
  (k:∀h' e,wU z TO i j s.heap h'->(∃o,h'.get? e=some o/\o.cls=.type "StopIteration")->E (.ref e) { s with heap:=h' }):
  wpAny (model prog w) A (mr.«zip.__next__» ⟨[.ref z],[]⟩) Q E s:=by
 refine aa (ah (aa (fi hz rfl (x:=.bool false) rfl (aa (fi hz rfl (x:=.ref TI) rfl (aa (iz hTI rfl ?_)))))));have fr:∀{Q':Bool->ag->Prop}{E':af->ag->Prop},Q' true s->wpAny (model prog w) A (rj (.ref z)) Q' E' s:=λq=>aa (fi hz rfl (x:=.none) rfl (ah q));refine aa (fr ?_);rw[if_pos rfl];refine aa (ql (aa (fi hz rfl (x:=.ref TO) rfl (aa (jl hz (by simp) λg1 z1 b1=>?_)))));have z1':Bo g1 z TI TO .ellipsis:=z1;have p1:st n g1:=P.keep n _ _ p λb o hb q=>b1.extBut _ _ (hY hb (cy F4.b) F4.u1) q;have fin:∀(g:cu) (e:ai),Bo g z TI TO .ellipsis->wU z TO i j s.heap g->(∃o,g.get? e=some o/\o.cls=.type "StopIteration")->
   wpAny (model prog w) A (setField (.ref z) 0 .none) (λ_ s'=>E (.ref e) s') E { s with heap:=g }:=λg e zz bt ⟨o,he,hc⟩=>
  jl zz (by simp) λg' _ b'=>k g' e (λc u c1 c2 c3 c4 q=>b'.extBut _ _ c1 (bt c u c1 c2 c3 c4 q)) ⟨o,b'.extBut _ _ (λq=>by subst q;rw[zz]at he;cases he;simp at hc) he,hc⟩
 refine aa ?_;show wpAny _ _ (forIn [(ij i,0),(ij j,1)] _ _) _ _ _;rw[qi];refine aa (aa (uq ?_));show wpAny _ _ (fw (.ref i) >>= _) _ _ _
 cases hx:xs[n]? with
 |none=>exact aa (P.done A n _ _ _ hh hx p1 λg2 e b2 he=>fin g2 e (b2 _ _ F4.b z1') (λc u c1 _ c3 _ q=>b2 _ _ c3 (b1.extBut _ _ c1 q)) he)
 |some x=>
  have hy:ys[n]?=none:=by
   rcases hend with q|q
   ·rw[hx]at q;cases q
   ·exact q
  refine aa (P.item A n x _ _ _ hx p1 λg2 p2 b2=>ah ?_);have t2:qc g2 TO a b:=b2.extBut _ _ F4.d (b1.extBut _ _ (cy F4.a) hTO);refine aa (iz t2 rfl (aa (wq t2 λg3 t3 b3=>aa (qu (ah ?_)))));dsimp only;rw[qi];refine aa (aa (uq ?_));show wpAny _ _ (fw (.ref j) >>= _) _ _ _;have r3:su n g3:=R.keep n _ _ r λb o hb q=>b3.extBut _ _ (hY hb (cy F4.e) F4.v2) (b2.extBut _ _ (hY hb (cy F4.f) F4.v3) (b1.extBut _ _ (hY hb (cy F4.c) F4.v1) q));exact aa (R.done A n _ _ _ hh hy r3 λg4 e b4 he=>fin g4 e (b4 _ _ F4.c (b3.extBut _ _ F4.a (b2.extBut _ _ F4.b z1'))) (λc u c1 c2 c3 c4 q=>b4 _ _ c4 (b3.extBut _ _ c2 (b2.extBut _ _ c3 (b1.extBut _ _ c1 q)))) he)
theorem wV {it t:ai}{items:Array af}(hne:t≠it):Draws prog w it t items.toList (λi h=>h.IsTupleIter it t i/\h.IsTuple t items) where
 keep:=λi h h' ⟨⟨o,e,r⟩,⟨o2,e2,r2⟩⟩ k=>⟨⟨o,k _ _ (.inl rfl) e,r⟩,⟨o2,k _ _ (.inr rfl) e2,r2⟩⟩
 there:=λi h ⟨⟨o,e,_,d⟩,_⟩=>⟨o,_,e,d⟩
 item:=λA i x s Q E hx ⟨a,b⟩ k=>WK a b (by simpa using hx) λh' a' sb=>k h' ⟨a',b.extBut sb.extBut hne⟩ sb
 done:=λA i s Q E hh hx ⟨a,b⟩ k=>WM hh a b (by simpa using hx) k
end
def BW (K:aq) (t u:ai):It:=
 ⟨λi H=>∃vs ws v w,SqT K H t vs/\SqT K H u ws/\vs[i]?=some v/\ws[i]?=some w,
  λi H x H'=>∃p v w,x=.ref p/\H p=none/\H'=upd H p (.tup [v,w])/\(∀vs,SqT K H t vs->vs[i]?=some v)/\∀ws,SqT K H u ws->ws[i]?=some w,
  λi H=>∃vs ws,SqT K H t vs/\SqT K H u ws/\(vs.length<=i∨ws.length<=i)⟩
structure ZipAt (z TI TO i j t u:ai) (n:Nat) (h:cu):Prop where
 zp:Bo h z TI TO .none
 ti:qc h TI (.ref i) (.ref j)
 to:∃a b,qc h TO a b
 i1:h.IsTupleIter i t n
 i2:h.IsTupleIter j u n
section
variable{X:Cx}{pins:List (ai×Obj)}{σ:St}{H:Hp}{s:ag}
theorem Inv.turns {h':cu}{ch:List ai}{T:ai}{vs:List V}{its:List af}(I:Inv X pins σ H s) (hch:∀b∈ch,dG X pins H b) (k:∀b o,b∉ch->s.heap.get? b=some o->h'.get? b=some o) (there:∀b∈ch,∃o,h'.get? b=some o)
  (hT:s.heap.objs.size<=T) (hv:Vals vs its) (hl:vs.length<=bw) (tp:IsTupX h' T its.toArray):Inv X pins σ (upd H T (.tup vs)) { s with heap:=h' }:=by
 have nT:H T=none:=I.hok.fresh hT;have nch:∀b o,H b=some o->b∉ch:=λb o q z=>by rw[(hch b z).1]at q;cases q
 have un:Un (dH X.stack) ch H (upd H T (.tup vs)) s.heap h':=
  ⟨λb o q _ _ hb=>k b o hb q,λb o q _ _ hb=>⟨o.slots,k b o hb q⟩,λb o q n _=>by rw[bP (az (aw (ar q) hT))];exact n,
   λb o q hb=>⟨o,k b o hb q⟩,λb xs q=>cI nT b _ q,λb o u q=>cI nT b _ q,λb ps q=>⟨#[],by rw[cI nT b _ q];simp⟩⟩
 have ok:HOk X.prog X.w (upd H T (.tup vs)) h':=λb o q=>by
  by_cases hb:b=T
  ·subst hb;rw[cK]at q;cases q;exact⟨hl,its,hv,tp⟩
  ·rw[bP hb]at q;refine(I.hok b o q).stay (λc v hc z=>k c v ?_ z) (λc z=>cI nT c _ z) λc xs z=>cI nT c _ z
   rcases hc with rfl|hc
   ·exact nch c o q
   ·exact nch c _ hc
 exact I.call (g':=s.gens) (d':=s.drawn) (t':=s.toks) un ok I.bare λb hb=>let ⟨_,f1,_,f3,f4,f5⟩:=hch b hb;⟨f3,f1,f4,f5⟩
theorem Inv.turns0 {h':cu}{ch:List ai}(I:Inv X pins σ H s) (hch:∀b∈ch,dG X pins H b) (k:∀b o,b∉ch->s.heap.get? b=some o->h'.get? b=some o):Inv X pins σ H { s with heap:=h' }:=by
 have nch:∀b o,H b=some o->b∉ch:=λb o q z=>by rw[(hch b z).1]at q;cases q
 refine I.call (g':=s.gens) (d':=s.drawn) (t':=s.toks) (ch:=ch) ⟨λb o q _ _ hb=>k b o hb q,λb o q _ _ hb=>⟨o.slots,k b o hb q⟩,λ_ _ _ n _=>n,λb o q hb=>⟨o,k b o hb q⟩,λ_ _ q=>q,λ_ _ _ q=>q,λb ps q=>⟨#[],by rw[q];simp⟩⟩ (λb o q=>?_) I.bare λb hb=>let ⟨_,f1,_,f3,f4,f5⟩:=hch b hb;⟨f3,f1,f4,f5⟩;refine(I.hok b o q).stay (λc v hc z=>k c v ?_ z) (λ_ z=>z) λ_ _ z=>z
 rcases hc with rfl|hc
 ·exact nch c o q
 ·exact nch c _ hc
end
theorem WQ {P:bh}{w:cn}{K:aq}{elts:List bq}{kk:Nat}{tp:Pos}{z TI TO i j t u:ai}(F4:Four z TI TO i j t u) (hti:t≠i) (huj:u≠j):
  Turn P w K (.Tuple elts kk tp) (BW K t u) [z,TI,TO,i,j] z (ZipAt z TI TO i j t u) where
 mem:=by simp
 obj:=λn h st b hb=>by
  obtain⟨zp,ti,⟨a,b',to⟩,⟨o1,e1,_,d1⟩,⟨o2,e2,_,d2⟩⟩:=st;simp at hb
  rcases hb with rfl|rfl|rfl|rfl|rfl
  ·exact⟨_,zp,λv q=>by cases q⟩
  ·exact⟨_,ti,λv q=>by cases q⟩
  ·exact⟨_,to,λv q=>by cases q⟩
  ·exact⟨_,e1,λv q=>by rw[d1]at q;cases q⟩
  ·exact⟨_,e2,λv q=>by rw[d2]at q;cases q⟩
 keep:=λn h h' st k=>by obtain⟨zp,ti,⟨a,b',to⟩,⟨o1,e1,r1⟩,⟨o2,e2,r2⟩⟩:=st;exact⟨k _ (by simp) _ zp,k _ (by simp) _ ti,⟨a,b',k _ (by simp) _ to⟩,⟨o1,k _ (by simp) _ e1,r1⟩,⟨o2,k _ (by simp) _ e2,r2⟩⟩
 item:=by
  intro X hP hw hK hc n pins s σ H E I hf st hg;subst hP hw hK;obtain⟨vs,ws,v,w',hq,hr,hv,hw'⟩:=hg;obtain⟨its,rv,p1,z1⟩:=I.tuple hq;obtain⟨jts,rw',p2,z2⟩:=I.tuple hr;obtain⟨x,hx,rx⟩:=rv.get hv;obtain⟨y,hy,ry⟩:=rw'.get hw';obtain⟨zp,ti,⟨a,b,to⟩,i1,i2⟩:=st;have hT:s.TypeIs (.ref z) "zip" := ⟨_,zp,rfl⟩;unfold pyNext;refine aa (xm (gm (name:=lh "__next__") hT F.slot_zip_next (fv F.slot_zip_next hT F.entry_zip_next
   (WN F4 (wV (items:=its.toArray) hti) (wV (items:=jts.toArray) huj) zp ti to ⟨i1,p1⟩ ⟨i2,p2⟩ (by simpa using hx) (by simpa using hy) λh' T hnew a1 a2 a3 a4 a5 a6 bt=>ah ⟨_,rfl, ?_⟩) (F.args_zip_next_1 _))))
  refine wpAny_letOwnedTupleGo_zip a1 λh2 z2' sb=>?_;have kp:∀b o,b∉[z,TI,TO,i,j]->s.heap.get? b=some o->h2.get? b=some o:=λb o hb q=>by simp at hb;obtain⟨n1,n2,n3,n4,n5⟩:=hb;exact sb.extBut _ _ n1 (bt b o n1 n3 n4 n5 q)
  have Tz:T≠z:=jh (aw (ar zp) hnew);have T2:qc h2 T x y:=sb.extBut _ _ Tz a6;have th:∀b∈[z,TI,TO,i,j],∃o,h2.get? b=some o:=λb hb=>by
   obtain⟨⟨o1,e1,_⟩,_⟩:=a4;obtain⟨⟨o2,e2,_⟩,_⟩:=a5;simp at hb
   rcases hb with rfl|rfl|rfl|rfl|rfl
   ·exact⟨_,z2'⟩
   ·exact⟨_,sb.extBut _ _ F4.g a2⟩
   ·exact⟨_,sb.extBut _ _ (cy F4.a) a3⟩
   ·exact⟨_,sb.extBut _ _ (cy F4.b) e1⟩
   ·exact⟨_,sb.extBut _ _ (cy F4.c) e2⟩
  have I2:=Inv.turns (T:=T) (vs:=[v,w']) (its:=[x,y]) I hf kp th hnew (.cons rx (.cons ry .nil)) (by show 2<=bw;decide) ⟨_,T2,rfl,rfl,_,rfl⟩;have nT:H T=none:=I.hok.fresh hnew;refine⟨.ref T,_,I2,rfl,⟨T,v,w',rfl,nT,rfl,λvs' h'=>by rw[I.tuple_inj h' hq];exact hv,λws' h'=>by rw[I.tuple_inj h' hr];exact hw'⟩, ?_,λb hb=>?_⟩
  ·exact⟨z2',sb.extBut _ _ F4.g a2,⟨_,_,sb.extBut _ _ (cy F4.a) a3⟩,a4.1.extBut sb.extBut (cy F4.b),a5.1.extBut sb.extBut (cy F4.c)⟩
  ·obtain⟨o,q,_⟩:∃o,s.heap.get? b=some o/\True:=by
    obtain⟨o1,e1,_⟩:=i1;obtain⟨o2,e2,_⟩:=i2;simp at hb
    rcases hb with rfl|rfl|rfl|rfl|rfl
    ·exact⟨_,zp,trivial⟩
    ·exact⟨_,ti,trivial⟩
    ·exact⟨_,to,trivial⟩
    ·exact⟨_,e1,trivial⟩
    ·exact⟨_,e2,trivial⟩
   rw[bP (az (aw (ar q) hnew))];exact(hf b hb).1
 done:=by
  intro X hP hw hK hc n pins s σ H E I hf st hg;subst hP hw hK;obtain⟨vs,ws,hq,hr,hend⟩:=hg;obtain⟨its,rv,p1,z1⟩:=I.tuple hq;obtain⟨jts,rw',p2,z2⟩:=I.tuple hr;have l1:=rv.length;have l2:=rw'.length;obtain⟨zp,ti,⟨a,b,to⟩,i1,i2⟩:=st;have hT:s.TypeIs (.ref z) "zip" := ⟨_,zp,rfl⟩;unfold pyNext;refine aa (xm (gm (name:=lh "__next__") hT F.slot_zip_next (fv F.slot_zip_next hT F.entry_zip_next
   (WO (show X.A.in1.handled=none from I.ok.hd hc) F4 (wV (items:=its.toArray) hti) (wV (items:=jts.toArray) huj) zp ti to ⟨i1,p1⟩ ⟨i2,p2⟩ (by
    rcases hend with q|q
    ·exact .inl (by simp;omega)
    ·exact .inr (by simp;omega)) λh' e bt ⟨o,he,hcl⟩=>aa (Bc (T := "StopIteration") (b:=true) ⟨o,he,hcl⟩ isSubtype_stop (ah ⟨rfl, ?_⟩))) (F.args_zip_next_1 _))))
  refine Inv.turns0 I hf λb o hb q=>?_;simp at hb;exact bt b o hb.1 hb.2.2.1 hb.2.2.2.1 hb.2.2.2.2 q
 self:=λ_ _ _ _ _ st h=>wpAny_pyIter_zip st.zp h
def JO (t u:ai) (h:cu) (z:ai) (h':cu):Prop:=∃TI TO i j,ZipAt z TI TO i j t u 0 h'/\Four z TI TO i j t u/\(∀b∈[z,TI,TO,i,j],h.objs.size<=b)/\∀b o,h.get? b=some o->h'.get? b=some o
theorem tN {h h':cu}{o:Obj}(e:h'=h.push o) (nf:o.isFreed=false):h'.get? h.objs.size=some o:=by rw[e];exact ax _ nf
theorem WR (n t u:Nat) (lt:t<n) (lu:u<n):Four (n+4) (n+2) (n+3) n (n+1) t u:=by
 have ne:∀{a b:Nat},(a<b∨b<a)->a≠b:=λh=>by omega
 exact⟨ne (by omega),ne (by omega),ne (by omega),ne (by omega),ne (by omega),ne (by omega),ne (by omega),ne (by omega),ne (by omega),ne (by omega),ne (by omega),ne (by omega),ne (by omega),ne (by omega),ne (by omega),ne (by omega),ne (by omega),ne (by omega)⟩
theorem WS {t u:ai}{hp h1 h2 h3 h4 h5:cu}{n:Nat}(hn:n=hp.objs.size) (lt:t<n) (lu:u<n)
  (e1:h1=hp.push { cls:=.type "tuple_iterator",data:=.fields #[.ref t,.int 0 0] }) (e2:h2=h1.push { cls:=.type "tuple_iterator",data:=.fields #[.ref u,.int 0 0] }) (e3:h3=h2.push { cls:=.type "tuple",data:=.seq #[.ref n,.ref (n+1)] })
  (e4:h4=h3.push { cls:=.type "tuple",data:=.seq #[.none,.none] }) (e5:h5=h4.push { cls:=.type "zip",data:=.fields #[.none,.bool false,.bool false,.ref (n+2),.ref (n+3)] }):JO t u hp (n+4) h5:=by
 have z1:h1.objs.size=n+1:=by rw[e1,fq,hn]
 have z2:h2.objs.size=n+2:=by rw[e2,fq,z1]
 have z3:h3.objs.size=n+3:=by rw[e3,fq,z2]
 have z4:h4.objs.size=n+4:=by rw[e4,fq,z3]
 have up:∀(h:cu) (o:Obj) (b:ai) (q:Obj),h.get? b=some q->(h.push o).get? b=some q:=λh o b q e=>aj _ e;have g1:=tN e1 rfl;have g2:=tN e2 rfl;have g3:=tN e3 rfl;have g4:=tN e4 rfl;have g5:=tN e5 rfl;rw[<-hn]at g1;rw[z1]at g2;rw[z2]at g3;rw[z3]at g4;rw[z4]at g5;have u2:∀b q,h2.get? b=some q->h5.get? b=some q:=λb q e=>by rw[e5,e4,e3];exact up _ _ _ _ (up _ _ _ _ (up _ _ _ _ e))
 have u1:∀b q,h1.get? b=some q->h5.get? b=some q:=λb q e=>u2 b q (by rw[e2];exact up _ _ _ _ e);have u3:∀b q,h3.get? b=some q->h5.get? b=some q:=λb q e=>by rw[e5,e4];exact up _ _ _ _ (up _ _ _ _ e)
 have u4:∀b q,h4.get? b=some q->h5.get? b=some q:=λb q e=>by rw[e5];exact up _ _ _ _ e
 refine⟨n+2,n+3,n,n+1,⟨g5,u3 _ _ g3,⟨_,_,u4 _ _ g4⟩,⟨_,u1 _ _ g1,rfl,rfl⟩,⟨_,u2 _ _ g2,rfl,rfl⟩⟩, ?_, ?_,λb q e=>u1 b q (by rw[e1];exact up _ _ _ _ e)⟩
 ·exact WR n t u lt lu
 ·intro b hb;rw[<-hn];simp at hb
  rcases hb with rfl|rfl|rfl|rfl|rfl
  ·exact ud _ _
  ·exact ud _ _
  ·exact ud _ _
  ·exact ak _
  ·exact ud _ _
theorem WT {t u:ai}(xs ys:Array af):Meets (mr.«zip.__new__» ⟨[.type "zip",.ref t,.ref u],[]⟩) (λ_ R s=>s.heap.IsTuple t xs/\s.heap.IsTuple u ys/\∀h' z,JO t u s.heap z h'->R (.ok (.ret (.ref z))) { s with heap:=h' }):=
 .of_wp λprog w A R s h=>by
  obtain⟨ht,hu,k⟩:=h;obtain⟨hp,g,d,tk,os⟩:=s;have sub:=sub_zip;have ht':(⟨hp,g,d,tk,os⟩:ag).heap.IsTuple t xs:=ht;have hu':(⟨hp.push { cls:=.type "tuple_iterator",data:=.fields #[.ref t,.int 0 0] },g,d,tk,os⟩:ag).heap.IsTuple u ys:=hu.push _
  wp_walk using pg ht',pg hu'
  have lt:t<hp.objs.size:=by obtain⟨o,e,_⟩:=ht;exact ar e
  have lu:u<hp.objs.size:=by obtain⟨o,e,_⟩:=hu;exact ar e
  simp only[fq];refine⟨_,rfl,k _ _ (WS rfl lt lu rfl rfl rfl rfl ?_)⟩;simp only[fq];rfl
section
variable{X:Cx}{G:Cfg}{E:XK}{a b:bq}{elts:List bq}{kk:Nat}{tp p pos:Pos}{ta:TA}{ms:M (List Dv)}
def WU (K:aq) (ta:TA):TI:=λσ H R=>ta σ H λvs H1=>∃t u xs ys,vs=[.ref t,.ref u]/\SqT K H1 t xs/\SqT K H1 u ys/\R (BW K t u) H1
theorem WV:dw "zip" = some (.type "zip"):=by decide +kernel
theorem WW (hg:Gl X "zip") (hm:X.mg "zip" = none) (ha:PA X [a,b] ta) (hs:au [a,b] X.env=[(false,eval a X.env),(false,eval b X.env)]:=by rfl) (hs2:au [b] X.env=[(false,eval b X.env)]:=by rfl):
  PI X (.Tuple elts kk tp) (.Call (.Name "zip" p) [a,b] [] pos) (WU X.K ta):=by
 intro pins s σ H R I h;refine Call_ (pE I hg hm WV (ki (aV (ha pos pins s σ H _ I h) λus s1 ⟨vs,H1,I1,r1,q1⟩=>?_) (by rw[hs,hs2]) (by rw[hs2];rfl)));obtain⟨t,u,xs,ys,e,hq,hr,q⟩:=q1;subst e;obtain⟨u1,u2,rfl,e1,e2⟩:=sQ r1;cases e1;cases e2;obtain⟨its,rv,p1,_⟩:=I1.tuple hq;obtain⟨jts,rw',p2,_⟩:=I1.tuple hr;refine callType_new F.called_zip (by decide) (F.typeCall_zip_2 _ _) (F.newCall_zip_2 _ _) (λobj=>F.args_object_init_3 obj _ _) F.entry_zip_new (WT its.toArray jts.toArray) ⟨p1,p2,λh' z nz=>?_⟩;obtain⟨TI,TO,i,j,za,f4,fresh,kp⟩:=nz;refine⟨⟨_,za.zp,rfl⟩, ?_⟩;have I2:Inv X pins σ H1 { s1 with heap:=h' }:=I1.kept (t':=s1.toks) kp;refine wpAny_pyIter_zip za.zp ⟨z,[z,TI,TO,i,j],_,_,H1,rfl,I2,WQ f4 f4.u3 f4.v4,za,λb hb=>I1.fpOk (fresh b hb) (I1.hok.fresh (fresh b hb)),q⟩
def oF (xs ys:List Dv):Src:=cT ((xs.zip ys).map λq=>.tup [q.1,q.2])
def oG:List Dv->Hs->Rs Src
 | [.tup xs,.tup ys],h=>.ok (oF xs ys) h
 |_,_=>.bad
theorem ItOk.zip {μ:Nat->ai}{n:Nat}{H:Hp}{t u:ai}{vs ws:List V}{xs ys:List Dv}{K:aq}(e:H t=some (.tup vs)) (e':H u=some (.tup ws)) (r:RelDL G μ n H xs vs) (r':RelDL G μ n H ys ws):ItOk G μ n H (oF xs ys) (BW K t u):=by
 intro k μ2 h2 H2 x2 s2;have f:=x2.im t (.tup vs) trivial e;have f':=x2.im u (.tup ws) trivial e';have g:=RelDL.mono x2 _ _ r;have g':=RelDL.mono x2 _ _ r';have hl:(oF xs ys).n=min xs.length ys.length:=by simp[oF,cT]
 constructor
 ·intro hk d hd;have hd':((xs.zip ys).map λq=>Dv.tup [q.1,q.2])[k]?=some d:=hd;rw[fe]at hd'
  cases q:(xs.zip ys)[k]? with
  |none=>rw[q]at hd';cases hd'
  |some xy=>
   rw[q]at hd';cases hd';obtain⟨qx,qy⟩:=rn.mp q;obtain⟨v,ev,rv⟩:=g.get qx;obtain⟨w',ew,rw'⟩:=g'.get qy;refine⟨⟨vs,ws,v,w',SqT.of f,SqT.of f',ev,ew⟩,λx H' hy=>?_⟩;obtain⟨pp,v1,w1,rfl,np,rfl,a1,a2⟩:=hy;have b1:=a1 vs (SqT.of f);have b2:=a2 ws (SqT.of f');rw[ev]at b1;rw[ew]at b2
   cases b1;cases b2
   have sm:Same H2 (upd H2 pp (.tup [v,w'])):=cI np;exact⟨sm,pp,_,rfl,cK,RelDL.cons (RelD.mono (Ext.same sm) _ _ rv) (RelDL.cons (RelD.mono (Ext.same sm) _ _ rw') RelDL.nil)⟩
 ·intro hk _;refine⟨vs,ws,SqT.of f,SqT.of f', ?_⟩;rw[g.length,g'.length,hk,hl];omega
theorem JP (hg:Gl X "zip") (hm:X.mg "zip" = none) (ha:dM X G E [a,b] ms) (hs:au [a,b] X.env=[(false,eval a X.env),(false,eval b X.env)]:=by rfl) (hs2:au [b] X.env=[(false,eval b X.env)]:=by rfl):
  lB X G E (.Tuple elts kk tp) (.Call (.Name "zip" p) [a,b] [] pos) (aS oG ms):=λhK=>
 PI.imp (WW hg hm (ha hK) hs hs2) λσ H R ⟨μ,ρ,h,rs,s,o⟩=>kD rs s o λμ1 ds h1 vs H1 x1 rs1 s1 r1 o1=>by
  unfold oG at o1
  split at o1
  ·rename_i xs ys;obtain⟨v,v',rfl,rv,rv'⟩:=wI r1;obtain⟨t,us,rfl,e,r⟩:=rv;obtain⟨u,ws,rfl,e',r'⟩:=rv';exact⟨t,u,us,ws,rfl,SqT.of e,SqT.of e',o1.val s1 (ItOk.zip e e' r r')⟩
  ·exact o1.elim
end
section
variable{prog:bh}{w:cn}{A:cf}{E:af->ag->Prop}{s:ag}{K:Frag}{e C N:ai}{o:Obj}
theorem WX {Q:Bool->ag->Prop}(X:K.In s.heap) (he:s.heap.get? e=some o) (hc:o.cls=.ref C) (hn:subIn K (.ref N) (.type "BaseException")=some true) (ht:subIn K (.type "type") (.type "tuple")=some false) (hk:kitCls K (.ref N) (.ref N)=some true) {b:Bool}(hs:subIn K (.ref C) (.ref N)=some b) (q:Q b s):
  wpAny (model prog w) A (excMatches (.ref e) (.ref N)) Q E s:=by
 have L1:=(kit_cls (M:=model prog w) X hk).1;have L2:=(kit_cls (M:=model prog w) X hk).2.1;have L3:=looks_subIn (M:=model prog w) X hn;have L4:=looks_subIn (M:=model prog w) X hs;have L5:=looks_subIn (M:=model prog w) X ht;obtain⟨hp,g,d,tk,os⟩:=s;unfold excMatches
 repeat (any_goals (first|assumption|(with_reducible refine wpAny_loadPart_at he ?_;rw[hc])|with_reducible refine L1.at ?_|with_reducible refine L2.at ?_|with_reducible refine L3.at ?_|with_reducible refine L4.at ?_|with_reducible refine L5.at ?_|wp_step))
 cases b
 all_goals (repeat (any_goals (first|assumption|wp_step)))
end
def jG (P:bh) (w:cn) (K:aq) (mg:Str->Option af) (base:cu) (N:List Str) (qual:Str) (scope:iq) (f:ai) (cd:af) (cl:List (Str×ai)) (A:cf) (outer:List Env) (s:ag) (H:Hp) (E:XK):Cx where
 prog:=P
 w:=w
 K:=K
 mg:=mg
 base:=base
 A:=A.deeper (oz qual scope s.heap.objs.size f cd cl)
 N:=N
 s₀:=s
 H₀:=H
 env:=oz qual scope s.heap.objs.size f cd cl
 outer:=outer
 stack:=oz qual scope s.heap.objs.size f cd cl::outer
 ex:=[]
 calm:=true
 fn:=λ_=>false
 pn:=[]
 xe:=λe s'=>wpAny (model P w) (A.deeper (oz qual scope s.heap.objs.size f cd cl)) (leaving (oz qual scope s.heap.objs.size f cd cl) e) (λ_ s''=>bK P w base outer H s E e s'') (λe' s''=>bK P w base outer H s E e' s'') s'
structure LamScope (N:List Str) (sc:iq):Prop where
 kind:sc.kind=.function
 co:sc.isCoroutine=false
 gen:sc.isGenerator=false
 nocell:∀x∈sc.names,x.2≠.cell
 fr:∀x∈N,sc.names.lookup x=some .free
 all:∀x∈sc.names,x.2=.free->x.1∈N
structure LamAt (G:Cfg) (base:cu) (H:Hp) (μ:Nat->ai) (n:Nat) (N:List Str) (params:ni) (body:bq) (scope:iq) (f c':ai) (cl:List (Str×ai)) (ds:List Dv):Prop where
 ob:∃pm ctv,H f=some (.frz (kq "<lambda>" G.lq params body scope cl pm c' ctv) (.own 0))
 cd:∃oc,H c'=some (.frz oc (.own 0))/\wB G.lq oc
 inj:∀x y c,cl.lookup x=some c->cl.lookup y=some c->x=y
 len:ds.length=N.length
 at_:∀(i:Nat) (x:Str),N[i]?=some x->∃c,cl.lookup x=some c
 cell:∀(x:Str) (c:ai),cl.lookup x=some c->∃o u,base.get? c=some o/\o.data=.cell u
 val:∀(i:Nat) (x:Str) (c:ai) (d:Dv),N[i]?=some x->ds[i]?=some d->cl.lookup x=some c->∃o u v,base.get? c=some o/\o.data=.cell (some u)/\RelV v u/\RelD G μ n H d v
section
variable{P:bh}{w:cn}{K:aq}{mg:Str->Option af}{base:cu}{N:List Str}{qual:Str}{scope:iq}{f:ai}{cdv:af}{cl:List (Str×ai)}{A:cf}{outer:List Env}{s0:ag}{H0:Hp}{E0:XK}{G:Cfg}{E:XK}{k:Nat}
theorem WY (hr:Room k (A.deeper (oz qual scope s0.heap.objs.size f cdv cl))) (hK:K=G.K) (hE:∀u H',E u none H'->E0 u none H') (hF:BO E):
  Good (jG P w K mg base N qual scope f cdv cl A outer s0 H0 E0) G E k where
 calm:=rfl
 room:=hr
 K:=hK
 own:=Bx
 pas:=by intro pins σ H s u s' I ⟨e,C,H',eu,os,bare,un,hok,fl,he⟩;subst eu;have I':=I.call' os un hok bare (λb z=>absurd z (by simp));refine aa (BN (P:=P) (w:=w) (H:=H') (base:=base) I'.ok.frames I'.stack rfl hok I'.stkFree fl λh'' H'' un2 hok2 fl2 sx=>?_);have I2:=I'.call (h':=h'') (g':=s'.gens) (d':=s'.drawn) (t':=s'.toks) un2 hok2 I'.bare (λb z=>absurd z (by simp));obtain⟨T,a0,h1,_⟩:=id fl;obtain⟨T2,a2,h3,_⟩:=id fl2;have xe1:dJ C e T a0 s'.heap:=(show ObjOk P w H' s'.heap e _ from hok e _ h1).1;have:E (.ref e) none H'':=hF e H' H'' sx ⟨C,T,a0,T2,a2,h1,⟨_,xe1⟩,h3⟩ he;exact⟨e,C,H'',rfl,I2.os,I2.bare,I2.base,hok2,fl2,hE _ _ this⟩
 rais:=by intro pins σ H s h' e C args I mx he;refine aa (JC (P:=P) (w:=w) (H:=H) (base:=base) I.ok.frames I.stack rfl I.hok I.stkFree I.bk mx λh'' H'' un2 hok2 fl2 sm=>?_);have I2:=I.call (h':=h'') (g':=s.gens) (d':=s.drawn) (t':=s.toks) un2 hok2 I.bare (λb z=>absurd z (by simp));obtain⟨T2,a2,h3,_⟩:=id fl2;exact⟨e,C,H'',rfl,I2.os,I2.bare,I2.base,hok2,fl2,hE _ _ (he H'' sm ⟨T2,a2,h3⟩)⟩
end
def JQ {α:Type}:Rs α->Sr
 | .ex c h=>.ex c h
 |_=>.bad
section
variable{P:bh}{w:cn}{K:aq}{mg:Str->Option af}{base:cu}{N:List Str}{params:ni}{body:bq}{scope:iq}{f c':ai}{cl:List (Str×ai)}{A:cf}{outer:List Env}{s:ag}{H:Hp}{E:XK}{G:Cfg}{k:Nat}{μ:Nat->ai}{h:Hs}{ds:List Dv}
theorem WZ {h1:cu}{tk:Nat}{σ:St}{E₀:XK}(S:LamScope N scope) (hd:A.handled=none) (e0:Env0 P w K mg base A outer s H) (L:LamAt G base H μ h.length N params body scope f c' cl ds)
  (hall:∀x c,cl.lookup x=some c->x∈N)
  (hns:h1.Ns s.heap.objs.size λ_=>none) (hk1:∀b o,s.heap.get? b=some o->h1.get? b=some o)
  (hσ:σ.length=N.length) (hv:∀(i:Nat) (x:Str) (v:V),N[i]?=some x->σ[i]?=some (some v)->∃c o u,cl.lookup x=some c/\base.get? c=some o/\o.data=.cell (some u)/\RelV v u):
  Inv (jG P w K mg base N G.lq scope f (.ref c') cl A outer s H E₀) [] σ H { s with heap:=h1,toks:=tk }:=by
 have noA:∀b:ai,b∉(jG P w K mg base N G.lq scope f (.ref c') cl A outer s H E₀).ex:=λb z=>absurd (show b∈([]:List ai) from z) (by simp);have kfree:∀x,scope.names.lookup x=some .free->x∈N:=λx e=>S.all _ (gg e) rfl;refine⟨⟨e0.mod,S.kind,rfl,rfl,ak _,L.inj,λx hx=>?_,λx c z=>(nomatch z),λ_=>hd,Bv e0.frames,.inr ⟨rfl,rfl⟩,λb z=>absurd z (noA b),e0.bs,e0.bsz,λb _ _=>noA b,λb z=>absurd z (noA b),e0.funs,e0.frf⟩,
  rfl,e0.bare,Un.kept hk1,⟨_,hns,λi x v h1' h2 h3=>?_⟩,λx c e=>?_,e0.hok.fresh (ak _),λx c e=>?_,λp hp=>absurd (show p∈([]:List (ai×Obj)) from hp) (by simp),e0.hok.kept hk1,hσ⟩
 ·have hx:scope.names.lookup x=some .cell∨scope.names.lookup x=some .free:=hx
  rcases hx with hx|hx
  ·exact absurd rfl (S.nocell _ (gg hx))
  ·obtain⟨i,hi⟩:=List.getElem?_of_mem (kfree x hx);exact L.at_ i x hi
 ·obtain⟨c,o,u,e1,e2,e3,r⟩:=hv i x v h1' h2;refine⟨u,r,.inr ⟨.inr (S.fr x (bx h1')),c,e1,o,hk1 _ _ (e0.bs _ _ e2).1,e3⟩⟩
 ·obtain⟨o,u,e2,e3⟩:=L.cell x c e;exact⟨u,o,hk1 _ _ (e0.bs _ _ e2).1,e3⟩
 ·obtain⟨o,u,e2,e3⟩:=L.cell x c e;exact(e0.bs _ _ e2).2
theorem W0 {me:M Dv}{Q:VK}(S:LamScope N scope) (hK:K=G.K) (hb:∀(cl:List (Str×ai)) (pm cdv ct:af),bindArgs (qp "<lambda>" G.lq params body scope cl pm cdv ct) ⟨[],[]⟩=pure [])
  (hbody:∀(f:ai) (cdv:af) (cl:List (Str×ai)) (A:cf) (outer:List Env) (s:ag) (H:Hp) (E₀ E:XK),Good (jG P w K mg base N G.lq scope f cdv cl A outer s H E₀) G E k->aJ (jG P w K mg base N G.lq scope f cdv cl A outer s H E₀) G E body me)
  (hr:Room (k+1) A) (e0:Env0 P w K mg base A outer s H) (L:LamAt G base H μ h.length N params body scope f c' cl ds) (hall:∀x c,cl.lookup x=some c->x∈N) (sm:Sim G μ h H) (o:Out G E μ h.length H (me (ds.map some) h) (RelD G) Q):
  codeAny (model P w) A (.call (.ref f) ⟨[],[]⟩) (CR (bK P w base) outer P w H s Q E) s:=by
 obtain⟨pm,ctv,ho⟩:=L.ob;obtain⟨oc,hc,vs,t,hcd,hq⟩:=L.cd;have lim:s.heap.NoLimit:=e0.mod.nolimit.keeps λb o e=>(e0.bs b o e).1;have gc:s.heap.get? c'=some oc:=(e0.hok c' _ hc).1;refine PySem.W.kla_callFunE hr.depth (e0.hok f _ ho).1 rfl S.co S.gen rfl ⟨c',oc,vs,t,rfl,gc,hcd,hq⟩ ?_;rw[hb];refine ah (wpAny_newFunctionEnv S.nocell (λx hx=>absurd hx (by simp)) (λh₁ hns hsb=>⟨lim.fresh _ hsb, ?_⟩) S.kind);show codeAny _ _ (.expr body (oz G.lq scope s.heap.objs.size f (.ref c') cl)) _ _;have hk₁:∀b o,s.heap.get? b=some o->h₁.get? b=some o:=λb o e=>hsb.extBut b o (az (ar e)) (aj _ e);have hvs:∀(i:Nat),i<N.length->∃v:V,∀d,ds[i]?=some d->RelD G μ h.length H d v/\∀x,N[i]?=some x->∃c o u,cl.lookup x=some c/\base.get? c=some o/\o.data=.cell (some u)/\RelV v u:=λi hi=>by
  obtain⟨x,hx⟩:∃x,N[i]?=some x:=⟨_,bg hi⟩
  obtain⟨d,hd⟩:∃d,ds[i]?=some d:=⟨_,bg (by rw[L.len];exact hi)⟩
  obtain⟨c,ec⟩:=L.at_ i x hx;obtain⟨oo,u,v,e1,e2,r1,r2⟩:=L.val i x c d hx hd ec;refine⟨v,λd' hd'=>?_⟩;rw[hd]at hd';cases hd';refine⟨r2,λx' hx'=>?_⟩;rw[hx]at hx';cases hx';exact⟨c,oo,u,ec,e1,e2,r1⟩
 have hch:∃vs:List V,vs.length=N.length/\∀(i:Nat) (v:V),vs[i]?=some v->∀d,ds[i]?=some d->RelD G μ h.length H d v/\∀x,N[i]?=some x->∃c o u,cl.lookup x=some c/\base.get? c=some o/\o.data=.cell (some u)/\RelV v u:=by
  have:∀m,m<=N.length->∃vs:List V,vs.length=m/\∀(i:Nat) (v:V),vs[i]?=some v->∀d,ds[i]?=some d->RelD G μ h.length H d v/\∀x,N[i]?=some x->∃c o u,cl.lookup x=some c/\base.get? c=some o/\o.data=.cell (some u)/\RelV v u:=by
   intro m
   induction m with
   |zero=>exact λ_=>⟨[],rfl,λi v e=>by simp at e⟩
   |succ m ih=>
    intro hm;obtain⟨vs,hl,hv⟩:=ih (by omega);obtain⟨v,hv'⟩:=hvs m (by omega);refine⟨vs++[v],by simp[hl],λi v' e d hd=>?_⟩
    by_cases hi:i<vs.length
    ·rw[fh hi]at e;exact hv i v' e d hd
    ·rw[gv (by omega)]at e;have:i=m:=by have:=(ba.mp e).1;simp at this;omega
     subst this;simp[hl]at e;subst e;exact hv' d hd
  exact this _ (ak _)
 obtain⟨vs',hl,hv⟩:=hch;have I:Inv (jG P w K mg base N G.lq scope f (.ref c') cl A outer s H E) [] (vs'.map some) H { s with heap:=h₁,toks:=s.toks+([]:List (Str×af)).length }:=by
  refine WZ S hr.hd e0 L hall hns hk₁ (by simp[hl]) λi x v h1 h2=>?_;have h3:vs'[i]?=some v:=by
   rw[fe]at h2
   cases q:vs'[i]? with
   |none=>rw[q]at h2;cases h2
   |some a=>rw[q]at h2;cases h2;rfl
  obtain⟨d,hd⟩:∃d,ds[i]?=some d:=⟨_,bg (by rw[L.len];exact(ba.mp h1).1)⟩
  exact(hv i v h3 d hd).2 x h1
 have rs:RelS G μ h.length H (ds.map some) (vs'.map some):=⟨by simp[hl,L.len],λi d e=>by
  have h3:ds[i]?=some d:=by
   rw[fe]at e
   cases q:ds[i]? with
   |none=>rw[q]at e;cases e
   |some a=>rw[q]at e;cases e;rfl
  have hi:i<vs'.length:=by rw[hl,<-L.len];exact(ba.mp h3).1
  exact⟨vs'[i],by rw[fe,bg hi];rfl,(hv i _ (bg hi) d h3).1⟩⟩
 have gd:Good (jG P w K mg base N G.lq scope f (.ref c') cl A outer s H E) G (EB G μ h.length H (JQ (me (ds.map some) h))) k:=WY (hr.deeper _) hK (λu H' ⟨c,h',μ',er,x,s',fl⟩=>by
  cases q:me (ds.map some) h with
  |ok d hh=>rw[q]at er;cases er
  |bad=>rw[q]at er;cases er
  |ex c1 h1=>rw[q]at er o;cases er;exact o μ' H' u x s' fl) BQ
 refine PySem.W.kla_codeExpr (mf (hbody f (.ref c') cl A outer s H E _ gd hK [] _ (vs'.map some) H Q I ⟨μ,ds.map some,h,rs,sm, ?_⟩) (λu s' ⟨v,H',J,rv,q⟩=>⟨v,H',J.os,J.bare,J.base,J.hok,rv,q⟩) λe s' hs=>hs)
 cases q:me (ds.map some) h with
 |ok d hh=>rw[q]at o;exact o
 |bad=>rw[q]at o;exact o
 |ex c1 h1=>exact λμ' H' u x' s' fl=>⟨c1,h1,μ',rfl,x',s',fl⟩
end
section
variable{X:Cx}{pins:List (ai×Obj)}{σ:St}{H:Hp}{s:ag}
theorem W2 {i:Nat}{x:Str}{h':cu}{tk:Nat}{m:Str->Option af}{v:Option af}(I:Inv X pins σ H s) (hN:X.N.Nodup) (hi:X.N[i]?=some x) (hn:s.heap.Ns X.env.locals m)
  (hl:∀(i:Nat) (x:Str) (v:V),X.N[i]?=some x->σ[i]?=some (some v)->qG X.env.scope x->∃u,RelV v u/\GA X.env s.heap m x u)
  (hs:je X.env.locals s.heap h') (hn':h'.Ns X.env.locals (λy=>if y=x then v else m y)):Inv X pins (σ.set i none) H { s with heap:=h',toks:=tk }:=by
 have cne:=I.cne;have hok:HOk X.prog X.w H h':=λb ob e=>by
  refine(I.hok b ob e).stay (λc w' hc q=>(hs.2 c ?_).trans q) (λ_ q=>q) λ_ _ q=>q
  rintro rfl
  have hfree:=I.free
  rcases hc with hc|hc
  ·rw[<-hc]at e;rw[hfree]at e;cases e
  ·rw[hfree]at hc;cases hc
 refine⟨I.ok,I.os,I.bare,⟨λb o e n hb hx=>?_,λb o e n hb hx=>?_,I.base.free,λb o e hx=>?_,I.base.tups,I.base.frzs,I.base.tbls⟩,⟨_,hn',λj y v' e1 e2 e3=>?_⟩,λy c e=>?_,I.free,I.freeC,λp hp=>?_,hok,by simpa using I.len⟩
 ·exact(hs.2 b (az (aw (ar e) I.ok.above))).trans (I.base.keep b o e n hb hx)
 ·obtain⟨sl,e1⟩:=I.base.slot b o e n hb hx;exact⟨sl,(hs.2 b (az (aw (ar e) I.ok.above))).trans e1⟩
 ·obtain⟨o',e1⟩:=I.base.there b o e hx;exact⟨o',(hs.2 b (az (aw (ar e) I.ok.above))).trans e1⟩
 ·by_cases hj:j=i
  ·subst hj;have hiσ:j<σ.length:=by rw[I.len];exact(ba.mp hi).1
   rw[cz hiσ]at e2;cases e2
  ·rw[ey (cy hj)]at e2;obtain⟨u',r',q⟩:=hl j y v' e1 e2 e3;refine⟨u',r', ?_⟩
   rcases q with⟨k,e⟩|⟨k,c,e,z⟩
   ·refine .inl ⟨k, ?_⟩;have:y≠x:=λe=>hj (zX hN e1 (e▸hi));show(if y=x then v else m y)=some u';rw[if_neg this];exact e
   ·exact .inr ⟨k,c,e,z.sameBut hs (cne y c e)⟩
 ·obtain⟨w',z⟩:=I.cell y c e;exact⟨w',z.sameBut hs (cne y c e)⟩
 ·obtain⟨e,n,ne,nf,d⟩:=I.pin p hp;exact⟨(hs.2 p.1 ne).trans e,n,ne,nf,d⟩
def qY (X:Cx) (e:af):Cx:={ X with A:=X.A.mark (some e),calm:=false,xe:=λ_ _=>False }
theorem JR (e:af) (I:Inv X pins σ H s):Inv (qY X e) pins σ H s:=
 have ok:=I.ok
 ⟨⟨ok.mod,ok.kind,ok.glob,ok.blt,ok.above,ok.inj,ok.has,ok.cab,λz=>(nomatch z),ok.frames,ok.stk,ok.exf,ok.bs,ok.bsz,ok.noex,ok.exfs,ok.funs,ok.frf⟩,I.os,I.bare,I.base,I.loc,I.cell,I.free,I.freeC,I.pin,I.hok,I.len⟩
theorem W3 {e:af}(ok:X.Ok) (I:Inv (qY X e) pins σ H s):Inv X pins σ H s:=⟨ok,I.os,I.bare,I.base,I.loc,I.cell,I.free,I.freeC,I.pin,I.hok,I.len⟩
end
section
variable{X:Cx}{G:Cfg}{E:XK}{k:Nat}{N:List Str}{params:ni}{body:bq}{scope:iq}{me:M Dv}{ncl:Nat}{NE:ai}
theorem W4 {x xn en nm:Str}{p cpos epos np xp ep apos hpos tpos:Pos}{pins:List (ai×Obj)}{σ:St}{H:Hp}{s:ag}{D:Ends}{f c':ai}{cl:List (Str×ai)}{μ:Nat->ai}{h:Hs}{ds:List Dv}
  (hK:X.K=G.K) (hst:X.stack=X.env::X.outer) (hfr:X.env.frame=some X.env.locals) (hnd:X.N.Nodup) (h0:X.N[0]?=some x) (h1:X.N[1]?=some xn) (h2:X.N[2]?=some en) (hfn:∀y,X.fn y=true)
  (l0:X.env.scope.names.lookup x=some .local) (l1:X.env.scope.names.lookup xn=some .local) (l2:X.env.scope.names.lookup en=some .local)
  (d0:(x==("__debug__" : Str))=false) (c0:(x==("__classdict__" : Str))=false) (d2:(en==("__debug__" : Str))=false) (c2:(en==("__classdict__" : Str))=false) (dn:(nm==("__debug__" : Str))=false)
  (hsw:swapsWith (.Call (.Name x p) [] [] cpos) none epos.line X.env=pure false) (hsw2:swapsWith (.Name en ep) (some (.Name xn xp)) apos.line X.env=pure false)
  (hg:Gl X nm) (hm:X.mg nm=some (.ref NE)) (hx1:jy X.K (.ref NE) (.type "BaseException")=some true) (hx2:jy X.K (.type "type") (.type "tuple")=some false) (hx3:yf X.K (.ref NE) (.ref NE)=some true)
  (hsub:∀c,c<ncl->jy X.K (.ref (G.cl c)) (.ref NE)=some true)
  (S:LamScope N scope) (hb:∀(cl:List (Str×ai)) (pm cdv ct:af),bindArgs (qp "<lambda>" G.lq params body scope cl pm cdv ct) ⟨[],[]⟩=pure [])
  (hbody:∀(f:ai) (cdv:af) (cl:List (Str×ai)) (A:cf) (outer:List Env) (s:ag) (H:Hp) (E₀ E:XK),Good (jG X.prog X.w X.K X.mg X.base N G.lq scope f cdv cl A outer s H E₀) G E k->aJ (jG X.prog X.w X.K X.mg X.base N G.lq scope f cdv cl A outer s H E₀) G E body me)
  (hr:Room (k+1) X.A) (I:Inv X pins σ H s) (hσ:σ[0]?=some (some (.ref f))) (L:LamAt G X.base H μ h.length N params body scope f c' cl ds) (hall:∀x c,cl.lookup x=some c->x∈N) (sm:Sim G μ h H)
  (hD:match me (ds.map some) h with
   | .ok _ h1=>∀μ' H',Ext μ h.length H μ' h1.length H'->Sim G μ' h1 H'->D.nx σ H'
   | .ex c h1=>c<ncl/\∀μ' H' a,Ext μ h.length H μ' h1.length H'->Sim G μ' h1 H'->RelD G μ' h1.length H' (.exc c) (.ref a)->D.nx (((σ.set 2 (some (.ref a))).set 1 (some (.ref a))).set 2 none) H'
   | .bad=>False):
  wpAny (model X.prog X.w) X.A (exec (.Try [.Expr (.Call (.Name x p) [] [] cpos) epos] [.ExceptHandler (some (.Name nm np)) (some en) [.Assign [.Name xn xp] (.Name en ep) apos] hpos] [] [] tpos) X.env) (SP X pins D) X.xe s:=by
 have hcls:(X.env.scope.kind==.class||(X.env.scope.kind==.module&&X.env.locals != X.env.globals))=false:=by rw[I.ok.kind];rfl
 refine wpAny_Try_except ?_;obtain⟨pm,ctv,ho⟩:=L.ob;refine qk (wpAny_Expr_any (mq (aV (mf (zY (X:=X.nox) (pos:=p) h0 (.inl l0) d0 c0 pins s σ H (λv H'=>v=.ref f/\H'=H) (I.wish _) ⟨_,hσ,rfl,rfl⟩) (λ_ _ q=>q) λ_ _ z=>ig z) λu s1 ⟨v,H',I',r,e1,e2⟩=>?_)) I.quiet hsw);subst e1;subst e2;cases r;have I1:Inv X pins σ H' s1:=I'.unwish;refine PySem.W.callWith_F0 ⟨_,_,_,_,(I1.hok f _ ho).1⟩ ?_;refine yc (pz (W0 (E:=EB G μ h.length H' (JQ (me (ds.map some) h))) (Q:=λ_ H2=>∃d hh μ',me (ds.map some) h=.ok d hh/\Ext μ h.length H' μ' hh.length H2/\Sim G μ' hh H2) S hK hb hbody hr I1.env0 L hall sm ?_) λr s' hq=>?_)
 ·cases q:me (ds.map some) h with
  |ok d hh=>exact λμ' H' v x' s' _=>⟨d,hh,μ',rfl,x',s'⟩
  |bad=>rw[q]at hD;exact hD.elim
  |ex c1 h1=>exact λμ' H' u x' s' fl=>⟨c1,h1,μ',rfl,x',s',fl⟩
 cases r with
 |ok fl=>
  cases fl with
  |ret u=>obtain⟨v,H2,I2,r2,d,hh,μ',e1,x1,s1⟩:=I1.after hq;refine pd (pd ?_);rw[e1]at hD;exact⟨σ,H2,I2,hD μ' H2 x1 s1⟩
  |next=>exact ig hq
  |brk=>exact ig hq
  |cont=>exact ig hq
 |error ev=>
  obtain⟨e,C,H2,rfl,os,bare,un,hok,fl,c,hh,μ',er,x1,sm1,e',φ,eu,g1,g2⟩:=hq;cases eu
  cases qm:me (ds.map some) h with
  |ok d h3=>rw[qm]at er;cases er
  |bad=>rw[qm]at er;cases er
  |ex c3 h3=>
  rw[qm]at er hD;cases er;obtain⟨hc,hD⟩:=hD;have I2:Inv X pins σ H2 s':=I1.call' os un hok bare (λb z=>absurd z (by simp));refine BN (P:=X.prog) (w:=X.w) (H:=H2) (base:=X.base) (env:=X.env) (outer:=X.outer) (by rw[<-hst];exact I2.ok.frames) (by rw[<-hst];exact I2.stack) hfr hok (by rw[<-hst];exact I2.stkFree) fl λh4 H4 un4 hok4 fl4 sx4=>?_;have I4:Inv X pins σ H4 { s' with heap:=h4 }:=I2.call (h':=h4) (g':=s'.gens) (d':=s'.drawn) (t':=s'.toks) (by rw[hst];exact un4) hok4 I2.bare (λb z=>absurd z (by simp));obtain⟨sm4,x4⟩:=sm1.sameX sx4 ⟨_,g1⟩;obtain⟨T,a0,w1,w2,w3,w4⟩:=id fl4;obtain⟨T0,b0,v1,_,_,_⟩:=id fl;have hC:C=.ref (G.cl c):=by have xo:dJ C e T0 b0 s'.heap:=(show ObjOk X.prog X.w H2 s'.heap e _ from hok e _ v1).1;rw[v1]at g1;cases g1;obtain⟨oo,q1,q2⟩:=g2 _ xo;obtain⟨o2,vs2,q3,q4,_⟩:=xo;rw[q3]at q1;cases q1;rw[<-q4,q2]
  subst hC;have xo4:dJ (.ref (G.cl c)) e T a0 h4:=(show ObjOk X.prog X.w H4 h4 e _ from hok4 e _ w1).1;obtain⟨oe,vs,y1,y2,y3,y4,y5,y6⟩:=id xo4;refine wpAny_handleBy_cons (codeAny_handlers_test (mf (sN (X:=qY X (.ref e)) (E:=λ_ _=>False) (Q:=λu s5=>u=.ref NE/\Inv X pins σ H4 s5/\s5.heap=h4) (JR _ I4) hg hm ⟨rfl,I4,rfl⟩ dn) (λcv s5 hs5=>?_) λ_ _ z=>ig z)) (by intro z;cases z);obtain⟨rfl,I5,e5⟩:=hs5;refine WX (K:=X.K) I5.kIn (by rw[e5];exact y1) y2 hx1 hx2 hx3 (hsub c hc) ?_;obtain⟨oT,ts,z1,z2,z3⟩:dR T h4:=(show ObjOk X.prog X.w H4 h4 T _ from hok4 T _ w2).1;have l3:3<ts.size:=(du.mp z3).1;refine codeAny_handlers_suite_as (IZ (e:=e) (T:=T) (by rw[e5];exact y1) y3 y5 (by rw[e5];exact z1) z2 l3 λh6 sb6 tb6=>?_);rw[e5]at sb6;have ge6:h6.get? e=some oe:=sb6.extBut _ _ (cy w4) y1;have I6:Inv X pins σ (upd H4 T (.ext (dR T))) { s5 with heap:=h6 }:=I5.write (x:=T) (e:=T) (o:=.ext (dR T)) (h':=h6) (t':=s5.toks) (by rw[w2];trivial) (.inl rfl) (λb u hb q=>by rw[e5]at q;exact sb6.extBut _ _ hb q) (let ⟨oo,_,q,_⟩:=tb6;⟨oo,q⟩) (wO tb6);have se:Same H4 (upd H4 T (.ext (dR T))):=λb o q=>by
   by_cases hb:b=T
   ·subst hb;rw[w2]at q;cases q;exact cK
   ·rw[bP hb];exact q
  have w1':(upd H4 T (.ext (dR T))) e=some (.ext (dJ (.ref (G.cl c)) e T a0)):=se _ _ w1;have I7:Inv X pins σ (upd (upd H4 T (.ext (dR T))) e (.frz oe (.own 0))) { s5 with heap:=h6 }:=I6.write (x:=e) (e:=e) (o:=.frz oe (.own 0)) (h':=h6) (t':=s5.toks) (by rw[w1'];trivial) (.inl rfl) (λb u hb q=>q) ⟨_,ge6⟩ ⟨ge6,oe,ge6⟩;have sx7:tJ e (upd H4 T (.ext (dR T))) (upd (upd H4 T (.ext (dR T))) e (.frz oe (.own 0))):=λb o hb q=>by rw[bP hb];exact q
  obtain⟨sm7,x7⟩:=(sm4.same se).sameX sx7 ⟨_,w1'⟩;have xx:Ext μ h.length H' μ' hh.length (upd (upd H4 T (.ext (dR T))) e (.frz oe (.own 0))):=x1.trans ((x4 _).trans ((Ext.same se).trans (x7 _)));generalize hH7:upd (upd H4 T (.ext (dR T))) e (.frz oe (.own 0))=H7 at *;have rl:RelD G μ' hh.length H7 (.exc c) (.ref e):=by rw[RelD,<-hH7];exact⟨e,oe,.own 0,rfl,cK,y2,y6,vs,y3⟩
  refine sM (v:=.ref e) I7 hnd h2 (.inl l2) rfl (λs8 I8=>?_) (.inr l2);have I8':Inv (qY X (.ref e)) pins (σ.set 2 (some (.ref e))) H7 s8:=JR _ I8;have hlen:2<σ.length:=by rw[I.len];exact(ba.mp h2).1
  refine mf (GI (AF (X:=qY X (.ref e)) (i:=1) (pos:=apos) (pos':=xp) hnd h1 (.inl l1) (zY (X:=qY X (.ref e)) (pos:=ep) h2 (.inl l2) d2 c2) hsw2 (.inr l1)) pins s8 (σ.set 2 (some (.ref e))) H7 { nx:=λσ' H'=>σ'=(σ.set 2 (some (.ref e))).set 1 (some (.ref e))/\H'=H7,rt:=λ_ _=>False } I8' ⟨.ref e,cz hlen,rfl,rfl⟩) (λfl9 s9 hs9=>?_) λ_ _ z=>ig z
  cases fl9 with
  |ret u=>obtain⟨_,_,_,_,_,z⟩:=hs9;exact z.elim
  |brk=>obtain⟨_,_,_,z⟩:=hs9;exact z.elim
  |cont=>obtain⟨_,_,_,z⟩:=hs9;exact z.elim
  |next=>obtain⟨σ9,H9,I9,e9,f9⟩:=hs9;subst e9;subst f9;have I9':Inv X pins _ H9 s9:=W3 I8.ok I9;obtain⟨m,hn,hl⟩:=id I9'.loc;refine wpAny_nameGoes_keeps l2 hn hcls λh10 v10 hn10 hs10=>?_;exact⟨_,H9,W2 I9' hnd h2 hn hl hs10 hn10,hD μ' H9 e xx sm7 rl⟩
end
def tO:Sr->Rs Dv
 | .rt d h=>.ok d h
 | .nx _ h=>.ok .non h
 |_=>.bad
def oH (n:Nat) (d:Dv):Ev:=none::some d::yx (n - 2) none
def tP (n ncl:Nat) (mb:MS):Rs Dv->Rs Dv
 | .ok _ h1=>tO (mb (oH n .non) h1)
 | .ex c h1=>if c<ncl then tO (mb (oH n (.exc c)) h1)else .bad
 | .bad=>.bad
def wW (G:Cfg) (base:cu) (Nl:List Str) (params:ni) (body:bq) (scope:iq) (me:M Dv) (n ncl:Nat) (mb:MS):Sp:=λvs H Q E=>∃f c' cl ds μ h,vs=[.ref f]/\LamAt G base H μ h.length Nl params body scope f c' cl ds/\(∀x c,cl.lookup x=some c->x∈Nl)/\Sim G μ h H/\Out G E μ h.length H (tP n ncl mb (me (ds.map some) h)) (RelD G) Q
theorem JS {G:Cfg}{E:XK}{μ μ1:Nat->ai}{n n1:Nat}{H H1:Hp}{r:Sr}{Q:VK}(o:Out G E μ n H (tO r) (RelD G) Q) (x:Ext μ n H μ1 n1 H1):SOut G (λ_ _ _=>False) μ1 n1 H1 r { nx:=λ_ H'=>Q .non H',rt:=Q }:=by
 cases r with
 |nx ρ h'=>exact λμ' H' σ' y s _=>o μ' H' .non (x.trans y) s rfl
 |rt d h'=>exact λμ' H' v y s r=>o μ' H' v (x.trans y) s r
 |bk ρ h'=>exact o.elim
 |ct ρ h'=>exact o.elim
 |ex c h'=>exact o.elim
 |bad=>exact o
theorem JT {G:Cfg}{μ:Nat->ai}{n:Nat}{H:Hp}{m:Nat}{d:Dv}{v:V}{σ:St}(hl:σ.length=m) (hm:2<=m) (h1:σ[1]?=some (some v)) (r:RelD G μ n H d v):RelS G μ n H (oH m d) σ:=by
 refine⟨by simp[oH,hl];omega,λi d' e=>?_⟩;unfold oH at e
 match i,e with
 |0,e=>simp at e
 |1,e=>simp at e;subst e;exact⟨v,h1,r⟩
 |i+2,e=>
  simp only[tw,tu]at e
  split at e <;> cases e
section
variable{P:bh}{w:cn}{K:aq}{mg:Str->Option af}{base:cu}{f:ai}{G:Cfg}{k:Nat}{Nm Nl:List Str}{params:ni}{body:bq}{scope:iq}{me:M Dv}{ncl:Nat}{NE:ai}{mb:MS}
theorem W5 {x xn en nm q qual:Str}{st:gz}{fd:bo}{p cpos epos np xp ep apos hpos tpos zpos zp npos:Pos}{j:Nat}{rest:List gz}(Fn:Fun K q qual st f fd) (S:FnScope Nm [x] (aU st)) (hK:K=G.K)
  (hdef:iY st=.Assign [.Name xn zp] (.Constant .none j npos) zpos::.Try [.Expr (.Call (.Name x p) [] [] cpos) epos] [.ExceptHandler (some (.Name nm np)) (some en) [.Assign [.Name xn xp] (.Name en ep) apos] hpos] [] [] tpos::rest)
  (h0:Nm[0]?=some x) (h1:Nm[1]?=some xn) (h2:Nm[2]?=some en)
  (l0:(aU st).names.lookup x=some .local) (l1:(aU st).names.lookup xn=some .local) (l2:(aU st).names.lookup en=some .local)
  (d0:(x==("__debug__" : Str))=false) (c0:(x==("__classdict__" : Str))=false) (d2:(en==("__debug__" : Str))=false) (c2:(en==("__classdict__" : Str))=false) (dn:(nm==("__debug__" : Str))=false)
  (hsw:∀L cd,swapsWith (.Call (.Name x p) [] [] cpos) none epos.line (envOfC qual (aU st) L f cd)=pure false) (hsw2:∀L cd,swapsWith (.Name en ep) (some (.Name xn xp)) apos.line (envOfC qual (aU st) L f cd)=pure false)
  (hsw3:∀L cd,swapsWith (.Constant .none j npos) (some (.Name xn zp)) zpos.line (envOfC qual (aU st) L f cd)=pure false)
  (hg:(aU st).names.lookup nm=some .globalImplicit) (hm:mg nm=some (.ref NE)) (hx1:jy K (.ref NE) (.type "BaseException")=some true) (hx2:jy K (.type "type") (.type "tuple")=some false) (hx3:yf K (.ref NE) (.ref NE)=some true)
  (hsub:∀c,c<ncl->jy K (.ref (G.cl c)) (.ref NE)=some true)
  (LS:LamScope Nl scope) (hb:∀(cl:List (Str×ai)) (pm cdv ct:af),bindArgs (qp "<lambda>" G.lq params body scope cl pm cdv ct) ⟨[],[]⟩=pure [])
  (hbody:∀(f:ai) (cdv:af) (cl:List (Str×ai)) (A:cf) (outer:List Env) (s:ag) (H:Hp) (E₀ E:XK),Good (jG P w K mg base Nl G.lq scope f cdv cl A outer s H E₀) G E k->aJ (jG P w K mg base Nl G.lq scope f cdv cl A outer s H E₀) G E body me)
  (hrest:∀(cdv:af) (A:cf) (outer:List Env) (s:ag) (H:Hp) (E₀ E:XK),Good (gB (bK P w base) P w K mg base Nm qual (aU st) f cdv A outer s H E₀) G E (k+1)->jB (gB (bK P w base) P w K mg base Nm qual (aU st) f cdv A outer s H E₀) G E rest mb):
  FnOk P w K mg base (bK P w base) (k+2) f fd [x] (wW G base Nl params body scope me Nm.length ncl mb):=by
 obtain⟨oc,od,kV,doc,pm,an,cdv,ct,osl,rfl,lk,hcd⟩:=Fn.ex;have hNl:2<Nm.length:=(ba.mp h2).1;refine AM lk hcd S (λvs H Q E ⟨f,c',cl,ds,μ,h,e,_⟩=>by rw[e];rfl) λA outer s H vs Q E hr hsp=>?_;obtain⟨fl,c',cl,ds,μ,h,rfl,L,hall,sm,o⟩:=hsp;refine⟨λD σ H1=>σ=start Nm [.ref fl]/\H1=H/\D={ nx:=λ_ H'=>Q .non H',rt:=Q }, ?_,rfl,rfl,rfl⟩;intro pins s1 σ H1 D I ⟨eσ,eH,eD⟩;subst eH;have hσl:σ.length=Nm.length:=I.len;have hσ0:σ[0]?=some (some (.ref fl)):=by rw[eσ];rfl
 rw[hdef];have gd:Good (gB (bK P w base) P w K mg base Nm qual (aU st) f cdv A outer s H1 E) G (λ_ _ _=>False) (k+1):=BP hr hK (λ_ _ z=>z.elim) (λ_ _ _ _ _ z=>z);have hset:(σ.set 1 (some .non))[0]?=some (some (.ref fl)):=by rw[ey (by decide)];exact hσ0
 refine qk (aV (AF (X:=gB (bK P w base) P w K mg base Nm qual (aU st) f cdv A outer s H1 E) (i:=1) (pos:=zpos) (pos':=zp) S.nd h1 (.inl l1) (GD (j:=j) (pos:=npos)) (hsw3 _ _) (.inl rfl) pins s1 σ H1 { nx:=λσ' H'=>σ'=σ.set 1 (some .non)/\H'=H1,rt:=λ_ _=>False } I ⟨rfl,rfl⟩) λfl2 s2 q2=>?_)
 cases fl2 with
 |ret u=>obtain⟨_,_,_,_,_,z⟩:=q2;exact z.elim
 |brk=>obtain⟨_,_,_,z⟩:=q2;exact z.elim
 |cont=>obtain⟨_,_,_,z⟩:=q2;exact z.elim
 |next=>
  obtain⟨σ2,H2,I2,e2,f2⟩:=q2;subst e2;subst f2;refine qk (aV (W4 (X:=gB (bK P w base) P w K mg base Nm qual (aU st) f cdv A outer s H2 E) (G:=G) (N:=Nl) (me:=me) (ncl:=ncl) (NE:=NE) (k:=k) (D:={ nx:=wK G (λ_ _ _=>False) mb D,rt:=λ_ _=>False })
   hK rfl rfl S.nd h0 h1 h2 (λ_=>rfl) l0 l1 l2 d0 c0 d2 c2 dn (hsw _ _) (hsw2 _ _) hg hm hx1 hx2 hx3 hsub LS hb hbody hr I2 hset L hall sm ?_) λfl3 s3 q3=>?_)
  ·cases qm:me (ds.map some) h with
   |bad=>rw[qm]at o;exact o
   |ok d hh=>rw[qm]at o;intro μ' H' x' s';refine⟨μ',oH Nm.length .non,hh,JT (v:=.non) (by rw[lr];exact hσl) (by omega) (cz (by omega)) rfl,s', ?_⟩;rw[eD];exact JS o x'
   |ex c hh=>
    rw[qm]at o;unfold tP at o;dsimp only at o
    split at o
    ·rename_i hc;refine⟨hc,λμ' H' a x' s' r'=>?_⟩;refine⟨μ',oH Nm.length (.exc c),hh,JT (v:=.ref a) (by simp only[lr];exact hσl) (by omega) ?_ r',s', ?_⟩
     ·rw[ey (by decide),cz (by simp only[lr];omega)]
     ·rw[eD];exact JS o x'
    ·exact o.elim
  ·cases fl3 with
   |ret u=>obtain⟨_,_,_,_,_,z⟩:=q3;exact z.elim
   |brk=>obtain⟨_,_,_,z⟩:=q3;exact z.elim
   |cont=>obtain⟨_,_,_,z⟩:=q3;exact z.elim
   |next=>obtain⟨σ3,H3,I3,q3⟩:=q3;exact hrest cdv A outer s H2 E _ gd hK pins s3 σ3 H3 D I3 q3
end
theorem W6:∀(l:List af) (a b:Int) (t u:Tok) (c:af),wy l->wy (l++[.int a t,.int b u,c]):=by
 intro l a b t u c h
 fun_induction wy l with
 |case1=>trivial
 |case2 x t y u z rest ih=>exact ih h
 |case3 l h1 h2=>exact h.elim
theorem W7 {pos:Pos}{cv c:af}{a b:Int}{t u:Tok}:∀(l:List af),wy l->codeAmong pos (l++[.int a t,.int b u,c])=some cv->codeAmong pos l=some cv∨cv=c:=by
 intro l h
 fun_induction wy l with
 |case1=>
  intro e;simp only[List.nil_append,codeAmong]at e
  split at e
  ·cases e;exact .inr rfl
  ·cases e
 |case2 x t y u z rest ih=>
  intro e;simp only[List.cons_append,codeAmong]at e ⊢
  split at e
  ·rename_i hc;rw[if_pos hc];exact .inl e
  ·rename_i hc;rw[if_neg hc];exact ih h e
 |case3 l h1 h2=>exact h.elim
def mR (mg:Str->Option af) (base:cu):Prop:=∃bm ob,mg "__builtins__" = some (.ref bm)/\bm≠builtinsNs/\base.get? bm=some ob/\ob.cls=.type "module"/\ob.dict=some builtinsNs/\ob.data=.plain
def JU (H H':Hp):Prop:=∀a o,(∀ps,o≠.tbl ps)->H a=some o->H' a=some o
section
variable{X:Cx}{G:Cfg}{params:ni}{body:bq}{scope:iq}{lpos:Pos}{c P:ai}
theorem W8 (hdef:defaultsOf params X.env=([],[])) (hq:X.env.qual ++ "<lambda>" = G.lq) (hP:G.tab=some P) (hcode:X.env.code=.ref c) (hC:mw X.base c P) (hB:mR X.mg X.base)
  (hfree:∀x,(x,cb)∈scope.names->X.env.kindOf x=some .cell∨X.env.kindOf x=some .free):
  PE X (.Lambda params body scope lpos) (λσ H Q=>TabOk G H/\∀f c' pm ctv oc H1,JU H H1->TabOk G H1->H1 f=some (.frz (kq "<lambda>" G.lq params body scope (cU X.env scope.names []) pm c' ctv) (.own 0))->H1 c'=some (.frz oc (.own 0))->wB G.lq oc->Q (.ref f) H1):=by
 intro pins s σ H Q I ⟨hT,h⟩;obtain⟨ps,t1,t2,t3⟩:=hT P hP;have gP:s.heap.get? P=some (ur ps):=I.hok P _ t1;have hcl:closureFor scope X.env=pure (cU X.env scope.names []):=AY λx hx=>I.ok.has x (hfree x hx);have hgs:s.heap.Ns dz X.mg:=I.mod.glob.keeps I.bk;obtain⟨bm,ob,b1,b2,b3,b4,b5,b6⟩:=hB;have b3':=I.bk _ _ b3;have hgP:dz≠P:=λq=>by obtain⟨o,es,ep,e,hd,_⟩:=hgs;rw[q,gP]at e;cases e;cases hd
 have hbP:bm≠P:=λq=>by rw[q,gP]at b3';cases b3';cases b4
 have hbG:bm≠dz:=λq=>by obtain⟨o,es,ep,e,hd,_⟩:=hgs;rw[<-q,b3']at e;cases e;rw[hd]at b6;cases b6
 have hba:s.heap.BuiltinsAt X.mg P:=⟨bm,ob,b1,b2,hbG,hbP,b3',b4,b5,b6⟩
 refine PySem.W.kla_eval hdef ?_;rw[hq]
 cases hc:codeAmong lpos ps.toList with
 |some cv=>obtain⟨c',oc,ec,h2,h3⟩:=t3 lpos cv hc;subst ec;refine PySem.W.kla_makeFunctionHit (mg:=X.mg) hcl I.ok.glob hgs hcode (hC.keeps I.bk) gP t2 hc hba λctv h' tk hk hsz=>?_;have hn:H h'.objs.size=none:=I.hok.fresh hsz;have kk:∀b u,s.heap.get? b=some u->(h'.push { cls:=.type "function",data:=.func (qp "<lambda>" G.lq params body scope (cU X.env scope.names []) ((X.mg "__name__").getD .none) (.ref c') ctv) }).get? b=some u:=λb u q=>aj _ (hk b u q);have gf:=ax h' (o:=kq "<lambda>" G.lq params body scope (cU X.env scope.names []) ((X.mg "__name__").getD .none) c' ctv) rfl;have I1:=I.laid (a:=h'.objs.size) (o:=.frz (kq "<lambda>" G.lq params body scope (cU X.env scope.names []) ((X.mg "__name__").getD .none) c' ctv) (.own 0)) (t':=tk) kk hsz ⟨gf,_,gf⟩;have sm:Same H (upd H h'.objs.size (.frz (kq "<lambda>" G.lq params body scope (cU X.env scope.names []) ((X.mg "__name__").getD .none) c' ctv) (.own 0))):=cI hn;exact⟨.ref h'.objs.size,_,I1,rfl,h _ c' _ ctv oc _ (λa o _ q=>sm a o q) (hT.keep λa o _ _ q=>sm a o q) cK (sm _ _ h2) h3⟩
 |none=>
  refine PySem.W.kla_makeFunction (mg:=X.mg) hcl I.ok.glob hgs hcode (hC.keeps I.bk) gP t2 hc hgP hba λc' ctv h' tk hx hge hlt hrec htb=>?_;obtain⟨c₂,oc,vs,t,e2,hoc,hd,hv⟩:=hrec;cases e2;generalize hfo:kq "<lambda>" G.lq params body scope (cU X.env scope.names []) ((X.mg "__name__").getD .none) c' ctv=fo;have nfo:fo.isFreed=false:=by rw[<-hfo];rfl
  have gf:(h'.push fo).get? h'.objs.size=some fo:=ax h' nfo;have goc:(h'.push fo).get? c'=some oc:=aj _ hoc;have gP':=aj fo htb;generalize hps:ps++#[rawInt lpos.line,rawInt lpos.col,.ref c']=ps' at gP';have lP:P<s.heap.objs.size:=ar gP;have kk:∀b u,b≠P->s.heap.get? b=some u->(h'.push fo).get? b=some u:=λb u hb q=>aj _ (hx b u hb q);have lt0:∀b u,s.heap.get? b=some u->b<s.heap.objs.size:=λb u q=>ar q;have nPc:P≠c':=az (aw lP hge);have nPf:P≠h'.objs.size:=az (aw lP (dm hge (ic hlt)));have ncf:c'≠h'.objs.size:=az hlt;have lH:∀b o,H b=some o->b<s.heap.objs.size:=λb o q=>I.hok.lt q;have H1e:∀b,b≠P->b<s.heap.objs.size->upd (upd (upd H P (.tbl ps')) c' (.frz oc (.own 0))) h'.objs.size (.frz fo (.own 0)) b=H b:=λb h1 h2=>by rw[bP (az (aw h2 (dm hge (ic hlt)))),bP (az (aw h2 hge)),bP h1]
  have eP:upd (upd (upd H P (.tbl ps')) c' (.frz oc (.own 0))) h'.objs.size (.frz fo (.own 0)) P=some (.tbl ps'):=by rw[bP nPf,bP nPc,cK]
  have ec:upd (upd (upd H P (.tbl ps')) c' (.frz oc (.own 0))) h'.objs.size (.frz fo (.own 0)) c'=some (.frz oc (.own 0)):=by rw[bP ncf,cK]
  have ef:upd (upd (upd H P (.tbl ps')) c' (.frz oc (.own 0))) h'.objs.size (.frz fo (.own 0)) h'.objs.size=some (.frz fo (.own 0)):=cK;have cases1:∀b o,upd (upd (upd H P (.tbl ps')) c' (.frz oc (.own 0))) h'.objs.size (.frz fo (.own 0)) b=some o->(b=h'.objs.size/\o=.frz fo (.own 0))∨(b=c'/\o=.frz oc (.own 0))∨(b=P/\o=.tbl ps')∨(b≠P/\H b=some o):=λb o q=>by
   by_cases q1:b=h'.objs.size
   ·subst q1;rw[cK]at q;cases q;exact .inl ⟨rfl,rfl⟩
   rw[bP q1]at q
   by_cases q2:b=c'
   ·subst q2;rw[cK]at q;cases q;exact .inr (.inl ⟨rfl,rfl⟩)
   rw[bP q2]at q
   by_cases q3:b=P
   ·subst q3;rw[cK]at q;cases q;exact .inr (.inr (.inl ⟨rfl,rfl⟩))
   rw[bP q3]at q;exact .inr (.inr (.inr ⟨q3,q⟩))
  generalize upd (upd (upd H P (.tbl ps')) c' (.frz oc (.own 0))) h'.objs.size (.frz fo (.own 0))=H1 at *;have keepO:∀b o,(∀ps,o≠.tbl ps)->H b=some o->H1 b=some o:=λb o hn q=>by rw[H1e b (λz=>by subst z;rw[t1]at q;cases q;exact hn _ rfl) (lH b o q)];exact q
  have un:Un X.fs [] H H1 s.heap (h'.push fo):=by
   have nP:∀b,H b=none->b≠P:=λb n z=>by subst z;rw[t1]at n;cases n
   refine⟨λb o q n _ _=>kk b o (nP b n) q,λb o q n _ _=>⟨o.slots,kk b o (nP b n) q⟩,λb o q n _=>by rw[H1e b (nP b n) (lt0 b o q)];exact n,λb o q _=>?_,λb xs q=>keepO b _ (λ_ z=>by cases z) q,λb o u q=>keepO b _ (λ_ z=>by cases z) q,λb qs q=>?_⟩
   ·by_cases hb:b=P
    ·subst hb;exact⟨_,gP'⟩
    ·exact⟨_,kk b o hb q⟩
   ·by_cases hb:b=P
    ·subst hb;rw[t1]at q;cases q;exact⟨#[rawInt lpos.line,rawInt lpos.col,.ref c'],by rw[eP,hps]⟩
    ·exact⟨#[],by rw[H1e b hb (lH b _ q),q];simp⟩
  have hok1:HOk X.prog X.w H1 (h'.push fo):=λb o q=>by
   rcases cases1 b o q with⟨rfl,rfl⟩|⟨rfl,rfl⟩|⟨rfl,rfl⟩|⟨hb,q⟩
   ·exact⟨gf,_,gf⟩
   ·exact⟨goc,_,goc⟩
   ·exact gP'
   ·refine(I.hok b o q).stay (λb2 u hb2 z=>kk b2 u ?_ z) (λb2 z=>keepO b2 _ (λ_ z=>by cases z) z) λb2 xs z=>keepO b2 _ (λ_ z=>by cases z) z
    rcases hb2 with rfl|hb2
    ·exact hb
    ·rintro rfl;rw[t1]at hb2;cases hb2
  have I1:Inv X pins σ H1 { s with heap:=h'.push fo,toks:=tk }:=I.un un hok1;refine⟨.ref h'.objs.size,H1,I1,rfl,h h'.objs.size c' ((X.mg "__name__").getD .none) ctv oc H1 keepO ?_ (by rw[hfo];exact ef) ec ⟨vs,t,hd,hv⟩⟩;intro P' eP';rw[hP]at eP';cases eP';have hl:ps'.toList=ps.toList++[rawInt lpos.line,rawInt lpos.col,.ref c']:=by rw[<-hps];simp
  refine⟨ps',eP,by rw[hl];exact W6 _ _ _ _ _ _ t2,λpos cv q=>?_⟩;rw[hl]at q
  rcases W7 _ t2 q with q|q
  ·obtain⟨a,oa,z1,z2,z3⟩:=t3 pos cv q;exact⟨a,oa,z1,keepO a _ (λ_ z=>by cases z) z2,z3⟩
  ·exact⟨c',oc,q,ec,vs,t,hd,hv⟩
end
def mS:List Nat->Ev->Option (List Dv)
 | [],_=>some []
 |i::r,ρ=>match ρ[i]? with
  |some (some d)=>(match mS r ρ with
   |some ds=>some (d::ds)
   |none=>none)
  |_=>none
theorem JV {ρ:Ev}:∀{caps:List Nat}{ds:List Dv},mS caps ρ=some ds->ds.length=caps.length/\∀(i:Nat) (d:Dv),ds[i]?=some d->∃j,caps[i]?=some j/\ρ[j]?=some (some d)
 | [],ds,e=>by unfold mS at e;cases e;exact⟨rfl,λi d e=>by simp at e⟩
 |j::r,ds,e=>by
  unfold mS at e
  split at e
  ·rename_i d0 h0
   split at e
   ·rename_i ds0 h1;cases e;obtain⟨l,k⟩:=JV h1;refine⟨by simp[l],λi d q=>?_⟩
    cases i with
    |zero=>simp at q;subst q;exact⟨j,rfl,h0⟩
    |succ i=>exact k i d (by simpa using q)
   ·cases e
  ·cases e
def iQ (caps:List Nat) (n ncl:Nat) (mb:MS) (me:M Dv):M Dv:=λρ h=>match mS caps ρ with
 |some ds=>tP n ncl mb (me (ds.map some) h)
 |none=>.bad
def jH (base h:cu) (cs:List ai):cu:=PySem.W.hideAll h ((bf h.objs.size).filter λb=>!((base.get? b).isSome||cs.contains b))
theorem BX {base h:cu}{cs:List ai}{b:ai}{o:Obj}(e:h.get? b=some o) (hb:(∃u,base.get? b=some u)∨b∈cs):(jH base h cs).get? b=some o:=
 Bu _ e λz=>by
  have:=(gw.mp z).2
  rcases hb with⟨u,hb⟩|hb
  ·simp[hb]at this
  ·simp[hb]at this
theorem JW {base h:cu}{cs:List ai}{b:ai}{o:Obj}(e:(jH base h cs).get? b=some o):h.get? b=some o/\((∃u,base.get? b=some u)∨b∈cs):=by
 have e1:=Cc _ e;refine⟨e1, ?_⟩
 by_cases hb:(∃u,base.get? b=some u)∨b∈cs
 ·exact hb
 ·exfalso
  have hm:b∈(bf h.objs.size).filter λb=>!((base.get? b).isSome||cs.contains b):=by
   refine gw.mpr ⟨br.mpr (ar e1), ?_⟩
   cases q:base.get? b with
   |some u=>exact absurd (.inl ⟨u,q⟩) hb
   |none=>have:b∉cs:=λz=>hb (.inr z);simp[this]
  have:=Br (h:=h) _ hm;unfold jH at e;rw[this]at e;cases e
theorem Out.ext {α β:Type}{G:Cfg}{E:XK}{μ μ1:Nat->ai}{n n1:Nat}{H H1:Hp}{r:Rs α}{R:(Nat->ai)->Nat->Hp->α->β->Prop}{Q:β->Hp->Prop}(o:Out G E μ n H r R Q) (x:Ext μ n H μ1 n1 H1):Out G E μ1 n1 H1 r R Q:=by
 cases r with
 |bad=>exact o
 |ex c h'=>exact λμ' H' u y=>o μ' H' u (x.trans y)
 |ok d h'=>exact λμ' H' u y=>o μ' H' u (x.trans y)
theorem JX {env:Env}{scope:iq}{x:Str}{c:ai}(hf:∀x,(x,cb)∈scope.names->∃c,env.cells.lookup x=some c) (e:(cU env scope.names []).lookup x=some c):(x,cb)∈scope.names/\env.cells.lookup x=some c:=by
 rcases vV _ _ e with q|⟨q1,q2⟩
 ·cases q
 ·obtain⟨c',h'⟩:=hf x q1;rw[h']at q2;subst q2;exact⟨q1,h'⟩
section
variable{X:Cx}{G:Cfg}{E:XK}{k:Nat}{q x:Str}{p pos lpos:Pos}{params:ni}{body:bq}{scope:iq}{c P fr:ai}{fdr:bo}{Nl:List Str}{me:M Dv}{n ncl j:Nat}{mb:MS}{caps:List Nat}
theorem W9 (g:Good X G E k) (hj:j<=k) (hfn:∀y,X.fn y=true)
  (F:∀base,X.K.In base->base.Ns dz X.mg->FnOk X.prog X.w X.K X.mg base (bK X.prog X.w base) j fr fdr [x] (wW G base Nl params body scope me n ncl mb))
  (hg:Gl X q) (hm:X.mg q=some (.ref fr)) (hk:mn X.K (.ref fr)=true) (hb:Binds X.K fdr [x] [])
  (hdef:defaultsOf params X.env=([],[])) (hq:X.env.qual ++ "<lambda>" = G.lq) (hP:G.tab=some P) (hcode:X.env.code=.ref c) (hC:mw X.base c P) (hB:mR X.mg X.base)
  (LS:LamScope Nl scope) (hkind:∀y∈Nl,X.env.scope.names.lookup y=some .cell) (hcl:caps.length=Nl.length) (hcap:∀(i j:Nat) (y:Str),caps[i]?=some j->Nl[i]?=some y->X.N[j]?=some y)
  (hdb:(q==("__debug__" : Str))=false) (he:au [.Lambda params body scope lpos] X.env=[(false,eval (.Lambda params body scope lpos) X.env)]:=by rfl):
  aJ X G E (.Call (.Name q p) [.Lambda params body scope lpos] [] pos) (iQ caps n ncl mb me):=by
 intro hK pins s σ H Q I ⟨μ,ρ,h,rs,sm,o⟩;unfold iQ at o
 cases hcd:mS caps ρ with
 |none=>rw[hcd]at o;exact o.elim
 |some ds=>
 rw[hcd]at o;obtain⟨hdl,hdg⟩:=JV hcd;have hfree:∀y,(y,cb)∈scope.names->X.env.kindOf y=some .cell∨X.env.kindOf y=some .free:=λy hy=>.inl (hkind y (LS.all _ hy rfl));have hfc:∀y,(y,cb)∈scope.names->∃c,X.env.cells.lookup y=some c:=λy hy=>I.ok.has y (hfree y hy);refine mq (sN I hg hm ?_ hdb);refine Cd (h₀:=X.base) I.ok.mod.kin hk (aV (hO (W8 (G:=G) (lpos:=lpos) (body:=body) hdef hq hP hcode hC hB hfree) iX he pos pins s σ H
  (λvs H1=>∃f c' pm ctv oc,vs=[.ref f]/\JU H H1/\TabOk G H1/\H1 f=some (.frz (kq "<lambda>" G.lq params body scope (cU X.env scope.names []) pm c' ctv) (.own 0))/\H1 c'=some (.frz oc (.own 0))/\wB G.lq oc) I
  ⟨sm.tab,λf c' pm ctv oc H1 st tb e1 e2 e3=>⟨f,c',pm,ctv,oc,rfl,st,tb,e1,e2,e3⟩⟩) λus s1 ⟨vs,H1,I1,r,f,c',pm,ctv,oc,ev,st,tb,e1,e2,e3⟩=>⟨I1.kIn, ?_⟩) he rfl
 subst ev;generalize hcs:cU X.env scope.names []=cl at *;have kb:∀b u,X.base.get? b=some u->(jH X.base s1.heap (cl.map (·.2))).get? b=some u:=λb u e=>BX (I1.bk _ _ e) (.inl ⟨u,e⟩);have clc:∀y cc,(y,cc)∈cl->cl.lookup y=some cc->X.env.cells.lookup y=some cc:=λy cc _ e=>(JX hfc (by rw[hcs];exact e)).2;have memc:∀b,b∈cl.map (·.2)->∃y,X.env.cells.lookup y=some b:=λb hb=>by
  obtain⟨⟨y,cc⟩,hm1,rfl⟩:=de.mp hb;have:∀(l:List (Str×lg)) (acc:List (Str×ai)),(∀y cc,(y,cc)∈acc->X.env.cells.lookup y=some cc)->(∀y,(y,cb)∈l->∃c,X.env.cells.lookup y=some c)->∀y cc,(y,cc)∈cU X.env l acc->X.env.cells.lookup y=some cc:=by
   intro l
   induction l with
   |nil=>exact λacc h1 _=>h1
   |cons a l ih=>
    obtain⟨y0,k0⟩:=a;intro acc h1 h2;rw[cU];refine ih _ (λy cc hm2=>?_) λy hy=>h2 y (ao _ hy)
    cases hk0:k0==cb with
    |true=>
     rw[hk0,if_pos rfl]at hm2
     rcases ay.mp hm2 with z|z
     ·cases z;have ek:k0=.free:=by cases k0 <;> first|rfl|cases hk0
      subst ek;obtain⟨c3,h3⟩:=h2 y0 (bc ..);rw[h3];rfl
     ·exact h1 _ _ z
    |false=>rw[hk0,if_neg (by simp)]at hm2;exact h1 _ _ hm2
  exact⟨y,this scope.names [] (λ_ _ z=>by cases z) hfc y cc (by rw[hcs];exact hm1)⟩
 have M0:=I1.ok.mod;have nsk:∀{a:ai}{m:Str->Option af},X.base.Ns a m->(jH X.base s1.heap (cl.map (·.2))).Ns a m:=λhn=>hn.keeps kb;have hM:Mod X.K X.mg (jH X.base s1.heap (cl.map (·.2))):=⟨M0.kin.keeps kb,nsk M0.glob,(let ⟨mb,a,b⟩:=M0.blt;⟨mb,nsk a,b⟩),M0.nolimit.keeps kb⟩
 have hbs:∀b u,(jH X.base s1.heap (cl.map (·.2))).get? b=some u->s1.heap.get? b=some u/\H1 b=none:=λb u e=>by
  obtain⟨g1,g2⟩:=JW e;refine⟨g1, ?_⟩
  rcases g2 with⟨u',g2⟩|g2
  ·exact(I1.bs _ _ g2).2
  ·obtain⟨y,hy⟩:=memc b g2;exact I1.freeC y b hy
 have nbf:∀b∈dH X.stack,(jH X.base s1.heap (cl.map (·.2))).get? b=none:=λb hb=>by
  cases qq:(jH X.base s1.heap (cl.map (·.2))).get? b with
  |none=>rfl
  |some u=>
   exfalso
   obtain⟨g1,g2⟩:=JW qq
   rcases g2 with⟨u',g2⟩|g2
   ·have:=(I1.stack.mem hb).1;rw[this]at g2;cases g2
   ·obtain⟨y,hy⟩:=memc b g2
    rcases ay.mp (I1.stkSub b hb)with z|z
    ·exact I1.cne y b hy z
    ·obtain⟨v0,ob,ho1,hd1⟩:=I1.cell y b hy;have fm:∀z∈X.fs,z<X.s₀.heap.objs.size:=λz hz=>by obtain⟨_,o2,h2,_⟩:=I1.ok.funs.mem hz;exact ar h2
     exact absurd (aw (fm b z) (I1.ok.cab y b (hfn y) hy)) (gy _)
 have hfun:s1.heap.FunFrames (jH X.base s1.heap (cl.map (·.2))) X.stack:=by
  have all:∀(l:List Env),(∀b∈dH l,b∈dH X.stack)->s1.heap.FunFrames X.base l->s1.heap.FunFrames (jH X.base s1.heap (cl.map (·.2))) l:=by
   intro l
   induction l with
   |nil=>intro _ _;trivial
   |cons env r ih=>
    intro hs hl;obtain⟨hk',⟨L,o',hf',hn',ho',hd'⟩,hr'⟩:=hl;have hL:L∈dH (env::r):=by unfold dH;rw[bz,hf'];exact bc
    exact⟨hk',⟨L,o',hf',nbf L (hs L hL),ho',hd'⟩,ih (λb hb=>hs b (by unfold dH;rw[bz,hf'];exact ao _ hb)) hr'⟩
  exact all X.stack (λ_ hb=>hb) I1.stack
 have e0:Env0 X.prog X.w X.K X.mg (jH X.base s1.heap (cl.map (·.2))) X.A X.stack s1 H1:=⟨I1.ok.frames,hM,hbs,qt (Bq _ _),hfun,I1.stkFree,I1.hok,I1.bare⟩
 have xt:Ext μ h.length H μ h.length H1:=⟨ak _,λ_ _=>rfl,λa u im z=>st a u (λps w=>by subst w;exact im) z⟩
 have sm1:Sim G μ h H1:=⟨sm.inj,λi ob z=>by
  have r0:=sm.ob i ob z
  cases ob with
  |lst xs=>obtain⟨vs,z1,z2⟩:=r0;exact⟨vs,st _ _ (λ_ w=>by cases w) z1,RelDL.mono xt _ _ z2⟩,tb⟩
 have look:∀y cc,cl.lookup y=some cc->(y,cb)∈scope.names/\X.env.cells.lookup y=some cc:=λy cc e=>JX hfc (by rw[hcs];exact e);have memL:∀y cc,cl.lookup y=some cc->cc∈cl.map (·.2):=λy cc e=>de.mpr ⟨(y,cc),gg e,rfl⟩;have L:LamAt G (jH X.base s1.heap (cl.map (·.2))) H1 μ h.length Nl params body scope f c' cl ds:=by
  refine⟨⟨pm,ctv,e1⟩,⟨oc,e2,e3⟩,λy z cc a b=>I1.ok.inj y z cc (look y cc a).2 (look z cc b).2,hdl.trans hcl,λi y hy=>?_,λy cc e=>?_,λi y cc d hy hd e=>?_⟩
  ·have hf1:=LS.fr y (bx hy);have:=sU (env:=X.env) (x:=y) scope.names [] (.inl (gg hf1));rw[hcs]at this;exact⟨_,this⟩
  ·obtain⟨v0,ob,ho1,hd1⟩:=I1.cell y cc (look y cc e).2;exact⟨ob,v0,BX ho1 (.inr (memL y cc e)),hd1⟩
  ·obtain⟨jj,hjj,hρ⟩:=hdg i d hd;obtain⟨v,hv,rd⟩:=rs.at_ jj d hρ;have hNj:=hcap i jj y hjj hy;have hyk:=hkind y (bx hy);obtain⟨m,hn,hl⟩:=I1.loc;obtain⟨u,ru,lk⟩:=hl jj y v hNj hv (.inr (.inl hyk))
   rcases lk with⟨kl,_⟩|⟨_,c4,ec4,ob,ho1,hd1⟩
   ·have kl':X.env.scope.names.lookup y=some .local:=kl;rw[hyk]at kl';cases kl'
   ·rw[(look y cc e).2]at ec4;cases ec4;exact⟨ob,u,v,BX ho1 (.inr (memL y cc e)),hd1,ru,RelD.mono xt _ _ rd⟩
 have hall:∀y cc,cl.lookup y=some cc->y∈Nl:=λy cc e=>LS.all _ (look y cc e).1 rfl;have hlen:(us++([]:List af)).length=[x].length:=by rw[lj,<-r.length];rfl
 have hbt:=hb s1 us I1.kIn hlen;rw[lj]at hbt;refine yc (pz ((F _ hM.kin hM.glob).run X.A X.stack s1 H1 ⟨us,[]⟩ us [.ref f] Q E (g.room.mono hj) e0 hbt r ⟨f,c',cl,ds,μ,h,rfl,L,hall,sm1,o.ext xt⟩) λrr s' hq'=>?_)
 cases rr with
 |ok fl=>
  cases fl with
  |ret u=>exact I1.after hq'
  |next=>exact ig hq'
  |brk=>exact ig hq'
  |cont=>exact ig hq'
 |error ev=>
  obtain⟨e,C,H',eu,os,bare,un,hok,fl,hE⟩:=hq';refine g.pas pins σ H1 s1 ev s' I1 ⟨e,C,H',eu,os,bare,un,hok, ?_,hE⟩;obtain⟨T,a0,w1,w2,w3,w4⟩:=fl;refine⟨T,a0,w1,w2, ?_,w4⟩
  cases qq:X.base.get? e with
  |none=>rfl
  |some u=>have:=kb e u qq;rw[w3]at this;cases this
end
section
variable{X:Cx}{G:Cfg}
open Classical in
noncomputable def eK (H:Hp) (tx:Dt) (u:af):Bool:=decide (∃v t,RelV v u/\Den jT H t v/\bI t tx=true)
open Classical in
theorem JY {H:Hp}{tx t:Dt}{u:af}{v:V}(r:RelV v u) (d:Den jT H t v):eK H tx u=bI t tx:=by
 unfold eK
 cases q:bI t tx with
 |true=>exact decide_eq_true ⟨v,t,r,d,q⟩
 |false=>refine decide_eq_false λ⟨v',t',r',d',q'⟩=>?_;have e:=r'.inj r;subst e;rw[Den.inj t' t v' d' d,q]at q';cases q'
theorem tQ {H:Hp}{tx:Dt}:∀{ts:List Dt}{vs:List V}{us:List af},DenL jT H ts vs->Vals vs us->us.any (eK H tx)=ts.any λt=>bI t tx
 | [],_,_,d,r=>by rw[DenL]at d;subst d;cases r;rfl
 |t::ts,_,_,d,r=>by
  rw[DenL]at d;obtain⟨v,rr,rfl,d1,d2⟩:=d
  cases r with
  |cons r1 r2=>rw[List.any_cons,List.any_cons,JY r1 d1,tQ d2 r2]
def wX (K:aq) (neg:Bool):R2:=λx y H Q=>∃a vs ts tx,y=.ref a/\(SqL K H a vs∨SqT K H a vs)/\DenL jT H ts vs/\Den jT H tx x/\(∀t∈ts,fP t<=bW/\nod t=true)/\nod tx=true/\Q (.bl (if neg then !(ts.any λt=>bI t tx)else ts.any λt=>bI t tx)) H
theorem wY {pins:List (ai×Obj)}{σ:St}{H:Hp}{s:ag}{x:V}{v:af}{vs:List V}{its:List af}{ts:List Dt}{tx:Dt}(hu:X.A.units+64<cLine) (I:Inv X pins σ H s) (rx:RelV x v) (r:Vals vs its) (d:DenL jT H ts vs) (dx:Den jT H tx x)
  (ht:∀t∈ts,fP t<=bW/\nod t=true) (nx:nod tx=true):∀y,y∈its.toArray->vv X.A.in1 s y v (eK H tx y):=λy hy=>by
 have hy':y∈its:=by simpa using hy
 obtain⟨j,hj,e⟩:=qe.mp hy';have hl:=r.length;obtain⟨u,eu,ru⟩:=r.get (i:=j) (x:=vs[j]'(by omega)) (bg (by omega));have:u=y:=by rw[bg hj,e]at eu;cases eu;rfl
 subst this;obtain⟨t,et,dt⟩:=d.get (i:=j) (bg (by omega:j<vs.length));obtain⟨h1,h2⟩:=ht t (bx et);rw[JY ru dt];exact(A5 I.hok bW X.A.in1 t tx _ x _ v h1 (by show X.A.units+1+bW+1<cLine;unfold bW;omega) h2 nx dt dx ru rx).2
theorem XA (hu:X.A.units+64<cLine):OpR X (compareOp .In) (wX X.K false):=by
 intro pins s σ H x y v u Q I r1 r2 ⟨a,vs,ts,tx,e,hs,d,dx,ht,nx,q⟩;subst e;cases r2
 rcases hs with hs|hs
 ·obtain⟨its,r,pl,hz⟩:=I.list hs;refine SeqAt.in_listAt (eK H tx) pl.isList (wY hu I r1 r d dx ht nx) ?_;exact⟨.bl _,H,I,by rw[show its.toArray.any (eK H tx)=its.any (eK H tx)by simp,tQ d r];rfl,q⟩
 ·obtain⟨its,r,pl,hz⟩:=I.tuple hs;refine SeqAt.in_tupleAt (eK H tx) pl (wY hu I r1 r d dx ht nx) ?_;exact⟨.bl _,H,I,by rw[show its.toArray.any (eK H tx)=its.any (eK H tx)by simp,tQ d r];rfl,q⟩
theorem JZ (hu:X.A.units+64<cLine):OpR X (compareOp .NotIn) (wX X.K true):=by
 intro pins s σ H x y v u Q I r1 r2 ⟨a,vs,ts,tx,e,hs,d,dx,ht,nx,q⟩;subst e;cases r2
 rcases hs with hs|hs
 ·obtain⟨its,r,pl,hz⟩:=I.list hs;refine SeqAt.notIn_listAt (eK H tx) pl.isList (wY hu I r1 r d dx ht nx) ?_;exact⟨.bl _,H,I,by rw[show its.toArray.any (eK H tx)=its.any (eK H tx)by simp,tQ d r];rfl,q⟩
 ·obtain⟨its,r,pl,hz⟩:=I.tuple hs;refine SeqAt.notIn_tupleAt (eK H tx) pl (wY hu I r1 r d dx ht nx) ?_;exact⟨.bl _,H,I,by rw[show its.toArray.any (eK H tx)=its.any (eK H tx)by simp,tQ d r];rfl,q⟩
def oI (scr:List Int) (neg:Bool) (x c:Dv) (h:Hs):Rs Dv:=match fX scr c h with
 |some ys=>match bJ (bF bW h) ys,bF bW h x with
  |some ts,some tx=>.ok (.bl (if neg then !(ts.any λt=>bI t tx)else ts.any λt=>bI t tx)) h
  |_,_=>.bad
 |none=>.bad
theorem J0 {μ:Nat->ai}{h:Hs}{H:Hp}(s:Sim G μ h H):∀{xs:List Dv}{vs:List V}{ts:List Dt},RelDL G μ h.length H xs vs->bJ (bF bW h) xs=some ts->DenL jT H ts vs/\∀t∈ts,fP t<=bW/\nod t=true
 | [],_,_,r,e=>by cases e;rw[RelDL]at r;subst r;exact⟨DenL.nil,λt ht=>by simp at ht⟩
 |x::xs,_,_,r,e=>by
  rw[RelDL]at r;obtain⟨v,rr,rfl,r1,r2⟩:=r;unfold bJ at e
  cases q:bF bW h x with
  |none=>rw[q]at e;cases e
  |some y=>
   rw[q]at e;dsimp only at e
   cases q2:bJ (bF bW h) xs with
   |none=>rw[q2]at e;cases e
   |some ys=>
    rw[q2]at e;cases e;obtain⟨a1,a2,a3⟩:=qP s _ x v y r1 q;obtain⟨b1,b2⟩:=J0 s r2 q2;refine⟨DenL.cons a1 b1,λt ht=>?_⟩
    rcases ay.mp ht with rfl|ht
    ·exact⟨a2,a3⟩
    ·exact b2 t ht
theorem XB (neg:Bool):fV G (wX G.K neg) (oI G.scr neg):=by
 intro E μ h H x y vx vy Q s rx ry o;unfold oI at o
 cases q:fX G.scr y h with
 |none=>rw[q]at o;exact o.elim
 |some ys=>
  rw[q]at o;dsimp only at o
  split at o
  ·rename_i ts tx e1 e2;obtain⟨a,vs,rfl,hs,r⟩:=BE s ry q;obtain⟨b1,b2⟩:=J0 s r e1;obtain⟨c1,c2,c3⟩:=qP s _ x vx tx rx e2;exact⟨a,vs,ts,tx,rfl,hs,b1,c1,b2,c3,o.val s rfl⟩
  ·exact o.elim
end
section
variable{X:Cx}{G:Cfg}
end
def iI (c:M Bool) (body:MS):Nat->MS
 |0=>λ_ _=>.bad
 |f+1=>λρ h=>(c ρ h).thenS λb h1=>if b=true then(match body ρ h1 with
  | .nx ρ2 h2=>iI c body f ρ2 h2
  | .ct ρ2 h2=>iI c body f ρ2 h2
  | .bk ρ2 h2=>.nx ρ2 h2
  |r=>r)else .nx ρ h1
section
variable{X:Cx}{G:Cfg}{E:XK}{c:bq}{body:List gz}{mc:M Bool}{mb:MS}{pos:Pos}
theorem J1 (n:Nat) (hp:Ab (model X.prog X.w) X.A X.env X.xe) (hc:gL X G E c mc) (hb:jB X G E body mb):hW X G E (.While c body [] pos) (iI mc mb n):=λhK=>PS.imp (Q5 hp (hc hK) (hb hK)) λD σ H ⟨μ,ρ,h,rs,s,o⟩=>by
 refine⟨λm σ H=>∃μ ρ h,RelS G μ h.length H ρ σ/\Sim G μ h H/\SOut G E μ h.length H (iI mc mb m ρ h) D,⟨n,μ,ρ,h,rs,s,o⟩, ?_⟩
 rintro m σ1 H1 ⟨μ1,ρ1,h1,rs1,s1,o1⟩
 cases m with
 |zero=>exact o1.elim
 |succ m=>
  refine IU rs1 s1 o1 λμ2 b h2 H2 x2 rs2 s2 o2=>?_
  cases b with
  |false=>rw[if_neg (by decide)]at o2 ⊢;exact o2 μ2 H2 σ1 Ext.refl s2 rs2
  |true=>
   rw[if_pos rfl]at o2 ⊢;refine⟨λσ' H'=>∃μ ρ h,RelS G μ h.length H' ρ σ'/\Sim G μ h H'/\SOut G E μ h.length H' (iI mc mb m ρ h) D,λσ' H' z=>⟨m,jv m,z⟩,μ2,ρ1,h2,rs2,s2, ?_⟩
   cases q:mb ρ1 h2 with
   |nx ρ3 h3=>rw[q]at o2;exact λμ4 H4 σ4 x4 s4 pD=>⟨μ4,ρ3,h3,pD,s4,SOut.ext o2 x4⟩
   |ct ρ3 h3=>rw[q]at o2;exact λμ4 H4 σ4 x4 s4 pD=>⟨μ4,ρ3,h3,pD,s4,SOut.ext o2 x4⟩
   |bk ρ3 h3=>rw[q]at o2;exact o2
   |rt d h3=>rw[q]at o2;exact o2
   |ex d h3=>rw[q]at o2;exact o2
   |bad=>rw[q]at o2;exact o2.elim
end
section
variable{X:Cx}{G:Cfg}{E:XK}{e o:bq}{mo me:M Dv}{pos apos cpos np p2:Pos}{y:Str}
def wZ (x i:Dv) (h:Hs):Rs Dv:=match x,i with
 | .ref j,.int n=>match getL h j with
  |some xs=>match dX xs.length n with
   |some k=>match xs[k]? with
    |some d=>if xs.length<=1000000 then .ok d (h.set j (.lst (xs.eraseIdx k)))else .bad
    |none=>.bad
   |none=>.bad
  |none=>.bad
 |_,_=>.bad
theorem J2 {μ:Nat->ai}{n:Nat}{H:Hp}:∀{ds:List Dv}{vs:List V}(k:Nat),RelDL G μ n H ds vs->RelDL G μ n H (ds.eraseIdx k) (vs.eraseIdx k)
 | [],_,_,h=>by rw[RelDL]at h;subst h;exact RelDL.nil
 |d::ds,_,0,h=>by rw[RelDL]at h;obtain⟨v,r,rfl,h1,h2⟩:=h;exact h2
 |d::ds,_,k+1,h=>by rw[RelDL]at h;obtain⟨v,r,rfl,h1,h2⟩:=h;exact RelDL.cons h1 (J2 k h2)
def tR (mo me:M Dv):M Dv:=λρ h=>(mo ρ h).bind λx h1=>if jF x h1=true then(me ρ h1).bind λd h2=>wZ x d h2 else .bad
theorem XC (ho:aJ X G E (.Name y np) mo) (he:aJ X G E e me) (hs:au [e] X.env=[(false,eval e X.env)]:=by rfl) (hl:(apos.endLine==cpos.line)=true:=by rfl):aJ X G E (.Call (.Attribute (.Name y np) "pop" apos) [e] [] cpos) (tR mo me):=λhK=>
 PE.imp (AV si PySem.F.slot_list_pop PySem.F.type_list_pop T3 (ho hK) (hO (he hK) iX hs) rfl (by rw[hs];rfl) hl hs rfl) λσ H Q ⟨μ,ρ,h,rs,s,oo⟩=>eI rs s oo λμ1 x h1 vx H1 x1 rs1 s1 r1 o1=>by
  split at o1
  ·rename_i hl;refine⟨BU s1 r1 hl,eI rs1 s1 o1 λμ2 d h2 vd H2 x2 rs2 s2 r2 o2=>?_⟩
   cases x with
   |ref j=>
    cases d with
    |int n=>
     dsimp only[wZ]at o2
     cases q:getL h2 j with
     |none=>rw[q]at o2;exact o2.elim
     |some xs=>
      rw[q]at o2;dsimp only at o2
      cases q2:dX xs.length n with
      |none=>rw[q2]at o2;exact o2.elim
      |some k=>
       rw[q2]at o2;dsimp only at o2
       cases q3:xs[k]? with
       |none=>rw[q3]at o2;exact o2.elim
       |some d'=>
        rw[q3]at o2;dsimp only at o2
        split at o2
        ·rename_i hz;obtain⟨vs,ea,ra⟩:=s2.ob j _ (cY q);obtain⟨_,rfl⟩:=RelD.mono x2 _ _ r1;rw[RelD]at r2;subst r2;obtain⟨v,ev,rv⟩:=ra.get q3;obtain⟨i1,i2,i3,i4⟩:=AN q2;obtain⟨x3,s3⟩:=s2.write (cY q) (J2 k ra);exact⟨_,vs,n,k,v,rfl,rfl,ea,by omega,by omega,by rw[ra.length];exact i1,ev,o2 μ2 _ _ x3 s3 (RelD.mono x3 _ _ rv)⟩
        ·exact o2.elim
    |_=>exact o2.elim
   |_=>exact o2.elim
  ·exact o1.elim
def jV (xs:List Dv) (lo hi:Option Int):List Dv:=(xs.drop (HT.sIx xs.length 0 lo)).take (HT.sIx xs.length xs.length hi - HT.sIx xs.length 0 lo)
theorem J3 {μ:Nat->ai}{n:Nat}{H:Hp}{xs:List Dv}{vs:List V}(r:RelDL G μ n H xs vs) (lo hi:Option Int):RelDL G μ n H (jV xs lo hi) (nV vs lo hi):=by unfold jV nV;rw[r.length];exact(r.drop _).take _
abbrev MO:=Ev->Hs->Rs (Option Int)
def XD (G:Cfg) (E:XK) (m:MO):TO:=λσ H Q=>∃μ ρ h,RelS G μ h.length H ρ σ/\Sim G μ h H/\Out G E μ h.length H (m ρ h) (λ_ _ _ a b=>b=a) Q
def tS (X:Cx) (G:Cfg) (E:XK) (pe:Option bq) (m:MO):Prop:=X.K=G.K->PO X pe (XD G E m)
theorem PO.imp {pe:Option bq}{t t':TO}(h:PO X pe t) (i:∀σ H Q,t' σ H Q->t σ H Q):PO X pe t':=λpins s σ H Q I q=>h pins s σ H Q I (i σ H Q q)
def gE:MO:=λ_ h=>.ok none h
def qZ:Dv->Hs->Rs (Option Int)
 | .int i,h=>.ok (some i) h
 |_,_=>.bad
def eZ (m:M Dv):MO:=λρ h=>(m ρ h).bind qZ
theorem mT:tS X G E none gE:=λ_=>PO.imp S0 λσ H Q ⟨μ,ρ,h,rs,s,oo⟩=>oo.val s rfl
theorem lG (he:aJ X G E e me):tS X G E (some e) (eZ me):=λhK=>PO.imp (S1 (he hK)) λσ H Q ⟨μ,ρ,h,rs,s,oo⟩=>eI rs s oo λμ1 d h1 v H1 x1 rs1 s1 r1 o1=>by
 cases d with
 |int i=>exact⟨i,r1,o1.val s1 rfl⟩
 |_=>exact o1.elim
end
section
variable{X:Cx}{G:Cfg}{E:XK}{pos:Pos}
theorem J4:aJ X G E (.Dict [] [] pos) (mC .edc):=λ_ pins s σ H Q I ⟨μ,ρ,h,rs,sm,o⟩=>by have hb:sysModules<s.heap.objs.size:=Nat.lt_trans (by decide) (I.mod.glob.keeps I.bk).lt;have hn:=I.hok.fresh (ak s.heap.objs.size);refine wpAny_Dict_empty ⟨.ref s.heap.objs.size,_,I.laid (a:=s.heap.objs.size) (o:=.dK []) (t':=s.toks) (λ_ _ q=>aj _ q) (ak _) ⟨jc _,beq_eq_false_iff_ne.mpr (cy (az hb)),[],.nil,Heap.DictOf.new s.heap⟩,rfl, ?_⟩;exact o μ _ _ (Ext.same (cI hn)) (sm.same (cI hn)) ⟨_,rfl,cK⟩
theorem XE {x:Str}{i:Int}{t:Tok}(hg:Gl X x) (hm:X.mg x=some (.int i t)) (hd:(x==("__debug__" : Str))=false:=by decide):aJ X G E (.Name x pos) (mC (.int i)):=λ_=>PE.imp (GF (v:=.int i) hg hm ⟨t,rfl⟩ hd) λσ H Q ⟨μ,ρ,h,rs,s,o⟩=>o.val s (show RelD G μ _ H (.int i) (.int i) from rfl)
def mU:Dv->Hs->Rs Dv
 | .int i,h=>.ok (.int (-i)) h
 |_,_=>.bad
theorem XF:kE G (rU λi=>.int (-i)) mU:=by
 intro E μ h H x vx Q s r o
 cases x with
 |int i=>rw[RelD]at r;subst r;exact⟨i,rfl,o.val s rfl⟩
 |_=>exact o.elim
end
section
variable{X:Cx}{G:Cfg}{E:XK}{tg a b c:bq}{p pos:Pos}{ms:M (List Dv)}
end
structure Lawful (lp:bh) (w:cn) (K:aq) (mg:Str->Option af) (base:cu) (k:Nat) (fa:ai) (fd:bo) (x:Str) (P a:ai) (ns:List Int):Prop where
 ex:∃(G:Cfg) (lawF:List Dv->Hs->Rs Dv) (hh:Hs),G.K=K/\G.scr=ns/\G.sa=a/\G.tab=some P/\lawF [.scr] []=.ok (.bl true) hh/\FnOk lp w K mg base (bK lp w base) k fa fd [x] (cC G lawF)
theorem XG {lp:bh}{w:cn}{K:aq}{mg mb:Str->Option af}{k:Nat}{fa a c P:ai}{fd:bo}{x:Str}{s₁:ag}{vs:List af}{ns:List Int}
  (KX:K.In s₁.heap) (hns:s₁.heap.Ns dz mg) (hb:s₁.heap.Ns builtinsNs mb) (hbb:∀x:Str,x ≠ "__name__"->mb x=dw x) (hlim:s₁.heap.NoLimit) (hg:s₁.gens=#[])
  (ha:s₁.heap.get? a=some { cls:=.type "list",data:=.seq vs.toArray }) (hi:ku vs ns) (hl:ns.length<=bw) (hr:Room k callerA)
  (hC:mw s₁.heap c P) (hP:s₁.heap.get? P=some (ur #[])) (hB:mR mg s₁.heap) (hnt:PySem.W.noTabs K=true)
  (F:∀base:cu,K.In base->base.Ns dz mg->mw base c P->mR mg base->Lawful lp w K mg base k fa fd x P a ns) (hbind:∀(s:ag) (u:af),BindsTo s fd ⟨[u],[]⟩ [(x,u)]):
  codeAny (model lp w) callerA (.call (.ref fa) ⟨[.ref a],[]⟩) (λr s'=>r=.ok (.ret (.bool true))/\OldK s₁.heap s'.heap/\s'.os=s₁.os/\uf s'.gens) s₁:=by
 have rv:=sT hi;have lenV:=hi.length;have KP:K.lookup P=none:=by
  cases q:K.lookup P with
  |none=>rfl
  |some o=>have e:=KX P o q;rw[hP]at e;cases e;have:=fj.mp hnt (P,ur #[]) (PySem.W.mem_of_lookupK q);exact absurd (show false=true from this) jf
 have aP:a≠P:=λz=>by rw[z,hP]at ha;cases ha
 have core:∀H:Hp,H P=some (.tbl #[])->FzL K H a (ns.map V.int)->HOk lp w H s₁.heap->(∀b,H b≠none->b=a∨b=P)->(H a≠none->K.lookup a=none)->(∀u,H a=some u->∃o xs,u=.frz o (.lst xs))->
   codeAny (model lp w) callerA (.call (.ref fa) ⟨[.ref a],[]⟩) (λr s'=>r=.ok (.ret (.bool true))/\OldK s₁.heap s'.heap/\s'.os=s₁.os/\uf s'.gens) s₁:=by
  intro H hHP hS hok hA hK hF;have base_of:∀{b:ai}{o:Obj},s₁.heap.get? b=some o->H b=none->(kC s₁.heap H).get? b=some o:=λe n=>P5 e n;have none_of:∀{b:ai},b≠a->b≠P->H b=none:=λ{b} h1 h2=>by
   cases q:H b with
   |none=>rfl
   |some u=>exact((hA b (by rw[q];simp)).elim h1 h2).elim
  have noD:∀{b:ai}{o:Obj}{es:Array DictEntry}{ep:Nat},s₁.heap.get? b=some o->o.data=.dict es ep->H b=none:=λ{b o es ep} e d=>none_of (λz=>by
    subst z;rw[ha]at e;cases e;have d':Data.seq vs.toArray _=Data.dict es ep:=d
    cases d') (λz=>by
    subst z;rw[hP]at e;cases e;have d':Data.fields _=Data.dict es ep:=d
    cases d')
  have nsK:∀{b:ai}{m:Str->Option af},s₁.heap.Ns b m->(kC s₁.heap H).Ns b m:=λ{b m} ⟨o,es,ep,e,d,r⟩=>⟨o,es,ep,base_of e (noD e d),d,r⟩
  have hKb:K.In (kC s₁.heap H):=λb o e=>base_of (KX b o e) (by
   cases q:H b with
   |none=>rfl
   |some u=>
    rcases hA b (by rw[q];simp)with z|z
    ·subst z;rw[hK (by rw[q];simp)]at e;cases e
    ·subst z;rw[KP]at e;cases e)
  have hM:Mod K mg (kC s₁.heap H):=⟨hKb,nsK hns,⟨mb,nsK hb,hbb⟩,let ⟨mc,h1,h2⟩:=hlim;⟨mc,nsK h1,h2⟩⟩
  have hCb:mw (kC s₁.heap H) c P:=by obtain⟨o,vs',file,tf,flags,tg,inF,text,tt,e1,r1,r⟩:=hC;refine⟨o,vs',file,tf,flags,tg,inF,text,tt,base_of e1 (none_of (λz=>?_) r.2.2.2.2.2.2.2),r1,r⟩;subst z;rw[ha]at e1;cases e1;exact absurd r1 (by intro w;injection w with w;exact absurd w (by decide))
  have hBb:mR mg (kC s₁.heap H):=by
   obtain⟨bm,ob,b1,b2,b3,b4,b5,b6⟩:=hB;refine⟨bm,ob,b1,b2,base_of b3 (none_of (λz=>?_) (λz=>?_)),b4,b5,b6⟩
   ·subst z;rw[ha]at b3;cases b3;exact absurd b4 (by intro w;injection w with w;exact absurd w (by decide))
   ·subst z;rw[hP]at b3;cases b3;cases b4
  have e0:Env0 lp w K mg (kC s₁.heap H) callerA [] s₁ H:=⟨rfl,hM,λb o e=>P6 e,qt (P4 _ _),trivial,λb hb=>absurd (show b∈([]:List ai) from hb) (by simp),hok,.of_eq hg⟩
  obtain⟨G,lawF,hh,g1,g2,g3,g4,hlaw,Fn⟩:=(F _ hKb (nsK hns) hCb hBb).ex;have rd:RelDL G (λ_=>0) 0 H [.scr] [.ref a]:=by refine RelDL.cons ?_ RelDL.nil;rw[RelD,g1,g2,g3];exact⟨rfl,hS⟩
  have sm:Sim G (λ_=>0) [] H:=⟨λi j h1=>absurd h1 (by simp),λi o q=>by simp at q,λP' e=>by
   rw[g4]at e;cases e;exact⟨#[],hHP,trivial,λpos cv q=>by
    have q':(none:Option af)=some cv:=q
    cases q'⟩⟩
  refine pz (Fn.run callerA [] s₁ H ⟨[.ref a],[]⟩ [.ref a] [.ref a] (λv _=>v=.bl true) (λ_ _ _=>False) hr e0 (hbind s₁ (.ref a)) (.cons rfl .nil) ⟨λ_=>0,[],[.scr],rd,sm, ?_⟩) λr s' h=>?_
  ·rw[hlaw];exact λμ' H' v _ _ r=>r
  cases r with
  |error e=>obtain⟨_,_,_,_,_,_,_,_,_,z⟩:=h;exact z.elim
  |ok fl=>
   cases fl with
   |next=>exact ig h
   |brk=>exact ig h
   |cont=>exact ig h
   |ret u=>
    obtain⟨v,H',os,bare,un,hok',r',q⟩:=h;have q':v=.bl true:=q;subst q';obtain rfl:u=Cw true:=r';have kept:∀b o,b≠P->s₁.heap.get? b=some o->s'.heap.get? b=some o:=λb o hbP e=>by
     cases q:H b with
     |none=>exact un.keep b o e q (by intro z;exact absurd (show b∈([]:List ai) from z) (by simp)) (by simp)
     |some u=>
      rcases hA b (by rw[q];simp)with z|z
      ·subst z;obtain⟨ob,xs,rfl⟩:=hF u q;have z2:=un.frzs b ob _ q;obtain⟨e1,_⟩:=hok b _ q;obtain⟨e2,_⟩:=hok' b _ z2;rw[e]at e1;cases e1;exact e2
      ·exact absurd z hbP
    obtain⟨more,hm⟩:=un.tbls P #[] hHP;have gP:s'.heap.get? P=some (ur (#[]++more)):=hok' P _ hm;refine⟨rfl,⟨λb o e=>?_,λb o e=>?_⟩,os,bare⟩
    ·by_cases hb:b=P
     ·subst hb;rw[hP]at e;cases e;exact .inr (.inl ⟨(hC.tab hP).isCodeTable,rfl,#[],more,rfl,gP⟩)
     ·exact .inl (kept b o hb e)
    ·by_cases hb:b=P
     ·subst hb;exact⟨_,gP⟩
     ·exact⟨_,kept b o hb e⟩
 cases hk:K.lookup a with
 |some o=>
  have e:=KX a o hk;rw[ha]at e;cases e;refine core (λb=>if b=P then some (.tbl #[])else none) (if_pos rfl) (.inr ⟨_,vs.toArray,_,hk,rfl,rfl,rfl,by rw[av,lenV];exact hl,by simpa using rv⟩) (λb u z=>?_) (λb z=>?_) (λz=>absurd (if_neg aP) z) (λu z=>?_)
  ·by_cases hb:b=P
   ·have z':=(if_pos hb).symm.trans z;cases z';subst hb;exact hP
   ·have z':=(if_neg hb).symm.trans z;cases z'
  ·by_cases hb:b=P
   ·exact .inr hb
   ·exact absurd (if_neg hb) z
  ·have z':=(if_neg aP).symm.trans z;cases z'
 |none=>
  have ea:(λb=>if b=a then some (HO.frz { cls:=.type "list",data:=.seq vs.toArray } (.lst (ns.map V.int)))else if b=P then some (.tbl #[])else none) a=some (.frz { cls:=.type "list",data:=.seq vs.toArray } (.lst (ns.map V.int))):=if_pos rfl;refine core (λb=>if b=a then some (.frz { cls:=.type "list",data:=.seq vs.toArray } (.lst (ns.map V.int)))else if b=P then some (.tbl #[])else none) ((if_neg (cy aP)).trans (if_pos rfl)) (.inl ⟨{ cls:=.type "list",data:=.seq vs.toArray },ea⟩) (λb u z=>?_) (λb z=>?_) (λ_=>hk) (λu z=>?_)
  ·by_cases hb:b=a
   ·have z':=(if_pos hb).symm.trans z;cases z';subst hb;exact⟨ha,by rw[bj];exact hl,vs,_,rv,ha⟩
   ·have z':=(if_neg hb).symm.trans z
    by_cases hb2:b=P
    ·have z2:=(if_pos hb2).symm.trans z';cases z2;subst hb2;exact hP
    ·have z2:=(if_neg hb2).symm.trans z';cases z2
  ·by_cases hb:b=a
   ·exact .inl hb
   ·by_cases hb2:b=P
    ·exact .inr hb2
    ·exact absurd ((if_neg hb).trans (if_neg hb2)) z
  ·have z':=ea.symm.trans z;cases z';exact⟨_,_,rfl⟩
open L2
theorem jI {α:Type}{P:List α->Prop}(h:∀a,P [a]):∀us:List α,us.length=1->P us
 | [a],_=>h a
theorem fY {α:Type}{P:List α->Prop}(h:∀a b,P [a,b]):∀us:List α,us.length=2->P us
 | [a,b],_=>h a b
theorem J5 {α:Type}{P:List α->Prop}(h:∀a b c,P [a,b,c]):∀us:List α,us.length=3->P us
 | [a,b,c],_=>h a b c
theorem jW {P:Nat->Bool->Prop}:∀c b,List.lookup c ([]:List (Nat×Bool))=some b->P c b:=λ_ _ h=>nomatch h
theorem eQ {P:Nat->Bool->Prop}{x:Nat}{y:Bool}{l:List (Nat×Bool)}(h:P x y) (hl:∀c b,l.lookup c=some b->P c b):∀c b,List.lookup c ((x,y)::l)=some b->P c b:=λc b e=>by
 rw[ja]at e
 cases q:c==x with
 |true=>rw[q]at e;exact eq_of_beq q▸(cq e)▸h
 |false=>rw[q]at e;exact hl c b e
theorem XH {P:Nat->Prop}:∀c,c<0->P c:=λc h=>absurd h (Nat.not_lt_zero c)
theorem kL {P:Nat->Prop}{n:Nat}(h0:P 0) (h:∀c,c<n->P (c+1)):∀c,c<n+1->P c
 |0,_=>h0
 |c+1,hc=>h c (Nat.lt_of_succ_lt_succ hc)
open PySem.Calls
abbrev Ys {β:Type}(ob:Frag->β) (obE:β):cn->cu->Prop:=λ_ h=>∃K:Frag,K.In h/\noTabs K=true/\ob K=obE
theorem ys_of {β:Type}{ob:Frag->β}{obE:β}:∀(w:cn) (s:ag),ob (sL s.heap)=obE->Ys ob obE w s.heap:=λ_ s e=>⟨sL s.heap,vJ _ _,vK _ _,e⟩
theorem ys_keeps {β:Type}{ob:Frag->β}{obE:β}:∀(w:cn) (h h':cu),Ys ob obE w h->(∀b o,h.get? b=some o->h'.get? b=some o)->Ys ob obE w h':=λ_ _ _ ⟨K,x,n,e⟩ k=>⟨K,x.keeps k,n,e⟩
theorem walkK {β:Type}{ob:Frag->β}{obE:β}{l:OpenLaw}{n k:Nat}{q:bh}{loose:List Str}{XP:(Str->Option af)->cu->Prop}{d:DefRec}{x:Str}
  (hn:l.most=some n) (hn2:n<=bw) (hdf:d.params.defaults=[]) (hr:Room k callerA) (hfind:(recsOf q).find? (λe=>e.name==d.name)=some d)
  (F:∀(K:Frag) (w:cn) (mg:Str->Option af) (fa:ai) (h:cu),ob K=obE->noTabs K=true->K.In h->h.Ns dz mg->mg d.name=some (.ref fa)->
   ∃(fd:bo) (c P:ai),(∀(s:ag) (u:af),BindsTo s fd ⟨[u],[]⟩ [(x,u)])/\tabIn K d.name=some (c,P)/\noTabs K=true /\
    ∀(base:cu) (a:ai) (ns:List Int),ns.length<=n->K.In base->base.Ns dz mg->CodeHd base c P->mR mg base->Lawful l.prog w K mg base k fa fd x P a ns):
  WalkO q loose XP (Ys ob obE) l.row.toRowW d [] (λf vs=>PySem.call f vs):=by
 refine Att.attach_call hn hdf λw s₀ s₁ mg mb fa o pm cd doc a vs ns G Y ho hd hcd hmg hobj hints hlen hg=>?_;obtain⟨K,KX,hnt',hob⟩:=Y;obtain⟨fd,c,P,hb,ht,hnt,hF⟩:=F K w mg fa _ hob hnt' KX G.T.g hmg;obtain⟨hC,hP⟩:=tab_of G.T KX hfind ht;exact XG KX G.T.g G.T.b G.T.builtins G.T.nolimit hg hobj hints (dm hlen hn2) hr hC hP G.T.bmain hnt (λbase h1 h2 h3 h4=>hF base a ns hlen h1 h2 h3 h4) hb
theorem XI {K:Frag}{f c:ai}{st:gz}{n:Str}{ps:List Str}(h:cH K f=some (fnOf n n (nW st) (iY st) (aU st) .none .none .none .none none (.ref c) .none)) (hc:codeIn K (.ref c) n=true) (hk:keepIn K (.ref f)=true)
  (hb:∀(kV doc pm:af) (an:Option ai) (cdv ct:af) (us:List af),us.length=ps.length->bindArgs (fnOf n n (nW st) (iY st) (aU st) .none kV doc pm an cdv ct) ⟨us,[]⟩=pure (ps.zip us)):
  ∃fd:bo,Fun K n n st f fd/\Binds K fd ps []/\fd.code=.ref c/\∀us:List af,us.length=ps.length->bindArgs fd ⟨us,[]⟩=pure (ps.zip us):=by
 obtain⟨oc,od,kV,dc,pm,an,ct,sl,e⟩:=PJ h;exact⟨_,HN e hc hk,(HN e hc hk).binds hb,rfl,hb kV dc pm an (.ref c) ct⟩
theorem dB {F:List (Frag->Bool)}{K:Frag}(h:F.all (λf=>f K)=true) (i:Nat) {g:Frag->Prop}[∀K,Decidable (g K)] (e:F[i]?=some (λK=>decide (g K)):=by rfl):g K:=dA h i e
theorem bX {K:Frag}{h:cu}{mg:Str->Option af}{n:Str}{v:af}{F:List (Frag->Bool)}(X:K.In h) (G:h.Ns dz mg) (hc:F.all (λf=>f K)=true) (i:Nat) (e:F[i]?=some (λK=>decide (nsIn K dz n=some (some v))):=by rfl):mg n=some v:=mg_of X G (dA hc i e)
theorem BY {env:Env}{x:Str}:∀{l:List (Str×lg)},l.lookup x=some .free->(l.map λ(n,k)=>if(k==cb&&env.scope.kind==.function&&env.kindOf n==some .cell)then(n,dy)else(n,k)).lookup x≠some .local
 | [],h=>by simp at h
 |(n,q)::r,h=>by
  rw[ja]at h;rw[dk]
  cases e:x==n with
  |true=>
   rw[e]at h;have hq:q=.free:=cq h;subst hq;dsimp only
   split
   ·rw[ja,e];simp
   ·rw[ja,e];simp
  |false=>
   rw[e]at h;dsimp only
   split
   ·rw[ja,e];exact BY h
   ·rw[ja,e];exact BY h
theorem XJ {X:Cx}{sc os:iq}{oN N:List Str}{cap:List (Option Nat)}(hs:X.env.scope.names=os.names) (hN:X.N=oN) (h1:sc.kind=.function) (h2:∀p∈sc.names,p.2=.local->sc.names.lookup p.1=some .local) (h3:cap.length=N.length)
  (h4:∀p∈sc.names,p.2=.free->os.names.lookup p.1=some .cell∨os.names.lookup p.1=some .free) (h5:∀p∈sc.names,p.2=.free->(p.1,dy)∉sc.names) (h6:∀q∈cap.zip N,∀j∈q.1,oN[j]?=some q.2/\sc.names.lookup q.2=some .free):CapOk X sc N cap:=by
 refine⟨h1,h2,h3,λx hx=>?_,λx hx=>h5 _ hx rfl,λi j x e1 e2=>?_⟩
 ·have:=h4 _ hx rfl;rw[<-hs]at this;exact this
 ·have hm:(some j,x)∈cap.zip N:=bx (i:=i) (rn.mpr ⟨e1,e2⟩);obtain⟨a,b⟩:=h6 _ hm j rfl;rw[hN];refine⟨a,gg b, ?_⟩;exact BY b
def gF:Dv->Dv->Hs->Rs Dv:=iE λi j=>.int (i - j)
def pQ:Dv->Dv->Hs->Rs Dv:=kX wG λi j=>.int (i*j)
def lI:Dv->Dv->Hs->Rs Dv:=kX qR λi j=>.int (i % j)
def oJ:Dv->Dv->Hs->Rs Dv:=kX tG λi j=>.int (i ^ j.toNat)
def rA:Dv->Dv->Hs->Rs Dv:=iE λi j=>.bl (decide (i<=j))
def mV:Dv->Dv->Hs->Rs Dv:=iE λi j=>.bl (decide (i>j))
def xA:Dv->Dv->Hs->Rs Dv:=iE λi j=>.bl (decide (i>=j))
section
variable{X:Cx}{G:Cfg}{E:XK}{k:Nat}{a b:bq}{ma mb:M Dv}{pos:Pos}
theorem rB (ha:aJ X G E a ma) (hb:aJ X G E b mb):aJ X G E (.BinOp a .Sub b pos) (m2 gF ma mb):=qL RP US ha hb
theorem tT (ha:aJ X G E a ma) (hb:aJ X G E b mb):aJ X G E (.BinOp a .Mult b pos) (m2 pQ ma mb):=qL RQ (wF UT) ha hb
theorem rD (ha:aJ X G E a ma) (hb:aJ X G E b mb):aJ X G E (.BinOp a .Mod b pos) (m2 lI ma mb):=qL RR (wF UU) ha hb
theorem BZ (ha:aJ X G E a ma) (hb:aJ X G E b mb):aJ X G E (.BinOp a .Pow b pos) (m2 oJ ma mb):=qL RS (wF UW) ha hb
theorem CA (ha:aJ X G E a ma):aJ X G E (.UnaryOp .USub a pos) (m1 mU ma):=UO RU XF ha
theorem XM (ha:aJ X G E a ma) (hb:aJ X G E b mb):aJ X G E (.Compare a [.Gt] [b] pos) (m2 mV ma mb):=qM GU qQ ha hb (mJ _)
theorem oK (g:Good X G E k) (ha:aJ X G E a ma) (hb:aJ X G E b mb):aJ X G E (.Compare a [.Eq] [b] pos) (m2 bL ma mb):=qM (IF g.room.units) IH ha hb (mJ _)
theorem XN (g:Good X G E k) (ha:aJ X G E a ma) (hb:aJ X G E b mb):aJ X G E (.Compare a [.NotEq] [b] pos) (m2 bQ ma mb):=qM (IG g.room.units) II ha hb (mJ _)
theorem XO (ha:aJ X G E a ma) (hb:aJ X G E b mb):gL X G E (.Compare a [.Gt] [b] pos) (mB (m2 mV ma mb)):=qN GU qQ ha hb (mJ _)
theorem XQ (ha:aJ X G E a ma) (hb:aJ X G E b mb):gL X G E (.Compare a [.GtE] [b] pos) (mB (m2 xA ma mb)):=qN RV qQ ha hb (mJ _)
theorem oM (g:Good X G E k) (ha:aJ X G E a ma) (hb:aJ X G E b mb):gL X G E (.Compare a [.Eq] [b] pos) (mB (m2 bL ma mb)):=qN (IF g.room.units) IH ha hb (mJ _)
theorem jJ (g:Good X G E k) (ha:aJ X G E a ma) (hb:aJ X G E b mb):gL X G E (.Compare a [.NotEq] [b] pos) (mB (m2 bQ ma mb)):=qN (IG g.room.units) II ha hb (mJ _)
variable{c:bq}{mc:M Dv}
theorem XR (ha:aJ X G E a ma) (hb:aJ X G E b mb) (hc:aJ X G E c mc) (hm:lastMarks [.LtE,.LtE] [b,c]=false:=by with_unfolding_all rfl):aJ X G E (.Compare a [.LtE,.LtE] [b,c] pos) (qO rA rA ma mb mc):=UN GS GS qQ qQ ha hb hc hm
end
def pR:Ty->Option Bool
 | .bl=>some true | .int=>some true | .exc _=>none|_=>some false
def kM:Ty->Option Bool
 | .bl=>some true | .exc _=>none|_=>some false
def fR:Ty->Option Bool
 | .tup=>some true | .exc _=>none|_=>some false
def tU:Ty->Option Bool
 | .lst=>some true | .exc _=>none|_=>some false
def rE:Ty->Option Bool
 | .tup=>some true | .lst=>some true | .exc _=>none|_=>some false
section
variable{K:aq}{cl:Nat->ai}
theorem XS:∀ty bb,pR ty=some bb->di K (lF cl ty) (.type "int")=some bb:=by intro ty bb h;cases ty <;> first|(cases h;rfl)|cases h
theorem XT:∀ty bb,kM ty=some bb->di K (lF cl ty) (.type "bool")=some bb:=by intro ty bb h;cases ty <;> first|(cases h;rfl)|cases h
theorem XU:∀ty bb,fR ty=some bb->di K (lF cl ty) (.type "tuple")=some bb:=by intro ty bb h;cases ty <;> first|(cases h;rfl)|cases h
theorem XW:∀ty bb,tU ty=some bb->di K (lF cl ty) (.type "list")=some bb:=by intro ty bb h;cases ty <;> first|(cases h;rfl)|cases h
theorem XX:∀ty bb,rE ty=some bb->PySem.W.kitAny K (lF cl ty) [.type "tuple",.type "list"]=some bb:=by intro ty bb h;cases ty <;> first|(cases h;rfl)|cases h
end
theorem XY:dw "int" = some (.type "int"):=by decide +kernel
theorem XZ:dw "bool" = some (.type "bool"):=by decide +kernel
theorem X0:dw "ValueError" = some (.type "ValueError"):=by decide +kernel
def eE (nn:Option Bool) (tbl:List (Nat×Bool)):Ty->Option Bool
 | .exc c=>tbl.lookup c
 | .non=>nn
 |_=>none
section
variable{X:Cx}{G:Cfg}{E:XK}{a:bq}{ma:M Dv}{p q r pos:Pos}
theorem J6 (hg:Gl X "isinstance") (hm:X.mg "isinstance" = none) (hg':Gl X "int") (hm':X.mg "int" = none) (ha:aJ X G E a ma) (he:au [a,.Name "int" q] X.env=[(false,eval a X.env),(false,eval (.Name "int" q) X.env)]:=by rfl):
  aJ X G E (.Call (.Name "isinstance" p) [a,.Name "int" q] [] pos) (m1 (bD pR) ma):=qW hg hm ha (pN hg' hm' XY) (.inl ⟨_,rfl⟩) rfl XS (λc bb h=>by cases h) he
theorem xB (hg:Gl X "isinstance") (hm:X.mg "isinstance" = none) (hg':Gl X "bool") (hm':X.mg "bool" = none) (ha:aJ X G E a ma) (he:au [a,.Name "bool" q] X.env=[(false,eval a X.env),(false,eval (.Name "bool" q) X.env)]:=by rfl):
  aJ X G E (.Call (.Name "isinstance" p) [a,.Name "bool" q] [] pos) (m1 (bD kM) ma):=qW hg hm ha (pN hg' hm' XZ) (.inl ⟨_,rfl⟩) rfl XT (λc bb h=>by cases h) he
theorem rF (hg:Gl X "isinstance") (hm:X.mg "isinstance" = none) (hg':Gl X "tuple") (hm':X.mg "tuple" = none) (ha:aJ X G E a ma) (he:au [a,.Name "tuple" q] X.env=[(false,eval a X.env),(false,eval (.Name "tuple" q) X.env)]:=by rfl):
  aJ X G E (.Call (.Name "isinstance" p) [a,.Name "tuple" q] [] pos) (m1 (bD fR) ma):=qW hg hm ha (pN hg' hm' BC) (.inl ⟨_,rfl⟩) rfl XU (λc bb h=>by cases h) he
theorem J7 (hg:Gl X "isinstance") (hm:X.mg "isinstance" = none) (hg':Gl X "list") (hm':X.mg "list" = none) (ha:aJ X G E a ma) (he:au [a,.Name "list" q] X.env=[(false,eval a X.env),(false,eval (.Name "list" q) X.env)]:=by rfl):
  aJ X G E (.Call (.Name "isinstance" p) [a,.Name "list" q] [] pos) (m1 (bD tU) ma):=qW hg hm ha (pN hg' hm' wH) (.inl ⟨_,rfl⟩) rfl XW (λc bb h=>by cases h) he
theorem X1:∀us',Vals [.ty "tuple",.ty "list"] us'->us'=[.type "tuple",.type "list"]:=by
 intro us' h
 cases h with
 |cons r rr=>
  cases rr with
  |cons r' rr=>
   cases rr
   cases r;cases r'
   rfl
theorem X2 {kt:Nat}{p':Pos}(hg:Gl X "isinstance") (hm:X.mg "isinstance" = none) (hg':Gl X "tuple") (hm':X.mg "tuple" = none) (hg'':Gl X "list") (hm'':X.mg "list" = none) (ha:aJ X G E a ma)
  (he:au [a,.Tuple [.Name "tuple" q,.Name "list" r] kt p] X.env=[(false,eval a X.env),(false,eval (.Tuple [.Name "tuple" q,.Name "list" r] kt p) X.env)]:=by rfl):
  aJ X G E (.Call (.Name "isinstance" p') [a,.Tuple [.Name "tuple" q,.Name "list" r] kt p] [] pos) (m1 (bD rE) ma):=
 V7 (cs:=[.ty "tuple",.ty "list"]) hg hm ha (hO (pN hg' hm' BC) (hO (pN hg'' hm'' wH) iX)) (by decide) X1 XX (λc bb h=>by cases h) he
theorem kN {x:Str}{C:ai}{nn:Option Bool}{tbl:List (Nat×Bool)}(hg:Gl X "isinstance") (hm:X.mg "isinstance" = none) (hg':Gl X x) (hm':X.mg x=some (.ref C)) (ha:aJ X G E a ma)
  (hn:∀b,nn=some b->di G.K (.type "NoneType") (.ref C)=some b) (ht:∀c b,tbl.lookup c=some b->di G.K (.ref (G.cl c)) (.ref C)=some b/\ExK G.K (G.cl c)) (hd:(x==("__debug__" : Str))=false:=by decide)
  (he:au [a,.Name x q] X.env=[(false,eval a X.env),(false,eval (.Name x q) X.env)]:=by rfl) (he2:au [.Name x q] X.env=[(false,eval (.Name x q) X.env)]:=by rfl):
  aJ X G E (.Call (.Name "isinstance" p) [a,.Name x q] [] pos) (m1 (bD (eE nn tbl)) ma):=
 qW hg hm ha (GF (v:=.ref C) hg' hm' rfl hd) (.inr ⟨_,rfl⟩) rfl (λty bb h=>by
  cases ty with
  |exc c=>exact(ht c bb h).1
  |non=>exact hn bb h
  |_=>cases h) (λc bb h=>(ht c bb h).2) he he2
theorem X3 {nn:Option Bool}{tbl:List (Nat×Bool)}(hg:Gl X "isinstance") (hm:X.mg "isinstance" = none) (hg':Gl X "ValueError") (hm':X.mg "ValueError" = none) (ha:aJ X G E a ma)
  (hn:∀b,nn=some b->di G.K (.type "NoneType") (.type "ValueError")=some b) (ht:∀c b,tbl.lookup c=some b->di G.K (.ref (G.cl c)) (.type "ValueError")=some b/\ExK G.K (G.cl c))
  (he:au [a,.Name "ValueError" q] X.env=[(false,eval a X.env),(false,eval (.Name "ValueError" q) X.env)]:=by rfl):
  aJ X G E (.Call (.Name "isinstance" p) [a,.Name "ValueError" q] [] pos) (m1 (bD (eE nn tbl)) ma):=
 qW hg hm ha (pN hg' hm' X0) (.inl ⟨_,rfl⟩) rfl (λty bb h=>by
  cases ty with
  |exc c=>exact(ht c bb h).1
  |non=>exact hn bb h
  |_=>cases h) (λc bb h=>(ht c bb h).2) he
end
section
variable{P:bh}{w:cn}{K:aq}{mg:Str->Option af}{base:cu}{f:ai}{G:Cfg}{k:Nat}{N:List Str}
theorem X4 {x qual:Str}{st:gz}{fd:bo}{ps:List Str}{mb:MS}(Fn:Fun K x qual st f fd) (S:FnScope N ps (aU st)) (hK:K=G.K)
  (hbody:∀(cdv:af) (A:cf) (outer:List Env) (s:ag) (H:Hp) (E₀ E:XK),fd.code=cdv->Good (gB (bK P w base) P w K mg base N qual (aU st) f cdv A outer s H E₀) G E k->jB (gB (bK P w base) P w K mg base N qual (aU st) f cdv A outer s H E₀) G E (iY st) mb):
  FnOk P w K mg base (bK P w base) (k+1) f fd ps (cC G (aT ps.length N.length mb)):=by
 obtain⟨oc,od,kV,doc,pm,an,cdv,ct,osl,rfl,lk,hcd⟩:=Fn.ex;have hlen:∀vs H Q E,cC G (aT ps.length N.length mb) vs H Q E->vs.length=ps.length:=λvs H Q E ⟨μ,h,ds,r,sm,o⟩=>by
  rw[r.length];unfold aT at o
  by_cases hd:ds.length=ps.length
  ·exact hd
  ·rw[if_neg hd]at o;exact o.elim
 refine AM lk hcd S hlen λA outer s H vs Q E hr hsp=>?_;have hl:=hlen _ _ _ _ hsp;obtain⟨μ,h,ds,r,sm,o⟩:=hsp;have o':Out G E μ h.length H (aW (mb (bR N.length ds) h)) (RelD G) Q:=by unfold aT at o;rw[if_pos (by rw[<-r.length];exact hl)]at o;exact o
 refine⟨_,hbody cdv A outer s H E (EB G μ h.length H (mb (bR N.length ds) h)) rfl (BP hr hK (λu H' ⟨c,h',μ',er,x,s',fl⟩=>?_) BQ) hK, ?_⟩
 ·rw[er]at o';exact o' μ' H' u x s' fl
 ·refine⟨μ,bR N.length ds,h,JD r N,sm, ?_⟩
  cases q:mb (bR N.length ds) h with
  |bad=>rw[q]at o';exact o'.elim
  |bk ρ h'=>rw[q]at o';exact o'.elim
  |ct ρ h'=>rw[q]at o';exact o'.elim
  |rt d h'=>rw[q]at o';exact o'
  |nx ρ h'=>rw[q]at o';exact λμ' H' σ' x' s' rs'=>o' μ' H' .non x' s' rfl
  |ex c h'=>exact λμ' H' u x' s' fl=>⟨c,h',μ',rfl,x',s',fl⟩
theorem X5 {fd:bo}{ps:List Str}:FnOk P w K mg base (bK P w base) k f fd ps (cC G (λ_ _=>.bad)):=⟨λvs H Q E ⟨_,_,_,_,_,o⟩=>o.elim,λ_ _ _ _ _ _ _ _ _ _ _ _ _ ⟨_,_,_,_,_,o⟩=>o.elim⟩
end
section
variable{X:Cx}{G:Cfg}{E:XK}{k:Nat}{q x:Str}{p pos lpos:Pos}{params:ni}{body:bq}{scope os:iq}{c P fr:ai}{fdr:bo}{Nl oN:List Str}{me:M Dv}{n ncl j:Nat}{mb:MS}{caps:List Nat}
theorem xC (g:Good X G E k) (hj:j<=k) (hfn:∀y,X.fn y=true)
  (F:∀base,X.K.In base->base.Ns dz X.mg->FnOk X.prog X.w X.K X.mg base (bK X.prog X.w base) j fr fdr [x] (wW G base Nl params body scope me n ncl mb))
  (hg:Gl X q) (hm:X.mg q=some (.ref fr)) (hk:mn X.K (.ref fr)=true) (hb:Binds X.K fdr [x] [])
  (hdef:defaultsOf params X.env=([],[])) (hq:X.env.qual ++ "<lambda>" = G.lq) (hP:G.tab=some P) (hcode:X.env.code=.ref c) (hC:mw X.base c P) (hB:mR X.mg X.base)
  (LS:LamScope Nl scope) (hs:X.env.scope.names=os.names) (hN:X.N=oN) (hkind:∀y∈Nl,os.names.lookup y=some .cell) (hcl:caps.length=Nl.length) (hcap:∀z∈caps.zip Nl,oN[z.1]?=some z.2)
  (hdb:(q==("__debug__" : Str))=false:=by decide) (he:au [.Lambda params body scope lpos] X.env=[(false,eval (.Lambda params body scope lpos) X.env)]:=by rfl):
  aJ X G E (.Call (.Name q p) [.Lambda params body scope lpos] [] pos) (iQ caps n ncl mb me):=
 W9 g hj hfn F hg hm hk hb hdef hq hP hcode hC hB LS (λy hy=>by rw[hs];exact hkind y hy) hcl (λi j y e1 e2=>by rw[hN];exact hcap (j,y) (bx (i:=i) (rn.mpr ⟨e1,e2⟩))) hdb he
end
def fF:Dv->Bool
 | .scr=>false
 |_=>true
def aQ (x y:Dv) (h:Hs):Rs Dv:=if fF x=true then gD [] x y h else .bad
def cD (x:Dv) (h:Hs):Rs Dv:=if fF x=true then iF [] x h else .bad
def gG (x:Dv) (h:Hs):Rs Dv:=if fF x=true then pL [] x h else .bad
def eM (neg:Bool) (x y:Dv) (h:Hs):Rs Dv:=if fF y=true then oI [] neg x y h else .bad
theorem CB {scr:List Int}{x:Dv}{h:Hs}(e:fF x=true):fX [] x h=fX scr x h:=by cases x <;> first|rfl|cases e
section
variable{X:Cx}{G:Cfg}{E:XK}{k:Nat}{a b e:bq}{es:List bq}{ma mb:M Dv}{aS:M (List Dv)}{p pos:Pos}
theorem X6:fV G (AS G.K) aQ:=by
 intro E μ h H x y vx vy Q s rx ry o;unfold aQ at o
 split at o
 ·rename_i hx;refine IJ E μ h H x y vx vy Q s rx ry ?_;have e:gD G.scr x y h=gD [] x y h:=by cases x <;> cases y <;> first|rfl|exact absurd hx (by decide)
  rw[e];exact o
 ·exact o.elim
theorem X7:kE G (IM G.K) cD:=by
 intro E μ h H x vx Q s rx o;unfold cD at o
 split at o
 ·rename_i hx;refine IP E μ h H x vx Q s rx ?_;unfold iF at o ⊢;rw[<-CB hx];exact o
 ·exact o.elim
theorem X8:kE G (λx H Q=>∃p ys,x=.ref p/\(SqL G.K H p ys∨SqT G.K H p ys)/\∀l,H l=none->Q (.ref l) (upd H l (.lst ys))) gG:=by
 intro E μ h H x vx Q s rx o;unfold gG at o
 split at o
 ·rename_i hx;refine VH E μ h H x vx Q s rx ?_;unfold pL at o ⊢;rw[<-CB hx];exact o
 ·exact o.elim
theorem CC (neg:Bool):fV G (wX G.K neg) (eM neg):=by
 intro E μ h H x y vx vy Q s rx ry o;unfold eM at o
 split at o
 ·rename_i hx;refine XB neg E μ h H x y vx vy Q s rx ry ?_;unfold oI at o ⊢;rw[<-CB hx];exact o
 ·exact o.elim
theorem cF (ha:aJ X G E a ma) (hb:aJ X G E b mb) (hs:AQ b:=by intro _ _;rfl):aJ X G E (.Subscript a b pos) (m2 aQ ma mb):=λhK=>PE.imp (HF (by have:=HJ (X:=X);rw[hK]at this;exact this) (ha hK) (hb hK) hs) λ_ _ _ t=>tF X6 t
theorem lJ (hg:Gl X "len") (hm:X.mg "len" = none) (ha:dM X G E (e::es) aS)
  (he:au (e::es) X.env=(false,eval e X.env)::au es X.env:=by rfl) (hpl:(backTo pos (au es X.env)).any (·.1)=false:=by rfl):aJ X G E (.Call (.Name "len" p) (e::es) [] pos) (aE (f1 cD) aS):=λhK=>
 pJ (CallR.imp (HK (X:=X)) λxs H Q ⟨v,h1,a,ys,h2,h3,h4⟩=>⟨a,ys,by rw[h1,h2],by rw[hK];exact h3,h4⟩) (pK X7) hg hm yr ha (by decide) (by decide) he hpl hK
theorem xD (hg:Gl X "list") (hm:X.mg "list" = none) (ha:dM X G E (e::es) aS)
  (he:au (e::es) X.env=(false,eval e X.env)::au es X.env:=by rfl) (hpl:(backTo pos (au es X.env)).any (·.1)=false:=by rfl):aJ X G E (.Call (.Name "list" p) (e::es) [] pos) (aE (f1 gG) aS):=λhK=>
 IL (CallR.imp (TM (X:=X)) λxs H Q ⟨v,h1,a,ys,h2,h3,h4⟩=>⟨a,ys,by rw[h1,h2],by rw[hK];exact h3,h4⟩) (pK X8) hg hm wH ha (by decide) (by decide) he hpl hK
end
theorem X9 (h l:Hs) (k:Nat):getL (h++l) (h.length+k)=getL l k:=by unfold getL;rw[gv (by omega),show h.length+k - h.length=k by omega]
theorem YA (h l:Hs):getL (h++l) h.length=getL l 0:=X9 h l 0
theorem YB (h l:Hs) (k:Nat) (o:Ob):(h++l).set (h.length+k) o=h++l.set k o:=by rw[List.set_append_right _ _ (by omega),show h.length+k - h.length=k by omega]
theorem YC (h l:Hs) (o:Ob):(h++l).set h.length o=h++l.set 0 o:=YB h l 0 o
section
variable{n:Nat}
end
section
variable{ma mb mc:M Dv}{aS:M (List Dv)}{t u:M Bool}{f f':Dv->Dv->Hs->Rs Dv}{g:Dv->Hs->Rs Dv}{F:List Dv->Hs->Rs Dv}
end
section
variable{mi mi':M Src}{st st':dC}{test test':M Bool}{inner:MC}{me:M Dv}{cap:List (Option Nat)}
end
section
variable{mo me mi:M Dv}{ml:M (List Dv)}{m u:MS}{t:M Bool}
end
def eR:Dv->Option Int
 | .int i=>some i
 |_=>none
theorem mW {G:Cfg}{μ:Nat->ai}{n:Nat}{H:Hp}:∀{xs:List Dv}{vs:List V}{ns:List Int},RelDL G μ n H xs vs->bJ eR xs=some ns->vs=ns.map V.int
 | [],_,ns,r,e=>by cases e;rw[RelDL]at r;subst r;rfl
 |x::xs,_,ns,r,e=>by
  rw[RelDL]at r;obtain⟨v,rr,rfl,r1,r2⟩:=r;unfold bJ at e
  cases x with
  |int i=>
   dsimp only[eR]at e
   cases q:bJ eR xs with
   |none=>rw[q]at e;cases e
   |some zs=>rw[q]at e;cases e;rw[RelD]at r1;subst r1;rw[mW r2 q];rfl
  |_=>cases e
section
variable{X:Cx}{G:Cfg}{E:XK}{e a b:bq}{es:List bq}{ma mb:M Dv}{aS:M (List Dv)}{p pos:Pos}
theorem tV {ns:List Int}{its:List af}(rv:Vals (ns.map V.int) its) {i:Nat}{v:af}(e:its.toArray[i]?=some v):∃t,v=.int (ns.getD i 0) t:=by
 have hl:=rv.length;rw[bj]at hl;have e':its[i]?=some v:=by simpa using e
 have hi:i<its.length:=(ba.mp e').1;have hb:i<ns.length:=by omega
 obtain⟨u,e2,r⟩:=rv.get (i:=i) (x:=V.int ns[i]) (by simp[hb]);rw[e']at e2;cases e2;have hg:ns.getD i 0=ns[i]:=by simp[ow,hb]
 rw[hg];exact r
end
section
variable{X:Cx}{G:Cfg}{E:XK}{a:bq}{elts:List bq}{kk:Nat}{tp p pos:Pos}{ma:M Dv}{ms:M (List Dv)}
end
def iJ (g:Int->Int->Bool) (val:Nat->Int):Nat->Int
 |0=>val 0
 |k+1=>if g (val (k+1)) (iJ g val k)then val (k+1)else iJ g val k
theorem J8 (g:Int->Int->Bool) (val:Nat->Int):∀k,val (argBest (λi j=>g (val i) (val j)) k)=iJ g val k
 |0=>rfl
 |k+1=>by
  rw[argBest,iJ,<-J8 g val k]
  split <;> rfl
def fG (ns:List Int):Int:=iJ (λa b=>decide (a>b)) (λi=>ns.getD i 0) (ns.length - 1)
def pS (x:Int):List Int->List Int
 | []=>[x]
 |y::ys=>if x<=y then x::y::ys else y::pS x ys
def hZ:List Int->List Int
 | []=>[]
 |x::xs=>pS x (hZ xs)
theorem oO (x:Int):∀ys,(pS x ys).Perm (x::ys)
 | []=>xg _
 |y::ys=>by
  unfold pS
  split
  ·exact xg _
  ·exact((oO x ys).cons y).trans (Df x y ys)
theorem xE:∀xs,(hZ xs).Perm xs
 | []=>xg _
 |x::xs=>(oO x (hZ xs)).trans ((xE xs).cons x)
theorem J9 (x:Int):∀ys,ys.Pairwise (·<=·)->(pS x ys).Pairwise (·<=·)
 | [],_=>by simp[pS]
 |y::ys,h=>by
  have h1:=ed.mp h;unfold pS
  split
  ·rename_i hxy;refine ed.mpr ⟨λz hz=>?_,h⟩
   rcases ay.mp hz with rfl|hz
   ·exact hxy
   ·exact Int.le_trans hxy (h1.1 z hz)
  ·rename_i hxy;refine ed.mpr ⟨λz hz=>?_,J9 x ys h1.2⟩
   rcases ay.mp ((oO x ys).subset hz)with rfl|hz
   ·omega
   ·exact h1.1 z hz
theorem KC:∀xs,(hZ xs).Pairwise (·<=·)
 | []=>um
 |x::xs=>J9 x _ (KC xs)
theorem KD {ms ns:List Int}(hp:ms.Perm ns) (hs:ms.Pairwise (·<=·)):ms=hZ ns:=List.Perm.eq_of_pairwise (le:=(·<=·)) (λa b _ _ h1 h2=>Int.le_antisymm h1 h2) hs (KC ns) (hp.trans (xE ns).symm)
theorem YD (xs:List Int):(hZ xs).length=xs.length:=(xE xs).length_eq
section
variable{X:Cx}{G:Cfg}{E:XK}{e a b:bq}{es:List bq}{ma mb:M Dv}{aS:M (List Dv)}{p pos:Pos}
abbrev KG (f:List Int->Int):List V->Hp->VK->Prop:=λxs H Q=>∃(p:ai) (ns:List Int),xs=[.ref p]/\H p=some (.lst (ns.map V.int))/\0<ns.length/\Q (.int (f ns)) H
theorem YE (hc:X.calm=true):CallR X (.builtin "max") (KG fG):=by
 intro pins s σ H xs us Q I rv ⟨p,ns,e,hp,h0,q⟩;subst e;obtain⟨u,rfl,ru⟩:=hJ rv;cases ru;obtain⟨its,rits,pl,hz⟩:=I.list (SqL.of hp);have hn:its.toArray.size=ns.length:=by have:=rits.length;simp at this ⊢;omega
 have lp:=I.hok.lt hp;have ne:p≠s.heap.objs.size:=az lp;refine call_max_walk (nq pl.isList ⟨_,_,_,_,_,_,_,rfl,we (A:=X.A.in1) (show X.A.in1.handled=none from I.ok.hd hc) _ p ne its.toArray,⟨⟨_,ax _ rfl,rfl,rfl⟩,pl.isList.push _⟩,λb hb=>?_,by rw[hn];exact h0,CmpOf.ints_gt (λi=>ns.getD i 0) (λi v ev=>tV rits ev),λv h' tk ev k=>?_⟩)
 ·simp only[fq];simp at hb
  rcases hb with rfl|rfl
  ·exact jv _
  ·exact ik lp
 ·obtain⟨t',rfl⟩:=tV rits ev;refine⟨.int (fG ns),H,(BS (tk:=tk) I k:Inv X pins σ H { s with heap:=h',toks:=tk }),⟨t', ?_⟩,q⟩;rw[hn];rw[J8 (λa b=>decide (a>b)) (λi=>ns.getD i 0)];rfl
theorem CD:∀{vs:List af}{ns:List Int},Vals (ns.map V.int) vs->ku vs ns
 | [],[],_=>.nil
 | [],n::ns,h=>by cases h
 |v::vs,[],h=>by cases h
 |v::vs,n::ns,h=>by
  cases h with
  |cons h1 h2=>obtain⟨t,rfl⟩:=h1;exact .cons _ _ (CD h2)
theorem sT:∀{vs:List af}{ns:List Int},ku vs ns->Vals (ns.map V.int) vs
 |_,_,.nil=>.nil
 |_,_,.cons _ _ h=>.cons ⟨_,rfl⟩ (sT h)
def pT (f:List Int->Int) (x:Dv) (h:Hs):Rs Dv:=match x with
 | .ref i=>match getL h i with
  |some xs=>match bJ eR xs with
   |some ns=>if 0<ns.length then .ok (.int (f ns)) h else .bad
   |none=>.bad
  |none=>.bad
 |_=>.bad
theorem YF {f:List Int->Int}:kE G (λx H Q=>KG f [x] H Q) (pT f):=by
 intro E μ h H x vx Q s r o
 cases x with
 |ref i=>
  dsimp only[pT]at o
  cases q:getL h i with
  |none=>rw[q]at o;exact o.elim
  |some xs=>
   rw[q]at o;dsimp only at o
   cases q2:bJ eR xs with
   |none=>rw[q2]at o;exact o.elim
   |some ns=>
    rw[q2]at o;dsimp only at o
    split at o
    ·rename_i h0;obtain⟨vs,e1,r1⟩:=s.ob i _ (cY q);obtain⟨_,rfl⟩:=r;exact⟨_,ns,rfl,by rw[e1,mW r1 q2],h0,o.val s rfl⟩
    ·exact o.elim
 |_=>exact o.elim
theorem KH:dw "sorted" = some (.builtin "sorted"):=by decide +kernel
theorem YG (hc:X.calm=true) (hg:Gl X "max") (hm:X.mg "max" = none) (ha:dM X G E [e] aS)
  (he:au [e] X.env=[(false,eval e X.env)]:=by rfl):aJ X G E (.Call (.Name "max" p) [e] [] pos) (aE (f1 (pT fG)) aS):=
 pJ (CallR.imp (YE hc) λxs H Q ⟨v,h1,a,ns,h2,h3⟩=>⟨a,ns,by rw[h1,h2],h3⟩) (pK YF) hg hm BD ha (by decide) (by decide) he rfl
end
section
variable{X:Cx}{G:Cfg}{E:XK}{e o a b:bq}{es:List bq}{ma mb mo me:M Dv}{aS:M (List Dv)}{p pos np apos cpos:Pos}{y:Str}
def CF (_ j:Int):Prop:=0<j/\j<18446744073709551616
theorem YH:OpR X (binaryOp .FloorDiv) (rI CF λi j=>.int (i / j)):=vQ λi j _ _ _ _ _ hc q=>by
 have h1:(0:Int)<j:=hc.1;have h2:j<18446744073709551616:=hc.2;refine floordiv_int (by omega) (by rw[Int.fdiv_eq_ediv_of_nonneg i (by omega)];exact q) (.inl (PyProof.noPylong_of_log2 ?_));have h3:j.natAbs≠0:=by omega
 have h4:j.natAbs<2 ^ 64:=by omega
 have:=(Nat.log2_lt h3).mpr h4;omega
def tW (_ j:Int):Bool:=decide (0<j)&&decide (j<18446744073709551616)
theorem YI (i j:Int) (h:tW i j=true):CF i j:=by unfold tW at h;unfold CF;simpa only[cw,decide_eq_true_eq]using h
def tX:Dv->Dv->Hs->Rs Dv:=kX tW λi j=>.int (i / j)
theorem KI (ha:aJ X G E a ma) (hb:aJ X G E b mb):aJ X G E (.BinOp a .FloorDiv b pos) (m2 tX ma mb):=qL YH (wF YI) ha hb
def KJ (K:aq):R2:=λx y H Q=>∃a b ys,x=.ref a/\y=.ref b/\SqT K H a []/\SqT K H b ys/\Q (.ref b) H
theorem op_catT0:OpR X (binaryOp .Add) (KJ X.K):=by
 intro pins s σ H x y v u Q I rx ry ⟨a,b,ys,e1,e2,ha,hb,q⟩;subst e1;subst e2;cases rx;cases ry;obtain⟨its,r1,p1,_⟩:=I.tuple ha;obtain⟨its2,r2,p2,_⟩:=I.tuple hb;have hn:its=[]:=r1.nil_iff.mpr rfl;subst hn;obtain⟨⟨cls,dd,data,sl⟩,ho,hc,n,hd⟩:=p1;obtain⟨⟨cls2,dd2,data2,sl2⟩,ho2,hc2,n2,hd2⟩:=p2;simp only at hc hd hc2 hd2;subst hc hd hc2 hd2;exact concat_meets ⟨_,ho,rfl⟩ ⟨_,ho2,rfl⟩ Ae Cz tq sf (rg _ _)
  (tuple_addW0 a b _ _ n n2 dd dd2 sl sl2 rfl) ⟨ho,ho2,⟨.ref b,H,I,rfl,q⟩⟩
def bA (x y:Dv) (h:Hs):Rs Dv:=match x,y with
 | .tup [],.tup ys=>.ok (.tup ys) h
 |x,y=>kZ x y h
theorem YJ:fV G (λx y H Q=>KJ G.K x y H Q∨BA G.K x y H Q) bA:=by
 intro E μ h H x y vx vy Q s rx ry o;unfold bA at o
 split at o
 ·rename_i ys;obtain⟨a,vs,rfl,ea,ra⟩:=rx;obtain⟨b,ws,rfl,eb,rb⟩:=id ry;have:vs=[]:=by rw[RelDL]at ra;exact ra
  subst this;exact .inl ⟨a,b,ws,rfl,rfl,SqT.of ea,SqT.of eb,o.val s ry⟩
 ·exact .inr (UY E μ h H _ _ vx vy Q s rx ry o)
theorem eO (ha:aJ X G E a ma) (hb:aJ X G E b mb):aJ X G E (.BinOp a .Add b pos) (m2 bA ma mb):=λhK=>qL (op_catT0.or UX) (by rw[hK];exact YJ) ha hb hK
def eW (k:Int):List Int->Option Nat
 | []=>none
 |n::ns=>if n=k then some 0 else(eW k ns).map (·+1)
theorem tY {k:Int}:∀{ns:List Int}{j:Nat},eW k ns=some j->ns[j]?=some k/\∀m,m<j->ns[m]?≠some k
 | [],j,h=>by cases h
 |n::ns,j,h=>by
  unfold eW at h
  split at h
  ·rename_i e;cases h;exact⟨by simp[e],λm hm=>by omega⟩
  ·rename_i e
   cases q:eW k ns with
   |none=>rw[q]at h;cases h
   |some i=>
    rw[q]at h;cases h;obtain⟨h1,h2⟩:=tY q;refine⟨by simpa using h1,λm hm=>?_⟩
    cases m with
    |zero=>simpa using e
    |succ m=>
     have hm':m<i:=by simpa using hm
     simpa using h2 m hm'
theorem KL:∀{vs:List af}{ns:List Int}{i:Nat}{n:Int},ku vs ns->ns[i]?=some n->∃t,vs[i]?=some (.int n t)
 |_,_,0,n,.cons m t h,e=>by simp at e;subst e;exact⟨t,rfl⟩
 |_,_,i+1,n,.cons m t h,e=>by simpa using KL h (by simpa using e)
 |_,_,i,n,.nil,e=>by simp at e
theorem YK (a b:af):argsOk "tuple.index" ⟨[a,b],[]⟩:=by unfold argsOk;kernel_rfl
theorem YL {prog:bh}{w:cn}{A:cf}{E:af->ag->Prop}{s:ag}{t:ai}{items:Array af}{ns:List Int}{k:Int}{u:Tok}{j:Nat}{P:Fin->ag->Prop}(ht:yi s.heap t items) (hi:ku items.toList ns)
  (hj:ns[j]?=some k) (hno:∀m,m<j->ns[m]?≠some k) (h:P (.done (.ret (.int j s.toks))) { s with toks:=s.toks+1 }):wpAny (model prog w) A (mr.«tuple.index» ⟨[.ref t,.int k u],[]⟩) P E s:=by
 show wpAny _ _ (vz (.ref t) >>= _) _ _ s;refine aa (xl ht ?_);refine aa (ah ?_);refine aa (ah ?_);show wpAny _ _ (forIn [:min items.size items.size] (none,()) _ >>= _) _ _ s;rw[Ci,Std.Legacy.Range.forIn_eq_forIn_range'];have hsz:items.size=ns.length:=by have:=hi.length;simpa using this
 have hjn:j<ns.length:=(ba.mp hj).1;refine aa (qo _ (λrest b s'=>b=(none,())/\s'=s/\∃i,i<=j/\rest=List.range' i (items.size - i) 1) _ ?_ ?_ _ _ ⟨rfl,rfl,0,jc _, ?_⟩)
 ·rintro x rest b s' ⟨rfl,rfl,i,hij,hr⟩
  have hlt:i<items.size:=by omega
  obtain⟨z,hz⟩:∃z,items.size - i=z+1:=⟨items.size - i - 1,by omega⟩
  rw[hz,List.range'_succ]at hr;injection hr with hx hrest;subst hx;obtain⟨n,hn⟩:∃n,ns[x]?=some n:=⟨ns[x]'(by omega),by simp[show x<ns.length by omega]⟩
  obtain⟨tt,ht2⟩:=KL hi hn;have ht3:items[x]?=some (.int n tt):=by simpa using ht2
  rw[ht3];dsimp only;refine aa (Aa ?_)
  by_cases hxj:x=j
  ·subst hxj;have hnk:n=k:=by rw[hj]at hn;cases hn;rfl
   subst hnk;rw[if_pos (by simp)];refine aa (aa (wpAny_mkInt ?_));exact ah (ah (ah h))
  ·have hne:n≠k:=λe=>hno x (by omega) (by rw[hn,e]);rw[if_neg (by simpa using hne)];exact ah ⟨rfl,rfl,x+1,by omega,by rw[hrest];congr 1;omega⟩
 ·rintro b s' ⟨rfl,rfl,i,hij,hr⟩
  exfalso
  have hlt:i<items.size:=by omega
  have:=congrArg rz hr;simp at this;omega
 ·simp[Std.Legacy.Range.size]
theorem YM:AR X "tuple.index" (λx xs H Q=>∃(a:ai) (ns:List Int) (k:Int) (j:Nat),x=.ref a/\xs=[.int k]/\H a=some (.tup (ns.map V.int))/\eW k ns=some j/\Q (.int j) H):=by intro pins s σ H x xs v us Q I rx rv ⟨a,ns,k,j,e1,e2,ha,hj,q⟩;subst e1;subst e2;cases rx;obtain⟨u,rfl,ru⟩:=hJ rv;obtain⟨t,rfl⟩:=ru;obtain⟨its,rits,p1,_⟩:=I.tuple (SqT.of ha);obtain⟨h1,h2⟩:=tY hj;refine fv yt p1.typeIs PySem.F.entry_tuple_index (YL p1 (CD rits) h1 h2 ⟨_,rfl, ?_⟩) (YK _ _);exact⟨.int j,H,I.tok _,⟨_,rfl⟩,q⟩
theorem YN {id:String}{name:Str}{r:V->List V->Hp->VK->Prop}{to:TE}{t:TA}(slot:Slot "tuple" name id) (hty:typeOf (.builtin id)=pure (.type "method_descriptor")) (hm:AR X id r) (ho:PE X o to) (ha:PA X [e] t)
  (hbase:attributeBase o name X.env (eval o X.env)=eval o X.env)
  (hfew:((backTo cpos (au [e] X.env)).all (λx=>!x.1)&&(backToKw cpos (keywordEach [] X.env)).all (λx=>x.1.isSome)
   && decide ([e].length+([]:List Keyword).length+(if([]:List Keyword).isEmpty then 0 else 1)<30))=true)
  (hline:(apos.endLine==cpos.line)=true) (hs:au [e] X.env=[(false,eval e X.env)]):
  PE X (.Call (.Attribute o name apos) [e] [] cpos) (λσ H Q=>to σ H λx H1=>(∃a xs,x=.ref a/\H1 a=some (.tup xs))/\t σ H1 λxs H2=>r x xs H2 Q):=by
 intro pins s σ H Q I h;refine wpAny_Call_method_late hbase hfew hline rfl (aV (ho pins s σ H _ I h) λv s1 ⟨x,H1,I1,r1,⟨a,ys,ex,ea⟩,q1⟩=>?_);subst ex;cases r1;obtain⟨_,its,rits,ob,g1,g2,g3,n,g4⟩:=(show ObjOk X.prog X.w H1 s1.heap a (.tup ys) from I1.hok a _ ea)
 refine⟨"tuple",id,PySem.F.plainAttrs_tuple,slot,hty,⟨ob,g1,g2⟩,λb eb=>?_, ?_⟩
 ·cases eb;exact⟨ob,g1,g3⟩
 ·have hA:=ha cpos pins s1 σ H1 _ I1 q1;rw[hs]at hA ⊢;exact Bs (by rfl) (vf (aV hA λus s2 ⟨vs,H2,I2,r2,q2⟩=>hm pins s2 σ H2 (.ref a) vs (.ref a) us Q I2 rfl r2 q2))
def CG (x i:Dv) (h:Hs):Rs Dv:=match x,i with
 | .tup xs,.int k=>match bJ eR xs with
  |some ns=>match eW k ns with
   |some j=>.ok (.int j) h
   |none=>.bad
  |none=>.bad
 |_,_=>.bad
def KN (x:Dv):Bool:=match x with
 | .tup _=>true
 |_=>false
def dS (mo me:M Dv):M Dv:=λρ h=>(mo ρ h).bind λx h1=>if KN x=true then(me ρ h1).bind λd h2=>CG x d h2 else .bad
theorem lK (ho:aJ X G E (.Name y np) mo) (he:aJ X G E e me) (hs:au [e] X.env=[(false,eval e X.env)]:=by rfl) (hl:(apos.endLine==cpos.line)=true:=by rfl):aJ X G E (.Call (.Attribute (.Name y np) "index" apos) [e] [] cpos) (dS mo me):=λhK=>
 PE.imp (YN yt PySem.F.type_tuple_index YM (ho hK) (hO (he hK) iX hs) rfl (by rw[hs];rfl) hl hs) λσ H Q ⟨μ,ρ,h,rs,s,oo⟩=>eI rs s oo λμ1 x h1 vx H1 x1 rs1 s1 r1 o1=>by
  split at o1
  ·rename_i hl
   cases x with
   |tup xs=>
    obtain⟨a,vs,rfl,ea,ra⟩:=id r1;refine⟨⟨a,vs,rfl,ea⟩,eI rs1 s1 o1 λμ2 d h2 vd H2 x2 rs2 s2 r2 o2=>?_⟩
    cases d with
    |int k=>
     dsimp only[CG]at o2
     cases q:bJ eR xs with
     |none=>rw[q]at o2;exact o2.elim
     |some ns=>
      rw[q]at o2;dsimp only at o2
      cases q2:eW k ns with
      |none=>rw[q2]at o2;exact o2.elim
      |some j=>rw[q2]at o2;obtain⟨a',vs',e',ea',ra'⟩:=RelD.mono x2 _ _ r1;cases e';rw[RelD]at r2;subst r2;exact⟨_,ns,k,j,rfl,rfl,by rw[ea',mW ra' q],q2,o2.val s2 rfl⟩
    |_=>exact o2.elim
   |_=>cases hl
  ·exact o1.elim
end
section
variable{X:Cx}{G:Cfg}{E:XK}{k:Nat}{a b:bq}{ma mb mo:M Dv}{pos:Pos}
theorem YO (g:Good X G E k) (ha:aJ X G E a ma) (hb:aJ X G E b mb) (hm:lastMarks [.In] [b]=false:=by with_unfolding_all rfl):aJ X G E (.Compare a [.In] [b] pos) (m2 (eM false) ma mb):=λhK=>qM (XA g.room.units) (by rw[hK];exact CC false) ha hb hm hK
theorem KO (g:Good X G E k) (ha:aJ X G E a ma) (hb:aJ X G E b mb) (hm:lastMarks [.NotIn] [b]=false:=by with_unfolding_all rfl):aJ X G E (.Compare a [.NotIn] [b] pos) (m2 (eM true) ma mb):=λhK=>qM (JZ g.room.units) (by rw[hK];exact CC true) ha hb hm hK
theorem xF (g:Good X G E k) (ha:aJ X G E a ma) (hb:aJ X G E b mb) (hm:lastMarks [.NotIn] [b]=false:=by with_unfolding_all rfl):gL X G E (.Compare a [.NotIn] [b] pos) (mB (m2 (eM true) ma mb)):=λhK=>qN (JZ g.room.units) (by rw[hK];exact CC true) ha hb hm hK
end
theorem kP {H:Hs}{n:Nat}{xs ys:List Dv}(e:getL H n=some xs):getL (H.set n (.lst ys)) n=some ys:=by have h:=(ba.mp (cY e)).1;unfold getL;rw[cz h]
theorem rG {H:Hs}{n j:Nat}{o:Ob}(h:n≠j):getL (H.set n o) j=getL H j:=by unfold getL;rw[ey h]
theorem lL {H:Hs}{n:Nat}{xs:List Dv}(e:getL H n=some xs):n<H.length:=(ba.mp (cY e)).1
theorem jK {H l:Hs}{n:Nat}{xs:List Dv}(e:getL H n=some xs):getL (H++l) n=some xs:=by unfold getL;rw[fh (lL e),cY e]
structure Fr (S:List Nat) (H H':Hs):Prop where
 le:H.length<=H'.length
 at_:∀j,j<H.length->j∉S->H'[j]?=H[j]?
theorem Fr.refl {S:List Nat}{H:Hs}:Fr S H H:=⟨ak _,λ_ _ _=>rfl⟩
theorem Fr.trans {S T:List Nat}{H H1 H2:Hs}(a:Fr S H H1) (b:Fr T H1 H2) (h:∀j∈T,j∈S∨H.length<=j):Fr S H H2:=⟨dm a.le b.le,λj hj hS=>(b.at_ j (aw hj a.le) λz=>(h j z).elim hS λw=>absurd (aw hj w) (gy _)).trans (a.at_ j hj hS)⟩
theorem Fr.app {S:List Nat}{H l:Hs}:Fr S H (H++l):=⟨by simp,λj hj _=>fh hj⟩
theorem Fr.set {H:Hs}{n:Nat}{o:Ob}:Fr [n] H (H.set n o):=⟨by simp,λj hj hS=>ey (by simpa using cy (by simpa using hS))⟩
theorem Fr.getL {S:List Nat}{H H':Hs}{j:Nat}{xs:List Dv}(a:Fr S H H') (e:getL H j=some xs) (h:j∉S):getL H' j=some xs:=by unfold L2.Mr.getL at e ⊢;rw[a.at_ j (lL e) h];exact e
theorem Fr.mono {S T:List Nat}{H H':Hs}(a:Fr S H H') (h:∀j∈S,j∈T):Fr T H H':=⟨a.le,λj hj hT=>a.at_ j hj λz=>hT (h j z)⟩
theorem bE {m u:MS}{ρ ρ1:Ev}{h h1:Hs}(e:m ρ h=.nx ρ1 h1):aI m u ρ h=u ρ1 h1:=by unfold aI;rw[e]
theorem CH {mi:M Src}{st:dC}{b:MS}{ρ:Ev}{h h1:Hs}{src:Src}(e:mi ρ h=.ok src h1):dN mi st b ρ h=eY src st b src.n 0 ρ h1:=by unfold dN;rw[e];rfl
theorem lM {c:M Bool}{t u:MS}{ρ:Ev}{h h1:Hs}(e:c ρ h=.ok true h1):aX c t u ρ h=t ρ h1:=by unfold aX;rw[e];rfl
theorem iT {c:M Bool}{t u:MS}{ρ:Ev}{h h1:Hs}(e:c ρ h=.ok false h1):aX c t u ρ h=u ρ h1:=by unfold aX;rw[e];rfl
theorem CI {src:Src}{sg:dC}{b:MS}{f k:Nat}{ρ ρ1 ρ2:Ev}{H H2:Hs}{d:Dv}(hg:src.get k H=some d) (hs:sg d ρ=some ρ1) (hb:b ρ1 H=.nx ρ2 H2):eY src sg b (f+1) k ρ H=eY src sg b f (k+1) ρ2 H2:=by simp[eY,hg,hs,hb]
theorem KQ {src:Src}{sg:dC}{b:MS}(P:Nat->Ev->Hs->Prop)
  (step:∀k ρ H,k<src.n->P k ρ H->∃d ρ1 ρ2 H2,src.get k H=some d/\sg d ρ=some ρ1/\b ρ1 H=.nx ρ2 H2/\P (k+1) ρ2 H2)
  (fin:∀ρ H,P src.n ρ H->src.fin H=true):∀(f k:Nat) (ρ:Ev) (H:Hs),f+k=src.n->P k ρ H->∃ρ' H',eY src sg b f k ρ H=.nx ρ' H'/\P src.n ρ' H'
 |0,k,ρ,H,h,p=>by
  have hk:k=src.n:=by omega
  subst hk;exact⟨ρ,H,by simp[eY,fin ρ H p],p⟩
 |f+1,k,ρ,H,h,p=>by obtain⟨d,ρ1,ρ2,H2,e1,e2,e3,p2⟩:=step k ρ H (by omega) p;rw[CI e1 e2 e3];exact KQ P step fin f (k+1) ρ2 H2 (by omega) p2
theorem oP {mi:M Src}{src:Src}{sg:dC}{b:MS}{ρ:Ev}{H H1:Hs}(hi:mi ρ H=.ok src H1) (P:Nat->Ev->Hs->Prop)
  (step:∀k ρ H,k<src.n->P k ρ H->∃d ρ1 ρ2 H2,src.get k H=some d/\sg d ρ=some ρ1/\b ρ1 H=.nx ρ2 H2/\P (k+1) ρ2 H2)
  (fin:∀ρ H,P src.n ρ H->src.fin H=true) (p:P 0 ρ H1):∃ρ' H',dN mi sg b ρ H=.nx ρ' H'/\P src.n ρ' H':=by
 rw[CH hi];exact KQ P step fin src.n 0 ρ H1 (by omega) p
theorem CJ {src:Src}{sg:dC}{t:M Bool}{m:MC}(P:Nat->Ev->Hs->List Dv->Prop)
  (step:∀k ρ H acc,k<src.n->P k ρ H acc->∃d ρ1,src.get k H=some d/\sg d ρ=some ρ1 /\
   ((∃H2,t ρ1 H=.ok false H2/\P (k+1) ρ1 H2 acc)∨∃H2 ρ3 acc3 H3,t ρ1 H=.ok true H2/\m ρ1 H2 acc=.ok (ρ3,acc3) H3/\P (k+1) ρ3 H3 acc3))
  (fin:∀ρ H acc,P src.n ρ H acc->src.fin H=true):∀(f k:Nat) (ρ:Ev) (H:Hs) (acc:List Dv),f+k=src.n->P k ρ H acc->∃ρ' H' acc',gO src sg t m f k ρ H acc=.ok (ρ',acc') H'/\P src.n ρ' H' acc'
 |0,k,ρ,H,acc,h,p=>by
  have hk:k=src.n:=by omega
  subst hk;exact⟨ρ,H,acc,by simp[gO,fin ρ H acc p],p⟩
 |f+1,k,ρ,H,acc,h,p=>by
  obtain⟨d,ρ1,e1,e2,e3⟩:=step k ρ H acc (by omega) p
  rcases e3 with⟨H2,e3,p2⟩|⟨H2,ρ3,acc3,H3,e3,e4,p2⟩
  ·obtain⟨ρ',H',acc',e5,p5⟩:=CJ P step fin f (k+1) ρ1 H2 acc (by omega) p2;exact⟨ρ',H',acc',by simp[gO,e1,e2,e3,e5],p5⟩
  ·obtain⟨ρ',H',acc',e5,p5⟩:=CJ P step fin f (k+1) ρ3 H3 acc3 (by omega) p2;exact⟨ρ',H',acc',by simp[gO,e1,e2,e3,e4,e5],p5⟩
theorem rH (k:Nat) (H:Hs):∀ns:List Int,bJ (bF (k+1) H) (ns.map Dv.int)=some (ns.map Dt.int)
 | []=>rfl
 |n::ns=>by rw[dk,bJ,rH k H ns];rfl
def aH (p:Int×Int):Dv:=.tup [.int p.1,.int p.2]
def jX (p:Int×Int):Dt:=.tup [.int p.1,.int p.2]
theorem KR (k:Nat) (H:Hs) (p:Int×Int):bF (k+2) H (aH p)=some (jX p):=rfl
theorem CK (k:Nat) (H:Hs):∀ps:List (Int×Int),bJ (bF (k+2) H) (ps.map aH)=some (ps.map jX)
 | []=>rfl
 |p::ps=>by rw[dk,bJ,CK k H ps,KR];rfl
theorem KS (p q:Int×Int):bI (jX p) (jX q)=decide (p=q):=by obtain⟨a,b⟩:=p;obtain⟨c,d⟩:=q;simp only[jX,bI,eU,Bool.and_true];rw[dh];simp
theorem mX (neg:Bool) (H:Hs) (p:Int×Int) (ps:List (Int×Int)):eM neg (aH p) (.tup (ps.map aH)) H=.ok (.bl (if neg then !decide (p∈ps)else decide (p∈ps))) H:=by
 have e:(ps.map jX).any (λt=>bI t (jX p))=decide (p∈ps):=by
  rw[dh];simp only[By,pw,Function.comp,KS,decide_eq_true_eq];constructor
  ·rintro ⟨q,hq,rfl⟩;exact hq
  ·intro h;exact⟨p,h,rfl⟩
 have h1:bJ (bF bW H) (ps.map aH)=some (ps.map jX):=CK 28 H ps;have h2:bF bW H (aH p)=some (jX p):=KR 28 H p;show oI [] neg (aH p) (.tup (ps.map aH)) H=_;simp only[oI,fX,h1,h2,e]
theorem KU (neg:Bool) (H:Hs) (x:Int) (ns:List Int):eM neg (.int x) (.tup (ns.map Dv.int)) H=.ok (.bl (if neg then !decide (x∈ns)else decide (x∈ns))) H:=by
 have e:(ns.map Dt.int).any (λt=>bI t (.int x))=decide (x∈ns):=by
  rw[dh];simp only[By,pw,Function.comp,bI,decide_eq_true_eq,beq_iff_eq];constructor
  ·rintro ⟨q,hq,rfl⟩;exact hq
  ·intro h;exact⟨x,h,rfl⟩
 have h1:bJ (bF bW H) (ns.map Dv.int)=some (ns.map Dt.int):=rH 29 H ns;have h2:bF bW H (.int x)=some (.int x):=rfl;show oI [] neg (.int x) (.tup (ns.map Dv.int)) H=_;simp only[oI,fX,h1,h2,e]
section
variable{X:Cx}{G:Cfg}{E:XK}{elt tg iter tg' iter':bq}{ifs ifs':List bq}{sc:iq}{ps px pos:Pos}{N:List Str}{cap:List (Option Nat)}{mi mi':M Src}{st st':dC}{test test':M Bool}{me:M Dv}{i:Nat}{x:Str}
theorem CL (hN:X.N.Nodup) (hi':X.N[i]?=some x) (hc:X.calm=true) (C:CapOk X sc N cap) (hi:lB X G E tg iter mi) (hg:∀s H ex,lA (cV X sc N s H ex) G tg st) (htt:∀s H ex,qV (cV X sc N s H ex) G ifs test) (hel:∀s H ex,aJ (cV X sc N s H ex) G E0 elt me)
  (hx:X.env.scope.names.lookup x=some .local:=by rfl) (hsw:swapsWith (.ListComp elt [⟨tg,iter,ifs,0⟩] sc ps) (some (.Name x px)) pos.line X.env=pure true:=by rfl)
  (hs:∀x,foldedSetIterable iter X.env x=pure x:=by intro _;rfl):hW X G E (.Assign [.Name x px] (.ListComp elt [⟨tg,iter,ifs,0⟩] sc ps) pos) (aK (bM (bU mi cap st test (bN me))) (aF i)):=λhK=>
 PS.imp (UJ hsw hN hi' hx hc C rfl (λit D env=>HX elt tg iter ifs sc ps (.ref it) D env) (hi hK) (λs H ex=>hg s H ex hK) (λs H ex=>htt s H ex hK) (λs H ex D=>PCl.imp (A0 (hel s H ex hK)) λ_ _ _ _ t=>BJ t) hs) λD σ H ⟨μ,ρ,h,rs,s,o⟩=>BK (IX (jC rs s o λμ1 d h1 v H1 x1 rs1 s1 r1 o1=>o1 μ1 H1 _ Ext.refl s1 (rs1.set i r1)))
end
end L2.Mr
namespace SoM
open PySem PySem.W PyProof.Rows
variable{n:Nat}{f:Nat->Nat}{s:ag}
def mY (n:Nat) (f:Nat->Nat) (i j:Nat) (C:Bool->ag->Prop) (s:ag):Prop:=i<n/\j<n/\C (decide (f i<f j)) s
def F (f:Nat->Nat) (p:Array Nat) (k:Nat):Nat:=f (p.getD k 0)
def Ent (n:Nat) (p:Array Nat):Prop:=p.size=n/\p.toList.Perm (bf n)
theorem Ent.lt {p:Array Nat}(e:Ent n p) (hn:0<n) (k:Nat):p.getD k 0<n:=by
 by_cases h:k<p.size
 ·have:p.getD k 0=p[k]:=by simp[kr,h]
  rw[this];have hm:p[k]∈p.toList:=by simp
  exact br.mp (e.2.mem_iff.mp hm)
 ·have:p.getD k 0=0:=by simp[kr,h]
  omega
theorem tZ {p q:Array Nat}{i j:Nat}(h:p[i]?=q[j]?):F f p i=F f q j:=by unfold F;simp only[Array.getD_eq_getD_getElem?,h]
theorem Ent.mirror {p:Array Nat}(e:Ent n p) (i j d:Nat):Ent n (mirror p i j d):=⟨(mirror_size ..).trans e.1,((yu.mp (mirror_perm p i j d))).trans e.2⟩
theorem Ent.bubble {p:Array Nat}(e:Ent n p) (k d:Nat):Ent n (bubble p k d):=⟨(bubble_size ..).trans e.1,((yu.mp (bubble_perm p k d))).trans e.2⟩
theorem Ent.rev {p:Array Nat}(e:Ent n p) (i j:Nat):Ent n (kas_rev p i j):=e.mirror _ _ _
theorem uA {p:Array Nat}{i j:Nat}(hj:j<=p.size) (k:Nat):F f (kas_rev p i j) k=if i<=k/\k<j then F f p (i+j - 1 - k)else F f p k:=by
 have e:=getElem?_mirror_all (i:=i) hj k
 by_cases h:i<=k/\k<j
 ·rw[if_pos h]at e ⊢;exact tZ e
 ·rw[if_neg h]at e ⊢;exact tZ e
theorem KW {p:Array Nat}{k d:Nat}(hs:k<p.size) (hd:d<=k) (i:Nat):F f (bubble p k d) i=if i=k - d then F f p k else if k - d<i/\i<=k then F f p (i - 1)else F f p i:=by
 have e:=getElem?_bubble hs d hd i
 by_cases h1:i=k - d
 ·rw[if_pos h1]at e ⊢;exact tZ e
 ·rw[if_neg h1]at e ⊢
  by_cases h2:k - d<i/\i<=k
  ·rw[if_pos h2]at e ⊢;exact tZ e
  ·rw[if_neg h2]at e ⊢;exact tZ e
def Inc (f:Nat->Nat) (p:Array Nat) (m:Nat):Prop:=∀i j,i<=j->j<m->F f p i<=F f p j
def Dec (f:Nat->Nat) (p:Array Nat) (m:Nat):Prop:=∀i j,i<=j->j<m->F f p j<=F f p i
theorem Inc.succ {p:Array Nat}{m:Nat}(h:Inc f p m) (hm:1<=m) (h1:F f p (m - 1)<=F f p m):Inc f p (m+1):=by
 intro i j hij hj
 by_cases q:j=m
 ·subst q
  by_cases r:i=j
  ·subst r;exact ak _
  ·exact dm (h i (j - 1) (by omega) (by omega)) h1
 ·exact h i j hij (by omega)
theorem Dec.succ {p:Array Nat}{m:Nat}(h:Dec f p m) (hm:1<=m) (h1:F f p m<=F f p (m - 1)):Dec f p (m+1):=by
 intro i j hij hj
 by_cases q:j=m
 ·subst q
  by_cases r:i=j
  ·subst r;exact ak _
  ·exact dm h1 (h i (j - 1) (by omega) (by omega))
 ·exact h i j hij (by omega)
theorem CM {p:Array Nat}(e:Ent n p) (hn:0<n) {Q:Nat->ag->Prop}:∀(fu m:Nat) (s:ag),1<=m->Inc f p m->
  (∀m',m<=m'->m'<=m+fu->Inc f p m'->(m'=m+fu∨F f p m'<F f p (m' - 1))->Q m' s)->(kas_asc p fu m).kasWp (mY n f) Q s
 |0,m,s,h1,hi,h=>h m (ak _) (ak _) hi (.inl rfl)
 |fu+1,m,s,h1,hi,h=>by
  refine⟨e.lt hn _,e.lt hn _, ?_⟩
  by_cases c:f (p.getD m 0)<f (p.getD (m - 1) 0)
  ·rw[decide_eq_true c];exact h m (ak _) (by omega) hi (.inr c)
  ·rw[decide_eq_false c];refine CM e hn fu (m+1) s (by omega) (hi.succ h1 (Nat.le_of_not_lt c)) λm' a b c d=>h m' (by omega) (by omega) c ?_
   rcases d with d|d
   ·exact .inl (by omega)
   ·exact .inr d
theorem xG (hn:0<n) {Q:Array Nat×Nat×Nat->ag->Prop}:∀(fu m q:Nat) (p:Array Nat) (s:ag),Ent n p->q+1<=m->m+fu<=n->Dec f p m->(∀k,m - 1 - q<=k->k<m->F f p k=F f p (m - 1))->
  (∀p' m' q',Ent n p'->q'+1<=m'->m<=m'->m'<=m+fu->Dec f p' m'->(∀k,m' - 1 - q'<=k->k<m'->F f p' k=F f p' (m' - 1))->Q (p',m',q') s)->(kas_desc fu p m q).kasWp (mY n f) Q s
 |0,m,q,p,s,e,h1,h2,hd,he,h=>h p m q e h1 (ak _) (ak _) hd he
 |fu+1,m,q,p,s,e,h1,h2,hd,he,h=>by
  refine⟨e.lt hn _,e.lt hn _, ?_⟩
  by_cases c:f (p.getD m 0)<f (p.getD (m - 1) 0)
  ·have c':F f p m<F f p (m - 1):=c;rw[decide_eq_true c];show KasT.kasWp _ (if true=true then(if q>0 then _ else _)else _) _ _;rw[if_pos rfl]
   by_cases hq:q>0
   ·rw[if_pos hq];have hsz:m<=p.size:=by rw[e.1];omega
    have hF:∀k,F f (kas_rev p (m - (q+1)) m) k=F f p k:=by
     intro k;rw[uA hsz]
     split
     ·rw[he _ (by omega) (by omega),he k (by omega) (by omega)]
     ·rfl
    have hd':Dec f (kas_rev p (m - (q+1)) m) (m+1):=by intro i j hij hj;rw[hF,hF];exact hd.succ (by omega) (ic c') i j hij hj
    refine xG hn fu (m+1) 0 _ s (e.rev _ _) (by omega) (by omega) hd' ?_ λp' m' q' a b c d=>h p' m' q' a b (by omega) (by omega);intro k k1 k2;have:k=m:=by omega
    subst this;rfl
   ·rw[if_neg hq];refine xG hn fu (m+1) 0 _ s e (by omega) (by omega) (hd.succ (by omega) (ic c')) ?_ λp' m' q' a b c d=>h p' m' q' a b (by omega) (by omega);intro k k1 k2;have:k=m:=by omega
    subst this;rfl
  ·have c':¬ F f p m<F f p (m - 1):=c;rw[decide_eq_false c];show KasT.kasWp _ (if false=true then _ else KasT.ask _ _ _) _ _;rw[if_neg (by simp)];refine⟨e.lt hn _,e.lt hn _, ?_⟩
   by_cases c2:f (p.getD (m - 1) 0)<f (p.getD m 0)
   ·rw[decide_eq_true c2];exact h p m q e h1 (ak _) (by omega) hd he
   ·have c2':¬ F f p (m - 1)<F f p m:=c2;rw[decide_eq_false c2];have eq:F f p m=F f p (m - 1):=by omega
    refine xG hn fu (m+1) (q+1) _ s e (by omega) (by omega) (hd.succ (by omega) (by omega)) ?_ λp' m' q' a b c d=>h p' m' q' a b (by omega) (by omega);intro k k1 k2;show F f p k=F f p m
    by_cases r:k=m
    ·subst r;rfl
    ·rw[eq];exact he k (by omega) (by omega)
theorem Dec.rev {p:Array Nat}{m:Nat}(hm:m<=p.size) (h:Dec f p m):Inc f (kas_rev p 0 m) m:=by intro i j hij hj;rw[uA hm,uA hm,if_pos ⟨jc _,by omega⟩,if_pos ⟨jc _,hj⟩];exact h _ _ (by omega) (by omega)
theorem KY (hn:0<n) {p:Array Nat}{m:Nat}{Q:Nat×Array Nat->ag->Prop}(e:Ent n p) (h1:1<=m) (h2:m<=n) (hd:Dec f p m)
  (h:∀m' p',Ent n p'->1<=m'->m'<=n->Inc f p' m'->Q (m',p') s):(kas_tail3 m n p).kasWp (mY n f) Q s:=by
 unfold kas_tail3;rw[KasT.kasWp_bind];refine CM (e.rev 0 m) hn (n - m) m s h1 (hd.rev (by rw[e.1];exact h2)) λm' a b c _=>?_;exact h m' _ (e.rev 0 m) (by omega) (by omega) c
theorem KZ (hn:0<n) {p:Array Nat}{m:Nat}{Q:Nat×Array Nat->ag->Prop}(e:Ent n p) (h2:m+1<=n) (hd:Dec f p (m+1))
  (h:∀m' p',Ent n p'->1<=m'->m'<=n->Inc f p' m'->Q (m',p') s):(kas_descPart m n p).kasWp (mY n f) Q s:=by
 unfold kas_descPart;rw[KasT.kasWp_bind];refine xG hn (n - (m+1)) (m+1) 0 p s e (by omega) (by omega) hd (λk k1 k2=>by (have:k=m:=by omega);subst this;rfl) λp' m' q' e' a b c d eq=>?_;show KasT.kasWp _ (if q'>0 then _ else _) _ _
 by_cases hq:q'>0
 ·rw[if_pos hq];have hsz:m'<=p'.size:=by rw[e'.1];omega
  have hF:∀k,F f (kas_rev p' (m' - (q'+1)) m') k=F f p' k:=by
   intro k;rw[uA hsz]
   split
   ·rw[eq _ (by omega) (by omega),eq k (by omega) (by omega)]
   ·rfl
  refine KY hn (e'.rev _ _) (show 1<=m' by omega) (show m'<=n by omega) ?_ h;intro i j hij hj;rw[hF,hF];exact d i j hij hj
 ·rw[if_neg hq];exact KY hn e' (show 1<=m' by omega) (show m'<=n by omega) d h
theorem YQ (hn:1<=n) {p:Array Nat}{Q:Nat×Array Nat->ag->Prop}(e:Ent n p)
  (h:∀m' p',Ent n p'->1<=m'->m'<=n->Inc f p' m'->Q (m',p') s):(kas_count n p).kasWp (mY n f) Q s:=by
 unfold kas_count;rw[KasT.kasWp_bind];refine CM e (by omega) (n - 1) 1 s (ak _) (λi j hij hj=>by (have:i=j:=by omega);subst this;exact ak _) λm a b c d=>?_;show KasT.kasWp _ (if(m==n)=true then _ else if m>1 then _ else _) _ _
 by_cases q:m=n
 ·rw[if_pos (beq_iff_eq.mpr q)];exact h m p e (by omega) (by omega) c
 ·rw[if_neg (by intro z;exact q (beq_iff_eq.mp z))];have hlt:F f p m<F f p (m - 1):=by
   rcases d with d|d
   ·omega
   ·exact d
  by_cases q1:m>1
  ·rw[if_pos q1];refine⟨e.lt (by omega) _,e.lt (by omega) _, ?_⟩
   by_cases c2:f (p.getD 0 0)<f (p.getD (m - 1) 0)
   ·rw[decide_eq_true c2];exact h m p e (by omega) (by omega) c
   ·have c2':¬ F f p 0<F f p (m - 1):=c2;rw[decide_eq_false c2];have hsz:m<=p.size:=by rw[e.1];omega
    have eq:∀k,k<m->F f p k=F f p 0:=by intro k hk;have:=c 0 k (by omega) hk;have:=c k (m - 1) (by omega) (by omega);omega
    have hF:∀k,F f (kas_rev p 0 m) k=F f p k:=by
     intro k;rw[uA hsz]
     split
     ·rw[eq _ (by omega),eq k (by omega)]
     ·rfl
    refine KZ (by omega) (e.rev _ _) (by omega) ?_ h;intro i j hij hj;rw[hF,hF]
    by_cases r:j=m
    ·subst r
     by_cases r2:i=j
     ·subst r2;exact ak _
     ·have:=eq i (by omega);have:=eq (j - 1) (by omega);omega
    ·rw[eq i (by omega),eq j (by omega)];exact ak _
  ·rw[if_neg q1];have:m=1:=by omega
   subst this;refine KZ (by omega) e (by omega) ?_ h;intro i j hij hj
   by_cases r:i=j
   ·subst r;exact ak _
   ·have h1:i=0:=by omega
    have h2:j=1:=by omega
    subst h1;subst h2;exact ic hlt
theorem CN {p:Array Nat}(e:Ent n p) (hn:0<n) {k:Nat}(hi:Inc f p k) {Q:Nat->ag->Prop}:∀(fu l r:Nat) (s:ag),r - l<=fu->l<=r->r<=k->
  (∀i,i<l->F f p i<=F f p k)->(∀i,r<=i->i<k->F f p k<F f p i)->
  (∀l',l'<=k->(∀i,i<l'->F f p i<=F f p k)->(∀i,l'<=i->i<k->F f p k<F f p i)->Q l' s)->(kas_place p k fu l r).kasWp (mY n f) Q s
 |0,l,r,s,h1,h2,h3,ha,hb,h=>by
  have:l=r:=by omega
  subst this;exact h l h3 ha hb
 |fu+1,l,r,s,h1,h2,h3,ha,hb,h=>by
  unfold kas_place
  by_cases q:l>=r
  ·rw[if_pos q];have:l=r:=by omega
   subst this;exact h l h3 ha hb
  ·rw[if_neg q];refine⟨e.lt hn _,e.lt hn _, ?_⟩
   by_cases c:f (p.getD k 0)<f (p.getD ((l+r) / 2) 0)
   ·have c':F f p k<F f p ((l+r) / 2):=c;rw[decide_eq_true c];refine CN e hn hi fu l ((l+r) / 2) s (by omega) (by omega) (by omega) ha ?_ h;intro i i1 i2;have:=hi ((l+r) / 2) i i1 i2;omega
   ·have c':¬ F f p k<F f p ((l+r) / 2):=c;rw[decide_eq_false c];refine CN e hn hi fu ((l+r) / 2+1) r s (by omega) (by omega) (by omega) ?_ hb h;intro i i1;have:=hi i ((l+r) / 2) (by omega) (by omega);omega
theorem K0 (hn:0<n) {Q:Array Nat->ag->Prop}:∀(fu k:Nat) (p:Array Nat) (s:ag),Ent n p->k+fu<=n->Inc f p k->(∀p',Ent n p'->Inc f p' (k+fu)->Q p' s)->(kas_bin fu p k).kasWp (mY n f) Q s
 |0,k,p,s,e,h1,hi,h=>h p e hi
 |fu+1,k,p,s,e,h1,hi,h=>by
  unfold kas_bin;rw[KasT.kasWp_bind];refine CN e hn hi k 0 k s (by omega) (by omega) (ak _) (λi hi=>absurd hi (by omega)) (λi a b=>absurd b (by omega)) λl hl ha hb=>?_;have hsz:k<p.size:=by rw[e.1];omega
  refine K0 hn fu (k+1) _ s (e.bubble _ _) (by omega) ?_ λp' e' i'=>h p' e' (by rw[show k+(fu+1)=k+1+fu by omega];exact i');intro i j hij hj;rw[KW hsz (by omega),KW hsz (by omega)];have hkl:k - (k - l)=l:=by omega
  rw[hkl]
  by_cases i1:i=l
  ·rw[if_pos i1]
   by_cases j1:j=l
   ·rw[if_pos j1];exact ak _
   ·rw[if_neg j1,if_pos (by omega)];exact ic (hb (j - 1) (by omega) (by omega))
  ·rw[if_neg i1]
   by_cases i2:l<i/\i<=k
   ·rw[if_pos i2,if_neg (by omega),if_pos (by omega)];exact hi (i - 1) (j - 1) (by omega) (by omega)
   ·rw[if_neg i2]
    by_cases j1:j=l
    ·rw[if_pos j1];exact ha i (by omega)
    ·rw[if_neg j1]
     by_cases j2:l<j/\j<=k
     ·rw[if_pos j2];exact hi i (j - 1) (by omega) (by omega)
     ·rw[if_neg j2];exact hi i j hij (by omega)
theorem YR (hn:1<=n) {Q:Array Nat->ag->Prop}(h:∀p,Ent n p->Inc f p n->Q p s):(kas_sort n).kasWp (mY n f) Q s:=by
 unfold kas_sort;rw[KasT.kasWp_bind];refine YQ hn ⟨by simp,by simp⟩ λm p e h1 h2 hi=>?_;show KasT.kasWp _ (if m<n then _ else _) _ _
 by_cases q:m<n
 ·rw[if_pos q];have:max m 1=m:=by omega
  rw[this];refine K0 (by omega) (n - m) m p s e (by omega) hi λp' e' i'=>h p' e' ?_;rw[show m+(n - m)=n by omega]at i';exact i'
 ·rw[if_neg q];have:m=n:=by omega
  subst this;exact h p e hi
theorem K1 {α:Type}{cmp:Nat->Nat->(Bool->ag->Prop)->ag->Prop}{I:ag->Prop}(hc:∀i j C s,I s->i<n->j<n->(∀s',I s'->C (decide (f i<f j)) s')->cmp i j C s):
  ∀(t:KasT α) (Q:α->Prop) (Q':α->ag->Prop) (s₀ s:ag),t.kasWp (mY n f) (λa _=>Q a) s₀->I s->(∀a s',Q a->I s'->Q' a s')->t.kasWp cmp Q' s
 | .ret a,Q,Q',s₀,s,h,hi,k=>k a s h hi
 | .ask i j c,Q,Q',s₀,s,h,hi,k=>hc i j _ s hi h.1 h.2.1 λs' hi'=>K1 hc (c _) Q Q' s₀ s' h.2.2 hi' k
end SoM
namespace L2
structure Sto {α:Type}(lt:α->α->Bool):Prop where
 irr:∀x,lt x x=false
 tr:∀x y z,lt x y=true->lt y z=true->lt x z=true
 tot:∀x y,lt x y=false->lt y x=false->x=y
section
variable{α:Type}{lt:α->α->Bool}
theorem Sto.asy (o:Sto lt) {x y:α}(h:lt x y=true):lt y x=false:=by
 cases q:lt y x with
 |false=>rfl
 |true=>have:=o.tr x y x h q;rw[o.irr]at this;cases this
theorem Sto.lt_le (o:Sto lt) {x y z:α}(h:lt x y=true) (h2:lt z y=false):lt x z=true:=by
 cases q:lt y z with
 |true=>exact o.tr x y z h q
 |false=>rw[<-o.tot y z q h2];exact h
abbrev gQ (lt:α->α->Bool) (l:List α):Prop:=l.Pairwise λa b=>lt b a=false
abbrev fH (lt:α->α->Bool) (l:List α):Prop:=l.Pairwise λa b=>lt a b=true
theorem K2 (o:Sto lt):∀{l l':List α},gQ lt l->gQ lt l'->l.Perm l'->l=l'
 | [],l',_,_,p=>(List.nil_perm.mp p).symm
 |x::r,[],_,_,p=>by simp at p
 |x::r,y::r',h,h',p=>by
  have h1:=ed.mp h;have h2:=ed.mp h';have e:x=y:=by
   refine o.tot x y ?_ ?_
   ·rcases ay.mp (p.mem_iff.mp (bc ..))with e|e
    ·rw[e];exact o.irr y
    ·exact h2.1 x e
   ·rcases ay.mp (p.mem_iff.mpr (bc ..))with e|e
    ·rw[e];exact o.irr x
    ·exact h1.1 y e
  subst e;rw[K2 o h1.2 h2.2 (List.Perm.cons_inv p)]
def kQ (lt:α->α->Bool) (x:α):List α->List α
 | []=>[x]
 |y::r=>if lt y x then y::kQ lt x r else if lt x y then x::y::r else y::r
def dU (lt:α->α->Bool):List α->List α
 | []=>[]
 |x::r=>kQ lt x (dU lt r)
theorem CO (o:Sto lt) (x z:α):∀l,z∈kQ lt x l↔z=x∨z∈l
 | []=>by simp[kQ]
 |y::r=>by
  unfold kQ
  split
  ·rw[ay,CO o x z r,ay];constructor
   ·rintro (h|h|h)
    ·exact .inr (.inl h)
    ·exact .inl h
    ·exact .inr (.inr h)
   ·rintro (h|h|h)
    ·exact .inr (.inl h)
    ·exact .inl h
    ·exact .inr (.inr h)
  ·rename_i q1
   split
   ·simp
   ·rename_i q2;have e:=o.tot x y (by simpa using q2) (by simpa using q1);subst e;simp
theorem mZ (o:Sto lt) (z:α):∀l,z∈dU lt l↔z∈l
 | []=>.rfl
 |x::r=>by rw[dU,CO o,mZ o z r,ay]
theorem K4 (o:Sto lt) (x:α):∀l,fH lt l->fH lt (kQ lt x l)
 | [],_=>by simp[kQ,fH]
 |y::r,h=>by
  have h1:=ed.mp h;unfold kQ
  split
  ·rename_i q;refine ed.mpr ⟨λz hz=>?_,K4 o x r h1.2⟩
   rcases(CO o x z r).mp hz with rfl|hz
   ·exact q
   ·exact h1.1 z hz
  ·split
   ·rename_i q;refine ed.mpr ⟨λz hz=>?_,h⟩
    rcases ay.mp hz with rfl|hz
    ·exact q
    ·exact o.tr _ _ _ q (h1.1 z hz)
   ·exact h
theorem uB (o:Sto lt):∀l,fH lt (dU lt l)
 | []=>um
 |x::r=>K4 o x _ (uB o r)
theorem K5 (o:Sto lt) {l:List α}(h:fH lt l):gQ lt l:=h.imp λh=>o.asy h
theorem uC (o:Sto lt) {l:List α}(h:fH lt l):l.Nodup:=h.imp λ{a b} h e=>by rw[e,o.irr]at h;cases h
theorem CP (o:Sto lt) {l l':List α}(h:fH lt l) (h':fH lt l') (m:∀z,z∈l↔z∈l'):l=l':=by refine K2 o (K5 o h) (K5 o h') ?_;exact(qw (uC o h) (uC o h')).mpr m
theorem YS (o:Sto lt) {l l':List α}(h:fH lt l') (m:∀z,z∈l'↔z∈l):l'=dU lt l:=CP o h (uB o l) λz=>(m z).trans (mZ o z l).symm
def rk (lt:α->α->Bool) (ks:List α) (x:α):Nat:=ks.countP λy=>lt y x
theorem CQ {p q:α->Bool}:∀(l:List α),(∀y,p y=true->q y=true)->l.countP p<=l.countP q
 | [],_=>ak _
 |y::r,h=>by
  have:=CQ r h;rw[ua,ua]
  cases hp:p y with
  |true=>rw[h y hp];simp;omega
  |false=>cases q y <;> simp <;> omega
theorem K6 {p q:α->Bool}:∀(l:List α),(∀y,p y=true->q y=true)->∀x,x∈l->q x=true->p x=false->l.countP p<l.countP q
 | [],_,x,hx,_,_=>by simp at hx
 |y::r,h,x,hx,h1,h2=>by
  rw[ua,ua]
  rcases ay.mp hx with rfl|hx
  ·have:=CQ r h;rw[h1,h2];simp;omega
  ·have:=K6 r h x hx h1 h2
   cases hp:p y with
   |true=>rw[h y hp];simp;omega
   |false=>cases q y <;> simp <;> omega
theorem K7 (o:Sto lt) {ks:List α}{x z:α}(hx:x∈ks):decide (rk lt ks x<rk lt ks z)=lt x z:=by
 cases q:lt x z with
 |true=>exact decide_eq_true (K6 ks (λy h=>o.tr y x z h q) x hx q (o.irr x))
 |false=>exact decide_eq_false (Nat.not_lt.mpr (CQ ks λy h=>o.lt_le h q))
theorem YT (o:Sto lt) {ks:List α}{x z:α}(hz:z∈ks) (h:rk lt ks x<=rk lt ks z):lt z x=false:=by rw[<-K7 o hz];exact decide_eq_false (Nat.not_lt.mpr h)
end
def cO:List Int->List Int->Bool
 | [],[]=>false
 | [],_::_=>true
 |_::_,[]=>false
 |a::x,b::y=>if a==b then cO x y else decide (a<b)
theorem stoL:Sto cO:=by
 refine⟨λx=>?_,λx=>?_,λx=>?_⟩
 ·induction x with
  |nil=>rfl
  |cons a x ih=>simp[cO,ih]
 ·induction x with
  |nil=>
   intro y z h1 h2
   cases z with
   |nil=>cases y with
    |nil=>exact h1
    |cons b y=>cases h2
   |cons c z=>rfl
  |cons a x ih=>
   intro y z h1 h2
   cases y with
   |nil=>cases h1
   |cons b y=>
    cases z with
    |nil=>cases h2
    |cons c z=>
     simp only[cO,beq_iff_eq]at h1 h2 ⊢
     by_cases e1:a=b <;> by_cases e2:b=c
     ·rw[if_pos e1]at h1;rw[if_pos e2]at h2;rw[if_pos (e1.trans e2)];exact ih y z h1 h2
     ·rw[if_neg e2]at h2;rw[if_neg (by rw[e1];exact e2)];rw[e1];exact h2
     ·rw[if_neg e1]at h1;rw[if_neg (by rw[<-e2];exact e1)];rw[<-e2];exact h1
     ·rw[if_neg e1]at h1;rw[if_neg e2]at h2;simp only[decide_eq_true_eq]at h1 h2;rw[if_neg (by omega)];simp;omega
 ·induction x with
  |nil=>
   intro y h1 h2
   cases y with
   |nil=>rfl
   |cons b y=>cases h1
  |cons a x ih=>
   intro y h1 h2
   cases y with
   |nil=>cases h2
   |cons b y=>
    simp only[cO,beq_iff_eq]at h1 h2
    by_cases e:a=b
    ·subst e;rw[if_pos rfl]at h1 h2;rw[ih y h1 h2]
    ·rw[if_neg e]at h1;rw[if_neg (cy e)]at h2;simp at h1 h2;omega
def eF (p q:Int×Int):Bool:=if p.1==q.1 then decide (p.2<q.2)else decide (p.1<q.1)
def jL (p:Int×Int):List Int:=[p.1,p.2]
theorem uD (p q:Int×Int):cO (jL p) (jL q)=eF p q:=by
 unfold eF jL cO
 split
 ·unfold cO
  split
  ·rename_i h;simp at h;simp[cO,h]
  ·rfl
 ·rfl
theorem YU {p q:Int×Int}(h:jL p=jL q):p=q:=by obtain⟨a,b⟩:=p;obtain⟨c,d⟩:=q;simp[jL]at h;rw[h.1,h.2]
theorem stoP:Sto eF:=⟨λx=>by rw[<-uD];exact stoL.irr _,λx y z h1 h2=>by rw[<-uD]at *;exact stoL.tr _ _ _ h1 h2,λx y h1 h2=>by rw[<-uD]at *;exact YU (stoL.tot _ _ h1 h2)⟩
section
variable{α β:Type}{lt:α->α->Bool}{lt':β->β->Bool}{f:α->β}
theorem K8 (h:∀x y,lt' (f x) (f y)=lt x y) (x:α):∀l,kQ lt' (f x) (l.map f)=(kQ lt x l).map f
 | []=>rfl
 |y::r=>by
  simp only[dk,kQ,h]
  split
  ·rw[K8 h x r];rfl
  ·split <;> rfl
theorem K9 (h:∀x y,lt' (f x) (f y)=lt x y):∀l,dU lt' (l.map f)=(dU lt l).map f
 | []=>rfl
 |x::r=>by rw[dk,dU,K9 h r,K8 h];rfl
end
end L2
namespace SM
open PySem PySem.SetTable
def gQ (l:List Nat):Prop:=l.Pairwise (·<·)
theorem CS {l:List Nat}(hr:gQ l) {i k x:Nat}(a:l[i]?=some x) (b:l[k]?=some x):i=k:=by
 obtain⟨p1,p2⟩:=ba.mp a;obtain⟨q1,q2⟩:=ba.mp b
 rcases Nat.lt_trichotomy i k with h|h|h
 ·have:=ie.mp hr i k p1 q1 h;omega
 ·exact h
 ·have:=ie.mp hr k i q1 p1 h;omega
theorem YV (xs:Array Nat) (j:Nat) (hr:gQ xs.toList):∀(fuel lo hi:Nat),lo<=hi->hi<=xs.size->hi - lo<=fuel->
  (∀i (h:i<xs.size),i<lo->xs[i]<j)->(∀i (h:i<xs.size),hi<=i->j<=xs[i])->
  (∀i (h:i<xs.size),i<below.go xs j fuel lo hi->xs[i]<j)/\(∀i (h:i<xs.size),below.go xs j fuel lo hi<=i->j<=xs[i])/\below.go xs j fuel lo hi<=xs.size:=by
 intro fuel
 induction fuel with
 |zero=>
  intro lo hi h1 h2 h3 ha hb;have:lo=hi:=by omega
  subst this;exact⟨ha,hb,h2⟩
 |succ n ih=>
  intro lo hi h1 h2 h3 ha hb;unfold below.go
  by_cases hlt:lo<hi
  ·rw[if_pos hlt];dsimp only;have hm:(lo+hi) / 2<xs.size:=by omega
   have e:xs.getD ((lo+hi) / 2) j=xs[(lo+hi) / 2]:=by simp[kr,hm]
   have mono:∀a b (ha:a<xs.size) (hb:b<xs.size),a<b->xs[a]<xs[b]:=by intro a b ha hb hab;have:=ie.mp hr a b (by simpa using ha) (by simpa using hb) hab;simpa using this
   by_cases hc:xs.getD ((lo+hi) / 2) j<j
   ·rw[if_pos hc];refine ih _ _ (by omega) h2 (by omega) ?_ hb;intro i h hi';rw[e]at hc
    by_cases q:i=(lo+hi) / 2
    ·subst q;exact hc
    ·have:=mono i _ h hm (by omega);omega
   ·rw[if_neg hc];refine ih _ _ (by omega) (by omega) (by omega) ha ?_;intro i h hi';rw[e]at hc
    by_cases q:i=(lo+hi) / 2
    ·subst q;omega
    ·have:=mono _ i hm h (by omega);omega
  ·rw[if_neg hlt];have:lo=hi:=by omega
   subst this;exact⟨ha,hb,h2⟩
theorem uE {xs:Array Nat}{j:Nat}(hr:gQ xs.toList):
  (∀i (h:i<xs.size),i<below xs j->xs[i]<j)/\(∀i (h:i<xs.size),below xs j<=i->j<=xs[i])/\below xs j<=xs.size:=
 YV xs j hr xs.size 0 xs.size (jc _) (ak _) (by omega) (λi h hi=>absurd hi (by omega)) (λi h hi=>absurd h (by omega))
theorem LA {xs:Array Nat}{j:Nat}(hr:gQ xs.toList) (hm:j∈xs.toList):xs[below xs j]?=some j:=by
 obtain⟨h1,h2,h3⟩:=uE (j:=j) hr;obtain⟨i,hi,e⟩:=kh hm;have hi':i<xs.size:=by simpa using hi
 have e':xs[i]=j:=by simpa using e
 have hle:below xs j<=i:=by
  rcases ji i (below xs j)with q|q
  ·have:=h1 i hi' q;omega
  ·exact q
 have hb:below xs j<xs.size:=by omega
 have:=h2 (below xs j) hb (ak _);have mono:∀a b (ha:a<xs.size) (hb:b<xs.size),a<b->xs[a]<xs[b]:=by intro a b ha hb hab;have:=ie.mp hr a b (by simpa using ha) (by simpa using hb) hab;simpa using this
 have hE:below xs j=i:=by
  rcases ji (below xs j) i with q|q
  ·have:=mono _ _ hb hi' q;omega
  ·omega
 rw[gp hb]
 congr 1
 have:∀k (hk:k<xs.size),k=i->xs[k]=xs[i]:=by intro k hk e;subst e;rfl
 rw[this _ hb hE,e']
theorem YW {xs:Array Nat}{j:Nat}(hm:j∉xs.toList):(xs[below xs j]?==some j)=false:=by rw[beq_eq_false_iff_ne];intro e;obtain⟨h,e⟩:=du.mp e;exact hm (by rw[<-e];simp)
theorem uF {α:Type}(xs:Array α) (p:Nat) (x:α) (hp:p<=xs.size):(insertAt xs p x).toList=xs.toList.take p++x::xs.toList.drop p:=by unfold insertAt;rw[Array.toList_append,Array.toList_push];simp[Array.toList_extract,uh]
theorem YX {xs:Array Nat}{j:Nat}(hr:gQ xs.toList) (hm:j∉xs.toList):gQ (insertAt xs (below xs j) j).toList:=by
 obtain⟨h1,h2,h3⟩:=uE (j:=j) hr;rw[uF _ _ _ h3];unfold gQ at hr ⊢;have hlt:∀a∈xs.toList.take (below xs j),a<j:=by intro a ha;obtain⟨i,hi,e⟩:=kh ha;rw[js]at hi;rw[List.getElem_take]at e;have:=h1 i (by simp at hi;omega) (by omega);simp at e;omega
 have hgt:∀a∈xs.toList.drop (below xs j),j<a:=by
  intro a ha;obtain⟨i,hi,e⟩:=kh ha;rw[pq]at hi;rw[List.getElem_drop]at e;have q:=h2 (below xs j+i) (by simp at hi;omega) (by omega);have ne:a≠j:=by rintro rfl;exact hm (qf ha)
  simp at e;omega
 rw[List.pairwise_append];refine⟨hr.sublist (List.take_sublist _ _), ?_, ?_⟩
 ·rw[ed];exact⟨hgt,hr.sublist (List.drop_sublist _ _)⟩
 ·intro a ha b hb
  rcases ay.mp hb with rfl|hb
  ·exact hlt a ha
  ·have:=hlt a ha;have:=hgt b hb;omega
def nA (mask:Nat) (p:Probe):Probe:=
 if p.more>0 then{ p with j:=p.j+1,more:=p.more - 1 } else
 { p with j:=(leap mask p.i p.perturb).1,more:=runEnd mask (leap mask p.i p.perturb).1 - (leap mask p.i p.perturb).1,i:=(leap mask p.i p.perturb).1,perturb:=(leap mask p.i p.perturb).2 }
theorem LB (t:iu) (p:Probe):t.advance p=nA t.mask p:=by
 unfold SetTable.advance nA
 split <;> rfl
def YY (mask:Nat) (h:Int):Probe:={ j:=bits h % (mask+1),more:=runEnd mask (bits h % (mask+1)) - bits h % (mask+1),i:=bits h % (mask+1),perturb:=bits h,dummy:=none }
def dE (mask:Nat) (h:Int):Nat->Probe
 |0=>YY mask h
 |n+1=>nA mask (dE mask h n)
def pr (mask:Nat) (h:Int) (n:Nat):Nat:=(dE mask h n).j
theorem YZ (mask:Nat) (p:Probe):(nA mask p).dummy=p.dummy:=by unfold nA;split <;> rfl
theorem LC (mask:Nat) (h:Int):∀n,(dE mask h n).dummy=none
 |0=>rfl
 |n+1=>by rw[dE,YZ,LC mask h n]
def pU (mask i pt:Nat):Probe:={ j:=i,more:=runEnd mask i - i,i:=i,perturb:=pt,dummy:=none }
def bs (mask:Nat) (h:Int):Nat->Nat×Nat
 |0=>(bits h % (mask+1),bits h)
 |L+1=>leap mask (bs mask h L).1 (bs mask h L).2
theorem Y0 (mask i:Nat):runEnd mask i - i<=9:=by unfold runEnd;split <;> omega
theorem xH (mask:Nat) (h:Int) (i pt:Nat) (n:Nat) (e:dE mask h n=pU mask i pt):∀k,k<=runEnd mask i - i->dE mask h (n+k)={ pU mask i pt with j:=i+k,more:=runEnd mask i - i - k }
 |0,_=>by rw[Nat.add_zero,e];rfl
 |k+1,hk=>by have ih:=xH mask h i pt n e k (by omega);rw[show n+(k+1)=(n+k)+1 from rfl,dE,ih];unfold nA;rw[if_pos (show runEnd mask i - i - k>0 by omega)];simp[pU];omega
theorem LD (mask:Nat) (h:Int):∀L,∃n,n<=10*L/\dE mask h n=pU mask (bs mask h L).1 (bs mask h L).2
 |0=>⟨0,by omega,rfl⟩
 |L+1=>by obtain⟨n,hn,e⟩:=LD mask h L;have r:=xH mask h _ _ n e (runEnd mask (bs mask h L).1 - (bs mask h L).1) (ak _);have:=Y0 mask (bs mask h L).1;refine⟨n+(runEnd mask (bs mask h L).1 - (bs mask h L).1)+1,by omega, ?_⟩;rw[dE,r];unfold nA;rw[if_neg (by simp)];rfl
theorem LF (mask:Nat) (h:Int):∀L,(bs mask h L).2=bits h / 32 ^ L
 |0=>by simp[bs]
 |L+1=>by rw[bs];show(bs mask h L).2 / 32=_;rw[LF mask h L,Nat.div_div_eq_div_mul,Nat.pow_succ]
theorem Y1 (h:Int):bits h<2 ^ 64:=by unfold bits;omega
theorem Y2 (mask:Nat) (h:Int) {L:Nat}(hL:13<=L):(bs mask h L).2=0:=by
 rw[LF];have h1:=Y1 h;have h2:(32:Nat) ^ 13<=32 ^ L:=Nat.pow_le_pow_right (by decide) hL;have h3:(2:Nat) ^ 64<32 ^ 13:=by decide
 exact Nat.div_eq_of_lt (by omega)
def fx (mask x:Nat):Nat:=(x*5+1) % (mask+1)
def oQ (mask:Nat):Nat->Nat->Nat
 |0,x=>x
 |n+1,x=>oQ mask n (fx mask x)
theorem LG (mask:Nat):∀n x,oQ mask (n+1) x=fx mask (oQ mask n x)
 |0,x=>rfl
 |n+1,x=>by rw[oQ,LG mask n,oQ]
theorem LH (mask:Nat) (h:Int):∀n,(bs mask h (13+n)).1=oQ mask n (bs mask h 13).1
 |0=>rfl
 |n+1=>by rw[LG,<-LH mask h n,show 13+(n+1)=(13+n)+1 from rfl,bs];show((bs mask h (13+n)).1*5+1+(bs mask h (13+n)).2 / 32) % (mask+1)=_;rw[Y2 mask h (by omega)];rfl
def rJ (mask:Nat):Nat->Nat->Nat
 |0,_=>0
 |n+1,x=>2 ^ x ||| rJ mask n (fx mask x)
theorem LI (mask j:Nat):∀n x,(rJ mask n x).testBit j=true->∃k,k<n/\oQ mask k x=j
 |0,x,h=>by simp[rJ]at h
 |n+1,x,h=>by
  rw[rJ,Nat.testBit_or,Bool.or_eq_true]at h
  rcases h with h|h
  ·rw[Nat.testBit_two_pow,decide_eq_true_eq]at h;exact⟨0,by omega,h⟩
  ·obtain⟨k,hk,e⟩:=LI mask j n _ h;exact⟨k+1,by omega,e⟩
def lN (mask:Nat):Prop:=mask=7∨mask=31∨mask=127
def LJ (mask:Nat):Bool:=(bf (mask+1)).all λx=>rJ mask (mask+1) x==2 ^ (mask+1) - 1
theorem Y3 {mask:Nat}(g:lN mask):LJ mask=true:=by rcases g with rfl|rfl|rfl <;> decide +kernel
theorem Y4 {mask x j:Nat}(g:lN mask) (hx:x<=mask) (hj:j<=mask):∃k,k<=mask/\oQ mask k x=j:=by
 have h1:=Y3 g;unfold LJ at h1;rw[fj]at h1;have h2:=h1 x (br.mpr (by omega));rw[beq_iff_eq]at h2;have h3:(rJ mask (mask+1) x).testBit j=true:=by rw[h2,Nat.testBit_two_pow_sub_one,decide_eq_true_eq];omega
 obtain⟨k,hk,e⟩:=LI mask j _ _ h3;exact⟨k,by omega,e⟩
theorem xI (a m:Nat):a % (m+1)<=m:=by have:=Nat.mod_lt a (show 0<m+1 by omega);omega
theorem Y5 (mask:Nat) (h:Int):∀L,(bs mask h L).1<=mask
 |0=>xI _ _
 |L+1=>xI _ _
theorem LK {mask j:Nat}(g:lN mask) (h:Int) (hj:j<=mask):∃L,L<=13+mask/\(bs mask h L).1=j:=by obtain⟨k,hk,e⟩:=Y4 g (Y5 mask h 13) hj;exact⟨13+k,by omega,by rw[LH];exact e⟩
theorem Y6 {mask j:Nat}(g:lN mask) (h:Int) (hj:j<=mask):∃n,n<10*turns mask/\pr mask h n=j:=by obtain⟨L,hL,e⟩:=LK g h hj;obtain⟨n,hn,e2⟩:=LD mask h L;refine⟨n,by unfold turns;omega, ?_⟩;unfold pr;rw[e2];exact e
theorem LL {mask i:Nat}(hi:i<=mask):runEnd mask i<=mask:=by unfold runEnd;split <;> omega
theorem LM {mask:Nat}(h:Int):∀n,(dE mask h n).i<=mask/\(dE mask h n).j+(dE mask h n).more<=mask
 |0=>by
  have e:bits h % (mask+1)<=mask:=xI _ _;have:=LL e;have:bits h % (mask+1)<=runEnd mask (bits h % (mask+1)):=by unfold runEnd;split <;> omega
  exact⟨e,by show bits h % (mask+1)+(runEnd mask (bits h % (mask+1)) - bits h % (mask+1))<=mask;omega⟩
 |n+1=>by
  obtain⟨h1,h2⟩:=LM (mask:=mask) h n;rw[dE];unfold nA
  split
  ·exact⟨h1,by dsimp only;omega⟩
  ·dsimp only;have e:(leap mask (dE mask h n).i (dE mask h n).perturb).1<=mask:=xI _ _;have:=LL e;have:(leap mask (dE mask h n).i (dE mask h n).perturb).1<=runEnd mask (leap mask (dE mask h n).i (dE mask h n).perturb).1:=by unfold runEnd;split <;> omega
   exact⟨e,by omega⟩
theorem CT {mask:Nat}(h:Int) (n:Nat):pr mask h n<=mask:=by have:=(LM (mask:=mask) h n).2;unfold pr;omega
def Way (mask:Nat) (occ:Nat->Prop) (h:Int) (j:Nat):Prop:=∃n,pr mask h n=j/\∀m,m<n->occ (pr mask h m)
theorem Way.mono {mask:Nat}{occ occ':Nat->Prop}{h:Int}{j:Nat}(w:Way mask occ h j) (k:∀x,occ x->occ' x):Way mask occ' h j:=let ⟨n,e,a⟩:=w;⟨n,e,λm hm=>k _ (a m hm)⟩
structure TOk (t:iu) (hs:List Int):Prop where
 size:t.place.size=hs.length
 rise:gQ t.place.toList
 nod:t.dummies=#[]
 bnd:∀j∈t.place.toList,j<=t.mask
 room:hs.length<=t.mask
 msk:lN t.mask
 way:∀(i:Nat) (h:Int) (j:Nat),hs[i]?=some h->t.place.toList[i]?=some j->Way t.mask (·∈t.place.toList) h j
 plain:t.plain=true
theorem TOk.fits {t:iu}{hs:List Int}(T:TOk t hs):t.fits hs.length=true:=by unfold SetTable.fits SetTable.fill;rw[T.nod,T.size];simpa using T.room
theorem TOk.gave {t:iu}{hs:List Int}(T:TOk t hs):t.gaveWay=false:=by
 unfold SetTable.gaveWay
 rcases T.msk with e|e|e <;> rw[e] <;> rfl
theorem LN (j:Nat):SetTable.has #[] j=false:=by unfold SetTable.has;simp
theorem TOk.slot_live {t:iu}{hs:List Int}(T:TOk t hs) {j:Nat}(h:j∈t.place.toList):∃i,t.slot j=.live i/\t.place.toList[i]?=some j:=by refine⟨below t.place j, ?_,by simpa using LA T.rise h⟩;unfold SetTable.slot;dsimp only;rw[LA T.rise h];simp
theorem TOk.slot_empty {t:iu}{hs:List Int}(T:TOk t hs) {j:Nat}(h:j∉t.place.toList):t.slot j=.empty:=by unfold SetTable.slot;dsimp only;rw[YW h,T.nod,LN];rfl
theorem TOk.empty_there {t:iu}{hs:List Int}(T:TOk t hs):∃j,j<=t.mask/\j∉t.place.toList:=by
 rcases sj (∃j,j<=t.mask/\j∉t.place.toList)with h|h
 ·exact h
 ·exfalso
  have h1:∀j,j∈bf (t.mask+1)->j∈t.place.toList:=by
   intro j hj
   rcases sj (j∈t.place.toList)with q|q
   ·exact q
   ·exact absurd ⟨j,by have:=br.mp hj;omega,q⟩ h
  have h2:=(ub (n:=t.mask+1)).length_le_of_subset h1;rw[my]at h2;have h3:t.place.toList.length=hs.length:=by rw[<-T.size];simp
  have:=T.room;omega
theorem Y7 {t:iu}{hs:List Int}(T:TOk t hs) (hashAt:Nat->Int) (h:Int):∀(fuel n N:Nat),n<=N->N - n<fuel->pr t.mask h N∉t.place.toList->
  ∃m,n<=m/\m<=N/\(∀l,n<=l->l<m->pr t.mask h l∈t.place.toList/\∀i,t.place.toList[i]?=some (pr t.mask h l)->hashAt i≠h) /\
   ((pr t.mask h m∉t.place.toList/\probe.go t hashAt h fuel (dE t.mask h n)=some (.empty (pr t.mask h m) none)) ∨
    (∃i,t.place.toList[i]?=some (pr t.mask h m)/\hashAt i=h/\probe.go t hashAt h fuel (dE t.mask h n)=some (.candidate (pr t.mask h m) i (dE t.mask h (m+1))))):=by
 intro fuel
 induction fuel with
 |zero=>intro n N _ h2 _;omega
 |succ f ih=>
  intro n N h1 h2 h3;have hj:(dE t.mask h n).j=pr t.mask h n:=rfl
  rcases sj (pr t.mask h n∈t.place.toList)with hm|hm
  ·obtain⟨i,e1,e2⟩:=T.slot_live hm
   by_cases hh:hashAt i=h
   ·refine⟨n,ak _,h1,λl a b=>absurd a (by omega),.inr ⟨i,e2,hh, ?_⟩⟩;rw[probe.go,hj,e1];dsimp only;rw[if_pos (beq_iff_eq.mpr hh),LB];rfl
   ·have hne:n≠N:=by rintro rfl;exact h3 hm
    obtain⟨m,a1,a2,a3,a4⟩:=ih (n+1) N (by omega) (by omega) h3;have e3:probe.go t hashAt h (f+1) (dE t.mask h n)=probe.go t hashAt h f (dE t.mask h (n+1)):=by rw[probe.go,hj,e1];dsimp only;rw[if_neg (by intro q;exact hh (beq_iff_eq.mp q)),LB];rfl
    refine⟨m,by omega,a2,λl b1 b2=>?_,by rw[e3];exact a4⟩
    rcases ji n l with q|q
    ·exact a3 l (by omega) b2
    ·have:l=n:=by omega
     subst this;refine⟨hm,λi' e'=>?_⟩;have:i'=i:=CS T.rise e' e2;subst this;exact hh
  ·refine⟨n,ak _,h1,λl a b=>absurd a (by omega),.inl ⟨hm, ?_⟩⟩;rw[probe.go,hj,T.slot_empty hm];dsimp only;rw[LC]
theorem TOk.stops {t:iu}{hs:List Int}(T:TOk t hs) (h:Int):∃N,N<10*turns t.mask/\pr t.mask h N∉t.place.toList:=by obtain⟨j,hj,hn⟩:=T.empty_there;obtain⟨N,hN,e⟩:=Y6 T.msk h hj;exact⟨N,hN,by rw[e];exact hn⟩
theorem TOk.before {t:iu}{hs:List Int}(T:TOk t hs) {h:Int}{i j m:Nat}(e1:hs[i]?=some h) (e2:t.place.toList[i]?=some j) (hm:pr t.mask h m∉t.place.toList):∃n,n<m/\pr t.mask h n=j:=by
 obtain⟨n,e,a⟩:=T.way i h j e1 e2;refine⟨n, ?_,e⟩
 rcases ji n m with q|q
 ·exact q
 ·exfalso
  rcases ji m n with r|r
  ·exact hm (a m r)
  ·have:m=n:=by omega
   subst this;exact hm (by rw[e];exact bx e2)
theorem LO {xs:Array Nat}{p j x:Nat}(hp:p<=xs.size):x∈(insertAt xs p j).toList↔x=j∨x∈xs.toList:=by
 rw[uF _ _ _ hp,cg,ay];have e:x∈xs.toList↔x∈xs.toList.take p∨x∈xs.toList.drop p:=by rw[<-cg,Ck]
 rw[e];constructor
 ·rintro (a|a|a)
  ·exact .inr (.inl a)
  ·exact .inl a
  ·exact .inr (.inr a)
 ·rintro (a|a|a)
  ·exact .inr (.inl a)
  ·exact .inl a
  ·exact .inr (.inr a)
theorem Y8 {t:iu}(hn:t.dummies=#[]) (j:Nat):t.put j=({ t with place:=insertAt t.place (below t.place j) j },below t.place j):=by unfold SetTable.put;dsimp only;rw[hn,LN];cases t;subst hn;rfl
theorem LP {α:Type}(l:List α) (x:α) (p i:Nat) (hp:p<=l.length):(l.take p++x::l.drop p)[i]?=if i<p then l[i]? else if i=p then some x else l[i - 1]?:=by
 have hl:(l.take p).length=p:=by rw[js];omega
 by_cases h1:i<p
 ·rw[if_pos h1,fh (by omega),Bh h1]
 ·rw[if_neg h1,gv (by omega),hl]
  by_cases h2:i=p
  ·subst h2;rw[if_pos rfl,Nat.sub_self];rfl
  ·rw[if_neg h2];obtain⟨k,rfl⟩:∃k,i=p+(k+1):=⟨i - p - 1,by omega⟩
   rw[show p+(k+1) - p=k+1 by omega,tw,List.getElem?_drop,show p+(k+1) - 1=p+k by omega]
theorem TOk.put {t:iu}{hs:List Int}(T:TOk t hs) {h:Int}{n:Nat}(hn:pr t.mask h n∉t.place.toList) (hw:∀m,m<n->pr t.mask h m∈t.place.toList) (hr:hs.length+1<=t.mask):
  TOk { t with place:=insertAt t.place (below t.place (pr t.mask h n)) (pr t.mask h n) } (hs.take (below t.place (pr t.mask h n))++h::hs.drop (below t.place (pr t.mask h n))):=by
 have hb:=(uE (j:=pr t.mask h n) T.rise).2.2;have hs':t.place.toList.length=hs.length:=by rw[<-T.size];simp
 have hlen:(hs.take (below t.place (pr t.mask h n))++h::hs.drop (below t.place (pr t.mask h n))).length=hs.length+1:=by rw[bu,dj,js,pq];have:=T.size;omega
 refine⟨?_,YX T.rise hn,T.nod, ?_, ?_,T.msk, ?_,T.plain⟩
 ·show(insertAt t.place (below t.place (pr t.mask h n)) (pr t.mask h n)).size=_;rw[hlen];have:(insertAt t.place (below t.place (pr t.mask h n)) (pr t.mask h n)).toList.length=hs.length+1:=by rw[uF _ _ _ hb,bu,dj,js,pq,hs'];have:=T.size;omega
  simpa using this
 ·intro j hj
  rcases(LO hb).mp hj with rfl|hj
  ·exact CT h n
  ·exact T.bnd j hj
 ·rw[hlen];exact hr
 ·intro i h' j e1 e2;have e2':(t.place.toList.take (below t.place (pr t.mask h n))++pr t.mask h n::t.place.toList.drop (below t.place (pr t.mask h n)))[i]?=some j:=by rw[<-uF _ _ _ hb];exact e2
  have hb2:below t.place (pr t.mask h n)<=hs.length:=by rw[<-T.size];exact hb
  rw[LP _ _ _ _ hb2]at e1;rw[LP _ _ _ _ (by rw[hs'];exact hb2)]at e2';have mono:∀x,x∈t.place.toList->x∈(insertAt t.place (below t.place (pr t.mask h n)) (pr t.mask h n)).toList:=λx hx=>(LO hb).mpr (.inr hx)
  by_cases q1:i<below t.place (pr t.mask h n)
  ·rw[if_pos q1]at e1 e2';exact(T.way _ _ _ e1 e2').mono mono
  ·rw[if_neg q1]at e1 e2'
   by_cases q2:i=below t.place (pr t.mask h n)
   ·rw[if_pos q2]at e1 e2'
    cases e1;cases e2'
    exact⟨n,rfl,λm hm=>mono _ (hw m hm)⟩
   ·rw[if_neg q2]at e1 e2';exact(T.way _ _ _ e1 e2').mono mono
def gY (owner:Array (Option Nat)) (j:Nat):Prop:=(owner.getD j (some 0)).isSome=true
theorem LQ {P:Nat->Bool}{n:Nat}(h:(bf n).find? P=none):∀k,k<n->P k=false:=by intro k hk;have:=List.find?_eq_none.mp h k (br.mpr hk);simpa using this
theorem Y9 {P:Nat->Bool}:∀{n k:Nat},(bf n).find? P=some k->k<n/\P k=true/\∀l,l<k->P l=false:=by
 intro n
 induction n with
 |zero=>intro k h;simp at h
 |succ n ih=>
  intro k h;rw[qj,List.find?_append]at h
  cases q:(bf n).find? P with
  |some k'=>rw[q]at h;simp at h;subst h;obtain⟨a,b,c⟩:=ih q;exact⟨by omega,b,c⟩
  |none=>
   rw[q]at h
   by_cases hp:P n=true
   ·simp[hp]at h;subst h;exact⟨by omega,hp,λl hl=>LQ q l hl⟩
   ·simp[hp]at h
theorem ZA {mask:Nat}{h:Int}{L n:Nat}(e:dE mask h n=pU mask (bs mask h L).1 (bs mask h L).2):dE mask h (n+(runEnd mask (bs mask h L).1 - (bs mask h L).1)+1)=pU mask (bs mask h (L+1)).1 (bs mask h (L+1)).2:=by have r:=xH mask h _ _ n e (runEnd mask (bs mask h L).1 - (bs mask h L).1) (ak _);rw[dE,r];unfold nA;rw[if_neg (by simp)];rfl
theorem ZC {mask:Nat}{h:Int}{owner:Array (Option Nat)}:∀(fuel L n:Nat),dE mask h n=pU mask (bs mask h L).1 (bs mask h L).2->(∀k,k<n->gY owner (pr mask h k))->
  (∃L',L<=L'/\L'<L+fuel/\¬ gY owner (bs mask h L').1)->
  ∃n,layClean.free mask owner fuel (bs mask h L).1 (bs mask h L).2=some (pr mask h n)/\¬ gY owner (pr mask h n)/\∀m,m<n->gY owner (pr mask h m):=by
 intro fuel
 induction fuel with
 |zero=>rintro L n _ _ ⟨L',a,b,_⟩;omega
 |succ f ih=>
  rintro L n e hb ⟨L',a1,a2,a3⟩
  have r:=xH mask h _ _ n e;have hle:(bs mask h L).1<=runEnd mask (bs mask h L).1:=by unfold runEnd;split <;> omega
  rw[layClean.free]
  cases q:(bf (runEnd mask (bs mask h L).1+1 - (bs mask h L).1)).find? λk=>(owner.getD ((bs mask h L).1+k) (some 0)).isNone with
  |some k=>
   obtain⟨b1,b2,b3⟩:=Y9 q;dsimp only;have ek:pr mask h (n+k)=(bs mask h L).1+k:=by unfold pr;rw[r k (by omega)]
   refine⟨n+k,by rw[ek], ?_,λm hm=>?_⟩
   ·rw[ek];unfold gY;simp at b2;simp[b2]
   ·rcases ji m n with z|z
    ·exact hb m z
    ·obtain⟨l,rfl⟩:∃l,m=n+l:=⟨m - n,by omega⟩
     have el:pr mask h (n+l)=(bs mask h L).1+l:=by unfold pr;rw[r l (by omega)]
     rw[el];have:=b3 l (by omega);unfold gY
     cases w:owner.getD ((bs mask h L).1+l) (some 0)with
     |none=>rw[w]at this;simp at this
     |some _=>rfl
  |none=>
   dsimp only;have b:=LQ q;have hocc:∀l,l<=runEnd mask (bs mask h L).1 - (bs mask h L).1->gY owner ((bs mask h L).1+l):=by
    intro l hl;have:=b l (by omega);unfold gY
    cases w:owner.getD ((bs mask h L).1+l) (some 0)with
    |none=>rw[w]at this;simp at this
    |some _=>rfl
   have hne:L≠L':=by
    rintro rfl
    exact a3 (by simpa using hocc 0 (by omega))
   refine ih (L+1) _ (ZA e) (λk hk=>?_) ⟨L',by omega,by omega,a3⟩
   rcases ji k n with z|z
   ·exact hb k z
   ·obtain⟨l,rfl⟩:∃l,k=n+l:=⟨k - n,by omega⟩
    have el:pr mask h (n+l)=(bs mask h L).1+l:=by unfold pr;rw[r l (by omega)]
    rw[el];exact hocc l (by omega)
structure LOk (mask:Nat) (hs:List Int) (owner:Array (Option Nat)) (k:Nat):Prop where
 size:owner.size=mask+1
 own:∀(j i:Nat),owner[j]?=some (some i)->i<k/\∃h,hs[i]?=some h/\Way mask (gY owner) h j
 all:∀(i:Nat),i<k->∃j:Nat,owner[j]?=some (some i)
 inj:∀(j j' i:Nat),owner[j]?=some (some i)->owner[j']?=some (some i)->j=j'
theorem uG {owner:Array (Option Nat)}{j:Nat}(hj:j<owner.size):gY owner j↔∃i,owner[j]?=some (some i):=by
 unfold gY;rw[gp hj];simp only[kr,hj,dif_pos,Array.getInternal_eq_getElem,Bf]
 cases owner[j] <;> simp
theorem LOk.free {mask k:Nat}{hs:List Int}{owner:Array (Option Nat)}(O:LOk mask hs owner k) (hk:k<=mask):∃j,j<=mask/\¬ gY owner j:=by
 rcases sj (∃j,j<=mask/\¬ gY owner j)with h|h
 ·exact h
 ·exfalso
  have h1:∀j,j<=mask->∃i,owner[j]?=some (some i):=λj hj=>by
   rcases sj (gY owner j)with q|q
   ·exact(uG (by rw[O.size];omega)).mp q
   ·exact absurd ⟨j,hj,q⟩ h
  let f:Nat->Nat:=λj=>match owner[j]? with|some (some i)=>i|_=>0
  have hf:∀j,j<=mask->owner[j]?=some (some (f j)):=λj hj=>by obtain⟨i,e⟩:=h1 j hj;show owner[j]?=some (some (match owner[j]? with|some (some i)=>i|_=>0));rw[e]
  have nd:((bf (mask+1)).map f).Nodup:=by rw[zu];rw[sk];refine wu ?_ (ub (n:=mask+1));intro a b ha hb hab e;have ea:=hf a (by have:=br.mp ha;omega);have eb:=hf b (by have:=br.mp hb;omega);rw[e]at ea;exact hab (O.inj _ _ _ ea eb)
  have sub:∀x,x∈(bf (mask+1)).map f->x∈bf k:=by intro x hx;obtain⟨j,hj,rfl⟩:=de.mp hx;exact br.mpr (O.own j _ (hf j (by have:=br.mp hj;omega))).1
  have:=nd.length_le_of_subset sub;simp at this;omega
theorem LOk.step {mask k:Nat}{hs:List Int}{owner:Array (Option Nat)}{h:Int}(g:lN mask) (O:LOk mask hs owner k) (hk:k<=mask) (hh:hs[k]?=some h):
  ∃j,layClean.free mask owner (turns mask) (bits h % (mask+1)) (bits h)=some j/\LOk mask hs (owner.setIfInBounds j (some k)) (k+1):=by
 obtain⟨j0,hj0,hn0⟩:=O.free hk;obtain⟨L,hL,eL⟩:=LK g h hj0;obtain⟨n,e,hn,hw⟩:=ZC (mask:=mask) (h:=h) (owner:=owner) (turns mask) 0 0 rfl (λk hk=>absurd hk (by omega)) ⟨L,by omega,by unfold turns;omega,by rw[eL];exact hn0⟩;refine⟨pr mask h n,e, ?_⟩;have hjl:pr mask h n<owner.size:=by rw[O.size];have:=CT (mask:=mask) h n;omega
 have hjn:owner[pr mask h n]?=some none:=by
  rw[gp hjl];have:¬ ∃i,owner[pr mask h n]?=some (some i):=λq=>hn ((uG hjl).mpr q)
  cases w:owner[pr mask h n]with
  |none=>rfl
  |some i=>exact absurd ⟨i,by rw[gp hjl,w]⟩ this
 have get:∀j,(owner.setIfInBounds (pr mask h n) (some k))[j]?=if pr mask h n=j then some (some k)else owner[j]?:=by
  intro j;rw[Array.getElem?_setIfInBounds]
  by_cases q:pr mask h n=j
  ·rw[if_pos q,if_pos q,if_pos hjl]
  ·rw[if_neg q,if_neg q]
 have hsz:(owner.setIfInBounds (pr mask h n) (some k)).size=mask+1:=by rw[Array.size_setIfInBounds];exact O.size
 have occm:∀x,gY owner x->gY (owner.setIfInBounds (pr mask h n) (some k)) x:=by
  intro x hx
  by_cases hl:x<owner.size
  ·obtain⟨i,e⟩:=(uG hl).mp hx;refine(uG (by rw[hsz,<-O.size];exact hl)).mpr ?_;rw[get]
   by_cases q:pr mask h n=x
   ·exact⟨k,if_pos q⟩
   ·exact⟨i,by rw[if_neg q];exact e⟩
  ·unfold gY;simp[kr,hl]
 refine⟨hsz, ?_, ?_, ?_⟩
 ·intro j i e;rw[get]at e
  by_cases q:pr mask h n=j
  ·rw[if_pos q]at e;cases e;exact⟨by omega,h,hh,n,q,λm hm=>occm _ (hw m hm)⟩
  ·rw[if_neg q]at e;obtain⟨a,h',b,c⟩:=O.own j i e;exact⟨by omega,h',b,c.mono occm⟩
 ·intro i hi
  by_cases q:i=k
  ·subst q;exact⟨pr mask h n,by rw[get,if_pos rfl]⟩
  ·obtain⟨j,e⟩:=O.all i (by omega);refine⟨j, ?_⟩;rw[get]
   by_cases z:pr mask h n=j
   ·rw[<-z,hjn]at e;cases e
   ·rw[if_neg z];exact e
 ·intro j j' i e e';rw[get]at e e'
  by_cases z:pr mask h n=j
  ·rw[if_pos z]at e;cases e
   by_cases z':pr mask h n=j'
   ·exact z.symm.trans z'
   ·rw[if_neg z']at e';have:=(O.own j' _ e').1;omega
  ·rw[if_neg z]at e
   by_cases z':pr mask h n=j'
   ·rw[if_pos z']at e';cases e';have:=(O.own j _ e).1;omega
   ·rw[if_neg z']at e';exact O.inj _ _ _ e e'
theorem LR {mask:Nat}{hs:List Int}(g:lN mask) (hl:hs.length<=mask):∀(l pre:List Int) (owner:Array (Option Nat)),hs=pre++l->LOk mask hs owner pre.length->
  ∃owner',l.foldl (λ(acc:Option (Array (Option Nat)×Nat)) h=>do
    let (owner,k) <-acc
    let j <-layClean.free mask owner (turns mask) (bits h % (mask+1)) (bits h)
    pure (owner.setIfInBounds j (some k),k+1)) (some (owner,pre.length))=some (owner',hs.length)/\LOk mask hs owner' hs.length
 | [],pre,owner,e,O=>by rw[lj]at e;subst e;exact⟨owner,rfl,O⟩
 |h::l,pre,owner,e,O=>by
  have hh:hs[pre.length]?=some h:=by rw[e];simp
  obtain⟨j,e1,O1⟩:=O.step g (by rw[e]at hl;simp at hl;omega) hh;have e2:hs=(pre++[h])++l:=by rw[e];simp
  have hlen:(pre++[h]).length=pre.length+1:=by simp
  obtain⟨o',a,b⟩:=LR g hl l (pre++[h]) _ e2 (by rw[hlen];exact O1);refine⟨o', ?_,b⟩;rw[List.foldl_cons];rw[<-a,hlen]
  congr 1
  show(do let j <-layClean.free mask owner (turns mask) (bits h % (mask+1)) (bits h);pure (owner.setIfInBounds j (some pre.length),pre.length+1))=_;rw[e1];rfl
theorem ZD {mask:Nat}{hs:Array Int}(g:lN mask) (hl:hs.size<=mask):∃owner,layClean mask hs=some owner/\LOk mask hs.toList owner hs.size:=by
 have O0:LOk mask hs.toList (Array.replicate (mask+1) none) 0:=by
  refine⟨by simp, ?_,λi hi=>absurd hi (by omega), ?_⟩
  ·intro j i e;rw[Bd]at e
   split at e <;> simp at e
  ·intro j j' i e;rw[Bd]at e
   split at e <;> simp at e
 obtain⟨o',a,b⟩:=LR g (by simpa using hl) hs.toList [] _ rfl O0;refine⟨o', ?_,by simpa using b⟩;unfold layClean;rw[<-Array.foldl_toList];simp only[oj]at a;rw[a];rfl
theorem Way.mono' {mask:Nat}{occ occ':Nat->Prop}{h:Int}{j:Nat}(w:Way mask occ h j) (k:∀x,x<=mask->occ x->occ' x):Way mask occ' h j:=let ⟨n,e,a⟩:=w;⟨n,e,λm hm=>k _ (CT h m) (a m hm)⟩
theorem LU (g:Nat->Option Nat):∀(l:List Nat),l.Pairwise (·<·)->((l.filterMap λj=>(g j).map ((j,·):Nat->Nat×Nat)).map fg).Pairwise (·<·)
 | [],_=>by simp
 |j::l,h=>by
  rw[ed]at h;have ih:=LU g l h.2
  cases e:g j with
  |none=>simpa[bz,e]using ih
  |some i=>
   simp only[bz,e,Option.map_some,dk,ed];refine⟨?_,ih⟩;intro a ha;obtain⟨⟨x,y⟩,hp,rfl⟩:=de.mp ha;obtain⟨z,hz,ez⟩:=jw.mp hp
   cases q:g z with
   |none=>rw[q]at ez;simp at ez
   |some i'=>rw[q]at ez;simp at ez;have:=h.1 z hz;omega
theorem ZE {mask finger moves:Nat}{led:Bool}{hs:Array Int}(g:lN mask) (hl:hs.size<=mask):
  ∃t order,laid mask finger moves led true hs=some (t,order)/\t.mask=mask/\t.led=led/\order.toList.Perm (bf hs.size)/\TOk t (order.toList.filterMap (hs.toList[·]?)):=by
 obtain⟨owner,e,O⟩:=ZD g hl;generalize hlive:(bf (mask+1)).filterMap (λj=>(owner.getD j none).map ((j,·):Nat->Nat×Nat))=live;have hmem:∀j i,(j,i)∈live↔owner[j]?=some (some i):=by
  intro j i;rw[<-hlive,jw];constructor
  ·rintro ⟨x,hx,ex⟩
   have hx':x<owner.size:=by rw[O.size];exact br.mp hx
   have eg:owner.getD x none=owner[x]:=by simp[kr,hx']
   rw[eg]at ex
   cases q:owner[x]with
   |none=>rw[q]at ex;simp at ex
   |some i'=>rw[q]at ex;simp at ex;obtain⟨rfl,rfl⟩:=ex;rw[gp hx',q]
  ·intro h;obtain⟨hx',q⟩:=du.mp h;refine⟨j,br.mpr (by rw[<-O.size];exact hx'), ?_⟩;have eg:owner.getD j none=owner[j]:=by simp[kr,hx']
   rw[eg,q];rfl
 have hrise:(live.map fg).Pairwise (·<·):=by rw[<-hlive];exact LU _ _ (Bz)
 have hperm:(live.map qz).Perm (bf hs.size):=by
  refine(qw ?_ ub).mpr ?_
  ·rw[zu,sk];rw[sk]at hrise;refine wu ?_ hrise
   rintro ⟨a,i⟩ ⟨b,i'⟩ ha hb hab e
   have e':i=i':=e;subst e';have:=O.inj a b i ((hmem _ _).mp ha) ((hmem _ _).mp hb);have hab':a<b:=hab;omega
  ·intro i;rw[br];constructor
   ·intro h;obtain⟨⟨j,i'⟩,hp,rfl⟩:=de.mp h;exact(O.own j i' ((hmem _ _).mp hp)).1
   ·intro h;obtain⟨j,ej⟩:=O.all i h;exact de.mpr ⟨(j,i),(hmem _ _).mpr ej,rfl⟩
 have hlen:live.length=hs.size:=by simpa using hperm.length_eq
 have hget:∀(i:Nat),((live.map qz).filterMap (hs.toList[·]?))[i]?=(live[i]?).bind λp=>hs.toList[p.2]?:=by
  have gen:∀(l:List (Nat×Nat)),(∀p∈l,p.2<hs.toList.length)->∀(i:Nat),((l.map qz).filterMap (hs.toList[·]?))[i]?=(l[i]?).bind λp=>hs.toList[p.2]?:=by
   intro l
   induction l with
   |nil=>intro _ i;simp
   |cons p l ih=>
    intro hp i;have h1:=hp p (bc ..);have e1:hs.toList[p.2]?=some hs.toList[p.2]:=bg h1;rw[dk,bz,e1]
    cases i with
    |zero=>simp[e1]
    |succ i=>simp only[tw];exact ih (λq hq=>hp q (ao _ hq)) i
  intro i;refine gen live ?_ i
  rintro ⟨j,k⟩ hp
  have:=(O.own j k ((hmem _ _).mp hp)).1;simpa using this
 have hlen':((live.map qz).filterMap (hs.toList[·]?)).length=hs.size:=by
  have gen:∀(l:List (Nat×Nat)),(∀p∈l,p.2<hs.toList.length)->((l.map qz).filterMap (hs.toList[·]?)).length=l.length:=by
   intro l
   induction l with
   |nil=>intro _;rfl
   |cons p l ih=>intro hp;have h1:=hp p (bc ..);have e1:hs.toList[p.2]?=some hs.toList[p.2]:=bg h1;rw[dk,bz,e1];show(_::_).length=_;rw[dj,dj,ih (λq hq=>hp q (ao _ hq))]
  rw[gen live ?_,hlen]
  rintro ⟨j,k⟩ hp
  have:=(O.own j k ((hmem _ _).mp hp)).1;simpa using this
 refine⟨{ mask,place:=(live.map fg).toArray,dummies:=#[],finger,led,moves,plain:=true },(live.map qz).toArray, ?_,rfl,rfl,hperm, ?_⟩
 ·unfold laid;rw[e];show some _=some _;rw[hlive]
 ·refine⟨(by show(live.map fg).toArray.size=((live.map qz).filterMap (hs.toList[·]?)).length;rw[hlen',av,bj,hlen]),hrise,rfl, ?_,by rw[hlen'];exact hl,g, ?_,rfl⟩
  ·intro j hj;obtain⟨⟨x,y⟩,hp,rfl⟩:=de.mp (show j∈live.map fg from hj);have:=(hmem _ _).mp hp;obtain⟨hx',_⟩:=du.mp this;have:=O.size;show x<=mask;omega
  ·intro i h j e1 e2;have e1':((live.map qz).filterMap (hs.toList[·]?))[i]?=some h:=e1;rw[hget]at e1';have e2':(live.map fg)[i]?=some j:=e2;rw[fe]at e2'
   cases q:live[i]? with
   |none=>rw[q]at e2';cases e2'
   |some p=>
    obtain⟨x,k⟩:=p;rw[q]at e1' e2';simp at e1' e2';subst e2';have hp:=bx q;obtain⟨a,h',b,c⟩:=O.own x k ((hmem _ _).mp hp);have hh:h'=h:=by
     have:hs.toList[k]?=some h:=by simpa using e1'
     rw[b]at this;exact cq this
    subst hh;refine c.mono' λy hy ho=>?_;obtain⟨i',ei⟩:=(uG (by rw[O.size];omega)).mp ho;exact de.mpr ⟨(y,i'),(hmem _ _).mpr ei,rfl⟩
end SM
namespace SR
open PySem PySem.Spec PyProof.Rows SM
section
variable{prog:bh}{w:cn}
def hk (prog:bh) (w:cn) (k:List Int):Int:=tupleKeyHash (intKind prog w) k
abbrev KB:=List (List Int×ai)
def gR (prog:bh) (w:cn) (kb:KB):List (Int×af):=kb.map λp=>(hk prog w p.1,ij p.2)
structure Parts (prog:bh) (w:cn) (h:cu) (a:ai) (kb:KB) (o:Obj) (es:Array (Int×af)) (ep:Nat) (t:iu):Prop where
 obj:h.get? a=some o
 ex:o.ExactSet
 data:o.data=.set es ep t
 es:es.toList=gR prog w kb
 tab:TOk t (kb.map λp=>hk prog w p.1)
 nd:(kb.map fg).Nodup
 nf:kb.length*5<t.mask*3
 led:t.led=!w.params.followText "set-order"
def kR (prog:bh) (w:cn) (h:cu) (a:ai) (kb:KB):Prop:=∃o es ep t,Parts prog w h a kb o es ep t
def xJ (prog:bh) (w:cn) (h:cu) (kb:KB):Prop:=∀p∈kb,gu (intKind prog w) h p.1 p.2
variable{h:cu}{a:ai}{kb:KB}{o:Obj}{es:Array (Int×af)}{ep:Nat}{t:iu}
theorem Parts.size (P:Parts prog w h a kb o es ep t):es.size=kb.length:=by have:=congrArg rz P.es;simpa[gR]using this
theorem Parts.fits (P:Parts prog w h a kb o es ep t):t.fits es.size=true:=by have:=P.tab.fits;rw[bj]at this;rw[P.size];exact this
theorem Parts.at_ (P:Parts prog w h a kb o es ep t) {i:Nat}{p:List Int×ai}(e:kb[i]?=some p):es[i]?=some (hk prog w p.1,.ref p.2):=by
 have:es.toList[i]?=some (hk prog w p.1,ij p.2):=by rw[P.es];simp[gR,e]
 simpa using this
theorem Parts.hash_at (P:Parts prog w h a kb o es ep t) {i:Nat}{p:List Int×ai}(e:kb[i]?=some p):(es[i]?.map (·.1)).getD 0=hk prog w p.1:=by rw[P.at_ e];rfl
end
section
variable{prog:bh}{w:cn}{A:cf}{E:af->ag->Prop}{s:ag}{a:ai}{kb:KB}{o:Obj}{es:Array (Int×af)}{ep:Nat}{t:iu}
theorem LV {ks:List Int}{b:ai}{Q:Bool->ag->Prop}(hb:gu (intKind prog w) s.heap ks b) (h:Q false s):wpAny (model prog w) A (ofAClassStatement 8 (.ref b)) Q E s:=by
 obtain⟨o,items,n,ho,hc,hd,hi⟩:=hb;unfold ofAClassStatement;refine aa (om (T := "tuple") ⟨o,ho,hc⟩ ?_);show wpAny _ _ ((if(("tuple" : String) == "tuple")=true then(pure true:Sem Bool)else isSubtype (.type "tuple") (.type "tuple")) >>= _) _ _ s;rw[if_pos (by decide)];refine aa (ah ?_);simp only[qd,cp,if_false];refine aa (iz ho hd ?_);refine aa ?_;show wpAny _ _ (forIn items _ _) _ _ s;rw[<-Dg];refine qo _ (λrest r s'=>r.1=none/\s'=s/\∀v∈rest,carriedByValue v=true) _ ?_ ?_ _ _ ⟨rfl,rfl,hi.byValue⟩
 ·rintro v rest r s' ⟨hr,rfl,hall⟩
  have hv:=hall v bc;have e:ofAClassStatement 7 v=pure false:=by
   cases v with
   |ref a=>simp[carriedByValue]at hv
   |_=>rfl
  rw[e];refine aa (ah ?_);simp only[cp,if_false];exact ah ⟨rfl,rfl,λu hu'=>hall u (ao _ hu')⟩
 ·rintro ⟨r1,r2⟩ s' ⟨hr,rfl,_⟩
  simp only at hr;subst hr;exact ah h
theorem ZF {k:List Int}{b:ai}{Q:Bool->ag->Prop}(hb:gu (intKind prog w) s.heap k b):∀(l:List af),(∀y∈l,∃k' b',y=.ref b'/\gu (intKind prog w) s.heap k' b')->Q false s->
  wpAny (model prog w) A (searchCouldBeSeen (.ref b) l) Q E s:=by
 intro l hl h;unfold searchCouldBeSeen;refine aa ?_;refine qo _ (λrest r s'=>r.1=none/\s'=s/\∀y∈rest,∃k' b',y=.ref b'/\gu (intKind prog w) s.heap k' b') _ ?_ ?_ _ _ ⟨rfl,rfl,hl⟩
 ·rintro y rest r s' ⟨hr,rfl,hall⟩
  obtain⟨k',b',rfl,hb'⟩:=hall y bc;have fin:r.1=none/\s'=s'/\∀y∈rest,∃k' b',y=.ref b'/\gu (intKind prog w) s'.heap k' b':=⟨hr,rfl,λu hu=>hall u (ao _ hu)⟩
  dsimp only
  split
  ·exact ah ⟨rfl,rfl,fin.2.2⟩
  ·refine aa (wpAny_eqIsQuiet_tuple hb ?_);simp only[qd,cp,if_false];refine aa (wpAny_eqIsQuiet_tuple hb' ?_);simp only[qd,cp,if_false];refine aa (LV hb ?_);simp only[cp,if_false];refine aa (LV hb' ?_);simp only[cp,if_false];exact ah ⟨rfl,rfl,fin.2.2⟩
 ·rintro ⟨r1,r2⟩ s' ⟨hr,rfl,_⟩
  simp only at hr;subst hr;exact ah h
end
section
variable{prog:bh}{w:cn}{A:cf}{E:af->ag->Prop}{s:ag}{a:ai}{kb:KB}{o:Obj}{es:Array (Int×af)}{ep:Nat}{t:iu}{k:List Int}{b:ai}
theorem mem_keys {kb:KB}{k:List Int}:k∈kb.map fg↔∃(i:Nat) (b:ai),kb[i]?=some (k,b):=by
 constructor
 ·intro h;obtain⟨⟨k',b⟩,hp,rfl⟩:=de.mp h;obtain⟨i,hi,e⟩:=kh hp;exact⟨i,b,by rw[bg hi,e]⟩
 ·rintro ⟨i,b,e⟩
  exact de.mpr ⟨(k,b),bx e,rfl⟩
theorem ZG (P:Parts prog w s.heap a kb o es ep t) (T:xJ prog w s.heap kb) (hb:gu (intKind prog w) s.heap k b) (hu:A.units<cLine) {Q:SetFound->ag->Prop}
  (hin:k∈kb.map fg->Q (.there none) s)
  (hout:k∉kb.map fg->∀n,pr t.mask (hk prog w k) n∉t.place.toList->(∀m,m<n->pr t.mask (hk prog w k) m∈t.place.toList)->Q (.free (pr t.mask (hk prog w k) n) false) s)
  (N:Nat) (hN:N<10*ui t.mask) (hNe:pr t.mask (hk prog w k) N∉t.place.toList):
  ∀(fuel n:Nat) (stand:Option SetTable.Probe),stand.getD (t.probeStart (hk prog w k))=dE t.mask (hk prog w k) n->n<=N->N - n<fuel->
   (∀l,l<n->pr t.mask (hk prog w k) l∈t.place.toList/\∀(i:Nat) p,t.place.toList[i]?=some (pr t.mask (hk prog w k) l)->kb[i]?=some p->p.1≠k)->
   wpAny (model prog w) A (setSearchFrom a (.ref b) (hk prog w k) true fuel stand) Q E s:=by
 intro fuel
 induction fuel with
 |zero=>intro n stand _ _ h2;omega
 |succ f ih=>
  intro n stand hst h1 h2 hseen;have hlen:t.place.toList.length=kb.length:=by have:=P.tab.size;simpa using this
  have kbat:∀{i j:Nat},t.place.toList[i]?=some j->∃p,kb[i]?=some p:=λ{i j} e=>by obtain⟨hi,_⟩:=ba.mp e;exact⟨kb[i]'(by omega),bg (by omega)⟩
  unfold setSearchFrom;refine aa (jq P.obj P.data P.fits ?_);dsimp only;rw[P.tab.gave];simp only[cp,if_false];obtain⟨m,a1,a2,a3,a4⟩:=Y7 P.tab (λi=>(es[i]?.map (·.1)).getD 0) (hk prog w k) (10*ui t.mask) n N h1 (by omega) hNe;have pass:∀l,l<m->pr t.mask (hk prog w k) l∈t.place.toList/\∀(i:Nat) p,t.place.toList[i]?=some (pr t.mask (hk prog w k) l)->kb[i]?=some p->p.1≠k:=by
   intro l hl
   rcases ji l n with q|q
   ·exact hseen l q
   ·obtain⟨b1,b2⟩:=a3 l q hl;refine⟨b1,λi p e1 e2 e3=>b2 i e1 ?_⟩;show(es[i]?.map (·.1)).getD 0=_;rw[P.hash_at e2,e3]
  rcases a4 with⟨b1,b2⟩|⟨i,b1,b2,b3⟩
  ·have e:∀g:Nat->Int,g=(λi=>(es[i]?.map (·.1)).getD 0)->t.probe g (hk prog w k) (stand.getD (t.probeStart (hk prog w k)))=some (.empty (pr t.mask (hk prog w k) m) none):=by rintro g rfl;rw[hst];exact b2
   rw[e]
   rotate_left
   ·rfl
   refine ah (hout ?_ m b1 λl hl=>(pass l hl).1);intro hmem;obtain⟨i,b',ei⟩:=mem_keys.mp hmem;obtain⟨j,ej⟩:∃j,t.place.toList[i]?=some j:=by obtain⟨hi,_⟩:=ba.mp ei;exact⟨_,bg (by omega)⟩
   obtain⟨n',hn',e'⟩:=P.tab.before (i:=i) (h:=hk prog w k) (by rw[fe,ei];rfl) ej b1;exact(pass n' hn').2 i (k,b') (by rw[e'];exact ej) ei rfl
  ·have e:∀g:Nat->Int,g=(λi=>(es[i]?.map (·.1)).getD 0)->t.probe g (hk prog w k) (stand.getD (t.probeStart (hk prog w k)))=some (.candidate (pr t.mask (hk prog w k) m) i (dE t.mask (hk prog w k) (m+1))):=by rintro g rfl;rw[hst];exact b3
   rw[e]
   rotate_left
   ·rfl
   dsimp only;obtain⟨p,ep'⟩:=kbat b1;have hp:=T p (bx ep');have es1:t.sameMemory t.moves t.mask=some true:=by unfold SetTable.sameMemory;simp
   obtain⟨i2,e2,e3⟩:=P.tab.slot_live (bx b1);have hi2:i2=i:=CS P.tab.rise e3 b1;subst hi2;have nxt:¬ p.1=k->wpAny (model prog w) A (setSearchFrom a (.ref b) (hk prog w k) true f (some (dE t.mask (hk prog w k) (m+1)))) Q E s:=by
    intro hpk;have hmN:m≠N:=by rintro rfl;exact hNe (bx b1)
    refine ih (m+1) _ rfl (by omega) (by omega) ?_
    ·intro l hl
     rcases ji l m with q|q
     ·exact pass l q
     ·have:l=m:=by omega
      subst this;refine⟨bx b1,λi' p' z1 z2=>?_⟩;have:i'=i2:=CS P.tab.rise z1 b1;subst this;rw[ep']at z2;cases z2;exact hpk
   cases hl:t.led
   case' true=>simp only[qd,cp,if_false]
   case' false=>
    simp only[Bool.not_false,if_true];refine aa (ZF hb _ ?_ ?_)
    ·intro y hy;obtain⟨e1,he1,rfl⟩:=de.mp hy;have he2:=(Array.mem_filter.mp (Cm.mp he1)).1;have he3:e1∈gR prog w kb:=by rw[<-P.es];exact Cm.mpr he2
     obtain⟨q,hq,rfl⟩:=de.mp he3;exact⟨q.1,q.2,rfl,T q hq⟩
    simp only[cp,if_false]
   all_goals
    rw[P.at_ ep'];dsimp only;refine aa (fz (wpAny_eqBool_tuple hu hp hb ?_));refine aa (jq P.obj P.data P.fits ?_);dsimp only
    by_cases hpk:p.1=k
    ·rw[decide_eq_true hpk];simp only[wg,if_true];exact ah (hin (mem_keys.mpr ⟨i2,p.2,by rw[ep',<-hpk]⟩))
    ·rw[decide_eq_false hpk];simp only[qv,cp,if_false];rw[es1];dsimp only;simp only[if_true];rw[e2];dsimp only;rw[P.at_ ep'];dsimp only;refine aa (wpAny_isSame_ref_self ?_);refine aa (ah ?_);simp only[if_true];exact nxt hpk
theorem ZH (P:Parts prog w s.heap a kb o es ep t) (T:xJ prog w s.heap kb) (hb:gu (intKind prog w) s.heap k b) (hu:A.units<cLine) {Q:SetFound->ag->Prop}
  (hin:k∈kb.map fg->Q (.there none) s)
  (hout:k∉kb.map fg->∀n,pr t.mask (hk prog w k) n∉t.place.toList->(∀m,m<n->pr t.mask (hk prog w k) m∈t.place.toList)->Q (.free (pr t.mask (hk prog w k) n) false) s):
  wpAny (model prog w) A (setSearch a (.ref b) (hk prog w k) true) Q E s:=by
 obtain⟨N,hN,hNe⟩:=P.tab.stops (hk prog w k);have hm:10*ui t.mask<=1420:=by
  unfold ui
  rcases P.tab.msk with e|e|e <;> rw[e] <;> decide
 exact ZG P T hb hu hin hout N hN hNe 100000 0 none rfl (jc _) (by omega) λl hl=>absurd hl (by omega)
theorem ZI {Q:Bool->ag->Prop}(hb:gu (intKind prog w) s.heap k b) (h:Q true s):wpAny (model prog w) A (hashByValue 8 (.ref b)) Q E s:=by
 have hT:=hb.typeIs;obtain⟨o,items,n,ho,hc,hd,hi⟩:=hb;unfold hashByValue;refine aa (wpAny_specialOf hT F.slot_tuple_hash.lookup ?_);dsimp only;refine aa (iz ho hd ?_);refine aa ?_;show wpAny _ _ (forIn items _ _) _ _ s;rw[<-Dg];have hv:∀v∈items.toList,∃i t,v=.int i t:=by
  clear hd ho
  generalize items.toList=l at hi
  induction hi with
  |nil=>intro v h;cases h
  |cons h1 _ ih=>
   intro v hv
   rcases ay.mp hv with rfl|hv
   ·obtain⟨t,e⟩:=pb h1;exact⟨_,t,e⟩
   ·exact ih v hv
 refine qo _ (λrest r s'=>r.1=none/\s'=s/\∀v∈rest,∃i t,v=.int i t) _ ?_ ?_ _ _ ⟨rfl,rfl,hv⟩
 ·rintro v rest r s' ⟨hr,rfl,hall⟩
  obtain⟨i,t,rfl⟩:=hall v bc;refine aa (ah ?_);simp only[qd,cp,if_false];exact ah ⟨rfl,rfl,λu hu'=>hall u (ao _ hu')⟩
 ·rintro ⟨r1,r2⟩ s' ⟨hr,rfl,_⟩
  simp only at hr;subst hr;exact ah h
end
section
variable{prog:bh}{w:cn}{A:cf}{E:af->ag->Prop}{s:ag}{a:ai}{kb:KB}{o:Obj}{es:Array (Int×af)}{ep:Nat}{t:iu}{k:List Int}{b:ai}
theorem ZJ (p:Nat):(gR prog w kb).take p++(hk prog w k,ij b)::(gR prog w kb).drop p=gR prog w (kb.take p++(k,b)::kb.drop p):=by simp[gR,Bp,wj]
theorem ZK (p:Nat):(kb.map λq=>hk prog w q.1).take p++hk prog w k::(kb.map λq=>hk prog w q.1).drop p=(kb.take p++(k,b)::kb.drop p).map λq=>hk prog w q.1:=by simp[Bp,wj]
theorem oO {α:Type}(l:List α) (x:α) (p:Nat):(l.take p++x::l.drop p).Perm (x::l):=by have h:(l.take p++x::l.drop p).Perm (x::(l.take p++l.drop p)):=List.perm_middle;rwa [Ck]at h
theorem CU {p:Nat}(h:(kb.map fg).Nodup) (hk:k∉kb.map fg):((kb.take p++(k,b)::kb.drop p).map fg).Nodup:=by have q:=(oO kb (k,b) p).map fg;exact q.nodup_iff.mpr (jm.mpr ⟨hk,h⟩)
theorem LW {es':Array (Int×af)}{t':iu}(hd:o.data=.set es ep t) (ho:s.heap.get? a=some o):(s.heap.update a (Obj.putSet es' t')).get? a=some { o with data:=.set es' (ep+1) t' }:=by have:=jx (Obj.putSet es' t') ho (by rw[putSet_of es' t' hd];rfl);rw[putSet_of es' t' hd]at this;exact this
theorem LX {α:Type}:∀(l:List α),(bf l.length).filterMap (λi=>l[i]?)=l
 | []=>rfl
 |x::l=>by
  rw[dj,Bw,bz];simp only[List.getElem?_cons_zero,List.filterMap_map]
  congr 1
  exact LX l
theorem LY {kb:KB}{mask' wanted:Nat}{Q:Unit->ag->Prop}(ho:s.heap.get? a=some o) (hex:o.ExactSet) (hd:o.data=.set es ep t) (hes:es.toList=gR prog w kb) (hT:TOk t (kb.map λp=>hk prog w p.1)) (nd:(kb.map fg).Nodup) (hled:t.led=!w.params.followText "set-order")
  (hw:Ca wanted - 1=mask') (hg:lN mask') (hl:kb.length*5<mask'*3) (hz:Ca wanted<=bw)
  (h:∀h' kb',je a s.heap h'->kR prog w h' a kb'->kb'.Perm kb->Q () { s with heap:=h' }):
  wpAny (model prog w) A (setRelay a wanted) Q E s:=by
 have hsz:es.size=kb.length:=by have:=congrArg rz hes;simpa[gR]using this
 have hfit:t.fits es.size=true:=by have:=hT.fits;rw[bj]at this;rw[hsz];exact this
 have eh:(es.map (·.1)).toList=kb.map λp=>hk prog w p.1:=by rw[Array.toList_map,hes];simp[gR]
 have hs':(es.map (·.1)).size=kb.length:=by simp[hsz]
 unfold setRelay;refine aa (jq ho hd hfit ?_);dsimp only;rw[if_neg (by omega)];obtain⟨t',order,e1,e2,e3,e4,e5⟩:=ZE (mask:=mask') (finger:=t.finger) (moves:=t.movedTo mask') (led:=t.led) (hs:=es.map (·.1)) hg (by rw[hs'];omega);have er:t.relaid (es.map (·.1)) wanted=some (t',order):=by unfold SetTable.relaid;rw[hw,hT.plain];exact e1
 rw[er];have hlt:∀i∈order.toList,i<kb.length:=λi hi=>by have:=br.mp (e4.mem_iff.mp hi);omega
 have hfm:∀(l:List Nat),(∀i∈l,i<kb.length)->l.filterMap (λi=>es[i]?)=gR prog w (l.filterMap λi=>kb[i]?):=by
  intro l hl
  induction l with
  |nil=>rfl
  |cons i l ih=>
   have hi:=hl i bc;have q1:kb[i]?=some kb[i]:=bg hi;have q2:es[i]?=some (hk prog w kb[i].1,ij kb[i].2):=by
    have:es.toList[i]?=some (hk prog w kb[i].1,ij kb[i].2):=by rw[hes];simp[gR,q1]
    simpa using this
   rw[bz,bz,q1,q2];simp only;rw[ih λj hj=>hl j (ao _ hj)];rfl
 have hkey:∀(l:List Nat),(∀i∈l,i<kb.length)->l.filterMap (λi=>(es.map (·.1)).toList[i]?)=(l.filterMap λi=>kb[i]?).map λp=>hk prog w p.1:=by
  intro l hl
  induction l with
  |nil=>rfl
  |cons i l ih=>
   have hi:=hl i bc;have q1:kb[i]?=some kb[i]:=bg hi;have q2:(es.map (·.1)).toList[i]?=some (hk prog w kb[i].1):=by rw[eh];simp[q1]
   rw[bz,bz,q1,q2];simp only;rw[ih λj hj=>hl j (ao _ hj)];rfl
 have hperm:(order.toList.filterMap λi=>kb[i]?).Perm kb:=by have q:=e4.filterMap (λi=>kb[i]?);rw[hs']at q;exact q.trans (List.Perm.of_eq (LX kb))
 have hes2:(order.filterMap (es[·]?)).toList=gR prog w (order.toList.filterMap λi=>kb[i]?):=by rw[Array.toList_filterMap];exact hfm _ hlt
 have hsz2:(order.filterMap (es[·]?)).size=es.size:=by have:=congrArg rz hes2;rw[nu]at this;rw[this,hsz];simp[gR,hperm.length_eq]
 show wpAny _ _ ((if((order.filterMap (es[·]?)).size != es.size)=true then(unsupported "internal:set-table-lost-an-element" >>= λ_=>pure (order.filterMap (es[·]?),t'))else pure (order.filterMap (es[·]?),t')) >>= _) _ _ s;rw[if_neg (by rw[hsz2];simp)];refine aa (ah ?_);dsimp only;refine wpAny_storeSet_of ho hd ?_ (by rw[hsz2,hsz];rcases hg with q|q|q <;> (rw[q]at hl;rw[jn];omega));refine h _ (order.toList.filterMap λi=>kb[i]?) (ph ..) ⟨_,_,_,t',LW hd ho,hex,rfl,hes2, ?_, ?_, ?_,e3.trans hled⟩ hperm
 ·rw[<-hkey _ hlt];exact e5
 ·exact(hperm.map fg).nodup_iff.mpr nd
 ·rw[hperm.length_eq,e2];exact hl
theorem ZL (P:Parts prog w s.heap a kb o es ep t) (T:xJ prog w s.heap kb) (hb:gu (intKind prog w) s.heap k b) (hu:A.units<cLine) (h76:k∉kb.map fg->kb.length+1<=76) {Q:Bool->ag->Prop}
  (h:∀h' kb' r,je a s.heap h'->kR prog w h' a kb'->(k∈kb.map fg->kb'.Perm kb)->(k∉kb.map fg->kb'.Perm ((k,b)::kb))->Q r { s with heap:=h' }):
  wpAny (model prog w) A (setAddHashed a (.ref b) (hk prog w k)) Q E s:=by
 unfold setAddHashed;refine fz ?_;unfold setAddHashedIn;refine aa (jq P.obj P.data P.fits ?_);dsimp only;have hbs:byScan (.ref b) es=false:=by simp[byScan,Value.scannable]
 rw[hbs];simp only[cp,if_false];refine aa (ZH P T hb hu (λhin=>?_) λhout n hn hw=>?_)
 ·dsimp only;refine ah ?_;have:=h s.heap kb false (ve ..) ⟨o,es,ep,t,P⟩ (λ_=>.refl _) λq=>absurd hin q;exact this
 ·dsimp only;refine aa (jq P.obj P.data P.fits ?_);dsimp only;rw[Y8 P.tab.nod];dsimp only;rw[if_pos P.tab.plain];refine aa (ZI hb ?_);simp only[if_true];have hlen:=P.nf;have hmask:=P.tab.msk;have hroom:(kb.map λp=>hk prog w p.1).length+1<=t.mask:=by
   rw[bj]
   rcases hmask with q|q|q <;> (rw[q]at hlen ⊢;omega)
  have T2:=P.tab.put (h:=hk prog w k) (n:=n) hn hw hroom;have hbl:=(uE (j:=pr t.mask (hk prog w k) n) P.tab.rise).2.2;generalize hp:uj t.place (pr t.mask (hk prog w k) n)=p at T2 hbl ⊢;rw[ZK (b:=b)]at T2;have hesl:(jk es p (hk prog w k,ij b)).toList=gR prog w (kb.take p++(k,b)::kb.drop p):=by rw[uF _ _ _ (by rw[P.size,<-show t.place.size=kb.length from by have:=P.tab.size;simpa using this];exact hbl),P.es,ZJ]
  have hsz:(jk es p (hk prog w k,ij b)).size=kb.length+1:=by have:=congrArg rz hesl;simp only[gR,bj,nu]at this;rw[this,(oO kb (k,b) p).length_eq];rfl
  refine aa (wpAny_storeSet_of P.obj P.data ?_ (by rw[hsz,jn];have:=h76 hout;omega));have hlen2:(kb.take p++(k,b)::kb.drop p).length=kb.length+1:=(oO kb (k,b) p).length_eq;have ho2:=LW (s:=s) (es':=jk es p (hk prog w k,ij b)) (t':={ t with place:=jk t.place p (pr t.mask (hk prog w k) n) }) P.data P.obj;have fill:({ t with place:=jk t.place p (pr t.mask (hk prog w k) n) }:iu).tooFull=decide ((kb.length+1)*5>=t.mask*3):=by unfold SetTable.tooFull SetTable.fill;have e1:=T2.size;rw[bj,hlen2]at e1;have e1':(jk t.place p (pr t.mask (hk prog w k) n)).size=kb.length+1:=e1;dsimp only;rw[P.tab.nod,e1'];rfl
  simp only[Bool.not_false,wg];rw[fill];have fin:∀h' kb',je a (s.heap.update a (Obj.putSet (jk es p (hk prog w k,ij b)) { t with place:=jk t.place p (pr t.mask (hk prog w k) n) })) h'->kR prog w h' a kb'->
    kb'.Perm (kb.take p++(k,b)::kb.drop p)->Q true { s with heap:=h' }:=λh' kb' sb st pm=>
   h h' kb' true ((ph ..).trans sb) st (λq=>absurd q hout) λ_=>pm.trans (oO kb (k,b) p)
  by_cases oZ:(kb.length+1)*5>=t.mask*3
  ·rw[decide_eq_true oZ,if_pos rfl];have h76':=h76 hout;have hcase:(t.mask=7/\kb.length=4)∨(t.mask=31/\kb.length=18):=by
    rcases hmask with q|q|q
    ·left;rw[q]at hlen oZ;exact⟨q,by omega⟩
    ·right;rw[q]at hlen oZ;exact⟨q,by omega⟩
    ·rw[q]at oZ;omega
   have es0:es.size=kb.length:=P.size
   rcases hcase with⟨q1,q2⟩|⟨q1,q2⟩
   ·refine aa (LY (mask':=31) (kb:=kb.take p++(k,b)::kb.drop p) ho2 P.ex rfl hesl T2 (CU P.nd hout) P.led (by rw[es0,q2];decide) (.inr (.inl rfl)) (by rw[hlen2,q2];decide) (by rw[es0,q2,jn];decide) λh' kb' sb st pm=>ah (fin h' kb' sb st pm))
   ·refine aa (LY (mask':=127) (kb:=kb.take p++(k,b)::kb.drop p) ho2 P.ex rfl hesl T2 (CU P.nd hout) P.led (by rw[es0,q2];decide) (.inr (.inr rfl)) (by rw[hlen2,q2];decide) (by rw[es0,q2,jn];decide) λh' kb' sb st pm=>ah (fin h' kb' sb st pm))
  ·rw[decide_eq_false oZ,if_neg jf];refine ah (fin _ _ (ve ..) ⟨_,_,_,_,ho2,P.ex,rfl,hesl,T2,CU P.nd hout, ?_,P.led⟩ (.refl _));rw[hlen2];exact Nat.lt_of_not_le oZ
end
theorem Parts.keep {prog:bh}{w:cn}{h h':cu}{a:ai}{kb:KB}(S:kR prog w h a kb) (k:∀o,h.get? a=some o->h'.get? a=some o):kR prog w h' a kb:=by obtain⟨o,es,ep,t,P⟩:=S;exact⟨o,es,ep,t,k o P.obj,P.ex,P.data,P.es,P.tab,P.nd,P.nf,P.led⟩
theorem xK {prog:bh}{w:cn}{h h':cu}{ks:List Int}{a:ai}(x:gu (intKind prog w) h ks a) (k:∀o,h.get? a=some o->h'.get? a=some o):gu (intKind prog w) h' ks a:=by obtain⟨o,items,n,ho,r⟩:=x;exact⟨o,items,n,k o ho,r⟩
section
variable{prog:bh}{w:cn}{A:cf}{R:yb->ag->Prop}{I:ai}{fp wr:List ai}{n:Nat}{P:Nat->af->Prop}{St:Nat->cu->Prop}
structure Upto (ky:Nat->List Int) (ad:Nat->ai) (i:Nat) (kb:KB):Prop where
 from_:∀p∈kb,∃j,j<i/\p=(ky j,ad j)
 all:∀j,j<i->ky j∈kb.map fg
theorem ZM (W:Walks prog w A.in1 I fp wr n P St) (S:ai) (hSf:S∉fp) (ad:Nat->ai) (ky:Nat->List Int) (hval:∀i v,P i v->v=.ref (ad i)) (hu:A.units+2<cLine)
  (U:List (List Int)) (hU:U.length<=76) (hky:∀i,i<n->ky i∈U) (hS:∀i,i<n->ad i≠S/\ad i∉wr):
  ∀(m i:Nat) (s:ag) (kb:KB),n - i=m->i<=n->St i s.heap->kR prog w s.heap S kb->Upto ky ad i kb->(∀j,j<n->gu (intKind prog w) s.heap (ky j) (ad j))->
   (∀h' tk kb',(∀b o,b∉S::wr->s.heap.get? b=some o->h'.get? b=some o)->kR prog w h' S kb'->Upto ky ad n kb'->R (.ok (.ret .none)) { s with heap:=h',toks:=tk })->
   codeAny (model prog w) A (.builtin "set.update.loop" ⟨[.ref S,.ref I],[]⟩) R s:=by
 have hSw:S∉wr:=λh=>hSf (W.sub _ h);intro m
 induction m with
 |zero=>
  intro i s kb hk hi hst hT hup hkeys hR;have hin:i=n:=by omega
  subst hin;refine jr F.entry_set_update_loop ?_;rw[iw F.plain_set_update_loop _];show wpAny _ A.in1 (pyNext (.ref I) >>= _) _ _ s;refine aa (W.done s _ _ hst λh' tk hm=>?_);exact ah (hR h' tk kb (λb o hb e=>hm b o (λz=>hb (ao _ z)) e) (Parts.keep hT λo e=>hm S o hSw e) hup)
 |succ m ih=>
  intro i s kb hk hi hst hT hup hkeys hR;have hlt:i<n:=by omega
  refine jr F.entry_set_update_loop ?_;rw[iw F.plain_set_update_loop _];show wpAny _ A.in1 (pyNext (.ref I) >>= _) _ _ s;refine aa (W.item i s _ _ hlt hst λv h' tk hP hst' hm=>?_);have ev:=hval i v hP;subst ev;have hT':kR prog w h' S kb:=Parts.keep hT λo e=>hm S o hSw e;have hkeys':∀j,j<n->gu (intKind prog w) h' (ky j) (ad j):=λj hj=>xK (hkeys j hj) λo e=>hm _ o (hS j hj).2 e;show wpAny _ A.in1 (holding [ij (ad i)] (setAdd S (.ref (ad i))) >>= _) _ _ _;refine aa (fz ?_);unfold setAdd;refine fz ?_;refine aa (wpAny_pyHash_tuple (s:={ s with heap:=h',toks:=tk }) (show A.in1.units<cLine by show A.units+1<cLine;omega) (hkeys' i hlt) ?_);obtain⟨o,es,ep,t,Pt⟩:=hT';have tups:xJ prog w h' kb:=λp hp=>by obtain⟨j,hj,rfl⟩:=hup.from_ p hp;exact hkeys' j (by omega)
  have hsub:∀x∈kb.map fg,x∈U:=λx hx=>by obtain⟨p,hp,rfl⟩:=de.mp hx;obtain⟨j,hj,rfl⟩:=hup.from_ p hp;exact hky j (by omega)
  refine ZL (s:={ s with heap:=h',toks:=tk+((ky i).length+1) }) (a:=S) (k:=ky i) (b:=ad i) Pt tups (hkeys' i hlt) (by show A.units+1<cLine;omega) (λhout=>?_) λh2 kb2 r sb hT2 q1 q2=>?_
  ·have nd:(ky i::kb.map fg).Nodup:=jm.mpr ⟨hout,Pt.nd⟩;have:=nd.length_le_of_subset (l₂:=U) λx hx=>by
    rcases ay.mp hx with rfl|hx
    ·exact hky i hlt
    ·exact hsub x hx
   simp at this;omega
  ·have hup2:Upto ky ad (i+1) kb2:=by
    by_cases hin:ky i∈kb.map fg
    ·have pm:=q1 hin;refine⟨λp hp=>?_,λj hj=>?_⟩
     ·obtain⟨j,hj,e⟩:=hup.from_ p (pm.mem_iff.mp hp);exact⟨j,by omega,e⟩
     ·rw[(pm.map fg).mem_iff]
      rcases ji j i with z|z
      ·exact hup.all j z
      ·have:j=i:=by omega
       subst this;exact hin
    ·have pm:=q2 hin;refine⟨λp hp=>?_,λj hj=>?_⟩
     ·rcases ay.mp (pm.mem_iff.mp hp)with z|z
      ·exact⟨i,by omega,z⟩
      ·obtain⟨j,hj,e⟩:=hup.from_ p z;exact⟨j,by omega,e⟩
     ·rw[(pm.map fg).mem_iff,dk,ay]
      rcases ji j i with z|z
      ·exact .inr (hup.all j z)
      ·have:j=i:=by omega
       subst this;exact .inl rfl
   refine ah ⟨xq F.plain_set_update_loop _,ih (i+1) _ kb2 (by omega) hlt (W.frame _ _ _ hst' λb hb o e=>?_) hT2 hup2 (λj hj=>?_) λh3 tk3 kb3 k3 hT3 hup3=>?_⟩
   ·rw[sb.2 b (λz:b=S=>hSf (by rw[<-z];exact hb))];exact e
   ·exact xK (hkeys' j hj) λo e=>(sb.2 _ (hS j hj).1).trans e
   ·refine hR h3 tk3 kb3 (λb o hb e=>k3 b o hb ?_) hT3 hup3;exact(sb.2 b λz=>hb (by rw[z];exact bc)).trans (hm b o (λz=>hb (ao _ z)) e)
end
theorem walk_slots:Slot "set" "__iter__" "set.__iter__"/\Slot "set_iterator" "__next__" "set_iterator.__next__"/\Slot "set_iterator" "__iter__" "set_iterator.__iter__"/\Slot "set" "__len__" "set.__len__":=by
 refine⟨Slot.of (owner := "set") (n := "__iter__") ?_ ?_ ?_ ?_ ?_ ?_,Slot.of (owner := "set_iterator") (n := "__next__") ?_ ?_ ?_ ?_ ?_ ?_,Slot.of (owner := "set_iterator") (n := "__iter__") ?_ ?_ ?_ ?_ ?_ ?_,Slot.of (owner := "set") (n := "__len__") ?_ ?_ ?_ ?_ ?_ ?_⟩
 all_goals first
  |decide +kernel
  |(rw[typeLookup_type,builtinLookup_eq_fast];kernel_rfl)
  |(rw[isSubtype_type];kernel_rfl)
  |(left;decide +kernel)
  |(right;decide +kernel)
theorem xM (a:af):argsOk "set.__iter__" ⟨[a],[]⟩/\argsOk "set_iterator.__next__" ⟨[a],[]⟩/\argsOk "set_iterator.__iter__" ⟨[a],[]⟩:=by refine⟨?_, ?_, ?_⟩ <;> unfold argsOk <;> kernel_rfl
theorem LZ:entryFor table "set_iterator.__next__" = some mr.«set_iterator.__next__»:=entryFor_of_fast (by kernel_rfl)
theorem ZN:entryFor table "set.__iter__" = some mr.«frozenset.__iter__»:=entryFor_alias (id' := "frozenset.__iter__") (by kernel_rfl) rfl (by decide +kernel) (by kernel_rfl)
theorem ZO:entryFor table "set_iterator.__iter__" = some mr.«dict_keyiterator.__iter__»:=entryFor_alias (id' := "dict_keyiterator.__iter__") (by kernel_rfl) rfl (by decide +kernel) (by kernel_rfl)
theorem erase_perm {α:Type}:∀(l:List α) (i:Nat) (h:i<l.length),(l[i]::l.eraseIdx i).Perm l
 | [],_,h=>absurd h (by simp)
 |x::r,0,_=>.refl _
 |x::r,i+1,h=>by have ih:=erase_perm r i (by simpa using h);show((r[i]'(by simpa using h))::x::r.eraseIdx i).Perm (x::r);exact(Df _ _ _).trans (ih.cons x)
theorem L0 {α:Type}(next:Nat->Nat):∀(fuel k:Nat) (l:List α) (out:Array α),l.length<=fuel->(yv next fuel k l out).toList.Perm (out.toList++l)
 |0,k,l,out,h=>by have:l=[]:=uc.mp (by omega);subst this;rw[yv];simp
 |fuel+1,k,l,out,h=>by
  rw[yv]
  cases l with
  |nil=>simp
  |cons x r=>have hlt:next k % (x::r).length<(x::r).length:=Nat.mod_lt _ (by simp);rw[bg hlt];dsimp only;refine(L0 next fuel (k+1) _ _ (by rw[zv hlt];omega)).trans ?_;rw[Array.toList_push,sr];refine zw _ ?_;exact erase_perm _ _ hlt
theorem ZP {α:Type}(next:Nat->Nat) (xs:Array α):(pickOrder next xs).toList.Perm xs.toList:=by unfold pickOrder;have:=L0 next xs.size 0 xs.toList #[] (by simp);simpa using this
section
variable{prog:bh}{w:cn}
def iK (w:cn) (a:ai) (ep:Nat) (es:Array (Int×af)):Array (Int×af):=if w.params.followText "set-order" then pickOrder (w.params.setOrder a ep) es else es
theorem L6 (w:cn) (a:ai) (ep:Nat) (es:Array (Int×af)):(iK w a ep es).toList.Perm es.toList:=by
 unfold iK
 split
 ·exact ZP _ _
 ·exact .refl _
theorem xN (w:cn) (a:ai) (ep:Nat) (es:Array (Int×af)):(iK w a ep es).size=es.size:=by simpa using(L6 w a ep es).length_eq
def gS (w:cn) (t:iu) (i:Nat):Nat:=if w.params.followText "set-order" then 0 else match i with|0=>0|j+1=>t.place.getD j 0+1
def jY (a:ai) (slot i n ep:Nat):Obj:={ cls:=.type "set_iterator",data:=.fields #[rawInt slot,rawInt i,.ref a,rawInt n,rawInt ep] }
theorem ZQ {t:iu}{hs:List Int}(T:TOk t hs) (hb:w.params.followText "set-order" = false) {i:Nat}(hi:i<=t.place.size):uj t.place (gS w t i)=i:=by
 obtain⟨h1,h2,h3⟩:=uE (j:=gS w t i) T.rise;have mono:∀a b (ha:a<t.place.size) (hb:b<t.place.size),a<b->t.place[a]<t.place[b]:=by intro a b ha hb hab;have:=ie.mp T.rise a b (by simpa using ha) (by simpa using hb) hab;simpa using this
 unfold gS at h1 h2 h3 ⊢;rw[hb]at h1 h2 h3 ⊢;simp only[cp,if_false]at h1 h2 h3 ⊢
 cases i with
 |zero=>
  dsimp only at h1 h2 h3 ⊢;generalize uj t.place 0=r at h1 h2 h3 ⊢
  cases r with
  |zero=>rfl
  |succ r=>have:=h1 r (by omega) (by omega);omega
 |succ j=>
  dsimp only at h1 h2 h3 ⊢;have hj:j<t.place.size:=by omega
  have ej:t.place.getD j 0=t.place[j]:=by simp[kr,hj]
  rw[ej]at h1 h2 h3 ⊢;generalize uj t.place (t.place[j]+1)=r at h1 h2 h3 ⊢
  rcases Nat.lt_trichotomy r (j+1)with q|q|q
  ·have:=h2 j hj (by omega);omega
  ·exact q
  ·have:=h1 (j+1) (by omega) q;have:=mono j (j+1) hj (by omega) (by omega);omega
end
section
variable{prog:bh}{w:cn}{A:cf}{E:af->ag->Prop}{s:ag}{a it:ai}{kb:KB}{o:Obj}{es:Array (Int×af)}{ep:Nat}{t:iu}
theorem ZR {Q:Bool->ag->Prop}(P:Parts prog w s.heap a kb o es ep t) (h:Q false s):wpAny (model prog w) A (setDrawn a) Q E s:=by
 unfold setDrawn setsByText;refine aa (jq P.obj P.data P.fits ?_);dsimp only;refine aa (aa (oq (ah ?_)));have e:(!(w.params.followText "set-order")&&((!t.plain)&&decide (es.size>1)))=false:=by rw[P.tab.plain];simp
 show wpAny _ _ (pure (!(w.params.followText "set-order")&&((!t.plain)&&decide (es.size>1)))) _ _ s;rw[e];exact ah h
theorem ZS {Q:af->ag->Prop}(P:Parts prog w s.heap a kb o es ep t) (h:Q (.ref s.heap.objs.size) { s with heap:=s.heap.push (jY a 0 0 es.size ep) }):
  wpAny (model prog w) A (pyIter (.ref a)) Q E s:=by
 have hT:s.TypeIs (.ref a) "set" := ⟨o,P.obj,P.ex.1⟩;refine wpAny_pyIter_slot hT walk_slots.1 (fv walk_slots.1 hT ZN ?_ (xM _).1);unfold mr.«frozenset.__iter__» Builtin.Frozenset.slot0;refine aa (m:=(do Builtin.Frozenset.addrOf (<-slotArgs "__iter__" 0 ⟨[.ref a],[]⟩).1:Sem ai)) (ah ?_);unfold Builtin.Frozenset.sizeOf;refine aa (aa (xh P.obj P.data P.fits (ah ?_)));refine aa (ZR P ?_);simp only[cp,if_false];refine aa (ah ?_);refine aa (wpAny_setEpoch_of P.obj P.data P.fits ?_);refine aa (dg ?_ (by size_fits));refine ah ⟨_,rfl,"set_iterator",_,⟨_,ax _ rfl,rfl⟩,walk_slots.2.1.lookup,h⟩
end
section
variable{prog:bh}{w:cn}{A:cf}{E:af->ag->Prop}{s:ag}{a it:ai}{kb:KB}{o:Obj}{es:Array (Int×af)}{ep:Nat}{t:iu}
theorem L7 {i:Nat}{Q:Option (af×Nat)->ag->Prop}(P:Parts prog w s.heap a kb o es ep t) (hi:i<=es.size)
  (h:Q (((iK w a ep es)[i]?).map λe=>(e.2,gS w t (i+1))) s):wpAny (model prog w) A (setNext a (gS w t i) i ep) Q E s:=by
 unfold setNext setsByText;refine aa (jq P.obj P.data P.fits ?_);dsimp only;refine aa (aa (oq (ah ?_)));have hps:t.place.size=es.size:=by have:=P.tab.size;rw[P.size];simpa using this
 show wpAny _ _ (if w.params.followText "set-order" = true then _ else _) _ _ s
 by_cases hb:w.params.followText "set-order" = true
 ·rw[if_pos hb,if_neg (by simp)];refine aa ?_;unfold setWalk setsByText;refine aa (jq P.obj P.data P.fits ?_);dsimp only;refine aa (aa (oq (ah ?_)));show wpAny _ _ (if w.params.followText "set-order" = true then _ else _) _ _ s;rw[if_pos hb];refine aa (oq (ah (ah ?_)));unfold iK gS at h;unfold gS;rw[if_pos hb]at h ⊢;rw[if_pos hb]at h;exact h
 ·have hb':w.params.followText "set-order" = false:=by simpa using hb
  rw[if_neg hb];have hl:t.led=true:=by rw[P.led,hb'];rfl
  have hd:((!t.plain)&&decide (es.size>1))=false:=by rw[P.tab.plain];rfl
  show wpAny _ _ (if((!t.plain)&&decide (es.size>1))=true then _ else _) _ _ s;rw[hd];simp only[cp,if_false];show wpAny _ _ ((if((!t.led)&&!es.isEmpty)=true then _ else _) >>= _) _ _ s;rw[hl];simp only[qd,Bool.false_and,cp,if_false];refine aa (ah ?_);have hbl:=ZQ (w:=w) P.tab hb' (i:=i) (by omega);rw[hbl];unfold iK at h;rw[if_neg hb]at h;refine ah ?_
  by_cases hlt:i<es.size
  ·have e1:es[i]?=some es[i]:=gp hlt;have e2:t.place[i]?=some t.place[i]:=gp (by omega);rw[e1]at h;rw[e1,e2];have e3:gS w t (i+1)=t.place[i]+1:=by unfold gS;rw[if_neg hb];simp[kr,show i<t.place.size by omega]
   rw[e3]at h;exact h
  ·have e1:es[i]?=none:=ue (by omega);rw[e1]at h ⊢;exact h
theorem ZT {i:Nat}{x:Int×af}{Q:Option af->ag->Prop}(P:Parts prog w s.heap a kb o es ep t) (hit:s.heap.get? it=some (jY a (gS w t i) i es.size ep)) (hx:(iK w a ep es)[i]?=some x)
  (hQ:∀h',h'.get? it=some (jY a (gS w t (i+1)) (i+1) es.size ep)->je it s.heap h'->Q (some x.2) { s with heap:=h' }):wpAny (model prog w) A (pyNext (.ref it)) Q E s:=by
 have hT:s.TypeIs (.ref it) "set_iterator" := ⟨_,hit,rfl⟩;have hlt:i<es.size:=by rw[<-xN w a ep es];exact(du.mp hx).1
 unfold pyNext;refine aa (xm (gm (name:=lh "__next__") hT walk_slots.2.1 (fv walk_slots.2.1 hT LZ ?_ (xM _).2.1)));unfold mr.«set_iterator.__next__»;refine aa (m:=slotArgs "__next__" 0 ⟨[.ref it],[]⟩) (ah ?_);refine aa (wpAny_fieldsOf hit rfl ?_);dsimp only;show wpAny _ _ (setEntries a >>= _) _ _ s;refine aa (xh P.obj P.data P.fits ?_);rw[if_neg (by simp)];show wpAny _ _ (setNext a ((gS w t i:Nat):Int).toNat ((i:Nat):Int).toNat ((ep:Nat):Int).toNat >>= _) _ _ s;rw[gr,gr,gr];refine aa (L7 P (ic hlt) ?_);rw[hx];show wpAny _ _ (setField (.ref it) 0 (rawInt ((gS w t (i+1):Nat):Int)) >>= _) _ _ s;refine aa (jl hit (by simp) λh1 g1 b1=>?_);refine aa (jl g1 (by simp) λh2 g2 b2=>?_);refine ah ⟨_,rfl,ah (hQ h2 ?_ (b1.trans b2))⟩;rw[g2];rfl
theorem ZU {i:Nat}{Q:Option af->ag->Prop}(hh:A.handled=none) (P:Parts prog w s.heap a kb o es ep t) (hit:s.heap.get? it=some (jY a (gS w t i) i es.size ep)) (hi:i=es.size)
  (hQ:∀h',Cu it s.heap h'->Q none { s with heap:=h' }):wpAny (model prog w) A (pyNext (.ref it)) Q E s:=by
 have hT:s.TypeIs (.ref it) "set_iterator" := ⟨_,hit,rfl⟩;unfold pyNext;refine aa (xm (gm (name:=lh "__next__") hT walk_slots.2.1 (fv walk_slots.2.1 hT LZ ?_ (xM _).2.1)));unfold mr.«set_iterator.__next__»;refine aa (m:=slotArgs "__next__" 0 ⟨[.ref it],[]⟩) (ah ?_);refine aa (wpAny_fieldsOf hit rfl ?_);dsimp only;show wpAny _ _ (setEntries a >>= _) _ _ s;refine aa (xh P.obj P.data P.fits ?_);rw[if_neg (by simp)];show wpAny _ _ (setNext a ((gS w t i:Nat):Int).toNat ((i:Nat):Int).toNat ((ep:Nat):Int).toNat >>= _) _ _ s;rw[gr,gr,gr];refine aa (L7 P (qt hi) ?_);rw[ue (by rw[xN];omega)];show wpAny _ _ (setField (.ref it) 2 ju >>= _) _ _ s;refine aa (jl hit (by simp) λh1 g1 b1=>?_);show wpAny _ _ (newExc (.type "StopIteration") [] >>= _) _ _ _;refine aa ?_;simp only[newExc,newTuple];refine aa (dg ?_ (by size_fits));refine aa (m:=firstArgMember _ _) (ug (a:=ju) (by first|rfl|(simp only[firstArgMember];rfl)) ?_);refine dg ?_ (by size_fits);simp only[raiseNew];refine aa (wpAny_handled ?_);rw[show A.in1.handled=none from hh];refine aa (ah (wpAny_throw ?_));refine aa (Bc (T := "StopIteration") (b:=true) ⟨_,ax _ rfl,rfl⟩ isSubtype_stop ?_);exact ah (hQ _ ((b1.extBut.push _).push _))
end
section
variable{prog:bh}{w:cn}{A:cf}{E:af->ag->Prop}{s:ag}{a:ai}{kb:KB}{o:Obj}{es:Array (Int×af)}{ep:Nat}{t:iu}
theorem Parts.at' {h h':cu}(P:Parts prog w h a kb o es ep t) (k:h'.get? a=some o):Parts prog w h' a kb o es ep t:=⟨k,P.ex,P.data,P.es,P.tab,P.nd,P.nf,P.led⟩
theorem ZV (hh:A.handled=none) (I:ai) (hne:a≠I):
  Walks prog w A I [I,a] [I] es.size (λi v=>∃x,(iK w a ep es)[i]?=some x/\v=x.2) (λi h=>Parts prog w h a kb o es ep t/\h.get? I=some (jY a (gS w t i) i es.size ep)) where
 sub:=λb hb=>by rw[df.mp hb];exact bc ..
 frame:=λi h h' ⟨p,q⟩ k=>⟨p.at' (k a (by simp) _ p.obj),k I (by simp) _ q⟩
 item:=λi s Q E hi ⟨p,q⟩ hQ=>by
  have hi':i<(iK w a ep es).size:=by rw[xN];exact hi
  have hx:(iK w a ep es)[i]?=some (iK w a ep es)[i]:=gp hi';refine ZT p q hx λh' q' sb=>hQ _ h' s.toks ⟨_,hx,rfl⟩ ⟨p.at' ((sb.2 a hne).trans p.obj),q'⟩ λb o hb e=>?_;exact(sb.2 b λz=>hb (by rw[z];exact bc ..)).trans e
 done:=λs Q E ⟨p,q⟩ hQ=>ZU hh p q rfl λh' x=>hQ h' s.toks λb o hb e=>x b o (λz=>hb (by rw[z];exact bc ..)) e
 self:=λi s Q E ⟨_,q⟩ hQ=>by have hT:s.TypeIs (.ref I) "set_iterator" := ⟨_,q,rfl⟩;refine wpAny_pyIter_slot hT walk_slots.2.2.1 (fv walk_slots.2.2.1 hT ZO ?_ (xM _).2.2);exact ah ⟨_,rfl,"set_iterator",_,⟨_,q,rfl⟩,walk_slots.2.1.lookup,hQ⟩
theorem ZW {S:ai}{n:Nat}{Q:Unit->ag->Prop}(h:s.heap.get? S=some (seqObj "list" #[] n)) (q:∀h' c,h'.get? S=some (seqObj "list" #[] c)->(∀b o,b≠S->s.heap.get? b=some o->h'.get? b=some o)->Q () { s with heap:=h' }):
  wpAny (model prog w) A (xr (.ref S)) Q E s:=by
 unfold xr;refine aa (uv h rfl ?_);have h1:=nh h (λx=>x.push ju);refine uv h1 rfl ?_;have h2:=nh h1 (λx=>x.pop);refine q _ _ h2 λb o hb e=>?_;rw[jo _ _ _ _ hb,jo _ _ _ _ hb];exact e
theorem ZX {Q:List af->ag->Prop}(hh:A.handled=none) (P:Parts prog w s.heap a kb o es ep t) (hn:es.size<=bw)
  (q:∀(h':cu) (tk:Nat),(∀b o,s.heap.get? b=some o->h'.get? b=some o)->s.heap.objs.size<=h'.objs.size->Q ((iK w a ep es).toList.map (·.2)) { s with heap:=h',toks:=tk }):wpAny (model prog w) A (collect (.ref a)) Q E s:=by
 have la:a<s.heap.objs.size:=ar P.obj;have up1:∀b o,s.heap.get? b=some o->(s.heap.push (seqObj "list" #[] 0)).get? b=some o:=λb o e=>aj _ e;have hS1:(s.heap.push (seqObj "list" #[] 0)).get? s.heap.objs.size=some (seqObj "list" #[] 0):=ax _ rfl;have P1:Parts prog w (s.heap.push (seqObj "list" #[] 0)) a kb o es ep t:=P.at' (up1 a o P.obj);have hT1:pj { s with heap:=s.heap.push (seqObj "list" #[] 0) } (.ref a) "set" := ⟨o,P1.obj,P1.ex.1⟩;unfold collect;refine aa (wx (jr entry_proto_collect' ?_));rw[iw F.plain_proto_collect _];refine aa (m:=newList []) (uw (ah ⟨wm _ (by decide +kernel),jr entry_list_iadd' ?_⟩));rw[iw F.plain_list_iadd _];show wpAny _ A.in1 (km (.ref s.heap.objs.size) (.ref a) (.ref s.heap.objs.size)) _ _ { s with heap:=s.heap.push (seqObj "list" #[] 0) };unfold km;refine aa (om hT1 ?_);have ne:wz (.ref s.heap.objs.size) (.ref a)=false:=by simp[wz,jh la]
 rw[if_neg (by rw[ne];decide)];refine aa (ZS P1 ?_);have sz:(s.heap.push (seqObj "list" #[] 0)).objs.size=s.heap.objs.size+1:=vm _ _;rw[sz];have up2:∀b o,(s.heap.push (seqObj "list" #[] 0)).get? b=some o->((s.heap.push (seqObj "list" #[] 0)).push (jY a 0 0 es.size ep)).get? b=some o:=λb o e=>aj _ e;have P2:Parts prog w ((s.heap.push (seqObj "list" #[] 0)).push (jY a 0 0 es.size ep)) a kb o es ep t:=P1.at' (up2 a o P1.obj);have hT2:pj { s with heap:=(s.heap.push (seqObj "list" #[] 0)).push (jY a 0 0 es.size ep) } (.ref a) "set" := ⟨o,P2.obj,P2.ex.1⟩;have hI2:((s.heap.push (seqObj "list" #[] 0)).push (jY a 0 0 es.size ep)).get? (s.heap.objs.size+1)=some (jY a 0 0 es.size ep):=by rw[<-sz];exact ax _ rfl
 refine aa (fz ?_);unfold Builtin.List.listLengthHint;refine aa (wpAny_specialOf hT2 walk_slots.2.2.2.lookup ?_);have spl:splitId "set.__len__" = some ("set","__len__"):=by decide +kernel
 dsimp only;rw[spl];dsimp only;refine aa (Bc (b:=true) hT2 sub_set_self ?_);rw[if_neg (by decide),if_pos (by decide +kernel)];refine aa (om hT2 (ah ?_));rw[if_pos (by decide +kernel)];refine aa (ql ?_);refine aa (ZW (s:={ s with heap:=(s.heap.push (seqObj "list" #[] 0)).push (jY a 0 0 es.size ep) }) (up2 _ _ hS1) λh3 c hS3 up3=>?_);have neS:∀b o,s.heap.get? b=some o->b≠s.heap.objs.size:=λb o e=>az (ar e);have P3:Parts prog w h3 a kb o es ep t:=P2.at' (up3 a o (az la) P2.obj);have hI3:h3.get? (s.heap.objs.size+1)=some (jY a 0 0 es.size ep):=up3 _ _ (nv _) hI2;have hz:gS w t 0=0:=by unfold gS;split <;> rfl
 have hh2:A.in1.handled=none:=by simp[hh]
 have nin:s.heap.objs.size∉[s.heap.objs.size+1,a]:=λm=>by
  rcases ay.mp m with e|m
  ·exact nv _ e.symm
  ·exact jh la (df.mp m)
 refine ah ⟨xq F.plain_extend_loop _,codeAny_extend_loopS (A:=A) ((ZV (kb:=kb) (o:=o) (t:=t) (ep:=ep) (es:=es) hh2 (s.heap.objs.size+1) (a:=a) (az (ik la))).toS) hn s.heap.objs.size nin _ es.size 0 { s with heap:=h3 } #[] c rfl (jc _)
  ⟨P3,by rw[hz];exact hI3⟩ hS3 (ItemsOf.nil _) λs' acc c' mv hS' ia=>?_⟩
 have eacc:acc.toList=(iK w a ep es).toList.map (·.2):=by
  apply pf
  intro i;rw[ly,fe,ly]
  cases q:acc[i]? with
  |some v=>obtain⟨x,h1,h2⟩:=ia.2 i v q;rw[h1,h2];rfl
  |none=>have h1:acc.size<=i:=Array.getElem?_eq_none_iff.mp q;rw[ue (by rw[xN,<-ia.1];exact h1)];rfl
 obtain⟨hp,gs,dr,tk,os⟩:=s';have e1:gs=s.gens:=mv.gens;have e2:dr=s.drawn:=mv.drawn;have e3:os=s.os:=mv.os;subst e1;subst e2;subst e3;show wpAny _ A (load s.heap.objs.size >>= _) _ _ _;refine aa (wpAny_load hS' (ah ?_));rw[eacc];refine q hp tk (λb o e=>mv.heap b o (λm=>?_) (up3 b o (neS b o e) (up2 b o (up1 b o e)))) (ic (ar hS'))
 rcases ay.mp m with z|m
 ·exact neS b o e z
 ·exact az (ik (ar e)) (df.mp m)
end
open PySem.W SoM L2
section
variable{prog:bh}{w:cn}{A:cf}{E:af->ag->Prop}{s:ag}
theorem L8 {fin:Bool}{Q:Bool->ag->Prop}:∀{kx ky:List Int}{vx vy:List af}(i:Nat),ItemsAre (intKind prog w) kx vx->ItemsAre (intKind prog w) ky vy->fin=decide (vx.length<vy.length)->Q (cO kx ky) s->KatLex prog w A true fin Q (vx.zip vy) i s
 |_,_,_,_,i,.nil,.nil,hf,h=>by subst hf;exact kat_nil h
 |_,_,_,_,i,.nil,.cons _ _,hf,h=>by subst hf;refine kat_nil ?_;rw[decide_eq_true (by simp)];exact h
 |_,_,_,_,i,.cons _ _,.nil,hf,h=>by subst hf;refine kat_nil ?_;rw[decide_eq_false (by simp)];exact h
 |_,_,_,_,i,.cons (k:=a) hu hx,.cons (k:=b) hv hy,hf,h=>by
  obtain⟨t,rfl⟩:=pb hu;obtain⟨t',rfl⟩:=pb hv;refine kat_cons (Aa (kat_go (λe=>?_) λe=>?_))
  ·refine kat_yes (L8 (i+1) hx hy (hf.trans (by simp)) ?_);rw[cO,if_pos e]at h;exact h
  ·have h':Q (decide (a<b)) s:=by rw[cO,if_neg (by rw[e];simp)]at h;exact h
   refine kat_no ?_
   cases q:i==0 with
   |true=>exact oneLt_int h'
   |false=>exact kat_one _ _ (yk h')
theorem ZY {x y:ai}{kx ky:List Int}{Q:Bool->ag->Prop}(hx:gu (intKind prog w) s.heap kx x) (hy:gu (intKind prog w) s.heap ky y) (h:Q (cO kx ky) s):wpAny (model prog w) A (keyLt' (tuples' true) (.ref x) (.ref y)) Q E s:=by obtain⟨ox,ix,nx,e1,_,d1,i1⟩:=hx;obtain⟨oy,iy,ny,e2,_,d2,i2⟩:=hy;exact kat_lt e1 d1 e2 d2 (L8 0 i1 i2 (by simp) h)
def KeysAt (prog:bh) (w:cn) (h:cu) (n:Nat) (ad:Nat->ai) (ky:Nat->List Int):Prop:=∀i,i<n->gu (intKind prog w) h (ky i) (ad i)/\ky i≠[]
def bV (n:Nat) (ad:Nat->ai):List af:=(bf n).map λi=>.ref (ad i)
theorem kS (n:Nat) (ad:Nat->ai):(bV n ad).length=n:=by simp[bV]
theorem CV {n:Nat}{ad:Nat->ai}{i:Nat}(h:i<n):(bV n ad).getD i ju=.ref (ad i):=by simp[bV,h]
theorem L9:∀(l:List Nat) {ad:Nat->ai}{ky:Nat->List Int},(∀i∈l,gu (intKind prog w) s.heap (ky i) (ad i)/\ky i≠[])->∃fs:List af,KatTups s.heap (l.map λi=>.ref (ad i)) fs/\fs.length=l.length/\∀v∈fs,∃a t,v=.int a t
 | [],_,_,_=>⟨[],trivial,rfl,by simp⟩
 |i::l,ad,ky,h=>by
  obtain⟨fs,t,hl,hv⟩:=L9 l (ad:=ad) (ky:=ky) λj hj=>h j (ao _ hj);obtain⟨⟨o,its,n,e,c,d,r⟩,ne⟩:=h i (bc ..)
  cases q:its.toList with
  |nil=>rw[q]at r;cases hk:ky i with
   |nil=>exact absurd hk ne
   |cons a b=>rw[hk]at r;cases r
  |cons v vs=>
   rw[q]at r
   cases hk:ky i with
   |nil=>exact absurd hk ne
   |cons a b=>
    rw[hk]at r
    cases r with
    |cons hu _=>
     obtain⟨tk,rfl⟩:=pb hu;refine⟨.int a tk::fs,KatTups.cons e c d (by rw[<-ly,q];rfl) t,by simp[hl],λv hv'=>?_⟩
     rcases ay.mp hv' with rfl|hv'
     ·exact⟨_,_,rfl⟩
     ·exact hv v hv'
theorem ZZ {n:Nat}{ad:Nat->ai}{ky:Nat->List Int}{G:Array Nat->ag->Prop}(h2:2<=n) (hk:KeysAt prog w s.heap n ad ky)
  (h:∀p,Ent n p->gQ cO (p.toList.map ky)->G p s):
  wpAny (model prog w) A (keyKind' (bV n ad).toArray) (λκ s'=>(kas_sort (bV n ad).length).kasWp (kas_ask prog w A κ (bV n ad)) G s') (λ_ _=>False) s:=by
 obtain⟨fs,t,hl,hv⟩:=L9 (prog:=prog) (w:=w) (s:=s) (bf n) (ad:=ad) (ky:=ky) λi hi=>hk i (br.mp hi);refine kat_kind (T:=.type "int") t (by rw[hl,my];omega) (λv hv'=>?_) (by decide) ?_
 ·obtain⟨a,tk,rfl⟩:=hv v hv';exact .now
 ·rw[kS]
  let ks:=(bf n).map ky
  have mem:∀i,i<n->ky i∈ks:=λi hi=>de.mpr ⟨i,br.mpr hi,rfl⟩;refine K1 (n:=n) (f:=λi=>rk cO ks (ky i)) (I:=λs'=>s'=s) (λi j C s' hs hi hj hC=>?_) (kas_sort n) (λp=>Ent n p/\gQ cO (p.toList.map ky)) G s s (YR (by omega) λp e inc=>⟨e, ?_⟩) rfl λp s' hp hs=>by subst hs;exact h p hp.1 hp.2
  ·subst hs;show wpAny (model prog w) A (keyLt' (tuples' true) ((bV n ad).getD i ju) ((bV n ad).getD j ju)) C (λ_ _=>False) s';rw[CV hi,CV hj];refine ZY (hk i hi).1 (hk j hj).1 ?_;have:=hC s' rfl;rwa [K7 stoL (mem i hi)]at this
  ·refine ie.mpr λi j hi hj hij=>?_;have hj':j<p.size:=by simpa using hj
   have hi':i<p.size:=by omega
   have z:=inc i j (ic hij) (by rw[<-e.1];exact hj');unfold SoM.F at z;have ei:p.getD i 0=p[i]:=by simp[kr,hi']
   have ej:p.getD j 0=p[j]:=by simp[kr,hj']
   rw[ei,ej]at z;have lt:∀k (hk:k<p.size),p[k]<n:=λk hk=>br.mp (e.2.mem_iff.mp (by simp));have:=YT stoL (mem _ (lt j hj')) z;simpa using this
end
section
variable{prog:bh}{w:cn}{A:cf}{E:af->ag->Prop}{s:ag}
abbrev pV (h h':cu):Prop:=∀b o,h.get? b=some o->h'.get? b=some o
def Sorted (n:Nat) (ad:Nat->ai) (ky:Nat->List Int) (out:List af):Prop:=∃p:List Nat,p.Perm (bf n)/\gQ cO (p.map ky)/\out=p.map λi=>.ref (ad i)
theorem Sorted.len {n:Nat}{ad:Nat->ai}{ky:Nat->List Int}{out:List af}(h:Sorted n ad ky out):out.length=n:=by obtain⟨p,pp,_,e⟩:=h;rw[e,bj,pp.length_eq,my]
theorem KeysAt.keep {h h':cu}{n:Nat}{ad:Nat->ai}{ky:Nat->List Int}(k:KeysAt prog w h n ad ky) (g:∀i,i<n->∀o,h.get? (ad i)=some o->h'.get? (ad i)=some o):KeysAt prog w h' n ad ky:=λi hi=>⟨xK (k i hi).1 (g i hi),(k i hi).2⟩
theorem Z0 {a:ai}{n c:Nat}{ad:Nat->ai}{ky:Nat->List Int}{P:Fin->ag->Prop}(ho:s.heap.get? a=some (seqObj "list" (bV n ad).toArray c)) (h64:n<64) (hk:KeysAt prog w s.heap n ad ky)
  (q:∀h' e out,Sorted n ad ky out->h'.get? a=some (seqObj "list" out.toArray e)->(∀b o,b≠a->s.heap.get? b=some o->h'.get? b=some o)->P (.done (.ret .none)) { s with heap:=h' }):
  wpAny (model prog w) A (mr.«list.sort» ⟨[.ref a],[]⟩) P E s:=by
 have la:a<s.heap.objs.size:=ar ho;obtain⟨e1,g1⟩:∃e1,(s.heap.update a (ou λ_=>(#[]:Array af))).get? a=some (seqObj "list" #[] e1):=⟨_,nh ho λ_=>#[]⟩
 have k1:∀b o,b≠a->s.heap.get? b=some o->(s.heap.update a (ou λ_=>(#[]:Array af))).get? b=some o:=λb o hb e=>by rw[jo _ _ _ _ hb];exact e
 generalize hH1:s.heap.update a (ou λ_=>(#[]:Array af))=H1 at g1 k1;have k3:pV H1 ((H1.push (seqObj "tuple" (bV n ad).toArray 0)).push (seqObj "list" #[] 0)):=λb o e=>aj _ (aj _ e);have ne:∀i,i<n->ad i≠a:=λi hi e=>by obtain⟨⟨o,its,m,e1,c1,_⟩,_⟩:=hk i hi;rw[e,ho]at e1;cases e1;exact absurd (Value.type.inj c1) (by decide)
 have K3:KeysAt prog w ((H1.push (seqObj "tuple" (bV n ad).toArray 0)).push (seqObj "list" #[] 0)) n ad ky:=hk.keep λi hi o e=>k3 _ o (k1 _ o (ne i hi) e);have g3:=k3 a _ g1;have kk:∀b o,b≠a->s.heap.get? b=some o->((H1.push (seqObj "tuple" (bV n ad).toArray 0)).push (seqObj "list" #[] 0)).get? b=some o:=λb o hb e=>k3 b o (k1 b o hb e);have sl:n<=bw:=by rw[jn];omega
 have fin:∀(out:List af),Sorted n ad ky out->wpAny (model prog w) A (do
   let touched:=(<-seqEpoch a) != e1
   Builtin.List.listUpdate (.ref a) λ_=>out.toArray
   if let some e:=(none:Option af)then rule "list.sort.comparison-raised"; throw e
   if touched then rule "list.sort.modified"; raiseError "ValueError" "list modified during sort"
   ret .none) P E { s with heap:=(H1.push (seqObj "tuple" (bV n ad).toArray 0)).push (seqObj "list" #[] 0) }:=λout ho'=>by
  refine aa (seqEpoch_at g3 rfl ?_);refine aa (uv g3 rfl ?_ (jc _) (by rw[av,ho'.len];omega));simp only[bne_self_eq_false,cp,if_false];exact ah (q _ _ out ho' (nh g3 λ_=>out.toArray) λb o hb e=>by rw[jo _ _ _ _ hb];exact kk b o hb e)
 generalize hH3:(H1.push (seqObj "tuple" (bV n ad).toArray 0)).push (seqObj "list" #[] 0)=H3 at k3 K3 g3 kk fin;rw[list_sort_plain];refine aa (listItems_at ho rfl (aa (uv ho rfl ?_ (by rw[av,kS];exact sl) (jc _))));rw[hH1];refine aa (seqEpoch_at g1 rfl (aa (wpAny_newTuple (aa (uw (fz ?_) (jc _))) (by show(bV n ad).length<=_;rw[kS];exact sl))));show wpAny (model prog w) A _ P E { s with heap:=(H1.push (seqObj "tuple" (bV n ad).toArray 0)).push (seqObj "list" #[] 0) };rw[hH3];have hz:(bV n ad).toArray.size=n:=by rw[av,kS]
 dsimp only
 by_cases h2:n<2
 ·rw[if_pos (by rw[hz];exact h2),if_pos (by rw[hz];exact h2)];refine aa (ah ?_);rw[StateT.run_pure];refine aa (ah ?_);have e:(arrOf (SortSt.mk' general' ((bV n ad).toArray.zip (bV n ad).toArray) #[] 7 none)).map (·.2)=(bV n ad).toArray:=by show(((bV n ad).toArray.zip (bV n ad).toArray)).map (·.2)=_;rw[Array.map_snd_zip (ak _)]
  dsimp only;rw[e];refine fin _ ⟨bf n,.refl _, ?_,rfl⟩;refine ie.mpr λi j hi hj hij=>?_;rw[bj,my]at hj;omega
 ·have h2':2<=n:=by omega
  rw[if_neg (by rw[hz];exact h2),if_neg (by rw[hz];exact h2)];refine aa (mf (ZZ (A:=A) (s:={ s with heap:=H3 }) (G:=λp s'=>s'={ s with heap:=H3 }/\Ent n p/\gQ cO (p.toList.map ky)) h2' K3 λp e r=>⟨rfl,e,r⟩) (λκ s0 hκ=>?_) λ_ _ x=>x.elim);refine aa (mf (kat_run (ks:=bV n ad) (vs:=bV n ad) (Q:=λst' s'=>∃p:Array Nat,p.size=(bV n ad).length/\arrOf st'=p.map (kas_item ((bV n ad).toArray.zip (bV n ad).toArray))/\failedOf st'=none/\s'={ s with heap:=H3 }/\Ent n p/\gQ cO (p.toList.map ky))
   rfl (by rw[kS];exact h2') (by rw[kS];exact h64) (λp st' s' z1 z2 z3 z4=>⟨p,z1,z2,z3,z4⟩) hκ) ?_ λ_ _ e=>e)
  rintro ⟨⟨⟩,st'⟩ s' ⟨p,_,z2,z3,rfl,z5,z6⟩
  dsimp only;rw[kat_snds rfl z2,z3];have e:(p.toList.map λi=>(bV n ad).getD i ju)=p.toList.map λi=>.ref (ad i):=List.map_congr_left λi hi=>CV (br.mp (z5.2.mem_iff.mp hi));rw[e];exact fin _ ⟨p.toList,z5.2,z6,rfl⟩
theorem Z1 {x:af}{n:Nat}{ad:Nat->ai}{ky:Nat->List Int}{Q:af->ag->Prop}(h64:n<64) (hk:KeysAt prog w s.heap n ad ky)
  (hc:∀(Q':List af->ag->Prop) (E':af->ag->Prop),(∀h' tk,pV s.heap h'->s.heap.objs.size<=h'.objs.size->Q' (bV n ad) { s with heap:=h',toks:=tk })->wpAny (model prog w) A.in1 (collect x) Q' E' s)
  (q:∀h' tk D e out,Sorted n ad ky out->s.heap.objs.size<=D->h'.get? D=some (seqObj "list" out.toArray e)->pV s.heap h'->Q (.ref D) { s with heap:=h',toks:=tk }):
  wpAny (model prog w) A (call (.builtin "sorted") [x]) Q E s:=by
 refine zy kind_sorted plain_sorted entry_sorted (args_sorted1 _) ?_;unfold mr.«sorted»;refine aa (m:=checkCount "sorted" 1 1 _) (ah (aa (hc _ _ λh1 tk k1 sz=>aa (uw ?_ (by rw[kS,jn];omega)))));have g:(h1.push (seqObj "list" (bV n ad).toArray 0)).get? h1.objs.size=some (seqObj "list" (bV n ad).toArray 0):=ax _ rfl;have k2:pV s.heap (h1.push (seqObj "list" (bV n ad).toArray 0)):=λb o e=>aj _ (k1 b o e);refine aa (fz (fv slot_list_sort ⟨_,g,rfl⟩ entry_list_sort (Z0 (s:={ s with heap:=h1.push (seqObj "list" (bV n ad).toArray 0),toks:=tk }) g h64 (hk.keep λi hi o e=>k2 _ o e) λh' e out so ho ke=>⟨_,rfl, ?_⟩) (args_list_sort _)));exact ah ⟨_,rfl,q h' tk h1.objs.size e out so sz ho λb o e=>ke b o (az (aw (ar e) sz)) (k2 b o e)⟩
end
def bare (w:cn):Obj:={ cls:=.type "set",dict:=none,data:=.set #[] 0 (.fresh 0 0 (!w.params.followText "set-order")) }
section
variable{prog:bh}{w:cn}{A:cf}{E:af->ag->Prop}{s:ag}
theorem Z2 {h:cu}{a:ai}(e:h.get? a=some (bare w)):kR prog w h a []:=by
 have tok:∀led:Bool,TOk (.fresh 0 0 led) []:=λled=>⟨rfl,.nil,rfl,(λj hj=>nomatch hj),jc _,.inl rfl,(λi h j e=>nomatch e),rfl⟩
 exact⟨bare w,#[],0,_,e,⟨rfl,rfl,rfl⟩,rfl,rfl,tok _,.nil,(by show 0*5<7*3;decide),rfl⟩
theorem MA (a:af) {Q:af->ag->Prop}(q:Q (.ref s.heap.objs.size) { s with heap:=s.heap.push (bare w) }):
  codeAny (model prog w) A (.call (.builtin "set.__new__") ⟨[.type "set",a],[]⟩) (wants Q E) s:=by
 refine oh F.plain_set_new F.entry_set_new (ug (F.newCall_set_1 a) ?_);have self:=sub_set_self;unfold mr.«set.__new__» Builtin.Frozenset.newClass;cases s
 wp_walk
 exact oq (ah (aa (wpAny_alloc (ah (ah q)))))
theorem MB {v:af}{Q N:af->ag->Prop}(hn:codeAny (model prog w) A.in1 (.call (.builtin "set.__new__") ⟨[.type "set",v],[]⟩) (wants N E) s)
  (hi:∀x s1,N x s1->s1.TypeIs x "set"/\codeAny (model prog w) A.in1 (.call (.builtin "set.__init__") ⟨[x,v],[]⟩) (wants (λr s2=>r=.none/\Q x s2) E) s1):wpAny (model prog w) A (call (.type "set") [v]) Q E s:=by
 have f:=F.called_set;obtain⟨_,_,fm⟩:=f.mro;have fd:=f.made;have fs:=f.sub;have ft:=f.notType;have fc:=f.canCreate;have fk:=F.typeCall_set_1 v;have fl:=f.init.lookup;have q:(Code.builtin "type.__call__" ⟨[.type "set",v],[]⟩).quiet=true:=wm _ (by decide +kernel);refine yc (codeAny_of_tree (ah ⟨q,jr F.entry_type_call ?_⟩));rw[Around.under_plain (weight_type_call_type "set" [v] []) rfl]
 repeat (any_goals (first|assumption|wp_step))
 refine pz hn ?_
 rintro (e|fl1) s1 h1
 ·exact h1
 ·cases fl1 <;> try exact h1.elim
  rename_i x;obtain⟨hx,hr⟩:=hi x s1 h1;have fb:=f.init.bind x
  repeat (any_goals (first|assumption|wp_step))
  refine pz hr ?_
  rintro (e|fl2) s2 h2
  ·exact h2
  ·cases fl2 <;> try exact h2.elim
   obtain⟨rfl,h3⟩:=h2
   repeat (any_goals (first|assumption|wp_step))
theorem MD {l:ai}{T:String}{it:Obj}{n:Nat}{P:Nat->af->Prop}{St:Nat->cu->Prop}{fp wr:List ai}(ad:Nat->ai) (ky:Nat->List Int) (U:List (List Int)) {Q:af->ag->Prop}
  (hu:A.units+8<cLine) (hT:s.TypeIs (.ref l) T) (n1:isSubtype (.type T) (.type "set")=pure false) (n2:isSubtype (.type T) (.type "frozenset")=pure false) (n3:(vq T==vq "dict")=false)
  (hi:∀(B:cf) (Q':af->ag->Prop) (E':af->ag->Prop),Q' (.ref (s.heap.objs.size+1)) { s with heap:=(s.heap.push (bare w)).push it }->wpAny (model prog w) B (pyIter (.ref l)) Q' E' { s with heap:=s.heap.push (bare w) })
  (W:Walks prog w A.in1.in1.in1 (s.heap.objs.size+1) fp wr n P St) (hfp:s.heap.objs.size∉fp) (hwr:∀b∈wr,s.heap.objs.size<b) (h0:St 0 ((s.heap.push (bare w)).push it))
  (hval:∀i v,P i v->v=.ref (ad i)) (hU:U.length<=76) (hky:∀i,i<n->ky i∈U) (hkeys:∀j,j<n->gu (intKind prog w) s.heap (ky j) (ad j))
  (q:∀(h':cu) (tk:Nat) kb,kR prog w h' s.heap.objs.size kb->Upto ky ad n kb->(∀b o,s.heap.get? b=some o->h'.get? b=some o)->Q (.ref s.heap.objs.size) { s with heap:=h',toks:=tk }):
  wpAny (model prog w) A (call (.type "set") [.ref l]) Q E s:=by
 refine MB (N:=λx s1=>x=.ref s.heap.objs.size/\s1={ s with heap:=s.heap.push (bare w) }) (MA _ ⟨rfl,rfl⟩) ?_
 rintro x s1 ⟨rfl,rfl⟩
 have up:∀b o,s.heap.get? b=some o->(s.heap.push (bare w)).get? b=some o:=λb o e=>aj _ e;have hb:(s.heap.push (bare w)).get? s.heap.objs.size=some (bare w):=ax _ rfl;have hS:pj { s with heap:=s.heap.push (bare w) } (.ref s.heap.objs.size) "set" := ⟨_,hb,rfl⟩;refine⟨hS,oh F.called_set.init.plain F.entry_set_init (check_set_init_1 hS ?_)⟩;obtain⟨ol,el,cl⟩:=hT;have hl1:pj { s with heap:=s.heap.push (bare w) } (.ref l) T:=⟨ol,up l ol el,cl⟩
 have lt:∀j,j<n->ad j<s.heap.objs.size:=λj hj=>let ⟨_,_,_,e,_⟩:=hkeys j hj;ar e;have hb2:((s.heap.push (bare w)).push it).get? s.heap.objs.size=some (bare w):=aj _ hb;have run:∀(R:yb->ag->Prop),(∀h' tk kb,kR prog w h' s.heap.objs.size kb->Upto ky ad n kb->(∀b o,s.heap.get? b=some o->h'.get? b=some o)->R (.ok (.ret .none)) { s with heap:=h',toks:=tk })->
   codeAny (model prog w) A.in1.in1 (.builtin "set.update.loop" ⟨[.ref s.heap.objs.size,.ref (s.heap.objs.size+1)],[]⟩) R { s with heap:=(s.heap.push (bare w)).push it }:=λR hR=>by
  refine ZM W s.heap.objs.size hfp ad ky hval (by show A.units+1+1+2<cLine;omega) U hU hky (λj hj=>⟨az (lt j hj),λm=>Cn (lt j hj) (hwr _ m)⟩) n 0 _ [] rfl (jc _) h0 (Z2 hb2)
   ⟨(λp hp=>nomatch hp),λj hj=>absurd hj (Nat.not_lt_zero j)⟩ (λj hj=>xK (hkeys j hj) λo e=>aj _ (up _ o e)) λh' tk kb keep S u=>hR h' tk kb S u λb o e=>?_
  have hlt:=ar e;exact keep b o (λm=>(ay.mp m).elim (az hlt) λm=>Cn hlt (hwr b m)) (aj _ (up b o e))
 unfold mr.«set.__init__» noKeywords ux;generalize hPI:pyIter=PI;unfold bare at hb
 wp_walk
 subst hPI;refine hi _ _ _ ?_;refine aa (wx (run _ λh' tk kb S u keep=>?_));exact ah (ah ⟨rfl,q h' tk kb S u keep⟩)
end
end SR
namespace L2.Mr
open PySem PySem.Spec PyProof.Rows SR
def TupsAre (H:Hp):List V->List (List Int)->Prop
 | [],[]=>True
 |v::vs,k::ks=>(∃b,v=.ref b/\H b=some (.tup (k.map V.int)))/\TupsAre H vs ks
 |_,_=>False
def Z3:V->ai
 | .ref b=>b
 |_=>0
def fI (vs:List V) (i:Nat):ai:=Z3 (vs.getD i .non)
section
variable{X:Cx}{pins:List (ai×Obj)}{σ:St}{H H':Hp}{s:ag}
theorem TupsAre.len:∀{vs:List V}{ks:List (List Int)},TupsAre H vs ks->vs.length=ks.length
 | [],[],_=>rfl
 | [],_::_,h=>h.elim
 |_::_,[],h=>h.elim
 |v::vs,k::ks,h=>by rw[dj,dj,TupsAre.len h.2]
theorem TupsAre.at_:∀{vs:List V}{ks:List (List Int)}{i:Nat},TupsAre H vs ks->i<ks.length->vs[i]?=some (.ref (fI vs i))/\H (fI vs i)=some (.tup ((ks.getD i []).map V.int))
 | [],[],_,_,h=>by simp at h
 | [],_::_,_,h,_=>h.elim
 |_::_,[],_,h,_=>h.elim
 |v::vs,k::ks,0,h,_=>by obtain⟨⟨b,rfl,e⟩,_⟩:=h;exact⟨rfl,e⟩
 |v::vs,k::ks,i+1,h,hi=>by
  obtain⟨e1,e2⟩:=TupsAre.at_ (i:=i) h.2 (by simpa using hi);have ea:fI (v::vs) (i+1)=fI vs i:=by simp[fI]
  exact⟨by rw[ea];simpa using e1,by rw[ea];simpa using e2⟩
theorem ME:∀{k:List Int}{its:List af}{prog:bh}{w:cn},Vals (k.map V.int) its->ItemsAre (intKind prog w) k its
 | [],_,_,_,.nil=>.nil
 |n::k,_,_,_,.cons h1 h2=>by obtain⟨t,rfl⟩:=h1;exact .cons (intKind_is _ _ _ _) (ME h2)
theorem CW (I:Inv X pins σ H s) {b:ai}{k:List Int}(e:H b=some (.tup (k.map V.int))):gu (intKind X.prog X.w) s.heap k b:=by obtain⟨_,its,r,o,e1,c,_,n,d⟩:=I.hok b _ e;exact⟨o,its.toArray,n,e1,c,d,ME r⟩
theorem MF {vs:List V}{ks:List (List Int)}{its:List af}(h:TupsAre H vs ks) (r:Vals vs its):its=bV ks.length (fI vs):=by
 have hl:=r.length;have hl2:=h.len
 apply pf
 intro i
 by_cases hi:i<ks.length
 ·obtain⟨e1,_⟩:=h.at_ hi;obtain⟨u,e2,e3⟩:=r.get e1;cases e3;rw[e2];simp[bV,hi]
 ·rw[Co (by omega),Co (by rw[kS];omega)]
theorem Z4 {n:Nat}{ad:Nat->ai}{ky:Nat->List Int}{out:List af}(so:Sorted n ad ky out) (hH:∀i,i<n->H (ad i)=some (.tup ((ky i).map V.int))):
  ∃(p:List Nat) (vs':List V),p.Perm (bf n)/\gQ cO (p.map ky)/\Vals vs' out/\TupsAre H vs' (p.map ky):=by
 obtain⟨p,pp,r,rfl⟩:=so;refine⟨p,p.map λi=>V.ref (ad i),pp,r, ?_, ?_⟩
 ·clear pp r
  induction p with
  |nil=>exact .nil
  |cons i p ih=>exact .cons rfl ih
 ·have:∀q:List Nat,(∀i∈q,i<n)->TupsAre H (q.map λi=>V.ref (ad i)) (q.map ky):=λq=>by
   induction q with
   |nil=>intro _;trivial
   |cons i q ih=>exact λh=>⟨⟨_,rfl,hH i (h i (bc ..))⟩,ih λj hj=>h j (ao _ hj)⟩
  exact this p λi hi=>br.mp (pp.mem_iff.mp hi)
theorem Z5 {α:Type}{p:List Nat}{n:Nat}{l:List α}{d:α}(h:p.Perm (bf n)) (hl:l.length=n):(p.map λi=>l.getD i d).Perm l:=by
 refine(h.map _).trans ?_;have:(bf n).map (λi=>l.getD i d)=l:=by
  apply List.ext_getElem (by simp[hl])
  intro i h1 h2;simp[h2]
 rw[this]
def xO (prog:bh) (w:cn) (l:ai) (o:Obj) (kb:KB):Prop:=∃es ep t,∀h:cu,h.get? l=some o->Parts prog w h l kb o es ep t
structure KbOk (H:Hp) (kb:KB) (ks:List (List Int)):Prop where
 tup:∀p∈kb,H p.2=some (.tup (p.1.map V.int))
 frm:∀p∈kb,p.1∈ks
 all:∀k∈ks,k∈kb.map fg
abbrev MG (X:Cx):List V->Hp->VK->Prop:=λxs H Q=>∃(p:ai) (vs:List V) (ks:List (List Int)),xs=[.ref p]/\H p=some (.lst vs)/\TupsAre H vs ks/\(dU cO ks).length<=76/\∀l o kb,H l=none->xO X.prog X.w l o kb->KbOk H kb ks->Q (.ref l) (upd H l (.frz o (.own 0)))
theorem sub_list:isSubtype (.type "list") (.type "set")=pure false/\isSubtype (.type "list") (.type "frozenset")=pure false:=⟨F.sub_list_set,F.sub_list_frozenset⟩
theorem Z6 {k:Nat}(rm:Room k X.A):CallR X (.type "set") (MG X):=by
 intro pins s σ H xs us Q I rv ⟨p,vs,ks,e,hp,ht,hU,q⟩;subst e;obtain⟨u,rfl,ru⟩:=hJ rv;cases ru;obtain⟨its,rits,pl,hz⟩:=I.list (SqL.of hp);have hits:=MF ht rits;have lp:=I.hok.lt hp;have hI:s.heap.IsList p (bV ks.length (fI vs)).toArray:=by rw[<-hits];exact pl.isList
 have hsz:(bV ks.length (fI vs)).toArray.size=ks.length:=by rw[av,kS]
 have hh:X.A.in1.in1.in1.handled=none:=rm.hd;have hne:p≠s.heap.objs.size+1:=az (ik lp);have hb:(s.heap.push (bare X.w)).IsList p (bV ks.length (fI vs)).toArray:=hI.push _;have hs1:(s.heap.push (bare X.w)).objs.size=s.heap.objs.size+1:=vm _ _;have W:=we (prog:=X.prog) (w:=X.w) (A:=X.A.in1.in1.in1) hh (s.heap.objs.size+1) p hne (bV ks.length (fI vs)).toArray;rw[hsz]at W;refine MD (T := "list") (it:={ cls:=.type "list_iterator",data:=.fields #[.ref p,.int 0 0] }) (fI vs) (λi=>ks.getD i []) (dU cO ks) (by have:=rm.un;omega) hI.typeIs sub_list.1 sub_list.2 (by decide) (λB Q' E' hQ=>?_) W ?_ ?_ ?_ (λi v hv=>?_) hU (λi hi=>?_) (λj hj=>?_) λh' tk kb hS hup k=>?_
 ·refine nq hb ?_;rw[<-hs1]at hQ;exact hQ
 ·intro m
  rcases ay.mp m with z|m
  ·exact nv _ z.symm
  ·exact jh lp (df.mp m)
 ·intro b hb;rw[df.mp hb];exact jv _
 ·refine⟨⟨{ cls:=.type "list_iterator",data:=.fields #[.ref p,.int 0 0] }, ?_,rfl,rfl⟩,hb.push _⟩;rw[<-hs1];exact ax _ rfl
 ·have hi:i<ks.length:=by have:=(du.mp hv).1;rwa [hsz]at this
  have:(bV ks.length (fI vs))[i]?=some (.ref (fI vs i)):=by simp[bV,hi]
  rw[Cp,this]at hv;exact(cq hv).symm
 ·refine(mZ stoL _ _).mpr ?_;show ks.getD i []∈ks;simp[hi]
 ·exact CW I (ht.at_ hj).2
 ·obtain⟨o,es,ep,t,P⟩:=hS;refine⟨.ref s.heap.objs.size,_,I.laid (t':=tk) (o:=.frz o (.own 0)) k (ak _) ⟨P.obj,o,P.obj⟩,rfl,q _ o kb (I.hok.fresh (ak _)) ⟨es,ep,t,λh e=>P.at' e⟩ ⟨λz hz=>?_,λz hz=>?_,λz hz=>?_⟩⟩
  ·obtain⟨j,hj,rfl⟩:=hup.from_ z hz;exact(ht.at_ hj).2
  ·obtain⟨j,hj,rfl⟩:=hup.from_ z hz;show ks.getD j []∈ks;simp[hj]
  ·obtain⟨j,hj,rfl⟩:=kh hz;have:=hup.all j hj;simpa[hj]using this
abbrev MH (X:Cx):List V->Hp->VK->Prop:=λxs H Q=>∃(l:ai) (o:Obj) (kb:KB) (ks:List (List Int)),xs=[.ref l]/\H l=some (.frz o (.own 0))/\xO X.prog X.w l o kb/\KbOk H kb ks/\(∀k∈ks,k≠[])/\(dU cO ks).length<64/\∀D vs',H D=none->TupsAre H vs' (dU cO ks)->Q (.ref D) (upd H D (.lst vs'))
theorem Z7 {α β:Type}{f:α->β}:∀{l:List β}{l':List β},l.Perm l'->∀xs:List α,l'=xs.map f->∃ys:List α,ys.Perm xs/\l=ys.map f:=by
 intro l l' h
 induction h with
 |nil=>intro xs e;exact⟨xs,.refl _,e⟩
 |cons a _ ih=>
  intro xs e
  cases xs with
  |nil=>cases e
  |cons x xs=>simp only[dk,Cv]at e;obtain⟨ys,p,e'⟩:=ih xs e.2;exact⟨x::ys,p.cons x,by simp[e.1,e']⟩
 |swap a b l=>
  intro xs e
  cases xs with
  |nil=>cases e
  |cons x xs=>
   cases xs with
   |nil=>simp at e
   |cons y xs=>simp only[dk,Cv]at e;exact⟨y::x::xs,.swap ..,by simp[e.1,e.2.1,e.2.2]⟩
 |trans _ _ ih1 ih2=>intro xs e;obtain⟨ys,p,e'⟩:=ih2 xs e;obtain⟨zs,p',e''⟩:=ih1 ys e';exact⟨zs,p'.trans p,e''⟩
theorem Z8 {k:Nat}(rm:Room k X.A):CallR X (.builtin "sorted") (MH X):=by
 intro pins s σ H xs us Q I rv ⟨l,o,kb,ks,e,hl,⟨es,ep,t,hP⟩,kO,ne,h64,q⟩;subst e;obtain⟨u,rfl,ru⟩:=hJ rv;cases ru;have P:=hP s.heap (I.hok l _ hl).1;have pe:(iK X.w l ep es).toList.Perm (gR X.prog X.w kb):=by rw[<-P.es];exact L6 _ _ _ _
 obtain⟨kc,pk,ek⟩:=Z7 pe kb rfl;have mem:∀i,i<kc.length->kc.getD i ([],0)∈kb:=λi hi=>pk.mem_iff.mp (by simp[hi]);have hn:(kb.map fg).length=(dU cO ks).length:=by refine List.Perm.length_eq ((qw P.nd (uC stoL (uB stoL ks))).mpr λz=>?_);rw[mZ stoL];refine⟨λh=>?_,λh=>kO.all z h⟩;obtain⟨p,hp,rfl⟩:=de.mp h;exact kO.frm p hp
 have hlen:kc.length<64:=by rw[pk.length_eq];rw[bj]at hn;omega
 have hes:es.size=kc.length:=by rw[P.size,pk.length_eq]
 have KA:KeysAt X.prog X.w s.heap kc.length (λi=>(kc.getD i ([],0)).2) (λi=>(kc.getD i ([],0)).1):=λi hi=>⟨CW I (kO.tup _ (mem i hi)),ne _ (kO.frm _ (mem i hi))⟩
 have er:(iK X.w l ep es).toList.map (·.2)=bV kc.length (λi=>(kc.getD i ([],0)).2):=by
  rw[ek,nr]
  apply List.ext_getElem (by simp[kS])
  intro i h1 h2;have hi:i<kc.length:=by simpa using h1
  simp[bV,hi]
 refine Z1 hlen KA (λQ' E' hQ=>?_) λh' tk D e out so hD ho k=>?_
 ·refine ZX (show X.A.in1.handled=none from rm.hd) P (by rw[hes,jn];omega) λh' tk kk sz=>?_;rw[er];exact hQ h' tk kk sz
 ·obtain⟨pp,vs',h1,h2,h3,h4⟩:=Z4 (H:=H) so λi hi=>kO.tup _ (mem i hi);have pm:(pp.map λi=>(kc.getD i ([],0)).1).Perm (kb.map fg):=by have:=((Z5 (d:=(([],0):List Int×ai)) h1 rfl).trans pk).map fg;rwa [nr]at this
  have nd:(pp.map λi=>(kc.getD i ([],0)).1).Nodup:=pm.nodup_iff.mpr P.nd;have rs:fH cO (pp.map λi=>(kc.getD i ([],0)).1):=by
   refine(h2.and nd).imp λ{a b} ⟨x,y⟩=>?_
   cases q:cO a b with
   |true=>rfl
   |false=>exact absurd (stoL.tot a b q x) y
  have e1:(pp.map λi=>(kc.getD i ([],0)).1)=dU cO ks:=YS stoL rs λz=>by rw[pm.mem_iff];refine⟨λh=>?_,λh=>kO.all z h⟩;obtain⟨p,hp,rfl⟩:=de.mp h;exact kO.frm p hp
  rw[e1]at h4;refine⟨.ref D,_,I.laid (t':=tk) k hD (show ObjOk X.prog X.w _ _ _ (.lst vs') from⟨?_,out,e,h3,ho⟩),rfl,q D vs' (I.hok.fresh hD) h4⟩;rw[h4.len,jn];omega
end
def rK:Dv->Option (List Int)
 | .tup xs=>bJ eR xs
 |_=>none
def xP (k:List Int):Dv:=.tup (k.map Dv.int)
section
variable{X:Cx}{G:Cfg}{E:XK}{k:Nat}{e a b:bq}{es:List bq}{ma mb:M Dv}{aS:M (List Dv)}{p p2 pos pos2:Pos}
theorem CY {μ:Nat->ai}{n:Nat}{H:Hp}:∀{xs:List Dv}{vs:List V}{ks:List (List Int)},RelDL G μ n H xs vs->bJ rK xs=some ks->TupsAre H vs ks
 | [],_,ks,r,e=>by cases e;rw[RelDL]at r;subst r;trivial
 |x::xs,_,ks,r,e=>by
  rw[RelDL]at r;obtain⟨v,rr,rfl,r1,r2⟩:=r;unfold bJ at e
  cases x with
  |tup ds=>
   dsimp only[rK]at e
   cases q:bJ eR ds with
   |none=>rw[q]at e;cases e
   |some zs=>
    rw[q]at e;dsimp only at e
    cases q2:bJ rK xs with
    |none=>rw[q2]at e;cases e
    |some ys=>rw[q2]at e;cases e;rw[RelD]at r1;obtain⟨b,us,rfl,h1,h2⟩:=r1;rw[mW h2 q]at h1;exact⟨⟨b,rfl,h1⟩,CY r2 q2⟩
  |_=>cases e
theorem MI {μ:Nat->ai}{n:Nat}{H:Hp}:∀{vs:List V}{ks:List (List Int)},TupsAre H vs ks->RelDL G μ n H (ks.map xP) vs
 | [],[],_=>RelDL.nil
 | [],_::_,h=>h.elim
 |_::_,[],h=>h.elim
 |v::vs,k::ks,h=>by obtain⟨⟨b,rfl,e⟩,h2⟩:=h;refine RelDL.cons ?_ (MI h2);unfold xP;rw[RelD];exact⟨b,_,rfl,e,qS k⟩
def xQ (ks:List (List Int)):Bool:=ks.all λk=>!k.isEmpty
theorem Z9 {ks:List (List Int)}(h:xQ ks=true):∀k∈ks,k≠[]:=λk hk e=>by have:=fj.mp h k hk;rw[e]at this;cases this
theorem MJ:dw "set" = some (.type "set"):=by decide +kernel
end
open PySem.SeqAt PySem.MeetsSeq PySem.MeetsSeq2 PySem.MeetsSeq3
section
variable{X:Cx}{G:Cfg}{E:XK}{k:Nat}{e a b o:bq}{es:List bq}{mo me ma mb:M Dv}{aS:M (List Dv)}{p p2 pos pos2 apos cpos np:Pos}{y:Str}
theorem a9 {prog:bh}{w:cn}{A:cf}{Ee:af->ag->Prop}{s:ag}{t sl:ai}{items:Array af}{vl vu:af}{lo hi:Option Int}{Q:af->ag->Prop}(ht:yi s.heap t items) (hs:s.heap.IsSliceOf sl vl vu .none) (pl:uk vl lo) (pu:uk vu hi)
  (h0:HT.sIx items.size 0 lo=0) (h1:HT.sIx items.size items.size hi=items.size) (h:Q (.ref t) s):wpAny (model prog w) A (getItem (.ref t) (.ref sl)) Q Ee s:=by
 obtain⟨os,hos,hcs,hds⟩:=id hs;have hTs:s.TypeIs (.ref sl) "slice" := ⟨os,hos,hcs⟩;have tt:=ht.typeIs;obtain⟨ot,et,ct,_⟩:=id ht;unfold getItem
 try with_reducible refine fz ?_
 first|refine aa (ah ?_)|skip
 refine aa (ym tt (by decide) (aa (gm (name:=lh "__getitem__") tt da (fv da tt xu ?_ (xi _ _)))));refine aa (m:=slotArgs "__getitem__" 1 ⟨[.ref t,.ref sl],[]⟩) (ah (aa (xl ht (aa (om hTs ?_)))));rw[if_pos (by decide)];refine aa (HT.sliceApplied_gen hs pl pu ?_);rw[h0,h1];show wpAny _ _ (if(((0:Nat):Int)==0&&(1:Int)==1&&(items.size - 0)==items.size)=true then _ else _) _ _ s;rw[if_pos (by simp)];unfold Builtin.Tuple.tupleIsExact;refine aa (aa (om tt (ah ?_)));rw[if_pos (by decide)];refine aa (ql (ah ⟨_,rfl,ah h⟩))
theorem b9:SlR X (λx lo hi H Q=>∃a xs,x=.ref a/\SqT X.K H a xs/\HT.sIx xs.length 0 lo=0/\HT.sIx xs.length xs.length hi=xs.length/\Q (.ref a) H):=by
 intro pins s σ H x v vl vu lo hi sl Q I rx hs pl pu ⟨a,xs,ex,hx,h0,h1,q⟩;subst ex;cases rx;obtain⟨its,r,ht,hz⟩:=I.tuple hx;have hlen:its.toArray.size=xs.length:=by rw[av];exact r.length.symm
 exact⟨"tuple",_,da.lookup,ht.typeIs,a9 ht hs pl pu (by rw[hlen];exact h0) (by rw[hlen];exact h1) ⟨.ref a,H,I,rfl,q⟩⟩
def pW (x:Dv) (lo hi:Option Int) (h:Hs):Rs Dv:=match x with
 | .ref j=>match getL h j with
  |some xs=>.ok (.ref h.length) (h++[.lst (jV xs lo hi)])
  |none=>.bad
 | .tup xs=>.ok (.tup (jV xs lo hi)) h
 |_=>.bad
theorem c7 {xs:List Dv}{lo hi:Option Int}(h0:HT.sIx xs.length 0 lo=0) (h1:HT.sIx xs.length xs.length hi=xs.length):jV xs lo hi=xs:=by unfold jV;rw[h0,h1];simp
def gH (m:M Dv) (lo hi:MO):M Dv:=λρ h=>(m ρ h).bind λx h1=>(lo ρ h1).bind λl h2=>(hi ρ h2).bind λu h3=>pW x l u h3
theorem nB {lo hi:Option bq}{ml mh:MO}(ho:aJ X G E o mo) (hl:tS X G E lo ml) (hh:tS X G E hi mh):aJ X G E (.Subscript o (.Slice lo hi none p2) pos) (gH mo ml mh):=λhK=>
 PE.imp (S4 (SlR.or (SlR.or TL S6) b9) (ho hK) (hl hK) (hh hK)) λσ H Q ⟨μ,ρ,h,rs,s,oo⟩=>eI rs s oo λμ1 x h1 vx H1 x1 rs1 s1 r1 o1=>by
  refine⟨μ1,ρ,h1,rs1,s1,(o1.bind (R1:=λ_ _ _ a b=>b=a)).mono λl' H2 ⟨μ2,l,h2,x2,s2,el,o2⟩=>?_⟩;subst el;refine⟨μ2,ρ,h2,rs1.mono x2,s2,(o2.bind (R1:=λ_ _ _ a b=>b=a)).mono λu' H3 ⟨μ3,u,h3,x3,s3,eu,o3⟩=>?_⟩;subst eu;have r3:=RelD.mono (x2.trans x3) _ _ r1
  cases x with
  |ref j=>
   dsimp only[pW]at o3
   cases q:getL h3 j with
   |none=>rw[q]at o3;exact o3.elim
   |some xs=>rw[q]at o3;obtain⟨vs,ea,ra⟩:=s3.ob j _ (cY q);obtain⟨_,rfl⟩:=r3;exact .inl (.inl ⟨_,vs,rfl,SqL.of ea,λp hp=>pG s3 (J3 ra _ _) hp o3⟩)
  |tup xs=>
   dsimp only[pW]at o3;obtain⟨a,vs,rfl,ea,ra⟩:=r3
   by_cases hw:HT.sIx xs.length 0 l'=0/\HT.sIx xs.length xs.length u'=xs.length
   ·refine .inr ⟨a,vs,rfl,SqT.of ea,by rw[ra.length];exact hw.1,by rw[ra.length];exact hw.2,o3 μ3 _ _ Ext.refl s3 ?_⟩;rw[c7 hw.1 hw.2];exact⟨a,vs,rfl,ea,ra⟩
   ·exact .inl (.inr ⟨a,vs,rfl,SqT.of ea,by rw[ra.length];exact hw,λp hp=>o3 μ3 _ _ (Ext.same (cI hp)) (s3.same (cI hp)) ⟨p,_,rfl,cK,RelDL.mono (Ext.same (cI hp)) _ _ (J3 ra _ _)⟩⟩)
  |_=>exact o3.elim
def fJ (x y:Dv) (h:Hs):Rs Dv:=match x,y with
 | .int i,.int j=>.ok (.bl (decide (i<j))) h
 | .tup xs,.tup ys=>match bJ eR xs,bJ eR ys with
  |some ns,some ms=>.ok (.bl (HT.lexLt ns ms)) h
  |_,_=>.bad
 |_,_=>.bad
theorem MK:∀x y:List Int,HT.lexLt x y=cO x y
 | [],[]=>rfl
 | [],_::_=>rfl
 |_::_,[]=>rfl
 |a::x,b::y=>by
  rw[HT.lexLt_cons,cO,MK x y]
  by_cases h:a=b <;> simp[h]
theorem ML:fV G (λx y H Q=>(jS λi j=>.bl (decide (i<j))) x y H Q∨HC G.K x y H Q) fJ:=by
 intro E μ h H x y vx vy Q s rx ry o;unfold fJ at o
 split at o
 ·rename_i i j;exact .inl (qQ E μ h H (.int i) (.int j) vx vy Q s rx ry o)
 ·rename_i xs ys
  cases q1:bJ eR xs with
  |none=>rw[q1]at o;exact o.elim
  |some ns=>
   cases q2:bJ eR ys with
   |none=>rw[q1,q2]at o;exact o.elim
   |some ms=>rw[q1,q2]at o;obtain⟨a,us,rfl,ea,ra⟩:=rx;obtain⟨b,ws,rfl,eb,rb⟩:=ry;exact .inr ⟨a,b,ns,ms,rfl,rfl,SqT.of (by rw[ea,mW ra q1]),SqT.of (by rw[eb,mW rb q2]),o.val s rfl⟩
 ·exact o.elim
theorem CZ (g:Good X G E k) (ha:aJ X G E a ma) (hb:aJ X G E b mb):aJ X G E (.Compare a [.Lt] [b] pos) (m2 fJ ma mb):=λhK=>qM (OpR.or GR (HD (by have:=g.room.un;omega))) (by rw[hK];exact ML) ha hb (mJ _) hK
theorem MM (g:Good X G E k) (ha:aJ X G E a ma) (hb:aJ X G E b mb):gL X G E (.Compare a [.Lt] [b] pos) (mB (m2 fJ ma mb)):=λhK=>qN (OpR.or GR (HD (by have:=g.room.un;omega))) (by rw[hK];exact ML) ha hb (mJ _) hK
def cA (j:Int):List Int:=(bf j.toNat).map λk:Nat=>(k:Int)
theorem c8:CallR X (.type "range") (λxs H Q=>∃j:Int,xs=[.int j]/\∀l,H l=none->Q (.ref l) (upd H l (.rng 0 j))):=by intro pins s σ H xs us Q I rv ⟨j,e,q⟩;subst e;obtain⟨u,rfl,ru⟩:=hJ rv;obtain⟨t,rfl⟩:=ru;refine call_range_1 ⟨.ref s.heap.objs.size,_,I.laid (t':=s.toks+1+1) (o:=.rng 0 j) (λb ob q=>aj _ q) (ak _) ⟨_,_,_,ax _ rfl⟩,rfl,q _ (I.hok.fresh (ak _))⟩
theorem c9 (rm:Room k X.A):CallR X (.type "list") (λxs H Q=>∃(l:ai) (j:Int),xs=[.ref l]/\H l=some (.rng 0 j)/\0<=j/\j<=1000/\∀D,H D=none->Q (.ref D) (upd H D (.lst ((cA j).map V.int)))):=by
 intro pins s σ H xs us Q I rv ⟨l,j,e,hl,h0,h1,q⟩;subst e;obtain⟨u,rfl,ru⟩:=hJ rv;cases ru;obtain⟨t,u,v,hr⟩:=I.hok l _ hl;refine call_list_range (n:=j.toNat) (a:=0) (b:=j) (c:=1) rm.hd hr (small_one (by omega) (by omega) (by omega) (by omega)) ?_ (by omega) λh' tk acc c ke ho ia=>?_
 ·rw[rangeSize_one]
  split <;> omega
 ·have hv:Vals ((cA j).map V.int) acc.toList:=by
   have:∀(n:Nat) (as:List af),as.length=n->(∀(i:Nat) (v:af),as[i]?=some v->∃t,v=Value.int (0+(i:Int)*1) t)->Vals (((bf n).map λk:Nat=>(k:Int)).map V.int) as:=λn=>by
    induction n with
    |zero=>intro as hl _;rw[uc.mp hl];exact .nil
    |succ n ih=>
     intro as hl hi;have hne:as≠[]:=λz=>by rw[z]at hl;cases hl
     have e:=List.dropLast_concat_getLast hne;rw[<-e,qj,jz,jz];have hlast:as[n]?=some (as.getLast hne):=by
      rw[List.getLast_eq_getElem,bg (by omega)]
      congr 2;omega
     obtain⟨t,ht⟩:=hi n _ hlast;refine Vals.append (ih as.dropLast (by simp[hl]) λi v hv=>hi i v ?_) ?_
     ·rw[List.getElem?_dropLast]at hv
      split at hv
      ·exact hv
      ·cases hv
     ·refine .cons ?_ .nil;show RelV (.int (n:Int)) _;rw[ht];exact⟨t,by simp⟩
   refine this j.toNat acc.toList (by simpa using ia.1) λi v hv=>?_;exact ia.2 i v (by simpa using hv)
  refine⟨.ref s.heap.objs.size,_,I.laid (t':=tk) ke (ak _) (show ObjOk X.prog X.w _ _ _ (.lst ((cA j).map V.int)) from⟨?_,acc.toList,c,hv, ?_⟩),rfl,q _ (I.hok.fresh (ak _))⟩
  ·rw[bj,cA,bj,my,jn];omega
  ·rw[ho]
def lO:Dv->Hs->Rs Dv
 | .int j,h=>if(decide (0<=j)&&decide (j<=1000))=true then .ok (.ref h.length) (h++[.lst ((cA j).map Dv.int)])else .bad
 |_,_=>.bad
theorem MN (g:Good X G E k) (hg:Gl X "list") (hm:X.mg "list" = none) (hg2:Gl X "range") (hm2:X.mg "range" = none) (ha:dM X G E [e] aS)
  (he:au [e] X.env=[(false,eval e X.env)]:=by rfl) (he2:au [Expr.Call (.Name "range" p2) [e] [] pos2] X.env=[(false,eval (.Call (.Name "range" p2) [e] [] pos2) X.env)]:=by rfl):
  aJ X G E (.Call (.Name "list" p) [.Call (.Name "range" p2) [e] [] pos2] [] pos) (aE (f1 lO) aS):=λhK=>
 PE.imp (sR (c9 g.room) hg hm wH (hO (sR c8 hg2 hm2 boot_range (ha hK) (by decide) (by decide) he rfl) iX he2) (by decide) (by decide) he2 rfl) λσ H Q ⟨μ,ρ,h,rs,s,o⟩=>by
  refine kD rs s o λμ1 ds h1 vs H1 x1 rs1 s1 r1 o1=>?_;unfold f1 at o1
  split at o1
  ·rename_i d;obtain⟨v,rfl,rv⟩:=qT r1
   cases d with
   |int j=>
    dsimp only[lO]at o1
    split at o1
    ·rename_i h0;rw[cw]at h0;have j0:0<=j:=by simpa using h0.1
     have j1:j<=1000:=by simpa using h0.2
     rw[RelD]at rv;subst rv;refine⟨j,rfl,λl hl=>?_⟩;have sm:=cI (o:=.rng 0 j) hl;refine⟨l,j,rfl,cK,j0,j1,λD hD=>?_⟩;exact pG (E:=E) (s1.same sm) (qS _) hD (λμ' H' v x'=>o1 μ' H' v ((Ext.same sm).trans x'))
    ·exact o1.elim
   |_=>exact o1.elim
  ·exact o1.elim
end
section
variable{mo me:M Dv}{ml mh:MO}
end
section
variable{X:Cx}{G:Cfg}{E:XK}{k:Nat}{e a b o:bq}{es:List bq}{mo me ma mb:M Dv}{aS:M (List Dv)}{p p2 pos pos2 apos cpos np:Pos}{y:Str}
theorem sub_tuple:isSubtype (.type "tuple") (.type "set")=pure false/\isSubtype (.type "tuple") (.type "frozenset")=pure false:=by constructor <;> (rw[isSubtype_type];kernel_rfl)
abbrev MP (X:Cx):List V->Hp->VK->Prop:=λxs H Q=>∃(p:ai) (vs:List V) (ks:List (List Int)),xs=[.ref p]/\H p=some (.tup vs)/\TupsAre H vs ks/\(dU cO ks).length<=76/\∀l o kb,H l=none->xO X.prog X.w l o kb->KbOk H kb ks->Q (.ref l) (upd H l (.frz o (.own 0)))
theorem d3 (rm:Room k X.A):CallR X (.type "set") (MP X):=by
 intro pins s σ H xs us Q I rv ⟨p,vs,ks,e,hp,ht,hU,q⟩;subst e;obtain⟨u,rfl,ru⟩:=hJ rv;cases ru;obtain⟨its,rits,pl,hz⟩:=I.tuple (SqT.of hp);have hits:=MF ht rits;have lp:=I.hok.lt hp;have hI:s.heap.IsTuple p (bV ks.length (fI vs)).toArray:=by rw[<-hits];exact pl
 have hsz:(bV ks.length (fI vs)).toArray.size=ks.length:=by rw[av,kS]
 have hne:p≠s.heap.objs.size+1:=az (ik lp);have hb:(s.heap.push (bare X.w)).IsTuple p (bV ks.length (fI vs)).toArray:=yw (items:=(bV ks.length (fI vs)).toArray) hI _;have hs1:(s.heap.push (bare X.w)).objs.size=s.heap.objs.size+1:=vm _ _;have W:=Walks.tuple (prog:=X.prog) (w:=X.w) (A:=X.A.in1.in1.in1) (show X.A.in1.in1.in1.handled=none from rm.hd) (s.heap.objs.size+1) p hne (bV ks.length (fI vs)).toArray;rw[hsz]at W;refine MD (T := "tuple") (it:={ cls:=.type "tuple_iterator",data:=.fields #[.ref p,.int 0 0] }) (fI vs) (λi=>ks.getD i []) (dU cO ks) (by have:=rm.un;omega) hI.typeIs sub_tuple.1 sub_tuple.2 (by decide) (λB Q' E' hQ=>?_) W (λm=>?_) (λb hb=>?_) ⟨⟨{ cls:=.type "tuple_iterator",data:=.fields #[.ref p,.int 0 0] }, ?_,rfl,rfl⟩,yw (items:=(bV ks.length (fI vs)).toArray) hb _⟩ (λi v hv=>?_) hU (λi hi=>?_) (λj hj=>CW I (ht.at_ hj).2) λh' tk kb hS hup k=>?_
 ·refine pg hb ?_;rw[<-hs1]at hQ;exact hQ
 ·rcases ay.mp m with z|m
  ·exact nv _ z.symm
  ·exact jh lp (df.mp m)
 ·rw[df.mp hb];exact jv _
 ·rw[<-hs1];exact ax _ rfl
 ·have hi:i<ks.length:=by have:=(du.mp hv).1;rwa [hsz]at this
  have:(bV ks.length (fI vs))[i]?=some (.ref (fI vs i)):=by simp[bV,hi]
  rw[Cp,this]at hv;exact(cq hv).symm
 ·refine(mZ stoL _ _).mpr ?_;show ks.getD i []∈ks;simp[hi]
 ·obtain⟨o,es,ep,t,P⟩:=hS;refine⟨.ref s.heap.objs.size,_,I.laid (t':=tk) (o:=.frz o (.own 0)) k (ak _) ⟨P.obj,o,P.obj⟩,rfl,q _ o kb (I.hok.fresh (ak _)) ⟨es,ep,t,λh e=>P.at' e⟩ ⟨λz hz=>?_,λz hz=>?_,λz hz=>?_⟩⟩
  ·obtain⟨j,hj,rfl⟩:=hup.from_ z hz;exact(ht.at_ hj).2
  ·obtain⟨j,hj,rfl⟩:=hup.from_ z hz;show ks.getD j []∈ks;simp[hj]
  ·obtain⟨j,hj,rfl⟩:=kh hz;have:=hup.all j hj;simpa[hj]using this
theorem d4 (rm:Room k X.A):CallR X (.type "set") (λxs H Q=>MG X xs H Q∨MP X xs H Q):=by
 intro pins s σ H xs us Q I rv h
 rcases h with h|h
 ·exact Z6 rm pins s σ H xs us Q I rv h
 ·exact d3 rm pins s σ H xs us Q I rv h
def pX (x:Dv) (h:Hs):Option (List (List Int)):=match x with
 | .ref i=>match getL h i with
  |some xs=>bJ rK xs
  |none=>none
 | .tup xs=>bJ rK xs
 |_=>none
def lQ (x:Dv) (h:Hs):Rs Dv:=match pX x h with
 |some ks=>if(xQ ks&&decide ((dU cO ks).length<64))=true then .ok (.ref h.length) (h++[.lst ((dU cO ks).map xP)])else .bad
 |none=>.bad
theorem MQ (g:Good X G E k) (hg:Gl X "sorted") (hm:X.mg "sorted" = none) (hg2:Gl X "set") (hm2:X.mg "set" = none) (ha:dM X G E [e] aS)
  (he:au [e] X.env=[(false,eval e X.env)]:=by rfl) (he2:au [Expr.Call (.Name "set" p2) [e] [] pos2] X.env=[(false,eval (.Call (.Name "set" p2) [e] [] pos2) X.env)]:=by rfl):
  aJ X G E (.Call (.Name "sorted" p) [.Call (.Name "set" p2) [e] [] pos2] [] pos) (aE (f1 lQ) aS):=λhK=>
 PE.imp (qJ (Z8 g.room) hg hm KH (hO (sR (d4 g.room) hg2 hm2 MJ (ha hK) (by decide) (by decide) he rfl) iX he2) (by decide) (by decide) he2 rfl) λσ H Q ⟨μ,ρ,h,rs,s,o⟩=>by
  refine kD rs s o λμ1 ds h1 vs H1 x1 rs1 s1 r1 o1=>?_;unfold f1 at o1
  split at o1
  ·rename_i d;obtain⟨v,rfl,rv⟩:=qT r1;unfold lQ at o1
   cases q:pX d h1 with
   |none=>rw[q]at o1;exact o1.elim
   |some ks=>
    rw[q]at o1;dsimp only at o1
    split at o1
    ·rename_i h0;rw[cw]at h0;have h64:(dU cO ks).length<64:=by simpa using h0.2
     have fin:∀(l:ai) (o:Obj) (kb:KB),H1 l=none->xO X.prog X.w l o kb->KbOk H1 kb ks->MH X [.ref l] (upd H1 l (.frz o (.own 0))) Q:=λl o kb hl so ko=>by have sm:=cI (o:=.frz o (.own 0)) hl;refine⟨l,o,kb,ks,rfl,cK,so,⟨λp hp=>sm _ _ (ko.tup p hp),ko.frm,ko.all⟩,Z9 h0.1,h64,λD vs' hD ht=>?_⟩;exact pG (E:=E) (s1.same sm) (MI ht) hD (λμ' H' v x'=>o1 μ' H' v ((Ext.same sm).trans x'))
     cases d with
     |ref i=>
      dsimp only[pX]at q
      cases q1:getL h1 i with
      |none=>rw[q1]at q;cases q
      |some xs=>rw[q1]at q;obtain⟨vs,e1,r2⟩:=s1.ob i _ (cY q1);obtain⟨_,rfl⟩:=rv;exact .inl ⟨_,vs,ks,rfl,e1,CY r2 q,by omega,fin⟩
     |tup xs=>obtain⟨a,vs,rfl,e1,r2⟩:=rv;exact .inr ⟨_,vs,ks,rfl,e1,CY r2 q,by omega,fin⟩
     |_=>cases q
    ·exact o1.elim
  ·exact o1.elim
theorem d6 {prog:bh}{w:cn}{A:cf}{Ee:af->ag->Prop}{s:ag}{l:ai}{vs:List af}{Q:List af->ag->Prop}(ht:yi s.heap l vs.toArray) (hz:vs.length<=bw)
  (q:∀h',pV s.heap h'->s.heap.objs.size<=h'.objs.size->Q vs { s with heap:=h' }):wpAny (model prog w) A (collect (.ref l)) Q Ee s:=by
 have up:pV s.heap (s.heap.push (seqObj "list" #[] 0)):=λb o e=>aj _ e;have hS:(s.heap.push (seqObj "list" #[] 0)).get? s.heap.objs.size=some (seqObj "list" #[] 0):=ax _ rfl;obtain⟨o,ho,hc,n,hd⟩:=ht;unfold collect;refine aa (wx (jr entry_proto_collect' ?_));rw[iw F.plain_proto_collect _];refine aa (m:=newList []) (uw (ah ⟨wm _ (by decide +kernel),jr entry_list_iadd' ?_⟩));rw[iw F.plain_list_iadd _];show wpAny _ A.in1 (km (.ref s.heap.objs.size) (.ref l) (.ref s.heap.objs.size)) _ _ { s with heap:=s.heap.push (seqObj "list" #[] 0) };unfold km;refine aa (om (T := "tuple") ⟨o,up l o ho,hc⟩ ?_);rw[if_pos (by simp)];refine aa (listItems_at (up l o ho) hd (aa (listItems_at hS rfl ?_)));rw[if_neg (by simp)];refine aa (uv hS rfl (ah ?_) (jc _) (by show(#[]++vs.toArray).size<=bw+1;simp only[Array.size_append,av,oj];omega));have hS2:=nh hS λx=>x++vs.toArray;show wpAny (model prog w) A (load s.heap.objs.size >>= _) Q Ee _;refine aa (wpAny_load hS2 (ah ?_));have e:((#[]:Array af)++vs.toArray).toList=vs:=by simp
 rw[e];refine q _ (λb o e=>?_) ?_
 ·rw[jo _ _ _ _ (az (ar e))];exact up b o e
 ·rw[Heap.size_update,vm];exact Nat.le_succ _
end
theorem DC {α β:Type}{f g:α->Option β}:∀l:List α,(∀x∈l,f x=g x)->l.filterMap f=l.filterMap g
 | [],_=>rfl
 |x::l,h=>by rw[bz,bz,h x (by simp),DC l λy hy=>h y (by simp[hy])]
theorem d7 (xs:Array af):((bf xs.size).filterMap λ(m:Nat)=>xs[((xs.size:Int) - 1+(m:Int)*(-1)).toNat]?).toArray=xs.toList.reverse.toArray:=by
 congr 1
 have e:((bf xs.size).filterMap λ(m:Nat)=>xs[((xs.size:Int) - 1+(m:Int)*(-1)).toNat]?)=(bf xs.size).filterMap λm=>xs.toList.reverse[m]?:=by
  refine DC _ λm hm=>?_;have hm':m<xs.size:=br.mp hm;rw[List.getElem?_reverse (by simpa using hm'),ly]
  congr 1
  simp;omega
 rw[e];have:∀(l:List af) (n:Nat),n<=l.length->(bf n).filterMap (λm=>l[m]?)=l.take n:=λl n=>by
  induction n with
  |zero=>intro _;simp
  |succ n ih=>intro h;rw[qj,Cq,ih (by omega),ka (by omega)];simp[show n<l.length by omega]
 rw[this _ _ (by simp),uh (by simp)]
theorem d8 {prog:bh}{w:cn}{A:cf}{Ee:af->ag->Prop}{s:ag}{sl:ai}{vs:af}{n:Nat}{Q:Int×Int×Nat->ag->Prop}(hs:s.heap.IsSliceOf sl .none .none vs) (pv:uk vs (some (-1)))
  (h:Q ((n:Int) - 1,-1,n) s):wpAny (model prog w) A (kn (.ref sl) (pure (n:Int))) Q Ee s:=by
 obtain⟨os,hos,hcs,hds⟩:=id hs;have e1:jd none none (-1) (n:Int)=((n:Int) - 1,-1):=by simp[jd]
 have e2:gh ((n:Int) - 1) (-1) (-1)=n:=by
  unfold gh;rw[if_neg (by decide)]
  split
  ·simp
  ·simp;omega
 unfold kn wk;refine aa (aa (fi hos hds (x:=.none) rfl (aa (fi hos hds (x:=.none) rfl (aa (fi hos hds (x:=vs) rfl (ah ?_)))))));refine aa (HT.slicePart_ pv ?_);show wpAny _ _ (if((-1:Int)==0)=true then _ else _) _ _ s;rw[if_neg (by decide)];refine aa (HT.slicePart_ .none (aa (HT.slicePart_ .none (aa (ah ?_)))));show wpAny _ _ (match jd none none (-1) (n:Int)with|(lo,hi)=>pure (lo,(-1:Int),gh lo hi (-1))) _ _ s;rw[e1];show wpAny _ _ (pure ((n:Int) - 1,(-1:Int),gh ((n:Int) - 1) (-1) (-1))) _ _ s;rw[e2];exact ah h
theorem d9 {prog:bh}{w:cn}{A:cf}{Ee:af->ag->Prop}{s:ag}{t sl:ai}{items:Array af}{vs:af}{Q:af->ag->Prop}(ht:yi s.heap t items) (hs:s.heap.IsSliceOf sl .none .none vs) (pv:uk vs (some (-1))) (hz:items.size<=bw)
  (h:Q (.ref s.heap.objs.size) { s with heap:=s.heap.push { cls:=.type "tuple",data:=.seq items.toList.reverse.toArray } }):wpAny (model prog w) A (getItem (.ref t) (.ref sl)) Q Ee s:=by
 obtain⟨os,hos,hcs,hds⟩:=id hs;have hTs:s.TypeIs (.ref sl) "slice" := ⟨os,hos,hcs⟩;have tt:=ht.typeIs;have szo:sizeOk (.seq items.toList.reverse.toArray):=by show items.toList.reverse.toArray.size<=bw;simpa using hz
 unfold getItem
 try with_reducible refine fz ?_
 first|refine aa (ah ?_)|skip
 refine aa (ym tt (by decide) (aa (gm (name:=lh "__getitem__") tt da (fv da tt xu ?_ (xi _ _)))));refine aa (m:=slotArgs "__getitem__" 1 ⟨[.ref t,.ref sl],[]⟩) (ah (aa (xl ht (aa (om hTs ?_)))));rw[if_pos (by decide)];refine aa (d8 hs pv ?_);show wpAny _ _ (if(((items.size:Int) - 1)==0&&(-1:Int)==1&&items.size==items.size)=true then _ else _) _ _ s;rw[if_neg (by simp),d7]
 first
  |exact aa (m:=gn _) (dg (ah ⟨_,rfl,ah h⟩) szo)
  |exact aa (m:=gn _) (dg (aa (ah (ah ⟨_,rfl,ah h⟩))) szo)
  |exact aa (aa (m:=gn _) (dg (ah (ah ⟨_,rfl,ah h⟩)) szo))
  |exact aa (aa (m:=gn _) (dg (ah ⟨_,rfl,ah h⟩) szo))
section
variable{X:Cx}{G:Cfg}{E:XK}{o:bq}{mo:M Dv}{ms:MO}{se:bq}{p2 pos:Pos}
def h9 (K:aq) (te:TE) (ts:TO):TE:=λσ H Q=>te σ H λx H1=>ts σ H1 λl H2=>l=some (-1)/\∃a xs,x=.ref a/\SqT K H2 a xs/\∀p,H2 p=none->Q (.ref p) (upd H2 p (.tup xs.reverse))
theorem i6 {te:TE}{ts:TO}(he:PE X o te) (hs:PO X (some se) ts):PE X (.Subscript o (.Slice none none (some se) p2) pos) (h9 X.K te ts):=by
 intro pins s σ H Q I h;refine Subscript_ (aV (he pins s σ H _ I h) λv s1 ⟨x,H1,I1,r1,q1⟩=>?_);refine wpAny_Slice ?_;rw[Dc];refine ah (ah (aV (hs pins s1 σ H1 _ I1 q1) λvs s3 ⟨l,H3,I3,pl,el,a,xs,ex,hx,q⟩=>?_));subst el;subst ex;cases r1;have I4:Inv X pins σ H3 { s3 with heap:=s3.heap.push { cls:=.type "slice",data:=.fields #[.none,.none,vs] } }:=I3.kept (t':=s3.toks) λb ob q=>aj _ q;obtain⟨its,r,ht,hz⟩:=I4.tuple hx;have hg:=d9 (prog:=X.prog) (w:=X.w) (A:=X.A) (Ee:=X.xe) (Q:=EP X pins σ Q) ht (yh ..) pl (by rw[av,<-r.length];exact hz) ⟨.ref _,_,I4.laid (t':=s3.toks) (o:=.tup xs.reverse) (λb ob q=>aj _ q) (ak _) ⟨by rw[List.length_reverse];exact hz,its.reverse, ?_,IsTupX.new _ _⟩,rfl,q _ (I4.hok.fresh (ak _))⟩
 ·show wpAny (model X.prog X.w) X.A (subscriptTail o (.Slice none none (some se) p2) (.ref a) (.ref s3.heap.objs.size)) (EP X pins σ Q) X.xe { s3 with heap:=s3.heap.push { cls:=.type "slice",data:=.fields #[.none,.none,vs] } };exact tail_any (ops:=[.ref a,.ref s3.heap.objs.size]) ht.typeIs da.lookup hg (by with_unfolding_all rfl)
 ·have:∀{xs:List V}{us:List af},Vals xs us->Vals xs.reverse us.reverse:=λ{xs us} h=>by
   induction h with
   |nil=>exact .nil
   |cons h1 _ ih=>rw[sv,sv];exact Vals.append ih (.cons h1 .nil)
  exact this r
def DD (x:Dv) (l:Option Int) (h:Hs):Rs Dv:=match x,l with
 | .tup xs,some (-1)=>.ok (.tup xs.reverse) h
 |_,_=>.bad
theorem RelDL.rev {μ:Nat->ai}{n:Nat}{H:Hp}:∀{ds:List Dv}{vs:List V},RelDL G μ n H ds vs->RelDL G μ n H ds.reverse vs.reverse
 | [],_,h=>by rw[RelDL]at h;subst h;exact RelDL.nil
 |d::ds,_,h=>by rw[RelDL]at h;obtain⟨v,r,rfl,h1,h2⟩:=h;rw[sv,sv];exact(RelDL.rev h2).append (RelDL.cons h1 RelDL.nil)
def xR (m:M Dv) (st:MO):M Dv:=λρ h=>(m ρ h).bind λx h1=>(st ρ h1).bind λl h2=>DD x l h2
theorem i8 (ho:aJ X G E o mo) (hs:tS X G E (some se) ms):aJ X G E (.Subscript o (.Slice none none (some se) p2) pos) (xR mo ms):=λhK=>
 PE.imp (i6 (ho hK) (hs hK)) λσ H Q ⟨μ,ρ,h,rs,s,oo⟩=>eI rs s oo λμ1 x h1 vx H1 x1 rs1 s1 r1 o1=>by
  refine⟨μ1,ρ,h1,rs1,s1,(o1.bind (R1:=λ_ _ _ a b=>b=a)).mono λl' H2 ⟨μ2,l,h2,x2,s2,el,o2⟩=>?_⟩;subst el;unfold DD at o2
  split at o2
  ·rename_i xs;obtain⟨a,vs,rfl,ea,ra⟩:=RelD.mono x2 _ _ r1;exact⟨rfl,a,vs,rfl,SqT.of ea,λp hp=>o2 μ2 _ _ (Ext.same (cI hp)) (s2.same (cI hp)) ⟨p,_,rfl,cK,RelDL.mono (Ext.same (cI hp)) _ _ (RelDL.rev ra)⟩⟩
  ·exact o2.elim
end
end L2.Mr
namespace L2.Mr.Com
open PySem PySem.Spec PyProof.Rows L2 L2.Mr
def DE:MS:=(aO (cZ (m1 (bD pR) (aA 0)) (m1 nY (m1 (bD kM) (aA 0)))))
def F_q2:List Dv->Hs->Rs Dv:=aT 1 1 (DE)
def xS:MS:=(aO (cZ (aE F_q2 (aB (aA 0) aC)) (qO rA rA (aA 1) (aA 0) (aA 2))))
def F_qq:List Dv->Hs->Rs Dv:=aT 3 3 (xS)
def MR:MS:=(aO (mL iO (bU (aS oG (aB (aA 0) (aB (gH (aA 0) (eZ (mC (.int 1))) gE) aC))) [none,none] (cL 2 (bH (aF 0) (bH (aF 1) cM))) dO (bN (m2 fJ (aA 0) (aA 1))))))
def F_qy:List Dv->Hs->Rs Dv:=aT 1 1 (MR)
def DF:MS:=(aO (aE F_qq (aB (aA 1) (aB (mC (.int 0)) (aB (m2 gF (aA 0) (mC (.int 1))) aC)))))
def F_q1:List Dv->Hs->Rs Dv:=aT 2 2 (DF)
def xT:MS:=(aO (cZ (m1 (bD fR) (aA 1)) (mL iO (bU (bS eV (aA 1)) [none,some 0] (aF 0) dO (bN (aE F_q1 (aB (aA 1) (aB (aA 0) aC))))))))
def F_qp:List Dv->Hs->Rs Dv:=aT 2 2 (xT)
def rM:MS:=(aO (cZ (aE F_qp (aB (aA 0) (aB (aA 1) aC))) (m2 bL (aE (f1 cD) (aB (aA 1) aC)) (mC (.int 2)))))
def F_q4:List Dv->Hs->Rs Dv:=aT 2 2 (rM)
def DG:MS:=(aO (mL iO (bU (bS eV (aA 1)) [none,some 0] (aF 0) dO (bN (aE F_q4 (aB (aA 1) (aB (aA 0) aC)))))))
def F_qw:List Dv->Hs->Rs Dv:=aT 2 2 (DG)
def MT:MS:=(aO (mL tL (bU (bS eV (aA 0)) [none,none] (cL 2 (bH (aF 0) (bH (aF 1) cM))) dO (bN (m2 bL (aA 0) (aA 1))))))
def F_qx:List Dv->Hs->Rs Dv:=aT 1 1 (MT)
def MU:MS:=(aO (mL iO (bU (bS eV (aA 0)) [none,none,none,none,some 0] (cL 2 (bH (aF 0) (bH (aF 1) cM))) dO (kG (bS eV (aA 4)) (cL 2 (bH (aF 2) (bH (aF 3) cM))) (mB (m2 bL (aA 1) (aA 2))) (bN (m2 (eM false) (aL (aB (aA 0) (aB (aA 3) aC))) (aA 4)))))))
def F_qj:List Dv->Hs->Rs Dv:=aT 1 1 (MU)
def pY:MS:=(aI (aX (dQ (cB (bC (m1 (bD fR) (aA 0)))) (mB (m2 bQ (aE (f1 cD) (aB (aA 0) aC)) (mC (.int 2))))) (aO (mC (.bl false))) bG) (aI (aK (aA 0) (cL 2 (bH (aF 1) (bH (aF 2) cM)))) (aI (aX (dQ (cB (bC (aE F_qq (aB (aA 1) (aB (mC (.int 1)) (aB (mC (.int 6)) aC)))))) (cB (bC (m1 (bD fR) (aA 2))))) (aO (mC (.bl false))) bG) (aI (aX (dQ (cB (bC (aE F_qw (aB (aA 1) (aB (aA 2) aC))))) (cB (bC (aE F_qy (aB (aA 2) aC))))) (aO (mC (.bl false))) bG) (aO (cZ (m1 nY (aE F_qx (aB (aA 2) aC))) (aE F_qj (aB (aA 2) aC))))))))
def F_q0:List Dv->Hs->Rs Dv:=aT 1 3 (pY)
def xU (scr:List Int):MS:=(aI (aX (mB (m2 fJ (aA 1) (aE (f1 (iF scr)) (aB (aA 0) aC)))) (aO (m2 (gD scr) (aA 0) (aA 1))) bG) (aO (mC (.int 0))))
def F_qf (scr:List Int):List Dv->Hs->Rs Dv:=aT 2 2 (xU scr)
def xV (scr:List Int):MS:=(aI (aK (aE (F_qf scr) (aB (aA 0) (aB (aA 1) aC))) (aF 2)) (aI (aX (mB (m2 xA (aA 2) (m2 oJ (mC (.int 10)) (mC (.int 18))))) (aO (aR (aB (m2 gF (aA 2) (m2 oJ (mC (.int 10)) (mC (.int 18)))) (aB (mC (.bl true)) aC)))) bG) (aO (aR (aB (m2 lI (aA 2) (mC (.int 2147483647))) (aB (mC (.bl false)) aC))))))
def F_qn (scr:List Int):List Dv->Hs->Rs Dv:=aT 2 3 (xV scr)
def DH:MS:=(aI (aX (bC (m2 aQ (aA 0) (mC (.int 1)))) (aI (aK (m2 lI (m2 aQ (aA 0) (mC (.int 0))) (aA 1)) (aF 2)) (aI (tM (aA 0) (mC (.int 0)) (m2 tX (m2 aQ (aA 0) (mC (.int 0))) (aA 1))) (aO (aA 2)))) bG) (aI (tM (aA 0) (mC (.int 0)) (m2 lI (m2 bA (m2 pQ (m2 aQ (aA 0) (mC (.int 0))) (mC (.int 48271))) (mC (.int 29))) (mC (.int 2147483647)))) (aI (aK (m2 lI (m2 bA (m2 bA (m2 pQ (m2 aQ (aA 0) (mC (.int 0))) (m2 aQ (aA 0) (mC (.int 0)))) (m2 pQ (mC (.int 39373)) (m2 aQ (aA 0) (mC (.int 0))))) (mC (.int 7))) (mC (.int 2147483629))) (aF 3)) (aI (aK (m2 lI (m2 bA (m2 pQ (aA 3) (aA 3)) (m2 pQ (mC (.int 16807)) (aA 3))) (mC (.int 2147483587))) (aF 3)) (aO (m2 lI (m2 tX (aA 3) (mC (.int 8))) (aA 1)))))))
def F_qu:List Dv->Hs->Rs Dv:=aT 2 4 (DH)
def DI:MS:=(aI (aK (aE (f1 gG) (aB (aA 1) aC)) (aF 2)) (aI (aK (aR aC) (aF 3)) (aI (iI (mB (m2 bQ (aA 2) (aR aC))) (cS (kK (aA 3) (tR (aA 2) (aE F_qu (aB (aA 0) (aB (aE (f1 cD) (aB (aA 2) aC)) aC)))))) 40) (aO (aA 3)))))
def F_qb:List Dv->Hs->Rs Dv:=aT 2 4 (DI)
def iU:MS:=(aI (aK (aE (f1 lQ) (aB (aA 0) aC)) (aF 1)) (iI (bC (mC (.bl true))) (aI (aK (aE (f1 gG) (aB (aA 1) aC)) (aF 2)) (aI (dN (bS dD (aA 1)) (cL 2 (bH (aF 3) (bH (aF 4) cM))) (cS (pP (aA 2) (bU (bS dD (aA 1)) [none,none,some 3,some 4] (cL 2 (bH (aF 0) (bH (aF 1) cM))) (mB (m2 bL (aA 3) (aA 0))) (bN (aL (aB (aA 2) (aB (aA 1) aC)))))))) (aI (aK (aE (f1 lQ) (aB (aA 2) aC)) (aF 2)) (aI (aX (mB (m2 bL (aA 2) (aA 1))) (aO (aA 1)) bG) (aK (aA 2) (aF 1)))))) 40))
def F_qh:List Dv->Hs->Rs Dv:=aT 1 5 (iU)
def iV:MS:=(aI (aK (m2 gF (aA 1) (m2 aQ (aR (aB (mC (.int 0)) (aB (mC (.int 0)) (aB (mC (.int 1)) (aB (mC (.int 2)) (aB (mC (.int 0)) (aB (mC (.int 3)) (aB (mC (.int 1)) (aB (mC (.int 4)) aC))))))))) (aE F_qu (aB (aA 0) (aB (mC (.int 8)) aC))))) (aF 2)) (aI (aK (aE mO (aB (mC (.int 1)) (aB (aA 2) aC))) (aF 2)) (aI (aK (aE F_qb (aB (aA 0) (aB (aE (f1 lO) (aB (aA 2) aC)) aC))) (aF 3)) (aI (aK (aE F_qu (aB (aA 0) (aB (mC (.int 5)) aC))) (aF 4)) (aI (aK (aR aC) (aF 5)) (aI (aK (bM (bU (bS dD (aA 3)) [none,some 0] (aF 0) dO (bN (aE F_qu (aB (aA 1) (aB (mC (.int 3)) aC)))))) (aF 6)) (aI (dN (aS cN (aB (aA 2) aC)) (aF 7) (dN (aS gX (aB (m2 bA (aA 7) (mC (.int 1))) (aB (aA 2) aC))) (aF 8) (aI (aK (aR (aB (m2 bL (aE F_qu (aB (aA 0) (aB (mC (.int 6)) aC))) (mC (.int 0))) (aB (m2 bL (aE F_qu (aB (aA 0) (aB (mC (.int 2)) aC))) (mC (.int 0))) (aB (m2 mV (aE F_qu (aB (aA 0) (aB (mC (.int 4)) aC))) (mC (.int 0))) aC)))) (aF 9)) (aI (aK (m2 bA (aA 9) (aR (aB (m2 fJ (m2 aQ (aA 6) (aA 7)) (m2 aQ (aA 6) (aA 8))) (aB (m2 bL (m2 aQ (aA 6) (aA 7)) (m2 aQ (aA 6) (aA 8))) aC)))) (aF 9)) (aX (bC (m2 aQ (aA 9) (aA 4))) (cS (kK (aA 5) (aL (aB (m2 aQ (aA 3) (aA 7)) (aB (m2 aQ (aA 3) (aA 8)) aC))))) bG))))) (aI (aX (mB (m2 bL (aA 4) (mC (.int 3)))) (aI (aK (aR aC) (aF 5)) (dN (aS cN (aB (aA 2) aC)) (aF 7) (aK (m2 bA (aA 5) (bM (bU (aS cN (aB (aA 2) aC)) [none,some 7,some 6] (aF 0) (mB (m2 fJ (m2 aQ (aA 2) (aA 1)) (m2 aQ (aA 2) (aA 0)))) (bN (aL (aB (aA 1) (aB (aA 0) aC))))))) (aF 5)))) bG) (aO (aL (aB (aA 2) (aB (aE (f1 gN) (aB (aE F_qh (aB (aA 5) aC)) aC)) aC))))))))))))
def F_qm:List Dv->Hs->Rs Dv:=aT 2 10 (iV)
def iW:MS:=(aI (aK (aR (aB (mC .non) (aB (mC (.int 0)) (aB (aL aC) (aB (aL (aB (mC (.int 0)) (aB (aL aC) aC))) (aB (aL (aB (mC (.int 7)) (aB (aL aC) aC))) (aB (aL (aB (mC (.bl true)) (aB (aL aC) aC))) (aB (aL (aB (mC (.int 2)) (aB (aR aC) aC))) (aB (aR (aB (mC (.int 2)) (aB (aL aC) aC))) (aB (aL (aB (mC (.int 2)) (aB (aL (aB (aL (aB (mC (.int 0)) (aB (mC (.int 1)) aC))) (aB (aL (aB (mC (.int 0)) (aB (mC (.int 1)) aC))) aC))) aC))) (aB (aL (aB (mC (.int 2)) (aB (aL (aB (aL (aB (mC (.int 1)) (aB (mC (.int 0)) aC))) (aB (aL (aB (mC (.int 0)) (aB (mC (.int 1)) aC))) aC))) aC))) aC))))))))))) (aF 1)) (aI (aK (m2 bA (aA 1) (aR (aB (aL (aB (mC (.int 3)) (aB (aL (aB (aL (aB (mC (.int 0)) (aB (mC (.int 1)) aC))) (aB (aL (aB (mC (.int 1)) (aB (mC (.int 2)) aC))) aC))) aC))) (aB (aL (aB (mC (.int 2)) (aB (aL (aB (aL (aB (mC (.int 0)) (aB (mC (.int 0)) aC))) aC)) aC))) (aB (aL (aB (mC (.int 2)) (aB (aL (aB (aL (aB (mC (.int 0)) (aB (mC (.int 2)) aC))) aC)) aC))) (aB (aL (aB (mC (.int 2)) (aB (aL (aB (aL (aB (mC (.int 0)) (aB (mC (.bl true)) aC))) aC)) aC))) (aB (aL (aB (mC (.int 2)) (aB (aL (aB (aL (aB (mC (.int 0)) (aB (mC (.int 1)) (aB (mC (.int 1)) aC)))) aC)) aC))) (aB (mC .edc) aC)))))))) (aF 1)) (aI (aK (m2 bA (aA 1) (aR (aB (mC (.str "2:")) (aB (aL (aB (mC (.int 2)) (aB (aL (aB (mC (.int 0)) (aB (mC (.int 1)) aC))) aC))) (aB (aL (aB (mC (.int 3)) (aB (aL (aB (aL (aB (mC (.int 0)) (aB (mC (.int 2)) aC))) (aB (aL (aB (mC (.int 0)) (aB (mC (.int 1)) aC))) aC))) aC))) (aB (aL (aB (mC (.int 2)) (aB (mC .non) aC))) (aB (aL (aB (mC (.int 2)) (aB (aL aC) (aB (aL aC) aC)))) (aB (aL (aB (mC (.int 2)) aC)) (aB (aL (aB (mC (.int 2)) (aB (aL (aB (aR (aB (mC (.int 0)) (aB (mC (.int 1)) aC))) aC)) aC))) (aB (aL (aB (mC (.int 2)) (aB (aL (aB (mC .non) aC)) aC))) aC)))))))))) (aF 1)) (aO (m2 aQ (aA 1) (aE F_qu (aB (aA 0) (aB (mC (.int 24)) aC))))))))
def F_qa:List Dv->Hs->Rs Dv:=aT 1 2 (iW)
def uH (Fs:List Dv->Hs->Rs Dv):MS:=(aI (aX (bC (m1 (bD rE) (aA 1))) (aI (aX (dQ (mB (m2 bQ (m1 (bD fR) (aA 0)) (m1 (bD fR) (aA 1)))) (mB (m2 bQ (m1 (bD tU) (aA 0)) (m1 (bD tU) (aA 1))))) (aO (mC (.bl false))) bG) (aI (aX (mB (m2 bQ (aE (f1 cD) (aB (aA 0) aC)) (aE (f1 cD) (aB (aA 1) aC)))) (aO (mC (.bl false))) bG) (aO (mL iO (bU (aS oG (aB (aA 0) (aB (aA 1) aC))) [none,none] (cL 2 (bH (aF 0) (bH (aF 1) cM))) dO (bN (aE Fs (aB (aA 0) (aB (aA 1) aC))))))))) bG) (aO (cZ (m2 bL (aA 0) (aA 1)) (m2 bL (m1 (bD kM) (aA 0)) (m1 (bD kM) (aA 1))))))
def F_qs:Nat->List Dv->Hs->Rs Dv
 |0=>λ_ _=>.bad
 |n+1=>aT 2 2 (uH (F_qs n))
end L2.Mr.Com
namespace L2.Mr
open PySem PySem.Spec PyProof.Rows L2
def uI (i j:Nat) (ma:M (List Dv)):MS:=λρ h=>(ma ρ h).thenS λds h1=>match ds with
 | [a,b]=>.nx ((ρ.set i (some a)).set j (some b)) h1
 |_=>.bad
section
variable{X:Cx}{G:Cfg}{E:XK}{pos:Pos}
theorem i9 {i j:Nat}{x y:Str}{a b:bq}{ma:M (List Dv)}{px py pt:Pos}{kt k2 pt2} (hc:X.calm=true) (hN:X.N.Nodup) (hi:X.N[i]?=some x) (hj:X.N[j]?=some y) (hij:i≠j)
  (hx:X.env.scope.names.lookup x=some .local) (hy:X.env.scope.names.lookup y=some .local) (ha:dM X G E [a,b] ma)
  (hw:swappedStores [.Tuple [.Name x px,.Name y py] kt pt] (.Tuple [a,b] k2 pt2) X.env=pure (some [x,y]):=by rfl)
  (hs:swapsWithSole [.Tuple [.Name x px,.Name y py] kt pt] (.Tuple [a,b] k2 pt2) pos.line X.env=pure false:=by rfl):
  hW X G E (.Assign [.Tuple [.Name x px,.Name y py] kt pt] (.Tuple [a,b] k2 pt2) pos) (uI i j ma):=λhK=>PS.imp (Q3 hc hN hi hj hij hx hy (ha hK) hw hs) λD σ H ⟨μ,ρ,h,rs,s,o⟩=>
 ⟨μ,ρ,h,rs,s,(o.thenS (R:=RelDL G)).mono λvs H1 ⟨μ1,ds,h1,x1,s1,r1,o1⟩=>by
  match ds,r1,o1 with
  | [d1,d2],r1,o1=>obtain⟨v1,vs1,rfl,p,q⟩:=r1;obtain⟨v2,vs2,rfl,p',q'⟩:=q;rw[RelDL]at q';subst q';exact⟨_,_,rfl,o1 μ1 H1 _ Ext.refl s1 (((rs.mono x1).set i p).set j p')⟩
  | [],_,o1=>exact o1.elim
  | [_],_,o1=>exact o1.elim
  |_::_::_::_,_,o1=>exact o1.elim⟩
end
def oR:M Dv:=λ_ _=>.bad
def xW (f:bq->M Dv):List bq->M (List Dv)
 | []=>aC
 |e::es=>aB (f e) (xW f es)
def nE (lk:Str->Option Nat):Nat->bq->M Dv
 |0,_=>oR
 |n+1,e=>match e with
  | .Constant c _ _=>match c with
   | .int i=>mC (.int i)
   | .bool b=>mC (.bl b)
   | .none=>mC .non
   | .str x=>mC (.str x)
   |_=>oR
  | .Tuple es _ _=>aL (xW (nE lk n) es)
  | .List es _=>aR (xW (nE lk n) es)
  | .Dict [] [] _=>mC .edc
  | .Name x _=>match lk x with
   |some i=>aA i
   |none=>oR
  | .UnaryOp .USub a _=>m1 mU (nE lk n a)
  |_=>oR
def MV (e:bq):Prop:=∀es env,au (e::es) env=(false,eval e env)::au es env
section
variable{X:Cx}{G:Cfg}{E:XK}{lk:Str->Option Nat}
theorem xX {e:bq}:aJ X G E e oR:=λ_ pins s σ H Q _ ⟨_,_,_,_,_,o⟩=>o.elim
theorem j3 {e:bq}{es:List bq}{ms:M (List Dv)}:dM X G E (e::es) (aB oR ms):=λ_ pos pins s σ H Q _ ⟨_,_,_,_,_,o⟩=>o.elim
theorem DJ {f:bq->M Dv}(hf:∀e,aJ X G E e (f e)/\(MV e∨f e=oR)):∀es,dM X G E es (xW f es)
 | []=>aN
 |e::es=>by
  obtain⟨a,b|b⟩:=hf e
  ·exact aG a (DJ hf es) (b es X.env)
  ·show dM X G E (e::es) (aB (f e) _);rw[b];exact j3
theorem xY (hv:∀x i pos,lk x=some i->aJ X G E (.Name x pos) (aA i)):∀n e,aJ X G E e (nE lk n e)/\(MV e∨nE lk n e=oR)
 |0,_=>⟨xX,.inr rfl⟩
 |n+1,e=>by
  unfold nE
  split
  ·split
   ·exact⟨aZ,.inl λ_ _=>rfl⟩
   ·exact⟨fS,.inl λ_ _=>rfl⟩
   ·exact⟨pF,.inl λ_ _=>rfl⟩
   ·exact⟨wC,.inl λ_ _=>rfl⟩
   ·exact⟨xX,.inr rfl⟩
  ·exact⟨gM (DJ (xY hv n) _),.inl λ_ _=>rfl⟩
  ·exact⟨fU (DJ (xY hv n) _),.inl λ_ _=>rfl⟩
  ·exact⟨J4,.inl λ_ _=>rfl⟩
  ·rename_i x pos
   split
   ·rename_i i q;exact⟨hv x i pos q,.inl λ_ _=>rfl⟩
   ·exact⟨xX,.inr rfl⟩
  ·exact⟨CA (xY hv n _).1,.inl λ_ _=>rfl⟩
  ·exact⟨xX,.inr rfl⟩
theorem lR (n:Nat) {e:bq}{m:M Dv}(h:nE (λ_=>none) n e=m:=by rfl):aJ X G E e m:=h▸(xY (λ_ _ _ h=>by cases h) n e).1
end
structure SW (X:Cx) (G:Cfg) (E:XK) (st:gz) (m:MS):Prop where
 ok:hW X G E st m
structure SWs (X:Cx) (G:Cfg) (E:XK) (st:List gz) (m:MS):Prop where
 ok:jB X G E st m
section
variable{X:Cx}{G:Cfg}{E:XK}{st:gz}{rest:List gz}{m u:MS}{pos:Pos}
theorem DK (a:SW X G E st m) (b:SWs X G E rest u):SWs X G E (st::rest) (aI m u):=⟨aY a.ok b.ok⟩
theorem j5 (a:SW X G E st m):SWs X G E [st] m:=⟨bB a.ok⟩
theorem j6 (n:Nat) {i:Nat}{x:Str}{pos':Pos}{e:bq}{me:M Dv}(hN:X.N.Nodup) (hi:X.N[i]?=some x) (hx:kT X.env.scope x) (h:nE (λ_=>none) n e=me:=by rfl) (hs:swapsWith e (some (.Name x pos')) pos.line X.env=pure false:=by rfl) (hf:X.fn x=true∨X.env.scope.names.lookup x=some .local:=by first|exact .inl rfl|exact .inr rfl|assumption):
  SW X G E (.Assign [.Name x pos'] e pos) (aK me (aF i)):=⟨BG hN hi hx (lR n h) hs hf⟩
theorem MW (n:Nat) {i:Nat}{x:Str}{pos' p2 p3:Pos}{e:bq}{me:M Dv}(hN:X.N.Nodup) (hi:X.N[i]?=some x) (hx:kT X.env.scope x) (hv:aJ X G E (.Name x p2) (aA i)) (h:nE (λ_=>none) n e=me:=by rfl) (hs:swapsWith (.BinOp (.Name x p2) .Add e p3) (some (.Name x pos')) pos.line X.env=pure false:=by rfl) (hf:X.fn x=true∨X.env.scope.names.lookup x=some .local:=by first|exact .inl rfl|exact .inr rfl|assumption):
  SW X G E (.Assign [.Name x pos'] (.BinOp (.Name x p2) .Add e p3) pos) (aK (m2 bA (aA i) me) (aF i)):=⟨BG hN hi hx (eO hv (lR n h)) hs hf⟩
end
section
variable{P:bh}{w:cn}{K:aq}{mg:Str->Option af}{base:cu}{G:Cfg}{N:List Str}{f:ai}{k:Nat}
theorem j7 {x qual:Str}{st:gz}{fd:bo}{ps:List Str}{mb:MS}(Fn:Fun K x qual st f fd) (S:FnScope N ps (aU st)) (hK:K=G.K)
  (hbody:∀(cdv:af) (A:cf) (outer:List Env) (s:ag) (H:Hp) (E₀ E:XK),Good (gB (bK P w base) P w K mg base N qual (aU st) f cdv A outer s H E₀) G E k->SWs (gB (bK P w base) P w K mg base N qual (aU st) f cdv A outer s H E₀) G E (iY st) mb):
  FnOk P w K mg base (bK P w base) (k+1) f fd ps (cC G (aT ps.length N.length mb)):=cX Fn S hK λcdv A outer s H E₀ E g=>(hbody cdv A outer s H E₀ E g).ok
end
open SR
def lS (ns:List Int):Nat:=(firstMet (λi=>ns.getD i 0) ns.length).length
section
variable{prog:bh}{w:cn}{A:cf}{E:af->ag->Prop}{s:ag}
theorem j8 {l:ai}{T:String}{it:Obj}{n:Nat}{P:Nat->af->Prop}{St:Nat->cu->Prop}{fp wr:List ai}(ky:Nat->Int) {Q:af->ag->Prop}
  (hT:s.TypeIs (.ref l) T) (n1:isSubtype (.type T) (.type "set")=pure false) (n2:isSubtype (.type T) (.type "frozenset")=pure false) (n3:(vq T==vq "dict")=false)
  (hi:∀(B:cf) (Q':af->ag->Prop) (E':af->ag->Prop),Q' (.ref (s.heap.objs.size+1)) { s with heap:=(s.heap.push (bare w)).push it }->wpAny (model prog w) B (pyIter (.ref l)) Q' E' { s with heap:=s.heap.push (bare w) })
  (W:Walks prog w A.in1.in1.in1 (s.heap.objs.size+1) fp wr n P St) (hfp:s.heap.objs.size∉fp) (hwr:∀b∈wr,s.heap.objs.size<b) (h0:St 0 ((s.heap.push (bare w)).push it))
  (hval:∀i v,P i v->∃t,v=.int (ky i) t) (hn:n+1<scanBound)
  (q:∀(h':cu) (tk:Nat),h'.SetOf (intKind prog w) s.heap.objs.size (λk=>(firstMet ky n).any (·==k)) (firstMet ky n).length->(∀b o,s.heap.get? b=some o->h'.get? b=some o)->Q (.ref s.heap.objs.size) { s with heap:=h',toks:=tk }):
  wpAny (model prog w) A (call (.type "set") [.ref l]) Q E s:=by
 refine MB (N:=λx s1=>x=.ref s.heap.objs.size/\s1={ s with heap:=s.heap.push (bare w) }) (MA _ ⟨rfl,rfl⟩) ?_
 rintro x s1 ⟨rfl,rfl⟩
 have up:∀b o,s.heap.get? b=some o->(s.heap.push (bare w)).get? b=some o:=λb o e=>aj _ e;have hb:(s.heap.push (bare w)).get? s.heap.objs.size=some (bare w):=ax _ rfl;have hS:pj { s with heap:=s.heap.push (bare w) } (.ref s.heap.objs.size) "set" := ⟨_,hb,rfl⟩;refine⟨hS,oh F.called_set.init.plain F.entry_set_init (check_set_init_1 hS ?_)⟩;obtain⟨ol,el,cl⟩:=hT;have hl1:pj { s with heap:=s.heap.push (bare w) } (.ref l) T:=⟨ol,up l ol el,cl⟩
 have hb2:((s.heap.push (bare w)).push it).get? s.heap.objs.size=some (bare w):=aj _ hb;have run:∀(R:yb->ag->Prop),(∀h' tk,h'.SetOf (intKind prog w) s.heap.objs.size (λk=>(firstMet ky n).any (·==k)) (firstMet ky n).length->(∀b o,s.heap.get? b=some o->h'.get? b=some o)->R (.ok (.ret .none)) { s with heap:=h',toks:=tk })->
   codeAny (model prog w) A.in1.in1 (.builtin "set.update.loop" ⟨[.ref s.heap.objs.size,.ref (s.heap.objs.size+1)],[]⟩) R { s with heap:=(s.heap.push (bare w)).push it }:=λR hR=>by
  refine codeAny_set_update_loopS W.toS s.heap.objs.size hfp ky hval hn n 0 _ rfl (jc _) h0 (SetOf_congr ((setObjOf_fresh (knd:=intKind prog w) _).setOf hb2 (by unfold scanBound;omega)) (λ_=>rfl) rfl) λs' hm hS'=>?_;rw[Moved.eq_with hm];refine hR s'.heap s'.toks hS' λb o e=>?_;have hlt:=ar e;exact hm.heap b o (λm=>(ay.mp m).elim (az hlt) λm=>Cn hlt (hwr b m)) (aj _ (up b o e))
 unfold mr.«set.__init__» noKeywords ux;generalize hPI:pyIter=PI;unfold bare at hb
 wp_walk
 subst hPI;refine hi _ _ _ ?_;refine aa (wx (run _ λh' tk S keep=>?_));exact ah (ah ⟨rfl,q h' tk S keep⟩)
end
section
variable{X:Cx}{G:Cfg}{E:XK}{k:Nat}{e:bq}{aS:M (List Dv)}{p p2 pos pos2:Pos}
abbrev j9:List V->Hp->VK->Prop:=λxs H Q=>∃(p:ai) (ns:List Int),xs=[.ref p]/\H p=some (.tup (ns.map V.int))/\ns.length<1000/\∀l S,H l=none->Q (.ref l) (upd H l (.set S (lS ns)))
theorem k6 (hc:X.calm=true):CallR X (.type "set") j9:=by
 intro pins s σ H xs us Q I rv ⟨p,ns,e,hp,hz,q⟩;subst e;obtain⟨u,rfl,ru⟩:=hJ rv;cases ru;obtain⟨its,rits,pl,_⟩:=I.tuple (SqT.of hp);have lp:=I.hok.lt hp;have hn:its.toArray.size=ns.length:=by have:=rits.length;simp at this ⊢;omega
 have hI:s.heap.IsTuple p its.toArray:=pl;have hne:p≠s.heap.objs.size+1:=az (ik lp);have hb:(s.heap.push (bare X.w)).IsTuple p its.toArray:=yw (items:=its.toArray) hI _;have hs1:(s.heap.push (bare X.w)).objs.size=s.heap.objs.size+1:=vm _ _;have W:=Walks.tuple (prog:=X.prog) (w:=X.w) (A:=X.A.in1.in1.in1) (show X.A.in1.in1.in1.handled=none from I.ok.hd hc) (s.heap.objs.size+1) p hne its.toArray;rw[hn]at W;refine j8 (T := "tuple") (it:={ cls:=.type "tuple_iterator",data:=.fields #[.ref p,.int 0 0] }) (λi=>ns.getD i 0) hI.typeIs sub_tuple.1 sub_tuple.2 (by decide) (λB Q' E' hQ=>?_) W (λm=>?_) (λb hb=>?_) ⟨⟨{ cls:=.type "tuple_iterator",data:=.fields #[.ref p,.int 0 0] }, ?_,rfl,rfl⟩,yw (items:=its.toArray) hb _⟩ (λi v hv=>tV rits hv) (by unfold scanBound;omega) λh' tk hS kk=>?_
 ·refine pg hb ?_;rw[<-hs1]at hQ;exact hQ
 ·rcases ay.mp m with z|m
  ·exact nv _ z.symm
  ·exact jh lp (df.mp m)
 ·rw[df.mp hb];exact jv _
 ·rw[<-hs1];exact ax _ rfl
 ·exact⟨.ref s.heap.objs.size,_,I.laid (t':=tk) (o:=.set _ (lS ns)) kk (ak _) hS,rfl,q _ _ (I.hok.fresh (ak _))⟩
abbrev k7:List V->Hp->VK->Prop:=λxs H Q=>∃(l:ai) (S:Int->Bool) (n:Nat),xs=[.ref l]/\H l=some (.set S n)/\Q (.int n) H
theorem k8:CallR X (.builtin "len") k7:=by intro pins s σ H xs us Q I rv ⟨l,S,n,e,hl,q⟩;subst e;obtain⟨u,rfl,ru⟩:=hJ rv;cases ru;obtain⟨o,es,ep,t,ho,hex,hd,_,_,hsz,hf,en⟩:s.heap.SetOf (intKind X.prog X.w) l S n:=I.hok l _ hl;refine call_len_set ho hex hd hf (by unfold scanBound at hsz;omega) ?_;rw[en];exact⟨.int n,H,I.tok _,⟨_,rfl⟩,q⟩
def nF:Dv->Hs->Rs Dv
 | .tup xs,h=>match bJ eR xs with
  |some ns=>if ns.length<1000 then .ok (.int (lS ns)) h else .bad
  |none=>.bad
 |_,_=>.bad
theorem k9 (hc:X.calm=true) (hg:Gl X "len") (hm:X.mg "len" = none) (hg2:Gl X "set") (hm2:X.mg "set" = none) (ha:dM X G E [e] aS)
  (he:au [e] X.env=[(false,eval e X.env)]:=by rfl) (he2:au [Expr.Call (.Name "set" p2) [e] [] pos2] X.env=[(false,eval (.Call (.Name "set" p2) [e] [] pos2) X.env)]:=by rfl):
  aJ X G E (.Call (.Name "len" p) [.Call (.Name "set" p2) [e] [] pos2] [] pos) (aE (f1 nF) aS):=λhK=>
 PE.imp (qJ k8 hg hm yr (hO (sR (k6 hc) hg2 hm2 MJ (ha hK) (by decide) (by decide) he rfl) iX he2) (by decide) (by decide) he2 rfl) λσ H Q ⟨μ,ρ,h,rs,s,o⟩=>by
  refine kD rs s o λμ1 ds h1 vs H1 x1 rs1 s1 r1 o1=>?_;unfold f1 at o1
  split at o1
  ·rename_i d;obtain⟨v,rfl,rv⟩:=qT r1
   cases d with
   |tup xs=>
    dsimp only[nF]at o1
    cases q:bJ eR xs with
    |none=>rw[q]at o1;exact o1.elim
    |some ns=>
     rw[q]at o1;dsimp only at o1
     split at o1
     ·rename_i h0;obtain⟨a,vs,rfl,e1,r2⟩:=rv;refine⟨a,ns,rfl,by rw[e1,mW r2 q],h0,λl S hl=>⟨l,S,_,rfl,cK, ?_⟩⟩;exact o1 μ1 _ _ (Ext.same (cI hl)) (s1.same (cI hl)) rfl
     ·exact o1.elim
   |_=>exact o1.elim
  ·exact o1.elim
end
theorem MX (ns:List Int):∀i,i<=ns.length->∀k,k∈firstMet (λi=>ns.getD i 0) i↔k∈ns.take i
 |0,_,k=>by simp[firstMet_zero]
 |i+1,h,k=>by
  have ih:=MX ns i (by omega);have hi:i<ns.length:=by omega
  rw[firstMet_succ];unfold step_dedup;rw[ka hi]
  by_cases c:(firstMet (λi=>ns.getD i 0) i).any (·==ns.getD i 0)=true
  ·rw[if_pos c];simp only[pw,beq_iff_eq,exists_eq_right]at c;rw[ih,cg];refine⟨.inl,λz=>z.elim id λz=>?_⟩;have:k=ns[i]:=by simpa using z
   rw[this];have:=(ih _).mp c;simpa[hi]using this
  ·rw[if_neg c,cg,cg,ih];simp[hi]
theorem l8 (ns:List Int):lS ns=ns.length↔ns.Nodup:=by
 have key:∀i,i<=ns.length->((firstMet (λi=>ns.getD i 0) i).length=i↔(ns.take i).Nodup):=by
  intro i
  induction i with
  |zero=>intro _;simp[firstMet_zero]
  |succ i ih=>
   intro h;have hi:i<ns.length:=by omega
   have ih:=ih (by omega);have le:=firstMet_length_le (λi=>ns.getD i 0) i;rw[firstMet_succ,step_length,ka hi,List.nodup_append];have hm:((firstMet (λi=>ns.getD i 0) i).any (·==ns.getD i 0)=true)↔ns[i]∈ns.take i:=by rw[<-MX ns i (by omega)];simp[hi]
   by_cases c:(firstMet (λi=>ns.getD i 0) i).any (·==ns.getD i 0)=true
   ·rw[if_pos c];refine⟨λz=>by omega,λz=>?_⟩;exact absurd rfl (z.2.2 _ (hm.mp c) _ (df.mpr rfl))
   ·rw[if_neg c];refine⟨λz=>⟨ih.mp (by omega),by simp,λa ha b hb e=>?_⟩,λz=>by rw[ih.mpr z.1]⟩;have:b=ns[i]:=by simpa using hb
    subst this;subst e;exact c (hm.mpr ha)
 have:=key ns.length (ak _);rw[List.take_length]at this;exact this
section
variable{prog:bh}{w:cn}{A:cf}{E:af->ag->Prop}{s:ag}{z TI TO i j u v T:ai}{xs ys:List af}{st su:Nat->cu->Prop}{f1:Bool}
end
section
variable{X:Cx}{pins:List (ai×Obj)}{σ:St}{H:Hp}{s:ag}{B:cf}{z TI TO i j t u:ai}{vs ws:List V}{n:Nat}
end
abbrev DL (acc:List af) (c:Nat):Obj:={ cls:=.type "list",dict:=none,data:=.seq acc.toArray c,slots:=#[] }
section
variable{X:Cx}{pins:List (ai×Obj)}{σ:St}{B:cf}{z TI TO i j t u S:ai}{vs ws:List V}{H0:Hp}
end
section
variable{X:Cx}{G:Cfg}{E:XK}{a b:bq}{ta:TA}{ms:M (List Dv)}{p p2 pos pos2:Pos}
end
open PySem.SeqAt PySem.MeetsSeq PySem.MeetsSeq2 PySem.MeetsSeq3
section
variable{prog:bh}{w:cn}{A:cf}{Ee:af->ag->Prop}{s:ag}
end
section
variable{X:Cx}{G:Cfg}{E:XK}{k:Nat}{e:bq}{aS:M (List Dv)}{p p2 pos pos2:Pos}
end
theorem m6 (a d:af):argsOk "max" ⟨[a],[("default",d)]⟩:=by unfold argsOk;kernel_rfl
section
variable{prog:bh}{w:cn}{A:cf}{I S:ai}{fp wr:List ai}{n:Nat}{P:Nat->af->Prop}{St:Nat->cu->Prop}{R:yb->ag->Prop}{ky:Nat->Int}{d:af}
abbrev nG:Int->Int->Bool:=λa b=>decide (a>b)
def MY (P:Nat->af->Prop) (ky:Nat->Int) (k:Nat) (acc:List af):Prop:=match k with
 |0=>acc=[]
 |k+1=>∃i v,P i v/\ky i=iJ nG ky k/\acc=[v,v]
theorem m7 (W:Walks prog w A.in1 I fp wr n P St) (hc:CmpOf prog w A.in1 .Gt P (λi j=>nG (ky i) (ky j))) (hS:S∉fp):
  ∀(m k:Nat) (s:ag) (acc:List af) (c:Nat),k+m=n->St k s.heap->s.heap.get? S=some (DL acc c)->MY P ky k acc->
   (∀v h' tk,(n=0/\v=d∨∃i p,P i v/\n=p+1/\ky i=iJ nG ky p)->(∀b o,b∉wr->b≠S->s.heap.get? b=some o->h'.get? b=some o)->R (.ok (.ret v)) { s with heap:=h',toks:=tk })->
   codeAny (model prog w) A (.builtin "max.loop" ⟨[.ref I,.none,.ref S],[("default",d)]⟩) R s:=by
 have hw:S∉wr:=λh=>hS (W.sub _ h);have nm:(toString "max" ++ toString ".loop" : String) = "max.loop" := by decide
 have oth:∀(h:cu) (f:Array af->Array af) b o,b≠S->h.get? b=some o->(h.update S (ou f)).get? b=some o:=λh f b o hb q=>(kv _ _ (cy hb)).trans q;intro m
 induction m with
 |zero=>
  intro k s acc c e st eS b fin;obtain rfl:k=n:=by omega
  refine jr F.entry_max_loop ?_;rw[iw F.plain_max_loop _];refine aa (m:=seqItems? (.ref S)) (iz eS rfl (aa (Cr (W.done s _ _ st λh' tk kk=>?_))))
  cases k with
  |zero=>obtain rfl:acc=[]:=b;exact aa (ql (ah (fin d h' tk (.inl ⟨rfl,rfl⟩) λb o hb _ q=>kk b o hb q)))
  |succ k=>obtain⟨i,v,pv,ev,rfl⟩:=b;have eS':=kk S _ hw eS;refine aa (m:=updateSeq S λ_=>#[]) (Bt eS' rfl (aa (qu (ah ?_))) (by show 2<=bw;decide) (by show 0<=bw+1;omega));exact fin v _ tk (.inr ⟨i,k,pv,rfl,ev⟩) λb o hb hs q=>oth _ _ b o hs (kk b o hb q)
 |succ m ih=>
  intro k s acc c e st eS b fin;refine jr F.entry_max_loop ?_;rw[iw F.plain_max_loop _];refine aa (m:=seqItems? (.ref S)) (iz eS rfl (aa (Cr (W.item k s _ _ (by omega) st λx h' tk px st' kk=>?_))));have eS':=kk S _ hw eS;have go:∀(g:cu) (t:Nat) (acc':List af) (c':Nat),g.get? S=some (DL acc' c')->MY P ky (k+1) acc'->(∀b o,b≠S->h'.get? b=some o->g.get? b=some o)->
    wpAny (model prog w) A.in1 (again (.builtin (toString "max" ++ toString ".loop") ⟨[.ref I,.none,.ref S],[("default",d)]⟩)) (λf s'=>match f with | .done f=>R (.ok f) s' | .again c'=>c'.quiet=true/\codeAny (model prog w) A c' R s') (λe s'=>R (.error e) s') { s with heap:=g,toks:=t }:=λg t acc' c' eg b' og=>by
   rw[nm];refine ah ⟨xq F.plain_max_loop _,ih (k+1) _ acc' c' (by omega) (W.frame _ _ _ st' λb hb o q=>og b o (λz=>hS (z▸hb)) q) eg b' λv h'' tk'' hv k''=>?_⟩;exact fin v h'' tk'' hv λb o hb hs q=>k'' b o hb hs (og b o hs (kk b o hb q))
  cases k with
  |zero=>obtain rfl:acc=[]:=b;refine aa (m:=updateSeq S λ_=>#[x,x]) (Bt eS' rfl ?_ (by show 0<=bw;omega) (by show 2<=bw+1;decide));exact go _ _ [x,x] _ (jx _ eS' rfl) ⟨0,x,px,rfl,rfl⟩ λb o hb q=>oth _ _ b o hb q
  |succ k=>
   obtain⟨i,v,pv,ev,rfl⟩:=b;refine aa (ah (aa (Cr (fz (aa (hc (k+1) i x v _ _ _ px pv (aa (fz (kg (aa (qu (ah ?_))))))))))));have best:iJ nG ky (k+1)=if nG (ky (k+1)) (ky i)=true then ky (k+1)else ky i:=by rw[iJ,<-ev]
   cases hb:nG (ky (k+1)) (ky i)with
   |true=>rw[hb,if_pos rfl]at best;rw[if_pos (show(λi j=>nG (ky i) (ky j)) (k+1) i=true from hb)];refine aa (m:=updateSeq S λ_=>#[x,x]) (Bt eS' rfl (aa (qu ?_)) (by show 2<=bw;decide) (by show 2<=bw+1;decide));exact go _ _ [x,x] _ (jx _ eS' rfl) ⟨k+1,x,px,best.symm,rfl⟩ λb o hb q=>oth _ _ b o hb q
   |false=>rw[hb,if_neg (by decide)]at best;rw[if_neg (show ¬ (λi j=>nG (ky i) (ky j)) (k+1) i=true from by rw[show(λi j=>nG (ky i) (ky j)) (k+1) i=false from hb];decide)];refine aa (qu ?_);exact go _ _ [v,v] _ eS' ⟨i,v,pv,best.symm,rfl⟩ λb o _ q=>q
end
section
variable{X:Cx}{G:Cfg}{E:XK}{e:bq}{ml:M (List Dv)}{p pos kpos:Pos}
theorem m8 (hc:X.calm=true) {pins:List (ai×Obj)}{s:ag}{σ:St}{H:Hp}{Q:VK}{q:ai}{ns:List Int}{dv:Int}{t0:Tok}(I:Inv X pins σ H s) (hp:H q=some (.lst (ns.map V.int))) (k:Q (.int (if ns=[]then dv else fG ns)) H):
  wpAny (model X.prog X.w) X.A (call (.builtin "max") [.ref q] [("default",.int dv t0)]) (EP X pins σ Q) X.xe s:=by
 obtain⟨its,rits,pl,hz⟩:=I.list (SqL.of hp);have hn:its.toArray.size=ns.length:=by have:=rits.length;simp at this ⊢;omega
 have lp:=I.hok.lt hp;have nm:(toString "max" ++ toString ".loop" : String) = "max.loop" := by decide
 have hh:X.A.in1.handled=none:=I.ok.hd hc;refine yc (oh F.plain_max F.entry_max ?_);have ck:checkBuiltinCall "max" ⟨[.ref q],[("default",.int dv t0)]⟩=pure ():=by
  have a:=m6 (.ref q) (.int dv t0);unfold argsOk at a;unfold checkBuiltinCall;rw[F.kind_max]
  revert a
  cases Manifest.signature? "max" with
  |none=>intro _;rfl
  |some sg=>intro a;exact a
 refine ug ck ?_;have bp:vg "max" ["key","default"] 0 ⟨[],[("default",.int dv t0)]⟩=pure [none,some (.int dv t0)]:=by kernel_rfl
 refine aa (m:=vg "max" ["key","default"] 0 ⟨[],[("default",.int dv t0)]⟩) (ug bp (aa (ah (aa (nq pl.isList (aa (dg ?_)))))));rw[nm];have ne1:q≠s.heap.objs.size:=az lp;have W:=we (prog:=X.prog) (w:=X.w) (A:=X.A.in1) hh s.heap.objs.size q ne1 its.toArray;rw[hn]at W;generalize hit:({ cls:=.type "list_iterator",data:=.fields #[.ref q,.int 0 0] }:Obj)=it;have e1:(s.heap.push it).get? s.heap.objs.size=some it:=ax _ (by rw[<-hit];rfl);have s1:(s.heap.push it).objs.size=s.heap.objs.size+1:=vm _ _;have eS:((s.heap.push it).push { cls:=.type "list",dict:=none,data:=.seq ([]:List af).toArray }).get? (s.heap.objs.size+1)=some (DL [] 0):=by rw[<-s1];exact ax _ rfl
 have l1:((s.heap.push it).push { cls:=.type "list",dict:=none,data:=.seq ([]:List af).toArray }).IsList q its.toArray:=(pl.isList.push _).push _;have st:((s.heap.push it).push { cls:=.type "list",dict:=none,data:=.seq ([]:List af).toArray }).get? s.heap.objs.size=some it:=aj _ e1;have kp:∀b o,s.heap.get? b=some o->((s.heap.push it).push { cls:=.type "list",dict:=none,data:=.seq ([]:List af).toArray }).get? b=some o:=λb o e=>aj _ (aj _ e);rw[s1];generalize ((s.heap.push it).push { cls:=.type "list",dict:=none,data:=.seq ([]:List af).toArray })=g at eS l1 st kp;refine ah ⟨xq F.plain_max_loop _,m7 (ky:=λi=>ns.getD i 0) W (CmpOf.ints_gt (λi=>ns.getD i 0) (λi v ev=>tV rits ev)) ?_ ns.length 0 { s with heap:=g } [] 0 (by omega) ⟨⟨it,st,by rw[<-hit],by rw[<-hit];rfl⟩,l1⟩ eS rfl λv h' tk hv kk=>?_⟩
 ·intro m
  rcases ay.mp m with z|z
  ·exact nv _ z
  ·exact jh (ik lp) (df.mp z)
 ·have I':Inv X pins σ H { s with heap:=h',toks:=tk }:=I.kept (t':=tk) λb o e=>by have lt:=ar e;exact kk b o (λm=>az lt (df.mp m)) (az (ik lt)) (kp b o e)
  rcases hv with⟨h0,rfl⟩|⟨i,p,pv,hp1,hb⟩
  ·have:ns=[]:=uc.mp h0;rw[if_pos this]at k;exact⟨.int dv,H,I',⟨t0,rfl⟩,k⟩
  ·have hne:ns≠[]:=λz=>by rw[z]at hp1;cases hp1
   rw[if_neg hne]at k;obtain⟨t',rfl⟩:=tV rits pv;refine⟨.int (fG ns),H,I',⟨t', ?_⟩,k⟩;rw[hb,fG,hp1];rfl
def uJ (dv:Int) (x:Dv) (h:Hs):Rs Dv:=match x with
 | .ref i=>match getL h i with
  |some xs=>match bJ eR xs with
   |some ns=>.ok (.int (if ns=[]then dv else fG ns)) h
   |none=>.bad
  |none=>.bad
 |_=>.bad
theorem m9 {me:M Dv}{dv:Int}{cj:Nat}{cpos:Pos}(hc:X.calm=true) (hg:Gl X "max") (hm:X.mg "max" = none) (he:aJ X G E e me)
  (h1:backTo pos (au [e] X.env)=(false,eval e X.env)::backTo pos (au [] X.env):=by rfl) (h2:(backTo pos (au [e] X.env)).any (·.1)=false:=by rfl):
  aJ X G E (.Call (.Name "max" p) [e] [⟨some "default",.Constant (.int dv) cj cpos,kpos⟩] pos) (m1 (uJ dv) me):=λhK pins s σ H Q I ⟨μ,ρ,h,rs,sm,o⟩=>by
 refine mq (pE I hg hm BD (callWith_kw ?_ h1 h2));rw[h1];refine Cy (aV (he hK pins s σ H _ I ⟨μ,ρ,h,rs,sm,Out.bind (R1:=RelD G) o⟩) λu s1 ⟨v,H1,I1,r1,μ1,x,h1',x1,sm1,rx,o1⟩=>Calls.spliced_nil (kws_cons (aV (GC pins s1 σ H1 (λv H=>v=.int dv/\H=H1) I1 ⟨rfl,rfl⟩) λu2 s2 ⟨v2,H2,I2,r2,e2,e3⟩=>kws_nil ?_)));subst e2 e3;obtain⟨t0,rfl⟩:=r2
 cases x with
 |ref i=>
  dsimp only[uJ]at o1
  cases q1:getL h1' i with
  |none=>rw[q1]at o1;exact o1.elim
  |some xs=>
   rw[q1]at o1;dsimp only at o1
   cases q2:bJ eR xs with
   |none=>rw[q2]at o1;exact o1.elim
   |some ns=>rw[q2]at o1;obtain⟨vs,ea,ra⟩:=sm1.ob i _ (cY q1);obtain⟨_,rfl⟩:=rx;cases r1;exact m8 hc I2 (by rw[ea,mW ra q2]) (o1.val sm1 rfl)
 |_=>exact o1.elim
end
def xZ (me mo mi mo' mi':M Dv):MS:=λρ h=>(me ρ h).thenS λd h1=>match d with
 | .tup [a,b]=>(mo ρ h1).thenS λo h2=>(mi ρ h2).thenS λi h3=>match iP o i a h3 with
  |some h4=>(mo' ρ h4).thenS λo' h5=>(mi' ρ h5).thenS λi' h6=>match iP o' i' b h6 with
   |some h7=>.nx ρ h7
   |none=>.bad
  |none=>.bad
 |_=>.bad
section
variable{X:Cx}{G:Cfg}{E:XK}{o i o' i' e:bq}{me mo mi mo' mi':M Dv}{pos spos spos' tpos:Pos}{kt:Nat}
theorem MZ {μ:Nat->ai}{h h4:Hs}{H:Hp}{ob ix d:Dv}{vo vi v:V}{Q:Hp->Prop}(s:Sim G μ h H) (r2:RelD G μ h.length H ob vo) (r3:RelD G μ h.length H ix vi) (r1:RelD G μ h.length H d v) (q0:iP ob ix d h=some h4)
  (k:∀H4,Ext μ h.length H μ h4.length H4->Sim G μ h4 H4->Q H4):∃a vs j n,vo=.ref a/\vi=.int j/\H a=some (.lst vs)/\dX vs.length j=some n/\Q (upd H a (.lst (vs.set n v))):=by
 cases ob with
 |ref j=>
  cases ix with
  |int k'=>
   dsimp only[iP]at q0
   cases q:getL h j with
   |none=>rw[q]at q0;cases q0
   |some xs=>
    rw[q]at q0;dsimp only at q0
    cases q2:dX xs.length k' with
    |none=>rw[q2]at q0;cases q0
    |some n=>rw[q2]at q0;cases q0;obtain⟨vs,ea,ra⟩:=s.ob j _ (cY q);obtain⟨_,rfl⟩:=r2;rw[RelD]at r3;subst r3;obtain⟨x4,s4⟩:=s.write (cY q) (RelDL.set r1 n ra);exact⟨_,vs,k',n,rfl,rfl,ea,by rw[ra.length];exact q2,k _ x4 s4⟩
  |_=>cases q0
 |_=>cases ix <;> cases q0
theorem n9 (hc:X.calm=true) (ho:aJ X G E o mo) (hi:aJ X G E i mi) (ho':aJ X G E o' mo') (hi':aJ X G E i' mi') (he:aJ X G E e me)
  (ha:∀v,assign (.Subscript o i spos) X.env v=(do
   let ov <-holding [v] (eval o X.env)
   let iv <-holding [v,ov] (eval i X.env)
   standAt spos
   holding [v,ov,iv] (setItem ov iv v)
   release [v,ov,iv] []):=by intro _;rfl)
  (ha':∀v,assign (.Subscript o' i' spos') X.env v=(do
   let ov <-holding [v] (eval o' X.env)
   let iv <-holding [v,ov] (eval i' X.env)
   standAt spos'
   holding [v,ov,iv] (setItem ov iv v)
   release [v,ov,iv] []):=by intro _;rfl)
  (hs:swapsWithSole [.Tuple [.Subscript o i spos,.Subscript o' i' spos'] kt tpos] e pos.line X.env=pure false:=by rfl) (hw:swappedStores [.Tuple [.Subscript o i spos,.Subscript o' i' spos'] kt tpos] e X.env=pure none:=by rfl)
  (h1:(assignEach [.Tuple [.Subscript o i spos,.Subscript o' i' spos'] kt tpos] X.env).map (·.2)=[assign (.Tuple [.Subscript o i spos,.Subscript o' i' spos'] kt tpos) X.env]:=by rfl)
  (h2:(assignEach [.Subscript o i spos,.Subscript o' i' spos'] X.env).map (·.2)=assign (.Subscript o i spos) X.env::(assignEach [.Subscript o' i' spos'] X.env).map (·.2):=by rfl)
  (h3:(assignEach [.Subscript o' i' spos'] X.env).map (·.2)=assign (.Subscript o' i' spos') X.env::(assignEach [] X.env).map (·.2):=by rfl)
  (h4:(assignEach [.Subscript o i spos,.Subscript o' i' spos'] X.env).length=2:=by rfl) (h5:(assignEach [.Subscript o i spos,.Subscript o' i' spos'] X.env).findIdx? (·.1)=none:=by rfl):
  hW X G E (.Assign [.Tuple [.Subscript o i spos,.Subscript o' i' spos'] kt tpos] e pos) (xZ me mo mi mo' mi'):=λhK=>
 PS.imp (AE (he hK) (GL hc (AB (AD (ho hK) (hi hK) AU ha) (AB (AD (ho' hK) (hi' hK) AU ha') GK h3) h2) h4 h5) hs hw h1) λD σ H ⟨μ,ρ,h,rs,s,oo⟩=>jC rs s oo λμ1 d h1 v H1 x1 rs1 s1 r1 o1=>by
  match d,r1,o1 with
  | .tup [a,b],r1,o1=>
   obtain⟨p,vs,rfl,ep,rp⟩:=r1;obtain⟨va,vb,rfl,ra,rb⟩:=wI rp;refine⟨p,_,rfl,SqT.of ep,rfl,va,[vb],rfl,jC rs1 s1 o1 λμ2 ob h2 vo H2 x2 rs2 s2 r2 o2=>jC rs2 s2 o2 λμ3 ix h3 vi H3 x3 rs3 s3 r3 o3=>?_⟩
   cases q:iP ob ix a h3 with
   |none=>rw[q]at o3;exact o3.elim
   |some h4=>
    rw[q]at o3;refine MZ s3 (RelD.mono x3 _ _ r2) r3 (RelD.mono (x2.trans x3) _ _ ra) q λH4 x4 s4=>⟨vb,[],rfl,jC (rs3.mono x4) s4 (o3.ext x4) λμ5 ob' h5 vo' H5 x5 rs5 s5 r5 o5=>jC rs5 s5 o5 λμ6 ix' h6 vi' H6 x6 rs6 s6 r6 o6=>?_⟩
    cases q':iP ob' ix' b h6 with
    |none=>rw[q']at o6;exact o6.elim
    |some h7=>rw[q']at o6;exact MZ s6 (RelD.mono x6 _ _ r5) r6 (RelD.mono ((((x2.trans x3).trans x4).trans x5).trans x6) _ _ rb) q' λH7 x7 s7=>⟨rfl,o6 μ6 H7 σ x7 s7 (rs6.mono x7)⟩
  | .non,_,o1=>exact o1.elim
  | .bl _,_,o1=>exact o1.elim
  | .int _,_,o1=>exact o1.elim
  | .str _,_,o1=>exact o1.elim
  | .ref _,_,o1=>exact o1.elim
  | .edc,_,o1=>exact o1.elim
  | .exc _,_,o1=>exact o1.elim
  | .scr,_,o1=>exact o1.elim
  | .tup [],_,o1=>exact o1.elim
  | .tup [_],_,o1=>exact o1.elim
  | .tup (_::_::_::_),_,o1=>exact o1.elim
end
theorem o7 {h:cu}{a:ai}{vs:List af}{out:Array af}{n:Nat}(ho:h.get? a=some (seqObj "list" vs.toArray n)):∃ep,(sortedHeap h a vs out).get? a=some (seqObj "list" out ep):=by have e1:=nh ho λ_=>#[];have e2:=aj (seqObj "list" #[] 0) (aj (seqObj "tuple" vs.toArray 0) e1);exact⟨_,nh e2 λ_=>out⟩
theorem p0 {h:cu}{a b:ai}{vs:List af}{out:Array af}{o:Obj}(hb:b≠a) (e:h.get? b=some o):(sortedHeap h a vs out).get? b=some o:=by unfold sortedHeap;rw[jo _ _ _ _ hb];refine aj _ (aj _ ?_);rw[jo _ _ _ _ hb];exact e
section
variable{X:Cx}{G:Cfg}{E:XK}{e:bq}{aS:M (List Dv)}{p pos:Pos}
abbrev M1:List V->Hp->VK->Prop:=λxs H Q=>∃(p:ai) (ns:List Int),xs=[.ref p]/\H p=some (.tup (ns.map V.int))/\ns.length<64/\∀l,H l=none->Q (.ref l) (upd H l (.lst ((hZ ns).map V.int)))
theorem p6:CallR X (.builtin "sorted") M1:=by
 intro pins s σ H xs us Q I rv ⟨p,ns,e,hp,h0,q⟩;subst e;obtain⟨u,rfl,ru⟩:=hJ rv;cases ru;obtain⟨its,rits,pt,hz⟩:=I.tuple (SqT.of hp);have hl:=rits.length;rw[bj]at hl;refine zy kind_sorted plain_sorted entry_sorted (args_sorted1 _) ?_;unfold mr.«sorted»;refine aa (m:=checkCount "sorted" 1 1 _) (ah (aa (d6 pt (by rw[jn];omega) λh1 k1 sz=>aa (uw ?_ (by rw[jn];omega)))));have g:(h1.push (seqObj "list" its.toArray 0)).get? h1.objs.size=some (seqObj "list" its.toArray 0):=ax _ rfl;have k2:pV s.heap (h1.push (seqObj "list" its.toArray 0)):=λb o e=>aj _ (k1 b o e);refine aa (fz (fv slot_list_sort ⟨_,g,rfl⟩ entry_list_sort (list_sort_tree (s:={ s with heap:=h1.push (seqObj "list" its.toArray 0) }) g (CD rits) (by omega) λout ns' a1 a2 a3=>⟨_,rfl,ah ⟨_,rfl, ?_⟩⟩) (args_list_sort _)));obtain⟨ep,he⟩:=o7 (out:=out) g;have hu:=KD a2 a3;subst hu;refine⟨.ref h1.objs.size,_,I.laid (t':=s.toks) (λb o e=>p0 (az (aw (ar e) sz)) (k2 b o e)) sz (show ObjOk X.prog X.w _ _ _ (.lst ((hZ ns).map V.int)) from⟨?_,out.toList,ep,sT a1, ?_⟩),rfl,q _ (I.hok.fresh sz)⟩
 ·rw[bj,YD];exact dm (ic h0) (by decide)
 ·rw[he]
def pZ (x:Dv) (h:Hs):Rs Dv:=match x with
 | .tup xs=>match bJ eR xs with
  |some ns=>if ns.length<64 then .ok (.ref h.length) (h++[.lst ((hZ ns).map Dv.int)])else .bad
  |none=>.bad
 |_=>.bad
theorem p7:kE G (λx H Q=>M1 [x] H Q) pZ:=by
 intro E μ h H x vx Q s r o
 cases x with
 |tup xs=>
  dsimp only[pZ]at o
  cases q2:bJ eR xs with
  |none=>rw[q2]at o;exact o.elim
  |some ns=>
   rw[q2]at o;dsimp only at o
   split at o
   ·rename_i h0;obtain⟨a,vs,rfl,e1,r1⟩:=r;exact⟨_,ns,rfl,by rw[e1,mW r1 q2],h0,λl hl=>pG s (qS _) hl o⟩
   ·exact o.elim
 |_=>exact o.elim
theorem p8 (hg:Gl X "sorted") (hm:X.mg "sorted" = none) (ha:dM X G E [e] aS)
  (he:au [e] X.env=[(false,eval e X.env)]:=by rfl):aJ X G E (.Call (.Name "sorted" p) [e] [] pos) (aE (f1 pZ) aS):=
 pJ (CallR.imp p6 λxs H Q ⟨v,h1,h2⟩=>by rw[h1];exact h2) (pK p7) hg hm KH ha (by decide) (by decide) he rfl
end
end L2.Mr
namespace L2.Mr.K05
open PySem PySem.Spec PyProof.Rows L2 L2.Mr L2.Mr.Com
def tblV:List (Nat×Bool):=[(0,true),(5,true)]
def tbl0:List (Nat×Bool):=[(0,true),(5,false)]
def tbl1:List (Nat×Bool):=[(0,false),(5,false)]
def tbl2:List (Nat×Bool):=[(0,false),(5,false)]
def tbl3:List (Nat×Bool):=[(0,false),(5,false)]
def tbl4:List (Nat×Bool):=[(0,false),(5,false)]
def tbl5:List (Nat×Bool):=[(0,false),(5,true)]
def tbl6:List (Nat×Bool):=[(0,false),(5,false)]
def tbl7:List (Nat×Bool):=[(0,false),(5,false)]
def tbl8:List (Nat×Bool):=[(0,false),(5,false)]
def tbl9:List (Nat×Bool):=[(0,false),(5,false)]
def tbl10:List (Nat×Bool):=[(0,false),(5,false)]
def uK:MS:=(aX (cB (bC (aE F_q0 (aB (aA 0) aC)))) (tK 0 (aB (mC (.str "this is no order")) aC)) bG)
def F_qr:List Dv->Hs->Rs Dv:=aT 1 1 (uK)
def rN:MS:=(aI (aK (m2 aQ (aA 0) (mC (.int 1))) (aF 3)) (aO (cZ (m2 bQ (aA 1) (aA 2)) (cZ (m2 (eM true) (aL (aB (aA 1) (aB (aA 2) aC))) (aA 3)) (m2 (eM true) (aL (aB (aA 2) (aB (aA 1) aC))) (aA 3))))))
def F_qv:List Dv->Hs->Rs Dv:=aT 3 4 (rN)
def DM:MS:=(aI (cS (aE F_qr (aB (aA 0) aC))) (aI (aK (m2 aQ (aA 0) (mC (.int 0))) (aF 1)) (aO (bM (bU (aS cN (aB (aA 1) aC)) [none,none,some 0,some 1] (aF 0) dO (kG (aS gX (aB (m2 bA (aA 0) (mC (.int 1))) (aB (aA 3) aC))) (aF 1) (bC (aE F_qv (aB (aA 2) (aB (aA 0) (aB (aA 1) aC))))) (bN (aL (aB (aA 0) (aB (aA 1) aC))))))))))
def F_qk:List Dv->Hs->Rs Dv:=aT 1 2 (DM)
def uL:MS:=(aI (cS (aE F_qr (aB (aA 0) aC))) (aI (aK (aA 0) (cL 2 (bH (aF 2) (bH (aF 3) cM)))) (aI (aX (dQ (cB (bC (aE F_qp (aB (aA 2) (aB (aA 1) aC))))) (dQ (mB (m2 bQ (aE (f1 cD) (aB (aA 1) aC)) (aA 2))) (mB (m2 bQ (aE (f1 nF) (aB (aA 1) aC)) (aA 2))))) (aO (mC (.bl false))) bG) (aO (mL iO (bU (bS eV (aA 3)) [none,none,some 1] (cL 2 (bH (aF 0) (bH (aF 1) cM))) dO (bN (m2 fJ (dS (aA 2) (aA 0)) (dS (aA 2) (aA 1))))))))))
def F_q6:List Dv->Hs->Rs Dv:=aT 2 4 (uL)
def yA:MS:=(aX (cB (bC (aE F_q6 (aB (aA 0) (aB (aA 1) aC))))) (tK 5 (aB (mC (.str "this is no row of the order")) aC)) bG)
def F_q3:List Dv->Hs->Rs Dv:=aT 2 2 (yA)
def DN:MS:=(aO (aE (f1 kF) (aB (m2 gF (dS (aA 0) (m2 aQ (aA 1) (mC (.int 0)))) (dS (aA 0) (m2 aQ (aA 1) (mC (.int 1))))) aC)))
def F_q7:List Dv->Hs->Rs Dv:=aT 2 2 (DN)
def DO:MS:=(aO (m1 (uJ 0) (bM (bU (bS dD (aA 1)) [none,some 0] (aF 0) dO (bN (aE F_q7 (aB (aA 1) (aB (aA 0) aC))))))))
def F_qc:List Dv->Hs->Rs Dv:=aT 2 2 (DO)
def rO:MS:=(aI (cS (aE F_q3 (aB (aA 0) (aB (aA 1) aC)))) (aO (aE F_qc (aB (aA 1) (aB (aE F_qk (aB (aA 0) aC)) aC)))))
def F_q5:List Dv->Hs->Rs Dv:=aT 2 2 (rO)
def uM:MS:=(aI (cS (aE F_q3 (aB (aA 0) (aB (aA 1) aC)))) (aI (aK (aE F_qk (aB (aA 0) aC)) (aF 2)) (aI (aK (aE F_qc (aB (aA 1) (aB (aA 2) aC))) (aF 3)) (aI (dN (bS dD (aA 2)) (aF 4) (aX (mB (m2 bL (aE F_q7 (aB (aA 1) (aB (aA 4) aC))) (aA 3))) (aO (aA 4)) bG)) (aO (mC .non))))))
def F_qz:List Dv->Hs->Rs Dv:=aT 2 5 (uM)
def uN:MS:=(aI (aK (aR aC) (aF 1)) (aI (dN (aS cN (aB (m2 aQ (aA 0) (mC (.int 0))) aC)) (aF 2) (dN (aS gX (aB (m2 bA (aA 2) (mC (.int 1))) (aB (m2 aQ (aA 0) (mC (.int 0))) aC))) (aF 3) (aX (jA (mB (m2 (eM true) (aL (aB (aA 2) (aB (aA 3) aC))) (m2 aQ (aA 0) (mC (.int 1))))) (mB (m2 (eM true) (aL (aB (aA 3) (aB (aA 2) aC))) (m2 aQ (aA 0) (mC (.int 1)))))) (cS (kK (aA 1) (aL (aB (aA 2) (aB (aA 3) aC))))) bG))) (aO (aA 1))))
def F_ql:List Dv->Hs->Rs Dv:=aT 1 4 (uN)
def DP:MS:=(aO (aE (f1 (pT fG)) (aB (m2 bA (aR (aB (mC (.int 0)) aC)) (bM (bU (bS dD (aE F_ql (aB (aA 0) aC))) [none,none,some 1] (cL 2 (bH (aF 0) (bH (aF 1) cM))) dO (bN (aE (f1 kF) (aB (m2 gF (dS (aA 2) (aA 0)) (dS (aA 2) (aA 1))) aC)))))) aC)))
def F_qt:List Dv->Hs->Rs Dv:=aT 2 2 (DP)
def M3:MS:=(aO (cZ (m1 (bD pR) (aA 0)) (m1 nY (m1 (bD kM) (aA 0)))))
def F_qo:List Dv->Hs->Rs Dv:=aT 1 1 (M3)
def rP:MS:=(aI (aX (dQ (cB (bC (m1 (bD fR) (aA 1)))) (mB (m2 bQ (bM (bU (bS eV (aA 1)) [none] (aF 0) (cB (bC (aE F_qo (aB (aA 0) aC)))) (bN (aA 0)))) (aR aC)))) (aO (mC (.bl false))) bG) (aI (aX (mB (m2 bQ (aE (f1 pZ) (aB (aA 1) aC)) (aE (f1 lO) (aB (m2 aQ (aA 0) (mC (.int 0))) aC)))) (aO (mC (.bl false))) bG) (aO (m2 bL (bM (bU (bS eV (m2 aQ (aA 0) (mC (.int 1)))) [none,none,some 1] (cL 2 (bH (aF 0) (bH (aF 1) cM))) (mB (m2 mV (dS (aA 2) (aA 0)) (dS (aA 2) (aA 1)))) (bN (mC (.int 1))))) (aR aC)))))
def F_qi:List Dv->Hs->Rs Dv:=aT 2 2 (rP)
def DQ:MS:=(aI (aK (aL aC) (aF 2)) (aI (dN (aS cN (aB (m2 aQ (aA 1) (mC (.int 0))) aC)) (aF 3) (aI (aK (bM (bU (aS cN (aB (m2 aQ (aA 1) (mC (.int 0))) aC)) [none,some 2] (aF 0) (mB (m2 (eM true) (aA 0) (aA 1))) (bN (aA 0)))) (aF 4)) (aI (aK (bM (bU (bS dD (aA 4)) [none,some 1,some 2] (aF 0) (mB (m2 bL (bM (bU (bS eV (m2 aQ (aA 1) (mC (.int 1)))) [none,none,some 0,some 2] (cL 2 (bH (aF 0) (bH (aF 1) cM))) (jA (mB (m2 bL (aA 1) (aA 2))) (mB (m2 (eM true) (aA 0) (aA 3)))) (bN (aA 0)))) (aR aC))) (bN (aA 0)))) (aF 5)) (aK (m2 bA (aA 2) (aL (aB (m2 aQ (aA 5) (aE F_qu (aB (aA 0) (aB (aE (f1 cD) (aB (aA 5) aC)) aC)))) aC))) (aF 2))))) (aO (aA 2))))
def F_qe:List Dv->Hs->Rs Dv:=aT 2 6 (DQ)
def DR:MS:=(aI (uI 2 3 (aB (aE F_qu (aB (aA 0) (aB (aE (f1 cD) (aB (aA 1) aC)) aC))) (aB (aE F_qu (aB (aA 0) (aB (aE (f1 cD) (aB (aA 1) aC)) aC))) aC))) (aI (aK (m2 aQ (aR (aB (m2 aQ (aA 1) (aA 3)) (aB (aE (f1 cD) (aB (aA 1) aC)) (aB (m1 mU (mC (.int 1))) (aB (mC (.bl true)) (aB (mC .non) (aB (mC (.str "0")) (aB (aL (aB (mC (.int 0)) aC)) (aB (m2 oJ (mC (.int 10)) (mC (.int 29))) (aB (mC (.bl false)) aC)))))))))) (aE F_qu (aB (aA 0) (aB (mC (.int 9)) aC)))) (aF 4)) (aI (aK (aR (aB (m2 bA (m2 bA (gH (aA 1) gE (eZ (aA 2))) (aL (aB (aA 4) aC))) (gH (aA 1) (eZ (m2 bA (aA 2) (mC (.int 1)))) gE)) (aB (m2 bA (gH (aA 1) gE (eZ (aA 2))) (gH (aA 1) (eZ (m2 bA (aA 2) (mC (.int 1)))) gE)) (aB (m2 bA (m2 bA (gH (aA 1) gE (eZ (aA 2))) (aL (aB (aA 4) aC))) (gH (aA 1) (eZ (aA 2)) gE)) (aB (aE (f1 gG) (aB (aA 1) aC)) (aB (mC .non) aC)))))) (aF 5)) (aI (aK (aE (f1 gG) (aB (aA 1) aC)) (aF 6)) (aI (xZ (aL (aB (m2 aQ (aA 1) (aA 3)) (aB (m2 aQ (aA 1) (aA 2)) aC))) (aA 6) (aA 2) (aA 6) (aA 3)) (aI (aK (m2 bA (aA 5) (aR (aB (aE (f1 gN) (aB (aA 6) aC)) (aB (aE (f1 gN) (aB (aA 6) aC)) (aB (aE (f1 gN) (aB (aA 6) aC)) (aB (xR (aA 1) (eZ (m1 mU (mC (.int 1))))) (aB (m2 bA (gH (aA 1) (eZ (aA 2)) gE) (gH (aA 1) gE (eZ (aA 2)))) (aB (mC .edc) (aB (mC (.int 0)) (aB (aL (aB (aA 1) aC)) (aB (aA 1) aC))))))))))) (aF 5)) (aO (m2 aQ (aA 5) (aE F_qu (aB (aA 0) (aB (mC (.int 14)) aC)))))))))))
def F_qd:List Dv->Hs->Rs Dv:=aT 2 7 (DR)
def iC:MS:=(aI (aK (aR (aB (m1 (bD (eE none tbl0)) (aA 1)) (aB (m1 (bD (eE none tbl1)) (aA 1)) (aB (m1 (bD (eE none tbl2)) (aA 1)) aC)))) (aF 3)) (aI (aK (m2 bA (aA 3) (aR (aB (m1 (bD (eE none tbl3)) (aA 1)) (aB (m1 (bD (eE none tbl4)) (aA 1)) (aB (m1 (bD (eE none tbl5)) (aA 1)) aC))))) (aF 3)) (aI (aK (m2 bA (aA 3) (aR (aB (m1 (bD (eE none tbl6)) (aA 1)) (aB (m1 (bD (eE none tbl7)) (aA 1)) (aB (m1 (bD (eE none tbl8)) (aA 1)) aC))))) (aF 3)) (aI (aK (m2 bA (aA 3) (aR (aB (m1 (bD (eE none tbl9)) (aA 1)) (aB (m1 (bD (eE none tbl10)) (aA 1)) aC)))) (aF 3)) (aI (aX (cB (bC (m1 (bD (eE none tblV)) (aA 1)))) (aO (mC .non)) bG) (aO (bM (bU (aS cN (aB (mC (.int 11)) aC)) [none,some 3] (aF 0) (bC (m2 aQ (aA 1) (aA 0))) (bN (aA 0))))))))))
def yB:M Dv:=(aE F_q5 (aB (aA 0) (aB (aA 1) aC)))
def yC:M Dv:=(aE F_qz (aB (aA 0) (aB (aA 1) aC)))
def yD:M Dv:=(aE F_q5 (aB (aA 0) (aB (mC .non) aC)))
def yE:M Dv:=(aE F_qz (aB (aA 0) (aB (mC .non) aC)))
def yF (scr:List Int):MS:=(aI (aK (aE (F_qn scr) (aB (aA 0) (aB (aA 1) aC))) (aF 2)) (aI (aK (aE F_qm (aB (aA 2) (aB (mC (.int 6)) aC))) (aF 3)) (aI (dN (aS cN (aB (mC (.int 3)) aC)) (aF 4) (aI (aK (aE F_qe (aB (aA 2) (aB (aA 3) aC))) (aF 5)) (aI (aK (aE F_qt (aB (aA 3) (aB (aA 5) aC))) (aF 6)) (aI (aK (bM (bU (bS dD (aE F_ql (aB (aA 3) aC))) [none,some 6,some 5] (aF 0) (mB (m2 bL (aE (f1 kF) (aB (m2 gF (dS (aA 2) (m2 aQ (aA 0) (mC (.int 0)))) (dS (aA 2) (m2 aQ (aA 0) (mC (.int 1))))) aC)) (aA 1))) (bN (aA 0)))) (aF 7)) (aI (aX (dQ (cB (bC (aE (F_qs 6) (aB (aE F_q5 (aB (aA 3) (aB (aA 5) aC))) (aB (aA 6) aC))))) (cB (bC (aE (F_qs 6) (aB (aE F_qz (aB (aA 3) (aB (aA 5) aC))) (aB (m2 aQ (m2 bA (aA 7) (aR (aB (mC .non) aC))) (mC (.int 0))) aC)))))) (aO (mC (.bl false))) bG) (aI (aK (aE F_qd (aB (aA 2) (aB (aA 5) aC))) (aF 8)) (aX (cB (bC (aE F_qi (aB (aA 3) (aB (aA 8) aC))))) (aI (aX (mB (m2 bQ (iQ [3,8] 4 11 iC yB) (aR (aB (mC (.int 5)) aC)))) (aO (mC (.bl false))) bG) (aX (mB (m2 bQ (iQ [3,8] 4 11 iC yC) (aR (aB (mC (.int 5)) aC)))) (aO (mC (.bl false))) bG)) bG))))))) (aI (aK (aE F_qa (aB (aA 2) aC)) (aF 9)) (aI (aX (mB (m2 bQ (iQ [9] 4 11 iC yD) (aR (aB (mC (.int 0)) aC)))) (aO (mC (.bl false))) bG) (aX (mB (m2 bQ (iQ [9] 4 11 iC yE) (aR (aB (mC (.int 0)) aC)))) (aO (mC (.bl false))) bG))))))
def M4 (scr:List Int):MS:=(dN (aS cN (aB (aE mO (aB (mC (.int 1)) (aB (aE qU (aB (aE (f1 (iF scr)) (aB (aA 0) aC)) (aB (mC (.int 10)) aC))) aC))) aC)) (aF 1) (yF scr))
def p9:MS:=(aO (mC (.bl true)))
def yG (scr:List Int):MS:=(aI (M4 scr) p9)
def F_q8 (scr:List Int):List Dv->Hs->Rs Dv:=aT 1 10 (yG scr)
end L2.Mr.K05
namespace L2.Mr
open PySem PySem.Spec PyProof.Rows L2
section
variable{X:Cx}{G:Cfg}{E:XK}{e:bq}{me:M Dv}{pos pos':Pos}{i:Nat}{x:Str}
theorem bY (hN:X.N.Nodup) (hi:X.N[i]?=some x:=by rfl) (hx:kT X.env.scope x:=by first|exact .inl rfl|exact .inr rfl) (hf:X.fn x=true∨X.env.scope.names.lookup x=some .local:=by first|exact .inl rfl|exact .inr rfl|assumption):lA X G (.Name x pos) (aF i):=VJ hN hi hx hf
theorem cG (hN:X.N.Nodup) (he:aJ X G E e me) (hi:X.N[i]?=some x:=by rfl) (hx:kT X.env.scope x:=by first|exact .inl rfl|exact .inr rfl) (hs:swapsWith e (some (.Name x pos')) pos.line X.env=pure false:=by rfl) (hf:X.fn x=true∨X.env.scope.names.lookup x=some .local:=by first|exact .inl rfl|exact .inr rfl|assumption):hW X G E (.Assign [.Name x pos'] e pos) (aK me (aF i)):=BG hN hi hx he hs hf
theorem fZ {sc os:iq}{oN N:List Str}{cap:List (Option Nat)}(hs:X.env.scope.names=os.names:=by rfl) (hN:X.N=oN:=by rfl) (h1:sc.kind=.function:=by rfl) (h2:∀p∈sc.names,p.2=.local->sc.names.lookup p.1=some .local:=by decide +kernel) (h3:cap.length=N.length:=by rfl)
  (h4:∀p∈sc.names,p.2=.free->os.names.lookup p.1=some .cell∨os.names.lookup p.1=some .free:=by decide +kernel) (h5:∀p∈sc.names,p.2=.free->(p.1,dy)∉sc.names:=by decide +kernel) (h6:∀q∈cap.zip N,∀j∈q.1,oN[j]?=some q.2/\sc.names.lookup q.2=some .free:=by decide +kernel):CapOk X sc N cap:=XJ hs hN h1 h2 h3 h4 h5 h6
end
theorem cP {N P:List Str}{sc:iq}(h1:sc.kind=.function:=by rfl) (h2:sc.isCoroutine=false:=by rfl) (h3:sc.isGenerator=false:=by rfl) (h4:N.Nodup:=by decide +kernel) (h5:N.take P.length=P:=by rfl) (h6:∀x∈P,sc.names.lookup x=some .local∨sc.names.lookup x=some .cell:=by decide +kernel) (h7:∀y∈sc.names,y.2≠.free:=by decide +kernel):FnScope N P sc:=⟨h1,h2,h3,h4,h5,h6,h7⟩
theorem bO {k:Nat}{f:ai}{X:Cx}{G:Cfg}{E:XK}{F:List Dv->Hs->Rs Dv}{ps:List Str}{fd:bo}{x:Str}{p pos:Pos}{e:bq}{es:List bq}{ms:M (List Dv)}{j:Nat}(g:Good X G E k) (Fn:FnOk X.prog X.w X.K X.mg X.base (bK X.prog X.w X.base) j f fd ps (cC G F))
  (hm:X.mg x=some (.ref f)) (hk:mn X.K (.ref f)=true) (hb:Binds X.K fd ps []) (ha:dM X G E (e::es) ms) (hj:j<=k:=by decide) (hg:Gl X x:=by exact rfl)
  (hdb:(x==("__debug__" : Str))=false:=by decide) (he:au (e::es) X.env=(false,eval e X.env)::au es X.env:=by rfl) (hpl:(backTo pos (au es X.env)).any (·.1)=false:=by rfl):
  aJ X G E (.Call (.Name x p) (e::es) [] pos) (aE F ms):=JE g Fn hj hg hm hk hb ha hdb he hpl
open PySem.W in
theorem cQ {F:List (Frag->Bool)}{K:Frag}{l m:List (Option bo)}(hf:l=m) (hc:F.all (λf=>f K)=true) (f:ai) (st:gz) (n:Str) (c:ai) (ps:List Str) (i j k:Nat)
  (hb:∀(kV doc pm:af) (an:Option ai) (cdv ct:af) (us:List af),us.length=ps.length->bindArgs (fnOf n n (nW st) (iY st) (aU st) .none kV doc pm an cdv ct) ⟨us,[]⟩=pure (ps.zip us))
  (h1:l[i]?=some (cH K f):=by rfl) (h2:m[i]?=some (some (fnOf n n (nW st) (iY st) (aU st) .none .none .none .none none (.ref c) .none)):=by rfl) (h3:F[j]?=some (codeIn · (.ref c) n):=by rfl) (h4:F[k]?=some (keepIn · (.ref f)):=by rfl):
  ∃fd:bo,Fun K n n st f fd/\Binds K fd ps []/\fd.code=.ref c/\∀us:List af,us.length=ps.length->bindArgs fd ⟨us,[]⟩=pure (ps.zip us):=XI (PK hf i h1 h2) (nS hc j h3) (nS hc k h4) hb
end L2.Mr
namespace L2.Mr.K05
open PySem PySem.Spec PyProof.Rows L2 L2.Mr L2.Mr.Com
def cR (i:Nat):gz:=ae.main.body.getD i (.Pass ⟨0,0,0,0⟩)
abbrev DS:gz:=cR 14
abbrev DT:gz:=cR 15
abbrev yH:gz:=cR 16
abbrev DU:gz:=cR 19
abbrev yI:gz:=cR 20
abbrev DV:gz:=cR 21
abbrev yJ:gz:=cR 22
abbrev yK:gz:=cR 23
abbrev yL:gz:=cR 24
abbrev DW:gz:=cR 25
abbrev DX:gz:=cR 26
abbrev DY:gz:=cR 27
abbrev yM:gz:=cR 28
abbrev yN:gz:=cR 30
abbrev DZ:gz:=cR 31
abbrev EA:gz:=cR 32
abbrev yO:gz:=cR 33
abbrev EC:gz:=cR 34
abbrev ED:gz:=cR 35
abbrev EE:gz:=cR 37
abbrev EF:gz:=cR 38
abbrev EG:gz:=cR 39
abbrev EH:gz:=cR 40
abbrev yP:gz:=cR 41
abbrev uO:gz:=cR 42
abbrev EI:gz:=cR 43
abbrev yQ:gz:=cR 44
abbrev EJ:gz:=cR 45
abbrev uP:gz:=cR 46
abbrev uQ:gz:=cR 47
abbrev EK:gz:=cR 48
abbrev EL:gz:=cR 49
abbrev yR:gz:=cR 50
abbrev qA:gz:=cR 51
abbrev oS:gz:=cR 52
structure Ad where
 f_q2:ai
 fd_q2:bo
 f_qq:ai
 fd_qq:bo
 f_qy:ai
 fd_qy:bo
 f_q1:ai
 fd_q1:bo
 f_qp:ai
 fd_qp:bo
 f_q4:ai
 fd_q4:bo
 f_qw:ai
 fd_qw:bo
 f_qx:ai
 fd_qx:bo
 f_qj:ai
 fd_qj:bo
 f_q0:ai
 fd_q0:bo
 f_qr:ai
 fd_qr:bo
 f_qv:ai
 fd_qv:bo
 f_qk:ai
 fd_qk:bo
 f_q6:ai
 fd_q6:bo
 f_q3:ai
 fd_q3:bo
 f_q7:ai
 fd_q7:bo
 f_qc:ai
 fd_qc:bo
 f_q5:ai
 fd_q5:bo
 f_qz:ai
 fd_qz:bo
 f_qf:ai
 fd_qf:bo
 f_qn:ai
 fd_qn:bo
 f_qu:ai
 fd_qu:bo
 f_qb:ai
 fd_qb:bo
 f_qh:ai
 fd_qh:bo
 f_qm:ai
 fd_qm:bo
 f_ql:ai
 fd_ql:bo
 f_qt:ai
 fd_qt:bo
 f_qo:ai
 fd_qo:bo
 f_qi:ai
 fd_qi:bo
 f_qe:ai
 fd_qe:bo
 f_qd:ai
 fd_qd:bo
 f_qa:ai
 fd_qa:bo
 f_qs:ai
 fd_qs:bo
 f_qg:ai
 fd_qg:bo
 f_q8:ai
 fd_q8:bo
 c_NoOrder:ai
 c_NoNumber:ai
 c_NoPairs:ai
 c_Round:ai
 c_NoThing:ai
 c_NoRow:ai
 c_TooMany:ai
 c_TooFew:ai
 c_NoText:ai
 c_NoLine:ai
 c_NoDeed:ai
 t_MOST_THINGS:Tok
 NE:ai
 cc:ai
 P:ai
structure Tx (K:aq) (mg:Str->Option af) (G:Cfg) (A:Ad):Prop where
 hK:K=G.K
 F_q2:Fun K "is_whole" "is_whole" DS A.f_q2 A.fd_q2
 B_q2:Binds K A.fd_q2 ["thing"] []
 m_q2:mg "is_whole" = some (.ref A.f_q2)
 F_qq:Fun K "is_between" "is_between" DT A.f_qq A.fd_qq
 B_qq:Binds K A.fd_qq ["thing","low","high"] []
 m_qq:mg "is_between" = some (.ref A.f_qq)
 F_qy:Fun K "is_rising" "is_rising" yH A.f_qy A.fd_qy
 B_qy:Binds K A.fd_qy ["parts"] []
 m_qy:mg "is_rising" = some (.ref A.f_qy)
 F_q1:Fun K "is_thing" "is_thing" DU A.f_q1 A.fd_q1
 B_q1:Binds K A.fd_q1 ["many","thing"] []
 m_q1:mg "is_thing" = some (.ref A.f_q1)
 F_qp:Fun K "are_things" "are_things" yI A.f_qp A.fd_qp
 B_qp:Binds K A.fd_qp ["many","thing"] []
 m_qp:mg "are_things" = some (.ref A.f_qp)
 F_q4:Fun K "is_pair" "is_pair" DV A.f_q4 A.fd_q4
 B_q4:Binds K A.fd_q4 ["many","thing"] []
 m_q4:mg "is_pair" = some (.ref A.f_q4)
 F_qw:Fun K "are_pairs" "are_pairs" yJ A.f_qw A.fd_qw
 B_qw:Binds K A.fd_qw ["many","things"] []
 m_qw:mg "are_pairs" = some (.ref A.f_qw)
 F_qx:Fun K "has_alike" "has_alike" yK A.f_qx A.fd_qx
 B_qx:Binds K A.fd_qx ["pairs"] []
 m_qx:mg "has_alike" = some (.ref A.f_qx)
 F_qj:Fun K "is_complete" "is_complete" yL A.f_qj A.fd_qj
 B_qj:Binds K A.fd_qj ["pairs"] []
 m_qj:mg "is_complete" = some (.ref A.f_qj)
 F_q0:Fun K "is_order" "is_order" DW A.f_q0 A.fd_q0
 B_q0:Binds K A.fd_q0 ["thing"] []
 m_q0:mg "is_order" = some (.ref A.f_q0)
 F_qr:Fun K "need_order" "need_order" DX A.f_qr A.fd_qr
 B_qr:Binds K A.fd_qr ["order"] []
 m_qr:mg "need_order" = some (.ref A.f_qr)
 F_qv:Fun K "are_loose" "are_loose" DY A.f_qv A.fd_qv
 B_qv:Binds K A.fd_qv ["order","one","other"] []
 m_qv:mg "are_loose" = some (.ref A.f_qv)
 F_qk:Fun K "loose_pairs" "loose_pairs" yM A.f_qk A.fd_qk
 B_qk:Binds K A.fd_qk ["order"] []
 m_qk:mg "loose_pairs" = some (.ref A.f_qk)
 F_q6:Fun K "is_row" "is_row" yN A.f_q6 A.fd_q6
 B_q6:Binds K A.fd_q6 ["order","thing"] []
 m_q6:mg "is_row" = some (.ref A.f_q6)
 F_q3:Fun K "need_row" "need_row" DZ A.f_q3 A.fd_q3
 B_q3:Binds K A.fd_q3 ["order","row"] []
 m_q3:mg "need_row" = some (.ref A.f_q3)
 F_q7:Fun K "apart" "apart" EA A.f_q7 A.fd_q7
 B_q7:Binds K A.fd_q7 ["row","pair"] []
 m_q7:mg "apart" = some (.ref A.f_q7)
 F_qc:Fun K "greatest_apart" "greatest_apart" yO A.f_qc A.fd_qc
 B_qc:Binds K A.fd_qc ["row","pairs"] []
 m_qc:mg "greatest_apart" = some (.ref A.f_qc)
 F_q5:Fun K "span_of" "span_of" EC A.f_q5 A.fd_q5
 B_q5:Binds K A.fd_q5 ["order","row"] []
 m_q5:mg "span_of" = some (.ref A.f_q5)
 F_qz:Fun K "farthest" "farthest" ED A.f_qz A.fd_qz
 B_qz:Binds K A.fd_qz ["order","row"] []
 m_qz:mg "farthest" = some (.ref A.f_qz)
 F_qf:Fun K "_law_cell_at" "_law_cell_at" EE A.f_qf A.fd_qf
 B_qf:Binds K A.fd_qf ["_law_script","_law_k"] []
 m_qf:mg "_law_cell_at" = some (.ref A.f_qf)
 F_qn:Fun K "_law_state" "_law_state" EF A.f_qn A.fd_qn
 B_qn:Binds K A.fd_qn ["_law_script","_law_k"] []
 m_qn:mg "_law_state" = some (.ref A.f_qn)
 F_qu:Fun K "_law_take" "_law_take" EG A.f_qu A.fd_qu
 B_qu:Binds K A.fd_qu ["_law_state_here","_law_many"] []
 m_qu:mg "_law_take" = some (.ref A.f_qu)
 F_qb:Fun K "_law_mixed_row" "_law_mixed_row" EH A.f_qb A.fd_qb
 B_qb:Binds K A.fd_qb ["_law_state_here","_law_things"] []
 m_qb:mg "_law_mixed_row" = some (.ref A.f_qb)
 F_qh:Fun K "_law_closed" "_law_closed" yP A.f_qh A.fd_qh
 B_qh:Binds K A.fd_qh ["_law_pairs"] []
 m_qh:mg "_law_closed" = some (.ref A.f_qh)
 F_qm:Fun K "_law_order" "_law_order" uO A.f_qm A.fd_qm
 B_qm:Binds K A.fd_qm ["_law_state_here","_law_most"] []
 m_qm:mg "_law_order" = some (.ref A.f_qm)
 F_ql:Fun K "_law_loose" "_law_loose" EI A.f_ql A.fd_ql
 B_ql:Binds K A.fd_ql ["_law_order_here"] []
 m_ql:mg "_law_loose" = some (.ref A.f_ql)
 F_qt:Fun K "_law_span" "_law_span" yQ A.f_qt A.fd_qt
 B_qt:Binds K A.fd_qt ["_law_order_here","_law_row"] []
 m_qt:mg "_law_span" = some (.ref A.f_qt)
 F_qo:Fun K "_law_whole" "_law_whole" EJ A.f_qo A.fd_qo
 B_qo:Binds K A.fd_qo ["_law_thing"] []
 m_qo:mg "_law_whole" = some (.ref A.f_qo)
 F_qi:Fun K "_law_is_row" "_law_is_row" uP A.f_qi A.fd_qi
 B_qi:Binds K A.fd_qi ["_law_order_here","_law_thing"] []
 m_qi:mg "_law_is_row" = some (.ref A.f_qi)
 F_qe:Fun K "_law_some_row" "_law_some_row" uQ A.f_qe A.fd_qe
 B_qe:Binds K A.fd_qe ["_law_state_here","_law_order_here"] []
 m_qe:mg "_law_some_row" = some (.ref A.f_qe)
 F_qd:Fun K "_law_bent_row" "_law_bent_row" EK A.f_qd A.fd_qd
 B_qd:Binds K A.fd_qd ["_law_state_here","_law_row"] []
 m_qd:mg "_law_bent_row" = some (.ref A.f_qd)
 F_qa:Fun K "_law_bad_order" "_law_bad_order" EL A.f_qa A.fd_qa
 B_qa:Binds K A.fd_qa ["_law_state_here"] []
 m_qa:mg "_law_bad_order" = some (.ref A.f_qa)
 F_qs:Fun K "_law_same" "_law_same" yR A.f_qs A.fd_qs
 B_qs:Binds K A.fd_qs ["_law_found","_law_due"] []
 m_qs:mg "_law_same" = some (.ref A.f_qs)
 F_qg:Fun K "_law_refused" "_law_refused" qA A.f_qg A.fd_qg
 B_qg:Binds K A.fd_qg ["_law_call"] []
 m_qg:mg "_law_refused" = some (.ref A.f_qg)
 F_q8:Fun K "law" "law" oS A.f_q8 A.fd_q8
 B_q8:Binds K A.fd_q8 ["_law_script"] []
 m_q8:mg "law" = some (.ref A.f_q8)
 z_ValueError:mg "ValueError" = none
 z_abs:mg "abs" = none
 z_all:mg "all" = none
 z_any:mg "any" = none
 z_bool:mg "bool" = none
 z_int:mg "int" = none
 z_isinstance:mg "isinstance" = none
 z_len:mg "len" = none
 z_list:mg "list" = none
 z_max:mg "max" = none
 z_min:mg "min" = none
 z_range:mg "range" = none
 z_set:mg "set" = none
 z_sorted:mg "sorted" = none
 z_tuple:mg "tuple" = none
 z_zip:mg "zip" = none
 c_MOST_THINGS:mg "MOST_THINGS" = some (.int 6 A.t_MOST_THINGS)
 n_NoOrder:mg "NoOrder" = some (.ref A.c_NoOrder)
 n_NoNumber:mg "NoNumber" = some (.ref A.c_NoNumber)
 n_NoPairs:mg "NoPairs" = some (.ref A.c_NoPairs)
 n_Round:mg "Round" = some (.ref A.c_Round)
 n_NoThing:mg "NoThing" = some (.ref A.c_NoThing)
 n_NoRow:mg "NoRow" = some (.ref A.c_NoRow)
 n_TooMany:mg "TooMany" = some (.ref A.c_TooMany)
 n_TooFew:mg "TooFew" = some (.ref A.c_TooFew)
 n_NoText:mg "NoText" = some (.ref A.c_NoText)
 n_NoLine:mg "NoLine" = some (.ref A.c_NoLine)
 n_NoDeed:mg "NoDeed" = some (.ref A.c_NoDeed)
 ns_NoOrder:wc K dz "NoOrder" = some (some (.ref A.c_NoOrder))
 x_NoOrder:vh K A.c_NoOrder wQ "ValueError.__new__" = true
 ce_NoOrder:A.c_NoOrder=G.cl 0
 ns_NoRow:wc K dz "NoRow" = some (some (.ref A.c_NoRow))
 x_NoRow:vh K A.c_NoRow wQ "ValueError.__new__" = true
 ce_NoRow:A.c_NoRow=G.cl 5
 ktV:∀c b,tblV.lookup c=some b->di G.K (.ref (G.cl c)) (.type "ValueError")=some b/\ExK G.K (G.cl c)
 kt0:∀c b,tbl0.lookup c=some b->di G.K (.ref (G.cl c)) (.ref A.c_NoOrder)=some b/\ExK G.K (G.cl c)
 kt1:∀c b,tbl1.lookup c=some b->di G.K (.ref (G.cl c)) (.ref A.c_NoNumber)=some b/\ExK G.K (G.cl c)
 kt2:∀c b,tbl2.lookup c=some b->di G.K (.ref (G.cl c)) (.ref A.c_NoPairs)=some b/\ExK G.K (G.cl c)
 kt3:∀c b,tbl3.lookup c=some b->di G.K (.ref (G.cl c)) (.ref A.c_Round)=some b/\ExK G.K (G.cl c)
 kt4:∀c b,tbl4.lookup c=some b->di G.K (.ref (G.cl c)) (.ref A.c_NoThing)=some b/\ExK G.K (G.cl c)
 kt5:∀c b,tbl5.lookup c=some b->di G.K (.ref (G.cl c)) (.ref A.c_NoRow)=some b/\ExK G.K (G.cl c)
 kt6:∀c b,tbl6.lookup c=some b->di G.K (.ref (G.cl c)) (.ref A.c_TooMany)=some b/\ExK G.K (G.cl c)
 kt7:∀c b,tbl7.lookup c=some b->di G.K (.ref (G.cl c)) (.ref A.c_TooFew)=some b/\ExK G.K (G.cl c)
 kt8:∀c b,tbl8.lookup c=some b->di G.K (.ref (G.cl c)) (.ref A.c_NoText)=some b/\ExK G.K (G.cl c)
 kt9:∀c b,tbl9.lookup c=some b->di G.K (.ref (G.cl c)) (.ref A.c_NoLine)=some b/\ExK G.K (G.cl c)
 kt10:∀c b,tbl10.lookup c=some b->di G.K (.ref (G.cl c)) (.ref A.c_NoDeed)=some b/\ExK G.K (G.cl c)
 n_NearError:mg "NearError" = some (.ref A.NE)
 e1:jy K (.ref A.NE) (.type "BaseException")=some true
 e2:jy K (.type "type") (.type "tuple")=some false
 e3:yf K (.ref A.NE) (.ref A.NE)=some true
 e4:∀c,c<11->jy K (.ref (G.cl c)) (.ref A.NE)=some true
 lq:(("law" : Str) ++ ".<locals>.") ++ "<lambda>" = G.lq
 tab:G.tab=some A.P
 code:A.fd_q8.code=.ref A.cc
theorem M5:(["one","other"]:List Str).Nodup:=by decide +kernel
theorem q5:(["part","many"]:List Str).Nodup:=by decide +kernel
theorem r8:(["thing","many"]:List Str).Nodup:=by decide +kernel
theorem M6:(["a","b"]:List Str).Nodup:=by decide +kernel
theorem yS:(["a","b","middle","c","pairs"]:List Str).Nodup:=by decide +kernel
theorem M7:(["thing","many","pairs"]:List Str).Nodup:=by decide +kernel
theorem r9:(["order","one","other","pairs"]:List Str).Nodup:=by decide +kernel
theorem u0:(["order","many"]:List Str).Nodup:=by decide +kernel
theorem M8:(["a","b","order","many"]:List Str).Nodup:=by decide +kernel
theorem M9:(["order","thing","many","pairs"]:List Str).Nodup:=by decide +kernel
theorem NA:(["a","b","thing"]:List Str).Nodup:=by decide +kernel
theorem u5:(["pair","row"]:List Str).Nodup:=by decide +kernel
theorem EM:(["order","row","pairs","span","pair"]:List Str).Nodup:=by decide +kernel
theorem u7:(["_law_script","_law_k","_law_cell"]:List Str).Nodup:=by decide +kernel
theorem EN:(["_law_state_here","_law_many","_law_found","_law_stirred"]:List Str).Nodup:=by decide +kernel
theorem NB:(["_law_state_here","_law_things","_law_left","_law_found"]:List Str).Nodup:=by decide +kernel
theorem rQ:(["_law_pairs","_law_found","_law_later","_law_a","_law_b"]:List Str).Nodup:=by decide +kernel
theorem NC:(["_law_c","_law_d","_law_a","_law_b"]:List Str).Nodup:=by decide +kernel
theorem jM:(["_law_state_here","_law_most","_law_many","_law_row","_law_way","_law_pairs","_law_marks","_law_i","_law_j","_law_near"]:List Str).Nodup:=by decide +kernel
theorem u9:(["_law_thing","_law_state_here"]:List Str).Nodup:=by decide +kernel
theorem v5:(["_law_j","_law_i","_law_marks"]:List Str).Nodup:=by decide +kernel
theorem EO:(["_law_order_here","_law_found","_law_a","_law_b"]:List Str).Nodup:=by decide +kernel
theorem ND:(["_law_a","_law_b","_law_row"]:List Str).Nodup:=by decide +kernel
theorem v7:(["_law_one"]:List Str).Nodup:=by decide +kernel
theorem NF:(["_law_a","_law_b","_law_thing"]:List Str).Nodup:=by decide +kernel
theorem uR:(["_law_state_here","_law_order_here","_law_found","_law_turn","_law_left","_law_some"]:List Str).Nodup:=by decide +kernel
theorem v8:(["_law_thing","_law_found"]:List Str).Nodup:=by decide +kernel
theorem v9:(["_law_thing","_law_order_here","_law_found"]:List Str).Nodup:=by decide +kernel
theorem NG:(["_law_a","_law_b","_law_thing","_law_found"]:List Str).Nodup:=by decide +kernel
theorem uS:(["_law_state_here","_law_row","_law_at","_law_to","_law_odd","_law_some","_law_other"]:List Str).Nodup:=by decide +kernel
theorem ER:(["_law_state_here","_law_some"]:List Str).Nodup:=by decide +kernel
theorem NH:(["_law_one","_law_other"]:List Str).Nodup:=by decide +kernel
theorem yT:(["_law_call","_law_error","e","_law_marks"]:List Str).Nodup:=by decide +kernel
theorem z9:(["_law_k","_law_marks"]:List Str).Nodup:=by decide +kernel
theorem nI:(["_law_script","_law_k","_law_state_here","_law_order_here","_law_turn","_law_row","_law_span_here","_law_some","_law_bent","_law_bad"]:List Str).Nodup:=by decide +kernel
theorem z00:(["_law_pair","_law_span_here","_law_row"]:List Str).Nodup:=by decide +kernel
section
variable{P:bh}{w:cn}{K:aq}{mg:Str->Option af}{base:cu}{G:Cfg}{A:Ad}
theorem z01:FnScope ["thing"] ["thing"] (aU DS):=cP
theorem z02 (T:Tx K mg G A):FnOk P w K mg base (bK P w base) 1 A.f_q2 A.fd_q2 ["thing"] (cC G F_q2):=cX (k:=0) T.F_q2 z01 T.hK λ_ _ _ _ _ _ _ g=>(bB (bT (mM (J6 rfl T.z_isinstance rfl T.z_int (aD 0)) (nZ (A9 (xB rfl T.z_isinstance rfl T.z_bool (aD 0)))))))
theorem z03:FnScope ["thing","low","high"] ["thing","low","high"] (aU DT):=cP
theorem NI (T:Tx K mg G A):FnOk P w K mg base (bK P w base) 2 A.f_qq A.fd_qq ["thing","low","high"] (cC G F_qq):=cX (k:=1) T.F_qq z03 T.hK λ_ _ _ _ _ _ _ g=>(bB (bT (mM (bO g (z02 T) T.m_q2 T.F_q2.kp T.B_q2 (aG (aD 0) aN)) (nZ (XR (aD 1) (aD 0) (aD 2))))))
theorem z04:FnScope ["parts"] ["parts"] (aU yH):=cP
theorem z05 (T:Tx K mg G A):FnOk P w K mg base (bK P w base) 1 A.f_qy A.fd_qy ["parts"] (cC G F_qy):=cX (k:=0) T.F_qy z04 T.hK λ_ _ _ _ _ _ _ g=>(bB (bT (qX g.calm rfl T.z_all (iH g.calm (fZ (N:=["one","other"]) (cap:=[none,none]) (os:=(aU yH)) (oN:=["parts"])) (JP rfl T.z_zip (aG (aD 0) (aG (nB (aD 0) (lG aZ) mT) aN))) (λ_ _ _=>(jE (cW g).calm (eC (bY (i:=0) M5) (eC (bY (i:=1) M5) jD)))) (λ_ _ _=>kH) (λ_ _ _=>(CZ (cW g) (aD 0) (aD 1)))))))
theorem z06:FnScope ["many","thing"] ["many","thing"] (aU DU):=cP
theorem z07 (T:Tx K mg G A):FnOk P w K mg base (bK P w base) 3 A.f_q1 A.fd_q1 ["many","thing"] (cC G F_q1):=cX (k:=2) T.F_q1 z06 T.hK λ_ _ _ _ _ _ _ g=>(bB (bT (bO g (NI T) T.m_qq T.F_qq.kp T.B_qq (aG (aD 1) (aG aZ (aG (rB (aD 0) aZ) aN))))))
theorem z08:FnScope ["many","thing"] ["many","thing"] (aU yI):=cP
theorem NJ (T:Tx K mg G A):FnOk P w K mg base (bK P w base) 4 A.f_qp A.fd_qp ["many","thing"] (cC G F_qp):=cX (k:=3) T.F_qp z08 T.hK λ_ _ _ _ _ _ _ g=>(bB (bT (mM (rF rfl T.z_isinstance rfl T.z_tuple (aD 1)) (nZ (qX g.calm rfl T.z_all (iH g.calm (fZ (N:=["part","many"]) (cap:=[none,some 0]) (os:=(aU yI)) (oN:=["many","thing"])) (mP (aD 1)) (λ_ _ _=>(bY (i:=0) q5)) (λ_ _ _=>kH) (λ_ _ _=>(bO (cW g) (z07 T) T.m_q1 T.F_q1.kp T.B_q1 (aG (aD 1) (aG (aD 0) aN))))))))))
theorem z09:FnScope ["many","thing"] ["many","thing"] (aU DV):=cP
theorem z0a (T:Tx K mg G A):FnOk P w K mg base (bK P w base) 5 A.f_q4 A.fd_q4 ["many","thing"] (cC G F_q4):=cX (k:=4) T.F_q4 z09 T.hK λ_ _ _ _ _ _ _ g=>(bB (bT (mM (bO g (NJ T) T.m_qp T.F_qp.kp T.B_qp (aG (aD 0) (aG (aD 1) aN))) (nZ (oK g (lJ rfl T.z_len (aG (aD 1) aN)) aZ)))))
theorem z0b:FnScope ["many","things"] ["many","things"] (aU yJ):=cP
theorem z0c (T:Tx K mg G A):FnOk P w K mg base (bK P w base) 6 A.f_qw A.fd_qw ["many","things"] (cC G F_qw):=cX (k:=5) T.F_qw z0b T.hK λ_ _ _ _ _ _ _ g=>(bB (bT (qX g.calm rfl T.z_all (iH g.calm (fZ (N:=["thing","many"]) (cap:=[none,some 0]) (os:=(aU yJ)) (oN:=["many","things"])) (mP (aD 1)) (λ_ _ _=>(bY (i:=0) r8)) (λ_ _ _=>kH) (λ_ _ _=>(bO (cW g) (z0a T) T.m_q4 T.F_q4.kp T.B_q4 (aG (aD 1) (aG (aD 0) aN))))))))
theorem z0d:FnScope ["pairs"] ["pairs"] (aU yK):=cP
theorem z0e (T:Tx K mg G A):FnOk P w K mg base (bK P w base) 1 A.f_qx A.fd_qx ["pairs"] (cC G F_qx):=cX (k:=0) T.F_qx z0d T.hK λ_ _ _ _ _ _ _ g=>(bB (bT (WH g.calm rfl T.z_any (iH g.calm (fZ (N:=["a","b"]) (cap:=[none,none]) (os:=(aU yK)) (oN:=["pairs"])) (mP (aD 0)) (λ_ _ _=>(jE (cW g).calm (eC (bY (i:=0) M6) (eC (bY (i:=1) M6) jD)))) (λ_ _ _=>kH) (λ_ _ _=>(oK (cW g) (aD 0) (aD 1)))))))
theorem z0f:FnScope ["pairs"] ["pairs"] (aU yL):=cP
theorem z0g (T:Tx K mg G A):FnOk P w K mg base (bK P w base) 1 A.f_qj A.fd_qj ["pairs"] (cC G F_qj):=cX (k:=0) T.F_qj z0f T.hK λ_ _ _ _ _ _ _ g=>(bB (bT (qX g.calm rfl T.z_all (IY g.calm (fZ (N:=["a","b","middle","c","pairs"]) (cap:=[none,none,none,none,some 0]) (os:=(aU yL)) (oN:=["pairs"])) (mP (aD 0)) (λ_ _ _=>(jE (cW g).calm (eC (bY (i:=0) yS) (eC (bY (i:=1) yS) jD)))) (λ_ _ _=>kH) (λ_ _ _=>(mP (aD 4))) (λ_ _ _=>(jE (cW g).calm (eC (bY (i:=2) yS) (eC (bY (i:=3) yS) jD)))) (λ_ _ _=>(kJ (oM (cW g) (aD 1) (aD 2)))) (λ_ _ _=>(YO (cW g) (gM (aG (aD 0) (aG (aD 3) aN))) (aD 4)))))))
theorem z0h:FnScope ["thing","many","pairs"] ["thing"] (aU DW):=cP
theorem z0i (T:Tx K mg G A):FnOk P w K mg base (bK P w base) 7 A.f_q0 A.fd_q0 ["thing"] (cC G F_q0):=cX (k:=6) T.F_q0 z0h T.hK λ_ _ _ _ _ _ _ g=>(aY (dZ (SndW.t (nX (iN (fW (rF rfl T.z_isinstance rfl T.z_tuple (aD 0)))) (pH (jJ g (lJ rfl T.z_len (aG (aD 0) aN)) aZ)))) (bB (bT fS)) dY) (aY (IV (aD 0) (jE g.calm (eC (bY (i:=1) M7) (eC (bY (i:=2) M7) jD)))) (aY (dZ (SndW.t (nX (iN (fW (bO g (NI T) T.m_qq T.F_qq.kp T.B_qq (aG (aD 1) (aG aZ (aG (XE rfl T.c_MOST_THINGS) aN)))))) (pH (iN (fW (rF rfl T.z_isinstance rfl T.z_tuple (aD 2))))))) (bB (bT fS)) dY) (aY (dZ (SndW.t (nX (iN (fW (bO g (z0c T) T.m_qw T.F_qw.kp T.B_qw (aG (aD 1) (aG (aD 2) aN))))) (pH (iN (fW (bO g (z05 T) T.m_qy T.F_qy.kp T.B_qy (aG (aD 2) aN))))))) (bB (bT fS)) dY) (bB (bT (mM (A9 (bO g (z0e T) T.m_qx T.F_qx.kp T.B_qx (aG (aD 2) aN))) (nZ (bO g (z0g T) T.m_qj T.F_qj.kp T.B_qj (aG (aD 2) aN))))))))))
theorem z0j:FnScope ["order"] ["order"] (aU DX):=cP
theorem NK (T:Tx K mg G A):FnOk P w K mg base (bK P w base) 8 A.f_qr A.fd_qr ["order"] (cC G F_qr):=cX (k:=7) T.F_qr z0j T.hK λ_ _ _ _ _ _ _ g=>(bB (dZ (iN (fW (bO g (z0i T) T.m_q0 T.F_q0.kp T.B_q0 (aG (aD 0) aN)))) (bB (JF g rfl T.n_NoOrder T.ns_NoOrder T.x_NoOrder T.ce_NoOrder (aG wC aN))) dY))
theorem z0k:FnScope ["order","one","other","pairs"] ["order","one","other"] (aU DY):=cP
theorem z0l (T:Tx K mg G A):FnOk P w K mg base (bK P w base) 1 A.f_qv A.fd_qv ["order","one","other"] (cC G F_qv):=cX (k:=0) T.F_qv z0k T.hK λ_ _ _ _ _ _ _ g=>(aY (cG (i:=3) r9 (cF (aD 0) aZ)) (bB (bT (mM (XN g (aD 1) (aD 2)) (mM (KO g (gM (aG (aD 1) (aG (aD 2) aN))) (aD 3)) (nZ (KO g (gM (aG (aD 2) (aG (aD 1) aN))) (aD 3))))))))
theorem z0m:FnScope ["order","many"] ["order"] (aU yM):=cP
theorem NL (T:Tx K mg G A):FnOk P w K mg base (bK P w base) 9 A.f_qk A.fd_qk ["order"] (cC G F_qk):=cX (k:=8) T.F_qk z0m T.hK λ_ _ _ _ _ _ _ g=>(aY (oA (bO g (NK T) T.m_qr T.F_qr.kp T.B_qr (aG (aD 0) aN))) (aY (cG (i:=1) u0 (cF (aD 0) aZ)) (bB (bT (mQ (IY g.calm (fZ (N:=["a","b","order","many"]) (cap:=[none,none,some 0,some 1]) (os:=(aU yM)) (oN:=["order","many"])) (lC rfl T.z_range (aG (aD 1) aN)) (λ_ _ _=>(bY (i:=0) M8)) (λ_ _ _=>kH) (λ_ _ _=>(BI rfl T.z_range (aG (eO (aD 0) aZ) (aG (aD 3) aN)))) (λ_ _ _=>(bY (i:=1) M8)) (λ_ _ _=>(kJ (fW (bO (cW g) (z0l T) T.m_qv T.F_qv.kp T.B_qv (aG (aD 2) (aG (aD 0) (aG (aD 1) aN))))))) (λ_ _ _=>(gM (aG (aD 0) (aG (aD 1) aN))))))))))
theorem z0n:FnScope ["order","thing","many","pairs"] ["order","thing"] (aU yN):=cP
theorem z0o (T:Tx K mg G A):FnOk P w K mg base (bK P w base) 9 A.f_q6 A.fd_q6 ["order","thing"] (cC G F_q6):=cX (k:=8) T.F_q6 z0n T.hK λ_ _ _ _ _ _ _ g=>(aY (oA (bO g (NK T) T.m_qr T.F_qr.kp T.B_qr (aG (aD 0) aN))) (aY (IV (aD 0) (jE g.calm (eC (bY (i:=2) M9) (eC (bY (i:=3) M9) jD)))) (aY (dZ (SndW.t (nX (iN (fW (bO g (NJ T) T.m_qp T.F_qp.kp T.B_qp (aG (aD 2) (aG (aD 1) aN))))) (nX (jJ g (lJ rfl T.z_len (aG (aD 1) aN)) (aD 2)) (pH (jJ g (k9 g.calm rfl T.z_len rfl T.z_set (aG (aD 1) aN)) (aD 2)))))) (bB (bT fS)) dY) (bB (bT (qX g.calm rfl T.z_all (iH g.calm (fZ (N:=["a","b","thing"]) (cap:=[none,none,some 1]) (os:=(aU yN)) (oN:=["order","thing","many","pairs"])) (mP (aD 3)) (λ_ _ _=>(jE (cW g).calm (eC (bY (i:=0) NA) (eC (bY (i:=1) NA) jD)))) (λ_ _ _=>kH) (λ_ _ _=>(CZ (cW g) (lK (aD 2) (aD 0)) (lK (aD 2) (aD 1)))))))))))
theorem z0p:FnScope ["order","row"] ["order","row"] (aU DZ):=cP
theorem NM (T:Tx K mg G A):FnOk P w K mg base (bK P w base) 10 A.f_q3 A.fd_q3 ["order","row"] (cC G F_q3):=cX (k:=9) T.F_q3 z0p T.hK λ_ _ _ _ _ _ _ g=>(bB (dZ (iN (fW (bO g (z0o T) T.m_q6 T.F_q6.kp T.B_q6 (aG (aD 0) (aG (aD 1) aN))))) (bB (JF g rfl T.n_NoRow T.ns_NoRow T.x_NoRow T.ce_NoRow (aG wC aN))) dY))
theorem z0q:FnScope ["row","pair"] ["row","pair"] (aU EA):=cP
theorem NN (T:Tx K mg G A):FnOk P w K mg base (bK P w base) 1 A.f_q7 A.fd_q7 ["row","pair"] (cC G F_q7):=cX (k:=0) T.F_q7 z0q T.hK λ_ _ _ _ _ _ _ g=>(bB (bT (BF rfl T.z_abs (aG (rB (lK (aD 0) (cF (aD 1) aZ)) (lK (aD 0) (cF (aD 1) aZ))) aN))))
theorem z0r:FnScope ["row","pairs"] ["row","pairs"] (aU yO):=cP
theorem NO (T:Tx K mg G A):FnOk P w K mg base (bK P w base) 2 A.f_qc A.fd_qc ["row","pairs"] (cC G F_qc):=cX (k:=1) T.F_qc z0r T.hK λ_ _ _ _ _ _ _ g=>(bB (bT (m9 g.calm rfl T.z_max (mQ (iH g.calm (fZ (N:=["pair","row"]) (cap:=[none,some 0]) (os:=(aU yO)) (oN:=["row","pairs"])) (oD (aD 1)) (λ_ _ _=>(bY (i:=0) u5)) (λ_ _ _=>kH) (λ_ _ _=>(bO (cW g) (NN T) T.m_q7 T.F_q7.kp T.B_q7 (aG (aD 1) (aG (aD 0) aN)))))))))
theorem z0s:FnScope ["order","row"] ["order","row"] (aU EC):=cP
theorem ES (T:Tx K mg G A):FnOk P w K mg base (bK P w base) 11 A.f_q5 A.fd_q5 ["order","row"] (cC G F_q5):=cX (k:=10) T.F_q5 z0s T.hK λ_ _ _ _ _ _ _ g=>(aY (oA (bO g (NM T) T.m_q3 T.F_q3.kp T.B_q3 (aG (aD 0) (aG (aD 1) aN)))) (bB (bT (bO g (NO T) T.m_qc T.F_qc.kp T.B_qc (aG (aD 1) (aG (bO g (NL T) T.m_qk T.F_qk.kp T.B_qk (aG (aD 0) aN)) aN))))))
theorem z0t:FnScope ["order","row","pairs","span","pair"] ["order","row"] (aU ED):=cP
theorem ET (T:Tx K mg G A):FnOk P w K mg base (bK P w base) 11 A.f_qz A.fd_qz ["order","row"] (cC G F_qz):=cX (k:=10) T.F_qz z0t T.hK λ_ _ _ _ _ _ _ g=>(aY (oA (bO g (NM T) T.m_q3 T.F_q3.kp T.B_q3 (aG (aD 0) (aG (aD 1) aN)))) (aY (cG (i:=2) EM (bO g (NL T) T.m_qk T.F_qk.kp T.B_qk (aG (aD 0) aN))) (aY (cG (i:=3) EM (bO g (NO T) T.m_qc T.F_qc.kp T.B_qc (aG (aD 1) (aG (aD 2) aN)))) (aY (lD g.own g.calm (oD (aD 2)) (bY (i:=4) EM) (bB (dZ (oM g (bO g (NN T) T.m_q7 T.F_q7.kp T.B_q7 (aG (aD 1) (aG (aD 4) aN))) (aD 3)) (bB (bT (aD 4))) dY))) (bB (bT pF))))))
theorem z0u:FnScope ["_law_script","_law_k"] ["_law_script","_law_k"] (aU EE):=cP
theorem z0v (T:Tx K mg G A):FnOk P w K mg base (bK P w base) 1 A.f_qf A.fd_qf ["_law_script","_law_k"] (cC G (F_qf G.scr)):=cX (k:=0) (N:=["_law_script","_law_k"]) (mb:=(xU G.scr)) T.F_qf z0u T.hK λ_ _ _ _ _ _ _ g=>(aY (dZ (MM g (aD 1) (IQ rfl T.z_len (aG (aD 0) aN))) (bB (bT (UZ (aD 0) (aD 1)))) dY) (bB (bT aZ)))
theorem z0w:FnScope ["_law_script","_law_k","_law_cell"] ["_law_script","_law_k"] (aU EF):=cP
theorem z0x (T:Tx K mg G A):FnOk P w K mg base (bK P w base) 2 A.f_qn A.fd_qn ["_law_script","_law_k"] (cC G (F_qn G.scr)):=cX (k:=1) (N:=["_law_script","_law_k","_law_cell"]) (mb:=(xV G.scr)) T.F_qn z0w T.hK λ_ _ _ _ _ _ _ g=>(aY (cG (i:=2) u7 (bO g (z0v T) T.m_qf T.F_qf.kp T.B_qf (aG (aD 0) (aG (aD 1) aN)))) (aY (dZ (XQ (aD 2) (BZ aZ aZ)) (bB (bT (fU (aG (rB (aD 2) (BZ aZ aZ)) (aG fS aN))))) dY) (bB (bT (fU (aG (rD (aD 2) aZ) (aG fS aN)))))))
theorem z0y:FnScope ["_law_state_here","_law_many","_law_found","_law_stirred"] ["_law_state_here","_law_many"] (aU EG):=cP
theorem jN (T:Tx K mg G A):FnOk P w K mg base (bK P w base) 1 A.f_qu A.fd_qu ["_law_state_here","_law_many"] (cC G F_qu):=cX (k:=0) T.F_qu z0y T.hK λ_ _ _ _ _ _ _ g=>(aY (dZ (fW (cF (aD 0) aZ)) (aY (cG (i:=2) EN (rD (cF (aD 0) aZ) (aD 1))) (aY (JN (aD 0) aZ (KI (cF (aD 0) aZ) (aD 1))) (bB (bT (aD 2))))) dY) (aY (JN (aD 0) aZ (rD (eO (tT (cF (aD 0) aZ) aZ) aZ) aZ)) (aY (cG (i:=3) EN (rD (eO (eO (tT (cF (aD 0) aZ) (cF (aD 0) aZ)) (tT aZ (cF (aD 0) aZ))) aZ) aZ)) (aY (cG (i:=3) EN (rD (eO (tT (aD 3) (aD 3)) (tT aZ (aD 3))) aZ)) (bB (bT (rD (KI (aD 3) aZ) (aD 1))))))))
theorem z0z:FnScope ["_law_state_here","_law_things","_law_left","_law_found"] ["_law_state_here","_law_things"] (aU EH):=cP
theorem z10 (T:Tx K mg G A):FnOk P w K mg base (bK P w base) 2 A.f_qb A.fd_qb ["_law_state_here","_law_things"] (cC G F_qb):=cX (k:=1) T.F_qb z0z T.hK λ_ _ _ _ _ _ _ g=>(aY (cG (i:=2) NB (xD rfl T.z_list (aG (aD 1) aN))) (aY (cG (i:=3) NB (fU aN)) (aY (J1 40 g.own (jJ g (aD 2) (fU aN)) (bB (oA (BV (aD 3) (XC (aD 2) (bO g (jN T) T.m_qu T.F_qu.kp T.B_qu (aG (aD 0) (aG (lJ rfl T.z_len (aG (aD 2) aN)) aN)))))))) (bB (bT (aD 3))))))
theorem z11:FnScope ["_law_pairs","_law_found","_law_later","_law_a","_law_b"] ["_law_pairs"] (aU yP):=cP
theorem z12 (T:Tx K mg G A):FnOk P w K mg base (bK P w base) 1 A.f_qh A.fd_qh ["_law_pairs"] (cC G F_qh):=cX (k:=0) T.F_qh z11 T.hK λ_ _ _ _ _ _ _ g=>(aY (cG (i:=1) rQ (MQ g rfl T.z_sorted rfl T.z_set (aG (aD 0) aN))) (bB (J1 40 g.own (fW fS) (aY (cG (i:=2) rQ (xD rfl T.z_list (aG (aD 1) aN))) (aY (lD g.own g.calm (oD (aD 1)) (jE g.calm (eC (bY (i:=3) rQ) (eC (bY (i:=4) rQ) jD))) (bB (oA (WJ (aD 2) (iH g.calm (fZ (N:=["_law_c","_law_d","_law_a","_law_b"]) (cap:=[none,none,some 3,some 4]) (os:=(aU yP)) (oN:=["_law_pairs","_law_found","_law_later","_law_a","_law_b"])) (oD (aD 1)) (λ_ _ _=>(jE (cW g).calm (eC (bY (i:=0) NC) (eC (bY (i:=1) NC) jD)))) (λ_ _ _=>(kJ (oM (cW g) (aD 3) (aD 0)))) (λ_ _ _=>(gM (aG (aD 2) (aG (aD 1) aN))))))))) (aY (cG (i:=2) rQ (MQ g rfl T.z_sorted rfl T.z_set (aG (aD 2) aN))) (aY (dZ (oM g (aD 2) (aD 1)) (bB (bT (aD 1))) dY) (bB (cG (i:=1) rQ (aD 2))))))))))
theorem z13:FnScope ["_law_state_here","_law_most","_law_many","_law_row","_law_way","_law_pairs","_law_marks","_law_i","_law_j","_law_near"] ["_law_state_here","_law_most"] (aU uO):=cP
theorem z14 (T:Tx K mg G A):FnOk P w K mg base (bK P w base) 3 A.f_qm A.fd_qm ["_law_state_here","_law_most"] (cC G F_qm):=cX (k:=2) T.F_qm z13 T.hK λ_ _ _ _ _ _ _ g=>(aY (cG (i:=2) jM (rB (aD 1) (cF (lR 2) (bO g (jN T) T.m_qu T.F_qu.kp T.B_qu (aG (aD 0) (aG aZ aN)))))) (aY (cG (i:=2) jM (IT g.calm rfl T.z_max (aG aZ (aG (aD 2) aN)))) (aY (cG (i:=3) jM (bO g (z10 T) T.m_qb T.F_qb.kp T.B_qb (aG (aD 0) (aG (MN g rfl T.z_list rfl T.z_range (aG (aD 2) aN)) aN)))) (aY (cG (i:=4) jM (bO g (jN T) T.m_qu T.F_qu.kp T.B_qu (aG (aD 0) (aG aZ aN)))) (aY (cG (i:=5) jM (fU aN)) (aY (cG (i:=6) jM (mQ (iH g.calm (fZ (N:=["_law_thing","_law_state_here"]) (cap:=[none,some 0]) (os:=(aU uO)) (oN:=["_law_state_here","_law_most","_law_many","_law_row","_law_way","_law_pairs","_law_marks","_law_i","_law_j","_law_near"])) (oD (aD 3)) (λ_ _ _=>(bY (i:=0) u9)) (λ_ _ _=>kH) (λ_ _ _=>(bO (cW g) (jN T) T.m_qu T.F_qu.kp T.B_qu (aG (aD 1) (aG aZ aN))))))) (aY (lD g.own g.calm (lC rfl T.z_range (aG (aD 2) aN)) (bY (i:=7) jM) (bB (lD g.own g.calm (BI rfl T.z_range (aG (eO (aD 7) aZ) (aG (aD 2) aN))) (bY (i:=8) jM) (aY (cG (i:=9) jM (fU (aG (oK g (bO g (jN T) T.m_qu T.F_qu.kp T.B_qu (aG (aD 0) (aG aZ aN))) aZ) (aG (oK g (bO g (jN T) T.m_qu T.F_qu.kp T.B_qu (aG (aD 0) (aG aZ aN))) aZ) (aG (XM (bO g (jN T) T.m_qu T.F_qu.kp T.B_qu (aG (aD 0) (aG aZ aN))) aZ) aN))))) (aY (cG (i:=9) jM (eO (aD 9) (fU (aG (CZ g (cF (aD 6) (aD 7)) (cF (aD 6) (aD 8))) (aG (oK g (cF (aD 6) (aD 7)) (cF (aD 6) (aD 8))) aN))))) (bB (dZ (fW (cF (aD 9) (aD 4))) (bB (oA (BV (aD 5) (gM (aG (cF (aD 3) (aD 7)) (aG (cF (aD 3) (aD 8)) aN)))))) dY))))))) (aY (dZ (oM g (aD 4) aZ) (aY (cG (i:=5) jM (fU aN)) (bB (lD g.own g.calm (lC rfl T.z_range (aG (aD 2) aN)) (bY (i:=7) jM) (bB (cG (i:=5) jM (eO (aD 5) (mQ (iH g.calm (fZ (N:=["_law_j","_law_i","_law_marks"]) (cap:=[none,some 7,some 6]) (os:=(aU uO)) (oN:=["_law_state_here","_law_most","_law_many","_law_row","_law_way","_law_pairs","_law_marks","_law_i","_law_j","_law_near"])) (lC rfl T.z_range (aG (aD 2) aN)) (λ_ _ _=>(bY (i:=0) v5)) (λ_ _ _=>(kJ (MM (cW g) (cF (aD 2) (aD 1)) (cF (aD 2) (aD 0))))) (λ_ _ _=>(gM (aG (aD 1) (aG (aD 0) aN)))))))))))) dY) (bB (bT (gM (aG (aD 2) (aG (wJ rfl T.z_tuple (aG (bO g (z12 T) T.m_qh T.F_qh.kp T.B_qh (aG (aD 5) aN)) aN)) aN)))))))))))))
theorem z15:FnScope ["_law_order_here","_law_found","_law_a","_law_b"] ["_law_order_here"] (aU EI):=cP
theorem NP (T:Tx K mg G A):FnOk P w K mg base (bK P w base) 1 A.f_ql A.fd_ql ["_law_order_here"] (cC G F_ql):=cX (k:=0) T.F_ql z15 T.hK λ_ _ _ _ _ _ _ g=>(aY (cG (i:=1) EO (fU aN)) (aY (lD g.own g.calm (lC rfl T.z_range (aG (cF (aD 0) aZ) aN)) (bY (i:=2) EO) (bB (lD g.own g.calm (BI rfl T.z_range (aG (eO (aD 2) aZ) (aG (cF (aD 0) aZ) aN))) (bY (i:=3) EO) (bB (dZ (SndW.t (ID (xF g (gM (aG (aD 2) (aG (aD 3) aN))) (cF (aD 0) aZ)) (IC (xF g (gM (aG (aD 3) (aG (aD 2) aN))) (cF (aD 0) aZ))))) (bB (oA (BV (aD 1) (gM (aG (aD 2) (aG (aD 3) aN)))))) dY))))) (bB (bT (aD 1)))))
theorem z16:FnScope ["_law_order_here","_law_row"] ["_law_order_here","_law_row"] (aU yQ):=cP
theorem z17 (T:Tx K mg G A):FnOk P w K mg base (bK P w base) 2 A.f_qt A.fd_qt ["_law_order_here","_law_row"] (cC G F_qt):=cX (k:=1) T.F_qt z16 T.hK λ_ _ _ _ _ _ _ g=>(bB (bT (YG g.calm rfl T.z_max (aG (eO (lR 2) (mQ (iH g.calm (fZ (N:=["_law_a","_law_b","_law_row"]) (cap:=[none,none,some 1]) (os:=(aU yQ)) (oN:=["_law_order_here","_law_row"])) (oD (bO g (NP T) T.m_ql T.F_ql.kp T.B_ql (aG (aD 0) aN))) (λ_ _ _=>(jE (cW g).calm (eC (bY (i:=0) ND) (eC (bY (i:=1) ND) jD)))) (λ_ _ _=>kH) (λ_ _ _=>(BF rfl T.z_abs (aG (rB (lK (aD 2) (aD 0)) (lK (aD 2) (aD 1))) aN)))))) aN))))
theorem z18:FnScope ["_law_thing"] ["_law_thing"] (aU EJ):=cP
theorem z19 (T:Tx K mg G A):FnOk P w K mg base (bK P w base) 1 A.f_qo A.fd_qo ["_law_thing"] (cC G F_qo):=cX (k:=0) T.F_qo z18 T.hK λ_ _ _ _ _ _ _ g=>(bB (bT (mM (J6 rfl T.z_isinstance rfl T.z_int (aD 0)) (nZ (A9 (xB rfl T.z_isinstance rfl T.z_bool (aD 0)))))))
theorem z1a:FnScope ["_law_order_here","_law_thing"] ["_law_order_here","_law_thing"] (aU uP):=cP
theorem z1b (T:Tx K mg G A):FnOk P w K mg base (bK P w base) 2 A.f_qi A.fd_qi ["_law_order_here","_law_thing"] (cC G F_qi):=cX (k:=1) T.F_qi z1a T.hK λ_ _ _ _ _ _ _ g=>(aY (dZ (SndW.t (nX (iN (fW (rF rfl T.z_isinstance rfl T.z_tuple (aD 1)))) (pH (jJ g (mQ (iH g.calm (fZ (N:=["_law_one"]) (cap:=[none]) (os:=(aU uP)) (oN:=["_law_order_here","_law_thing"])) (mP (aD 1)) (λ_ _ _=>(bY (i:=0) v7)) (λ_ _ _=>(kJ (iN (fW (bO (cW g) (z19 T) T.m_qo T.F_qo.kp T.B_qo (aG (aD 0) aN)))))) (λ_ _ _=>(aD 0)))) (fU aN))))) (bB (bT fS)) dY) (aY (dZ (jJ g (p8 rfl T.z_sorted (aG (aD 1) aN)) (MN g rfl T.z_list rfl T.z_range (aG (cF (aD 0) aZ) aN))) (bB (bT fS)) dY) (bB (bT (oK g (mQ (iH g.calm (fZ (N:=["_law_a","_law_b","_law_thing"]) (cap:=[none,none,some 1]) (os:=(aU uP)) (oN:=["_law_order_here","_law_thing"])) (mP (cF (aD 0) aZ)) (λ_ _ _=>(jE (cW g).calm (eC (bY (i:=0) NF) (eC (bY (i:=1) NF) jD)))) (λ_ _ _=>(kJ (XO (lK (aD 2) (aD 0)) (lK (aD 2) (aD 1))))) (λ_ _ _=>aZ))) (fU aN))))))
theorem z1c:FnScope ["_law_state_here","_law_order_here","_law_found","_law_turn","_law_left","_law_some"] ["_law_state_here","_law_order_here"] (aU uQ):=cP
theorem z1d (T:Tx K mg G A):FnOk P w K mg base (bK P w base) 2 A.f_qe A.fd_qe ["_law_state_here","_law_order_here"] (cC G F_qe):=cX (k:=1) T.F_qe z1c T.hK λ_ _ _ _ _ _ _ g=>(aY (cG (i:=2) uR (gM aN)) (aY (lD g.own g.calm (lC rfl T.z_range (aG (cF (aD 1) aZ) aN)) (bY (i:=3) uR) (aY (CL (i:=4) uR rfl g.calm (fZ (N:=["_law_thing","_law_found"]) (cap:=[none,some 2]) (os:=(aU uQ)) (oN:=["_law_state_here","_law_order_here","_law_found","_law_turn","_law_left","_law_some"])) (lC rfl T.z_range (aG (cF (aD 1) aZ) aN)) (λ_ _ _=>(bY (i:=0) v8)) (λ_ _ _=>(kJ (xF (cW g) (aD 0) (aD 1)))) (λ_ _ _=>(aD 0))) (aY (CL (i:=5) uR rfl g.calm (fZ (N:=["_law_thing","_law_order_here","_law_found"]) (cap:=[none,some 1,some 2]) (os:=(aU uQ)) (oN:=["_law_state_here","_law_order_here","_law_found","_law_turn","_law_left","_law_some"])) (oD (aD 4)) (λ_ _ _=>(bY (i:=0) v9)) (λ_ _ _=>(kJ (oM (cW g) (mQ (iH (cW g).calm (fZ (N:=["_law_a","_law_b","_law_thing","_law_found"]) (cap:=[none,none,some 0,some 2]) (os:={ kind:=.function,names:=[(".0",.local),("_law_thing",.cell),("_law_found",.cell),("_law_order_here",.cell)],isGenerator:=false,isCoroutine:=false }) (oN:=["_law_thing","_law_order_here","_law_found"])) (mP (cF (aD 1) aZ)) (λ_ _ _=>(jE (cW (cW g)).calm (eC (bY (i:=0) NG) (eC (bY (i:=1) NG) jD)))) (λ_ _ _=>(kJ (SndW.t (ID (oM (cW (cW g)) (aD 1) (aD 2)) (IC (xF (cW (cW g)) (aD 0) (aD 3))))))) (λ_ _ _=>(aD 0)))) (fU aN)))) (λ_ _ _=>(aD 0))) (bB (cG (i:=2) uR (eO (aD 2) (gM (aG (cF (aD 5) (bO g (jN T) T.m_qu T.F_qu.kp T.B_qu (aG (aD 0) (aG (lJ rfl T.z_len (aG (aD 5) aN)) aN)))) aN)))))))) (bB (bT (aD 2)))))
theorem z1e:FnScope ["_law_state_here","_law_row","_law_at","_law_to","_law_odd","_law_some","_law_other"] ["_law_state_here","_law_row"] (aU EK):=cP
theorem z1f (T:Tx K mg G A):FnOk P w K mg base (bK P w base) 2 A.f_qd A.fd_qd ["_law_state_here","_law_row"] (cC G F_qd):=cX (k:=1) T.F_qd z1e T.hK λ_ _ _ _ _ _ _ g=>(aY (i9 (i:=2) (j:=3) g.calm uS rfl rfl (by decide) rfl rfl (aG (bO g (jN T) T.m_qu T.F_qu.kp T.B_qu (aG (aD 0) (aG (lJ rfl T.z_len (aG (aD 1) aN)) aN))) (aG (bO g (jN T) T.m_qu T.F_qu.kp T.B_qu (aG (aD 0) (aG (lJ rfl T.z_len (aG (aD 1) aN)) aN))) aN))) (aY (cG (i:=4) uS (cF (fU (aG (cF (aD 1) (aD 3)) (aG (lJ rfl T.z_len (aG (aD 1) aN)) (aG (CA aZ) (aG fS (aG pF (aG wC (aG (lR 2) (aG (BZ aZ aZ) (aG fS aN)))))))))) (bO g (jN T) T.m_qu T.F_qu.kp T.B_qu (aG (aD 0) (aG aZ aN))))) (aY (cG (i:=5) uS (fU (aG (eO (eO (nB (aD 1) mT (lG (aD 2))) (gM (aG (aD 4) aN))) (nB (aD 1) (lG (eO (aD 2) aZ)) mT)) (aG (eO (nB (aD 1) mT (lG (aD 2))) (nB (aD 1) (lG (eO (aD 2) aZ)) mT)) (aG (eO (eO (nB (aD 1) mT (lG (aD 2))) (gM (aG (aD 4) aN))) (nB (aD 1) (lG (aD 2)) mT)) (aG (xD rfl T.z_list (aG (aD 1) aN)) (aG pF aN))))))) (aY (cG (i:=6) uS (xD rfl T.z_list (aG (aD 1) aN))) (aY (n9 g.calm (aD 6) (aD 2) (aD 6) (aD 3) (gM (aG (cF (aD 1) (aD 3)) (aG (cF (aD 1) (aD 2)) aN)))) (aY (cG (i:=5) uS (eO (aD 5) (fU (aG (wJ rfl T.z_tuple (aG (aD 6) aN)) (aG (wJ rfl T.z_tuple (aG (aD 6) aN)) (aG (wJ rfl T.z_tuple (aG (aD 6) aN)) (aG (i8 (aD 1) (lG (CA aZ))) (aG (eO (nB (aD 1) (lG (aD 2)) mT) (nB (aD 1) mT (lG (aD 2)))) (aG J4 (aG aZ (aG (gM (aG (aD 1) aN)) (aG (aD 1) aN)))))))))))) (bB (bT (cF (aD 5) (bO g (jN T) T.m_qu T.F_qu.kp T.B_qu (aG (aD 0) (aG aZ aN))))))))))))
theorem z1g:FnScope ["_law_state_here","_law_some"] ["_law_state_here"] (aU EL):=cP
theorem z1h (T:Tx K mg G A):FnOk P w K mg base (bK P w base) 2 A.f_qa A.fd_qa ["_law_state_here"] (cC G F_qa):=j7 (k:=1) T.F_qa z1g T.hK λ_ _ _ _ _ _ _ g=>(DK (j6 5 (i:=1) ER rfl (by first|exact .inl rfl|exact .inr rfl)) (DK (MW 5 (i:=1) ER rfl (by first|exact .inl rfl|exact .inr rfl) (aD 1)) (DK (MW 5 (i:=1) ER rfl (by first|exact .inl rfl|exact .inr rfl) (aD 1)) (j5 (SW.mk (bT (cF (aD 1) (bO g (jN T) T.m_qu T.F_qu.kp T.B_qu (aG (aD 0) (aG aZ aN))))))))))
theorem z1i:FnScope ["_law_found","_law_due"] ["_law_found","_law_due"] (aU yR):=cP
theorem EU (T:Tx K mg G A):∀n,FnOk P w K mg base (bK P w base) n A.f_qs A.fd_qs ["_law_found","_law_due"] (cC G (F_qs n))
 |0=>X5
 |n+1=>by have okS:=EU T n;exact cX (N:=["_law_found","_law_due"]) (mb:=uH (F_qs n)) T.F_qs z1i T.hK λ_ _ _ _ _ _ _ g=>(aY (dZ (fW (X2 rfl T.z_isinstance rfl T.z_tuple rfl T.z_list (aD 1))) (aY (dZ (SndW.t (nX (jJ g (rF rfl T.z_isinstance rfl T.z_tuple (aD 0)) (rF rfl T.z_isinstance rfl T.z_tuple (aD 1))) (pH (jJ g (J7 rfl T.z_isinstance rfl T.z_list (aD 0)) (J7 rfl T.z_isinstance rfl T.z_list (aD 1)))))) (bB (bT fS)) dY) (aY (dZ (jJ g (lJ rfl T.z_len (aG (aD 0) aN)) (lJ rfl T.z_len (aG (aD 1) aN))) (bB (bT fS)) dY) (bB (bT (qX g.calm rfl T.z_all (iH g.calm (fZ (N:=["_law_one","_law_other"]) (cap:=[none,none]) (os:=(aU yR)) (oN:=["_law_found","_law_due"])) (JP rfl T.z_zip (aG (aD 0) (aG (aD 1) aN))) (λ_ _ _=>(jE (cW g).calm (eC (bY (i:=0) NH) (eC (bY (i:=1) NH) jD)))) (λ_ _ _=>kH) (λ_ _ _=>(JE (cW g) okS (ak _) rfl T.m_qs T.F_qs.kp T.B_qs (aG (aD 0) (aG (aD 1) aN)))))))))) dY) (bB (bT (mM (oK g (aD 0) (aD 1)) (nZ (oK g (xB rfl T.z_isinstance rfl T.z_bool (aD 0)) (xB rfl T.z_isinstance rfl T.z_bool (aD 1))))))))
theorem z1j:FnScope ["_law_call","_law_error","e","_law_marks"] ["_law_call"] (aU qA):=cP
theorem z1k {k:Nat}(T:Tx K mg G A) (cdv:af) (Ar:cf) (outer:List Env) (s:ag) (H:Hp) (E₀ E:XK) (g:Good (gB (bK P w base) P w K mg base ["_law_call","_law_error","e","_law_marks"] "_law_refused" (aU qA) A.f_qg cdv Ar outer s H E₀) G E k):jB (gB (bK P w base) P w K mg base ["_law_call","_law_error","e","_law_marks"] "_law_refused" (aU qA) A.f_qg cdv Ar outer s H E₀) G E ((iY qA).drop 2) iC:=(aY (cG (i:=3) yT (fU (aG (kN rfl T.z_isinstance rfl T.n_NoOrder (aD 1) (λ_ h=>by cases h) T.kt0) (aG (kN rfl T.z_isinstance rfl T.n_NoNumber (aD 1) (λ_ h=>by cases h) T.kt1) (aG (kN rfl T.z_isinstance rfl T.n_NoPairs (aD 1) (λ_ h=>by cases h) T.kt2) aN))))) (aY (cG (i:=3) yT (eO (aD 3) (fU (aG (kN rfl T.z_isinstance rfl T.n_Round (aD 1) (λ_ h=>by cases h) T.kt3) (aG (kN rfl T.z_isinstance rfl T.n_NoThing (aD 1) (λ_ h=>by cases h) T.kt4) (aG (kN rfl T.z_isinstance rfl T.n_NoRow (aD 1) (λ_ h=>by cases h) T.kt5) aN)))))) (aY (cG (i:=3) yT (eO (aD 3) (fU (aG (kN rfl T.z_isinstance rfl T.n_TooMany (aD 1) (λ_ h=>by cases h) T.kt6) (aG (kN rfl T.z_isinstance rfl T.n_TooFew (aD 1) (λ_ h=>by cases h) T.kt7) (aG (kN rfl T.z_isinstance rfl T.n_NoText (aD 1) (λ_ h=>by cases h) T.kt8) aN)))))) (aY (cG (i:=3) yT (eO (aD 3) (fU (aG (kN rfl T.z_isinstance rfl T.n_NoLine (aD 1) (λ_ h=>by cases h) T.kt9) (aG (kN rfl T.z_isinstance rfl T.n_NoDeed (aD 1) (λ_ h=>by cases h) T.kt10) aN))))) (aY (dZ (iN (fW (X3 rfl T.z_isinstance rfl T.z_ValueError (aD 1) (λ_ h=>by cases h) T.ktV))) (bB (bT pF)) dY) (bB (bT (mQ (iH g.calm (fZ (N:=["_law_k","_law_marks"]) (cap:=[none,some 3]) (os:=(aU qA)) (oN:=["_law_call","_law_error","e","_law_marks"])) (lC rfl T.z_range (aG aZ aN)) (λ_ _ _=>(bY (i:=0) z9)) (λ_ _ _=>(kJ (fW (cF (aD 1) (aD 0))))) (λ_ _ _=>(aD 0)))))))))))
theorem yU {k:Nat}{Nl:List Str}{params:ni}{body:bq}{scope:iq}{me:M Dv}(T:Tx K mg G A) (LS:LamScope Nl scope) (hb:∀(cl:List (Str×ai)) (pm cdv ct:af),bindArgs (qp "<lambda>" G.lq params body scope cl pm cdv ct) ⟨[],[]⟩=pure [])
  (hbody:∀(f:ai) (cdv:af) (cl:List (Str×ai)) (A:cf) (outer:List Env) (s:ag) (H:Hp) (E₀ E:XK),Good (jG P w K mg base Nl G.lq scope f cdv cl A outer s H E₀) G E k->aJ (jG P w K mg base Nl G.lq scope f cdv cl A outer s H E₀) G E body me):
  FnOk P w K mg base (bK P w base) (k+2) A.f_qg A.fd_qg ["_law_call"] (wW G base Nl params body scope me 4 11 iC):=
 W5 T.F_qg z1j T.hK rfl rfl rfl rfl rfl rfl rfl (by decide) (by decide) (by decide) (by decide) (by decide) (λ_ _=>rfl) (λ_ _=>rfl) (λ_ _=>rfl) rfl T.n_NearError T.e1 T.e2 T.e3 T.e4 LS hb hbody (z1k T)
theorem z1l:FnScope ["_law_script","_law_k","_law_state_here","_law_order_here","_law_turn","_law_row","_law_span_here","_law_some","_law_bent","_law_bad"] ["_law_script"] (aU oS):=cP
theorem z1m (T:Tx K mg G A) (hC:mw base A.cc A.P) (hB:mR mg base):FnOk P w K mg base (bK P w base) 15 A.f_q8 A.fd_q8 ["_law_script"] (cC G (F_q8 G.scr)):=X4 (k:=14) (N:=["_law_script","_law_k","_law_state_here","_law_order_here","_law_turn","_law_row","_law_span_here","_law_some","_law_bent","_law_bad"]) (mb:=yG G.scr) T.F_q8 z1l T.hK λcdv Ar outer s H E₀ E hcd g=>(aY (lD g.own g.calm (lC rfl T.z_range (aG (IT g.calm rfl T.z_max (aG aZ (aG (VI g.calm rfl T.z_min (aG (IQ rfl T.z_len (aG (aD 0) aN)) (aG aZ aN))) aN))) aN)) (bY (i:=1) nI) (aY (cG (i:=2) nI (bO g (z0x T) T.m_qn T.F_qn.kp T.B_qn (aG (aD 0) (aG (aD 1) aN)))) (aY (cG (i:=3) nI (bO g (z14 T) T.m_qm T.F_qm.kp T.B_qm (aG (aD 2) (aG aZ aN)))) (aY (lD g.own g.calm (lC rfl T.z_range (aG aZ aN)) (bY (i:=4) nI) (aY (cG (i:=5) nI (bO g (z1d T) T.m_qe T.F_qe.kp T.B_qe (aG (aD 2) (aG (aD 3) aN)))) (aY (cG (i:=6) nI (bO g (z17 T) T.m_qt T.F_qt.kp T.B_qt (aG (aD 3) (aG (aD 5) aN)))) (aY (CL (i:=7) nI rfl g.calm (fZ (N:=["_law_pair","_law_span_here","_law_row"]) (cap:=[none,some 6,some 5]) (os:=(aU oS)) (oN:=["_law_script","_law_k","_law_state_here","_law_order_here","_law_turn","_law_row","_law_span_here","_law_some","_law_bent","_law_bad"])) (oD (bO g (NP T) T.m_ql T.F_ql.kp T.B_ql (aG (aD 3) aN))) (λ_ _ _=>(bY (i:=0) z00)) (λ_ _ _=>(kJ (oM (cW g) (BF rfl T.z_abs (aG (rB (lK (aD 2) (cF (aD 0) aZ)) (lK (aD 2) (cF (aD 0) aZ))) aN)) (aD 1)))) (λ_ _ _=>(aD 0))) (aY (dZ (SndW.t (nX (iN (fW (bO g (EU T 6) T.m_qs T.F_qs.kp T.B_qs (aG (bO g (ES T) T.m_q5 T.F_q5.kp T.B_q5 (aG (aD 3) (aG (aD 5) aN))) (aG (aD 6) aN))))) (pH (iN (fW (bO g (EU T 6) T.m_qs T.F_qs.kp T.B_qs (aG (bO g (ET T) T.m_qz T.F_qz.kp T.B_qz (aG (aD 3) (aG (aD 5) aN))) (aG (cF (eO (aD 7) (lR 2)) aZ) aN)))))))) (bB (bT fS)) dY) (aY (cG (i:=8) nI (bO g (z1f T) T.m_qd T.F_qd.kp T.B_qd (aG (aD 2) (aG (aD 5) aN)))) (bB (dZ (iN (fW (bO g (z1b T) T.m_qi T.F_qi.kp T.B_qi (aG (aD 3) (aG (aD 8) aN))))) (aY (dZ (jJ g (xC (Nl:=["_law_order_here","_law_bent"]) (caps:=[3,8]) (me:=yB) (os:=aU oS) (oN:=["_law_script","_law_k","_law_state_here","_law_order_here","_law_turn","_law_row","_law_span_here","_law_some","_law_bent","_law_bad"]) g (j:=11+2) (by decide) (λ_=>rfl) (λbase _ _=>yU (k:=11) T ⟨rfl,rfl,rfl,by decide +kernel,by decide +kernel,by decide +kernel⟩ (λ_ _ _ _=>rfl) (λ_ _ _ _ _ _ _ _ _ g=>(bO g (ES T) T.m_q5 T.F_q5.kp T.B_q5 (aG (aD 0) (aG (aD 1) aN))))) rfl T.m_qg T.F_qg.kp T.B_qg rfl T.lq T.tab (hcd.symm.trans T.code) hC hB ⟨rfl,rfl,rfl,by decide +kernel,by decide +kernel,by decide +kernel⟩ rfl rfl (by decide +kernel) rfl (by decide +kernel)) (lR 2)) (bB (bT fS)) dY) (bB (dZ (jJ g (xC (Nl:=["_law_order_here","_law_bent"]) (caps:=[3,8]) (me:=yC) (os:=aU oS) (oN:=["_law_script","_law_k","_law_state_here","_law_order_here","_law_turn","_law_row","_law_span_here","_law_some","_law_bent","_law_bad"]) g (j:=11+2) (by decide) (λ_=>rfl) (λbase _ _=>yU (k:=11) T ⟨rfl,rfl,rfl,by decide +kernel,by decide +kernel,by decide +kernel⟩ (λ_ _ _ _=>rfl) (λ_ _ _ _ _ _ _ _ _ g=>(bO g (ET T) T.m_qz T.F_qz.kp T.B_qz (aG (aD 0) (aG (aD 1) aN))))) rfl T.m_qg T.F_qg.kp T.B_qg rfl T.lq T.tab (hcd.symm.trans T.code) hC hB ⟨rfl,rfl,rfl,by decide +kernel,by decide +kernel,by decide +kernel⟩ rfl rfl (by decide +kernel) rfl (by decide +kernel)) (lR 2)) (bB (bT fS)) dY))) dY)))))))) (aY (cG (i:=9) nI (bO g (z1h T) T.m_qa T.F_qa.kp T.B_qa (aG (aD 2) aN))) (aY (dZ (jJ g (xC (Nl:=["_law_bad"]) (caps:=[9]) (me:=yD) (os:=aU oS) (oN:=["_law_script","_law_k","_law_state_here","_law_order_here","_law_turn","_law_row","_law_span_here","_law_some","_law_bent","_law_bad"]) g (j:=11+2) (by decide) (λ_=>rfl) (λbase _ _=>yU (k:=11) T ⟨rfl,rfl,rfl,by decide +kernel,by decide +kernel,by decide +kernel⟩ (λ_ _ _ _=>rfl) (λ_ _ _ _ _ _ _ _ _ g=>(bO g (ES T) T.m_q5 T.F_q5.kp T.B_q5 (aG (aD 0) (aG pF aN))))) rfl T.m_qg T.F_qg.kp T.B_qg rfl T.lq T.tab (hcd.symm.trans T.code) hC hB ⟨rfl,rfl,rfl,by decide +kernel,by decide +kernel,by decide +kernel⟩ rfl rfl (by decide +kernel) rfl (by decide +kernel)) (lR 2)) (bB (bT fS)) dY) (bB (dZ (jJ g (xC (Nl:=["_law_bad"]) (caps:=[9]) (me:=yE) (os:=aU oS) (oN:=["_law_script","_law_k","_law_state_here","_law_order_here","_law_turn","_law_row","_law_span_here","_law_some","_law_bent","_law_bad"]) g (j:=11+2) (by decide) (λ_=>rfl) (λbase _ _=>yU (k:=11) T ⟨rfl,rfl,rfl,by decide +kernel,by decide +kernel,by decide +kernel⟩ (λ_ _ _ _=>rfl) (λ_ _ _ _ _ _ _ _ _ g=>(bO g (ET T) T.m_qz T.F_qz.kp T.B_qz (aG (aD 0) (aG pF aN))))) rfl T.m_qg T.F_qg.kp T.B_qg rfl T.lq T.tab (hcd.symm.trans T.code) hC hB ⟨rfl,rfl,rfl,by decide +kernel,by decide +kernel,by decide +kernel⟩ rfl rfl (by decide +kernel) rfl (by decide +kernel)) (lR 2)) (bB (bT fS)) dY)))))))) (bB (bT fS)))
end
end L2.Mr.K05
namespace L2.Mr
open PySem PySem.Spec PyProof.Rows L2
section
variable{H:Hs}{j:Nat}{up up1:List Int}{b v:Int}{ρ:Ev}{x:Nat}
end
section
variable{d:Dv}{r:Int}{i j:Nat}{fs:List Int}
end
theorem NQ:∀xs ys:List Int,eU (xs.map Dt.int) (ys.map Dt.int)=decide (xs=ys)
 | [],[]=>by simp[eU]
 | [],y::ys=>by simp[eU]
 |x::xs,[]=>by simp[eU]
 |x::xs,y::ys=>by simp only[dk,eU,NQ xs ys,bI];rw[dh];simp
theorem eq_ints {H:Hs}{i j:Nat}{xs ys:List Int}(ei:getL H i=some (xs.map Dv.int)) (ej:getL H j=some (ys.map Dv.int)):bL (.ref i) (.ref j) H=.ok (.bl (decide (xs=ys))) H:=by
 have p:∀(i:Nat) (xs:List Int),getL H i=some (xs.map Dv.int)->bF bW H (.ref i)=some (.lst (xs.map Dt.int)):=λi xs e=>by show bF (28+1+1) H (.ref i)=_;rw[bF];simp only[e,rH]
 unfold bL;rw[p i xs ei,p j ys ej];simp only[bI,NQ]
section
variable{d:Dv}{n r:Int}{ps qs:List (Int×Int)}{Fl:List Dv->Hs->Rs Dv}
end
theorem yV {α:Type}{src:Src}{sg:dC}{t:M Bool}{m:MC}(xs:List α) (out:α->List Dv) (S:Ev->Hs->Prop)
  (fin:∀ρ h,S ρ h->src.fin h=true)
  (step:∀k (hk:k<xs.length) ρ h,S ρ h->∃d ρ1,src.get k h=some d/\sg d ρ=some ρ1 /\
   ((∃h2,t ρ1 h=.ok false h2/\out xs[k]=[]/\S ρ1 h2)∨∃h2,t ρ1 h=.ok true h2/\∀acc:List Dv,acc.length+(out xs[k]).length<=900000->∃ρ3 h3,m ρ1 h2 acc=.ok (ρ3,acc++out xs[k]) h3/\S ρ3 h3)):
  ∀(f k:Nat) (ρ:Ev) (h:Hs) (acc:List Dv),f+k=xs.length->S ρ h->acc.length+((xs.drop k).flatMap out).length<=900000->∃ρ' h',gO src sg t m f k ρ h acc=.ok (ρ',acc++(xs.drop k).flatMap out) h'/\S ρ' h'
 |0,k,ρ,h,acc,e,s,hl=>by have:xs.drop k=[]:=List.drop_eq_nil_of_le (by omega);exact⟨ρ,h,by simp[gO,fin ρ h s,this],s⟩
 |f+1,k,ρ,h,acc,e,s,hl=>by
  have hk:k<xs.length:=by omega
  obtain⟨d,ρ1,e1,e2,e3⟩:=step k hk ρ h s;rw[List.drop_eq_getElem_cons hk,kd]at hl ⊢;rw[bu]at hl
  rcases e3 with⟨h2,e3,e4,s2⟩|⟨h2,e3,e4⟩
  ·obtain⟨ρ',h',e5,s5⟩:=yV xs out S fin step f (k+1) ρ1 h2 acc (by omega) s2 (by omega);exact⟨ρ',h',by simp[gO,e1,e2,e3,e4,e5],s5⟩
  ·obtain⟨ρ3,h3,e6,s3⟩:=e4 acc (by omega);obtain⟨ρ',h',e5,s5⟩:=yV xs out S fin step f (k+1) ρ3 h3 (acc++out xs[k]) (by omega) s3 (by rw[bu];omega);exact⟨ρ',h',by simp[gO,e1,e2,e3,e6,e5],s5⟩
theorem EV {α:Type}{mi:M Src}{cap:List (Option Nat)}{src:Src}{sg:dC}{t:M Bool}{m:MC}{ρ:Ev}{H H1:Hs}(xs:List α) (out:α->List Dv) (S:Ev->Hs->Prop)
  (hi:mi ρ H=.ok src H1) (hn:src.n=xs.length) (s0:S (lE cap ρ) H1) (fin:∀ρ h,S ρ h->src.fin h=true)
  (step:∀k (hk:k<xs.length) ρ h,S ρ h->∃d ρ1,src.get k h=some d/\sg d ρ=some ρ1 /\
   ((∃h2,t ρ1 h=.ok false h2/\out xs[k]=[]/\S ρ1 h2)∨∃h2,t ρ1 h=.ok true h2/\∀acc:List Dv,acc.length+(out xs[k]).length<=900000->∃ρ3 h3,m ρ1 h2 acc=.ok (ρ3,acc++out xs[k]) h3/\S ρ3 h3))
  (hl:(xs.flatMap out).length<=900000):∃ρ' H',bU mi cap sg t m ρ H=.ok (xs.flatMap out) H'/\S ρ' H':=by
 obtain⟨ρ',h',e,s⟩:=yV xs out S fin step xs.length 0 (lE cap ρ) H1 [] (by omega) s0 (by simpa using hl);refine⟨ρ',h', ?_,s⟩;unfold bU;rw[hi,Rs.bind_ok,hn,e];simp
theorem EW {e:M Dv}{ρ:Ev}{h h1:Hs}{d:Dv}{acc:List Dv}(he:e ρ h=.ok d h1) (hl:acc.length+[d].length<=900000):bN e ρ h acc=.ok (ρ,acc++[d]) h1:=by
 have:acc.length<1000000:=by simp at hl;omega
 simp[bN,he,this]
theorem gU {α:Type}{mi:M Src}{cap:List (Option Nat)}{src:Src}{sg:dC}{t:M Bool}{e:M Dv}{ρ:Ev}{H H1:Hs}(xs:List α) (g:α->Option Dv) (S:Ev->Prop)
  (hi:mi ρ H=.ok src H1) (hn:src.n=xs.length) (s0:S (lE cap ρ)) (fin:src.fin H1=true)
  (step:∀k (hk:k<xs.length) ρ,S ρ->∃d ρ1,src.get k H1=some d/\sg d ρ=some ρ1/\S ρ1/\match g xs[k]with
   |none=>t ρ1 H1=.ok false H1
   |some v=>t ρ1 H1=.ok true H1/\e ρ1 H1=.ok v H1)
  (hl:xs.length<=900000):bU mi cap sg t (bN e) ρ H=.ok (xs.filterMap g) H1:=by
 have fm:∀l:List α,l.flatMap (λx=>(g x).toList)=l.filterMap g:=λl=>by
  induction l with
  |nil=>rfl
  |cons x l ih=>rw[kd,ih,bz];cases g x <;> rfl
 have len:(xs.filterMap g).length<=xs.length:=oi g xs;obtain⟨ρ',H',h,_,rfl⟩:=EV (mi:=mi) (cap:=cap) (src:=src) (sg:=sg) (t:=t) (m:=bN e) (ρ:=ρ) (H:=H) (H1:=H1) xs (λx=>(g x).toList) (λρ h=>S ρ/\h=H1) hi hn ⟨s0,rfl⟩ (λρ h s=>by rw[s.2];exact fin)
  (λk hk ρ h ⟨s,e1⟩=>by
   subst e1;obtain⟨d,ρ1,e1,e2,s1,e3⟩:=step k hk ρ s;refine⟨d,ρ1,e1,e2, ?_⟩
   cases q:g xs[k]with
   |none=>rw[q]at e3;exact .inl ⟨h,e3,rfl,s1,rfl⟩
   |some v=>rw[q]at e3;exact .inr ⟨h,e3.1,λacc hl=>⟨ρ1,h,EW e3.2 hl,s1,rfl⟩⟩) (by rw[fm];omega)
 rw[h,fm]
theorem NR {α β:Type}{mi mj:M Src}{cap:List (Option Nat)}{src:Src}{sg sg2:dC}{t2:M Bool}{e:M Dv}{ρ:Ev}{H H1:Hs}(xs:List α) (ys:α->List β) (g:α->β->Option Dv) (S:Ev->Prop)
  (hi:mi ρ H=.ok src H1) (hn:src.n=xs.length) (s0:S (lE cap ρ)) (fin:src.fin H1=true)
  (step:∀k (hk:k<xs.length) ρ,S ρ->∃(d:Dv) (ρ1:Ev) (src2:Src) (S2:Ev->Prop),src.get k H1=some d/\sg d ρ=some ρ1/\S2 ρ1/\(∀ρ,S2 ρ->S ρ)/\mj ρ1 H1=.ok src2 H1/\src2.n=(ys xs[k]).length/\src2.fin H1=true /\
   ∀j (hj:j<(ys xs[k]).length) ρ,S2 ρ->∃d ρ2,src2.get j H1=some d/\sg2 d ρ=some ρ2/\S2 ρ2/\match g xs[k] (ys xs[k])[j]with
    |none=>t2 ρ2 H1=.ok false H1
    |some v=>t2 ρ2 H1=.ok true H1/\e ρ2 H1=.ok v H1)
  (hl:(xs.flatMap λx=>(ys x).filterMap (g x)).length<=900000):bU mi cap sg dO (kG mj sg2 t2 (bN e)) ρ H=.ok (xs.flatMap λx=>(ys x).filterMap (g x)) H1:=by
 have fm:∀(x:α) (l:List β),l.flatMap (λy=>(g x y).toList)=l.filterMap (g x):=λx l=>by
  induction l with
  |nil=>rfl
  |cons y l ih=>rw[kd,ih,bz];cases g x y <;> rfl
 obtain⟨ρ',H',h,_,rfl⟩:=EV (mi:=mi) (cap:=cap) (src:=src) (sg:=sg) (t:=dO) (m:=kG mj sg2 t2 (bN e)) (ρ:=ρ) (H:=H) (H1:=H1) xs (λx=>(ys x).filterMap (g x)) (λρ h=>S ρ/\h=H1) hi hn ⟨s0,rfl⟩ (λρ h s=>by rw[s.2];exact fin)
  (λk hk ρ h ⟨s,e1⟩=>by
   subst e1;obtain⟨d,ρ1,src2,S2,e1,e2,s1,sS,e3,e4,e5,e6⟩:=step k hk ρ s;refine⟨d,ρ1,e1,e2,.inr ⟨h,rfl,λacc hl=>?_⟩⟩;obtain⟨ρ3,h3,r,s3,rfl⟩:=yV (src:=src2) (sg:=sg2) (t:=t2) (m:=bN e) (ys xs[k]) (λy=>(g xs[k] y).toList) (λρ hh=>S2 ρ/\hh=h) (λρ hh s=>by rw[s.2];exact e5)
    (λj hj ρ hh ⟨s,e1⟩=>by
     subst e1;obtain⟨d,ρ2,z1,z2,z3,z4⟩:=e6 j hj ρ s;refine⟨d,ρ2,z1,z2, ?_⟩
     cases q:g xs[k] (ys xs[k])[j]with
     |none=>rw[q]at z4;exact .inl ⟨hh,z4,rfl,z3,rfl⟩
     |some v=>rw[q]at z4;exact .inr ⟨hh,z4.1,λacc hl=>⟨ρ2,hh,EW z4.2 hl,z3,rfl⟩⟩) (ys xs[k]).length 0 ρ1 h acc (by omega) ⟨s1,rfl⟩ (by rw[List.drop_zero,fm];exact hl)
   refine⟨ρ3,h3, ?_,sS ρ3 s3,rfl⟩;unfold kG;rw[e3];dsimp only;rw[e4,r,List.drop_zero,fm]) hl
 exact h
theorem z1n {c:M Bool}{b:MS}{f:Nat}{ρ:Ev}{h h1:Hs}(e:c ρ h=.ok false h1):iI c b (f+1) ρ h=.nx ρ h1:=by show(c ρ h).thenS _=_;rw[e];rfl
theorem NS {c:M Bool}{b:MS}{f:Nat}{ρ ρ2:Ev}{h h1 h2:Hs}(e:c ρ h=.ok true h1) (q:b ρ h1=.nx ρ2 h2):iI c b (f+1) ρ h=iI c b f ρ2 h2:=by show(c ρ h).thenS _=_;rw[e];simp[Rs.thenS,q]
theorem z1o {c:M Bool}{b:MS}{f:Nat}{ρ:Ev}{d:Dv}{h h1 h2:Hs}(e:c ρ h=.ok true h1) (q:b ρ h1=.rt d h2):iI c b (f+1) ρ h=.rt d h2:=by show(c ρ h).thenS _=_;rw[e];simp[Rs.thenS,q]
theorem yW:∀bs:List Bool,bJ oE (bs.map Dv.bl)=some bs
 | []=>rfl
 |b::bs=>by rw[dk,bJ,yW bs];rfl
end L2.Mr
namespace L2.Mr.Com
open PySem PySem.Spec PyProof.Rows L2 L2.Mr
def aM (n:Nat) (ps:List (Int×Int)):Dv:=.tup [.int n,.tup (ps.map aH)]
theorem NT {n:Nat}{ps:List (Int×Int)}(H:Hs):aQ (aM n ps) (.int 0) H=.ok (.int n) H:=rfl
theorem yX {n:Nat}{ps:List (Int×Int)}(H:Hs):aQ (aM n ps) (.int 1) H=.ok (.tup (ps.map aH)) H:=rfl
theorem qB {α:Type}{ml:M (List Dv)}{ρ:Ev}{H H1:Hs}{xs:List α}{f:α->Bool}(h:ml ρ H=.ok (xs.filterMap λx=>some (.bl (f x))) H1):mL iO ml ρ H=.ok (.bl (xs.all f)) H1:=by
 have e:(xs.filterMap λx=>some (Dv.bl (f x)))=(xs.map f).map Dv.bl:=by simp
 unfold mL;rw[h,Rs.bind_ok,e];unfold iO;rw[yW];simp[List.all_map]
theorem z1p {α:Type}{ml:M (List Dv)}{ρ:Ev}{H H1:Hs}{xs:List α}{f:α->Bool}(h:ml ρ H=.ok (xs.filterMap λx=>some (.bl (f x))) H1):mL tL ml ρ H=.ok (.bl (xs.any f)) H1:=by
 have e:(xs.filterMap λx=>some (Dv.bl (f x)))=(xs.map f).map Dv.bl:=by simp
 unfold mL;rw[h,Rs.bind_ok,e];unfold tL;rw[yW];simp[By]
section
variable{H:Hs}{n x:Int}{ps:List (Int×Int)}
theorem NU:F_q2 [.int x] H=.ok (.bl true) H:=by simp[F_q2,DE,aT,bR,aO,cZ,m1,aA,bD,hX,pR,kM,nY,aW]
theorem EX {lo hi:Int}:F_qq [.int x,.int lo,.int hi] H=.ok (.bl (decide (lo<=x)&&decide (x<=hi))) H:=by
 by_cases h:lo<=x
 ·simp[F_qq,xS,aT,bR,aO,cZ,aE,aB,aA,aC,NU,qO,rA,iE,h,aW]
 ·simp[F_qq,xS,aT,bR,aO,cZ,aE,aB,aA,aC,NU,qO,rA,iE,h,aW]
def eK (n x:Int):Bool:=decide (0<=x)&&decide (x<=n - 1)
theorem z1q:F_q1 [.int n,.int x] H=.ok (.bl (eK n x)) H:=by simp[F_q1,DF,aT,bR,aO,aE,aB,aA,aC,mC,m2,gF,iE,EX,aW,eK]
theorem z1r {xs:List Int}(hl:xs.length<=1000):F_qp [.int n,.tup (xs.map Dv.int)] H=.ok (.bl (xs.all (eK n))) H:=by have h:bU (bS eV (aA 1)) [none,some 0] (aF 0) dO (bN (aE F_q1 (aB (aA 1) (aB (aA 0) aC)))) [some (.int n),some (.tup (xs.map Dv.int))] H=.ok (xs.filterMap λx=>some (.bl (eK n x))) H:=gU xs (λx=>some (.bl (eK n x))) (λρ=>∃a,ρ=[a,some (.int n)]) rfl (by simp[cT]) ⟨_,rfl⟩ rfl (λk hk ρ ⟨a,e⟩=>by subst e;exact⟨.int xs[k],_,by simp[cT,hk],rfl,⟨_,rfl⟩,rfl,by simp[aE,aB,aA,aC,z1q]⟩) (by omega);simp[F_qp,xT,aT,bR,aO,cZ,m1,bD,aA,hX,fR,qB h,aW]
def lT (n:Int) (p:Int×Int):Bool:=eK n p.1&&eK n p.2
theorem z1s (p:Int×Int):F_q4 [.int n,aH p] H=.ok (.bl (lT n p)) H:=by
 have h:F_qp [.int n,aH p] H=.ok (.bl (lT n p)) H:=by have:=z1r (H:=H) (n:=n) (xs:=[p.1,p.2]) (by simp);simpa[aH,lT]using this
 have hlen:f1 cD [aH p] H=.ok (.int 2) H:=rfl
 cases q:lT n p with
 |false=>simp[F_q4,rM,aT,bR,aO,cZ,aE,aB,aA,aC,h,q,aW]
 |true=>simp[F_q4,rM,aT,bR,aO,cZ,aE,aB,aA,aC,h,q,aW,m2,hlen,mC,bL,bW,bF,bI]
theorem z1t (hl:ps.length<=1000):F_qw [.int n,.tup (ps.map aH)] H=.ok (.bl (ps.all (lT n))) H:=by have h:bU (bS eV (aA 1)) [none,some 0] (aF 0) dO (bN (aE F_q4 (aB (aA 1) (aB (aA 0) aC)))) [some (.int n),some (.tup (ps.map aH))] H=.ok (ps.filterMap λp=>some (.bl (lT n p))) H:=gU ps (λp=>some (.bl (lT n p))) (λρ=>∃a,ρ=[a,some (.int n)]) rfl (by simp[cT]) ⟨_,rfl⟩ rfl (λk hk ρ ⟨a,e⟩=>by subst e;exact⟨aH ps[k],_,by simp[cT,hk],rfl,⟨_,rfl⟩,rfl,by simp[aE,aB,aA,aC,z1s]⟩) (by omega);simp[F_qw,DG,aT,bR,aO,qB h,aW]
theorem z1u (hl:ps.length<=1000):F_qx [.tup (ps.map aH)] H=.ok (.bl (ps.any λp=>decide (p.1=p.2))) H:=by have h:bU (bS eV (aA 0)) [none,none] (cL 2 (bH (aF 0) (bH (aF 1) cM))) dO (bN (m2 bL (aA 0) (aA 1))) [some (.tup (ps.map aH))] H=.ok (ps.filterMap λp=>some (.bl (decide (p.1=p.2)))) H:=gU ps (λp=>some (.bl (decide (p.1=p.2)))) (λρ=>∃a b,ρ=[a,b]) rfl (by simp[cT]) ⟨_,_,rfl⟩ rfl (λk hk ρ ⟨a,b,e⟩=>by subst e;refine⟨aH ps[k],[some (.int ps[k].1),some (.int ps[k].2)],by simp[cT,hk],rfl,⟨_,_,rfl⟩,rfl, ?_⟩;simp[m2,aA,bL,bW,bF,bI];rw[dh];simp) (by omega);simp[F_qx,MT,aT,bR,aO,z1p h,aW]
theorem z1v (p q:Int×Int):fJ (aH p) (aH q) H=.ok (.bl (eF p q)) H:=by simp only[fJ,aH,bJ,eR,MK];rw[<-uD];rfl
def lU (ps:List (Int×Int)):Bool:=(ps.zip (ps.drop 1)).all λq=>eF q.1 q.2
theorem rising_of:∀{ps:List (Int×Int)},lU ps=true↔fH eF ps
 | []=>by simp[lU,fH]
 | [p]=>by simp[lU,fH]
 |p::q::r=>by
  have ih:=rising_of (ps:=q::r);have e:lU (p::q::r)=(eF p q&&lU (q::r)):=by simp[lU]
  rw[e,cw,ih];constructor
  ·rintro ⟨h1,h2⟩
   refine ed.mpr ⟨λz hz=>?_,h2⟩
   rcases ay.mp hz with rfl|hz
   ·exact h1
   ·exact stoP.tr _ _ _ h1 ((ed.mp h2).1 z hz)
  ·intro h;have:=ed.mp h;exact⟨this.1 q (by simp),this.2⟩
theorem z1w (ds:List Dv):jV ds (some 1) none=ds.drop 1:=by
 unfold jV;rw[show HT.sIx ds.length 0 (some 1)=min 1 ds.length from HT.sIx_nat ds.length 0 1,HT.sIx_none]
 cases ds with
 |nil=>rfl
 |cons a r=>simp
theorem z1x (hl:ps.length<=1000):F_qy [.tup (ps.map aH)] H=.ok (.bl (lU ps)) H:=by
 have hi:aS oG (aB (aA 0) (aB (gH (aA 0) (eZ (mC (.int 1))) gE) aC)) [some (.tup (ps.map aH))] H=.ok (oF (ps.map aH) ((ps.drop 1).map aH)) H:=by simp[aS,aB,aA,gH,eZ,mC,qZ,gE,pW,aC,oG,z1w,wj]
 have hz:((ps.map aH).zip ((ps.drop 1).map aH)).map (λq=>Dv.tup [q.1,q.2])=(ps.zip (ps.drop 1)).map λq=>Dv.tup [aH q.1,aH q.2]:=by rw[List.zip_map,nr];rfl
 have h:bU (aS oG (aB (aA 0) (aB (gH (aA 0) (eZ (mC (.int 1))) gE) aC))) [none,none] (cL 2 (bH (aF 0) (bH (aF 1) cM))) dO (bN (m2 fJ (aA 0) (aA 1))) [some (.tup (ps.map aH))] H=.ok ((ps.zip (ps.drop 1)).filterMap λq=>some (.bl (eF q.1 q.2))) H:=
  gU (ps.zip (ps.drop 1)) (λq=>some (.bl (eF q.1 q.2))) (λρ=>∃a b,ρ=[a,b]) hi (by simp[oF,cT]) ⟨_,_,rfl⟩ rfl (λk hk ρ ⟨a,b,e⟩=>by
   subst e;refine⟨.tup [aH (ps.zip (ps.drop 1))[k].1,aH (ps.zip (ps.drop 1))[k].2],[some (aH (ps.zip (ps.drop 1))[k].1),some (aH (ps.zip (ps.drop 1))[k].2)], ?_,rfl,⟨_,_,rfl⟩,rfl, ?_⟩
   ·show(((ps.map aH).zip ((ps.drop 1).map aH)).map (λq=>Dv.tup [q.1,q.2]))[k]?=_;rw[hz,fe,bg hk];rfl
   ·simp only[m2,aA];exact z1v _ _) (by rw[List.length_zip];omega)
 simp[F_qy,MR,aT,bR,aO,qB h,aW,lU]
def uT (ps:List (Int×Int)):Bool:=ps.all λp=>ps.all λq=>!decide (p.2=q.1)||decide ((p.1,q.2)∈ps)
theorem z1y (hl:ps.length<=900):F_qj [.tup (ps.map aH)] H=.ok (.bl (uT ps)) H:=by
 let g:Int×Int->Int×Int->Option Dv:=λp q=>if p.2=q.1 then some (.bl (decide ((p.1,q.2)∈ps)))else none
 have h:bU (bS eV (aA 0)) [none,none,none,none,some 0] (cL 2 (bH (aF 0) (bH (aF 1) cM))) dO (kG (bS eV (aA 4)) (cL 2 (bH (aF 2) (bH (aF 3) cM))) (mB (m2 bL (aA 1) (aA 2))) (bN (m2 (eM false) (aL (aB (aA 0) (aB (aA 3) aC))) (aA 4)))) [some (.tup (ps.map aH))] H=.ok (ps.flatMap λp=>ps.filterMap (g p)) H:=
  NR ps (λ_=>ps) g (λρ=>∃a b c d,ρ=[a,b,c,d,some (.tup (ps.map aH))]) rfl (by simp[cT]) ⟨_,_,_,_,rfl⟩ rfl (λk hk ρ ⟨a,b,c,d,e⟩=>by
   subst e;refine⟨aH ps[k],[some (.int ps[k].1),some (.int ps[k].2),c,d,some (.tup (ps.map aH))],cT (ps.map aH),λρ=>∃c d,ρ=[some (.int ps[k].1),some (.int ps[k].2),c,d,some (.tup (ps.map aH))],by simp[cT,hk],rfl,⟨_,_,rfl⟩,λρ ⟨c,d,e⟩=>⟨_,_,_,_,e⟩,rfl,by simp[cT],rfl,λj hj ρ ⟨c,d,e⟩=>?_⟩;subst e;refine⟨aH ps[j],[some (.int ps[k].1),some (.int ps[k].2),some (.int ps[j].1),some (.int ps[j].2),some (.tup (ps.map aH))],by simp[cT,hj],rfl,⟨_,_,rfl⟩, ?_⟩;have te:mB (m2 bL (aA 1) (aA 2)) [some (.int ps[k].1),some (.int ps[k].2),some (.int ps[j].1),some (.int ps[j].2),some (.tup (ps.map aH))] H=.ok (decide (ps[k].2=ps[j].1)) H:=by simp[mB,m2,aA,bL,bW,bF,bI,dI];rw[dh];simp
   by_cases c1:ps[k].2=ps[j].1
   ·rw[decide_eq_true c1]at te;have hg:g ps[k] ps[j]=some (.bl (decide ((ps[k].1,ps[j].2)∈ps))):=if_pos c1;rw[hg];refine⟨te, ?_⟩;have hx:aL (aB (aA 0) (aB (aA 3) aC)) [some (.int ps[k].1),some (.int ps[k].2),some (.int ps[j].1),some (.int ps[j].2),some (.tup (ps.map aH))] H=.ok (aH (ps[k].1,ps[j].2)) H:=rfl;unfold m2;rw[hx,Rs.bind_ok];show(Rs.ok (Dv.tup (ps.map aH)) H).bind _=_;rw[Rs.bind_ok,mX];rfl
   ·rw[decide_eq_false c1]at te;have hg:g ps[k] ps[j]=none:=if_neg c1;rw[hg];exact te) (by
   have:∀l:List (Int×Int),(l.flatMap λp=>ps.filterMap (g p)).length<=l.length*ps.length:=λl=>by
    induction l with
    |nil=>simp
    |cons p l ih=>rw[kd,bu,dj,xj];have:=oi (g p) ps;omega
   have h2:=this ps;have h3:ps.length*ps.length<=900*900:=nj hl hl;omega)
 have hb:(ps.flatMap λp=>ps.filterMap (g p))=(ps.flatMap λp=>ps.filterMap λq=>if p.2=q.1 then some (decide ((p.1,q.2)∈ps))else none).map Dv.bl:=by
  rw[List.map_flatMap]
  congr 1
  funext p
  rw[List.map_filterMap]
  congr 1
  funext q
  show(if p.2=q.1 then some (Dv.bl (decide ((p.1,q.2)∈ps)))else none)=_
  split <;> rfl
 have hall:mL iO (bU (bS eV (aA 0)) [none,none,none,none,some 0] (cL 2 (bH (aF 0) (bH (aF 1) cM))) dO (kG (bS eV (aA 4)) (cL 2 (bH (aF 2) (bH (aF 3) cM))) (mB (m2 bL (aA 1) (aA 2))) (bN (m2 (eM false) (aL (aB (aA 0) (aB (aA 3) aC))) (aA 4))))) [some (.tup (ps.map aH))] H=.ok (.bl (uT ps)) H:=by
  unfold mL;rw[h,Rs.bind_ok,hb];unfold iO;rw[yW];dsimp only
  congr 2
  rw[dh];unfold uT;simp only[fj,xv,jw,id];constructor
  ·intro h p hp q hq
   by_cases c:p.2=q.1
   ·have:=h (decide ((p.1,q.2)∈ps)) ⟨p,hp,q,hq,if_pos c⟩;simp[c,this]
   ·simp[c]
  ·rintro h b ⟨p,hp,q,hq,e⟩
   have:=h p hp q hq
   by_cases c:p.2=q.1
   ·rw[if_pos c]at e;cases e;simpa[c]using this
   ·rw[if_neg c]at e;cases e
 simp[F_qj,MU,aT,bR,aO,hall,aW]
def rR (n:Int) (ps:List (Int×Int)):Bool:=decide (1<=n)&&decide (n<=6)&&ps.all (lT n)&&lU ps&&!(ps.any λp=>decide (p.1=p.2))&&uT ps
theorem NV {n:Int}(hl:ps.length<=900):F_q0 [.tup [.int n,.tup (ps.map aH)]] H=.ok (.bl (rR n ps)) H:=by
 have b:=EX (H:=H) (x:=n) (lo:=1) (hi:=6);have p1:=z1t (H:=H) (n:=n) (ps:=ps) (by omega);have p2:=z1x (H:=H) (ps:=ps) (by omega);have p3:=z1u (H:=H) (ps:=ps) (by omega);have p4:=z1y (H:=H) (ps:=ps) hl;have hlen:f1 cD [.tup [.int n,.tup (ps.map aH)]] H=.ok (.int 2) H:=rfl;unfold rR;generalize (decide (1<=n)&&decide (n<=6))=c0 at b ⊢;generalize ps.all (lT n)=c1 at p1 ⊢;generalize lU ps=c2 at p2 ⊢;generalize (ps.any λp=>decide (p.1=p.2))=c3 at p3 ⊢;generalize uT ps=c4 at p4 ⊢
 cases c0 <;> cases c1 <;> cases c2 <;> cases c3 <;> cases c4 <;>
  simp[F_q0,pY,aT,bR,aI,aX,dQ,cB,bC,m1,bD,aA,hX,fR,eJ,mB,m2,aE,aB,aC,hlen,mC,bQ,bW,bF,bI,dI,bG,aK,cL,bH,aF,cM,b,p1,p2,p3,p4,aO,cZ,nY,aW]
end
structure OrdP (n:Nat) (ps:List (Int×Int)):Prop where
 n1:1<=n
 n6:n<=6
 rng:∀p∈ps,0<=p.1/\p.1<n/\0<=p.2/\p.2<n
 rise:fH eF ps
 irr:∀p∈ps,p.1≠p.2
 tr:∀p∈ps,∀q∈ps,p.2=q.1->(p.1,q.2)∈ps
section
variable{n:Nat}{ps:List (Int×Int)}{H:Hs}
def EY (n:Nat):List (Int×Int):=(bf n).flatMap λa:Nat=>(bf n).map λb:Nat=>((a:Int),(b:Int))
theorem z1z (n:Nat):(EY n).length=n*n:=by
 unfold EY;have:∀l:List Nat,(l.flatMap λa:Nat=>(bf n).map λb:Nat=>((a:Int),(b:Int))).length=l.length*n:=λl=>by
  induction l with
  |nil=>simp
  |cons a l ih=>rw[kd,bu,ih,dj,xj];simp;omega
 rw[this];simp
theorem z20 {p:Int×Int}(h:0<=p.1/\p.1<n/\0<=p.2/\p.2<n):p∈EY n:=by obtain⟨a,b⟩:=p;simp only at h;refine xv.mpr ⟨a.toNat,br.mpr (by omega),de.mpr ⟨b.toNat,br.mpr (by omega), ?_⟩⟩;simp;omega
theorem uU (hr:fH eF ps) (hp:∀p∈ps,0<=p.1/\p.1<n/\0<=p.2/\p.2<n):ps.length<=n*n:=by rw[<-z1z n];exact(uC stoP hr).length_le_of_subset λp h=>z20 (hp p h)
theorem OrdP.len (o:OrdP n ps):ps.length<=36:=by have h1:=uU o.rise o.rng;have h2:n*n<=6*6:=nj o.n6 o.n6;omega
theorem OrdP.b (o:OrdP n ps):rR n ps=true:=by
 have h1:=o.n1;have h6:=o.n6;unfold rR;simp only[cw,decide_eq_true_eq,Bool.not_eq_true'];refine⟨⟨⟨⟨⟨by omega,by omega⟩, ?_⟩,rising_of.mpr o.rise⟩, ?_⟩, ?_⟩
 ·refine fj.mpr λp hp=>?_;have:=o.rng p hp;simp[lT,eK];omega
 ·refine List.any_eq_false.mpr λp hp=>?_;simpa using o.irr p hp
 ·refine fj.mpr λp hp=>fj.mpr λq hq=>?_
  by_cases c:p.2=q.1
  ·simp[c,o.tr p hp q hq c]
  ·simp[c]
theorem z21 (o:OrdP n ps):F_q0 [aM n ps] H=.ok (.bl true) H:=by have:=NV (H:=H) (n:=(n:Int)) (ps:=ps) (by have:=o.len;omega);rw[o.b]at this;exact this
end
theorem z22 (H:Hs) (n:Nat) (a:Int) (b:Bool) (m:Int) (h0:0<m) (h1:m<18446744073709551616) (e:getL H n=some [.int a,.bl b]):
  ∃r a',0<=r/\r<m/\F_qu [.ref n,.int m] H=.ok (.int r) (H.set n (.lst [.int a',.bl b])):=by
 cases b with
 |true=>refine⟨a % m,a / m,Int.emod_nonneg _ (by omega),Int.emod_lt_of_pos _ h0, ?_⟩;simp[F_qu,DH,aT,bR,aI,aX,bC,m2,aA,mC,aQ,fF,gD,e,jU,gC,dX,eJ,aK,lI,kX,qR,h0,aF,tM,tX,tW,h1,iP,aO,aW]
 |false=>
  have q1:∀ys,getL (H.set n (.lst ys)) n=some ys:=λys=>kP e;generalize hs:(a*48271+29) % 2147483647=s;have s0:0<=s:=by omega
  have s1:s<2147483647:=by omega
  generalize ht:(s*s+39373*s+7) % 2147483629=t;have t0:0<=t:=by omega
  have t1:t<2147483629:=by omega
  generalize hu:(t*t+16807*t) % 2147483587=u;refine⟨u / 8 % m,s,Int.emod_nonneg _ (by omega),Int.emod_lt_of_pos _ h0, ?_⟩;have w1:kY s=true:=by simp[kY];omega
  have w2:kY t=true:=by simp[kY];omega
  have w3:kY 48271=true:=by decide
  have w4:kY 39373=true:=by decide
  have w5:kY 16807=true:=by decide
  simp[F_qu,DH,aT,bR,aI,aX,bC,m2,aA,mC,aQ,fF,gD,e,jU,gC,dX,eJ,aK,lI,kX,qR,h0,aF,tM,tX,tW,h1,iP,aO,aW,bG,bA,kZ,pQ,wG,w1,w2,w3,w4,w5,q1,hs,ht,hu]
def St (n:Nat) (H:Hs):Prop:=∃a b,getL H n=some [.int a,.bl b]
theorem St.fr {n:Nat}{S:List Nat}{H H':Hs}(s:St n H) (f:Fr S H H') (h:n∉S):St n H':=let ⟨a,b,e⟩:=s;⟨a,b,f.getL e h⟩
theorem jO {H:Hs}{n:Nat}(m:Int) (s:St n H) (h0:0<m:=by decide) (h1:m<18446744073709551616:=by decide):
  ∃r H',0<=r/\r<m/\F_qu [.ref n,.int m] H=.ok (.int r) H'/\Fr [n] H H'/\St n H':=by
 obtain⟨a,b,e⟩:=s;obtain⟨r,a',r0,r1,ht⟩:=z22 H n a b m h0 h1 e;exact⟨r,_,r0,r1,ht,Fr.set,a',b,kP e⟩
theorem z23 (scr:List Int) (k:Nat) (h:Hs):∃H',F_qn scr [.scr,.int k] h=.ok (.ref h.length) H'/\Fr [] h H'/\St h.length H':=by
 have cell:∃c,F_qf scr [.scr,.int k] h=.ok (.int c) h:=by
  by_cases hk:k<scr.length
  ·refine⟨scr[k], ?_⟩;have hk':(k:Int)<scr.length:=by omega
   simp[F_qf,xU,aT,bR,aI,aX,mB,m2,aA,mC,fJ,aE,f1,iF,fX,aB,aC,dI,hk',hk,gD,jU,gC,dX,aO,aW]
  ·refine⟨0, ?_⟩;have hk':¬ (k:Int)<scr.length:=by omega
   simp[F_qf,xU,aT,bR,aI,aX,mB,m2,aA,mC,fJ,aE,f1,iF,fX,aB,aC,dI,hk',hk,gD,jU,gC,dX,aO,aW,bG]
 obtain⟨c,hc⟩:=cell;have fin:∀a b,Fr [] h (h++[Ob.lst [.int a,.bl b]])/\St h.length (h++[Ob.lst [.int a,.bl b]]):=λa b=>⟨Fr.app,a,b,by rw[YA];rfl⟩
 by_cases hg:c>=1000000000000000000
 ·refine⟨_, ?_,fin (c - 1000000000000000000) true⟩;simp[F_qn,xV,aT,bR,aI,aK,aE,aB,aA,aC,hc,aF,aX,mB,m2,xA,iE,oJ,kX,tG,mC,dI,hg,aO,aR,gF,lim,aW]
 ·refine⟨_, ?_,fin (c % 2147483647) false⟩;simp[F_qn,xV,aT,bR,aI,aK,aE,aB,aA,aC,hc,aF,aX,mB,m2,xA,iE,oJ,kX,tG,mC,dI,hg,aO,aR,gF,lim,aW,bG,lI,qR]
theorem St.lt {st:Nat}{H:Hs}(s:St st H):st<H.length:=let ⟨_,_,e⟩:=s;lL e
theorem z24 {H:Hs}{q:Nat}{ks:List Int}(e:getL H q=some (ks.map Dv.int)):bQ (.ref q) (.ref H.length) (H++[.lst []])=.ok (.bl (!ks.isEmpty)) (H++[.lst []]):=by
 have p1:bF bW (H++[.lst []]) (.ref q)=some (.lst (ks.map Dt.int)):=by show bF (28+1+1) (H++[.lst []]) (.ref q)=_;rw[bF];simp only[jK (l:=[.lst []]) e,rH]
 have p2:bF bW (H++[.lst []]) (.ref H.length)=some (.lst []):=by
  show bF (28+1+1) (H++[.lst []]) (.ref H.length)=_;rw[bF];have:getL (H++[.lst []]) H.length=some []:=by simp[getL]
  simp only[this];rfl
 unfold bQ;rw[p1,p2]
 cases ks <;> simp[bI,eU]
def yY:M Bool:=mB (m2 bQ (aA 2) (aR aC))
def yZ:MS:=cS (kK (aA 3) (tR (aA 2) (aE F_qu (aB (aA 0) (aB (aE (f1 cD) (aB (aA 2) aC)) aC)))))
theorem z25:DI=aI (aK (aE (f1 gG) (aB (aA 1) aC)) (aF 2)) (aI (aK (aR aC) (aF 3)) (aI (iI yY yZ 40) (aO (aA 3)))):=rfl
section
variable{st a b:Nat}{d:Dv}
theorem NW (hab:a≠b) (has:a≠st) (hbs:b≠st):∀(f:Nat) (ls fs:List Int) (H:Hs),ls.length<f->ls.length+fs.length<=100->getL H a=some (ls.map Dv.int)->getL H b=some (fs.map Dv.int)->St st H->
  ∃(H':Hs) (ys:List Int),iI yY yZ f [some (.ref st),some d,some (.ref a),some (.ref b)] H=.nx [some (.ref st),some d,some (.ref a),some (.ref b)] H'/\getL H' b=some (ys.map Dv.int)/\ys.Perm (fs++ls)/\St st H'/\Fr [st,a,b] H H'
 |0,ls,fs,H,h,_,_,_,_=>by omega
 |f+1,ls,fs,H,h,hl,ea,eb,s=>by
  have tc:yY [some (.ref st),some d,some (.ref a),some (.ref b)] H=.ok (!ls.isEmpty) (H++[.lst []]):=by simp[yY,mB,m2,aA,aR,aC,lim,z24 ea,dI]
  have ea1:=jK (l:=[Ob.lst []]) ea;have eb1:=jK (l:=[Ob.lst []]) eb;have g1:Fr [st,a,b] H (H++[Ob.lst []]):=Fr.app;have s1:=s.fr (Fr.app (S:=[]) (l:=[Ob.lst []])) (by simp);generalize H++[Ob.lst []]=H1 at tc ea1 eb1 g1 s1
  cases hls:ls with
  |nil=>subst hls;refine⟨H1,fs, ?_,eb1,by simp,s1,g1⟩;exact z1n tc
  |cons x r=>
   have hne:ls.isEmpty=false:=by rw[hls];rfl
   have hpos:(0:Int)<ls.length:=by rw[hls];simp
   obtain⟨k,H2,k0,k1,ht,f2,s2⟩:=jO (ls.length:Int) s1 hpos (by omega);have ea2:=f2.getL ea1 (by simpa using has);have eb2:=f2.getL eb1 (by simpa using hbs);have hk:k.toNat<ls.length:=by omega
   have ixk:dX (ls.map Dv.int).length k=some k.toNat:=by unfold dX;rw[if_pos k0,bj,if_pos k1]
   have getk:(ls.map Dv.int)[k.toNat]?=some (.int ls[k.toNat]):=by simp[hk]
   have hlen:f1 cD [.ref a] H1=.ok (.int ls.length) H1:=by show(if fF (.ref a)=true then iF [] (.ref a) H1 else .bad)=_;simp[fF,iF,fX,ea1]
   have hz:(ls.map Dv.int).length<=1000000:=by rw[bj];omega
   have pop:wZ (.ref a) (.int k) H2=.ok (.int ls[k.toNat]) (H2.set a (.lst ((ls.eraseIdx k.toNat).map Dv.int))):=by
    simp only[wZ,ea2,ixk,getk,hz,if_true];have em:(ls.map Dv.int).eraseIdx k.toNat=(ls.eraseIdx k.toNat).map Dv.int:=by rw[xk,xk,jz,Bp,wj]
    rw[em]
   have eb3:getL (H2.set a (.lst ((ls.eraseIdx k.toNat).map Dv.int))) b=some (fs.map Dv.int):=by rw[rG hab];exact eb2
   have ea3:getL (H2.set a (.lst ((ls.eraseIdx k.toNat).map Dv.int))) a=some ((ls.eraseIdx k.toNat).map Dv.int):=kP ea2;have f3:Fr [st,a,b] H2 (H2.set a (.lst ((ls.eraseIdx k.toNat).map Dv.int))):=Fr.set.mono (by simp);have s3:St st (H2.set a (.lst ((ls.eraseIdx k.toNat).map Dv.int))):=s2.fr Fr.set (by simpa using cy has);generalize hH3:H2.set a (.lst ((ls.eraseIdx k.toNat).map Dv.int))=H3 at pop eb3 ea3 f3 s3;have hfl:(fs.map Dv.int).length<1000000:=by rw[bj];omega
   have body:yZ [some (.ref st),some d,some (.ref a),some (.ref b)] H1=.nx [some (.ref st),some d,some (.ref a),some (.ref b)] (H3.set b (.lst ((fs++[ls[k.toNat]]).map Dv.int))):=by
    have isA:jF (.ref a) H1=true:=by simp[jF,ea1]
    have isB:jF (.ref b) H1=true:=by simp[jF,eb1]
    have hpop:tR (aA 2) (aE F_qu (aB (aA 0) (aB (aE (f1 cD) (aB (aA 2) aC)) aC))) [some (.ref st),some d,some (.ref a),some (.ref b)] H1=.ok (.int ls[k.toNat]) H3:=by simp[tR,aA,isA,aE,aB,aC,hlen,ht,pop]
    have happ:pO (.ref b) (.int ls[k.toNat]) H3=.ok .non (H3.set b (.lst ((fs++[ls[k.toNat]]).map Dv.int))):=by simp only[pO,eb3,hfl,if_true,jz];rfl
    simp[yZ,cS,kK,aA,isB,hpop,happ]
   have hlen2:(ls.eraseIdx k.toNat).length=ls.length - 1:=zv hk;obtain⟨H',ys,w,e',pm,s',f'⟩:=NW hab has hbs f (ls.eraseIdx k.toNat) (fs++[ls[k.toNat]]) (H3.set b (.lst ((fs++[ls[k.toNat]]).map Dv.int))) (by omega) (by rw[bu];simp;omega) (by rw[rG (cy hab)];exact ea3) (kP eb3) (s3.fr Fr.set (by simpa using cy hbs));refine⟨H',ys, ?_,e', ?_,s', ?_⟩
   ·rw[hne]at tc;rw[NS tc body];exact w
   ·rw[<-hls];refine pm.trans ?_;rw[sr];refine zw fs ?_;have:=SR.erase_perm ls k.toNat hk;simpa using this
   ·exact(((g1.trans f2 (by simp)).trans f3 (by simp)).trans (T:=[b]) Fr.set (by simp)).trans f' (by simp)
theorem z26 {H:Hs}{j:Nat}{xs:List Int}(s:St st H) (e:getL H j=some (xs.map Dv.int)) (hl:xs.length<=20):∃(i:Nat) (ys:List Int) (H':Hs),F_qb [.ref st,.ref j] H=.ok (.ref i) H'/\getL H' i=some (ys.map Dv.int)/\ys.Perm xs/\H.length<=i/\St st H'/\Fr [st] H H':=by
 have lt:=s.lt;have w0:aK (aE (f1 gG) (aB (aA 1) aC)) (aF 2) [some (.ref st),some (.ref j),none,none] H=.nx [some (.ref st),some (.ref j),some (.ref H.length),none] (H++[.lst (xs.map Dv.int)]):=by simp[aK,aE,f1,gG,fF,pL,fX,aB,aA,aC,e,aF]
 have w1:aK (aR aC) (aF 3) [some (.ref st),some (.ref j),some (.ref H.length),none] (H++[.lst (xs.map Dv.int)])=.nx [some (.ref st),some (.ref j),some (.ref H.length),some (.ref (H.length+1))] (H++[.lst (xs.map Dv.int)]++[.lst []]):=by simp[aK,aR,aC,lim,aF]
 have ea:getL (H++[.lst (xs.map Dv.int)]++[.lst []]) H.length=some (xs.map Dv.int):=jK (by simp[getL]);have eb:getL (H++[.lst (xs.map Dv.int)]++[.lst []]) (H.length+1)=some (([]:List Int).map Dv.int):=by simp[getL]
 have f0:Fr [st] H (H++[.lst (xs.map Dv.int)]++[.lst []]):=Fr.trans (T:=[]) Fr.app Fr.app (by simp);have s0:St st (H++[.lst (xs.map Dv.int)]++[.lst []]):=(s.fr (Fr.app (S:=[]) (l:=[.lst (xs.map Dv.int)])) (by simp)).fr (Fr.app (S:=[])) (by simp);obtain⟨H',ys,w2,e2,pm,s2,f2⟩:=NW (st:=st) (a:=H.length) (b:=H.length+1) (d:=.ref j) (by omega) (by omega) (by omega) 40 xs [] _ (by omega) (by simp;omega) ea eb s0;refine⟨H.length+1,ys,H', ?_,e2,by simpa using pm,by omega,s2,f0.trans f2 (by simp)⟩;show aW (DI [some (.ref st),some (.ref j),none,none] H)=_;rw[z25,bE w0,bE w1,bE w2];rfl
end
def eG (ps:List (Int×Int)) (p:Int×Int):List (Int×Int):=(ps.filter λq=>decide (p.2=q.1)).map λq=>(p.1,q.2)
def dW (ps:List (Int×Int)):List (Int×Int):=dU eF (ps++ps.flatMap (eG ps))
def uV:Nat->List (Int×Int)->Option (List (Int×Int))
 |0,_=>none
 |f+1,ps=>if dW ps=ps then some ps else uV f (dW ps)
def nJ (n:Nat) (ps:List (Int×Int)):Prop:=∀p∈ps,0<=p.1/\p.1<n/\0<=p.2/\p.2<n
def Tr (ps:List (Int×Int)):Prop:=∀p∈ps,∀q∈ps,p.2=q.1->(p.1,q.2)∈ps
theorem z27 {ps:List (Int×Int)}{p r:Int×Int}:r∈eG ps p↔∃q∈ps,p.2=q.1/\r=(p.1,q.2):=by
 simp only[eG,de,gw,decide_eq_true_eq];constructor
 ·rintro ⟨q,⟨h1,h2⟩,h3⟩;exact⟨q,h1,h2,h3.symm⟩
 ·rintro ⟨q,h1,h2,h3⟩;exact⟨q,⟨h1,h2⟩,h3.symm⟩
theorem step_mem {ps:List (Int×Int)}{r:Int×Int}:r∈dW ps↔r∈ps∨∃p∈ps,∃q∈ps,p.2=q.1/\r=(p.1,q.2):=by unfold dW;rw[mZ stoP,cg,xv];simp only[z27]
theorem EZ {n:Nat}{ps:List (Int×Int)}(h:nJ n ps):nJ n (dW ps):=λr hr=>by
 rcases step_mem.mp hr with hr|⟨p,hp,q,hq,_,rfl⟩
 ·exact h r hr
 ·exact⟨(h p hp).1,(h p hp).2.1,(h q hq).2.2.1,(h q hq).2.2.2⟩
theorem uW (ps:List (Int×Int)):fH eF (dW ps):=uB stoP _
theorem z28 {ps:List (Int×Int)}(hr:fH eF ps):dW ps=ps↔Tr ps:=by
 constructor
 ·intro h p hp q hq e;rw[<-h];exact step_mem.mpr (.inr ⟨p,hp,q,hq,e,rfl⟩)
 ·intro h;refine CP stoP (uW ps) hr λr=>?_;rw[step_mem];constructor
  ·rintro (hr|⟨p,hp,q,hq,e,rfl⟩)
   ·exact hr
   ·exact h p hp q hq e
  ·exact λh=>.inl h
theorem z29 {ps:List (Int×Int)}(hr:fH eF ps) (hne:dW ps≠ps):ps.length<(dW ps).length:=by
 have nd:=uC stoP hr;have sub:∀r∈ps,r∈dW ps:=λr h=>step_mem.mpr (.inl h);have h1:=nd.length_le_of_subset sub
 rcases ji ps.length (dW ps).length with h|h
 ·exact h
 ·exfalso
  apply hne
  have sub2:∀r∈dW ps,r∈ps:=λr hr'=>by
   by_cases hm:r∈ps
   ·exact hm
   ·exfalso
    have nd2:(r::ps).Nodup:=jm.mpr ⟨hm,nd⟩;have:=nd2.length_le_of_subset (l₂:=dW ps) λx hx=>by
     rcases ay.mp hx with rfl|hx
     ·exact hr'
     ·exact sub x hx
    simp at this;omega
  exact CP stoP (uW ps) hr λr=>⟨sub2 r,sub r⟩
theorem NX {n:Nat}(hn:n<=6):∀(f:Nat) (ps:List (Int×Int)),fH eF ps->nJ n ps->36<f+ps.length->∃cs,uV f ps=some cs/\fH eF cs/\nJ n cs/\Tr cs/\(∀p∈ps,p∈cs)/\∀R:Int->Int->Prop,(∀a b c,R a b->R b c->R a c)->(∀p∈ps,R p.1 p.2)->∀p∈cs,R p.1 p.2
 |0,ps,hr,hi,h=>by have h1:=uU hr hi;have h2:n*n<=6*6:=nj hn hn;omega
 |f+1,ps,hr,hi,h=>by
  unfold uV
  split
  ·rename_i e;exact⟨ps,rfl,hr,hi,(z28 hr).mp e,λp hp=>hp,λR _ h=>h⟩
  ·rename_i e;have:=z29 hr e;obtain⟨cs,h1,h2,h3,h4,h5,h6⟩:=NX hn f (dW ps) (uW ps) (EZ hi) (by omega);refine⟨cs,h1,h2,h3,h4,λp hp=>h5 p (step_mem.mpr (.inl hp)),λR ht hR=>h6 R ht λr hr'=>?_⟩
   rcases step_mem.mp hr' with hr'|⟨p,hp,q,hq,e,rfl⟩
   ·exact hR r hr'
   ·refine ht _ p.2 _ (hR p hp) ?_;rw[e];exact hR q hq
theorem NY {α:Type}{f:α->Dv}{H:Hs}{i k:Nat}{xs:List α}(e:getL H i=some (xs.map f)) (hk:k<xs.length):(cE i xs.length).get k H=some (f xs[k]):=by simp[cE,e,hk]
theorem NZ {α:Type}{f:α->Dv}{H:Hs}{i:Nat}{xs:List α}(e:getL H i=some (xs.map f)):(cE i xs.length).fin H=true:=by simp[cE,e]
theorem N0:∀ps:List (Int×Int),bJ rK (ps.map aH)=some (ps.map jL)
 | []=>rfl
 |p::ps=>by rw[dk,bJ,N0 ps];rfl
theorem z2a (ps:List (Int×Int)):xQ (ps.map jL)=true:=by simp[xQ,jL]
theorem z2b (ps:List (Int×Int)):(ps.map jL).map xP=ps.map aH:=by rw[nr];rfl
section
variable{H:Hs}{ps:List (Int×Int)}{d:Dv}
theorem N1 (h:pX d H=some (ps.map jL)) (hl:(dU eF ps).length<64):lQ d H=.ok (.ref H.length) (H++[.lst ((dU eF ps).map aH)]):=by unfold lQ;rw[h];dsimp only;rw[K9 uD,bj,if_pos (by rw[z2a];simpa using hl),z2b]
theorem z2c {i j:Nat}{ps qs:List (Int×Int)}(ei:getL H i=some (ps.map aH)) (ej:getL H j=some (qs.map aH)):bL (.ref i) (.ref j) H=.ok (.bl (decide (ps=qs))) H:=by
 have p:∀(i:Nat) (ps:List (Int×Int)),getL H i=some (ps.map aH)->bF bW H (.ref i)=some (.lst (ps.map jX)):=λi ps e=>by show bF (27+2+1) H (.ref i)=_;rw[bF];simp only[e,CK]
 have dq:∀ps qs:List (Int×Int),eU (ps.map jX) (qs.map jX)=decide (ps=qs):=λps=>by
  induction ps with
  |nil=>intro qs;cases qs <;> simp[eU]
  |cons p ps ih=>
   intro qs
   cases qs with
   |nil=>simp[eU]
   |cons q qs=>simp only[dk,eU,KS,ih];rw[dh];simp
 unfold bL;rw[p i ps ei,p j qs ej];simp only[bI,dq]
def rS:M (List Dv):=bU (bS dD (aA 1)) [none,none,some 3,some 4] (cL 2 (bH (aF 0) (bH (aF 1) cM))) (mB (m2 bL (aA 3) (aA 0))) (bN (aL (aB (aA 2) (aB (aA 1) aC))))
def rT:MS:=aI (aK (aE (f1 gG) (aB (aA 1) aC)) (aF 2)) (aI (dN (bS dD (aA 1)) (cL 2 (bH (aF 3) (bH (aF 4) cM))) (cS (pP (aA 2) rS))) (aI (aK (aE (f1 lQ) (aB (aA 2) aC)) (aF 2)) (aI (aX (mB (m2 bL (aA 2) (aA 1))) (aO (aA 1)) bG) (aK (aA 2) (aF 1)))))
theorem z2d:iU=aI (aK (aE (f1 lQ) (aB (aA 0) aC)) (aF 1)) (iI (bC (mC (.bl true))) rT 40):=rfl
theorem z2e {x0 x2:Option Dv}{i:Nat}{p:Int×Int}(hl:ps.length<=1000) (e:getL H i=some (ps.map aH)):rS [x0,some (.ref i),x2,some (.int p.1),some (.int p.2)] H=.ok ((eG ps p).map aH) H:=by
 have hi:bS dD (aA 1) [x0,some (.ref i),x2,some (.int p.1),some (.int p.2)] H=.ok (cE i ps.length) H:=by simp[bS,aA,dD,e]
 have h:rS [x0,some (.ref i),x2,some (.int p.1),some (.int p.2)] H=.ok (ps.filterMap λq=>if p.2=q.1 then some (aH (p.1,q.2))else none) H:=
  gU ps (λq=>if p.2=q.1 then some (aH (p.1,q.2))else none) (λρ=>∃a b,ρ=[a,b,some (.int p.1),some (.int p.2)]) hi rfl ⟨_,_,rfl⟩ (by simp[cE,e]) (λk hk ρ ⟨a,b,er⟩=>by
   subst er;refine⟨aH ps[k],[some (.int ps[k].1),some (.int ps[k].2),some (.int p.1),some (.int p.2)],by simp[cE,e,hk],rfl,⟨_,_,rfl⟩, ?_⟩;have te:mB (m2 bL (aA 3) (aA 0)) [some (.int ps[k].1),some (.int ps[k].2),some (.int p.1),some (.int p.2)] H=.ok (decide (p.2=ps[k].1)) H:=by simp[mB,m2,aA,bL,bW,bF,bI,dI];rw[dh];simp
   by_cases c:p.2=ps[k].1
   ·rw[if_pos c];rw[decide_eq_true c]at te;exact⟨te,rfl⟩
   ·rw[if_neg c];rw[decide_eq_false c]at te;exact te) (by omega)
 rw[h]
 congr 1
 unfold eG;rw[nr];have:∀l:List (Int×Int),l.filterMap (λq=>if p.2=q.1 then some (aH (p.1,q.2))else none)=(l.filter λq=>decide (p.2=q.1)).map (aH∘λq=>(p.1,q.2)):=λl=>by
  induction l with
  |nil=>rfl
  |cons q l ih=>
   rw[bz,jt,ih]
   by_cases c:p.2=q.1 <;> simp[c]
 exact this ps
theorem N2 (ps:List (Int×Int)) (p:Int×Int):(eG ps p).length<=ps.length:=by unfold eG;rw[bj];exact md _ _
theorem N3 (ps:List (Int×Int)):∀l:List (Int×Int),(l.flatMap (eG ps)).length<=l.length*ps.length
 | []=>by simp
 |p::l=>by have h1:=N2 ps p;have h2:=N3 ps l;rw[kd,bu,dj,xj];omega
theorem z2f {x0 x3 x4:Option Dv}{i j:Nat}(hij:i≠j) (hl:ps.length<=40) (ei:getL H i=some (ps.map aH)) (ej:getL H j=some (ps.map aH)):
  ∃y3 y4,dN (bS dD (aA 1)) (cL 2 (bH (aF 3) (bH (aF 4) cM))) (cS (pP (aA 2) rS)) [x0,some (.ref i),some (.ref j),x3,x4] H=.nx [x0,some (.ref i),some (.ref j),y3,y4] (H.set j (.lst ((ps++ps.flatMap (eG ps)).map aH))):=by
 have hi:bS dD (aA 1) [x0,some (.ref i),some (.ref j),x3,x4] H=.ok (cE i ps.length) H:=by simp[bS,aA,dD,ei]
 have self:H.set j (.lst (ps.map aH))=H:=by
  apply pf
  intro k
  by_cases hk:j=k
  ·subst hk;rw[cz (lL ej),cY ej]
  ·rw[ey hk]
 obtain⟨ρ',H',h1,y3,y4,h2,h3⟩:=oP (b:=cS (pP (aA 2) rS)) (sg:=cL 2 (bH (aF 3) (bH (aF 4) cM))) hi (λk ρ H'=>∃(y3 y4:Option Dv),ρ=[x0,some (.ref i),some (.ref j),y3,y4]/\H'=H.set j (.lst ((ps++(ps.take k).flatMap (eG ps)).map aH)))
  (λk ρ H' hk ⟨y3,y4,e1,e2⟩=>by
   subst e1;subst e2;have hk':k<ps.length:=hk;have ei':getL (H.set j (.lst ((ps++(ps.take k).flatMap (eG ps)).map aH))) i=some (ps.map aH):=by rw[rG (cy hij)];exact ei
   have ej':getL (H.set j (.lst ((ps++(ps.take k).flatMap (eG ps)).map aH))) j=some ((ps++(ps.take k).flatMap (eG ps)).map aH):=kP ej;have hlen:(ps++(ps.take k).flatMap (eG ps)).length<=40+40*40:=by have h1:=N3 ps (ps.take k);have h2:(ps.take k).length*ps.length<=40*40:=nj (by rw[js];omega) hl;rw[bu];omega
   have hf:=N2 ps ps[k];refine⟨aH ps[k],[x0,some (.ref i),some (.ref j),some (.int ps[k].1),some (.int ps[k].2)],[x0,some (.ref i),some (.ref j),some (.int ps[k].1),some (.int ps[k].2)],_,NY ei' hk',rfl, ?_,_,_,rfl,rfl⟩;have hc:=z2e (x0:=x0) (x2:=some (.ref j)) (p:=ps[k]) (by omega) ei';generalize hG:H.set j (.lst ((ps++(ps.take k).flatMap (eG ps)).map aH))=G at ei' ej' hc;have isJ:jF (.ref j) G=true:=by simp[jF,ej']
   have hz:((ps++(ps.take k).flatMap (eG ps)).map aH).length+((eG ps ps[k]).map aH).length<=1000000:=by rw[bj,bj];omega
   have hx:wR (.ref j) ((eG ps ps[k]).map aH) G=.ok .non (G.set j (.lst ((ps++(ps.take (k+1)).flatMap (eG ps)).map aH))):=by unfold wR;simp only[ej',lim,hz,if_true];rw[ka hk',Dh,<-jz];simp[sr]
   have:pP (aA 2) rS [x0,some (.ref i),some (.ref j),some (.int ps[k].1),some (.int ps[k].2)] G=.ok .non (G.set j (.lst ((ps++(ps.take (k+1)).flatMap (eG ps)).map aH))):=by unfold pP;show(Rs.ok (Dv.ref j) G).bind _=_;rw[Rs.bind_ok,if_pos isJ,hc,Rs.bind_ok,hx]
   unfold cS;rw[this,<-hG,List.set_set];rfl)
  (λρ H' ⟨_,_,_,e2⟩=>by
   subst e2;have ei':getL (H.set j (.lst ((ps++(ps.take (cE i ps.length).n).flatMap (eG ps)).map aH))) i=some (ps.map aH):=by rw[rG (cy hij)];exact ei
   exact NZ ei') ⟨x3,x4,rfl,by simp[self]⟩
 refine⟨y3,y4, ?_⟩;rw[h1,h2,h3];simp[cE]
end
section
variable{H:Hs}{ps:List (Int×Int)}
theorem N4 {i:Nat}(e:getL H i=some (ps.map aH)):pX (.ref i) H=some (ps.map jL):=by simp only[pX,e,N0]
theorem E1 {x0 x2 x3 x4:Option Dv}{i:Nat}(hl:ps.length<=40) (hs:(dW ps).length<64) (e:getL H i=some (ps.map aH)):
  ∃H',Fr [] H H'/\getL H' i=some (ps.map aH)/\if dW ps=ps then rT [x0,some (.ref i),x2,x3,x4] H=.rt (.ref i) H' else ∃(j:Nat) (y2 y3 y4:Option Dv),rT [x0,some (.ref i),x2,x3,x4] H=.nx [x0,some (.ref j),y2,y3,y4] H'/\getL H' j=some ((dW ps).map aH):=by
 have li:=lL e;have w0:aK (aE (f1 gG) (aB (aA 1) aC)) (aF 2) [x0,some (.ref i),x2,x3,x4] H=.nx [x0,some (.ref i),some (.ref H.length),x3,x4] (H++[.lst (ps.map aH)]):=by simp[aK,aE,f1,gG,fF,pL,fX,aB,aA,aC,e,aF]
 have ei:=jK (l:=[Ob.lst (ps.map aH)]) e;have ej:getL (H++[Ob.lst (ps.map aH)]) H.length=some (ps.map aH):=by simp[getL]
 have f0:Fr [] H (H++[Ob.lst (ps.map aH)]):=Fr.app;generalize H++[Ob.lst (ps.map aH)]=H0 at w0 ei ej f0;obtain⟨y3,y4,w1⟩:=z2f (x0:=x0) (x3:=x3) (x4:=x4) (i:=i) (j:=H.length) (by omega) hl ei ej;have ei1:getL (H0.set H.length (.lst ((ps++ps.flatMap (eG ps)).map aH))) i=some (ps.map aH):=by rw[rG (by omega)];exact ei
 have ej1:getL (H0.set H.length (.lst ((ps++ps.flatMap (eG ps)).map aH))) H.length=some ((ps++ps.flatMap (eG ps)).map aH):=kP ej;have f1':Fr [] H (H0.set H.length (.lst ((ps++ps.flatMap (eG ps)).map aH))):=f0.trans (T:=[H.length]) Fr.set (by simp);generalize H0.set H.length (.lst ((ps++ps.flatMap (eG ps)).map aH))=H1 at w1 ei1 ej1 f1';have w2:aK (aE (f1 lQ) (aB (aA 2) aC)) (aF 2) [x0,some (.ref i),some (.ref H.length),y3,y4] H1=.nx [x0,some (.ref i),some (.ref H1.length),y3,y4] (H1++[.lst ((dW ps).map aH)]):=by have hq:=N1 (N4 ej1) hs;simp[aK,aE,f1,aB,aA,aC,hq,aF,dW]
 have ei2:=jK (l:=[Ob.lst ((dW ps).map aH)]) ei1;have ej2:getL (H1++[Ob.lst ((dW ps).map aH)]) H1.length=some ((dW ps).map aH):=by simp[getL]
 have f2:Fr [] H (H1++[Ob.lst ((dW ps).map aH)]):=f1'.trans (T:=[]) Fr.app (by simp);generalize hH2:H1++[Ob.lst ((dW ps).map aH)]=H2 at w2 ei2 ej2 f2;have t:mB (m2 bL (aA 2) (aA 1)) [x0,some (.ref i),some (.ref H1.length),y3,y4] H2=.ok (decide (dW ps=ps)) H2:=by simp[mB,m2,aA,z2c ej2 ei2,dI]
 refine⟨H2,f2,ei2, ?_⟩
 by_cases c:dW ps=ps
 ·rw[if_pos c];unfold rT;rw[bE w0,bE w1,bE w2];unfold aI;rw[lM (t.trans (by rw[decide_eq_true c]))];rfl
 ·rw[if_neg c];refine⟨H1.length,some (.ref H1.length),y3,y4, ?_,ej2⟩;unfold rT;rw[bE w0,bE w1,bE w2,bE (ρ1:=[x0,some (.ref i),some (.ref H1.length),y3,y4]) (h1:=H2) (by rw[iT (t.trans (by rw[decide_eq_false c]))];rfl)];rfl
theorem N5 {n:Nat}(hn:n<=6) {cs:List (Int×Int)}:∀(f:Nat) (ps:List (Int×Int)) (H:Hs) (i:Nat) (x0 x2 x3 x4:Option Dv),fH eF ps->nJ n ps->uV f ps=some cs->getL H i=some (ps.map aH)->
  ∃(j:Nat) (H':Hs),iI (bC (mC (.bl true))) rT f [x0,some (.ref i),x2,x3,x4] H=.rt (.ref j) H'/\getL H' j=some (cs.map aH)/\Fr [] H H'
 |0,ps,H,i,x0,x2,x3,x4,hr,hi,h,e=>by cases h
 |f+1,ps,H,i,x0,x2,x3,x4,hr,hi,h,e=>by
  have sq:n*n<=6*6:=nj hn hn;have l1:=uU hr hi;have l2:=uU (uW ps) (EZ hi);obtain⟨H1,f1,e1,c1⟩:=E1 (x0:=x0) (x2:=x2) (x3:=x3) (x4:=x4) (by omega) (by omega) e;have tt:bC (mC (.bl true)) [x0,some (.ref i),x2,x3,x4] H=.ok true H:=rfl;unfold uV at h
  split at h
  ·rename_i c;cases h;rw[if_pos c]at c1;exact⟨i,H1,z1o tt c1,e1,f1⟩
  ·rename_i c;rw[if_neg c]at c1;obtain⟨j,y2,y3,y4,c2,ej⟩:=c1;obtain⟨k,H2,w,ek,f2⟩:=N5 hn f (dW ps) H1 j x0 y2 y3 y4 (uW ps) (EZ hi) h ej;exact⟨k,H2,by rw[NS tt c2];exact w,ek,f1.trans f2 (by simp)⟩
def N6 (n:Nat) (ps cs:List (Int×Int)):Prop:=fH eF cs/\nJ n cs/\Tr cs/\(∀p∈ps,p∈cs)/\∀R:Int->Int->Prop,(∀a b c,R a b->R b c->R a c)->(∀p∈ps,R p.1 p.2)->∀p∈cs,R p.1 p.2
theorem z2g {n:Nat}{d:Dv}(hn:n<=6) (hi:nJ n ps) (h:pX d H=some (ps.map jL)):∃(cs:List (Int×Int)) (j:Nat) (H':Hs),N6 n ps cs/\F_qh [d] H=.ok (.ref j) H'/\getL H' j=some (cs.map aH)/\Fr [] H H':=by
 have hs:nJ n (dU eF ps):=λp hp=>hi p ((mZ stoP p ps).mp hp);have hr:=uB stoP ps;have sq:n*n<=6*6:=nj hn hn;have l1:=uU hr hs;obtain⟨cs,c1,c2,c3,c4,c5,c6⟩:=NX hn 40 _ hr hs (by omega);have w0:aK (aE (f1 lQ) (aB (aA 0) aC)) (aF 1) [some d,none,none,none,none] H=.nx [some d,some (.ref H.length),none,none,none] (H++[.lst ((dU eF ps).map aH)]):=by have hq:=N1 h (by omega);simp[aK,aE,f1,aB,aA,aC,hq,aF]
 obtain⟨j,H',w1,ej,f1'⟩:=N5 hn 40 (dU eF ps) (H++[.lst ((dU eF ps).map aH)]) H.length (some d) none none none hr hs c1 (by simp[getL]);refine⟨cs,j,H',⟨c2,c3,c4,λp hp=>c5 p ((mZ stoP p ps).mpr hp),λR ht hR=>c6 R ht λp hp=>hR p ((mZ stoP p ps).mp hp)⟩, ?_,ej,(Fr.app (S:=[]) (l:=[.lst ((dU eF ps).map aH)])).trans f1' (by simp)⟩;show aW (iU [some d,none,none,none,none] H)=_;rw[z2d,bE w0,w1];rfl
end
theorem qC {H:Hs}{i k:Nat}{xs:List Int}(e:getL H i=some (xs.map Dv.int)) (hk:k<xs.length):aQ (.ref i) (.int (k:Int)) H=.ok (.int xs[k]) H:=by
 have h1:dX (xs.map Dv.int).length (k:Int)=some k:=by unfold dX;rw[bj,if_pos (by omega),if_pos (by omega)];simp
 have h2:gC (xs.map Dv.int) (k:Int)=some (.int xs[k]):=by unfold gC;rw[h1];simp[hk]
 simp only[aQ,fF,gD,e,jU,h2,if_true]
theorem oU (x y:Int) (H:Hs):bL (.int x) (.int y) H=.ok (.bl (x==y)) H:=by simp[bL,bW,bF,bI]
theorem E2:∀{ys:List Int},ys.Nodup->∀i (h:i<ys.length),eW ys[i] ys=some i
 | [],_,i,h=>by simp at h
 |y::ys,nd,0,h=>by simp[eW]
 |y::ys,nd,i+1,h=>by
  have h1:=jm.mp nd;have hi:i<ys.length:=by simpa using h
  have ne:y≠ys[i]:=λz=>h1.1 (by rw[z];exact cx hi);simp[eW,ne,E2 h1.2 i hi]
def zA (n:Nat) (ps:List (Int×Int)):Prop:=nJ n ps/\∃f:Int->Int,∀p∈ps,f p.1<f p.2
theorem z2h {n:Nat}{ps cs:List (Int×Int)}(n1:1<=n) (n6:n<=6) (g:zA n ps) (c:N6 n ps cs):OrdP n cs:=by obtain⟨h1,h2,h3,h4,h5⟩:=c;obtain⟨_,f,hf⟩:=g;refine⟨n1,n6,h2,h1,λp hp e=>?_,h3⟩;have:=h5 (λa b=>f a<f b) (λa b c x y=>by omega) hf p hp;rw[e]at this;omega
section
variable{st ir ip im n:Nat}{ys ms:List Int}{w:Int}{d1:Dv}
def E3:MS:=aK (aR (aB (m2 bL (aE F_qu (aB (aA 0) (aB (mC (.int 6)) aC))) (mC (.int 0))) (aB (m2 bL (aE F_qu (aB (aA 0) (aB (mC (.int 2)) aC))) (mC (.int 0))) (aB (m2 mV (aE F_qu (aB (aA 0) (aB (mC (.int 4)) aC))) (mC (.int 0))) aC)))) (aF 9)
def E4:MS:=aK (m2 bA (aA 9) (aR (aB (m2 fJ (m2 aQ (aA 6) (aA 7)) (m2 aQ (aA 6) (aA 8))) (aB (m2 bL (m2 aQ (aA 6) (aA 7)) (m2 aQ (aA 6) (aA 8))) aC)))) (aF 9)
def oB:MS:=aI E3 (aI E4 (aX (bC (m2 aQ (aA 9) (aA 4))) (cS (kK (aA 5) (aL (aB (m2 aQ (aA 3) (aA 7)) (aB (m2 aQ (aA 3) (aA 8)) aC))))) bG))
structure Std (st ir im:Nat) (ys ms:List Int) (H:Hs):Prop where
 s:St st H
 r:getL H ir=some (ys.map Dv.int)
 m:getL H im=some (ms.map Dv.int)
theorem Std.fr {H H':Hs}{S:List Nat}(h:Std st ir im ys ms H) (f:Fr S H H') (s':St st H') (h1:ir∉S) (h2:im∉S):Std st ir im ys ms H':=⟨s',f.getL h.r h1,f.getL h.m h2⟩
theorem lV {H:Hs}{x9:Option Dv}{ps:List (Int×Int)}{i j:Nat}(D:Std st ir im ys ms H) (ep:getL H ip=some (ps.map aH)) (hw:0<=w/\w<5) (hi:i<n) (hj:j<n) (hy:ys.length=n) (hm:ms.length=n) (hl:ps.length<=1000)
  (h1:ir≠st) (h2:im≠st) (h3:ip≠st) (h4:ir≠ip) (h5:im≠ip):
  ∃(x9':Option Dv) (H':Hs) (ps':List (Int×Int)),oB [some (.ref st),some d1,some (.int n),some (.ref ir),some (.int w),some (.ref ip),some (.ref im),some (.int i),some (.int j),x9] H=.nx [some (.ref st),some d1,some (.int n),some (.ref ir),some (.int w),some (.ref ip),some (.ref im),some (.int i),some (.int j),x9'] H'/\getL H' ip=some (ps'.map aH)/\(ps'=ps∨ps'=ps++[(ys.getD i 0,ys.getD j 0)])/\Std st ir im ys ms H'/\Fr [st,ip] H H':=by
 obtain⟨r0,H0,_,_,t0,f0,s0⟩:=jO 6 D.s;obtain⟨r1,H1,_,_,t1,f1,s1⟩:=jO 2 s0;obtain⟨r2,H2,_,_,t2,f2,s2⟩:=jO 4 s1;have f02:Fr [st] H H2:=(f0.trans f1 (by simp)).trans f2 (by simp);have D2:=D.fr f02 s2 (by simpa using h1) (by simpa using h2);have ep2:=f02.getL ep (by simpa using h3);have w1:E3 [some (.ref st),some d1,some (.int n),some (.ref ir),some (.int w),some (.ref ip),some (.ref im),some (.int i),some (.int j),x9] H=.nx [some (.ref st),some d1,some (.int n),some (.ref ir),some (.int w),some (.ref ip),some (.ref im),some (.int i),some (.int j),some (.ref H2.length)] (H2++[.lst [.bl (r0==0),.bl (r1==0),.bl (decide (r2>0))]]):=by simp[E3,aK,aR,aB,m2,aE,aA,mC,aC,t0,t1,t2,oU,mV,iE,lim,aF]
 have fA:Fr [] H2 (H2++[.lst [.bl (r0==0),.bl (r1==0),.bl (decide (r2>0))]]):=Fr.app;have eA:getL (H2++[.lst [.bl (r0==0),.bl (r1==0),.bl (decide (r2>0))]]) H2.length=some [.bl (r0==0),.bl (r1==0),.bl (decide (r2>0))]:=by simp[getL]
 have DA:=D2.fr fA (s2.fr fA (by simp)) (by simp) (by simp);have epA:=fA.getL ep2 (by simp);have fHA:Fr [st] H (H2++[.lst [.bl (r0==0),.bl (r1==0),.bl (decide (r2>0))]]):=f02.trans fA (by simp);generalize H2++[Ob.lst [.bl (r0==0),.bl (r1==0),.bl (decide (r2>0))]]=HA at w1 fA eA DA epA fHA;have hmi:=qC DA.m (k:=i) (by omega);have hmj:=qC DA.m (k:=j) (by omega);have eA':=jK (l:=[Ob.lst [.bl (decide (ms[i]<ms[j])),.bl (ms[i]==ms[j])]]) eA;have eB:getL (HA++[Ob.lst [.bl (decide (ms[i]<ms[j])),.bl (ms[i]==ms[j])]]) HA.length=some [.bl (decide (ms[i]<ms[j])),.bl (ms[i]==ms[j])]:=by simp[getL]
 have w2:E4 [some (.ref st),some d1,some (.int n),some (.ref ir),some (.int w),some (.ref ip),some (.ref im),some (.int i),some (.int j),some (.ref H2.length)] HA=.nx [some (.ref st),some d1,some (.int n),some (.ref ir),some (.int w),some (.ref ip),some (.ref im),some (.int i),some (.int j),some (.ref (HA.length+1))] (HA++[.lst [.bl (decide (ms[i]<ms[j])),.bl (ms[i]==ms[j])]]++[.lst [.bl (r0==0),.bl (r1==0),.bl (decide (r2>0)),.bl (decide (ms[i]<ms[j])),.bl (ms[i]==ms[j])]]):=by simp[E4,aK,m2,aR,aB,aA,hmi,hmj,fJ,oU,aC,lim,bA,kZ,eA',eB,aF]
 have fB:Fr [] HA (HA++[.lst [.bl (decide (ms[i]<ms[j])),.bl (ms[i]==ms[j])]]++[.lst [.bl (r0==0),.bl (r1==0),.bl (decide (r2>0)),.bl (decide (ms[i]<ms[j])),.bl (ms[i]==ms[j])]]):=Fr.trans (T:=[]) Fr.app Fr.app (by simp);have eN:getL (HA++[.lst [.bl (decide (ms[i]<ms[j])),.bl (ms[i]==ms[j])]]++[.lst [.bl (r0==0),.bl (r1==0),.bl (decide (r2>0)),.bl (decide (ms[i]<ms[j])),.bl (ms[i]==ms[j])]]) (HA.length+1)=some [.bl (r0==0),.bl (r1==0),.bl (decide (r2>0)),.bl (decide (ms[i]<ms[j])),.bl (ms[i]==ms[j])]:=by simp[getL]
 have DB:=DA.fr fB (DA.s.fr fB (by simp)) (by simp) (by simp);have epB:=fB.getL epA (by simp);have fHB:=fHA.trans fB (by simp);generalize HA++[Ob.lst [.bl (decide (ms[i]<ms[j])),.bl (ms[i]==ms[j])]]++[Ob.lst [.bl (r0==0),.bl (r1==0),.bl (decide (r2>0)),.bl (decide (ms[i]<ms[j])),.bl (ms[i]==ms[j])]]=HB at w2 fB eN DB epB fHB;have near:∃b,aQ (.ref (HA.length+1)) (.int w) HB=.ok (.bl b) HB:=by
  have hw':w=0∨w=1∨w=2∨w=3∨w=4:=by omega
  rcases hw' with rfl|rfl|rfl|rfl|rfl
  ·exact⟨_,by simp only[aQ,fF,gD,eN];rfl⟩
  ·exact⟨_,by simp only[aQ,fF,gD,eN];rfl⟩
  ·exact⟨_,by simp only[aQ,fF,gD,eN];rfl⟩
  ·exact⟨_,by simp only[aQ,fF,gD,eN];rfl⟩
  ·exact⟨_,by simp only[aQ,fF,gD,eN];rfl⟩
 obtain⟨b,hb⟩:=near;have t:bC (m2 aQ (aA 9) (aA 4)) [some (.ref st),some d1,some (.int n),some (.ref ir),some (.int w),some (.ref ip),some (.ref im),some (.int i),some (.int j),some (.ref (HA.length+1))] HB=.ok b HB:=by simp[bC,m2,aA,hb,eJ]
 cases b with
 |false=>refine⟨some (.ref (HA.length+1)),HB,ps, ?_,epB,.inl rfl,DB,fHB.mono (by simp)⟩;unfold oB;rw[bE w1,bE w2,iT t];rfl
 |true=>
  have hyi:=qC DB.r (k:=i) (by omega);have hyj:=qC DB.r (k:=j) (by omega);have gi:ys[i]=ys.getD i 0:=by simp[show i<ys.length by omega]
  have gj:ys[j]=ys.getD j 0:=by simp[show j<ys.length by omega]
  rw[gi]at hyi;rw[gj]at hyj;generalize ys.getD i 0=va at hyi ⊢;generalize ys.getD j 0=vb at hyj ⊢;have hz:(ps.map aH).length<1000000:=by rw[bj];omega
  have fC:Fr [ip] HB (HB.set ip (.lst ((ps++[(va,vb)]).map aH))):=Fr.set;refine⟨some (.ref (HA.length+1)),HB.set ip (.lst ((ps++[(va,vb)]).map aH)),ps++[(va,vb)], ?_,kP epB,.inr rfl,DB.fr fC (DB.s.fr fC (by simpa using cy h3)) (by simpa using h4) (by simpa using h5),(fHB.mono (T:=[st,ip]) (by simp)).trans fC (by simp)⟩;unfold oB;rw[bE w1,bE w2,lM t];have isP':jF (.ref ip) HB=true:=by simp[jF,epB]
  have happ:pO (.ref ip) (.tup [.int (va),.int (vb)]) HB=.ok .non (HB.set ip (.lst ((ps++[(va,vb)]).map aH))):=by simp only[pO,epB,hz,if_true,jz];rfl
  simp[cS,kK,aA,isP',aL,aB,m2,hyi,hyj,aC,lim,happ]
end
theorem E5 {m:Int}(h0:0<=m) (h:m<=100):iG m=true:=by
 have h1:(-4611686018427387904:Int)<=m:=by omega
 have h2:m<4611686018427387904:=by omega
 unfold iG;rw[decide_eq_true h1,decide_eq_true h2];rfl
theorem zB {H:Hs}{j:Int}(h0:0<=j) (h1:j<=100):cN [.int j] H=.ok (cJ 0 j) H:=by simp only[cN,E5 h0 h1,if_true]
theorem N7 {H:Hs}{i j:Int}(h0:0<=i) (h1:i<=100) (h2:0<=j) (h3:j<=100):gX [.int i,.int j] H=.ok (cJ i j) H:=by simp only[gX,E5 h0 h1,E5 h2 h3,and_self,if_true]
def rV (ys:List Int) (n:Nat) (ps:List (Int×Int)):Prop:=∀p∈ps,∃i j,i<j/\j<n/\p=(ys.getD i 0,ys.getD j 0)
section
variable{st ir ip im n:Nat}{ys ms:List Int}{w:Int}{d1:Dv}
abbrev bZ (st ir ip im n:Nat) (w:Int) (d1:Dv) (x7 x8 x9:Option Dv):Ev:=[some (.ref st),some d1,some (.int n),some (.ref ir),some (.int w),some (.ref ip),some (.ref im),x7,x8,x9]
def jP:MS:=dN (aS gX (aB (m2 bA (aA 7) (mC (.int 1))) (aB (aA 2) aC))) (aF 8) oB
theorem lW {H:Hs}{x8 x9:Option Dv}{ps:List (Int×Int)}{i:Nat}(D:Std st ir im ys ms H) (ep:getL H ip=some (ps.map aH)) (hw:0<=w/\w<5) (hi:i<n) (hn:n<=6) (hy:ys.length=n) (hm:ms.length=n) (hl:ps.length<=500) (hb:rV ys n ps)
  (h1:ir≠st) (h2:im≠st) (h3:ip≠st) (h4:ir≠ip) (h5:im≠ip):
  ∃(x8' x9':Option Dv) (H':Hs) (ps':List (Int×Int)),jP (bZ st ir ip im n w d1 (some (.int i)) x8 x9) H=.nx (bZ st ir ip im n w d1 (some (.int i)) x8' x9') H'/\getL H' ip=some (ps'.map aH)/\rV ys n ps'/\ps'.length<=ps.length+6/\Std st ir im ys ms H'/\Fr [st,ip] H H':=by
 have hi0:aS gX (aB (m2 bA (aA 7) (mC (.int 1))) (aB (aA 2) aC)) (bZ st ir ip im n w d1 (some (.int i)) x8 x9) H=.ok (cJ ((i:Int)+1) n) H:=by have q:aB (m2 bA (aA 7) (mC (.int 1))) (aB (aA 2) aC) (bZ st ir ip im n w d1 (some (.int i)) x8 x9) H=.ok [.int ((i:Int)+1),.int n] H:=rfl;unfold aS;rw[q,Rs.bind_ok];exact N7 (by omega) (by omega) (by omega) (by omega)
 have hN:(cJ ((i:Int)+1) (n:Int)).n=n - (i+1):=by show((n:Int) - ((i:Int)+1)).toNat=_;omega
 obtain⟨ρ',H',r1,x8',x9',ps',e1,e2,e3,e4,e5,e6⟩:=oP (b:=oB) (sg:=aF 8) hi0 (λk ρ H'=>∃(x8' x9':Option Dv) (ps':List (Int×Int)),ρ=bZ st ir ip im n w d1 (some (.int i)) x8' x9'/\getL H' ip=some (ps'.map aH)/\rV ys n ps'/\ps'.length<=ps.length+k/\Std st ir im ys ms H'/\Fr [st,ip] H H')
  (λk ρ H' hk ⟨x8',x9',ps',e1,e2,e3,e4,e5,e6⟩=>by
   subst e1;rw[hN]at hk;have hj:i+1+k<n:=by omega
   obtain⟨x9n,H2,ps2,b1,b2,b3,b4,b5⟩:=lV (x9:=x9') (w:=w) (d1:=d1) (ip:=ip) (n:=n) (i:=i) (j:=i+1+k) e5 e2 hw hi hj hy hm (by omega) h1 h2 h3 h4 h5;have ej:(((i+1+k:Nat)):Int)=(i:Int)+1+(k:Int):=by omega
   rw[ej]at b1;refine⟨.int ((i:Int)+1+(k:Int)),bZ st ir ip im n w d1 (some (.int i)) (some (.int ((i:Int)+1+(k:Int)))) x9',_,H2,rfl,rfl,b1,_,_,ps2,rfl,b2, ?_, ?_,b4,e6.trans b5 λj hj=>.inl hj⟩
   ·rcases b3 with rfl|rfl
    ·exact e3
    ·intro p hp
     rcases cg.mp hp with hp|hp
     ·exact e3 p hp
     ·rw[df.mp hp];exact⟨i,i+1+k,by omega,hj,rfl⟩
   ·rcases b3 with rfl|rfl
    ·omega
    ·rw[bu];simp;omega) (λ_ _ _=>rfl) ⟨x8,x9,ps,rfl,ep,hb,by omega,D,Fr.refl⟩
 rw[hN]at e4;exact⟨x8',x9',H',ps',by unfold jP;rw[r1,e1],e2,e3,by omega,e5,e6⟩
def jZ:MS:=dN (aS cN (aB (aA 2) aC)) (aF 7) jP
theorem lX {H:Hs}{x7 x8 x9:Option Dv}(D:Std st ir im ys ms H) (ep:getL H ip=some (([]:List (Int×Int)).map aH)) (hw:0<=w/\w<5) (hn:n<=6) (hy:ys.length=n) (hm:ms.length=n)
  (h1:ir≠st) (h2:im≠st) (h3:ip≠st) (h4:ir≠ip) (h5:im≠ip):
  ∃(x7' x8' x9':Option Dv) (H':Hs) (ps':List (Int×Int)),jZ (bZ st ir ip im n w d1 x7 x8 x9) H=.nx (bZ st ir ip im n w d1 x7' x8' x9') H'/\getL H' ip=some (ps'.map aH)/\rV ys n ps'/\Std st ir im ys ms H'/\Fr [st,ip] H H':=by
 have hi0:aS cN (aB (aA 2) aC) (bZ st ir ip im n w d1 x7 x8 x9) H=.ok (cJ 0 n) H:=by have q:aB (aA 2) aC (bZ st ir ip im n w d1 x7 x8 x9) H=.ok [.int n] H:=rfl;unfold aS;rw[q,Rs.bind_ok];exact zB (by omega) (by omega)
 have hN:(cJ 0 (n:Int)).n=n:=by simp[cJ]
 obtain⟨ρ',H',r1,x7',x8',x9',ps',e1,e2,e3,e4,e5,e6⟩:=oP (b:=jP) (sg:=aF 7) hi0 (λk ρ H'=>∃(x7' x8' x9':Option Dv) (ps':List (Int×Int)),ρ=bZ st ir ip im n w d1 x7' x8' x9'/\getL H' ip=some (ps'.map aH)/\rV ys n ps'/\ps'.length<=6*k/\Std st ir im ys ms H'/\Fr [st,ip] H H')
  (λk ρ H' hk ⟨x7',x8',x9',ps',e1,e2,e3,e4,e5,e6⟩=>by
   subst e1;rw[hN]at hk;obtain⟨x8n,x9n,H2,ps2,b1,b2,b3,b4,b5,b6⟩:=lW (x8:=x8') (x9:=x9') (w:=w) (d1:=d1) (ip:=ip) (n:=n) (i:=k) e5 e2 hw hk hn hy hm (by omega) e3 h1 h2 h3 h4 h5;have ek:(0:Int)+(k:Int)=(k:Int):=by omega
   refine⟨.int (0+(k:Int)),bZ st ir ip im n w d1 (some (.int k)) x8' x9',_,H2,rfl,by rw[ek];rfl,b1,_,_,_,ps2,rfl,b2,b3,by omega,b5,e6.trans b6 λj hj=>.inl hj⟩) (λ_ _ _=>rfl) ⟨x7,x8,x9,[],rfl,ep,λp hp=>by simp at hp,by simp,D,Fr.refl⟩
 exact⟨x7',x8',x9',H',ps',by unfold jZ;rw[r1,e1],e2,e3,e5,e6⟩
theorem z2i (pm:ys.Perm (cA n)) {ps:List (Int×Int)}(h:rV ys n ps):zA n ps:=by
 have hl:ys.length=n:=by rw[pm.length_eq];simp[cA]
 have nd:ys.Nodup:=by refine pm.nodup_iff.mpr ?_;unfold cA;simp only[gr];refine List.Pairwise.map _ ?_ (ub (n:=n));intro a b h e;exact h (by omega)
 have mem:∀i,i<n->0<=ys.getD i 0/\ys.getD i 0<n:=λi hi=>by have hm:ys.getD i 0∈cA n:=pm.mem_iff.mp (by simp[show i<ys.length by omega]);simp only[cA,de,br,gr]at hm;obtain⟨k,hk,e⟩:=hm;omega
 refine⟨λp hp=>?_,λa=>((eW a ys).getD 0:Nat),λp hp=>?_⟩
 ·obtain⟨i,j,hij,hj,rfl⟩:=h p hp;exact⟨(mem i (by omega)).1,(mem i (by omega)).2,(mem j hj).1,(mem j hj).2⟩
 ·obtain⟨i,j,hij,hj,rfl⟩:=h p hp;have hi':i<ys.length:=by omega
  have hj':j<ys.length:=by omega
  have e1:ys.getD i 0=ys[i]:=by simp[hi']
  have e2:ys.getD j 0=ys[j]:=by simp[hj']
  simp only[e1,e2,E2 nd i hi',E2 nd j hj',Option.getD_some];omega
def E6 (ms:List Int) (n:Nat) (ps:List (Int×Int)):Prop:=∀p∈ps,∃i j:Nat,i<n/\j<n/\ms.getD i 0<ms.getD j 0/\p=((i:Int),(j:Int))
theorem z2j {ps:List (Int×Int)}(h:E6 ms n ps):zA n ps:=by
 refine⟨λp hp=>?_,λa=>ms.getD a.toNat 0,λp hp=>?_⟩
 ·obtain⟨i,j,hi,hj,_,rfl⟩:=h p hp;exact⟨by simp,by simpa using hi,by simp,by simpa using hj⟩
 ·obtain⟨i,j,hi,hj,hlt,rfl⟩:=h p hp;simpa using hlt
def zC:M (List Dv):=bU (aS cN (aB (aA 2) aC)) [none,some 7,some 6] (aF 0) (mB (m2 fJ (m2 aQ (aA 2) (aA 1)) (m2 aQ (aA 2) (aA 0)))) (bN (aL (aB (aA 1) (aB (aA 0) aC))))
def uX:MS:=aK (m2 bA (aA 5) (bM zC)) (aF 5)
def gW (ms:List Int) (n i:Nat):List (Int×Int):=(bf n).filterMap λj=>if ms.getD i 0<ms.getD j 0 then some ((i:Int),(j:Int))else none
theorem z2k {H:Hs}{x8 x9:Option Dv}{i:Nat}(em:getL H im=some (ms.map Dv.int)) (hi:i<n) (hn:n<=6) (hm:ms.length=n):
  zC (bZ st ir ip im n w d1 (some (.int i)) x8 x9) H=.ok ((gW ms n i).map aH) H:=by
 have hi0:aS cN (aB (aA 2) aC) (bZ st ir ip im n w d1 (some (.int i)) x8 x9) H=.ok (cJ 0 n) H:=by have q:aB (aA 2) aC (bZ st ir ip im n w d1 (some (.int i)) x8 x9) H=.ok [.int n] H:=rfl;unfold aS;rw[q,Rs.bind_ok];exact zB (by omega) (by omega)
 have h:zC (bZ st ir ip im n w d1 (some (.int i)) x8 x9) H=.ok ((bf n).filterMap λj=>if ms.getD i 0<ms.getD j 0 then some (aH ((i:Int),(j:Int)))else none) H:=
  gU (bf n) (λj=>if ms.getD i 0<ms.getD j 0 then some (aH ((i:Int),(j:Int)))else none) (λρ=>∃a,ρ=[a,some (.int i),some (.ref im)]) hi0 (by simp[cJ]) ⟨_,rfl⟩ rfl (λk hk ρ ⟨a,er⟩=>by
   subst er;have hk':k<n:=by simpa using hk
   have gk:(bf n)[k]=k:=by simp
   rw[gk];have ek:(0:Int)+(k:Int)=(k:Int):=by omega
   refine⟨.int (0+(k:Int)),[some (.int k),some (.int i),some (.ref im)],rfl,by rw[ek];rfl,⟨_,rfl⟩, ?_⟩;have x1:=qC em (k:=i) (by omega);have x2:=qC em (k:=k) (by omega);have g1:ms[i]=ms.getD i 0:=by simp[show i<ms.length by omega]
   have g2:ms[k]=ms.getD k 0:=by simp[show k<ms.length by omega]
   rw[g1]at x1;rw[g2]at x2;generalize ms.getD i 0=va at x1 ⊢;generalize ms.getD k 0=vb at x2 ⊢;have te:mB (m2 fJ (m2 aQ (aA 2) (aA 1)) (m2 aQ (aA 2) (aA 0))) [some (.int k),some (.int i),some (.ref im)] H=.ok (decide (va<vb)) H:=by simp[mB,m2,aA,x1,x2,fJ,dI]
   by_cases c:va<vb
   ·rw[if_pos c];rw[decide_eq_true c]at te;exact⟨te,rfl⟩
   ·rw[if_neg c];rw[decide_eq_false c]at te;exact te) (by simp;omega)
 have e:((bf n).filterMap λj=>if ms.getD i 0<ms.getD j 0 then some (aH ((i:Int),(j:Int)))else none)=(gW ms n i).map aH:=by
  unfold gW;rw[List.map_filterMap];refine DC _ λj _=>?_
  split <;> rfl
 rw[h,e]
theorem z2l {H:Hs}{ip0:Nat}{x7 x8 x9:Option Dv}(D:Std st ir im ys ms H) (ep:getL H ip0=some (([]:List (Int×Int)).map aH)) (hn:n<=6) (hm:ms.length=n):
  ∃(ip':Nat) (x7':Option Dv) (H':Hs) (ps':List (Int×Int)),dN (aS cN (aB (aA 2) aC)) (aF 7) uX (bZ st ir ip0 im n w d1 x7 x8 x9) H=.nx (bZ st ir ip' im n w d1 x7' x8 x9) H'/\getL H' ip'=some (ps'.map aH)/\E6 ms n ps'/\Fr [] H H':=by
 have hi0:aS cN (aB (aA 2) aC) (bZ st ir ip0 im n w d1 x7 x8 x9) H=.ok (cJ 0 n) H:=by have q:aB (aA 2) aC (bZ st ir ip0 im n w d1 x7 x8 x9) H=.ok [.int n] H:=rfl;unfold aS;rw[q,Rs.bind_ok];exact zB (by omega) (by omega)
 have hN:(cJ 0 (n:Int)).n=n:=by simp[cJ]
 obtain⟨ρ',H',r1,ip',x7',ps',e1,e2,e3,e4,e5⟩:=oP (b:=uX) (sg:=aF 7) hi0 (λk ρ H'=>∃(ip':Nat) (x7':Option Dv) (ps':List (Int×Int)),ρ=bZ st ir ip' im n w d1 x7' x8 x9/\getL H' ip'=some (ps'.map aH)/\E6 ms n ps'/\ps'.length<=6*k/\Fr [] H H')
  (λk ρ H' hk ⟨ip',x7',ps',e1,e2,e3,e4,e5⟩=>by
   subst e1;rw[hN]at hk;have em:=e5.getL D.m (by simp);have hc:=z2k (st:=st) (ir:=ir) (ip:=ip') (w:=w) (d1:=d1) (x8:=x8) (x9:=x9) em hk hn hm;have hrl:(gW ms n k).length<=6:=by have:=oi (λj=>if ms.getD k 0<ms.getD j 0 then some ((k:Int),(j:Int))else none) (bf n);unfold gW;rw[my]at this;omega
   have ek:(0:Int)+(k:Int)=(k:Int):=by omega
   have ep1:=jK (l:=[Ob.lst ((gW ms n k).map aH)]) e2;have eq1:getL (H'++[Ob.lst ((gW ms n k).map aH)]) H'.length=some ((gW ms n k).map aH):=by simp[getL]
   have hz:(ps'.map aH).length+((gW ms n k).map aH).length<=1000000:=by rw[bj,bj];omega
   have hb:uX (bZ st ir ip' im n w d1 (some (.int k)) x8 x9) H'=.nx (bZ st ir (H'.length+1) im n w d1 (some (.int k)) x8 x9) (H'++[Ob.lst ((gW ms n k).map aH)]++[Ob.lst ((ps'++gW ms n k).map aH)]):=by
    have ha:bA (.ref ip') (.ref H'.length) (H'++[Ob.lst ((gW ms n k).map aH)])=.ok (.ref (H'.length+1)) (H'++[Ob.lst ((gW ms n k).map aH)]++[Ob.lst ((ps'++gW ms n k).map aH)]):=by show kZ (.ref ip') (.ref H'.length) (H'++[Ob.lst ((gW ms n k).map aH)])=_;simp only[kZ,ep1,eq1,lim,hz,if_true];simp
    have hal:bM zC (bZ st ir ip' im n w d1 (some (.int k)) x8 x9) H'=.ok (.ref H'.length) (H'++[Ob.lst ((gW ms n k).map aH)]):=by unfold bM;rw[hc];rfl
    unfold uX aK m2;show((Rs.ok (Dv.ref ip') H').bind _).thenS _=_;rw[Rs.bind_ok,hal,Rs.bind_ok,ha];rfl
   refine⟨.int (0+(k:Int)),bZ st ir ip' im n w d1 (some (.int k)) x8 x9,_,_,rfl,by rw[ek];rfl,hb,H'.length+1,_,ps'++gW ms n k,rfl,by simp[getL], ?_,by rw[bu];omega,e5.trans (Fr.trans (T:=[]) (Fr.app (S:=[])) Fr.app (by simp)) (by simp)⟩;intro p hp
   rcases cg.mp hp with hp|hp
   ·exact e3 p hp
   ·unfold gW at hp;obtain⟨j,hj,e⟩:=jw.mp hp
    split at e
    ·rename_i c;cases e;exact⟨k,j,hk,br.mp hj,c,rfl⟩
    ·cases e) (λ_ _ _=>rfl) ⟨ip0,x7,[],rfl,ep,λp hp=>by simp at hp,by simp,Fr.refl⟩
 exact⟨ip',x7',H',ps',by rw[r1,e1],e2,e3,e5⟩
end
def o1:MS:=aK (m2 gF (aA 1) (m2 aQ (aR (aB (mC (.int 0)) (aB (mC (.int 0)) (aB (mC (.int 1)) (aB (mC (.int 2)) (aB (mC (.int 0)) (aB (mC (.int 3)) (aB (mC (.int 1)) (aB (mC (.int 4)) aC))))))))) (aE F_qu (aB (aA 0) (aB (mC (.int 8)) aC))))) (aF 2)
def o2:MS:=aK (aE mO (aB (mC (.int 1)) (aB (aA 2) aC))) (aF 2)
def o3:MS:=aK (aE F_qb (aB (aA 0) (aB (aE (f1 lO) (aB (aA 2) aC)) aC))) (aF 3)
def o4:MS:=aK (aE F_qu (aB (aA 0) (aB (mC (.int 5)) aC))) (aF 4)
def o5:MS:=aK (aR aC) (aF 5)
def kA:M (List Dv):=bU (bS dD (aA 3)) [none,some 0] (aF 0) dO (bN (aE F_qu (aB (aA 1) (aB (mC (.int 3)) aC))))
def o6:MS:=aK (bM kA) (aF 6)
def o8:MS:=aX (mB (m2 bL (aA 4) (mC (.int 3)))) (aI (aK (aR aC) (aF 5)) (dN (aS cN (aB (aA 2) aC)) (aF 7) uX)) bG
def o9:MS:=aO (aL (aB (aA 2) (aB (aE (f1 gN) (aB (aE F_qh (aB (aA 5) aC)) aC)) aC)))
theorem lY:iV=aI o1 (aI o2 (aI o3 (aI o4 (aI o5 (aI o6 (aI jZ (aI o8 o9))))))):=rfl
section
variable{st:Nat}
theorem lZ {H:Hs}{m:Int}{x2 x3 x4 x5 x6 x7 x8 x9:Option Dv}(s:St st H):∃(v:Int) (H':Hs),0<=v/\v<=4/\o1 [some (.ref st),some (.int m),x2,x3,x4,x5,x6,x7,x8,x9] H=.nx [some (.ref st),some (.int m),some (.int (m - v)),x3,x4,x5,x6,x7,x8,x9] H'/\St st H'/\Fr [st] H H':=by
 have fA:Fr [] H (H++[Ob.lst [.int 0,.int 0,.int 1,.int 2,.int 0,.int 3,.int 1,.int 4]]):=Fr.app;have eA:getL (H++[Ob.lst [.int 0,.int 0,.int 1,.int 2,.int 0,.int 3,.int 1,.int 4]]) H.length=some (([0,0,1,2,0,3,1,4]:List Int).map Dv.int):=by simp[getL]
 have sA:=s.fr fA (by simp);have lt:=s.lt;have hd:aR (aB (mC (.int 0)) (aB (mC (.int 0)) (aB (mC (.int 1)) (aB (mC (.int 2)) (aB (mC (.int 0)) (aB (mC (.int 3)) (aB (mC (.int 1)) (aB (mC (.int 4)) aC)))))))) [some (.ref st),some (.int m),x2,x3,x4,x5,x6,x7,x8,x9] H=.ok (.ref H.length) (H++[Ob.lst [.int 0,.int 0,.int 1,.int 2,.int 0,.int 3,.int 1,.int 4]]):=rfl;generalize H++[Ob.lst [.int 0,.int 0,.int 1,.int 2,.int 0,.int 3,.int 1,.int 4]]=HA at fA eA sA hd;obtain⟨r,H1,r0,r1,t1,f1,s1⟩:=jO 8 sA;have e1:=f1.getL eA (by simp;omega);obtain⟨k,rfl⟩:∃k:Nat,r=k:=⟨r.toNat,by omega⟩
 have hk:k<8:=by omega
 have hx:=qC e1 (k:=k) (by simpa using hk);have hv:0<=([0,0,1,2,0,3,1,4]:List Int)[k]/\([0,0,1,2,0,3,1,4]:List Int)[k]<=4:=by
  match k,hk with
  |0,_=>simp
  |1,_=>simp
  |2,_=>simp
  |3,_=>simp
  |4,_=>simp
  |5,_=>simp
  |6,_=>simp
  |7,_=>simp
 generalize ([0,0,1,2,0,3,1,4]:List Int)[k]=v at hx hv;refine⟨v,H1,hv.1,hv.2, ?_,s1,fA.mono (T:=[st]) (by simp) |>.trans f1 (by simp)⟩;have ht:aE F_qu (aB (aA 0) (aB (mC (.int 8)) aC)) [some (.ref st),some (.int m),x2,x3,x4,x5,x6,x7,x8,x9] HA=.ok (.int k) H1:=by simp[aE,aB,aA,mC,aC,t1]
 unfold o1 aK m2;show((Rs.ok (Dv.int m) H).bind _).thenS _=_;rw[Rs.bind_ok,hd,Rs.bind_ok,ht,Rs.bind_ok,hx,Rs.bind_ok];rfl
theorem mD {H:Hs}{ir:Nat}{ys:List Int}{x1 x2 x4 x5 x6 x7 x8 x9:Option Dv}(s:St st H) (er:getL H ir=some (ys.map Dv.int)) (hrs:ir≠st) (hl:ys.length<=100):∃(ms:List Int) (H':Hs),ms.length=ys.length/\o6 [some (.ref st),x1,x2,some (.ref ir),x4,x5,x6,x7,x8,x9] H=.nx [some (.ref st),x1,x2,some (.ref ir),x4,x5,some (.ref H'.length),x7,x8,x9] (H'++[.lst (ms.map Dv.int)])/\St st H'/\Fr [st] H H':=by
 have hi:bS dD (aA 3) [some (.ref st),x1,x2,some (.ref ir),x4,x5,x6,x7,x8,x9] H=.ok (cE ir ys.length) H:=by simp[bS,aA,dD,er]
 obtain⟨ρ',H',acc',h1,a,ms,h2,h3,h4,h5,h6⟩:=CJ (src:=cE ir ys.length) (sg:=aF 0) (t:=dO) (m:=bN (aE F_qu (aB (aA 1) (aB (mC (.int 3)) aC))))
  (λk ρ H' acc=>∃(a:Option Dv) (ms:List Int),ρ=[a,some (.ref st)]/\acc=ms.map Dv.int/\ms.length=k/\St st H'/\Fr [st] H H')
  (λk ρ H' acc hk ⟨a,ms,e1,e2,e3,e4,e5⟩=>by
   subst e1;subst e2;have hk':k<ys.length:=hk;obtain⟨r,H1,r0,r1,t1,f1,s1⟩:=jO 3 e4;have er':=e5.getL er (by simpa using hrs);refine⟨.int ys[k],[some (.int ys[k]),some (.ref st)],NY er' hk',rfl,.inr ⟨H',[some (.int ys[k]),some (.ref st)],(ms++[r]).map Dv.int,H1,rfl, ?_,_,ms++[r],rfl,rfl,by simp[e3],s1,e5.trans f1 (by simp)⟩⟩;have hz:ms.length<1000000:=by omega
   simp[bN,aE,aB,aA,mC,aC,t1,hz]) (λρ H' acc ⟨_,_,_,_,_,_,e5⟩=>NZ (e5.getL er (by simpa using hrs))) ys.length 0 [none,some (.ref st)] H [] (by simp[cE]) ⟨none,[],rfl,rfl,rfl,s,Fr.refl⟩
 refine⟨ms,H',h4, ?_,h5,h6⟩;have hc:kA [some (.ref st),x1,x2,some (.ref ir),x4,x5,x6,x7,x8,x9] H=.ok (ms.map Dv.int) H':=by unfold kA bU;rw[hi,Rs.bind_ok];have hcap:lE [none,some 0] [some (.ref st),x1,x2,some (.ref ir),x4,x5,x6,x7,x8,x9]=[none,some (.ref st)]:=rfl;rw[hcap,show(cE ir ys.length).n=ys.length from rfl,h1];dsimp only;rw[h3]
 unfold o6 aK bM;rw[hc];rfl
theorem mE {H:Hs}(s:St st H):∃(n:Nat) (cs:List (Int×Int)) (H':Hs),F_qm [.ref st,.int 6] H=.ok (aM n cs) H'/\OrdP n cs/\St st H'/\Fr [st] H H':=by
 have lt:=s.lt;obtain⟨v,H1,v0,v1,w1,s1,f1'⟩:=lZ (m:=6) (x2:=none) (x3:=none) (x4:=none) (x5:=none) (x6:=none) (x7:=none) (x8:=none) (x9:=none) s;obtain⟨n,hn⟩:∃n:Nat,(6:Int) - v=n:=⟨(6 - v).toNat,by omega⟩
 have n1:1<=n:=by omega
 have n6:n<=6:=by omega
 rw[hn]at w1;have w2:o2 [some (.ref st),some (.int 6),some (.int n),none,none,none,none,none,none,none] H1=.nx [some (.ref st),some (.int 6),some (.int n),none,none,none,none,none,none,none] H1:=by
  have hm:mO [.int 1,.int (n:Int)] H1=.ok (.int n) H1:=by
   show Rs.ok (Dv.int (if(n:Int)>1 then(n:Int)else 1)) H1=_
   split
   ·rfl
   ·rw[show(1:Int)=n by omega]
  simp[o2,aK,aE,aB,mC,aA,aC,hm,aF]
 have hL:lO (.int n) H1=.ok (.ref H1.length) (H1++[.lst ((cA n).map Dv.int)]):=by
  have c:(decide (0<=(n:Int))&&decide ((n:Int)<=1000))=true:=by simp;omega
  simp only[lO,c,if_true]
 have fL:Fr [] H1 (H1++[Ob.lst ((cA n).map Dv.int)]):=Fr.app;obtain⟨ir,ys,H2,t2,er,pm,hir,s2,f2⟩:=z26 (s1.fr fL (by simp)) (j:=H1.length) (xs:=cA n) (by simp[getL]) (by simp[cA];omega);have l1:=s1.lt;have hir':H1.length+1<=ir:=by simpa using hir
 have w3:o3 [some (.ref st),some (.int 6),some (.int n),none,none,none,none,none,none,none] H1=.nx [some (.ref st),some (.int 6),some (.int n),some (.ref ir),none,none,none,none,none,none] H2:=by simp[o3,aK,aE,aB,aA,aC,f1,hL,t2,aF]
 have hy:ys.length=n:=by rw[pm.length_eq];simp[cA]
 obtain⟨w,H3,w0,w5,t3,f3,s3⟩:=jO 5 s2;have er3:=f3.getL er (by simp;omega);have w4:o4 [some (.ref st),some (.int 6),some (.int n),some (.ref ir),none,none,none,none,none,none] H2=.nx [some (.ref st),some (.int 6),some (.int n),some (.ref ir),some (.int w),none,none,none,none,none] H3:=by simp[o4,aK,aE,aB,aA,mC,aC,t3,aF]
 have w5':o5 [some (.ref st),some (.int 6),some (.int n),some (.ref ir),some (.int w),none,none,none,none,none] H3=.nx [some (.ref st),some (.int 6),some (.int n),some (.ref ir),some (.int w),some (.ref H3.length),none,none,none,none] (H3++[.lst []]):=rfl;have fM:Fr [] H3 (H3++[Ob.lst []]):=Fr.app;have eP:getL (H3++[Ob.lst []]) H3.length=some (([]:List (Int×Int)).map aH):=by simp[getL]
 have l2:=lL er;have l3:=lL er3;have l4:=s3.lt;obtain⟨ms,H4,hm,w6,s4,f4⟩:=mD (x1:=some (.int 6)) (x2:=some (.int n)) (x4:=some (.int w)) (x5:=some (.ref H3.length)) (x6:=none) (x7:=none) (x8:=none) (x9:=none) (s3.fr fM (by simp)) (fM.getL er3 (by simp)) (by omega) (by omega);have eP4:=f4.getL eP (by simp;omega);have er4:=f4.getL (fM.getL er3 (by simp)) (by simp;omega);have hle:H3.length+1<=H4.length:=by have:=f4.le;simpa using this
 have fN:Fr [] H4 (H4++[Ob.lst (ms.map Dv.int)]):=Fr.app;have D:Std st ir H4.length ys ms (H4++[Ob.lst (ms.map Dv.int)]):=⟨s4.fr fN (by simp),fN.getL er4 (by simp),by simp[getL]⟩
 obtain⟨x7,x8,x9,H5,ps,w7,eP5,hb,D5,f5⟩:=lX (d1:=.int 6) (w:=w) (ip:=H3.length) (n:=n) (x7:=none) (x8:=none) (x9:=none) D (fN.getL eP4 (by simp)) ⟨w0,w5⟩ n6 hy (by omega) (by omega) (by omega) (by omega) (by omega) (by omega);have fall:Fr [st] H H5:=by
  have g1:Fr [st] H H2:=(f1'.trans fL (by simp)).trans f2 (by simp);have g2:Fr [st] H (H3++[Ob.lst []]):=(g1.trans f3 (by simp)).trans fM (by simp);have g3:Fr [st] H (H4++[Ob.lst (ms.map Dv.int)]):=(g2.trans f4 (by simp)).trans fN (by simp);refine g3.trans f5 λj hj=>?_
  rcases ay.mp hj with rfl|hj
  ·exact .inl (by simp)
  ·rw[df.mp hj];have:=f1'.le;have:=f2.le;have:=f3.le;right;omega
 have fin:∀(q:Nat) (y7:Option Dv) (H6:Hs) (qs:List (Int×Int)),getL H6 q=some (qs.map aH)->zA n qs->Fr [] H5 H6->o8 (bZ st ir H3.length H4.length n w (.int 6) x7 x8 x9) H5=.nx (bZ st ir q H4.length n w (.int 6) y7 x8 x9) H6->
   ∃(cs:List (Int×Int)) (H':Hs),F_qm [.ref st,.int 6] H=.ok (aM n cs) H'/\OrdP n cs/\St st H'/\Fr [st] H H':=λq y7 H6 qs eq6 g6 f6 w8=>by
  obtain⟨cs,j,H7,hc,tc,ec,f7⟩:=z2g n6 g6.1 (N4 eq6);refine⟨cs,H7, ?_,z2h n1 n6 g6 hc,(D5.s.fr f6 (by simp)).fr f7 (by simp),(fall.trans f6 (by simp)).trans f7 (by simp)⟩;have w9:o9 (bZ st ir q H4.length n w (.int 6) y7 x8 x9) H6=.rt (aM n cs) H7:=by
   have h1:aE F_qh (aB (aA 5) aC) (bZ st ir q H4.length n w (.int 6) y7 x8 x9) H6=.ok (.ref j) H7:=by simp[aE,aB,aA,aC,tc]
   have h2:aE (f1 gN) (aB (aE F_qh (aB (aA 5) aC)) aC) (bZ st ir q H4.length n w (.int 6) y7 x8 x9) H6=.ok (.tup (cs.map aH)) H7:=by
    have h0:aB (aE F_qh (aB (aA 5) aC)) aC (bZ st ir q H4.length n w (.int 6) y7 x8 x9) H6=.ok [.ref j] H7:=by show(aE F_qh (aB (aA 5) aC) (bZ st ir q H4.length n w (.int 6) y7 x8 x9) H6).bind _=_;rw[h1];rfl
    show(aB (aE F_qh (aB (aA 5) aC)) aC (bZ st ir q H4.length n w (.int 6) y7 x8 x9) H6).bind _=_;rw[h0];simp[f1,gN,ec]
   unfold o9 aO aL;rw[show aB (aA 2) (aB (aE (f1 gN) (aB (aE F_qh (aB (aA 5) aC)) aC)) aC) (bZ st ir q H4.length n w (.int 6) y7 x8 x9) H6=.ok [.int n,.tup (cs.map aH)] H7 by unfold aB;show((Rs.ok (Dv.int n) H6).bind _)=_;rw[Rs.bind_ok];show((aE (f1 gN) (aB (aE F_qh (aB (aA 5) aC)) aC) (bZ st ir q H4.length n w (.int 6) y7 x8 x9) H6).bind _).bind _=_;rw[h2];rfl];rfl
  show aW (iV [some (.ref st),some (.int 6),none,none,none,none,none,none,none,none] H)=_;rw[lY,bE w1,bE w2,bE w3,bE w4,bE w5',bE w6,bE w7,bE w8,w9];rfl
 have t8:mB (m2 bL (aA 4) (mC (.int 3))) (bZ st ir H3.length H4.length n w (.int 6) x7 x8 x9) H5=.ok (w==3) H5:=by simp[mB,m2,aA,mC,oU,dI]
 by_cases h3:w=3
 ·have fQ:Fr [] H5 (H5++[Ob.lst []]):=Fr.app;obtain⟨q,y7,H6,qs,k1,k2,k3,k4⟩:=z2l (st:=st) (ir:=ir) (im:=H4.length) (n:=n) (w:=w) (d1:=.int 6) (ip0:=H5.length) (x7:=x7) (x8:=x8) (x9:=x9) (D5.fr fQ (D5.s.fr fQ (by simp)) (by simp) (by simp)) (by simp[getL]) n6 (by omega);obtain⟨cs,H',r⟩:=fin q y7 H6 qs k2 (z2j k3) (fQ.trans k4 (by simp)) (by unfold o8;have wA:aK (aR aC) (aF 5) (bZ st ir H3.length H4.length n w (.int 6) x7 x8 x9) H5=.nx (bZ st ir H5.length H4.length n w (.int 6) x7 x8 x9) (H5++[Ob.lst []]):=rfl;rw[lM (t8.trans (by rw[h3];rfl)),bE wA,k1]);exact⟨n,cs,H',r⟩
 ·obtain⟨cs,H',r⟩:=fin H3.length x7 H5 ps eP5 (z2i pm hb) Fr.refl (by
   unfold o8;have:(w==3)=false:=by simpa using h3
   rw[iT (t8.trans (by rw[this]))];rfl)
  exact⟨n,cs,H',r⟩
end
end L2.Mr.Com
namespace L2
open PySem PySem.Spec PyProof.Rows
section
variable{X:Cx}{D:ai}
end
section
variable{X:Cx}
end
end L2
namespace L2.Mr
open PySem PySem.Spec PyProof.Rows
section
variable{M:Bg}{A:cf}{E:af->ag->Prop}{s:ag}{base:cu}{env:Env}{outer:List Env}{L e T:ai}{C a0:af}{Q:Unit->ag->Prop}
end
section
variable{P:bh}{w:cn}{M:Bg}{A:cf}{E:af->ag->Prop}{s:ag}{H H0:Hp}{base:cu}{env:Env}{outer:List Env}{L e:ai}{C:af}{Q:Unit->ag->Prop}
end
section
variable{P:bh}{w:cn}{K:aq}{mg:Str->Option af}{base:cu}{N:List Str}{qual:Str}{scope:iq}{f:ai}{cdv:af}{A:cf}{outer:List Env}{s0:ag}{H0:Hp}{E0:XK}{G:Cfg}{E:XK}{k:Nat}
end
section
variable{G:Cfg}
end
section
variable{X:Cx}{G:Cfg}{E:XK}{elt tg iter:bq}{ifs:List bq}{sc:iq}{ps pos:Pos}{mi:M Src}{st:dC}{test:M Bool}{me:M Dv}{N:List Str}{cap:List (Option Nat)}
end
section
variable{P:bh}{w:cn}{K:aq}{mg:Str->Option af}{base:cu}{N:List Str}{qual:Str}{f:ai}{G:Cfg}{k:Nat}
end
end L2.Mr
namespace L2.Mr.Cod
open PySem PySem.Spec PyProof.Rows L2 L2.Mr L2.Mr.Com
def uK:MS:=(aX (cB (bC (aE F_q0 (aB (aA 0) aC)))) (tK 0 (aB (mC (.str "this is no order")) aC)) bG)
def F_qr:List Dv->Hs->Rs Dv:=aT 1 1 (uK)
def rN:MS:=(aI (aK (m2 aQ (aA 0) (mC (.int 1))) (aF 3)) (aO (cZ (m2 bQ (aA 1) (aA 2)) (cZ (m2 (eM true) (aL (aB (aA 1) (aB (aA 2) aC))) (aA 3)) (m2 (eM true) (aL (aB (aA 2) (aB (aA 1) aC))) (aA 3))))))
def F_qv:List Dv->Hs->Rs Dv:=aT 3 4 (rN)
def uN:MS:=(aI (aK (aR aC) (aF 1)) (aI (dN (aS cN (aB (m2 aQ (aA 0) (mC (.int 0))) aC)) (aF 2) (dN (aS gX (aB (m2 bA (aA 2) (mC (.int 1))) (aB (m2 aQ (aA 0) (mC (.int 0))) aC))) (aF 3) (aX (jA (mB (m2 (eM true) (aL (aB (aA 2) (aB (aA 3) aC))) (m2 aQ (aA 0) (mC (.int 1))))) (mB (m2 (eM true) (aL (aB (aA 3) (aB (aA 2) aC))) (m2 aQ (aA 0) (mC (.int 1)))))) (cS (kK (aA 1) (aL (aB (aA 2) (aB (aA 3) aC))))) bG))) (aO (aA 1))))
def F_ql:List Dv->Hs->Rs Dv:=aT 1 4 (uN)
open L2.Mr.Com hiding iU F_qh iV F_qm iW F_qa
section
variable{st n:Nat}
end
section
variable{n i:Nat}{H:Hs}{S:List (Int×Int)}{m a b:Int}{x0 x1 x3 x4 x5:Option Dv}
end
open L2.Mr.Com hiding iU F_qh iV F_qm iW F_qa oB lV lW lX jP jZ o1 o2 o3 o4 o5 o6 kA o8 o9 lY lZ mD mE bZ
section
variable{st ip im n:Nat}{ys ms:List Int}{w:Int}{d1:Dv}
end
section
variable{st:Nat}
end
end L2.Mr.Cod
namespace L2.Mr.K01
open PySem PySem.Spec PyProof.Rows L2 L2.Mr L2.Mr.Com
end L2.Mr.K01
namespace L2.Mr.Com
open PySem PySem.Spec PyProof.Rows L2 L2.Mr
def T0 (H:Hs):Dv->Prop
 | .ref i=>∃xs,getL H i=some xs
 | .exc _=>False
 | .scr=>False
 |_=>True
def TK:Nat->Hs->Dv->Prop
 |0,H,d=>T0 H d
 |k+1,H,d=>T0 H d/\∀ds,d=.tup ds->ds.length<=500/\∀x∈ds,TK k H x
theorem TK.t0:∀{k:Nat}{H:Hs}{d:Dv},TK k H d->T0 H d
 |0,_,_,h=>h
 |_+1,_,_,h=>h.1
theorem TK.tup {k:Nat}{H:Hs}{ds:List Dv}(hl:ds.length<=500) (h:∀x∈ds,TK k H x):TK (k+1) H (.tup ds):=⟨trivial,λ_ e=>by cases e;exact⟨hl,h⟩⟩
theorem TK.of {k:Nat}{H:Hs}{d:Dv}(h0:T0 H d) (h:∀ds,d≠.tup ds):TK k H d:=by
 cases k with
 |zero=>exact h0
 |succ k=>exact⟨h0,λds e=>absurd e (h ds)⟩
theorem T0.fr {st:Nat}{H H':Hs}{d:Dv}(h:T0 H d) (f:Fr [st] H H') (s:St st H'):T0 H' d:=by
 cases d with
 |ref i=>
  obtain⟨xs,e⟩:=h
  by_cases c:i=st
  ·subst c;obtain⟨a,b,e⟩:=s;exact⟨_,e⟩
  ·exact⟨xs,f.getL e (by simpa using c)⟩
 |_=>exact h
theorem TK.fr {st:Nat}{H H':Hs}(f:Fr [st] H H') (s:St st H'):∀{k:Nat}{d:Dv},TK k H d->TK k H' d
 |0,_,h=>T0.fr h f s
 |k+1,_,h=>⟨h.1.fr f s,λds e=>⟨(h.2 ds e).1,λx hx=>TK.fr f s ((h.2 ds e).2 x hx)⟩⟩
def nK:Dv->Bool
 | .tup _=>true
 |_=>false
def isInt:Dv->Bool
 | .int _=>true
 |_=>false
section
variable{H:Hs}{d:Dv}{n:Int}
theorem zD (h:T0 H d):bD fR d H=.ok (.bl (nK d)) H:=by
 cases d with
 |ref i=>obtain⟨xs,e⟩:=h;simp[bD,hX,e,fR,nK]
 |exc c=>exact h.elim
 |scr=>exact h.elim
 |_=>rfl
theorem N8 (h:T0 H d):bD pR d H=.ok (.bl (match d with | .int _=>true | .bl _=>true|_=>false)) H:=by
 cases d with
 |ref i=>obtain⟨xs,e⟩:=h;simp[bD,hX,e,pR]
 |exc c=>exact h.elim
 |scr=>exact h.elim
 |_=>rfl
theorem N9 (h:T0 H d):bD kM d H=.ok (.bl (match d with | .bl _=>true|_=>false)) H:=by
 cases d with
 |ref i=>obtain⟨xs,e⟩:=h;simp[bD,hX,e,kM]
 |exc c=>exact h.elim
 |scr=>exact h.elim
 |_=>rfl
theorem z2m (h:T0 H d):F_q2 [d] H=.ok (.bl (isInt d)) H:=by
 have e1:=N8 h;have e2:=N9 h
 cases d <;> simp[F_q2,DE,aT,bR,aO,cZ,m1,aA,e1,e2,nY,aW,isInt]
def oV (lo hi:Int):Dv->Bool
 | .int x=>decide (lo<=x)&&decide (x<=hi)
 |_=>false
theorem OA {lo hi:Int}(h:T0 H d):F_qq [d,.int lo,.int hi] H=.ok (.bl (oV lo hi d)) H:=by
 have w:=z2m h
 cases d with
 |int x=>exact EX
 |_=>simp[F_qq,xS,aT,bR,aO,cZ,aE,aB,aA,aC,w,isInt,aW,oV]
def tB (n:Int) (d:Dv):Bool:=oV 0 (n - 1) d
theorem z2n (h:T0 H d):F_q1 [.int n,d] H=.ok (.bl (tB n d)) H:=by simp[F_q1,DF,aT,bR,aO,aE,aB,aA,aC,mC,m2,gF,iE,OA h,aW,tB]
def kB (n:Int):Dv->Bool
 | .tup ys=>ys.all (tB n)
 |_=>false
theorem OB (h:TK 1 H d):F_qp [.int n,d] H=.ok (.bl (kB n d)) H:=by
 have e:=zD h.1
 cases d with
 |tup xs=>obtain⟨hl,hx⟩:=h.2 xs rfl;have h:bU (bS eV (aA 1)) [none,some 0] (aF 0) dO (bN (aE F_q1 (aB (aA 1) (aB (aA 0) aC)))) [some (.int n),some (.tup xs)] H=.ok (xs.filterMap λx=>some (.bl (tB n x))) H:=gU xs (λx=>some (.bl (tB n x))) (λρ=>∃a,ρ=[a,some (.int n)]) rfl (by simp[cT]) ⟨_,rfl⟩ rfl (λk hk ρ ⟨a,e⟩=>by subst e;exact⟨xs[k],_,by simp[cT,hk],rfl,⟨_,rfl⟩,rfl,by simp[aE,aB,aA,aC,z2n (hx xs[k] (cx hk))]⟩) (by omega);simp[F_qp,xT,aT,bR,aO,cZ,m1,bD,aA,hX,fR,qB h,aW,kB]
 |_=>simp[F_qp,xT,aT,bR,aO,cZ,m1,aA,e,nK,aW,kB]
def pB (n:Int):Dv->Bool
 | .tup ys=>ys.all (tB n)&&decide (ys.length=2)
 |_=>false
theorem z2o (ys:List Dv):f1 cD [.tup ys] H=.ok (.int ys.length) H:=rfl
theorem z2p (h:TK 1 H d):F_q4 [.int n,d] H=.ok (.bl (pB n d)) H:=by
 have h1:=OB (n:=n) h
 cases d with
 |tup ys=>
  cases q:ys.all (tB n)with
  |false=>simp[F_q4,rM,aT,bR,aO,cZ,aE,aB,aA,aC,h1,kB,pB,q,aW]
  |true=>
   have e:((ys.length:Int)==2)=decide (ys.length=2):=by rw[dh];simp;omega
   simp[F_q4,rM,aT,bR,aO,cZ,aE,aB,aA,aC,h1,kB,pB,q,aW,m2,z2o,mC,oU,e]
 |_=>simp[F_q4,rM,aT,bR,aO,cZ,aE,aB,aA,aC,h1,kB,pB,aW]
theorem z2q {xs:List Dv}(h:TK 2 H (.tup xs)):F_qw [.int n,.tup xs] H=.ok (.bl (xs.all (pB n))) H:=by obtain⟨hl,hx⟩:=h.2 xs rfl;have h:bU (bS eV (aA 1)) [none,some 0] (aF 0) dO (bN (aE F_q4 (aB (aA 1) (aB (aA 0) aC)))) [some (.int n),some (.tup xs)] H=.ok (xs.filterMap λp=>some (.bl (pB n p))) H:=gU xs (λp=>some (.bl (pB n p))) (λρ=>∃a,ρ=[a,some (.int n)]) rfl (by simp[cT]) ⟨_,rfl⟩ rfl (λk hk ρ ⟨a,e⟩=>by subst e;exact⟨xs[k],_,by simp[cT,hk],rfl,⟨_,rfl⟩,rfl,by simp[aE,aB,aA,aC,z2p (hx xs[k] (cx hk))]⟩) (by omega);simp[F_qw,DG,aT,bR,aO,qB h,aW]
def qD:Dv->Option (Int×Int)
 | .tup [.int a,.int b]=>some (a,b)
 |_=>none
theorem z2r {x:Dv}(h:pB n x=true):∃p,x=aH p/\qD x=some p:=by
 match x,h with
 | .tup [.int a,.int b],_=>exact⟨(a,b),rfl,rfl⟩
 | .tup [a,b],h=>
  simp[pB]at h;obtain⟨h1,h2⟩:=h
  cases a <;> first|(cases h1;done)|skip
  cases b <;> first|(cases h2;done)|skip
  exact⟨_,rfl,rfl⟩
 | .tup [],h=>simp[pB]at h
 | .tup [_],h=>simp[pB]at h
 | .tup (_::_::_::_),h=>simp[pB]at h
theorem OC:∀{xs:List Dv},(∀x∈xs,∃p,x=aH p/\qD x=some p)->xs=(xs.filterMap qD).map aH
 | [],_=>rfl
 |x::xs,h=>by obtain⟨p,e,q⟩:=h x (by simp);rw[List.filterMap_cons_some q,dk,<-OC λy hy=>h y (by simp[hy]),<-e]
def fK:Dv->Bool
 | .tup [.int n,.tup xs]=>xs.all (pB n)&&rR n (xs.filterMap qD)
 |_=>false
theorem hY {ds:List Dv}(h:ds.length≠2):∃L:Int,f1 cD [.tup ds] H=.ok (.int L) H/\bQ (.int L) (.int 2) H=.ok (.bl true) H:=by
 refine⟨ds.length,rfl, ?_⟩;have:((ds.length:Int)==2)=false:=by simp;omega
 simp[bQ,bW,bF,bI,this]
theorem E7 {ds:List Dv}(h:ds.length≠2):F_q0 [.tup ds] H=.ok (.bl false) H:=by obtain⟨L,hlen,hne⟩:=hY (H:=H) h;have e:bD fR (.tup ds) H=.ok (.bl true) H:=rfl;simp[F_q0,pY,aT,bR,aI,aX,dQ,cB,bC,m1,aA,mB,m2,aE,aB,aC,mC,aO,e,eJ,hlen,hne,dI,aW]
theorem E8 {ds:List Dv}(h:ds.length≠2):fK (.tup ds)=false:=by
 unfold fK
 split
 ·rename_i e;cases e;simp at h
 ·rfl
theorem z2s (h:TK 3 H d):F_q0 [d] H=.ok (.bl (fK d)) H:=by
 have e:=zD h.1
 cases d with
 |tup ds=>
  obtain⟨hl,hx⟩:=h.2 ds rfl
  match ds,hl,hx,e,h with
  | [a,b],hl,hx,e,h=>
   have ha:=hx a (by simp);have hb:=hx b (by simp);have b1:=OA (lo:=1) (hi:=6) ha.t0;have b2:=zD hb.t0;have hlen:f1 cD [.tup [a,b]] H=.ok (.int 2) H:=rfl
   cases q1:oV 1 6 a with
   |false=>
    rw[q1]at b1;have:fK (.tup [a,b])=false:=by
     cases a with
     |int n=>
      cases b with
      |tup xs=>
       have:¬ (1<=n/\n<=6):=by simpa[oV]using q1
       simp only[fK,Bool.and_eq_false_iff];right;unfold rR
       by_cases c:1<=n
       ·have:¬ n<=6:=λc'=>this ⟨c,c'⟩;simp[this]
       ·simp[c]
      |_=>rfl
     |_=>rfl
    rw[this];simp[F_q0,pY,aT,bR,aI,aX,dQ,cB,bC,m1,aA,e,nK,eJ,mB,m2,aE,aB,aC,hlen,mC,bQ,bW,bF,bI,dI,bG,aK,cL,bH,aF,cM,b1,aO,aW]
   |true=>
    rw[q1]at b1
    cases a with
    |int n=>
     cases b with
     |tup xs=>
      have p1:=z2q (n:=n) hb
      cases q2:xs.all (pB n)with
      |false=>rw[q2]at p1;simp[fK,q2,F_q0,pY,aT,bR,aI,aX,dQ,cB,bC,m1,aA,e,b2,nK,eJ,mB,m2,aE,aB,aC,hlen,mC,bQ,bW,bF,bI,dI,bG,aK,cL,bH,aF,cM,b1,p1,aO,aW]
      |true=>
       have ex:=OC λx hx=>z2r (fj.mp q2 x hx);have hle:(xs.filterMap qD).length<=900:=by have:=oi qD xs;have:=(hb.2 xs rfl).1;omega
       have:=NV (H:=H) (n:=n) (ps:=xs.filterMap qD) hle;rw[<-ex]at this;rw[this];simp[fK,q2]
     |_=>simp[fK,F_q0,pY,aT,bR,aI,aX,dQ,cB,bC,m1,aA,e,b2,nK,eJ,mB,m2,aE,aB,aC,hlen,mC,bQ,bW,bF,bI,dI,bG,aK,cL,bH,aF,cM,b1,aO,aW]
    |_=>cases q1
  | [],hl,hx,e,h=>exact(E7 (by simp)).trans (by rw[E8 (by simp)])
  | [a],hl,hx,e,h=>exact(E7 (by simp)).trans (by rw[E8 (by simp)])
  |a::b::c::r,hl,hx,e,h=>exact(E7 (by simp)).trans (by rw[E8 (by simp)])
 |_=>simp[F_q0,pY,aT,bR,aI,aX,dQ,cB,bC,m1,aA,e,nK,eJ,mC,aO,aW,fK]
end
section
variable{H:Hs}{d:Dv}{n:Int}
end
section
variable{H:Hs}{d:Dv}
end
theorem T0.fr0 {H H':Hs}{d:Dv}(h:T0 H d) (f:Fr [] H H'):T0 H' d:=by
 cases d with
 |ref i=>obtain⟨xs,e⟩:=h;exact⟨xs,f.getL e (by simp)⟩
 |_=>exact h
theorem TK.fr0 {H H':Hs}(f:Fr [] H H'):∀{k:Nat}{d:Dv},TK k H d->TK k H' d
 |0,_,h=>T0.fr0 h f
 |k+1,_,h=>⟨h.1.fr0 f,λds e=>⟨(h.2 ds e).1,λx hx=>TK.fr0 f ((h.2 ds e).2 x hx)⟩⟩
def OD (P:Ev->Hs->Prop):Prop:=∀ρ H H',P ρ H->Fr [] H H'->P ρ H'
def Wr (P:Ev->Hs->Prop) (k:Nat) (m:M Dv):Prop:=∀ρ H,P ρ H->∃d H',m ρ H=.ok d H'/\Fr [] H H'/\TK k H' d
def mF (P:Ev->Hs->Prop) (k n:Nat) (ms:M (List Dv)):Prop:=∀ρ H,P ρ H->∃ds H',ms ρ H=.ok ds H'/\Fr [] H H'/\ds.length=n/\∀x∈ds,TK k H' x
section
variable{P:Ev->Hs->Prop}{k n m':Nat}{m:M Dv}{ms:M (List Dv)}
theorem E9:mF P k 0 aC:=λρ H _=>⟨[],H,rfl,Fr.refl,rfl,λx hx=>by cases hx⟩
theorem FA (hP:OD P) (h:Wr P k m) (hs:mF P k n ms):mF P k (n+1) (aB m ms):=λρ H p=>by
 obtain⟨d,H1,e1,f1,t1⟩:=h ρ H p;obtain⟨ds,H2,e2,f2,l2,t2⟩:=hs ρ H1 (hP ρ H H1 p f1);refine⟨d::ds,H2, ?_,f1.trans f2 (by simp),by simp[l2],λx hx=>?_⟩
 ·unfold aB;rw[e1,Rs.bind_ok,e2,Rs.bind_ok]
 ·rcases ay.mp hx with rfl|hx
  ·exact t1.fr0 f2
  ·exact t2 x hx
theorem uY (h:∀ρ H,P ρ H->∃d,m ρ H=.ok d H/\TK k H d):Wr P k m:=λρ H p=>let ⟨d,e,t⟩:=h ρ H p;⟨d,H,e,Fr.refl,t⟩
theorem FC {i:Int}:Wr P k (mC (.int i)):=uY λρ H _=>⟨_,rfl,TK.of trivial λ_ e=>by cases e⟩
theorem FD {i:Bool}:Wr P k (mC (.bl i)):=uY λρ H _=>⟨_,rfl,TK.of trivial λ_ e=>by cases e⟩
theorem FE:Wr P k (mC .non):=uY λρ H _=>⟨_,rfl,TK.of trivial λ_ e=>by cases e⟩
theorem FF {s}:Wr P k (mC (.str s)):=uY λρ H _=>⟨_,rfl,TK.of trivial λ_ e=>by cases e⟩
theorem FG:Wr P k (mC .edc):=uY λρ H _=>⟨_,rfl,TK.of trivial λ_ e=>by cases e⟩
theorem zE (h:mF P k n ms) (hn:n<=500):Wr P (k+1) (aL ms):=λρ H p=>by obtain⟨ds,H1,e1,f1,l1,t1⟩:=h ρ H p;refine⟨.tup ds,H1, ?_,f1,TK.tup (by omega) t1⟩;unfold aL lim;rw[e1,Rs.bind_ok,if_pos (by omega)]
theorem FH (h:mF P 0 n ms) (hn:n<=500):Wr P 0 (aL ms):=λρ H p=>let ⟨d,H',e,f,t⟩:=zE h hn ρ H p;⟨d,H',e,f,t.1⟩
theorem FI (h:mF P 0 n ms) (hn:n<=500):Wr P k (aR ms):=λρ H p=>by obtain⟨ds,H1,e1,f1,l1,t1⟩:=h ρ H p;refine⟨.ref H1.length,H1++[.lst ds], ?_,f1.trans (T:=[]) Fr.app (by simp),TK.of ⟨ds,by simp[getL]⟩ λ_ e=>by cases e⟩;unfold aR lim;rw[e1,Rs.bind_ok,if_pos (by omega)]
end
def uZ:M (List Dv):=(aB (mC .non) (aB (mC (.int 0)) (aB (aL aC) (aB (aL (aB (mC (.int 0)) (aB (aL aC) aC))) (aB (aL (aB (mC (.int 7)) (aB (aL aC) aC))) (aB (aL (aB (mC (.bl true)) (aB (aL aC) aC))) (aB (aL (aB (mC (.int 2)) (aB (aR aC) aC))) (aB (aR (aB (mC (.int 2)) (aB (aL aC) aC))) (aB (aL (aB (mC (.int 2)) (aB (aL (aB (aL (aB (mC (.int 0)) (aB (mC (.int 1)) aC))) (aB (aL (aB (mC (.int 0)) (aB (mC (.int 1)) aC))) aC))) aC))) (aB (aL (aB (mC (.int 2)) (aB (aL (aB (aL (aB (mC (.int 1)) (aB (mC (.int 0)) aC))) (aB (aL (aB (mC (.int 0)) (aB (mC (.int 1)) aC))) aC))) aC))) aC))))))))))
def vA:M (List Dv):=(aB (aL (aB (mC (.int 3)) (aB (aL (aB (aL (aB (mC (.int 0)) (aB (mC (.int 1)) aC))) (aB (aL (aB (mC (.int 1)) (aB (mC (.int 2)) aC))) aC))) aC))) (aB (aL (aB (mC (.int 2)) (aB (aL (aB (aL (aB (mC (.int 0)) (aB (mC (.int 0)) aC))) aC)) aC))) (aB (aL (aB (mC (.int 2)) (aB (aL (aB (aL (aB (mC (.int 0)) (aB (mC (.int 2)) aC))) aC)) aC))) (aB (aL (aB (mC (.int 2)) (aB (aL (aB (aL (aB (mC (.int 0)) (aB (mC (.bl true)) aC))) aC)) aC))) (aB (aL (aB (mC (.int 2)) (aB (aL (aB (aL (aB (mC (.int 0)) (aB (mC (.int 1)) (aB (mC (.int 1)) aC)))) aC)) aC))) (aB (mC .edc) aC))))))
def vB:M (List Dv):=(aB (mC (.str "2:")) (aB (aL (aB (mC (.int 2)) (aB (aL (aB (mC (.int 0)) (aB (mC (.int 1)) aC))) aC))) (aB (aL (aB (mC (.int 3)) (aB (aL (aB (aL (aB (mC (.int 0)) (aB (mC (.int 2)) aC))) (aB (aL (aB (mC (.int 0)) (aB (mC (.int 1)) aC))) aC))) aC))) (aB (aL (aB (mC (.int 2)) (aB (mC .non) aC))) (aB (aL (aB (mC (.int 2)) (aB (aL aC) (aB (aL aC) aC)))) (aB (aL (aB (mC (.int 2)) aC)) (aB (aL (aB (mC (.int 2)) (aB (aL (aB (aR (aB (mC (.int 0)) (aB (mC (.int 1)) aC))) aC)) aC))) (aB (aL (aB (mC (.int 2)) (aB (aL (aB (mC .non) aC)) aC))) aC))))))))
theorem z2t:iW=aI (aK (aR uZ) (aF 1)) (aI (aK (m2 bA (aA 1) (aR vA)) (aF 1)) (aI (aK (m2 bA (aA 1) (aR vB)) (aF 1)) (aO (m2 aQ (aA 1) (aE F_qu (aB (aA 0) (aB (mC (.int 24)) aC))))))):=rfl
theorem vC {ρ:Ev}{H H1 H2:Hs}{st i j:Nat}{ml:M Dv}(hv:aA st ρ H=.ok (.ref i) H) (e1:ml ρ H=.ok (.ref j) H1) (e2:bA (.ref i) (.ref j) H1=.ok (.ref H1.length) H2):m2 bA (aA st) ml ρ H=.ok (.ref H1.length) H2:=by unfold m2;rw[hv,Rs.bind_ok,e1,Rs.bind_ok,e2]
end L2.Mr.Com
namespace L2.Mr.Cod
open PySem PySem.Spec PyProof.Rows L2 L2.Mr
open L2.Mr.Com hiding iU F_qh iV F_qm iW F_qa oB lV lW lX jP jZ o1 o2 o3 o4 o5 o6 kA o8 o9 lY lZ mD mE bZ
section
variable{H:Hs}
theorem FJ {n:Nat}{x:Int}:F_qs (n+1) [.int x,.int x] H=.ok (.bl true) H:=by simp[F_qs,uH,aT,bR,aI,aX,bC,m1,bD,aA,hX,rE,eJ,bG,aO,cZ,m2,bL,bW,bF,bI,kM,aW]
theorem OE {n:Nat}{xs:List Dv}(hl:xs.length<=1000) (h:∀x∈xs,F_qs n [x,x] H=.ok (.bl true) H):F_qs (n+1) [.tup xs,.tup xs] H=.ok (.bl true) H:=by
 have hc:bU (aS oG (aB (aA 0) (aB (aA 1) aC))) [none,none] (cL 2 (bH (aF 0) (bH (aF 1) cM))) dO (bN (aE (F_qs n) (aB (aA 0) (aB (aA 1) aC)))) [some (.tup xs),some (.tup xs)] H=.ok (xs.filterMap λx=>some (.bl ((λ_=>true) x))) H:=gU xs (λx=>some (.bl ((λ_=>true) x))) (λρ=>∃a b,ρ=[a,b]) rfl (by simp[oF,cT]) ⟨_,_,rfl⟩ rfl (λk hk ρ ⟨a,b,e⟩=>by subst e;refine⟨.tup [xs[k],xs[k]],[some xs[k],some xs[k]],by simp[oF,cT,hk],rfl,⟨_,_,rfl⟩,rfl, ?_⟩;simp[aE,aB,aA,aC,h xs[k] (cx hk)]) (by omega);have hz:=qB hc;have ht:xs.all (λ_=>true)=true:=by simp
 rw[ht]at hz;have e1:bD rE (.tup xs) H=.ok (.bl true) H:=rfl;have e2:bD fR (.tup xs) H=.ok (.bl true) H:=rfl;have e3:bD tU (.tup xs) H=.ok (.bl false) H:=rfl;have e4:f1 cD [.tup xs] H=.ok (.int xs.length) H:=rfl;have n1:bQ (.bl true) (.bl true) H=.ok (.bl false) H:=rfl;have n2:bQ (.bl false) (.bl false) H=.ok (.bl false) H:=rfl;have n3:∀i:Int,bQ (.int i) (.int i) H=.ok (.bl false) H:=λi=>by simp[bQ,bW,bF,bI]
 simp[F_qs,uH,aT,bR,aI,aX,bC,m1,aA,e1,e2,e3,eJ,dQ,mB,m2,n1,n2,dI,bG,aE,aB,aC,e4,n3,aO,hz,aW]
theorem OF {n:Nat}{xs:List Int}(hl:xs.length<=1000):F_qs (n+2) [.tup (xs.map Dv.int),.tup (xs.map Dv.int)] H=.ok (.bl true) H:=OE (by simpa using hl) λy hy=>by obtain⟨p,_,rfl⟩:=de.mp hy;exact FJ
theorem addL {i j:Nat}{xs ys:List Dv}(e1:getL H i=some xs) (e2:getL H j=some ys) (hl:xs.length+ys.length<=500):bA (.ref i) (.ref j) H=.ok (.ref H.length) (H++[.lst (xs++ys)]):=by simp[bA,kZ,e1,e2,lim];omega
theorem ixL {i j:Nat}{ds:List Dv}(e:getL H i=some ds) (hj:j<ds.length):aQ (.ref i) (.int j) H=.ok ds[j] H:=by
 have h1:dX ds.length (j:Int)=some j:=by unfold dX;rw[if_pos (by omega),if_pos (by omega)];simp
 have h2:gC ds (j:Int)=some ds[j]:=by unfold gC;rw[h1];simp[hj]
 simp only[aQ,fF,gD,e,jU,h2,if_true]
theorem last_get {x:List Dv}:getL (H++[.lst x]) H.length=some x:=by simp[getL]
end
section
variable{n m:Nat}{H H':Hs}{i j:Nat}
end
end L2.Mr.Cod
namespace L2.Mr
open PySem PySem.Spec PyProof.Rows L2
def z2u (x:Int) (P:Int->Prop):Prop:=P x/\∀y,P y->y<=x
theorem OG {f:Nat->Int}:∀k,(∃i,i<=k/\iJ (λa b=>decide (a>b)) f k=f i)/\∀i,i<=k->f i<=iJ (λa b=>decide (a>b)) f k
 |0=>⟨⟨0,ak _,rfl⟩,λi hi=>by
  have:i=0:=by omega
  subst this;exact Int.le_refl _⟩
 |k+1=>by
  obtain⟨⟨i,hi,e⟩,h⟩:=OG (f:=f) k;have he:iJ (λa b=>decide (a>b)) f (k+1)=if decide (f (k+1)>iJ (λa b=>decide (a>b)) f k)then f (k+1)else iJ (λa b=>decide (a>b)) f k:=rfl
  generalize iJ (λa b=>decide (a>b)) f k=z at e h he;rw[he]
  by_cases c:f (k+1)>z
  ·rw[if_pos (decide_eq_true c)];refine⟨⟨k+1,ak _,rfl⟩,λj hj=>?_⟩
   by_cases q:j=k+1
   ·subst q;exact Int.le_refl _
   ·have:=h j (by omega);omega
  ·rw[if_neg (by simpa using c)];refine⟨⟨i,by omega,e⟩,λj hj=>?_⟩
   by_cases q:j=k+1
   ·subst q;omega
   ·exact h j (by omega)
theorem maxI_is {ns:List Int}(h:ns≠[]):z2u (fG ns) (·∈ns):=by
 have hl:0<ns.length:=List.length_pos_iff.mpr h;obtain⟨⟨i,hi,e⟩,hx⟩:=OG (f:=λi=>ns.getD i 0) (ns.length - 1);refine⟨?_,λy hy=>?_⟩
 ·show fG ns∈ns;unfold fG;rw[e];have:i<ns.length:=by omega
  simp[this]
 ·obtain⟨k,hk,rfl⟩:=qe.mp hy;have:=hx k (by omega);have e2:ns.getD k 0=ns[k]:=by simp[hk]
  rw[e2]at this;exact this
end L2.Mr
namespace L2.Mr.Cod
open PySem PySem.Spec PyProof.Rows L2 L2.Mr
open L2.Mr.Com hiding iU F_qh iV F_qm iW F_qa oB lV lW lX jP jZ o1 o2 o3 o4 o5 o6 kA o8 o9 lY lZ mD mE bZ
def gI (ps:List (Int×Int)) (a:Nat):Nat->List (Int×Int)
 |0=>[]
 |k+1=>gI ps a k++if((a:Int),(a:Int)+1+(k:Int))∈ps∨((a:Int)+1+(k:Int),(a:Int))∈ps then[]else[((a:Int),(a:Int)+1+(k:Int))]
def gA (n:Nat) (ps:List (Int×Int)):Nat->List (Int×Int)
 |0=>[]
 |k+1=>gA n ps k++gI ps k (n - (k+1))
def loose (n:Nat) (ps:List (Int×Int)):List (Int×Int):=gA n ps n
theorem looseB_len (ps:List (Int×Int)) (a:Nat):∀k,(gI ps a k).length<=k
 |0=>ak _
 |k+1=>by
  have:=looseB_len ps a k;unfold gI
  split <;> simp <;> omega
theorem OH (n:Nat) (ps:List (Int×Int)):∀k,(gA n ps k).length<=k*n
 |0=>by simp[gA]
 |k+1=>by have h1:=OH n ps k;have h2:=looseB_len ps k (n - (k+1));unfold gA;rw[bu,xj];omega
section
variable{n:Nat}{ps:List (Int×Int)}{i:Nat}
def oW:MS:=aX (jA (mB (m2 (eM true) (aL (aB (aA 2) (aB (aA 3) aC))) (m2 aQ (aA 0) (mC (.int 1))))) (mB (m2 (eM true) (aL (aB (aA 3) (aB (aA 2) aC))) (m2 aQ (aA 0) (mC (.int 1)))))) (cS (kK (aA 1) (aL (aB (aA 2) (aB (aA 3) aC))))) bG
theorem z2v {H:Hs}{a b:Int}{acc:List (Int×Int)}(e:getL H i=some (acc.map aH)) (hl:acc.length<1000):
  oW [some (aM n ps),some (.ref i),some (.int a),some (.int b)] H=.nx [some (aM n ps),some (.ref i),some (.int a),some (.int b)] (H.set i (.lst ((acc++if(a,b)∈ps∨(b,a)∈ps then[]else[(a,b)]).map aH))):=by
 have self:H.set i (.lst (acc.map aH))=H:=by
  apply pf
  intro k
  by_cases hk:i=k
  ·subst hk;rw[cz (lL e),cY e]
  ·rw[ey hk]
 have t1:∀(x y:Int),mB (m2 (eM true) (λ_ h=>.ok (aH (x,y)) h) (λ_ h=>.ok (.tup (ps.map aH)) h)) [] H=.ok (!decide ((x,y)∈ps)) H:=λx y=>by simp[mB,m2,mX,dI]
 have hl':acc.length<1000000:=by omega
 by_cases h1:(a,b)∈ps
 ·simp[oW,aX,jA,mB,m2,aL,aB,aA,aC,lim,mC,yX];rw[show Dv.tup [.int a,.int b]=aH (a,b) from rfl,mX];simp[h1,dI,bG,self]
 ·by_cases h2:(b,a)∈ps
  ·simp[oW,aX,jA,mB,m2,aL,aB,aA,aC,lim,mC,yX];rw[show Dv.tup [.int a,.int b]=aH (a,b) from rfl,show Dv.tup [.int b,.int a]=aH (b,a) from rfl,mX];simp[h1,dI,mX,h2,bG,self]
  ·simp[oW,aX,jA,mB,m2,aL,aB,aA,aC,lim,mC,yX];rw[show Dv.tup [.int a,.int b]=aH (a,b) from rfl,show Dv.tup [.int b,.int a]=aH (b,a) from rfl,mX];simp only[h1,Rs.bind_ok,dI,mX];simp[h2,h1,cS,kK,aA,jF,e,aL,aB,aC,lim,pO,hl'];rfl
theorem z2w {a:Nat}{x3:Option Dv}{H:Hs}{acc:List (Int×Int)}(hn:n<=10) (ha:a<n) (hl:acc.length<=200) (e:getL H i=some (acc.map aH)):
  ∃y3,dN (aS gX (aB (m2 bA (aA 2) (mC (.int 1))) (aB (m2 aQ (aA 0) (mC (.int 0))) aC))) (aF 3) oW [some (aM n ps),some (.ref i),some (.int a),x3] H =
   .nx [some (aM n ps),some (.ref i),some (.int a),y3] (H.set i (.lst ((acc++gI ps a (n - (a+1))).map aH))):=by
 have hi:aS gX (aB (m2 bA (aA 2) (mC (.int 1))) (aB (m2 aQ (aA 0) (mC (.int 0))) aC)) [some (aM n ps),some (.ref i),some (.int a),x3] H=.ok (cJ ((a:Int)+1) n) H:=by have q:aB (m2 bA (aA 2) (mC (.int 1))) (aB (m2 aQ (aA 0) (mC (.int 0))) aC) [some (aM n ps),some (.ref i),some (.int a),x3] H=.ok [.int ((a:Int)+1),.int n] H:=rfl;unfold aS;rw[q,Rs.bind_ok];exact N7 (by omega) (by omega) (by omega) (by omega)
 have hN:(cJ ((a:Int)+1) n).n=n - (a+1):=by show((n:Int) - ((a:Int)+1)).toNat=_;omega
 obtain⟨ρ',H',h1,y3,h2,h3⟩:=oP (b:=oW) (sg:=aF 3) hi (λk ρ H'=>∃y3,ρ=[some (aM n ps),some (.ref i),some (.int a),y3]/\H'=H.set i (.lst ((acc++gI ps a k).map aH)))
  (λk ρ H' hk ⟨y3,e1,e2⟩=>by
   subst e1;subst e2;have e':getL (H.set i (.lst ((acc++gI ps a k).map aH))) i=some ((acc++gI ps a k).map aH):=kP e;refine⟨.int ((a:Int)+1+(k:Int)),_,_,_,rfl,rfl,z2v e' (by have:=looseB_len ps a k;rw[bu];omega),_,rfl, ?_⟩;rw[List.set_set,gI,sr]) (λ_ _ _=>rfl) ⟨x3,rfl,by
   have self:H.set i (.lst (acc.map aH))=H:=by
    apply pf
    intro k
    by_cases hk:i=k
    ·subst hk;rw[cz (lL e),cY e]
    ·rw[ey hk]
   rw[gI,lj,self]⟩
 rw[hN]at h3;exact⟨y3,by rw[h1,h2,h3]⟩
theorem loose_ok {H:Hs}(hn:n<=10):F_ql [aM n ps] H=.ok (.ref H.length) (H++[.lst ((loose n ps).map aH)]):=by
 have e0:getL (H++[.lst []]) H.length=some (([]:List (Int×Int)).map aH):=by simp[getL]
 have w0:aK (aR aC) (aF 1) [some (aM n ps),none,none,none] H=.nx [some (aM n ps),some (.ref H.length),none,none] (H++[.lst []]):=rfl;have hi:aS cN (aB (m2 aQ (aA 0) (mC (.int 0))) aC) [some (aM n ps),some (.ref H.length),none,none] (H++[.lst []])=.ok (cJ 0 n) (H++[.lst []]):=by have q:aB (m2 aQ (aA 0) (mC (.int 0))) aC [some (aM n ps),some (.ref H.length),none,none] (H++[.lst []])=.ok [.int n] (H++[.lst []]):=rfl;unfold aS;rw[q,Rs.bind_ok];exact zB (by omega) (by omega)
 have hN:(cJ 0 (n:Int)).n=n:=by simp[cJ]
 obtain⟨ρ',H',h1,y2,y3,h2,h3⟩:=oP (b:=dN (aS gX (aB (m2 bA (aA 2) (mC (.int 1))) (aB (m2 aQ (aA 0) (mC (.int 0))) aC))) (aF 3) oW) (sg:=aF 2) hi
  (λk ρ H'=>∃y2 y3,ρ=[some (aM n ps),some (.ref H.length),y2,y3]/\H'=H++[.lst ((gA n ps k).map aH)])
  (λk ρ H' hk ⟨y2,y3,e1,e2⟩=>by
   subst e1;subst e2;rw[hN]at hk;have e':getL (H++[.lst ((gA n ps k).map aH)]) H.length=some ((gA n ps k).map aH):=by simp[getL]
   have hb:(gA n ps k).length<=200:=by have h1:=OH n ps k;have h2:k*n<=10*10:=nj (by omega) hn;omega
   obtain⟨z3,hz⟩:=z2w (x3:=y3) (ps:=ps) hn hk hb e';refine⟨.int (0+(k:Int)),[some (aM n ps),some (.ref H.length),some (.int (k:Int)),y3],_,_,rfl,by simp[aF],hz,_,_,rfl, ?_⟩;rw[YC,gA];rfl) (λ_ _ _=>rfl) ⟨none,none,rfl,rfl⟩
 rw[hN]at h3;show aW (uN [some (aM n ps),none,none,none] H)=_;have z:uN [some (aM n ps),none,none,none] H=.rt (.ref H.length) (H++[.lst ((loose n ps).map aH)]):=by show aI (aK (aR aC) (aF 1)) (aI (dN (aS cN (aB (m2 aQ (aA 0) (mC (.int 0))) aC)) (aF 2) (dN (aS gX (aB (m2 bA (aA 2) (mC (.int 1))) (aB (m2 aQ (aA 0) (mC (.int 0))) aC))) (aF 3) oW)) (aO (aA 1))) _ _=_;rw[bE w0,bE h1,h2,h3];rfl
 rw[z];rfl
end
def Lse (ps:List (Int×Int)) (a b:Int):Prop:=a≠b/\(a,b)∉ps/\(b,a)∉ps
instance (ps:List (Int×Int)) (a b:Int):Decidable (Lse ps a b):=by unfold Lse;infer_instance
theorem mem_looseB {ps:List (Int×Int)}{a:Nat}{q:Int×Int}:∀{k:Nat},q∈gI ps a k↔∃j,j<k/\q=((a:Int),(a:Int)+1+(j:Int))/\q∉ps/\(q.2,q.1)∉ps
 |0=>by simp[gI]
 |k+1=>by
  unfold gI;rw[cg,mem_looseB (k:=k)];constructor
  ·rintro (⟨j,hj,h⟩|h)
   ·exact⟨j,by omega,h⟩
   ·split at h
    ·simp at h
    ·rename_i c;rw[df]at h;subst h;exact⟨k,by omega,rfl,λz=>c (.inl z),λz=>c (.inr z)⟩
  ·rintro ⟨j,hj,h,h1,h2⟩
   by_cases q:j=k
   ·subst q;right;subst h;rw[if_neg (λz=>z.elim h1 h2)];simp
   ·exact .inl ⟨j,by omega,h,h1,h2⟩
theorem OI {n:Nat}{ps:List (Int×Int)}{q:Int×Int}:∀{k:Nat},q∈gA n ps k↔∃a,a<k/\q∈gI ps a (n - (a+1))
 |0=>by simp[gA]
 |k+1=>by
  unfold gA;rw[cg,OI (k:=k)];constructor
  ·rintro (⟨a,ha,h⟩|h)
   ·exact⟨a,by omega,h⟩
   ·exact⟨k,by omega,h⟩
  ·rintro ⟨a,ha,h⟩
   by_cases q:a=k
   ·subst q;exact .inr h
   ·exact .inl ⟨a,by omega,h⟩
theorem mem_loose {n:Nat}{ps:List (Int×Int)}{q:Int×Int}:q∈loose n ps↔0<=q.1/\q.1<q.2/\q.2<n/\Lse ps q.1 q.2:=by
 unfold loose;rw[OI];constructor
 ·rintro ⟨a,ha,h⟩
  obtain⟨j,hj,rfl,h1,h2⟩:=mem_looseB.mp h;exact⟨by omega,by simp only;omega,by simp only;omega,by simp only[ne_eq];omega,h1,h2⟩
 ·rintro ⟨h0,h1,h2,_,h3,h4⟩
  refine⟨q.1.toNat,by omega,mem_looseB.mpr ⟨(q.2 - q.1 - 1).toNat,by omega, ?_,h3,h4⟩⟩
  apply Prod.ext <;> simp only <;> omega
section
variable{n:Nat}{ps:List (Int×Int)}{r:Int}{fs:List Int}
end
section
variable{n:Nat}{ps:List (Int×Int)}{r:Int}{fs:List Int}
end
section
variable{n:Nat}{ps:List (Int×Int)}{r:Int}{H:Hs}
theorem loose_is {a b:Int}:F_qv [aM n ps,.int a,.int b] H=.ok (.bl (decide (Lse ps a b))) H:=by
 have h1:=yX (n:=n) (ps:=ps) H;have t1:=mX true H (a,b) ps;have t2:=mX true H (b,a) ps;simp only[aH,if_true]at t1 t2;have hne:bQ (.int a) (.int b) H=.ok (.bl (!(a==b))) H:=by simp[bQ,bW,bF,bI]
 generalize aM n ps=d at h1;simp only[Lse]
 by_cases c0:a=b
 ·subst c0;simp[F_qv,rN,aT,bR,aI,aK,m2,aA,mC,h1,aF,aO,cZ,hne,aW]
 ·have c0':(a==b)=false:=by simpa using c0
  by_cases c1:(a,b)∈ps
  ·simp[F_qv,rN,aT,bR,aI,aK,m2,aA,mC,h1,aF,aO,cZ,hne,c0',aL,aB,aC,lim,t1,c1,aW]
  ·simp[F_qv,rN,aT,bR,aI,aK,m2,aA,mC,h1,aF,aO,cZ,hne,c0',c0,aL,aB,aC,lim,t1,c1,t2,aW]
end
section
variable{n:Nat}{ps:List (Int×Int)}{r:Int}{H:Hs}{i j:Nat}{fs:List Int}{nd:List (Int×Int×Int)}
end
section
variable{n:Nat}{ps:List (Int×Int)}{r:Int}{H:Hs}{i j:Nat}{fs:List Int}{nd:List (Int×Int×Int)}{d:Dv}
theorem need_ok (o:OrdP n ps):F_qr [aM n ps] H=.ok .non H:=by simp[F_qr,uK,aT,bR,aX,cB,bC,aE,aB,aA,aC,z21 o,eJ,bG,aW]
theorem need_bad (h:TK 3 H d) (hb:fK d=false):F_qr [d] H=.ex 0 H:=by have e:=z2s h;rw[hb]at e;simp[F_qr,uK,aT,bR,aX,cB,bC,aE,aB,aA,aC,e,eJ,tK,mC,aW]
end
end L2.Mr.Cod
namespace L2.Mr.Com
open PySem PySem.Spec PyProof.Rows L2 L2.Mr
section
variable{P:Ev->Hs->Prop}{l l':Nat}{m m':M Dv}
end
section
variable{st n:Nat}{cs:List (Int×Int)}{at_ a b:Int}
variable(o:OrdP n cs)
include o
end
end L2.Mr.Com
namespace L2.Mr.Gen
open PySem PySem.Spec PyProof.Rows L2 L2.Mr L2.Mr.Com
theorem FK {t u:M Bool}{ρ:Ev}{h h1:Hs}(e:t ρ h=.ok true h1):dQ t u ρ h=.ok true h1:=by unfold dQ;rw[e];rfl
theorem qE {t u:M Bool}{ρ:Ev}{h h1:Hs}(e:t ρ h=.ok false h1):dQ t u ρ h=u ρ h1:=by unfold dQ;rw[e];rfl
theorem oX {t:M Bool}{ρ:Ev}{h h1:Hs}{b:Bool}(e:t ρ h=.ok b h1):cB t ρ h=.ok (!b) h1:=by unfold cB;rw[e];rfl
theorem rW (xs ys:List Dv) (hl:xs.length+ys.length<=1000) {H:Hs}:bA (.tup xs) (.tup ys) H=.ok (.tup (xs++ys)) H:=by
 cases xs with
 |nil=>rfl
 |cons x xs=>
  have:(x::xs).length+ys.length<=1000000:=by omega
  have:xs.length+1+ys.length<=1000000:=by simp at this;omega
  simp[bA,kZ,lim,this]
theorem z2x (ds:List Dv) (k:Nat):jV ds none (some (k:Int))=ds.take k:=by unfold jV;rw[HT.sIx_none,HT.sIx_nat];simp
theorem OJ (ds:List Dv) (k:Nat):jV ds (some (k:Int)) none=ds.drop k:=by
 unfold jV;rw[HT.sIx_none,HT.sIx_nat]
 by_cases h:k<=ds.length
 ·rw[Nat.min_eq_left h];exact uh (by simp)
 ·rw[Nat.min_eq_right (by omega),Cb (ak _),Cb (by omega)];simp
section
variable{H:Hs}{xs:List Int}
theorem oY (ns:List Int):bJ eR (ns.map Dv.int)=some ns:=by
 induction ns with
 |nil=>rfl
 |cons x xs ih=>simp[bJ,eR,ih]
theorem zF {n:Int}:∀{ds:List Dv},ds.all (L2.Mr.Com.tB n)=true->∃ns:List Int,ds=ns.map Dv.int/\∀x∈ns,0<=x/\x<n
 | [],_=>⟨[],rfl,λ_ z=>nomatch z⟩
 |d::ds,h=>by
  rw[List.all_cons,cw]at h;obtain⟨ns,rfl,h2⟩:=zF h.2
  cases d with
  |int i=>
   have h1:=h.1;simp only[L2.Mr.Com.tB,oV,cw,decide_eq_true_eq]at h1;refine⟨i::ns,rfl,λx hx=>?_⟩
   rcases ay.mp hx with rfl|hx
   ·omega
   ·exact h2 x hx
  |_=>simp[L2.Mr.Com.tB,oV]at h
theorem z2y {n:Int}{ns:List Int}(h:∀x∈ns,0<=x/\x<n):(ns.map Dv.int).all (L2.Mr.Com.tB n)=true:=by rw[fj];intro d hd;obtain⟨x,hx,rfl⟩:=de.mp hd;have:=h x hx;simp only[L2.Mr.Com.tB,oV,cw,decide_eq_true_eq];omega
theorem FL {m:M Dv}{ρ:Ev}{H:Hs}{L:Int}(e:m ρ H=.ok (.int L) H) (h0:0<=L) (h1:L<=1000):aS cN (aB m aC) ρ H=.ok (cJ 0 L) H:=by
 have hr:iG L=true:=by simp[iG];omega
 simp[aS,aB,e,aC,cN,hr]
theorem z2z {m:M (List Dv)}{ρ:Ev}{H H1:Hs}{i:Nat}{b:Bool}(ea:bM m ρ H=.ok (.ref i) H1) (q:bL (.ref i) (.ref H1.length) (H1++[.lst []])=.ok (.bl b) (H1++[.lst []])):aW (aO (m2 bL (bM m) (aR aC)) ρ H)=.ok (.bl b) (H1++[.lst []]):=by generalize bM m=M at ea;simp[aO,m2,ea,aR,aC,lim,q,aW]
theorem FN {ds:List Dv}{i:Nat}{ρ:Ev}(e:aA i ρ H=.ok (.tup ds) H):aE (f1 cD) (aB (aA i) aC) ρ H=.ok (.int ds.length) H:=by simp[aE,aB,e,aC,f1,cD,fF,iF,fX]
theorem vD {α:Type}(p:α->Bool) (f:α->Dv) (l:List α):(l.filterMap λq=>if p q then some (f q)else none)=(l.filter p).map f:=by
 induction l with
 |nil=>rfl
 |cons k l ih=>
  rw[bz,jt]
  cases c:p k with
  |true=>simp only[if_true,dk];rw[ih]
  |false=>simp only[cp,if_false];exact ih
theorem vE {m:M Dv}{ρ ρ1:Ev}{i:Nat}{H H':Hs}{v:Dv}(e:m ρ H=.ok v H') (hs:aF i v ρ=some ρ1):aK m (aF i) ρ H=.nx ρ1 H':=by simp[aK,e,hs]
theorem FO {m:M (List Dv)}{ρ:Ev}{i:Nat}{H H':Hs}{ds:List Dv}{ρ1:Ev}(e:m ρ H=.ok ds H') (hs:aF i (.ref H'.length) ρ=some ρ1):aK (bM m) (aF i) ρ H=.nx ρ1 (H'++[.lst ds]):=by
 have ea:bM m ρ H=.ok (.ref H'.length) (H'++[.lst ds]):=by unfold bM;rw[e];rfl
 exact vE ea hs
theorem nL {f:Dv->Dv->Hs->Rs Dv}{ma mb:M Dv}{ρ:Ev}{H H1 H2 H3:Hs}{x y z:Dv}(ha:ma ρ H=.ok x H1) (hb:mb ρ H1=.ok y H2) (hf:f x y H2=.ok z H3):m2 f ma mb ρ H=.ok z H3:=by unfold m2;rw[ha,Rs.bind_ok,hb,Rs.bind_ok,hf]
theorem TK.upd {j:Nat}{xs ys:List Dv}{H:Hs}(e:getL H j=some xs):∀{k:Nat}{d:Dv},TK k H d->TK k (H.set j (.lst ys)) d:=by
 have t0:∀d,T0 H d->T0 (H.set j (.lst ys)) d:=λd h=>by
  cases d with
  |ref i=>
   obtain⟨zs,ez⟩:=h
   by_cases c:j=i
   ·subst c;exact⟨_,kP e⟩
   ·exact⟨zs,by rw[rG c];exact ez⟩
  |_=>exact h
 intro k
 induction k with
 |zero=>exact λ{d} h=>t0 d h
 |succ k ih=>exact λ{d} h=>⟨t0 d h.1,λds e=>⟨(h.2 ds e).1,λx hx=>ih ((h.2 ds e).2 x hx)⟩⟩
end
end L2.Mr.Gen
namespace L2.Mr.K05
open PySem PySem.Spec PyProof.Rows L2 L2.Mr L2.Mr.Com L2.Mr.Gen
theorem need_ok {n:Nat}{ps:List (Int×Int)}{H:Hs}(o:OrdP n ps):F_qr [aM n ps] H=.ok .non H:=Cod.need_ok o
theorem need_bad {d:Dv}{H:Hs}(h:TK 3 H d) (hb:fK d=false):F_qr [d] H=.ex 0 H:=Cod.need_bad h hb
theorem loose_is {n:Nat}{ps:List (Int×Int)}{H:Hs}{a b:Int}:F_qv [aM n ps,.int a,.int b] H=.ok (.bl (decide (Cod.Lse ps a b))) H:=Cod.loose_is
theorem OK {n:Nat}{ps:List (Int×Int)}{H:Hs}(hn:n<=10):F_ql [aM n ps] H=.ok (.ref H.length) (H++[.lst ((Cod.loose n ps).map aH)]):=Cod.loose_ok hn
def ix (ns:List Int) (k:Int):Nat:=(eW k ns).getD 0
theorem vF {k:Int}:∀{ns:List Int},k∈ns->eW k ns=some (ix ns k)
 | [],h=>nomatch h
 |n::ns,h=>by
  unfold ix eW
  by_cases c:n=k
  ·rw[if_pos c];rfl
  ·rw[if_neg c];have hm:k∈ns:=(ay.mp h).elim (λz=>absurd z.symm c) id;rw[vF hm];rfl
theorem z30 {k:Int}{ns:List Int}(h:k∈ns):ix ns k<ns.length:=(ba.mp (tY (vF h)).1).1
theorem z31 {a b:Int}{ns:List Int}(ha:a∈ns) (hb:b∈ns) (e:ix ns a=ix ns b):a=b:=by have h1:=(tY (vF ha)).1;have h2:=(tY (vF hb)).1;rw[e,h2]at h1;exact(cq h1).symm
theorem FP {ns ms:List Int}{k:Int}(h:k∈ns):ix (ns++ms) k=ix ns k:=by
 have key:∀{ns:List Int},k∈ns->eW k (ns++ms)=eW k ns:=by
  intro ns
  induction ns with
  |nil=>intro h;cases h
  |cons x xs ih=>
   intro h;show eW k (x::(xs++ms))=_;unfold eW
   by_cases c:x=k
   ·rw[if_pos c,if_pos c]
   ·rw[if_neg c,if_neg c,ih ((ay.mp h).elim (λz=>absurd z.symm c) id)]
 unfold ix;rw[key h]
theorem z32 {ns:List Int}{k:Int}(h:k∉ns):ix (ns++[k]) k=ns.length:=by
 have key:∀{ns:List Int},k∉ns->eW k (ns++[k])=some ns.length:=by
  intro ns
  induction ns with
  |nil=>intro _;show eW k [k]=some 0;unfold eW;rw[if_pos rfl]
  |cons x xs ih=>intro h;show eW k (x::(xs++[k]))=_;unfold eW;rw[if_neg (λz=>h (by rw[z];exact bc ..)),ih (λz=>h (ao _ z))];rfl
 unfold ix;rw[key h];rfl
section
variable{n:Nat}{ps:List (Int×Int)}{H:Hs}{ns:List Int}{ρ:Ev}
theorem rX {a:Nat}{me:M Dv}{k:Int}(h1:aA a ρ=λH=>.ok (.tup (ns.map Dv.int)) H) (h2:me ρ H=.ok (.int k) H) (hk:k∈ns):dS (aA a) me ρ H=.ok (.int (ix ns k)) H:=by simp[dS,h1,KN,h2,CG,oY,vF hk]
theorem mem_rng {x:Int}:x∈cA n↔0<=x/\x<n:=by
 unfold cA;rw[de];constructor
 ·rintro ⟨k,hk,rfl⟩
  have:=br.mp hk;omega
 ·intro h;exact⟨x.toNat,br.mpr (by omega),by omega⟩
theorem rng_up:(cA n).Pairwise (·<·):=by unfold cA;exact sk.mpr ((Bz).imp λh=>by omega)
theorem rng_nodup:(cA n).Nodup:=rng_up.imp λh=>by omega
theorem qF (hr:∀x∈ns,0<=x/\x<n) (nd:ns.Nodup) (hl:ns.length=n) {x:Int}(h0:0<=x) (h1:x<n):x∈ns:=by
 by_cases c:x∈ns
 ·exact c
 ·exfalso
  have nd':(x::ns).Nodup:=jm.mpr ⟨c,nd⟩;have:=nd'.length_le_of_subset (l₂:=cA n) λy hy=>by
   rcases ay.mp hy with rfl|hy
   ·exact mem_rng.mpr ⟨h0,h1⟩
   ·exact mem_rng.mpr (hr y hy)
  simp[cA]at this;omega
theorem oZ (hr:∀x∈ns,0<=x/\x<n) (nd:ns.Nodup) (hl:ns.length=n):ns.Perm (cA n):=by
 refine List.perm_iff_count.mpr λa=>?_;rw[nd.count,rng_nodup.count];have:a∈ns↔a∈cA n:=⟨λz=>mem_rng.mpr (hr a z),λz=>qF hr nd hl (mem_rng.mp z).1 (mem_rng.mp z).2⟩
 by_cases c:a∈ns
 ·rw[if_pos c,if_pos (this.mp c)]
 ·rw[if_neg c,if_neg λz=>c (this.mpr z)]
def nM (n:Nat) (ps:List (Int×Int)) (ns:List Int):Bool:=decide (ns.length=n)&&decide ns.Nodup&&ps.all λq=>decide (ix ns q.1<ix ns q.2)
def eX (n:Nat) (ps:List (Int×Int)) (d:Dv):Bool:=match d with
 | .tup ds=>kB n d&&(match bJ eR ds with
  |some ns=>nM n ps ns
  |none=>false)
 |_=>false
theorem rY (hr:∀x∈ns,0<=x/\x<n):eX n ps (.tup (ns.map Dv.int))=nM n ps ns:=by have:kB n (.tup (ns.map Dv.int))=true:=z2y hr;simp[eX,this,oY]
def rC:M Bool:=dQ (cB (bC (aE F_qp (aB (aA 2) (aB (aA 1) aC))))) (dQ (mB (m2 bQ (aE (f1 cD) (aB (aA 1) aC)) (aA 2))) (mB (m2 bQ (aE (f1 nF) (aB (aA 1) aC)) (aA 2))))
def rL:M (List Dv):=bU (bS eV (aA 3)) [none,none,some 1] (cL 2 (bH (aF 0) (bH (aF 1) cM))) dO (bN (m2 fJ (dS (aA 2) (aA 0)) (dS (aA 2) (aA 1))))
theorem OL:uL=aI (cS (aE F_qr (aB (aA 0) aC))) (aI (aK (aA 0) (cL 2 (bH (aF 2) (bH (aF 3) cM)))) (aI (aX rC (aO (mC (.bl false))) bG) (aO (mL iO rL)))):=rfl
abbrev iL (n:Nat) (ps:List (Int×Int)) (d:Dv):Ev:=[some (aM n ps),some d,some (.int n),some (.tup (ps.map aH))]
theorem z33 (o:OrdP n ps) (hm:∀x:Int,0<=x->x<n->x∈ns):mL iO rL (iL n ps (.tup (ns.map Dv.int))) H=.ok (.bl (ps.all λq=>decide (ix ns q.1<ix ns q.2))) H:=by
 refine qB (H1:=H) (xs:=ps) (f:=λq=>decide (ix ns q.1<ix ns q.2)) ?_;refine gU ps _ (λρ=>∃a b,ρ=[a,b,some (.tup (ns.map Dv.int))]) (src:=cT (ps.map aH)) rfl (by simp[cT]) ⟨_,_,rfl⟩ rfl (λk hk ρ ⟨a,b,e⟩=>by
  subst e;refine⟨aH ps[k],[some (.int ps[k].1),some (.int ps[k].2),some (.tup (ns.map Dv.int))],by simp[cT,hk],rfl,⟨_,_,rfl⟩,rfl, ?_⟩;have r:=o.rng ps[k] (cx hk);have i1:=rX (H:=H) (ns:=ns) (a:=2) (me:=aA 0) (ρ:=[some (.int ps[k].1),some (.int ps[k].2),some (.tup (ns.map Dv.int))]) rfl rfl (hm _ r.1 r.2.1);have i2:=rX (H:=H) (ns:=ns) (a:=2) (me:=aA 1) (ρ:=[some (.int ps[k].1),some (.int ps[k].2),some (.tup (ns.map Dv.int))]) rfl rfl (hm _ r.2.2.1 r.2.2.2);have hd:decide ((ix ns ps[k].1:Int)<(ix ns ps[k].2:Int))=decide (ix ns ps[k].1<ix ns ps[k].2):=by rw[dh];simp
  have hl:fJ (.int (ix ns ps[k].1:Int)) (.int (ix ns ps[k].2:Int)) H=.ok (.bl (decide (ix ns ps[k].1<ix ns ps[k].2))) H:=by simp only[fJ,hd]
  exact nL i1 i2 hl) (by have:=o.len;omega)
theorem z34 (o:OrdP n ps) {d:Dv}(h:TK 1 H d):F_q6 [aM n ps,d] H=.ok (.bl (eX n ps d)) H:=by
 have hn:=need_ok (H:=H) o;have ha:=OB (n:=(n:Int)) h;have w1:cS (aE F_qr (aB (aA 0) aC)) [some (aM n ps),some d,none,none] H=.nx [some (aM n ps),some d,none,none] H:=by generalize aM n ps=z at hn;simp[cS,aE,aB,aA,aC,hn]
 have w2:aK (aA 0) (cL 2 (bH (aF 2) (bH (aF 3) cM))) [some (aM n ps),some d,none,none] H=.nx (iL n ps d) H:=rfl;have t1:bC (aE F_qp (aB (aA 2) (aB (aA 1) aC))) (iL n ps d) H=.ok (kB n d) H:=by generalize aM n ps=z;simp[iL,bC,aE,aB,aA,aC,ha,eJ]
 have stop:rC (iL n ps d) H=.ok true H->eX n ps d=false->F_q6 [aM n ps,d] H=.ok (.bl (eX n ps d)) H:=λe z=>by show aW (uL [some (aM n ps),some d,none,none] H)=_;rw[OL,bE w1,bE w2,z];unfold aI;rw[lM e];rfl
 cases ht:kB n d with
 |false=>
  rw[ht]at t1;refine stop (FK (oX t1)) ?_
  cases d with
  |tup ds=>simp[eX,ht]
  |_=>rfl
 |true=>
  rw[ht]at t1
  cases d with
  |tup ds=>
   obtain⟨hl,_⟩:=h.2 ds rfl;obtain⟨ns,rfl,hr⟩:=zF (show ds.all (Com.tB n)=true from ht);have hl':ns.length<=500:=by simpa using hl
   have hB:=rY (ps:=ps) hr;have sl:nF (.tup (ns.map Dv.int)) H=.ok (.int (lS ns)) H:=by
    have:ns.length<1000:=by omega
    simp[nF,oY,this]
   have hm:=l8 ns;have ne:∀a b:Nat,bQ (.int (a:Int)) (.int (b:Int)) H=.ok (.bl (!decide (a=b))) H:=λa b=>by
    have:((a:Int)==(b:Int))=decide (a=b):=by rw[dh];simp;omega
    simp[bQ,bW,bF,bI,this]
   have t2:mB (m2 bQ (aE (f1 cD) (aB (aA 1) aC)) (aA 2)) (iL n ps (.tup (ns.map Dv.int))) H=.ok (!decide (ns.length=n)) H:=by
    have e:=FN (H:=H) (ds:=ns.map Dv.int) (i:=1) (ρ:=iL n ps (.tup (ns.map Dv.int))) rfl;have hz:(ns.map Dv.int).length=ns.length:=by simp
    rw[hz]at e;have q:=ne ns.length n;have v2:aA 2 (iL n ps (.tup (ns.map Dv.int))) H=.ok (.int n) H:=rfl;generalize aE (f1 cD) (aB (aA 1) aC)=M at e;generalize iL n ps (.tup (ns.map Dv.int))=r at e v2;simp[mB,m2,e,v2,q,dI]
   have t3:mB (m2 bQ (aE (f1 nF) (aB (aA 1) aC)) (aA 2)) (iL n ps (.tup (ns.map Dv.int))) H=.ok (!decide (lS ns=n)) H:=by
    have e:aE (f1 nF) (aB (aA 1) aC) (iL n ps (.tup (ns.map Dv.int))) H=.ok (.int (lS ns)) H:=by generalize aM n ps=z;generalize ns.map Dv.int=ys at sl;simp[iL,aE,aB,aA,aC,f1,sl]
    have q:=ne (lS ns) n;have v2:aA 2 (iL n ps (.tup (ns.map Dv.int))) H=.ok (.int n) H:=rfl;generalize aE (f1 nF) (aB (aA 1) aC)=M at e;generalize iL n ps (.tup (ns.map Dv.int))=r at e v2;simp[mB,m2,e,v2,q,dI]
   by_cases c:ns.length=n/\ns.Nodup
   ·have c1:(!decide (ns.length=n))=false:=by simp[c.1]
    have c2:(!decide (lS ns=n))=false:=by have:=hm.mpr c.2;simp;omega
    rw[c1]at t2;rw[c2]at t3;have e:rC (iL n ps (.tup (ns.map Dv.int))) H=.ok false H:=by unfold rC;rw[qE (oX t1),qE t2,t3]
    have hall:=z33 (H:=H) o (λx h0 h1=>qF hr c.2 c.1 h0 h1);show aW (uL [some (aM n ps),some (.tup (ns.map Dv.int)),none,none] H)=_;rw[OL,bE w1,bE w2,bE (m:=aX _ _ _) (by rw[iT e];rfl),hB];unfold aO;rw[hall];simp[nM,c.1,c.2,aW]
   ·refine stop ?_ ?_
    ·unfold rC;rw[qE (oX t1)]
     by_cases c1:ns.length=n
     ·have c1':(!decide (ns.length=n))=false:=by simp[c1]
      rw[c1']at t2;rw[qE t2,t3];have:lS ns≠n:=λz=>c ⟨c1,hm.mp (by omega)⟩;simp[this]
     ·have c1':(!decide (ns.length=n))=true:=by simp[c1]
      rw[c1']at t2;exact FK t2
    ·rw[hB];unfold nM
     by_cases c1:ns.length=n
     ·have c3:¬ ns.Nodup:=λz=>c ⟨c1,z⟩;simp[c3]
     ·simp[c1]
  |_=>cases ht
end
def PU (x:Dv):Prop:=∀H:Hs,∃t,bF 29 H x=some t
section
variable{n:Nat}{ps:List (Int×Int)}{H:Hs}{ns:List Int}
theorem z35 {xs:List Dv}(h:∀x∈xs,PU x) (H:Hs):∃ts,bJ (bF 29 H) xs=some ts/\(ts=[]↔xs=[]):=by
 induction xs with
 |nil=>exact⟨[],rfl,by simp⟩
 |cons x xs ih=>obtain⟨t,e⟩:=h x (bc ..) H;obtain⟨ts,e2,_⟩:=ih λy hy=>h y (ao _ hy);exact⟨t::ts,by simp[bJ,e,e2],by simp⟩
theorem OM {k i:Nat}{xs:List Dv}{ts:List Dt}(e:getL H i=some xs) (e2:bJ (bF k H) xs=some ts):bF (k+1) H (.ref i)=some (.lst ts):=by simp only[bF,e,e2]
theorem z36 {i:Nat}{xs:List Dv}(e:getL H i=some xs) (h:∀x∈xs,PU x):bQ (.ref i) (.ref H.length) (H++[.lst []])=.ok (.bl (!decide (xs=[]))) (H++[.lst []]):=by
 have e1:=jK (l:=[Ob.lst []]) e;have e2:getL (H++[Ob.lst []]) H.length=some []:=Cod.last_get;obtain⟨ts,e3,e4⟩:=z35 h (H++[Ob.lst []]);have p1:bF bW (H++[Ob.lst []]) (.ref i)=some (.lst ts):=OM (k:=29) e1 e3;have p2:bF bW (H++[Ob.lst []]) (.ref H.length)=some (.lst []):=OM (k:=29) (ts:=[]) e2 rfl;have hd:bI (.lst ts) (.lst [])=decide (xs=[]):=by
  rw[dh,decide_eq_true_eq,<-e4]
  cases ts with
  |nil=>simp[bI,eU]
  |cons _ _=>simp[bI,eU]
 simp only[bQ,p1,p2,hd]
theorem z37 {x y:Dv}{b:Bool}(e:bL x y H=.ok (.bl b) H):bQ x y H=.ok (.bl (!b)) H:=by
 unfold bL at e;unfold bQ
 cases p1:bF bW H x with
 |none=>rw[p1]at e;cases e
 |some s=>
  rw[p1]at e
  cases p2:bF bW H y with
  |none=>rw[p2]at e;cases e
  |some t=>
   rw[p2]at e;dsimp only at e ⊢;have:bI s t=b:=by injection e with e;injection e
   rw[this]
theorem z38 {d:Dv}(h:T0 H d):F_qo [d] H=.ok (.bl (Com.isInt d)) H:=by
 have a:=N8 h;have b:=N9 h
 cases d <;> simp[F_qo,M3,aT,bR,aO,cZ,m1,aA,a,b,nY,Com.isInt,aW]
def rZ:M (List Dv):=bU (bS eV (aA 1)) [none] (aF 0) (cB (bC (aE F_qo (aB (aA 0) aC)))) (bN (aA 0))
def sD:M Bool:=mB (m2 bQ (aE (f1 pZ) (aB (aA 1) aC)) (aE (f1 lO) (aB (m2 aQ (aA 0) (mC (.int 0))) aC)))
def zG:M (List Dv):=bU (bS eV (m2 aQ (aA 0) (mC (.int 1)))) [none,none,some 1] (cL 2 (bH (aF 0) (bH (aF 1) cM))) (mB (m2 mV (dS (aA 2) (aA 0)) (dS (aA 2) (aA 1)))) (bN (mC (.int 1)))
theorem zH:rP=aI (aX (dQ (cB (bC (m1 (bD fR) (aA 1)))) (mB (m2 bQ (bM rZ) (aR aC)))) (aO (mC (.bl false))) bG) (aI (aX sD (aO (mC (.bl false))) bG) (aO (m2 bL (bM zG) (aR aC)))):=rfl
theorem z39 {F:List Dv->Hs->Rs Dv}{d:Dv}{b:Bool}(e:F [d] H=.ok (.bl b) H):cB (bC (aE F (aB (aA 0) aC))) [some d] H=.ok (!b) H:=by refine oX ?_;simp[bC,aE,aB,aA,aC,e,eJ]
theorem z3a {ds:List Dv}(h:TK 1 H (.tup ds)) {x0:Option Dv}:rZ [x0,some (.tup ds)] H=.ok (ds.filter λx=>!Com.isInt x) H:=by
 obtain⟨hl,hx⟩:=h.2 ds rfl;have w:rZ [x0,some (.tup ds)] H=.ok (ds.filterMap λx=>if !Com.isInt x then some (id x)else none) H:=
  gU ds _ (λρ=>∃a,ρ=[a]) (src:=cT ds) rfl (by simp[cT]) ⟨_,rfl⟩ rfl (λk hk ρ ⟨a,e⟩=>by
   subst e;refine⟨ds[k],[some ds[k]],by simp[cT,hk],rfl,⟨_,rfl⟩, ?_⟩;have t:=z39 (z38 (hx ds[k] (cx hk)).t0)
   cases c:!Com.isInt ds[k]with
   |true=>rw[c]at t;exact⟨t,rfl⟩
   |false=>rw[c]at t;exact t) (by omega)
 have:=w.trans (congrArg (λl=>Rs.ok l _) (vD _ _ _));rw[List.map_id]at this;exact this
theorem z3b {m:M (List Dv)}{ρ:Ev}{xs:List Dv}(e:m ρ H=.ok xs H) (h:∀x∈xs,PU x):∃H',mB (m2 bQ (bM m) (aR aC)) ρ H=.ok (!decide (xs=[])) H'/\Fr [] H H':=by
 have ea:bM m ρ H=.ok (.ref H.length) (H++[.lst xs]):=by unfold bM;rw[e];rfl
 have g:getL (H++[Ob.lst xs]) H.length=some xs:=Cod.last_get;have f:Fr [] H (H++[Ob.lst xs]):=Fr.app;generalize H++[Ob.lst xs]=H1 at ea g f;have q:=z36 g h;refine⟨H1++[.lst []], ?_,f.trans (T:=[]) Fr.app (by simp)⟩;generalize bM m=M at ea;simp[mB,m2,ea,aR,aC,lim,q,dI]
theorem z3c (hn:n<=6) (hl:ns.length<64):∃H',sD [some (aM n ps),some (.tup (ns.map Dv.int))] H=.ok (!decide (hZ ns=cA n)) H'/\Fr [] H H':=by
 have e1:aE (f1 pZ) (aB (aA 1) aC) [some (aM n ps),some (.tup (ns.map Dv.int))] H=.ok (.ref H.length) (H++[.lst ((hZ ns).map Dv.int)]):=by generalize aM n ps=z;simp[aE,aB,aA,aC,f1,pZ,oY,hl]
 have g1:getL (H++[Ob.lst ((hZ ns).map Dv.int)]) H.length=some ((hZ ns).map Dv.int):=Cod.last_get;have f1':Fr [] H (H++[Ob.lst ((hZ ns).map Dv.int)]):=Fr.app;generalize H++[Ob.lst ((hZ ns).map Dv.int)]=H1 at e1 g1 f1';generalize H.length=i1 at e1 g1;have e2:aE (f1 lO) (aB (m2 aQ (aA 0) (mC (.int 0))) aC) [some (aM n ps),some (.tup (ns.map Dv.int))] H1=.ok (.ref H1.length) (H1++[.lst ((cA n).map Dv.int)]):=by
  have h0:=NT (n:=n) (ps:=ps) H1;have a0:(0:Int)<=(n:Int):=by omega
  have a1:(n:Int)<=1000:=by omega
  generalize aM n ps=z at h0;generalize (n:Int)=N at h0 a0 a1;simp[aE,aB,m2,aA,mC,aC,h0,f1,lO,a0,a1]
 have g2:getL (H1++[Ob.lst ((cA n).map Dv.int)]) H1.length=some ((cA n).map Dv.int):=Cod.last_get;have f2:Fr [] H1 (H1++[Ob.lst ((cA n).map Dv.int)]):=Fr.app;have g1':=f2.getL g1 (by simp);generalize H1++[Ob.lst ((cA n).map Dv.int)]=H2 at e2 g2 f2 g1';generalize H1.length=i2 at e2 g2;have q:=z37 (L2.Mr.eq_ints g1' g2);refine⟨H2, ?_,f1'.trans f2 (by simp)⟩;unfold sD mB;rw[nL e1 e2 q];rfl
theorem z3d (o:OrdP n ps) (hm:∀x:Int,0<=x->x<n->x∈ns):zG [some (aM n ps),some (.tup (ns.map Dv.int))] H=.ok ((ps.filter λq=>decide (ix ns q.1>ix ns q.2)).map λ_=>Dv.int 1) H:=by
 have w:zG [some (aM n ps),some (.tup (ns.map Dv.int))] H=.ok (ps.filterMap λq=>if decide (ix ns q.1>ix ns q.2)then some ((λ_=>Dv.int 1) q)else none) H:=
  gU ps _ (λρ=>∃a b,ρ=[a,b,some (.tup (ns.map Dv.int))]) (src:=cT (ps.map aH)) rfl (by simp[cT]) ⟨_,_,rfl⟩ rfl (λk hk ρ ⟨a,b,e⟩=>by
   subst e;refine⟨aH ps[k],[some (.int ps[k].1),some (.int ps[k].2),some (.tup (ns.map Dv.int))],by simp[cT,hk],rfl,⟨_,_,rfl⟩, ?_⟩;have r:=o.rng ps[k] (cx hk);have i1:=rX (H:=H) (ns:=ns) (a:=2) (me:=aA 0) (ρ:=[some (.int ps[k].1),some (.int ps[k].2),some (.tup (ns.map Dv.int))]) rfl rfl (hm _ r.1 r.2.1);have i2:=rX (H:=H) (ns:=ns) (a:=2) (me:=aA 1) (ρ:=[some (.int ps[k].1),some (.int ps[k].2),some (.tup (ns.map Dv.int))]) rfl rfl (hm _ r.2.2.1 r.2.2.2);have hd:decide ((ix ns ps[k].1:Int)>(ix ns ps[k].2:Int))=decide (ix ns ps[k].1>ix ns ps[k].2):=by rw[dh];simp
   have hg:mV (.int (ix ns ps[k].1:Int)) (.int (ix ns ps[k].2:Int)) H=.ok (.bl (decide (ix ns ps[k].1>ix ns ps[k].2))) H:=by show iE _ _ _ H=_;simp only[iE,hd]
   have t:mB (m2 mV (dS (aA 2) (aA 0)) (dS (aA 2) (aA 1))) [some (.int ps[k].1),some (.int ps[k].2),some (.tup (ns.map Dv.int))] H=.ok (decide (ix ns ps[k].1>ix ns ps[k].2)) H:=by unfold mB;rw[nL i1 i2 hg];rfl
   cases c:decide (ix ns ps[k].1>ix ns ps[k].2)with
   |true=>rw[c]at t;exact⟨t,rfl⟩
   |false=>rw[c]at t;exact t) (by have:=o.len;omega)
 exact w.trans (congrArg (λl=>Rs.ok l _) (vD _ _ _))
theorem z3e {ds:List Dv}(h:(ds.filter λx=>!Com.isInt x)=[]):∃ns:List Int,ds=ns.map Dv.int:=by
 induction ds with
 |nil=>exact⟨[],rfl⟩
 |cons d ds ih=>
  rw[kz]at h;obtain⟨ns,rfl⟩:=ih (kz.mpr λx hx=>h x (ao _ hx));have:=h d (bc ..)
  cases d with
  |int i=>exact⟨i::ns,rfl⟩
  |_=>simp[Com.isInt]at this
theorem z3f (o:OrdP n ps) {d:Dv}(h:TK 1 H d) (hl:∀ds,d=.tup ds->ds.length<64/\∀x∈ds,PU x):∃H',F_qi [aM n ps,d] H=.ok (.bl (eX n ps d)) H'/\Fr [] H H':=by
 have ht:=zD h.1
 by_cases nt:nK d=false
 ·refine⟨H, ?_,Fr.refl⟩;have t:bC (m1 (bD fR) (aA 1)) [some (aM n ps),some d] H=.ok false H:=by rw[nt]at ht;simp[bC,m1,aA,ht,eJ]
  have z:eX n ps d=false:=by
   cases d with
   |tup _=>cases nt
   |_=>rfl
  show aW (rP [some (aM n ps),some d] H)=_;rw[zH,z];unfold aI;rw[lM (FK (oX t))];rfl
 obtain⟨ds,rfl⟩:∃ds,d=.tup ds:=by
  cases d with
  |tup ds=>exact⟨ds,rfl⟩
  |_=>exact absurd rfl nt
 ·obtain⟨l64,pu⟩:=hl ds rfl;have t1:bC (m1 (bD fR) (aA 1)) [some (aM n ps),some (.tup ds)] H=.ok true H:=by simp[bC,m1,aA,ht,nK,eJ]
  obtain⟨H1,e1,f1'⟩:=z3b (z3a h (x0:=some (aM n ps))) λx hx=>pu x (gw.mp hx).1
  by_cases c:(ds.filter λx=>!Com.isInt x)=[]
  ·obtain⟨ns,rfl⟩:=z3e c;have w1:aX (dQ (cB (bC (m1 (bD fR) (aA 1)))) (mB (m2 bQ (bM rZ) (aR aC)))) (aO (mC (.bl false))) bG [some (aM n ps),some (.tup (ns.map Dv.int))] H=.nx [some (aM n ps),some (.tup (ns.map Dv.int))] H1:=by
    have e:dQ (cB (bC (m1 (bD fR) (aA 1)))) (mB (m2 bQ (bM rZ) (aR aC))) [some (aM n ps),some (.tup (ns.map Dv.int))] H=.ok false H1:=by rw[qE (oX t1),e1];simp[c]
    rw[iT e];rfl
   obtain⟨H2,e2,f2⟩:=z3c (ps:=ps) (ns:=ns) (H:=H1) o.n6 (by simpa using l64)
   by_cases c2:hZ ns=cA n
   ·have hp:ns.Perm (cA n):=by rw[<-c2];exact(xE ns).symm
    have hr:∀x∈ns,0<=x/\x<n:=λx hx=>mem_rng.mp (hp.mem_iff.mp hx);have nd:ns.Nodup:=hp.nodup_iff.mpr rng_nodup;have hlen:ns.length=n:=by rw[hp.length_eq];simp[cA]
    have w2:aX sD (aO (mC (.bl false))) bG [some (aM n ps),some (.tup (ns.map Dv.int))] H1=.nx [some (aM n ps),some (.tup (ns.map Dv.int))] H2:=by
     have e:sD [some (aM n ps),some (.tup (ns.map Dv.int))] H1=.ok false H2:=by rw[e2];simp[c2]
     rw[iT e];rfl
    have e3:=z3d (H:=H2) o (ns:=ns) (λx h0 h1=>qF hr nd hlen h0 h1);have hone:∀(l:List (Int×Int)),(l.map λ_=>Dv.int 1)=(l.map λ_=>(1:Int)).map Dv.int:=λl=>by simp
    rw[hone]at e3;generalize hxs:(ps.filter λq=>decide (ix ns q.1>ix ns q.2))=xs at e3;have ea:bM zG [some (aM n ps),some (.tup (ns.map Dv.int))] H2=.ok (.ref H2.length) (H2++[.lst ((xs.map λ_=>(1:Int)).map Dv.int)]):=by unfold bM;rw[e3];rfl
    have g3:getL (H2++[Ob.lst ((xs.map λ_=>(1:Int)).map Dv.int)]) H2.length=some ((xs.map λ_=>(1:Int)).map Dv.int):=Cod.last_get;have f3:Fr [] H2 (H2++[Ob.lst ((xs.map λ_=>(1:Int)).map Dv.int)]):=Fr.app;generalize H2++[Ob.lst ((xs.map λ_=>(1:Int)).map Dv.int)]=H3 at ea g3 f3;have g4:getL (H3++[Ob.lst []]) H3.length=some (([]:List Int).map Dv.int):=Cod.last_get;have q:=L2.Mr.eq_ints (jK (l:=[Ob.lst []]) g3) g4;have hv:decide ((xs.map λ_=>(1:Int))=[])=eX n ps (.tup (ns.map Dv.int)):=by
     rw[rY hr,nM,dh];simp only[decide_eq_true_eq,List.map_eq_nil_iff,<-hxs,kz,hlen,nd,decide_true,wg,fj];constructor
     ·intro z p hp';have a:=z p hp';have r:=o.rng p hp';have m1:=qF hr nd hlen r.1 r.2.1;have m2':=qF hr nd hlen r.2.2.1 r.2.2.2;have:ix ns p.1≠ix ns p.2:=λz=>o.irr p hp' (z31 m1 m2' z);omega
     ·intro z p hp';have a:=z p hp';omega
    rw[hv]at q;refine⟨H3++[.lst []], ?_,((f1'.trans f2 (by simp)).trans f3 (by simp)).trans (T:=[]) Fr.app (by simp)⟩;show aW (rP [some (aM n ps),some (.tup (ns.map Dv.int))] H)=_;rw[zH,bE w1,bE w2];exact z2z ea q
   ·refine⟨H2, ?_,f1'.trans f2 (by simp)⟩;have e:sD [some (aM n ps),some (.tup (ns.map Dv.int))] H1=.ok true H2:=by rw[e2];simp[c2]
    have z:eX n ps (.tup (ns.map Dv.int))=false:=by
     cases ha:kB n (.tup (ns.map Dv.int))with
     |false=>simp[eX,ha]
     |true=>
      obtain⟨ms,em,hr⟩:=zF (show(ns.map Dv.int).all (Com.tB n)=true from ha);have:ns=ms:=by have:=congrArg (bJ eR) em;rw[oY,oY]at this;exact cq this
      subst this;rw[rY hr];unfold nM
      by_cases c3:ns.length=n/\ns.Nodup
      ·exfalso
       apply c2
       exact(KD (oZ hr c3.2 c3.1).symm (rng_up.imp λh=>by omega)).symm
      ·by_cases c4:ns.length=n
       ·have c5:¬ ns.Nodup:=λy=>c3 ⟨c4,y⟩;simp[c5]
       ·simp[c4]
    show aW (rP [some (aM n ps),some (.tup (ns.map Dv.int))] H)=_;rw[zH,bE w1,z];unfold aI;rw[lM e];rfl
  ·refine⟨H1, ?_,f1'⟩;have z:eX n ps (.tup ds)=false:=by
    cases ha:kB n (.tup ds)with
    |false=>simp[eX,ha]
    |true=>
     obtain⟨ms,rfl,_⟩:=zF (show ds.all (Com.tB n)=true from ha)
     exfalso
     apply c
     rw[kz];intro x hx;obtain⟨y,_,rfl⟩:=de.mp hx;simp[Com.isInt]
   have e:dQ (cB (bC (m1 (bD fR) (aA 1)))) (mB (m2 bQ (bM rZ) (aR aC))) [some (aM n ps),some (.tup ds)] H=.ok true H1:=by rw[qE (oX t1),e1];simp[c]
   show aW (rP [some (aM n ps),some (.tup ds)] H)=_;rw[zH,z];unfold aI;rw[lM e];rfl
end
open L2.Mr.Cod (loose gA gI mem_loose Lse)
section
variable{n:Nat}{ps:List (Int×Int)}{H:Hs}{ns:List Int}
def mG (ps:List (Int×Int)) (a j:Nat):Option Dv:=if decide (Lse ps a ((a:Int)+1+j))then some (aH ((a:Int),(a:Int)+1+j))else none
theorem ON (a:Nat):∀k,(bf k).filterMap (mG ps a)=(gI ps a k).map aH
 |0=>rfl
 |k+1=>by
  rw[qj,Cq,ON a k,gI,jz]
  congr 1
  show(List.filterMap (mG ps a) [k])=_;have ne:(a:Int)≠(a:Int)+1+k:=by omega
  by_cases c1:((a:Int),(a:Int)+1+(k:Int))∈ps
  ·simp[mG,Lse,c1]
  ·by_cases c2:((a:Int)+1+(k:Int),(a:Int))∈ps
   ·simp[mG,Lse,c1,c2]
   ·have:Lse ps a ((a:Int)+1+k):=⟨ne,c1,c2⟩
    simp[mG,this,c1,c2]
theorem OO:∀k,(bf k).flatMap (λa=>(bf (n - (a+1))).filterMap (mG ps a))=(gA n ps k).map aH
 |0=>rfl
 |k+1=>by rw[qj,Dh,OO k,gA,jz];simp[ON]
theorem sE (hn:n<=6):(loose n ps).length<=36:=by
 have hB:∀k,(gA n ps k).length<=k*6:=by
  intro k
  induction k with
  |zero=>exact ak _
  |succ k ih=>rw[gA,bu];have:=Cod.looseB_len ps k (n - (k+1));omega
 have:=hB n;unfold loose;omega
def FQ:M (List Dv):=bU (aS cN (aB (aA 1) aC)) [none,none,some 0,some 1] (aF 0) dO (kG (aS gX (aB (m2 bA (aA 0) (mC (.int 1))) (aB (aA 3) aC))) (aF 1) (bC (aE F_qv (aB (aA 2) (aB (aA 0) (aB (aA 1) aC))))) (bN (aL (aB (aA 0) (aB (aA 1) aC)))))
theorem z3g:DM=aI (cS (aE F_qr (aB (aA 0) aC))) (aI (aK (m2 aQ (aA 0) (mC (.int 0))) (aF 1)) (aO (bM FQ))):=rfl
theorem z3h {F:List Dv->Hs->Rs Dv}{a b c:Dv}{ρ:Ev}{v:Bool}(ha:aA 2 ρ=λH=>.ok a H) (hb:aA 0 ρ=λH=>.ok b H) (hc:aA 1 ρ=λH=>.ok c H) (e:F [a,b,c] H=.ok (.bl v) H):bC (aE F (aB (aA 2) (aB (aA 0) (aB (aA 1) aC)))) ρ H=.ok v H:=by simp[bC,aE,aB,ha,hb,hc,aC,e,eJ]
theorem z3i {ma mb:M Dv}{ρ:Ev}{A B:Int}(ea:ma ρ H=.ok (.int A) H) (eb:mb ρ H=.ok (.int B) H) (a0:0<=A) (a1:A<=1000) (b0:0<=B) (b1:B<=1000):aS gX (aB ma (aB mb aC)) ρ H=.ok (cJ A B) H:=by
 have h1:iG A=true:=by simp[iG];omega
 have h2:iG B=true:=by simp[iG];omega
 simp[aS,aB,ea,eb,aC,gX,h1,h2]
theorem z3j (hn:n<=6):FQ [some (aM n ps),some (.int n)] H=.ok ((loose n ps).map aH) H:=by
 have hr:=OO (n:=n) (ps:=ps) n;have hlen:((bf n).flatMap (λa=>(bf (n - (a+1))).filterMap (mG ps a))).length<=900000:=by rw[hr,bj];have:=sE (ps:=ps) hn;unfold loose at this;omega
 have w:FQ [some (aM n ps),some (.int n)] H=.ok ((bf n).flatMap (λa=>(bf (n - (a+1))).filterMap (mG ps a))) H:=
  NR (bf n) (λa=>bf (n - (a+1))) (mG ps) (λρ=>∃x y,ρ=[x,y,some (aM n ps),some (.int n)]) (src:=cJ 0 n) (FL rfl (by omega) (by omega)) (by simp[cJ]) ⟨_,_,rfl⟩ rfl (λk hk ρ ⟨x,y,e⟩=>by
   subst e;have hk':k<n:=by simpa using hk
   have gk:(bf n)[k]=k:=rf ..;have h00:(0+(k:Int))=(k:Int):=by omega
   refine⟨.int (0+k),[some (.int (0+k)),y,some (aM n ps),some (.int n)],cJ ((k:Int)+1) n,λρ=>∃y,ρ=[some (.int (k:Int)),y,some (aM n ps),some (.int n)],rfl,rfl,⟨y,by rw[h00]⟩,λρ ⟨y,e⟩=>⟨_,y,e⟩, ?_, ?_,rfl, ?_⟩
   ·rw[h00];exact z3i (A:=(k:Int)+1) (B:=(n:Int)) rfl rfl (by omega) (by omega) (by omega) (by omega)
   ·rw[gk];simp[cJ];omega
   ·intro j hj ρ ⟨y,e⟩;subst e;have gj:(bf (n - ((bf n)[k]+1)))[j]=j:=rf ..;refine⟨.int ((k:Int)+1+j),[some (.int (k:Int)),some (.int ((k:Int)+1+j)),some (aM n ps),some (.int n)],rfl,rfl,⟨_,rfl⟩, ?_⟩;have t:=z3h (ρ:=[some (.int (k:Int)),some (.int ((k:Int)+1+j)),some (aM n ps),some (.int n)]) rfl rfl rfl (loose_is (n:=n) (ps:=ps) (H:=H) (a:=(k:Int)) (b:=(k:Int)+1+j));rw[gj,gk];unfold mG
    cases c:decide (Lse ps (k:Int) ((k:Int)+1+j))with
    |true=>rw[c]at t;exact⟨t,rfl⟩
    |false=>rw[c]at t;exact t) hlen
 rw[hr]at w;exact w
theorem OP (o:OrdP n ps):F_qk [aM n ps] H=.ok (.ref H.length) (H++[.lst ((loose n ps).map aH)]):=by
 have hn:=need_ok (H:=H) o;have w1:cS (aE F_qr (aB (aA 0) aC)) [some (aM n ps),none] H=.nx [some (aM n ps),none] H:=by generalize aM n ps=z at hn;simp[cS,aE,aB,aA,aC,hn]
 have w2:aK (m2 aQ (aA 0) (mC (.int 0))) (aF 1) [some (aM n ps),none] H=.nx [some (aM n ps),some (.int n)] H:=rfl;show aW (DM [some (aM n ps),none] H)=_;rw[z3g,bE w1,bE w2];unfold aO bM;rw[z3j o.n6];rfl
def dF (ns:List Int) (q:Int×Int):Int:=if(ix ns q.1:Int) - ix ns q.2<0 then -((ix ns q.1:Int) - ix ns q.2)else(ix ns q.1:Int) - ix ns q.2
theorem z3k (q:Int×Int):0<=dF ns q:=by unfold dF;split <;> omega
theorem z3l {ma mb:M Dv}{ρ:Ev}{A B:Int}(ea:ma ρ H=.ok (.int A) H) (eb:mb ρ H=.ok (.int B) H):aE (f1 kF) (aB (m2 gF ma mb) aC) ρ H=.ok (.int (if A - B<0 then -(A - B)else A - B)) H:=by have hs:gF (.int A) (.int B) H=.ok (.int (A - B)) H:=rfl;have e:=nL ea eb hs;generalize A - B=C at e;generalize m2 gF ma mb=M at e;simp[aE,aB,e,aC,f1,kF]
theorem FR {a:Nat}{m0 m1:M Dv}{ρ:Ev}{q:Int×Int}(h1:aA a ρ=λH=>.ok (.tup (ns.map Dv.int)) H) (e0:m0 ρ H=.ok (.int q.1) H) (e1:m1 ρ H=.ok (.int q.2) H) (k0:q.1∈ns) (k1:q.2∈ns):aE (f1 kF) (aB (m2 gF (dS (aA a) m0) (dS (aA a) m1)) aC) ρ H=.ok (.int (dF ns q)) H:=z3l (rX h1 e0 k0) (rX h1 e1 k1)
theorem OQ {q:Int×Int}(k0:q.1∈ns) (k1:q.2∈ns):F_q7 [.tup (ns.map Dv.int),aH q] H=.ok (.int (dF ns q)) H:=by have e:=FR (H:=H) (ns:=ns) (a:=0) (m0:=m2 aQ (aA 1) (mC (.int 0))) (m1:=m2 aQ (aA 1) (mC (.int 1))) (ρ:=[some (.tup (ns.map Dv.int)),some (aH q)]) (q:=q) rfl rfl rfl k0 k1;show aW (DN [some (.tup (ns.map Dv.int)),some (aH q)] H)=_;unfold DN aO;rw[e];rfl
def dP (n:Nat) (ps:List (Int×Int)) (ns:List Int):Int:=if(loose n ps).map (dF ns)=[]then 0 else fG ((loose n ps).map (dF ns))
def vG:M (List Dv):=bU (bS dD (aA 1)) [none,some 0] (aF 0) dO (bN (aE F_q7 (aB (aA 1) (aB (aA 0) aC))))
theorem z3m:DO=aO (m1 (uJ 0) (bM vG)):=rfl
theorem FT {F:List Dv->Hs->Rs Dv}{a b v:Dv}{x y:Nat}{ρ:Ev}(ha:aA x ρ=λH=>.ok a H) (hb:aA y ρ=λH=>.ok b H) (e:F [a,b] H=.ok v H):aE F (aB (aA x) (aB (aA y) aC)) ρ H=.ok v H:=by simp[aE,aB,ha,hb,aC,e]
theorem z3n {i:Nat}(g:getL H i=some ((loose n ps).map aH)) (hn:n<=6) (hm:∀x:Int,0<=x->x<n->x∈ns):vG [some (.tup (ns.map Dv.int)),some (.ref i)] H=.ok (((loose n ps).map (dF ns)).map Dv.int) H:=by have w:vG [some (.tup (ns.map Dv.int)),some (.ref i)] H=.ok ((loose n ps).filterMap λq=>some (.int (dF ns q))) H:=gU (loose n ps) (λq=>some (.int (dF ns q))) (λρ=>∃a,ρ=[a,some (.tup (ns.map Dv.int))]) (src:=cE i ((loose n ps).map aH).length) (by simp[bS,aA,dD,g]) (by simp[cE]) ⟨_,rfl⟩ (by simp[cE,g]) (λk hk ρ ⟨a,e⟩=>by subst e;refine⟨aH (loose n ps)[k],[some (aH (loose n ps)[k]),some (.tup (ns.map Dv.int))],by simp[cE,g,hk],rfl,⟨_,rfl⟩,rfl, ?_⟩;have r:=mem_loose.mp (cx hk);exact FT rfl rfl (OQ (hm _ r.1 (by omega)) (hm _ (by omega) (by omega)))) (by have:=sE (ps:=ps) hn;omega);rw[w,nr];simp[Cs]
theorem OR {i:Nat}(g:getL H i=some ((loose n ps).map aH)) (hn:n<=6) (hm:∀x:Int,0<=x->x<n->x∈ns):∃H',F_qc [.tup (ns.map Dv.int),.ref i] H=.ok (.int (dP n ps ns)) H'/\Fr [] H H':=by
 have e:=z3n (H:=H) g hn hm;have ea:bM vG [some (.tup (ns.map Dv.int)),some (.ref i)] H=.ok (.ref H.length) (H++[.lst (((loose n ps).map (dF ns)).map Dv.int)]):=by unfold bM;rw[e];rfl
 have g2:getL (H++[Ob.lst (((loose n ps).map (dF ns)).map Dv.int)]) H.length=some (((loose n ps).map (dF ns)).map Dv.int):=Cod.last_get;have f:Fr [] H (H++[Ob.lst (((loose n ps).map (dF ns)).map Dv.int)]):=Fr.app;unfold dP;generalize (loose n ps).map (dF ns)=L at ea g2 f;generalize H++[Ob.lst (L.map Dv.int)]=H1 at ea g2 f;refine⟨H1, ?_,f⟩;show aW (DO [some (.tup (ns.map Dv.int)),some (.ref i)] H)=_;rw[z3m];generalize bM vG=M at ea;generalize ns.map Dv.int=ys at ea;simp[aO,m1,ea,uJ,g2,oY,aW]
theorem zI (o:OrdP n ps) {d:Dv}(h:TK 1 H d):F_q3 [aM n ps,d] H=if eX n ps d then .ok .non H else .ex 5 H:=by
 have e:=z34 o h;have t:cB (bC (aE F_q6 (aB (aA 0) (aB (aA 1) aC)))) [some (aM n ps),some d] H=.ok (!eX n ps d) H:=by refine oX ?_;have:=FT (F:=F_q6) (x:=0) (y:=1) (ρ:=[some (aM n ps),some d]) rfl rfl e;unfold bC;rw[this];rfl
 show aW (yA [some (aM n ps),some d] H)=_;unfold yA
 cases hb:eX n ps d with
 |true=>rw[hb]at t;rw[iT t];rfl
 |false=>rw[hb]at t;rw[lM t];rfl
theorem FU (hr:∀x∈ns,0<=x/\x<n) (hb:eX n ps (.tup (ns.map Dv.int))=true):∀x:Int,0<=x->x<n->x∈ns:=λx h0 h1=>by rw[rY hr]at hb;unfold nM at hb;simp only[cw,decide_eq_true_eq]at hb;exact qF hr hb.1.2 hb.1.1 h0 h1
theorem OS {F:List Dv->Hs->Rs Dv}{a b v:Dv}{ρ:Ev}(ha:aA 0 ρ=λH=>.ok a H) (hb:aA 1 ρ=λH=>.ok b H) (e:F [a,b] H=.ok v H):cS (aE F (aB (aA 0) (aB (aA 1) aC))) ρ H=.nx ρ H:=by simp[cS,aE,aB,ha,hb,aC,e]
theorem OT {F:List Dv->Hs->Rs Dv}{a b:Dv}{c:Nat}{ρ:Ev}(ha:aA 0 ρ=λH=>.ok a H) (hb:aA 1 ρ=λH=>.ok b H) (e:F [a,b] H=.ex c H):cS (aE F (aB (aA 0) (aB (aA 1) aC))) ρ H=.ex c H:=by simp[cS,aE,aB,ha,hb,aC,e]
theorem z3o {F G:List Dv->Hs->Rs Dv}{a b c v:Dv}{ρ:Ev}{H1 H2:Hs}(ha:aA 0 ρ=λH=>.ok a H) (hb:aA 1 ρ=λH=>.ok b H) (e:G [a] H=.ok c H1) (e2:F [b,c] H1=.ok v H2):aW (aO (aE F (aB (aA 1) (aB (aE G (aB (aA 0) aC)) aC))) ρ H)=.ok v H2:=by simp[aO,aE,aB,ha,hb,aC,e,e2,aW]
theorem z3p (o:OrdP n ps) (h:TK 1 H (.tup (ns.map Dv.int))) (hr:∀x∈ns,0<=x/\x<n) (hb:eX n ps (.tup (ns.map Dv.int))=true):∃H',F_q5 [aM n ps,.tup (ns.map Dv.int)] H=.ok (.int (dP n ps ns)) H'/\Fr [] H H':=by have e1:=zI o h;rw[hb]at e1;have e2:=OP (H:=H) o;have g:getL (H++[Ob.lst ((loose n ps).map aH)]) H.length=some ((loose n ps).map aH):=Cod.last_get;have f:Fr [] H (H++[Ob.lst ((loose n ps).map aH)]):=Fr.app;generalize H++[Ob.lst ((loose n ps).map aH)]=H1 at e2 g f;obtain⟨H2,e3,f3⟩:=OR g o.n6 (FU hr hb);refine⟨H2, ?_,f.trans f3 (by simp)⟩;show aW (rO [some (aM n ps),some (.tup (ns.map Dv.int))] H)=_;unfold rO;rw[bE (OS (F:=F_q3) rfl rfl e1)];exact z3o rfl rfl e2 e3
theorem z3q (o:OrdP n ps) {d:Dv}(h:TK 1 H d) (hb:eX n ps d=false):F_q5 [aM n ps,d] H=.ex 5 H:=by have e1:=zI o h;rw[hb]at e1;show aW (rO [some (aM n ps),some d] H)=_;unfold rO aI;rw[OT (F:=F_q3) rfl rfl e1];rfl
end
section
variable{n:Nat}{ps:List (Int×Int)}{H:Hs}{ns:List Int}
theorem z3r {src:Src}{sg:dC}{b:MS}{f k:Nat}{ρ ρ1:Ev}{H H2:Hs}{d v:Dv}(hg:src.get k H=some d) (hs:sg d ρ=some ρ1) (hb:b ρ1 H=.rt v H2):eY src sg b (f+1) k ρ H=.rt v H2:=by simp[eY,hg,hs,hb]
theorem oU (a b:Int):bL (.int a) (.int b) H=.ok (.bl (decide (a=b))) H:=by
 have:(a==b)=decide (a=b):=by rw[dh];simp
 simp[bL,bW,bF,bI,this]
def pA (ns:List Int) (S:Int) (qs:List (Int×Int)):Option (Int×Int):=qs.find? λq=>decide (dF ns q=S)
def sF:Option (Int×Int)->Dv
 |some q=>aH q
 |none=>.non
def fB:MS:=aX (mB (m2 bL (aE F_q7 (aB (aA 1) (aB (aA 4) aC))) (aA 3))) (aO (aA 4)) bG
theorem z3s {q:Int×Int}{S:Int}{x0 x2:Option Dv}(k0:q.1∈ns) (k1:q.2∈ns):mB (m2 bL (aE F_q7 (aB (aA 1) (aB (aA 4) aC))) (aA 3)) [x0,some (.tup (ns.map Dv.int)),x2,some (.int S),some (aH q)] H=.ok (decide (dF ns q=S)) H:=by have e:=FT (F:=F_q7) (x:=1) (y:=4) (ρ:=[x0,some (.tup (ns.map Dv.int)),x2,some (.int S),some (aH q)]) rfl rfl (OQ (H:=H) k0 k1);unfold mB;rw[nL (mb:=aA 3) (H2:=H) (y:=.int S) e rfl (oU _ _)];rfl
theorem OU {i:Nat}{all:List (Int×Int)}{S:Int}{x0:Option Dv}(g:getL H i=some (all.map aH)) (hm:∀q∈all,q.1∈ns/\q.2∈ns):∀(qs pre:List (Int×Int)) (y:Option Dv),all=pre++qs->
  (∃q,pA ns S qs=some q/\eY (cE i (all.map aH).length) (aF 4) fB qs.length pre.length [x0,some (.tup (ns.map Dv.int)),some (.ref i),some (.int S),y] H=.rt (aH q) H) ∨
  (pA ns S qs=none/\∃y',eY (cE i (all.map aH).length) (aF 4) fB qs.length pre.length [x0,some (.tup (ns.map Dv.int)),some (.ref i),some (.int S),y] H=.nx [x0,some (.tup (ns.map Dv.int)),some (.ref i),some (.int S),y'] H)
 | [],pre,y,e=>.inr ⟨rfl,y,by simp[eY,cE,g]⟩
 |q::qs,pre,y,e=>by
  have hk:pre.length<all.length:=by rw[e];simp
  have gq:(cE i (all.map aH).length).get pre.length H=some (aH q):=by
   have:all[pre.length]?=some q:=by rw[e];simp
   simp[cE,g,this]
  have hq:=hm q (by rw[e];simp);have t:=z3s (H:=H) (S:=S) (x0:=x0) (x2:=some (.ref i)) hq.1 hq.2
  by_cases c:dF ns q=S
  ·left;refine⟨q,by simp[pA,c],z3r gq rfl ?_⟩;have t':mB (m2 bL (aE F_q7 (aB (aA 1) (aB (aA 4) aC))) (aA 3)) [x0,some (.tup (ns.map Dv.int)),some (.ref i),some (.int S),some (aH q)] H=.ok true H:=by rw[t];simp[c]
   exact(lM t':aX _ (aO (aA 4)) bG _ _=_).trans rfl
  ·have t':mB (m2 bL (aE F_q7 (aB (aA 1) (aB (aA 4) aC))) (aA 3)) [x0,some (.tup (ns.map Dv.int)),some (.ref i),some (.int S),some (aH q)] H=.ok false H:=by rw[t];simp[c]
   have hb:fB [x0,some (.tup (ns.map Dv.int)),some (.ref i),some (.int S),some (aH q)] H=.nx [x0,some (.tup (ns.map Dv.int)),some (.ref i),some (.int S),some (aH q)] H:=(iT t':aX _ (aO (aA 4)) bG _ _=_).trans rfl;have st:=CI (src:=cE i (all.map aH).length) (sg:=aF 4) (b:=fB) (f:=qs.length) (k:=pre.length) (ρ:=[x0,some (.tup (ns.map Dv.int)),some (.ref i),some (.int S),y]) gq rfl hb;have ih:=OU (S:=S) (x0:=x0) g hm qs (pre++[q]) (some (aH q)) (by rw[e];simp);have hl:(pre++[q]).length=pre.length+1:=by simp
   rw[hl]at ih;have hf:pA ns S (q::qs)=pA ns S qs:=by simp[pA,c]
   rw[hf,show(q::qs).length=qs.length+1 from rfl,st];exact ih
def fT:MS:=dN (bS dD (aA 2)) (aF 4) fB
theorem OV:uM=aI (cS (aE F_q3 (aB (aA 0) (aB (aA 1) aC)))) (aI (aK (aE F_qk (aB (aA 0) aC)) (aF 2)) (aI (aK (aE F_qc (aB (aA 1) (aB (aA 2) aC))) (aF 3)) (aI fT (aO (mC .non))))):=rfl
theorem FV {F:List Dv->Hs->Rs Dv}{a v:Dv}{x i:Nat}{ρ ρ1:Ev}{H':Hs}(ha:aA x ρ=λH=>.ok a H) (e:F [a] H=.ok v H') (hs:aF i v ρ=some ρ1):aK (aE F (aB (aA x) aC)) (aF i) ρ H=.nx ρ1 H':=by simp[aK,aE,aB,ha,aC,e,hs]
theorem zJ {F:List Dv->Hs->Rs Dv}{a b v:Dv}{x y i:Nat}{ρ ρ1:Ev}{H':Hs}(ha:aA x ρ=λH=>.ok a H) (hb:aA y ρ=λH=>.ok b H) (e:F [a,b] H=.ok v H') (hs:aF i v ρ=some ρ1):aK (aE F (aB (aA x) (aB (aA y) aC))) (aF i) ρ H=.nx ρ1 H':=by simp[aK,aE,aB,ha,hb,aC,e,hs]
theorem z3t (o:OrdP n ps) (h:TK 1 H (.tup (ns.map Dv.int))) (hr:∀x∈ns,0<=x/\x<n) (hb:eX n ps (.tup (ns.map Dv.int))=true):∃H',F_qz [aM n ps,.tup (ns.map Dv.int)] H=.ok (sF (pA ns (dP n ps ns) (loose n ps))) H'/\Fr [] H H':=by
 have e1:=zI o h;rw[hb]at e1;have hf:=FU hr hb;have e2:=OP (H:=H) o;have g:getL (H++[Ob.lst ((loose n ps).map aH)]) H.length=some ((loose n ps).map aH):=Cod.last_get;have f:Fr [] H (H++[Ob.lst ((loose n ps).map aH)]):=Fr.app;generalize H++[Ob.lst ((loose n ps).map aH)]=H1 at e2 g f;generalize H.length=i at e2 g;obtain⟨H2,e3,f3⟩:=OR g o.n6 hf;have g2:=f3.getL g (by simp);have hm:∀q∈loose n ps,q.1∈ns/\q.2∈ns:=λq hq=>by have r:=mem_loose.mp hq;exact⟨hf _ r.1 (by omega),hf _ (by omega) (by omega)⟩
 have w1:=bE (u:=aI (aK (aE F_qk (aB (aA 0) aC)) (aF 2)) (aI (aK (aE F_qc (aB (aA 1) (aB (aA 2) aC))) (aF 3)) (aI fT (aO (mC .non))))) (OS (F:=F_q3) (ρ:=[some (aM n ps),some (.tup (ns.map Dv.int)),none,none,none]) rfl rfl e1);have w2:aK (aE F_qk (aB (aA 0) aC)) (aF 2) [some (aM n ps),some (.tup (ns.map Dv.int)),none,none,none] H=.nx [some (aM n ps),some (.tup (ns.map Dv.int)),some (.ref i),none,none] H1:=FV rfl e2 rfl;have w3:aK (aE F_qc (aB (aA 1) (aB (aA 2) aC))) (aF 3) [some (aM n ps),some (.tup (ns.map Dv.int)),some (.ref i),none,none] H1=.nx [some (aM n ps),some (.tup (ns.map Dv.int)),some (.ref i),some (.int (dP n ps ns)),none] H2:=zJ rfl rfl e3 rfl;have hi:bS dD (aA 2) [some (aM n ps),some (.tup (ns.map Dv.int)),some (.ref i),some (.int (dP n ps ns)),none] H2=.ok (cE i ((loose n ps).map aH).length) H2:=by simp[bS,aA,dD,g2]
 have w4:fT [some (aM n ps),some (.tup (ns.map Dv.int)),some (.ref i),some (.int (dP n ps ns)),none] H2=eY (cE i ((loose n ps).map aH).length) (aF 4) fB (loose n ps).length 0 [some (aM n ps),some (.tup (ns.map Dv.int)),some (.ref i),some (.int (dP n ps ns)),none] H2:=by unfold fT;rw[CH hi];simp[cE]
 refine⟨H2, ?_,f.trans f3 (by simp)⟩;show aW (uM [some (aM n ps),some (.tup (ns.map Dv.int)),none,none,none] H)=_;rw[OV,w1,bE w2,bE w3]
 rcases OU (x0:=some (aM n ps)) (S:=dP n ps ns) g2 hm (loose n ps) [] none rfl with⟨q,e5,e6⟩|⟨e5,y',e6⟩
 ·rw[e5];unfold aI;rw[w4,show(0:Nat)=([]:List (Int×Int)).length from rfl,e6];rfl
 ·rw[e5];rw[bE (w4.trans e6)];rfl
theorem z3u (o:OrdP n ps) {d:Dv}(h:TK 1 H d) (hb:eX n ps d=false):F_qz [aM n ps,d] H=.ex 5 H:=by have e1:=zI o h;rw[hb]at e1;show aW (uM [some (aM n ps),some d,none,none,none] H)=_;rw[OV];unfold aI;rw[OT (F:=F_q3) rfl rfl e1];rfl
theorem z3v {L:List Int}(h:∀x∈L,0<=x):fG (0::L)=if L=[]then 0 else fG L:=by
 have m1:=L2.Mr.maxI_is (ns:=0::L) (by simp)
 by_cases c:L=[]
 ·subst c;rfl
 ·rw[if_neg c];have m2:=L2.Mr.maxI_is c;have a:fG L<=fG (0::L):=m1.2 _ (ao _ m2.1);have b:fG (0::L)<=fG L:=by
   rcases ay.mp m1.1 with z|z
   ·rw[z];exact h _ m2.1
   ·exact m2.2 _ z
  omega
def zK:M (List Dv):=bU (bS dD (aE F_ql (aB (aA 0) aC))) [none,none,some 1] (cL 2 (bH (aF 0) (bH (aF 1) cM))) dO (bN (aE (f1 kF) (aB (m2 gF (dS (aA 2) (aA 0)) (dS (aA 2) (aA 1))) aC)))
theorem z3w:DP=aO (aE (f1 (pT fG)) (aB (m2 bA (aR (aB (mC (.int 0)) aC)) (bM zK)) aC)):=rfl
theorem OW {F:List Dv->Hs->Rs Dv}{a:Dv}{x i:Nat}{ρ:Ev}{H1:Hs}{xs:List Dv}(ha:aA x ρ=λH=>.ok a H) (e:F [a] H=.ok (.ref i) H1) (g:getL H1 i=some xs):bS dD (aE F (aB (aA x) aC)) ρ H=.ok (cE i xs.length) H1:=by simp[bS,aE,aB,ha,aC,e,dD,g]
theorem z3x {m:M Dv}{ρ:Ev}{i:Nat}{Z:List Int}{H3:Hs}(em:m ρ H=.ok (.ref i) H3) (g3:getL H3 i=some (Z.map Dv.int)) (lp:0<Z.length):aW (aO (aE (f1 (pT fG)) (aB m aC)) ρ H)=.ok (.int (fG Z)) H3:=by simp[aO,aE,aB,em,aC,f1,pT,g3,oY,lp,aW]
theorem z3y (o:OrdP n ps) (hm:∀x:Int,0<=x->x<n->x∈ns):∃H',F_qt [aM n ps,.tup (ns.map Dv.int)] H=.ok (.int (dP n ps ns)) H'/\Fr [] H H':=by
 have f0:Fr [] H (H++[Ob.lst [.int 0]]):=Fr.app;have g0:getL (H++[Ob.lst [.int 0]]) H.length=some ([0].map Dv.int):=Cod.last_get;have e0:aR (aB (mC (.int 0)) aC) [some (aM n ps),some (.tup (ns.map Dv.int))] H=.ok (.ref H.length) (H++[.lst [.int 0]]):=rfl;generalize H++[Ob.lst [.int 0]]=H0 at f0 g0 e0;generalize H.length=i0 at g0 e0;have e2:=OK (n:=n) (ps:=ps) (H:=H0) (by have:=o.n6;omega);have g:getL (H0++[Ob.lst ((loose n ps).map aH)]) H0.length=some ((loose n ps).map aH):=Cod.last_get;have f:Fr [] H0 (H0++[Ob.lst ((loose n ps).map aH)]):=Fr.app;generalize H0++[Ob.lst ((loose n ps).map aH)]=H1 at e2 g f;generalize H0.length=i at e2 g;have w:zK [some (aM n ps),some (.tup (ns.map Dv.int))] H0=.ok ((loose n ps).filterMap λq=>some (.int (dF ns q))) H1:=gU (loose n ps) (λq=>some (.int (dF ns q))) (λρ=>∃a b,ρ=[a,b,some (.tup (ns.map Dv.int))]) (OW rfl e2 g) (by simp[cE]) ⟨_,_,rfl⟩ (by simp[cE,g]) (λk hk ρ ⟨a,b,e⟩=>by subst e;have r:=mem_loose.mp (cx hk);exact⟨aH (loose n ps)[k],[some (.int (loose n ps)[k].1),some (.int (loose n ps)[k].2),some (.tup (ns.map Dv.int))],by simp[cE,g,hk],rfl,⟨_,_,rfl⟩,rfl,FR rfl rfl rfl (hm _ r.1 (by omega)) (hm _ (by omega) (by omega))⟩) (by have:=sE (ps:=ps) o.n6;omega);have w':zK [some (aM n ps),some (.tup (ns.map Dv.int))] H0=.ok (((loose n ps).map (dF ns)).map Dv.int) H1:=by rw[w,nr];simp[Cs]
 have h0:∀x∈(loose n ps).map (dF ns),0<=x:=λx hx=>by obtain⟨q,_,rfl⟩:=de.mp hx;exact z3k q
 have hl:((loose n ps).map (dF ns)).length<=36:=by rw[bj];exact sE o.n6
 have hs:fG (0::(loose n ps).map (dF ns))=dP n ps ns:=z3v h0;generalize (loose n ps).map (dF ns)=L at w' hl hs;have ea:bM zK [some (aM n ps),some (.tup (ns.map Dv.int))] H0=.ok (.ref H1.length) (H1++[.lst (L.map Dv.int)]):=by unfold bM;rw[w'];rfl
 have g2:getL (H1++[Ob.lst (L.map Dv.int)]) H1.length=some (L.map Dv.int):=Cod.last_get;have f2:Fr [] H1 (H1++[Ob.lst (L.map Dv.int)]):=Fr.app;have g0':=f2.getL (f.getL g0 (by simp)) (by simp);generalize H1++[Ob.lst (L.map Dv.int)]=H2 at ea g2 f2 g0';generalize H1.length=i2 at ea g2;have a:=Cod.addL (H:=H2) g0' g2 (by simp;omega);have em:=nL e0 ea a;have hcat:[0].map Dv.int++L.map Dv.int=(0::L).map Dv.int:=rfl;rw[hcat]at em;have g3:getL (H2++[Ob.lst ((0::L).map Dv.int)]) H2.length=some ((0::L).map Dv.int):=Cod.last_get;have f3:Fr [] H2 (H2++[Ob.lst ((0::L).map Dv.int)]):=Fr.app;generalize H2++[Ob.lst ((0::L).map Dv.int)]=H3 at em g3 f3;generalize H2.length=i3 at em g3;refine⟨H3, ?_,((f0.trans f (by simp)).trans f2 (by simp)).trans f3 (by simp)⟩;show aW (DP [some (aM n ps),some (.tup (ns.map Dv.int))] H)=_;rw[z3w,<-hs];exact z3x em g3 (by simp)
end
theorem OX {α:Type}{p q:α->Bool}:∀{l:List α},(∀x∈l,p x=true->q x=true)->(∃a∈l,q a=true/\p a=false)->(l.filter p).length<(l.filter q).length
 | [],_,⟨_,h,_⟩=>nomatch h
 |x::l,h,⟨a,ha,hq,hp⟩=>by
  have le:(l.filter p).length<=(l.filter q).length:=by
   clear hq hp ha
   have h':∀x∈l,p x=true->q x=true:=λy hy=>h y (ao _ hy)
   clear h
   induction l with
   |nil=>exact ak _
   |cons y l ih=>
    have i:=ih λz hz=>h' z (ao _ hz);have hy:=h' y (bc ..);rw[jt,jt]
    cases c:p y with
    |true=>rw[hy c];simpa using i
    |false=>
     cases c2:q y with
     |true=>simp;omega
     |false=>simpa using i
  rw[jt,jt]
  rcases ay.mp ha with rfl|ha
  ·rw[hq,hp];simp;omega
  ·have i:=OX (l:=l) (λy hy=>h y (ao _ hy)) ⟨a,ha,hq,hp⟩;have hx:=h x (bc ..)
   cases c:p x with
   |true=>rw[hx c];simpa using i
   |false=>
    cases c2:q x with
    |true=>simp;omega
    |false=>simpa using i
section
variable{n st:Nat}{ps:List (Int×Int)}{H:Hs}{xs:List Int}
theorem OY (o:OrdP n ps) {left:List Int}:∀(m:Nat) (x:Int),x∈left->(left.filter λa=>decide ((a,x)∈ps)).length<=m->∃z∈left,∀a∈left,(a,z)∉ps
 |m,x,hx,hm=>by
  by_cases c:∃a∈left,(a,x)∈ps
  ·obtain⟨a,ha,hp⟩:=c;have lt:=OX (l:=left) (p:=λb=>decide ((b,a)∈ps)) (q:=λb=>decide ((b,x)∈ps)) (λb _ hb=>by simp only[decide_eq_true_eq]at hb ⊢;exact o.tr _ hb _ hp rfl) ⟨a,ha,by simpa using hp,by simp;exact λz=>o.irr _ z rfl⟩
   match m,hm with
   |0,hm=>omega
   |m+1,hm=>exact OY o m a ha (by omega)
  ·exact⟨x,hx,λa ha hp=>c ⟨a,ha,hp⟩⟩
def zL:M (List Dv):=bU (aS cN (aB (m2 aQ (aA 1) (mC (.int 0))) aC)) [none,some 2] (aF 0) (mB (m2 (eM true) (aA 0) (aA 1))) (bN (aA 0))
def zM:M (List Dv):=bU (bS eV (m2 aQ (aA 1) (mC (.int 1)))) [none,none,some 0,some 2] (cL 2 (bH (aF 0) (bH (aF 1) cM))) (jA (mB (m2 bL (aA 1) (aA 2))) (mB (m2 (eM true) (aA 0) (aA 3)))) (bN (aA 0))
def FW:M (List Dv):=bU (bS dD (aA 4)) [none,some 1,some 2] (aF 0) (mB (m2 bL (bM zM) (aR aC))) (bN (aA 0))
def OZ:MS:=aK (m2 bA (aA 2) (aL (aB (m2 aQ (aA 5) (aE F_qu (aB (aA 0) (aB (aE (f1 cD) (aB (aA 5) aC)) aC)))) aC))) (aF 2)
def sB:MS:=aI (aK (bM zL) (aF 4)) (aI (aK (bM FW) (aF 5)) OZ)
theorem z3z:DQ=aI (aK (aL aC) (aF 2)) (aI (dN (aS cN (aB (m2 aQ (aA 1) (mC (.int 0))) aC)) (aF 3) sB) (aO (aA 2))):=rfl
theorem O2 {ρ:Ev}(e:aA 1 ρ=λH=>.ok (aM n ps) H):m2 aQ (aA 1) (mC (.int 0)) ρ H=.ok (.int n) H:=by have h0:=NT (n:=n) (ps:=ps) H;generalize aM n ps=z at h0 e;simp[m2,e,mC,h0]
def jQ (n:Nat) (xs:List Int):List Int:=(cA n).filter λx=>!decide (x∈xs)
theorem z40 (hn:n<=6) {x0 x3 x4 x5:Option Dv}:zL [x0,some (aM n ps),some (.tup (xs.map Dv.int)),x3,x4,x5] H=.ok ((jQ n xs).map Dv.int) H:=by
 have w:zL [x0,some (aM n ps),some (.tup (xs.map Dv.int)),x3,x4,x5] H=.ok ((cA n).filterMap λx=>if !decide (x∈xs)then some (Dv.int x)else none) H:=
  gU (cA n) _ (λρ=>∃a,ρ=[a,some (.tup (xs.map Dv.int))]) (src:=cJ 0 n) (FL (O2 rfl) (by omega) (by omega)) (by simp[cJ,cA]) ⟨_,rfl⟩ rfl (λk hk ρ ⟨a,e1⟩=>by
   subst e1;have gk:(cA n)[k]=(k:Int):=by simp[cA]
   refine⟨.int (0+k),[some (.int (0+k)),some (.tup (xs.map Dv.int))],rfl,rfl,⟨_,rfl⟩, ?_⟩;have h00:(0+(k:Int))=(k:Int):=by omega
   rw[gk,h00];have t:=KU true H (k:Int) xs;simp only[if_true]at t
   cases c:!decide ((k:Int)∈xs)with
   |true=>rw[c]at t;simp[mB,m2,aA,t,dI]
   |false=>rw[c]at t;simp[mB,m2,aA,t,dI]) (by simp[cA];omega)
 exact w.trans (congrArg (λl=>Rs.ok l _) (vD _ _ _))
def iM (ps:List (Int×Int)) (xs:List Int) (x:Int):List (Int×Int):=ps.filter λq=>decide (q.2=x)&&!decide (q.1∈xs)
theorem z41 (o:OrdP n ps) {x:Int}:zM [some (.int x),some (aM n ps),some (.tup (xs.map Dv.int))] H=.ok (((iM ps xs x).map λq=>q.1).map Dv.int) H:=by
 have w:zM [some (.int x),some (aM n ps),some (.tup (xs.map Dv.int))] H=.ok (ps.filterMap λq=>if(decide (q.2=x)&&!decide (q.1∈xs))then some ((λq:Int×Int=>Dv.int q.1) q)else none) H:=
  gU ps _ (λρ=>∃a b,ρ=[a,b,some (.int x),some (.tup (xs.map Dv.int))]) (src:=cT (ps.map aH)) rfl (by simp[cT]) ⟨_,_,rfl⟩ rfl (λk hk ρ ⟨a,b,e⟩=>by
   subst e;refine⟨aH ps[k],[some (.int ps[k].1),some (.int ps[k].2),some (.int x),some (.tup (xs.map Dv.int))],by simp[cT,hk],rfl,⟨_,_,rfl⟩, ?_⟩;have t1:=oU (H:=H) ps[k].2 x;have t2:=KU true H ps[k].1 xs;simp only[if_true]at t2;generalize xs.map Dv.int=ys at t2
   cases c1:decide (ps[k].2=x)with
   |false=>rw[c1]at t1;simp[jA,mB,m2,aA,t1,dI]
   |true=>
    rw[c1]at t1
    cases c2:!decide (ps[k].1∈xs)with
    |true=>rw[c2]at t2;simp[jA,mB,m2,aA,t1,t2,dI]
    |false=>rw[c2]at t2;simp[jA,mB,m2,aA,t1,t2,dI]) (by have:=o.len;omega)
 have:=w.trans (congrArg (λl=>Rs.ok l _) (vD _ _ _));rw[nr];exact this
theorem z42 {m:M (List Dv)}{ρ:Ev}{zs:List Int}(e:m ρ H=.ok (zs.map Dv.int) H):∃H',mB (m2 bL (bM m) (aR aC)) ρ H=.ok (decide (zs=[])) H'/\Fr [] H H':=by
 have ea:bM m ρ H=.ok (.ref H.length) (H++[.lst (zs.map Dv.int)]):=by unfold bM;rw[e];rfl
 have g:getL (H++[Ob.lst (zs.map Dv.int)]) H.length=some (zs.map Dv.int):=Cod.last_get;have f:Fr [] H (H++[Ob.lst (zs.map Dv.int)]):=Fr.app;generalize H++[Ob.lst (zs.map Dv.int)]=H1 at ea g f;have g2:getL (H1++[Ob.lst []]) H1.length=some (([]:List Int).map Dv.int):=Cod.last_get;have q:=eq_ints (jK (l:=[Ob.lst []]) g) g2;refine⟨H1++[.lst []], ?_,f.trans (T:=[]) Fr.app (by simp)⟩;generalize bM m=M at ea;simp[mB,m2,ea,aR,aC,lim,q,dI]
theorem z43 (o:OrdP n ps) {i:Nat}{ys:List Int}(g:getL H i=some (ys.map Dv.int)) (hl:ys.length<=6) {x0 x3 x5:Option Dv}:∃H',FW [x0,some (aM n ps),some (.tup (xs.map Dv.int)),x3,some (.ref i),x5] H=.ok ((ys.filter λy=>decide (iM ps xs y=[])).map Dv.int) H'/\Fr [] H H':=by
 have fl:∀l:List Int,(l.flatMap λy=>if decide (iM ps xs y=[])then[Dv.int y]else[])=(l.filter λy=>decide (iM ps xs y=[])).map Dv.int:=λl=>by
  induction l with
  |nil=>rfl
  |cons y l ih=>
   rw[kd,jt,ih]
   cases c:decide (iM ps xs y=[]) <;> simp
 obtain⟨ρ',H',h,_,f⟩:=EV (mi:=bS dD (aA 4)) (cap:=[none,some 1,some 2]) (src:=cE i (ys.map Dv.int).length) (sg:=aF 0) (t:=mB (m2 bL (bM zM) (aR aC))) (m:=bN (aA 0)) (ρ:=[x0,some (aM n ps),some (.tup (xs.map Dv.int)),x3,some (.ref i),x5]) (H:=H) (H1:=H) ys (λy=>if decide (iM ps xs y=[])then[Dv.int y]else[]) (λρ Hx=>(∃a,ρ=[a,some (aM n ps),some (.tup (xs.map Dv.int))])/\Fr [] H Hx) (by simp[bS,aA,dD,g]) (by simp[cE]) ⟨⟨_,rfl⟩,Fr.refl⟩ (λρ Hx s=>by have gx:=s.2.getL g (by simp);simp[cE,gx])
  (λk hk ρ Hx ⟨⟨a,e⟩,f⟩=>by
   subst e;have gx:=f.getL g (by simp);refine⟨.int ys[k],[some (.int ys[k]),some (aM n ps),some (.tup (xs.map Dv.int))],by simp[cE,gx,hk],rfl, ?_⟩;obtain⟨Hy,t,fy⟩:=z42 (z41 (H:=Hx) (xs:=xs) o (x:=ys[k]));have hd:decide (((iM ps xs ys[k]).map λq=>q.1)=[])=decide (iM ps xs ys[k]=[]):=by rw[dh];simp
   rw[hd]at t
   cases c:decide (iM ps xs ys[k]=[])with
   |false=>rw[c]at t;exact .inl ⟨Hy,t,by simp,⟨_,rfl⟩,f.trans fy (by simp)⟩
   |true=>rw[c]at t;refine .inr ⟨Hy,t,λacc hl=>⟨[some (.int ys[k]),some (aM n ps),some (.tup (xs.map Dv.int))],Hy, ?_,⟨_,rfl⟩,f.trans fy (by simp)⟩⟩;simp only[if_true]at hl ⊢;exact EW rfl hl) (by
   rw[fl,bj];have:=md (λy=>decide (iM ps xs y=[])) ys;omega)
 refine⟨H', ?_,f⟩;rw[<-fl];exact h
theorem z44 {i:Nat}{zs:List Int}{ρ ρ1:Ev}(s:Com.St st H) (ht:aA 0 ρ=λH=>.ok (.ref st) H) (hx:aA 2 ρ=λH=>.ok (.tup (xs.map Dv.int)) H) (h5:aA 5 ρ=λH=>.ok (.ref i) H) (is:i≠st) (g:getL H i=some (zs.map Dv.int)) (l1:1<=zs.length) (l2:zs.length<=50) (hl:xs.length<=50)
  (hs:∀v,aF 2 v ρ=some (ρ.set 2 (some v))):∃z H',z∈zs/\OZ ρ H=.nx (ρ.set 2 (some (.tup ((xs++[z]).map Dv.int)))) H'/\Com.St st H'/\Fr [st] H H':=by
 obtain⟨r,H1,r0,r1,t1,f1',s1⟩:=jO (zs.length:Int) s (by omega) (by omega);have g1:=f1'.getL g (by simpa using is);obtain⟨k,rfl⟩:∃k:Nat,r=k:=⟨r.toNat,by omega⟩
 have hk:k<zs.length:=by omega
 have x:=Cod.ixL g1 (show k<(zs.map Dv.int).length by simpa using hk);rw[List.getElem_map]at x;refine⟨zs[k],H1,cx hk, ?_,s1,f1'⟩;have eL:aE (f1 cD) (aB (aA 5) aC) ρ H=.ok (.int zs.length) H:=by simp[aE,aB,h5,aC,f1,cD,fF,iF,fX,g]
 have e1:m2 aQ (aA 5) (aE F_qu (aB (aA 0) (aB (aE (f1 cD) (aB (aA 5) aC)) aC))) ρ H=.ok (.int zs[k]) H1:=by generalize aE (f1 cD) (aB (aA 5) aC)=M at eL;generalize (zs.length:Int)=L at eL t1;simp[m2,h5,aE,aB,ht,eL,aC,t1,x]
 have e2:aL (aB (m2 aQ (aA 5) (aE F_qu (aB (aA 0) (aB (aE (f1 cD) (aB (aA 5) aC)) aC)))) aC) ρ H=.ok (.tup [.int zs[k]]) H1:=by generalize m2 aQ (aA 5) (aE F_qu (aB (aA 0) (aB (aE (f1 cD) (aB (aA 5) aC)) aC)))=M at e1;simp[aL,aB,e1,aC,lim]
 have a:=rW (xs.map Dv.int) [.int zs[k]] (by simp;omega) (H:=H1);have e3:=nL (ma:=aA 2) (H1:=H) (x:=.tup (xs.map Dv.int)) (by rw[hx]) e2 a;have hc:xs.map Dv.int++[.int zs[k]]=(xs++[zs[k]]).map Dv.int:=by simp
 rw[hc]at e3;exact vE e3 (hs _)
structure Part (n:Nat) (ps:List (Int×Int)) (k:Nat) (xs:List Int):Prop where
 len:xs.length=k
 nd:xs.Nodup
 rng:∀x∈xs,0<=x/\x<n
 cl:∀p∈ps,p.2∈xs->p.1∈xs/\ix xs p.1<ix xs p.2
theorem z45 (o:OrdP n ps) (s:Com.St st H):∃(ns:List Int) (H':Hs),F_qe [.ref st,aM n ps] H=.ok (.tup (ns.map Dv.int)) H'/\(∀x∈ns,0<=x/\x<n)/\eX n ps (.tup (ns.map Dv.int))=true/\ns.length<=6/\Com.St st H'/\Fr [st] H H':=by
 have n6:=o.n6;have w1:aK (aL aC) (aF 2) [some (.ref st),some (aM n ps),none,none,none,none] H=.nx [some (.ref st),some (aM n ps),some (.tup (([]:List Int).map Dv.int)),none,none,none] H:=rfl;obtain⟨ρ',H1,w2,xs,y3,y4,y5,e,P,s1,f1'⟩:=oP (mi:=aS cN (aB (m2 aQ (aA 1) (mC (.int 0))) aC)) (sg:=aF 3) (b:=sB) (ρ:=[some (.ref st),some (aM n ps),some (.tup (([]:List Int).map Dv.int)),none,none,none]) (H:=H) (FL (O2 rfl) (by omega) (by omega))
  (λk ρ Hx=>∃(xs:List Int) (y3 y4 y5:Option Dv),ρ=[some (.ref st),some (aM n ps),some (.tup (xs.map Dv.int)),y3,y4,y5]/\Part n ps k xs/\Com.St st Hx/\Fr [st] H Hx)
  (λk ρ Hx hk ⟨xs,y3,y4,y5,e,P,s,fr⟩=>by
   subst e;have hk':k<n:=by have:k<(cJ 0 (n:Int)).n:=hk;simp[cJ]at this;exact this
   have hll:(jQ n xs).length<=6:=by have:=md (λx=>!decide (x∈xs)) (cA n);simp[cA]at this;unfold jQ;simp[cA];omega
   have a1:=z40 (ps:=ps) (xs:=xs) (H:=Hx) (x0:=some (.ref st)) (x3:=some (.int (0+(k:Int)))) (x4:=y4) (x5:=y5) n6;have wa:aK (bM zL) (aF 4) [some (.ref st),some (aM n ps),some (.tup (xs.map Dv.int)),some (.int (0+(k:Int))),y4,y5] Hx=.nx [some (.ref st),some (aM n ps),some (.tup (xs.map Dv.int)),some (.int (0+(k:Int))),some (.ref Hx.length),y5] (Hx++[.lst ((jQ n xs).map Dv.int)]):=FO a1 rfl;have ga:getL (Hx++[Ob.lst ((jQ n xs).map Dv.int)]) Hx.length=some ((jQ n xs).map Dv.int):=Cod.last_get;have fa:Fr [] Hx (Hx++[Ob.lst ((jQ n xs).map Dv.int)]):=Fr.app;have sa:=s.fr fa (by simp);generalize Hx++[Ob.lst ((jQ n xs).map Dv.int)]=Ha at wa ga fa sa;generalize Hx.length=ia at wa ga;obtain⟨Hb,a2,fb⟩:=z43 (xs:=xs) (x0:=some (.ref st)) (x3:=some (.int (0+(k:Int)))) (x5:=y5) o ga hll;generalize hzs:((jQ n xs).filter λy=>decide (iM ps xs y=[]))=zs at a2;have wb:aK (bM FW) (aF 5) [some (.ref st),some (aM n ps),some (.tup (xs.map Dv.int)),some (.int (0+(k:Int))),some (.ref ia),y5] Ha=.nx [some (.ref st),some (aM n ps),some (.tup (xs.map Dv.int)),some (.int (0+(k:Int))),some (.ref ia),some (.ref Hb.length)] (Hb++[.lst (zs.map Dv.int)]):=FO a2 rfl;have gb:getL (Hb++[Ob.lst (zs.map Dv.int)]) Hb.length=some (zs.map Dv.int):=Cod.last_get;have sb0:=sa.fr fb (by simp);have lb:=sb0.lt;have nb:Hb.length≠st:=by omega
   have fb2:Fr [] Ha (Hb++[Ob.lst (zs.map Dv.int)]):=fb.trans (T:=[]) Fr.app (by simp);have sb:=sa.fr fb2 (by simp);generalize Hb++[Ob.lst (zs.map Dv.int)]=Hc at wb gb fb2 sb;generalize Hb.length=ib at wb gb nb;have ex:∃x,x∈jQ n xs:=by
    by_cases c:∃x,x∈jQ n xs
    ·exact c
    ·exfalso
     have sub:∀x∈cA n,x∈xs:=λx hx=>by
      by_cases d:x∈xs
      ·exact d
      ·exact absurd ⟨x,gw.mpr ⟨hx,by simpa using d⟩⟩ c
     have:=(rng_nodup (n:=n)).length_le_of_subset sub;rw[P.len]at this;simp[cA]at this;omega
   obtain⟨x0,hx0⟩:=ex;obtain⟨z0,hz0,hmin⟩:=OY o (left:=jQ n xs) _ x0 hx0 (ak _);have hz:z0∈zs:=by rw[<-hzs];refine gw.mpr ⟨hz0, ?_⟩;simp only[decide_eq_true_eq,iM,kz];intro q hq hc;simp only[cw,decide_eq_true_eq,Bool.not_eq_true',decide_eq_false_iff_not]at hc;have r:=o.rng q hq;refine hmin q.1 (gw.mpr ⟨mem_rng.mpr ⟨r.1,r.2.1⟩,by simpa using hc.2⟩) ?_;rw[<-hc.1];exact hq
   have l1:1<=zs.length:=by
    cases zs with
    |nil=>cases hz
    |cons _ _=>simp
   have l2:zs.length<=50:=by rw[<-hzs];have:=md (λy=>decide (iM ps xs y=[])) (jQ n xs);omega
   obtain⟨z,Hd,mz,wd,sd,fd⟩:=z44 (xs:=xs) (ρ:=[some (.ref st),some (aM n ps),some (.tup (xs.map Dv.int)),some (.int (0+(k:Int))),some (.ref ia),some (.ref ib)]) (ρ1:=[]) sb rfl rfl rfl nb gb l1 l2 (by have:=P.len;omega) (λ_=>rfl);rw[<-hzs]at mz;have m1:=gw.mp mz;have m2':=gw.mp m1.1;have zr:=mem_rng.mp m2'.1;have zx:z∉xs:=by simpa using m2'.2
   have zo:iM ps xs z=[]:=by simpa using m1.2
   refine⟨.int (0+k),[some (.ref st),some (aM n ps),some (.tup (xs.map Dv.int)),some (.int (0+(k:Int))),y4,y5],_,Hd,rfl,rfl,(by unfold sB;rw[bE wa,bE wb];exact wd),xs++[z],_,_,_,rfl,⟨by simp[P.len], ?_,λx hx=>?_,λp hp hx=>?_⟩,sd,((fr.trans fa (by simp)).trans fb2 (by simp)).trans fd (by simp)⟩
   ·rw[List.nodup_append];refine⟨P.nd,by simp,λa ha b hb e=>?_⟩;have:b=z:=by simpa using hb
    subst this;subst e;exact zx ha
   ·rcases cg.mp hx with hx|hx
    ·exact P.rng x hx
    ·have:x=z:=by simpa using hx
     rw[this];exact zr
   ·by_cases c:p.2∈xs
    ·obtain⟨q1,q2⟩:=P.cl p hp c;exact⟨jb _ q1,by rw[FP q1,FP c];exact q2⟩
    ·have e2:p.2=z:=by
      rcases cg.mp hx with hx|hx
      ·exact absurd hx c
      ·simpa using hx
     have q1:p.1∈xs:=by
      by_cases d:p.1∈xs
      ·exact d
      ·exfalso
       have:p∈iM ps xs z:=gw.mpr ⟨hp,by simp[e2,d]⟩;rw[zo]at this;cases this
     refine⟨jb _ q1, ?_⟩;rw[FP q1,e2,z32 zx];exact z30 q1)
  (λρ Hx _=>rfl) ⟨[],none,none,none,rfl,⟨rfl,.nil,by simp,by simp⟩,s,Fr.refl⟩
 subst e;have hn:(cJ 0 (n:Int)).n=n:=by simp[cJ]
 rw[hn]at P;refine⟨xs,H1, ?_,P.rng, ?_,by have:=P.len;omega,s1,f1'⟩
 ·show aW (DQ [some (.ref st),some (aM n ps),none,none,none,none] H)=_;rw[z3z,bE w1,bE w2];rfl
 ·rw[rY P.rng];unfold nM;simp only[P.len,P.nd,decide_true,wg,fj,decide_eq_true_eq];intro p hp;have r:=o.rng p hp;exact(P.cl p hp (qF P.rng P.nd P.len r.2.2.1 r.2.2.2)).2
end
open L2.Mr.Cod (last_get addL ixL)
def Ox (x:Dv):Prop:=(∀H,T0 H x)/\PU x
def Gd (H:Hs) (d:Dv):Prop:=TK 1 H d/\∀ds,d=.tup ds->ds.length<64/\∀x∈ds,PU x
theorem Gd.tup {H:Hs}{zs:List Dv}(hl:zs.length<64) (h:∀x∈zs,Ox x):Gd H (.tup zs):=⟨TK.tup (by omega) λx hx=>(h x hx).1 H,λds e=>by cases e;exact⟨hl,λx hx=>(h x hx).2⟩⟩
theorem Gd.of0 {H:Hs}{d:Dv}(h:T0 H d) (hn:∀ds,d≠.tup ds):Gd H d:=⟨TK.of h hn,λds e=>absurd e (hn ds)⟩
theorem Gd.fr {st:Nat}{H H':Hs}{d:Dv}(g:Gd H d) (f:Fr [st] H H') (s:Com.St st H'):Gd H' d:=⟨g.1.fr f s,g.2⟩
theorem Gd.fr0 {H H':Hs}{d:Dv}(g:Gd H d) (f:Fr [] H H'):Gd H' d:=⟨g.1.fr0 f,g.2⟩
theorem Gd.upd {j:Nat}{xs ys:List Dv}{H:Hs}{d:Dv}(e:getL H j=some xs) (g:Gd H d):Gd (H.set j (.lst ys)) d:=⟨TK.upd e g.1,g.2⟩
theorem zN (k:Int):Ox (.int k):=⟨λ_=>trivial,λ_=>⟨_,rfl⟩⟩
theorem FX {ns:List Int}:∀x∈ns.map Dv.int,Ox x:=λx hx=>by obtain⟨y,_,rfl⟩:=de.mp hx;exact zN y
theorem rH {H:Hs}{k:Nat}(ns:List Int):∃ts,bJ (bF (k+1) H) (ns.map Dv.int)=some ts:=by
 induction ns with
 |nil=>exact⟨[],rfl⟩
 |cons x xs ih=>obtain⟨ts,e⟩:=ih;have e0:bF (k+1) H (.int x)=some (.int x):=rfl;exact⟨.int x::ts,by simp only[dk,bJ,e0,e]⟩
theorem z46 {H:Hs}{k:Nat}{xs:List Dv}{ts:List Dt}(e:bJ (bF k H) xs=some ts):bF (k+1) H (.tup xs)=some (.tup ts):=by simp only[bF,e]
theorem O3 {ns:List Int}:Ox (.tup (ns.map Dv.int)):=⟨λ_=>trivial,λH=>by obtain⟨ts,e⟩:=rH (H:=H) (k:=27) ns;exact⟨.tup ts,z46 e⟩⟩
theorem FY {ds:List Dv}{k:Nat}{H:Hs}(hk:k<ds.length):aQ (.tup ds) (.int (k:Int)) H=.ok ds[k] H:=by
 have h1:dX ds.length (k:Int)=some k:=by unfold dX;rw[if_pos (by omega),if_pos (by omega)];simp
 have h2:gC ds (k:Int)=some ds[k]:=by unfold gC;rw[h1];simp[hk]
 simp only[aQ,fF,gD,jU,h2,if_true]
section
variable{st:Nat}{H:Hs}{ρ:Ev}{ds:List Dv}{a b:Nat}{y:Dv}
def vH:M (List Dv):=(aB (m2 aQ (aA 1) (aA 3)) (aB (aE (f1 cD) (aB (aA 1) aC)) (aB (m1 mU (mC (.int 1))) (aB (mC (.bl true)) (aB (mC .non) (aB (mC (.str "0")) (aB (aL (aB (mC (.int 0)) aC)) (aB (m2 oJ (mC (.int 10)) (mC (.int 29))) (aB (mC (.bl false)) aC)))))))))
def nO (x:Dv) (L:Int):List Dv:=[x,.int L,.int (-1),.bl true,.non,.str "0",.tup [.int 0],.int (10 ^ 29),.bl false]
theorem z47 {x:Dv}{L:Int}(h:Ox x):∀y∈nO x L,Ox y:=by
 intro y hy;simp only[nO,ay,xw,or_false]at hy
 rcases hy with rfl|rfl|rfl|rfl|rfl|rfl|rfl|rfl|rfl
 ·exact h
 ·exact zN _
 ·exact zN _
 ·exact⟨λ_=>trivial,λ_=>⟨_,rfl⟩⟩
 ·exact⟨λ_=>trivial,λ_=>⟨_,rfl⟩⟩
 ·exact⟨λ_=>trivial,λ_=>⟨_,rfl⟩⟩
 ·exact O3 (ns:=[0])
 ·exact zN _
 ·exact⟨λ_=>trivial,λ_=>⟨_,rfl⟩⟩
theorem z48 (s:Com.St st H) (hx:∀x∈ds,Ox x) (hb:b<ds.length) (h0:aA 0 ρ=λH=>.ok (.ref st) H) (h1:aA 1 ρ=λH=>.ok (.tup ds) H) (h3:aA 3 ρ=λH=>.ok (.int (b:Int)) H):∃y H',m2 aQ (aR vH) (aE F_qu (aB (aA 0) (aB (mC (.int 9)) aC))) ρ H=.ok y H'/\Ox y/\Com.St st H'/\Fr [st] H H':=by
 have ox:=z47 (L:=(ds.length:Int)) (hx _ (cx hb));have e1:aR vH ρ H=.ok (.ref H.length) (H++[.lst (nO ds[b] ds.length)]):=by have hp:∀H,oJ (.int 10) (.int 29) H=.ok (.int (10 ^ 29)) H:=λH=>rfl;have hg:mU (.int 1) H=.ok (.int (-1)) H:=rfl;have hi:=FY (H:=H) hb;have hl:=FN (H:=H) (ds:=ds) (i:=1) (ρ:=ρ) (by rw[h1]);unfold vH nO;generalize (ds.length:Int)=L at hl;generalize ds[b]=z at hi;generalize aE (f1 cD) (aB (aA 1) aC)=M at hl;simp[aR,aB,m2,m1,mC,h1,h3,hi,hl,aL,aC,hp,hg,lim]
 have f1':Fr [] H (H++[Ob.lst (nO ds[b] ds.length)]):=Fr.app;have g1:getL (H++[Ob.lst (nO ds[b] ds.length)]) H.length=some (nO ds[b] ds.length):=last_get;have lt:=s.lt;have i1:H.length≠st:=by omega
 have l9:(nO ds[b] (ds.length:Int)).length=9:=rfl;generalize nO ds[b] (ds.length:Int)=ol at e1 f1' g1 l9 ox;generalize H++[Ob.lst ol]=H1 at e1 f1' g1;generalize H.length=i at e1 g1 i1;have s1:=s.fr f1' (by simp);obtain⟨r,H2,r0,r1,t2,f2,s2⟩:=jO 9 s1;have g2:=f2.getL g1 (by simpa using i1);obtain⟨j,rfl⟩:∃j:Nat,r=j:=⟨r.toNat,by omega⟩
 have hj:j<ol.length:=by omega
 refine⟨ol[j],H2, ?_,ox _ (cx hj),s2,(f1'.mono (T:=[st]) (by simp)).trans f2 (by simp)⟩;have e3:aE F_qu (aB (aA 0) (aB (mC (.int 9)) aC)) ρ H1=.ok (.int j) H2:=by simp[aE,aB,h0,mC,aC,t2]
 have e4:=ixL g2 hj;unfold m2;rw[e1,Rs.bind_ok,e3,Rs.bind_ok,e4]
def pC:M Dv:=gH (aA 1) gE (eZ (aA 2))
def vI:M Dv:=gH (aA 1) (eZ (m2 bA (aA 2) (mC (.int 1)))) gE
def sG:M Dv:=gH (aA 1) (eZ (aA 2)) gE
theorem O4 (h1:aA 1 ρ=λH=>.ok (.tup ds) H) (h2:aA 2 ρ=λH=>.ok (.int (a:Int)) H):pC ρ H=.ok (.tup (ds.take a)) H:=by simp[pC,gH,h1,gE,eZ,h2,qZ,pW,z2x]
theorem O5 (h1:aA 1 ρ=λH=>.ok (.tup ds) H) (h2:aA 2 ρ=λH=>.ok (.int (a:Int)) H):sG ρ H=.ok (.tup (ds.drop a)) H:=by simp[sG,gH,h1,gE,eZ,h2,qZ,pW,OJ]
theorem z49 (h1:aA 1 ρ=λH=>.ok (.tup ds) H) (h2:aA 2 ρ=λH=>.ok (.int (a:Int)) H):vI ρ H=.ok (.tup (ds.drop (a+1))) H:=by have ha:bA (.int (a:Int)) (.int 1) H=.ok (.int ((a+1:Nat):Int)) H:=rfl;have hc:=OJ ds (a+1);generalize ((a+1:Nat):Int)=L at ha hc;simp[vI,gH,h1,gE,eZ,m2,h2,mC,ha,qZ,pW,hc]
theorem O6 (hl:ds.length<=100):f1 gG [.tup ds] H=.ok (.ref H.length) (H++[.lst ds]):=by
 have hz:ds.length<=1000000:=by omega
 simp[f1,gG,fF,pL,fX,lim,hz]
def zO:M (List Dv):=(aB (m2 bA (m2 bA pC (aL (aB (aA 4) aC))) vI) (aB (m2 bA pC vI) (aB (m2 bA (m2 bA pC (aL (aB (aA 4) aC))) sG) (aB (aE (f1 gG) (aB (aA 1) aC)) (aB (mC .non) aC)))))
def sH (ds:List Dv) (a:Nat) (y:Dv) (i:Nat):List Dv:=[.tup (ds.take a++[y]++ds.drop (a+1)),.tup (ds.take a++ds.drop (a+1)),.tup (ds.take a++[y]++ds.drop a),.ref i,.non]
theorem z4a (hl:ds.length<=30) (h1:aA 1 ρ=λH=>.ok (.tup ds) H) (h2:aA 2 ρ=λH=>.ok (.int (a:Int)) H) (h4:aA 4 ρ=λH=>.ok y H):aR zO ρ H=.ok (.ref (H++[Ob.lst ds]).length) ((H++[.lst ds])++[.lst (sH ds a y H.length)]):=by have a':=O4 (H:=H) h1 h2;have b:=z49 (H:=H) h1 h2;have c:=O5 (H:=H) h1 h2;have p1:=rW (ds.take a) [y] (by simp;omega) (H:=H);have p2:=rW (ds.take a++[y]) (ds.drop (a+1)) (by simp;omega) (H:=H);have p3:=rW (ds.take a++[y]) (ds.drop a) (by simp;omega) (H:=H);have p4:=rW (ds.take a) (ds.drop (a+1)) (by simp;omega) (H:=H);have l:=O6 (H:=H) (ds:=ds) (by omega);unfold sH zO;generalize ds.take a++[y]++ds.drop (a+1)=z1 at p2;generalize ds.take a++[y]++ds.drop a=z2 at p3;generalize ds.take a++ds.drop (a+1)=z3 at p4;generalize ds.take a++[y]=z4 at p1 p2 p3;generalize ds.take a=z5 at a' p1 p4;generalize ds.drop a=z6 at c p3;generalize ds.drop (a+1)=z7 at b p2 p4;generalize pC=A at a';generalize vI=B at b;generalize sG=C at c;generalize f1 gG=F at l;simp[aR,aB,aC,m2,a',b,c,aL,h4,lim,p1,p2,p3,p4,aE,h1,l,mC]
theorem O7 {x:Dv}(hx:∀x∈ds,Ox x) (hy:Ox y) {k l:Nat}(h:x∈ds.take k++[y]++ds.drop l):Ox x:=by
 simp only[cg,df]at h
 rcases h with(z|z)|z
 ·exact hx x (vj z)
 ·rw[z];exact hy
 ·exact hx x (qf z)
theorem z4b {i:Nat}(g:getL H i=some ds) (hx:∀x∈ds,Ox x) (hy:Ox y) (hl:ds.length<=30):∀d∈sH ds a y i,Gd H d:=by
 intro d hd;simp only[sH,ay,xw,or_false]at hd
 rcases hd with rfl|rfl|rfl|rfl|rfl
 ·exact Gd.tup (by simp;omega) λx h=>O7 hx hy h
 ·exact Gd.tup (by simp;omega) λx h=>(cg.mp h).elim (λz=>hx x (vj z)) λz=>hx x (qf z)
 ·exact Gd.tup (by simp;omega) λx h=>O7 hx hy h
 ·exact Gd.of0 ⟨_,g⟩ (λ_ z=>by cases z)
 ·exact Gd.of0 trivial (λ_ z=>by cases z)
def FZ:MS:=xZ (aL (aB (m2 aQ (aA 1) (aA 3)) (aB (m2 aQ (aA 1) (aA 2)) aC))) (aA 6) (aA 2) (aA 6) (aA 3)
theorem z4c {i:Nat}(ha:a<ds.length) (hb:b<ds.length) (g:getL H i=some ds) (h1:aA 1 ρ=λH=>.ok (.tup ds) H) (h2:aA 2 ρ=λH=>.ok (.int (a:Int)) H) (h3:aA 3 ρ=λH=>.ok (.int (b:Int)) H) (h6:aA 6 ρ=λH=>.ok (.ref i) H):
  ∃H',FZ ρ H=.nx ρ H'/\getL H' i=some ((ds.set a ds[b]).set b ds[a])/\Fr [i] H H'/\∀d,Gd H d->Gd H' d:=by
 have ia:=FY (H:=H) ha;have ib:=FY (H:=H) hb;have s1:iP (.ref i) (.int (a:Int)) ds[b] H=some (H.set i (.lst (ds.set a ds[b]))):=by simp[iP,g,dX,ha]
 have g1:getL (H.set i (.lst (ds.set a ds[b]))) i=some (ds.set a ds[b]):=kP g;have f1':Fr [i] H (H.set i (.lst (ds.set a ds[b]))):=Fr.set;have u1:∀d,Gd H d->Gd (H.set i (.lst (ds.set a ds[b]))) d:=λd z=>Gd.upd g z;generalize H.set i (.lst (ds.set a ds[b]))=H1 at s1 g1 f1' u1;have s2:iP (.ref i) (.int (b:Int)) ds[a] H1=some (H1.set i (.lst ((ds.set a ds[b]).set b ds[a]))):=by
  have hb':b<(ds.set a ds[b]).length:=by simpa using hb
  simp[iP,g1,dX,hb]
 refine⟨_, ?_,kP g1,f1'.trans (T:=[i]) Fr.set (by simp),λd z=>Gd.upd g1 (u1 d z)⟩;generalize (ds.set a ds[b]).set b ds[a]=es at s2;generalize ds[a]=xa at ia s2;generalize ds[b]=xb at ib s1;simp[FZ,xZ,aL,aB,m2,h1,h2,h3,ia,ib,aC,lim,Rs.thenS,h6,s1,s2]
def zP:M (List Dv):=(aB (aE (f1 gN) (aB (aA 6) aC)) (aB (aE (f1 gN) (aB (aA 6) aC)) (aB (aE (f1 gN) (aB (aA 6) aC)) (aB (xR (aA 1) (eZ (m1 mU (mC (.int 1))))) (aB (m2 bA sG pC) (aB (mC .edc) (aB (mC (.int 0)) (aB (aL (aB (aA 1) aC)) (aB (aA 1) aC)))))))))
def sJ (ds es:List Dv) (a:Nat):List Dv:=[.tup es,.tup es,.tup es,.tup ds.reverse,.tup (ds.drop a++ds.take a),.edc,.int 0,.tup [.tup ds],.tup ds]
theorem z4d {i:Nat}{es:List Dv}(hl:ds.length<=30) (g:getL H i=some es) (h1:aA 1 ρ=λH=>.ok (.tup ds) H) (h2:aA 2 ρ=λH=>.ok (.int (a:Int)) H) (h6:aA 6 ρ=λH=>.ok (.ref i) H):aR zP ρ H=.ok (.ref H.length) (H++[.lst (sJ ds es a)]):=by
 have a':=O4 (H:=H) h1 h2;have c:=O5 (H:=H) h1 h2;have p:=rW (ds.drop a) (ds.take a) (by simp;omega) (H:=H);have hg:∀H,mU (.int 1) H=.ok (.int (-1)) H:=λH=>rfl;have ht:f1 gN [.ref i] H=.ok (.tup es) H:=by simp[f1,gN,g]
 unfold zP sJ;generalize ds.drop a++ds.take a=z at p;generalize pC=A at a';generalize sG=C at c;generalize f1 gN=F at ht;simp[aR,aB,aC,aE,h6,ht,xR,h1,eZ,m1,mC,hg,qZ,DD,m2,a',c,p,aL,lim]
theorem z4e {es:List Dv}{ns:List Int}(hd:ds=ns.map Dv.int) (he:∀x∈es,x∈ds) (le:es.length=ds.length) (hl:ds.length<=30):∀d∈sJ ds es a,Gd H d:=by
 have hx:∀x∈ds,Ox x:=by rw[hd];exact FX
 have hes:Gd H (.tup es):=Gd.tup (by omega) λx h=>hx x (he x h);intro d hd';simp only[sJ,ay,xw,or_false]at hd'
 rcases hd' with rfl|rfl|rfl|rfl|rfl|rfl|rfl|rfl|rfl
 ·exact hes
 ·exact hes
 ·exact hes
 ·exact Gd.tup (by simp;omega) λx h=>hx x (by simpa using h)
 ·exact Gd.tup (by simp;omega) λx h=>(cg.mp h).elim (λz=>hx x (qf z)) λz=>hx x (vj z)
 ·exact Gd.of0 trivial (λ_ z=>by cases z)
 ·exact Gd.of0 trivial (λ_ z=>by cases z)
 ·exact Gd.tup (by simp) λx h=>by
   have:x=.tup ds:=by simpa using h
   rw[this,hd];exact O3
 ·exact Gd.tup (by omega) hx
end
theorem z4f:DR=aI (uI 2 3 (aB (aE F_qu (aB (aA 0) (aB (aE (f1 cD) (aB (aA 1) aC)) aC))) (aB (aE F_qu (aB (aA 0) (aB (aE (f1 cD) (aB (aA 1) aC)) aC))) aC))) (aI (aK (m2 aQ (aR vH) (aE F_qu (aB (aA 0) (aB (mC (.int 9)) aC)))) (aF 4)) (aI (aK (aR zO) (aF 5)) (aI (aK (aE (f1 gG) (aB (aA 1) aC)) (aF 6)) (aI FZ (aI (aK (m2 bA (aA 5) (aR zP)) (aF 5)) (aO (m2 aQ (aA 5) (aE F_qu (aB (aA 0) (aB (mC (.int 14)) aC))))))))) ):=rfl
theorem z4g {st:Nat}{H:Hs}{ns:List Int}(s:Com.St st H) (hl:ns.length<=6) (hp:1<=ns.length):∃d H',F_qd [.ref st,.tup (ns.map Dv.int)] H=.ok d H'/\Gd H' d/\Com.St st H'/\Fr [st] H H':=by
 have hx:∀x∈ns.map Dv.int,Ox x:=FX;have hz:(ns.map Dv.int).length=ns.length:=by simp
 generalize hds:ns.map Dv.int=ds at hx hz;obtain⟨r1,H1,p1,q1,t1,f1',s1⟩:=jO (ds.length:Int) s (by omega) (by omega);obtain⟨r2,H2,p2,q2,t2,f2,s2⟩:=jO (ds.length:Int) s1 (by omega) (by omega);have w1:uI 2 3 (aB (aE F_qu (aB (aA 0) (aB (aE (f1 cD) (aB (aA 1) aC)) aC))) (aB (aE F_qu (aB (aA 0) (aB (aE (f1 cD) (aB (aA 1) aC)) aC))) aC)) [some (.ref st),some (.tup ds),none,none,none,none,none] H=.nx [some (.ref st),some (.tup ds),some (.int r1),some (.int r2),none,none,none] H2:=by
  have e:∀H,aE (f1 cD) (aB (aA 1) aC) [some (.ref st),some (.tup ds),none,none,none,none,none] H=.ok (.int ds.length) H:=λH=>FN rfl;generalize aE (f1 cD) (aB (aA 1) aC)=M at e;generalize (ds.length:Int)=L at e t1 t2;have c:(aB (aE F_qu (aB (aA 0) (aB M aC))) (aB (aE F_qu (aB (aA 0) (aB M aC))) aC)) [some (.ref st),some (.tup ds),none,none,none,none,none] H=.ok [.int r1,.int r2] H2:=by simp[aE,aB,aA,e,aC,t1,t2]
  unfold uI;rw[c];rfl
 obtain⟨a,rfl⟩:∃k:Nat,r1=k:=⟨r1.toNat,by omega⟩
 obtain⟨b,rfl⟩:∃k:Nat,r2=k:=⟨r2.toNat,by omega⟩
 have ha:a<ds.length:=by omega
 have hb:b<ds.length:=by omega
 obtain⟨y,H3,w3,oy,s3,f3⟩:=z48 (ρ:=[some (.ref st),some (.tup ds),some (.int (a:Int)),some (.int (b:Int)),none,none,none]) s2 hx hb rfl rfl rfl;have w3':aK (m2 aQ (aR vH) (aE F_qu (aB (aA 0) (aB (mC (.int 9)) aC)))) (aF 4) [some (.ref st),some (.tup ds),some (.int (a:Int)),some (.int (b:Int)),none,none,none] H2=.nx [some (.ref st),some (.tup ds),some (.int (a:Int)),some (.int (b:Int)),some y,none,none] H3:=vE w3 rfl;have e4:=z4a (H:=H3) (ds:=ds) (a:=a) (y:=y) (ρ:=[some (.ref st),some (.tup ds),some (.int (a:Int)),some (.int (b:Int)),some y,none,none]) (by omega) rfl rfl rfl;have g4a:getL (H3++[Ob.lst ds]) H3.length=some ds:=last_get;have f4a:Fr [] H3 (H3++[Ob.lst ds]):=Fr.app;generalize H3++[Ob.lst ds]=H3a at e4 g4a f4a;generalize H3.length=i3 at e4 g4a;have gd4:=z4b (H:=H3a) (a:=a) g4a hx oy (by omega);have l5:(sH ds a y i3).length=5:=rfl;generalize sH ds a y i3=L1 at e4 gd4 l5;have g4:getL (H3a++[Ob.lst L1]) H3a.length=some L1:=last_get;have f4b:Fr [] H3a (H3a++[Ob.lst L1]):=Fr.app;have f4:Fr [] H3 (H3a++[Ob.lst L1]):=f4a.trans f4b (by simp);have w4:aK (aR zO) (aF 5) [some (.ref st),some (.tup ds),some (.int (a:Int)),some (.int (b:Int)),some y,none,none] H3=.nx [some (.ref st),some (.tup ds),some (.int (a:Int)),some (.int (b:Int)),some y,some (.ref H3a.length),none] (H3a++[.lst L1]):=vE e4 rfl;have gd4':∀d∈L1,Gd (H3a++[Ob.lst L1]) d:=λd hd=>(gd4 d hd).fr0 f4b;have s4:=s3.fr f4 (by simp);generalize H3a++[Ob.lst L1]=H4 at w4 g4 f4 gd4' s4;generalize H3a.length=i4 at w4 g4;have w5:aK (aE (f1 gG) (aB (aA 1) aC)) (aF 6) [some (.ref st),some (.tup ds),some (.int (a:Int)),some (.int (b:Int)),some y,some (.ref i4),none] H4=.nx [some (.ref st),some (.tup ds),some (.int (a:Int)),some (.int (b:Int)),some y,some (.ref i4),some (.ref H4.length)] (H4++[.lst ds]):=FV rfl (O6 (by omega)) rfl;have g5:getL (H4++[Ob.lst ds]) H4.length=some ds:=last_get;have f5:Fr [] H4 (H4++[Ob.lst ds]):=Fr.app;have lt4:=s4.lt;have n5:H4.length≠st:=by omega
 have n54:i4≠H4.length:=by have:=lL g4;omega
 have s5:=s4.fr f5 (by simp);have g4':=f5.getL g4 (by simp);have le5:H.length<=H4.length:=dm ((f1'.trans f2 (by simp)).trans f3 (by simp):Fr [st] H H3).le f4.le;generalize H4++[Ob.lst ds]=H5 at w5 g5 f5 s5 g4';generalize H4.length=i5 at w5 g5 n5 n54 le5;obtain⟨H6,w6,g6,f6,u6⟩:=z4c (ρ:=[some (.ref st),some (.tup ds),some (.int (a:Int)),some (.int (b:Int)),some y,some (.ref i4),some (.ref i5)]) ha hb g5 rfl rfl rfl rfl;have g4'':=f6.getL g4' (by simpa using n54);have s6:Com.St st H6:=by obtain⟨u,v,es'⟩:=s5;exact⟨u,v,f6.getL es' (by simpa using cy n5)⟩
 have gd6:∀d∈L1,Gd H6 d:=λd hd=>u6 d ((gd4' d hd).fr0 f5);have hes:∀x∈(ds.set a ds[b]).set b ds[a],x∈ds:=λx hx'=>by
  rcases Be hx' with z|z
  ·rcases Be z with z|z
   ·exact z
   ·rw[z];exact cx hb
  ·rw[z];exact cx ha
 have les:((ds.set a ds[b]).set b ds[a]).length=ds.length:=by simp
 generalize (ds.set a ds[b]).set b ds[a]=es at g6 hes les;have e7:=z4d (H:=H6) (ρ:=[some (.ref st),some (.tup ds),some (.int (a:Int)),some (.int (b:Int)),some y,some (.ref i4),some (.ref i5)]) (a:=a) (ds:=ds) (by omega) g6 rfl rfl rfl;have gd7:=z4e (H:=H6) (a:=a) hds.symm hes les (by omega);have l9:(sJ ds es a).length=9:=rfl;generalize sJ ds es a=L2 at e7 gd7 l9;have g7:getL (H6++[Ob.lst L2]) H6.length=some L2:=last_get;have f7:Fr [] H6 (H6++[Ob.lst L2]):=Fr.app;have g47:=f7.getL g4'' (by simp);generalize H6++[Ob.lst L2]=H7 at e7 g7 f7 g47;have a7:=addL (H:=H7) g47 g7 (by omega);have w7:aK (m2 bA (aA 5) (aR zP)) (aF 5) [some (.ref st),some (.tup ds),some (.int (a:Int)),some (.int (b:Int)),some y,some (.ref i4),some (.ref i5)] H6=.nx [some (.ref st),some (.tup ds),some (.int (a:Int)),some (.int (b:Int)),some y,some (.ref H7.length),some (.ref i5)] (H7++[.lst (L1++L2)]):=vE (vC rfl e7 a7) rfl;have f8:Fr [] H7 (H7++[Ob.lst (L1++L2)]):=Fr.app;have g8:getL (H7++[Ob.lst (L1++L2)]) H7.length=some (L1++L2):=last_get;have f78:=f7.trans f8 (T:=[]) (by simp);have s8:=s6.fr f78 (by simp);have lt7:=(s6.fr f7 (by simp)).lt;have n8:H7.length≠st:=by omega
 have gd8:∀d∈L1++L2,Gd (H7++[Ob.lst (L1++L2)]) d:=λd hd=>by
  rcases cg.mp hd with z|z
  ·exact(gd6 d z).fr0 f78
  ·exact(gd7 d z).fr0 f78
 have l14:(L1++L2).length=14:=by rw[bu,l5,l9]
 generalize L1++L2=L at w7 f8 g8 f78 s8 gd8 l14;generalize H7++[Ob.lst L]=H8 at w7 f8 g8 f78 s8 gd8;generalize H7.length=i7 at w7 g8 n8;obtain⟨q,H9,q0,q9,t9,f9,s9⟩:=jO 14 s8;have g9:=f9.getL g8 (by simpa using n8);obtain⟨j,rfl⟩:∃j:Nat,q=j:=⟨q.toNat,by omega⟩
 have hj:j<L.length:=by omega
 have x9:=ixL g9 hj;have f03:Fr [st] H H3:=(f1'.trans f2 (by simp)).trans f3 (by simp);have f05:Fr [st] H H5:=(f03.trans f4 (by simp)).trans f5 (by simp);have f06:Fr [st] H H6:=f05.trans f6 (by simpa using Or.inr le5);refine⟨L[j],H9, ?_,(gd8 _ (cx hj)).fr f9 s9,s9,(f06.trans f78 (by simp)).trans f9 (by simp)⟩;show aW (DR [some (.ref st),some (.tup ds),none,none,none,none,none] H)=_;rw[z4f,bE w1,bE w3',bE w4,bE w5,bE w6,bE w7];simp[aO,m2,aA,aE,aB,mC,aC,t9,x9,aW]
def rq (a b c:Nat):List Dv:=[.bl (a==c),.bl (a+1==c),.bl (a+2==c)].take b
def rs1:M (List Dv):=(aB (m1 (bD (eE none tbl0)) (aA 1)) (aB (m1 (bD (eE none tbl1)) (aA 1)) (aB (m1 (bD (eE none tbl2)) (aA 1)) aC)))
def rs2:M (List Dv):=(aB (m1 (bD (eE none tbl3)) (aA 1)) (aB (m1 (bD (eE none tbl4)) (aA 1)) (aB (m1 (bD (eE none tbl5)) (aA 1)) aC)))
def rs3:M (List Dv):=(aB (m1 (bD (eE none tbl6)) (aA 1)) (aB (m1 (bD (eE none tbl7)) (aA 1)) (aB (m1 (bD (eE none tbl8)) (aA 1)) aC)))
def pD:M (List Dv):=(aB (m1 (bD (eE none tbl9)) (aA 1)) (aB (m1 (bD (eE none tbl10)) (aA 1)) aC))
def zQ:M (List Dv):=bU (aS cN (aB (mC (.int 11)) aC)) [none,some 3] (aF 0) (bC (m2 aQ (aA 1) (aA 0))) (bN (aA 0))
def O8:MS:=aX (cB (bC (m1 (bD (eE none tblV)) (aA 1)))) (aO (mC .non)) bG
theorem z4h:iC=aI (aK (aR rs1) (aF 3)) (aI (aK (m2 bA (aA 3) (aR rs2)) (aF 3)) (aI (aK (m2 bA (aA 3) (aR rs3)) (aF 3)) (aI (aK (m2 bA (aA 3) (aR pD)) (aF 3)) (aI O8 (aO (bM zQ)))))):=rfl
section
variable{c:Nat}(hc:c=0∨c=5) {H:Hs}{x0 x2 x3:Option Dv}
include hc
theorem z4i:aR rs1 [x0,some (.exc c),x2,x3] H=.ok (.ref H.length) (H++[.lst (rq 0 3 c)]):=by rcases hc with rfl|rfl <;> rfl
theorem z4j:aR rs2 [x0,some (.exc c),x2,x3] H=.ok (.ref H.length) (H++[.lst (rq 3 3 c)]):=by rcases hc with rfl|rfl <;> rfl
theorem z4k:aR rs3 [x0,some (.exc c),x2,x3] H=.ok (.ref H.length) (H++[.lst (rq 6 3 c)]):=by rcases hc with rfl|rfl <;> rfl
theorem z4l:aR pD [x0,some (.exc c),x2,x3] H=.ok (.ref H.length) (H++[.lst (rq 9 2 c)]):=by rcases hc with rfl|rfl <;> rfl
theorem z4m:O8 [x0,some (.exc c),x2,x3] H=.nx [x0,some (.exc c),x2,x3] H:=by rcases hc with rfl|rfl <;> rfl
theorem z4n {i:Nat}(e:getL H i=some ((bf 11).map λk=>Dv.bl (k==c))):zQ [x0,some (.exc c),x2,some (.ref i)] H=.ok [.int c] H:=by
 have h:zQ [x0,some (.exc c),x2,some (.ref i)] H=.ok ((bf 11).filterMap λk=>if k==c then some (.int k)else none) H:=
  gU (bf 11) (λk=>if k==c then some (.int (k:Nat))else none) (λρ=>∃a,ρ=[a,some (.ref i)]) (src:=cJ 0 11) rfl rfl ⟨_,rfl⟩ rfl (λk hk ρ ⟨a,e'⟩=>by
   subst e';have hk':k<11:=by simpa using hk
   refine⟨.int (0+k),[some (.int (0+k)),some (.ref i)],rfl,rfl,⟨_,rfl⟩, ?_⟩;have ht:=ixL (H:=H) (j:=k) e (by simpa using hk');rw[List.getElem_map,rf]at ht;have h0:(0+(k:Int))=(k:Int):=by omega
   rw[h0,rf]
   cases q:k==c with
   |true=>simp[bC,m2,aA,ht,q,eJ]
   |false=>simp[bC,m2,aA,ht,q,eJ]) (by simp)
 rw[h]
 rcases hc with rfl|rfl <;> rfl
theorem z4o:∃i H',tP 4 11 iC (.ex c H)=.ok (.ref i) H'/\getL H' i=some [.int c]/\Fr [] H H':=by
 obtain⟨H1,hH1⟩:∃H1,H1=H++[Ob.lst (rq 0 3 c)]:=⟨_,rfl⟩
 have g1:getL H1 H.length=some (rq 0 3 c):=by rw[hH1];exact last_get
 have f1:Fr [] H H1:=by rw[hH1];exact Fr.app
 have w1:∀x0 x2 x3,aK (aR rs1) (aF 3) [x0,some (.exc c),x2,x3] H=.nx [x0,some (.exc c),x2,some (.ref H.length)] H1:=λx0 x2 x3=>by unfold aK;rw[z4i hc,hH1];rfl
 have step:∀(G0:Hs) (i:Nat) (xs ys:List Dv) (m:M (List Dv)),getL G0 i=some xs->(∀x0 x2 x3 (G:Hs),aR m [x0,some (.exc c),x2,x3] G=.ok (.ref G.length) (G++[.lst ys]))->xs.length+ys.length<=500->
   ∃G' j,(∀x0 x2,aK (m2 bA (aA 3) (aR m)) (aF 3) [x0,some (.exc c),x2,some (.ref i)] G0=.nx [x0,some (.exc c),x2,some (.ref j)] G')/\getL G' j=some (xs++ys)/\Fr [] G0 G':=by
  intro G0 i xs ys m e hm hl;refine⟨_,_,λx0 x2=>?_,last_get (H:=G0++[.lst ys]) (x:=xs++ys),Fr.trans (T:=[]) Fr.app Fr.app (by simp)⟩;have a:=addL (H:=G0++[.lst ys]) (jK e) (last_get (H:=G0) (x:=ys)) hl;unfold aK;rw[vC rfl (hm _ _ _ _) a];rfl
 obtain⟨H2,i2,w2,g2,f2⟩:=step H1 H.length (rq 0 3 c) (rq 3 3 c) rs2 g1 (λ_ _ _ _=>z4j hc) (by simp[rq]);obtain⟨H3,i3,w3,g3,f3⟩:=step H2 i2 _ (rq 6 3 c) rs3 g2 (λ_ _ _ _=>z4k hc) (by simp[rq]);obtain⟨H4,i4,w4,g4,f4⟩:=step H3 i3 _ (rq 9 2 c) pD g3 (λ_ _ _ _=>z4l hc) (by simp[rq]);have g5':getL H4 i4=some ((bf 11).map λk=>Dv.bl (k==c)):=by rw[g4];rfl
 refine⟨H4.length,H4++[.lst [.int c]], ?_,last_get,((f1.trans f2 (by simp)).trans f3 (by simp)).trans (T:=[]) (f4.trans (T:=[]) Fr.app (by simp)) (by simp)⟩;have hlt:c<11:=by omega
 show(if c<11 then tO (iC (oH 4 (.exc c)) H)else .bad)=_;rw[if_pos hlt,z4h];show tO (aI _ _ [none,some (.exc c),none,none] H)=_;rw[bE (w1 _ _ _),bE (w2 _ _),bE (w3 _ _),bE (w4 _ _),bE (z4m hc)];have hr:bM zQ [none,some (.exc c),none,some (.ref i4)] H4=.ok (.ref H4.length) (H4++[.lst [.int c]]):=by unfold bM;rw[z4n hc g5'];rfl
 unfold aO;rw[hr];rfl
theorem zR {caps:List Nat}{vs:List Dv}{me:M Dv}{ρ:Ev}{H0:Hs}(hρ:mS caps ρ=some vs) (hm:me (vs.map some) H0=.ex c H) (f0:Fr [] H0 H):
  ∃H',mB (m2 bQ (iQ caps 4 11 iC me) (aR (aB (mC (.int c)) aC))) ρ H0=.ok false H'/\Fr [] H0 H':=by
 obtain⟨i,H1,e1,g1,f1⟩:=z4o hc (H:=H);refine⟨H1++[.lst [.int c]], ?_,f0.trans (f1.trans (T:=[]) Fr.app (by simp)) (by simp)⟩;have a:iQ caps 4 11 iC me ρ H0=.ok (.ref i) H1:=by unfold iQ;rw[hρ];show tP 4 11 iC (me (vs.map some) H0)=_;rw[hm,e1]
 have b:aR (aB (mC (.int c)) aC) ρ H1=.ok (.ref H1.length) (H1++[.lst [.int c]]):=rfl;have d:bQ (.ref i) (.ref H1.length) (H1++[.lst [.int c]])=.ok (.bl false) (H1++[.lst [.int c]]):=by have q1:=jK (l:=[.lst [.int c]]) g1;have q2:=last_get (H:=H1) (x:=[.int c]);simp[bQ,bW,bF,q1,q2,bJ,bI,eU]
 unfold mB m2;rw[a,Rs.bind_ok,b,Rs.bind_ok,d];rfl
end
theorem z4p {ρ:Ev}{H H':Hs}{ds:List Dv}(e:uZ ρ H=.ok ds H'):∀x∈ds,fK x=false:=by
 have e2:Rs.ok _ _=Rs.ok ds H':=e;injection e2 with e3 e4;subst e3
 repeat' (first|exact vp _|refine vk.mpr ⟨rfl, ?_⟩)
theorem z4q {ρ:Ev}{H H':Hs}{ds:List Dv}(e:vA ρ H=.ok ds H'):∀x∈ds,fK x=false:=by
 have e2:Rs.ok _ _=Rs.ok ds H':=e;injection e2 with e3 e4;subst e3
 repeat' (first|exact vp _|refine vk.mpr ⟨rfl, ?_⟩)
theorem z4r {ρ:Ev}{H H':Hs}{ds:List Dv}(e:vB ρ H=.ok ds H'):∀x∈ds,fK x=false:=by
 have e2:Rs.ok _ _=Rs.ok ds H':=e;injection e2 with e3 e4;subst e3
 repeat' (first|exact vp _|refine vk.mpr ⟨rfl, ?_⟩)
def MnB (n:Nat) (H:Hs) (i:Nat):Prop:=∃ds,getL H i=some ds/\ds.length=n/\(∀x∈ds,TK 3 H x)/\∀x∈ds,fK x=false
section
variable{n m:Nat}{H H':Hs}{i j:Nat}
theorem MnB.fr0 (h:MnB n H i) (f:Fr [] H H'):MnB n H' i:=by obtain⟨ds,e,l,t,b⟩:=h;exact⟨ds,f.getL e (by simp),l,λx hx=>(t x hx).fr0 f,b⟩
theorem MnB.fr {st:Nat}(h:MnB n H i) (f:Fr [st] H H') (s:Com.St st H') (hi:i≠st):MnB n H' i:=by obtain⟨ds,e,l,t,b⟩:=h;exact⟨ds,f.getL e (by simpa using hi),l,λx hx=>(t x hx).fr f s,b⟩
theorem F0 {ms:M (List Dv)}{ρ:Ev}(h:mF (λ_ _=>True) 3 n ms) (hb:∀{ρ:Ev}{H H':Hs}{ds:List Dv},ms ρ H=.ok ds H'->∀x∈ds,fK x=false) (hn:n<=500):∃i H',aR ms ρ H=.ok (.ref i) H'/\MnB n H' i/\Fr [] H H'/\H.length<=i:=by obtain⟨ds,H1,e1,f1,l1,t1⟩:=h ρ H trivial;refine⟨H1.length,H1++[.lst ds], ?_,⟨ds,last_get,l1,λx hx=>(t1 x hx).fr0 Fr.app,hb e1⟩,f1.trans (T:=[]) Fr.app (by simp),f1.le⟩;unfold aR lim;rw[e1,Rs.bind_ok,if_pos (by omega)]
theorem O9 (a:MnB n H i) (b:MnB m H j) (hn:n+m<=500):∃H',bA (.ref i) (.ref j) H=.ok (.ref H.length) H'/\MnB (n+m) H' H.length/\Fr [] H H':=by
 obtain⟨ds,e1,l1,t1,b1⟩:=a;obtain⟨es,e2,l2,t2,b2⟩:=b;refine⟨_,addL e1 e2 (by omega),⟨ds++es,last_get,by simp[l1,l2],λx hx=>?_,λx hx=>?_⟩,Fr.app⟩
 ·rcases cg.mp hx with hx|hx
  ·exact(t1 x hx).fr0 Fr.app
  ·exact(t2 x hx).fr0 Fr.app
 ·rcases cg.mp hx with hx|hx
  ·exact b1 x hx
  ·exact b2 x hx
end
theorem z4s {st:Nat}{H:Hs}(s:Com.St st H):∃d H',F_qa [.ref st] H=.ok d H'/\TK 3 H' d/\fK d=false/\Com.St st H'/\Fr [st] H H':=by
 have hP:OD λ_ _=>True:=λ_ _ _ _ _=>trivial;have lt:=s.lt;have k1:mF (λ_ _=>True) 3 10 uZ:=(by
   unfold uZ
   repeat' (first|exact E9|apply FA hP|exact FC|exact FD|exact FE|exact FF|exact FG|apply zE|apply FH|apply FI)
   all_goals decide)
 have k2:mF (λ_ _=>True) 3 6 vA:=(by
   unfold vA
   repeat' (first|exact E9|apply FA hP|exact FC|exact FD|exact FE|exact FF|exact FG|apply zE|apply FH|apply FI)
   all_goals decide)
 have k3:mF (λ_ _=>True) 3 8 vB:=(by
   unfold vB
   repeat' (first|exact E9|apply FA hP|exact FC|exact FD|exact FE|exact FF|exact FG|apply zE|apply FH|apply FI)
   all_goals decide)
 obtain⟨i1,H1,e1,m1,f1,l1⟩:=F0 (ρ:=[some (.ref st),none]) (H:=H) k1 z4p (by decide);obtain⟨j2,H2,e2,m2',f2,l2⟩:=F0 (ρ:=[some (.ref st),some (.ref i1)]) (H:=H1) k2 z4q (by decide);obtain⟨H3,e3,m3,f3⟩:=O9 (m1.fr0 f2) m2' (by decide);obtain⟨j4,H4,e4,m4,f4,l4⟩:=F0 (ρ:=[some (.ref st),some (.ref H2.length)]) (H:=H3) k3 z4r (by decide);obtain⟨H5,e5,m5,f5⟩:=O9 (m3.fr0 f4) m4 (by decide);have g:Fr [] H H5:=(((f1.trans f2 (by simp)).trans f3 (by simp)).trans f4 (by simp)).trans f5 (by simp);obtain⟨r,H6,r0,r1,t6,f6,s6⟩:=jO 24 (s.fr g (by simp));have hle:H.length<=H4.length:=((f1.trans (f2.trans (f3.trans f4 (by simp)) (by simp)) (by simp)):Fr [] H H4).le;obtain⟨ds,e7,l7,t7,b7⟩:=m5.fr f6 s6 (by omega);obtain⟨j,rfl⟩:∃j:Nat,r=j:=⟨r.toNat,by omega⟩
 have hj:j<ds.length:=by omega
 have e8:=ixL e7 hj;refine⟨ds[j],H6, ?_,t7 _ (cx hj),b7 _ (cx hj),s6,(g.mono (T:=[st]) (by simp)).trans f6 (by simp)⟩;show aW (iW [some (.ref st),none] H)=_;have w1:aK (aR uZ) (aF 1) [some (.ref st),none] H=.nx [some (.ref st),some (.ref i1)] H1:=by unfold aK;rw[e1];rfl
 have w2:aK (L2.Mr.m2 bA (aA 1) (aR vA)) (aF 1) [some (.ref st),some (.ref i1)] H1=.nx [some (.ref st),some (.ref H2.length)] H3:=by unfold aK;rw[vC rfl e2 e3];rfl
 have w3:aK (L2.Mr.m2 bA (aA 1) (aR vB)) (aF 1) [some (.ref st),some (.ref H2.length)] H3=.nx [some (.ref st),some (.ref H4.length)] H5:=by unfold aK;rw[vC rfl e4 e5];rfl
 rw[z2t,bE w1,bE w2,bE w3];simp[aO,L2.Mr.m2,aA,aE,aB,mC,aC,t6,e8,aW]
open L2.Mr.Cod (loose mem_loose Lse last_get addL ixL FJ OE OF)
section
variable{n st:Nat}{ps:List (Int×Int)}{H:Hs}{ns:List Int}
theorem F1 {F:List Dv->Hs->Rs Dv}{a b v:Dv}{x y:Nat}{ρ:Ev}{H':Hs}(ha:aA x ρ=λH=>.ok a H) (hb:aA y ρ=λH=>.ok b H) (e:F [a,b] H=.ok v H'):aE F (aB (aA x) (aB (aA y) aC)) ρ H=.ok v H':=by simp[aE,aB,ha,hb,aC,e]
def sC:M (List Dv):=bU (bS dD (aE F_ql (aB (aA 3) aC))) [none,some 6,some 5] (aF 0) (mB (m2 bL (aE (f1 kF) (aB (m2 gF (dS (aA 2) (m2 aQ (aA 0) (mC (.int 0)))) (dS (aA 2) (m2 aQ (aA 0) (mC (.int 1))))) aC)) (aA 1))) (bN (aA 0))
theorem z4t (o:OrdP n ps) (hm:∀x:Int,0<=x->x<n->x∈ns) {S:Int}{x0 x1 x2 x4 x7 x8 x9:Option Dv}:∃H',sC [x0,x1,x2,some (aM n ps),x4,some (.tup (ns.map Dv.int)),some (.int S),x7,x8,x9] H=.ok (((loose n ps).filter λq=>decide (dF ns q=S)).map aH) H'/\Fr [] H H':=by
 have e1:=OK (n:=n) (ps:=ps) (H:=H) (by have:=o.n6;omega);have g1:getL (H++[Ob.lst ((loose n ps).map aH)]) H.length=some ((loose n ps).map aH):=last_get;have f1':Fr [] H (H++[Ob.lst ((loose n ps).map aH)]):=Fr.app;have ll:=sE (ps:=ps) o.n6;have mm:∀q∈loose n ps,q.1∈ns/\q.2∈ns:=λq hq=>by have:=mem_loose.mp hq;exact⟨hm _ (by omega) (by omega),hm _ (by omega) (by omega)⟩
 generalize H++[Ob.lst ((loose n ps).map aH)]=H1 at e1 g1 f1';generalize H.length=i1 at e1 g1;generalize loose n ps=qs at e1 g1 mm ll;have w:sC [x0,x1,x2,some (aM n ps),x4,some (.tup (ns.map Dv.int)),some (.int S),x7,x8,x9] H=.ok (qs.filterMap λq=>if decide (dF ns q=S)then some (aH q)else none) H1:=
  gU qs _ (λρ=>∃a,ρ=[a,some (.int S),some (.tup (ns.map Dv.int))]) (OW (F:=F_ql) rfl e1 g1) (by simp[cE]) ⟨_,rfl⟩ (by simp[cE,g1]) (λk hk ρ ⟨a,e⟩=>by
   subst e;refine⟨aH qs[k],[some (aH qs[k]),some (.int S),some (.tup (ns.map Dv.int))],by simp[cE,g1,hk],rfl,⟨_,rfl⟩, ?_⟩;have hq:=mm _ (cx hk);have ea:=FR (H:=H1) (a:=2) (m0:=m2 aQ (aA 0) (mC (.int 0))) (m1:=m2 aQ (aA 0) (mC (.int 1))) (ρ:=[some (aH qs[k]),some (.int S),some (.tup (ns.map Dv.int))]) (q:=qs[k]) rfl rfl rfl hq.1 hq.2;have t:=nL (mb:=aA 1) (H2:=H1) (y:=.int S) ea rfl (oU _ _);have t2:mB (m2 bL (aE (f1 kF) (aB (m2 gF (dS (aA 2) (m2 aQ (aA 0) (mC (.int 0)))) (dS (aA 2) (m2 aQ (aA 0) (mC (.int 1))))) aC)) (aA 1)) [some (aH qs[k]),some (.int S),some (.tup (ns.map Dv.int))] H1=.ok (decide (dF ns qs[k]=S)) H1:=by unfold mB;rw[t];rfl
   cases c:decide (dF ns qs[k]=S)with
   |true=>rw[c]at t2;exact⟨t2,rfl⟩
   |false=>rw[c]at t2;exact t2) (by omega)
 exact⟨H1,w.trans (congrArg (λl=>Rs.ok l _) (vD _ _ _)),f1'⟩
theorem z4u (p:Int×Int->Bool) (qs:List (Int×Int)) {xs:List Dv}(hx:(qs.filter p).map aH=xs):(xs++[Dv.non])[0]'(by simp)=sF (qs.find? p):=by
 subst hx;have h:(qs.filter p).head?=qs.find? p:=by
  induction qs with
  |nil=>rfl
  |cons q qs ih=>
   rw[jt,List.find?_cons]
   cases p q with
   |true=>rfl
   |false=>exact ih
 rw[<-h]
 cases qs.filter p with
 |nil=>rfl
 |cons _ _=>rfl
theorem z4v {i:Nat}{xs:List Dv}{ρ:Ev}(h7:aA 7 ρ=λH=>.ok (.ref i) H) (g:getL H i=some xs) (hl:xs.length<=100):∃H',m2 aQ (m2 bA (aA 7) (aR (aB (mC .non) aC))) (mC (.int 0)) ρ H=.ok ((xs++[Dv.non])[0]'(by simp)) H'/\Fr [] H H':=by have e1:aR (aB (mC .non) aC) ρ H=.ok (.ref H.length) (H++[.lst [.non]]):=rfl;have g1:getL (H++[Ob.lst [.non]]) H.length=some [.non]:=last_get;have f1':Fr [] H (H++[Ob.lst [.non]]):=Fr.app;have g':=f1'.getL g (by simp);generalize H++[Ob.lst [.non]]=H1 at e1 g1 f1' g';have a:=addL (H:=H1) g' g1 (by simp;omega);have e2:=vC (ρ:=ρ) (st:=7) (by rw[h7]) e1 a;have g2:getL (H1++[Ob.lst (xs++[.non])]) H1.length=some (xs++[.non]):=last_get;have x:=ixL (j:=0) g2 (by simp);refine⟨_,nL e2 rfl x,f1'.trans (T:=[]) Fr.app (by simp)⟩
theorem z4w {k:Nat}:F_qs (k+1) [.non,.non] H=.ok (.bl true) H:=by simp[F_qs,uH,aT,bR,aI,aX,bC,m1,bD,aA,hX,rE,eJ,bG,aO,cZ,m2,bL,bW,bF,bI,kM,aW]
theorem z4x (q:Option (Int×Int)):F_qs 6 [sF q,sF q] H=.ok (.bl true) H:=by
 cases q with
 |none=>exact z4w
 |some q=>exact OF (xs:=[q.1,q.2]) (by simp)
theorem PB {S:List Dv->Hs->Rs Dv}{ma mb:M Dv}{v:Dv}{ρ:Ev}{H H1 H2:Hs}(ha:ma ρ H=.ok v H1) (hb:mb ρ H1=.ok v H2) (hs:S [v,v] H2=.ok (.bl true) H2):
  cB (bC (aE S (aB ma (aB mb aC)))) ρ H=.ok false H2:=by
 simp[cB,bC,aE,aB,ha,hb,aC,hs,eJ]
def iS:MS:=aX (dQ (cB (bC (aE (F_qs 6) (aB (aE F_q5 (aB (aA 3) (aB (aA 5) aC))) (aB (aA 6) aC))))) (cB (bC (aE (F_qs 6) (aB (aE F_qz (aB (aA 3) (aB (aA 5) aC))) (aB (m2 aQ (m2 bA (aA 7) (aR (aB (mC .non) aC))) (mC (.int 0))) aC)))))) (aO (mC (.bl false))) bG
def iA:MS:=aX (mB (m2 bQ (iQ [3,8] 4 11 iC yB) (aR (aB (mC (.int 5)) aC)))) (aO (mC (.bl false))) bG
def iB:MS:=aX (mB (m2 bQ (iQ [3,8] 4 11 iC yC) (aR (aB (mC (.int 5)) aC)))) (aO (mC (.bl false))) bG
def iR:MS:=aX (cB (bC (aE F_qi (aB (aA 3) (aB (aA 8) aC))))) (aI iA iB) bG
def tB:MS:=aI (aK (aE F_qe (aB (aA 2) (aB (aA 3) aC))) (aF 5)) (aI (aK (aE F_qt (aB (aA 3) (aB (aA 5) aC))) (aF 6)) (aI (aK (bM sC) (aF 7)) (aI iS (aI (aK (aE F_qd (aB (aA 2) (aB (aA 5) aC))) (aF 8)) iR))))
theorem PC {F:List Dv->Hs->Rs Dv}{z d:Dv}{c:Nat}(e:F [z,d] H=.ex c H):aE F (aB (aA 0) (aB (aA 1) aC)) ([z,d].map some) H=.ex c H:=by simp[aE,aB,aA,aC,e]
theorem z4y {F:List Dv->Hs->Rs Dv}{a b:Dv}{v:Bool}{x y:Nat}{ρ:Ev}{H':Hs}(ha:aA x ρ=λH=>.ok a H) (hb:aA y ρ=λH=>.ok b H) (e:F [a,b] H=.ok (.bl v) H'):cB (bC (aE F (aB (aA x) (aB (aA y) aC)))) ρ H=.ok (!v) H':=by have:=F1 ha hb e;generalize aE F (aB (aA x) (aB (aA y) aC))=M at this;simp[cB,bC,this,eJ]
theorem z4z (o:OrdP n ps) {d:Dv}(h:Gd H d) {ρ:Ev}(h3:aA 3 ρ=λH=>.ok (aM n ps) H) (h8:aA 8 ρ=λH=>.ok d H) (hc:mS [3,8] ρ=some [aM n ps,d]):∃H',iR ρ H=.nx ρ H'/\Fr [] H H':=by
 obtain⟨H1,e1,f1'⟩:=z3f o h.1 h.2;have t:=z4y (F:=F_qi) (x:=3) (y:=8) h3 h8 e1;unfold iR
 cases hb:eX n ps d with
 |true=>rw[hb]at t;exact⟨H1,(iT t:aX _ (aI iA iB) bG _ _=_).trans rfl,f1'⟩
 |false=>rw[hb]at t;rw[lM t];have k1:=h.1.fr0 f1';obtain⟨H2,t2,f2⟩:=zR (c:=5) (.inr rfl) (caps:=[3,8]) (vs:=[aM n ps,d]) (me:=yB) (H0:=H1) (H:=H1) hc (PC (F:=F_q5) (z3q o k1 hb)) Fr.refl;have k2:=k1.fr0 f2;obtain⟨H3,t3,f3⟩:=zR (c:=5) (.inr rfl) (caps:=[3,8]) (vs:=[aM n ps,d]) (me:=yC) (H0:=H2) (H:=H2) hc (PC (F:=F_qz) (z3u o k2 hb)) Fr.refl;refine⟨H3, ?_,(f1'.trans f2 (by simp)).trans f3 (by simp)⟩;have v2:iA ρ H1=.nx ρ H2:=(iT t2:aX _ (aO (mC (.bl false))) bG _ _=_).trans rfl;have v3:iB ρ H2=.nx ρ H3:=(iT t3:aX _ (aO (mC (.bl false))) bG _ _=_).trans rfl;rw[bE v2,v3]
theorem z50 (o:OrdP n ps) (s:Com.St st H) {x0 x1 x4 x5 x6 x7 x8 x9:Option Dv}:∃H' y5 y6 y7 y8,tB [x0,x1,some (.ref st),some (aM n ps),x4,x5,x6,x7,x8,x9] H=.nx [x0,x1,some (.ref st),some (aM n ps),x4,y5,y6,y7,y8,x9] H'/\Com.St st H':=by
 obtain⟨ns,H1,e1,hr,hb,l6,s1,f1'⟩:=z45 o s;have hm:=FU hr hb;have l1:1<=ns.length:=by have h:=hb;rw[rY hr]at h;unfold nM at h;simp only[cw,decide_eq_true_eq]at h;have:=o.n1;omega
 have tk:∀H,TK 1 H (.tup (ns.map Dv.int)):=λH=>(Gd.tup (by simp;omega) FX).1;have w1:aK (aE F_qe (aB (aA 2) (aB (aA 3) aC))) (aF 5) [x0,x1,some (.ref st),some (aM n ps),x4,x5,x6,x7,x8,x9] H=.nx [x0,x1,some (.ref st),some (aM n ps),x4,some (.tup (ns.map Dv.int)),x6,x7,x8,x9] H1:=zJ (F:=F_qe) rfl rfl e1 rfl;obtain⟨H2,e2,f2⟩:=z3y (H:=H1) o hm;have w2:aK (aE F_qt (aB (aA 3) (aB (aA 5) aC))) (aF 6) [x0,x1,some (.ref st),some (aM n ps),x4,some (.tup (ns.map Dv.int)),x6,x7,x8,x9] H1=.nx [x0,x1,some (.ref st),some (aM n ps),x4,some (.tup (ns.map Dv.int)),some (.int (dP n ps ns)),x7,x8,x9] H2:=zJ (F:=F_qt) rfl rfl e2 rfl;obtain⟨H3,e3,f3⟩:=z4t (H:=H2) (S:=dP n ps ns) (x0:=x0) (x1:=x1) (x2:=some (.ref st)) (x4:=x4) (x7:=x7) (x8:=x8) (x9:=x9) o hm;have hll:((loose n ps).filter λq=>decide (dF ns q=dP n ps ns)).length<=36:=dm (md _ _) (sE o.n6);have hfd:sF (pA ns (dP n ps ns) (loose n ps))=sF ((loose n ps).find? λq=>decide (dF ns q=dP n ps ns)):=rfl;generalize hxs:((loose n ps).filter λq=>decide (dF ns q=dP n ps ns)).map aH=xs at e3;have ff:=z4u (λq=>decide (dF ns q=dP n ps ns)) (loose n ps) hxs;have lx:xs.length<=100:=by rw[<-hxs,bj];omega
 have w3:aK (bM sC) (aF 7) [x0,x1,some (.ref st),some (aM n ps),x4,some (.tup (ns.map Dv.int)),some (.int (dP n ps ns)),x7,x8,x9] H2=.nx [x0,x1,some (.ref st),some (aM n ps),x4,some (.tup (ns.map Dv.int)),some (.int (dP n ps ns)),some (.ref H3.length),x8,x9] (H3++[.lst xs]):=FO e3 rfl;have g3:getL (H3++[Ob.lst xs]) H3.length=some xs:=last_get;have f23:Fr [] H2 (H3++[Ob.lst xs]):=f3.trans (T:=[]) Fr.app (by simp);generalize H3++[Ob.lst xs]=H4 at w3 g3 f23;generalize H3.length=i3 at w3 g3;obtain⟨H5,e5,f5⟩:=z3p (H:=H4) o (tk _) hr hb;have c1:=PB (S:=F_qs 6) (ma:=aE F_q5 (aB (aA 3) (aB (aA 5) aC))) (mb:=aA 6) (ρ:=[x0,x1,some (.ref st),some (aM n ps),x4,some (.tup (ns.map Dv.int)),some (.int (dP n ps ns)),some (.ref i3),x8,x9]) (F1 (F:=F_q5) rfl rfl e5) rfl FJ;obtain⟨H6,e6,f6⟩:=z3t (H:=H5) o (tk _) hr hb;have g6:=(f5.trans f6 (T:=[]) (by simp)).getL g3 (by simp);obtain⟨H7,e7,f7⟩:=z4v (H:=H6) (ρ:=[x0,x1,some (.ref st),some (aM n ps),x4,some (.tup (ns.map Dv.int)),some (.int (dP n ps ns)),some (.ref i3),x8,x9]) rfl g6 lx;rw[ff,<-hfd]at e7;have c2:=PB (S:=F_qs 6) (ma:=aE F_qz (aB (aA 3) (aB (aA 5) aC))) (ρ:=[x0,x1,some (.ref st),some (aM n ps),x4,some (.tup (ns.map Dv.int)),some (.int (dP n ps ns)),some (.ref i3),x8,x9]) (F1 (F:=F_qz) rfl rfl e6) e7 (z4x _);have w4:iS [x0,x1,some (.ref st),some (aM n ps),x4,some (.tup (ns.map Dv.int)),some (.int (dP n ps ns)),some (.ref i3),x8,x9] H4=.nx [x0,x1,some (.ref st),some (aM n ps),x4,some (.tup (ns.map Dv.int)),some (.int (dP n ps ns)),some (.ref i3),x8,x9] H7:=by unfold iS;rw[iT ((qE c1).trans c2)];rfl
 have s7:=s1.fr (((f2.trans f23 (by simp)).trans f5 (by simp)).trans (T:=[]) (f6.trans f7 (by simp)) (by simp):Fr [] H1 H7) (by simp);obtain⟨d,H8,e8,g8,s8,f8⟩:=z4g s7 l6 l1;have w5:aK (aE F_qd (aB (aA 2) (aB (aA 5) aC))) (aF 8) [x0,x1,some (.ref st),some (aM n ps),x4,some (.tup (ns.map Dv.int)),some (.int (dP n ps ns)),some (.ref i3),x8,x9] H7=.nx [x0,x1,some (.ref st),some (aM n ps),x4,some (.tup (ns.map Dv.int)),some (.int (dP n ps ns)),some (.ref i3),some d,x9] H8:=zJ (F:=F_qd) rfl rfl e8 rfl;obtain⟨H9,w6,f9⟩:=z4z (ρ:=[x0,x1,some (.ref st),some (aM n ps),x4,some (.tup (ns.map Dv.int)),some (.int (dP n ps ns)),some (.ref i3),some d,x9]) o g8 rfl rfl rfl;refine⟨H9,some (.tup (ns.map Dv.int)),some (.int (dP n ps ns)),some (.ref i3),some d, ?_,s8.fr f9 (by simp)⟩;unfold tB;rw[bE w1,bE w2,bE w3,bE w4,bE w5];exact w6
def F2:MS:=aX (mB (m2 bQ (iQ [9] 4 11 iC yD) (aR (aB (mC (.int 0)) aC)))) (aO (mC (.bl false))) bG
def F3:MS:=aX (mB (m2 bQ (iQ [9] 4 11 iC yE) (aR (aB (mC (.int 0)) aC)))) (aO (mC (.bl false))) bG
theorem z51 (scr:List Int):yF scr=aI (aK (aE (F_qn scr) (aB (aA 0) (aB (aA 1) aC))) (aF 2)) (aI (aK (aE F_qm (aB (aA 2) (aB (mC (.int 6)) aC))) (aF 3)) (aI (dN (aS cN (aB (mC (.int 3)) aC)) (aF 4) tB) (aI (aK (aE F_qa (aB (aA 2) aC)) (aF 9)) (aI F2 F3)))):=rfl
theorem z52 {d e:Dv}(h:TK 3 H d) (hb:fK d=false):F_q6 [d,e] H=.ex 0 H:=by simp[F_q6,uL,aT,bR,aI,cS,aE,aB,aA,aC,need_bad h hb,aW]
theorem PD {d e:Dv}(h:TK 3 H d) (hb:fK d=false):F_q3 [d,e] H=.ex 0 H:=by simp[F_q3,yA,aT,bR,aX,cB,bC,aE,aB,aA,aC,z52 h hb,aW]
theorem z53 {d e:Dv}(h:TK 3 H d) (hb:fK d=false):F_q5 [d,e] H=.ex 0 H:=by simp[F_q5,rO,aT,bR,aI,cS,aE,aB,aA,aC,PD h hb,aW]
theorem z54 {d e:Dv}(h:TK 3 H d) (hb:fK d=false):F_qz [d,e] H=.ex 0 H:=by simp[F_qz,uM,aT,bR,aI,cS,aE,aB,aA,aC,PD h hb,aW]
theorem PF {F:List Dv->Hs->Rs Dv}{d:Dv}{c:Nat}(e:F [d,.non] H=.ex c H):aE F (aB (aA 0) (aB (mC .non) aC)) ([d].map some) H=.ex c H:=by simp[aE,aB,aA,mC,aC,e]
theorem z55 {ρ:Ev}{d:Dv}(hc:mS [9] ρ=some [d]) (td:TK 3 H d) (bd:fK d=false):∃H',aI F2 F3 ρ H=.nx ρ H':=by obtain⟨H5,t5,f5⟩:=zR (c:=0) (.inl rfl) (me:=yD) (H0:=H) (H:=H) hc (PF (F:=F_q5) (z53 td bd)) Fr.refl;obtain⟨H6,t6,f6⟩:=zR (c:=0) (.inl rfl) (me:=yE) (H0:=H5) (H:=H5) hc (PF (F:=F_qz) (z54 (td.fr0 f5) bd)) Fr.refl;have v1:F2 ρ H=.nx ρ H5:=(iT t5:aX _ (aO (mC (.bl false))) bG _ _=_).trans rfl;have v2:F3 ρ H5=.nx ρ H6:=(iT t6:aX _ (aO (mC (.bl false))) bG _ _=_).trans rfl;exact⟨H6,by rw[bE v1,v2]⟩
theorem E1 (scr:List Int) (k:Nat) (H:Hs) (x2 x3 x4 x5 x6 x7 x8 x9:Option Dv):∃H' y2 y3 y4 y5 y6 y7 y8 y9,yF scr [some .scr,some (.int k),x2,x3,x4,x5,x6,x7,x8,x9] H=.nx [some .scr,some (.int k),y2,y3,y4,y5,y6,y7,y8,y9] H':=by
 obtain⟨H1,h1,f1',s1⟩:=z23 scr k H;have w1:aK (aE (F_qn scr) (aB (aA 0) (aB (aA 1) aC))) (aF 2) [some .scr,some (.int k),x2,x3,x4,x5,x6,x7,x8,x9] H=.nx [some .scr,some (.int k),some (.ref H.length),x3,x4,x5,x6,x7,x8,x9] H1:=by simp[aK,aE,aB,aA,aC,h1,aF]
 obtain⟨n,cs,H2,h2,o,s2,f2⟩:=mE s1;have w2:aK (aE F_qm (aB (aA 2) (aB (mC (.int 6)) aC))) (aF 3) [some .scr,some (.int k),some (.ref H.length),x3,x4,x5,x6,x7,x8,x9] H1=.nx [some .scr,some (.int k),some (.ref H.length),some (aM n cs),x4,x5,x6,x7,x8,x9] H2:=by simp[aK,aE,aB,aA,mC,aC,h2,aF]
 generalize H.length=st at s1 s2 f2 h2 w1 w2;have w3:aS cN (aB (mC (.int 3)) aC) [some .scr,some (.int k),some (.ref st),some (aM n cs),x4,x5,x6,x7,x8,x9] H2=.ok (cJ 0 3) H2:=rfl;obtain⟨ρ',H3,w4,y4,y5,y6,y7,y8,e3,s3⟩:=oP (sg:=aF 4) (b:=tB) w3 (λ_ ρ Hx=>∃y4 y5 y6 y7 y8,ρ=[some .scr,some (.int k),some (.ref st),some (aM n cs),y4,y5,y6,y7,y8,x9]/\Com.St st Hx)
  (λm ρ Hx hm ⟨y4,y5,y6,y7,y8,e,s⟩=>by subst e;obtain⟨Hy,z5,z6,z7,z8,wt,sy⟩:=z50 (x0:=some .scr) (x1:=some (.int k)) (x4:=some (.int (0+(m:Int)))) (x5:=y5) (x6:=y6) (x7:=y7) (x8:=y8) (x9:=x9) o s;exact⟨.int (0+m),[some .scr,some (.int k),some (.ref st),some (aM n cs),some (.int (0+(m:Int))),y5,y6,y7,y8,x9],_,Hy,rfl,rfl,wt,_,_,_,_,_,rfl,sy⟩)
  (λρ Hx _=>rfl) ⟨x4,x5,x6,x7,x8,rfl,s2⟩
 subst e3;obtain⟨d,H4,h4,td,bd,s4,f4⟩:=z4s s3;have w5:aK (aE F_qa (aB (aA 2) aC)) (aF 9) [some .scr,some (.int k),some (.ref st),some (aM n cs),y4,y5,y6,y7,y8,x9] H3=.nx [some .scr,some (.int k),some (.ref st),some (aM n cs),y4,y5,y6,y7,y8,some d] H4:=FV (F:=F_qa) rfl h4 rfl;obtain⟨H6,v⟩:=z55 (ρ:=[some .scr,some (.int k),some (.ref st),some (aM n cs),y4,y5,y6,y7,y8,some d]) rfl td bd;refine⟨H6,some (.ref st),some (aM n cs),y4,y5,y6,y7,y8,some d, ?_⟩;rw[z51,bE w1,bE w2,bE w4,bE w5,v]
end
theorem loop (scr:List Int) (m:Int):∀(f k:Nat) (H:Hs) (x1 x2 x3 x4 x5 x6 x7 x8 x9:Option Dv),∃ρ' H',eY (cJ 0 m) (aF 1) (yF scr) f k [some .scr,x1,x2,x3,x4,x5,x6,x7,x8,x9] H=.nx ρ' H'
 |0,k,H,x1,x2,x3,x4,x5,x6,x7,x8,x9=>⟨_,H,rfl⟩
 |f+1,k,H,x1,x2,x3,x4,x5,x6,x7,x8,x9=>by obtain⟨H1,y2,y3,y4,y5,y6,y7,y8,y9,h⟩:=E1 scr k H x2 x3 x4 x5 x6 x7 x8 x9;obtain⟨ρ',H2,h2⟩:=loop scr m f (k+1) H1 (some (.int k)) y2 y3 y4 y5 y6 y7 y8 y9;refine⟨ρ',H2, ?_⟩;rw[<-h2];exact CI (d:=.int k) (ρ1:=[some .scr,some (.int k),x2,x3,x4,x5,x6,x7,x8,x9]) (by simp[cJ]) rfl h
theorem z56 (scr:List Int):∃hh,F_q8 scr [.scr] []=.ok (.bl true) hh:=by
 have hi:∃m:Int,aS cN (aB (aE mO (aB (mC (.int 1)) (aB (aE qU (aB (aE (f1 (iF scr)) (aB (aA 0) aC)) (aB (mC (.int 10)) aC))) aC))) aC) [some .scr,none,none,none,none,none,none,none,none,none] []=.ok (cJ 0 m) []:=by
  generalize hz:(if(10:Int)<scr.length then(10:Int)else scr.length)=z;have z0:0<=z:=by split at hz <;> omega
  have z1:z<=10:=by split at hz <;> omega
  generalize hm:(if z>(1:Int)then z else 1)=m;have m0:1<=m:=by split at hm <;> omega
  have m1':m<=10:=by split at hm <;> omega
  have hr:iG m=true:=by simp[iG];omega
  refine⟨m, ?_⟩;have e1:qU [.int scr.length,.int 10] []=.ok (.int z) []:=by rw[<-hz];rfl
  have e2:mO [.int 1,.int z] []=.ok (.int m) []:=by rw[<-hm];rfl
  simp[aS,aB,aE,mC,aA,aC,f1,iF,fX,e1,e2,cN,hr]
 obtain⟨m,hi⟩:=hi;obtain⟨ρ',H',h⟩:=loop scr m (cJ 0 m).n 0 [] none none none none none none none none none;refine⟨H', ?_⟩;show aW (yG scr [some .scr,none,none,none,none,none,none,none,none,none] [])=_;unfold yG M4;rw[bE ((CH hi).trans h)];rfl
open PySem.Calls PySem.W
theorem mk_of {l:OpenLaw}{w:cn}{K:Frag}{h:cu}{mg:Str->Option af}{fa:ai}(hob:ob K=obE) (hnt:noTabs K=true) (X:K.In h) (G:h.Ns dz mg) (hfa:mg "law" = some (.ref fa)):
  ∃(fd:bo) (c P:ai),(∀(s:ag) (u:af),BindsTo s fd ⟨[u],[]⟩ [("_law_script",u)])/\tabIn K "law" = some (c,P)/\noTabs K=true /\
   ∀(base:cu) (a:ai) (ns:List Int),ns.length<=63->K.In base->base.Ns dz mg->CodeHd base c P->mR mg base->Lawful l.prog w K mg base 15 fa fd "_law_script" P a ns:=by
 have hc:obF.all (λf=>f K)=true:=congrArg fg hob;have hf:zU K=zV:=congrArg qz hob;have e:=hfa.symm.trans (mg_of X G (v:=.ref 372) (dB hc 34));cases e;refine(λ(z:∀R:Prop,(_->R)->R)=>z _ id) λR hR=>?_;obtain⟨g0,U0,B0,C0,D0⟩:=cQ hf hc 166 DS "is_whole" 165 ["thing"] 0 63 98 λ_ _ _ _ _ _=>jI λ_=>rfl;obtain⟨g1,U1,B1,C1,D1⟩:=cQ hf hc 173 DT "is_between" 172 ["thing","low","high"] 1 64 99 λ_ _ _ _ _ _=>J5 λ_ _ _=>rfl;obtain⟨g2,U2,B2,C2,D2⟩:=cQ hf hc 178 yH "is_rising" 177 ["parts"] 2 65 100 λ_ _ _ _ _ _=>jI λ_=>rfl;obtain⟨g3,U3,B3,C3,D3⟩:=cQ hf hc 185 DU "is_thing" 184 ["many","thing"] 3 66 101 λ_ _ _ _ _ _=>fY λ_ _=>rfl;obtain⟨g4,U4,B4,C4,D4⟩:=cQ hf hc 190 yI "are_things" 189 ["many","thing"] 4 67 102 λ_ _ _ _ _ _=>fY λ_ _=>rfl;obtain⟨g5,U5,B5,C5,D5⟩:=cQ hf hc 197 DV "is_pair" 196 ["many","thing"] 5 68 103 λ_ _ _ _ _ _=>fY λ_ _=>rfl;obtain⟨g6,U6,B6,C6,D6⟩:=cQ hf hc 202 yJ "are_pairs" 201 ["many","things"] 6 69 104 λ_ _ _ _ _ _=>fY λ_ _=>rfl;obtain⟨g7,U7,B7,C7,D7⟩:=cQ hf hc 207 yK "has_alike" 206 ["pairs"] 7 70 105 λ_ _ _ _ _ _=>jI λ_=>rfl;obtain⟨g8,U8,B8,C8,D8⟩:=cQ hf hc 212 yL "is_complete" 211 ["pairs"] 8 71 106 λ_ _ _ _ _ _=>jI λ_=>rfl;obtain⟨g9,U9,B9,C9,D9⟩:=cQ hf hc 219 DW "is_order" 218 ["thing"] 9 72 107 λ_ _ _ _ _ _=>jI λ_=>rfl;obtain⟨g10,U10,B10,C10,D10⟩:=cQ hf hc 226 DX "need_order" 225 ["order"] 10 73 108 λ_ _ _ _ _ _=>jI λ_=>rfl;obtain⟨g11,U11,B11,C11,D11⟩:=cQ hf hc 233 DY "are_loose" 232 ["order","one","other"] 11 74 109 λ_ _ _ _ _ _=>J5 λ_ _ _=>rfl;obtain⟨g12,U12,B12,C12,D12⟩:=cQ hf hc 238 yM "loose_pairs" 237 ["order"] 12 75 110 λ_ _ _ _ _ _=>jI λ_=>rfl;obtain⟨g13,U13,B13,C13,D13⟩:=cQ hf hc 243 yN "is_row" 242 ["order","thing"] 13 76 111 λ_ _ _ _ _ _=>fY λ_ _=>rfl;obtain⟨g14,U14,B14,C14,D14⟩:=cQ hf hc 250 DZ "need_row" 249 ["order","row"] 14 77 112 λ_ _ _ _ _ _=>fY λ_ _=>rfl;obtain⟨g15,U15,B15,C15,D15⟩:=cQ hf hc 257 EA "apart" 256 ["row","pair"] 15 78 113 λ_ _ _ _ _ _=>fY λ_ _=>rfl;obtain⟨g16,U16,B16,C16,D16⟩:=cQ hf hc 262 yO "greatest_apart" 261 ["row","pairs"] 16 79 114 λ_ _ _ _ _ _=>fY λ_ _=>rfl;obtain⟨g17,U17,B17,C17,D17⟩:=cQ hf hc 269 EC "span_of" 268 ["order","row"] 17 80 115 λ_ _ _ _ _ _=>fY λ_ _=>rfl;obtain⟨g18,U18,B18,C18,D18⟩:=cQ hf hc 276 ED "farthest" 275 ["order","row"] 18 81 116 λ_ _ _ _ _ _=>fY λ_ _=>rfl;obtain⟨g19,U19,B19,C19,D19⟩:=cQ hf hc 283 EE "_law_cell_at" 282 ["_law_script","_law_k"] 19 82 117 λ_ _ _ _ _ _=>fY λ_ _=>rfl;obtain⟨g20,U20,B20,C20,D20⟩:=cQ hf hc 290 EF "_law_state" 289 ["_law_script","_law_k"] 20 83 118 λ_ _ _ _ _ _=>fY λ_ _=>rfl;obtain⟨g21,U21,B21,C21,D21⟩:=cQ hf hc 297 EG "_law_take" 296 ["_law_state_here","_law_many"] 21 84 119 λ_ _ _ _ _ _=>fY λ_ _=>rfl;obtain⟨g22,U22,B22,C22,D22⟩:=cQ hf hc 304 EH "_law_mixed_row" 303 ["_law_state_here","_law_things"] 22 85 120 λ_ _ _ _ _ _=>fY λ_ _=>rfl;obtain⟨g23,U23,B23,C23,D23⟩:=cQ hf hc 309 yP "_law_closed" 308 ["_law_pairs"] 23 86 121 λ_ _ _ _ _ _=>jI λ_=>rfl;obtain⟨g24,U24,B24,C24,D24⟩:=cQ hf hc 314 uO "_law_order" 313 ["_law_state_here","_law_most"] 24 87 122 λ_ _ _ _ _ _=>fY λ_ _=>rfl;obtain⟨g25,U25,B25,C25,D25⟩:=cQ hf hc 321 EI "_law_loose" 320 ["_law_order_here"] 25 88 123 λ_ _ _ _ _ _=>jI λ_=>rfl;obtain⟨g26,U26,B26,C26,D26⟩:=cQ hf hc 326 yQ "_law_span" 325 ["_law_order_here","_law_row"] 26 89 124 λ_ _ _ _ _ _=>fY λ_ _=>rfl;obtain⟨g27,U27,B27,C27,D27⟩:=cQ hf hc 333 EJ "_law_whole" 332 ["_law_thing"] 27 90 125 λ_ _ _ _ _ _=>jI λ_=>rfl;obtain⟨g28,U28,B28,C28,D28⟩:=cQ hf hc 338 uP "_law_is_row" 337 ["_law_order_here","_law_thing"] 28 91 126 λ_ _ _ _ _ _=>fY λ_ _=>rfl;obtain⟨g29,U29,B29,C29,D29⟩:=cQ hf hc 343 uQ "_law_some_row" 342 ["_law_state_here","_law_order_here"] 29 92 127 λ_ _ _ _ _ _=>fY λ_ _=>rfl;obtain⟨g30,U30,B30,C30,D30⟩:=cQ hf hc 350 EK "_law_bent_row" 349 ["_law_state_here","_law_row"] 30 93 128 λ_ _ _ _ _ _=>fY λ_ _=>rfl;obtain⟨g31,U31,B31,C31,D31⟩:=cQ hf hc 357 EL "_law_bad_order" 356 ["_law_state_here"] 31 94 129 λ_ _ _ _ _ _=>jI λ_=>rfl;obtain⟨g32,U32,B32,C32,D32⟩:=cQ hf hc 362 yR "_law_same" 361 ["_law_found","_law_due"] 32 95 130 λ_ _ _ _ _ _=>fY λ_ _=>rfl;obtain⟨g33,U33,B33,C33,D33⟩:=cQ hf hc 367 qA "_law_refused" 366 ["_law_call"] 33 96 131 λ_ _ _ _ _ _=>jI λ_=>rfl;obtain⟨g34,U34,B34,C34,D34⟩:=cQ hf hc 372 oS "law" 371 ["_law_script"] 34 97 132 λ_ _ _ _ _ _=>jI λ_=>rfl;obtain⟨t_MOST_THINGS,c_MOST_THINGS⟩:=PL (n := "MOST_THINGS") (v:=6) (nS hc 133 rfl);have ex_NoOrder:ExK K 37:=⟨dB hc 168,dB hc 169,dB hc 170,dB hc 171,dB hc 172,dB hc 173,F5 (nS hc 174 rfl)⟩
 have ex_NoRow:ExK K 97:=⟨dB hc 175,dB hc 176,dB hc 177,dB hc 178,dB hc 179,dB hc 180,F5 (nS hc 181 rfl)⟩
 refine hR ⟨g34,371,369,λs v=>.of_eq (D34 [v] rfl),dB hc 134,hnt,λbase a ns hlen _ _ hC hB=>⟨?_⟩⟩;obtain⟨hh,hl⟩:=z56 ns;refine⟨{ K:=K,cl:=λc=>match c with|0=>37|1=>49|2=>61|3=>73|4=>85|5=>97|6=>109|7=>121|8=>133|9=>145|10=>157|_=>24,scr:=ns,sa:=a,tab:=some 369,lq:=(("law" : Str) ++ ".<locals>.") ++ "<lambda>" },F_q8 ns,hh,rfl,rfl,rfl,rfl,hl, ?_⟩;refine z1m (A:=⟨166,g0,173,g1,178,g2,185,g3,190,g4,197,g5,202,g6,207,g7,212,g8,219,g9,226,g10,233,g11,238,g12,243,g13,250,g14,257,g15,262,g16,269,g17,276,g18,283,g19,290,g20,297,g21,304,g22,309,g23,314,g24,321,g25,326,g26,333,g27,338,g28,343,g29,350,g30,357,g31,362,g32,367,g33,372,g34,37,49,61,73,85,97,109,121,133,145,157,t_MOST_THINGS,24,371,369⟩) ?_ hC hB;exact⟨rfl,U0,B0,bX X G hc 0,U1,B1,bX X G hc 1,U2,B2,bX X G hc 2,U3,B3,bX X G hc 3,U4,B4,bX X G hc 4,U5,B5,bX X G hc 5,U6,B6,bX X G hc 6,U7,B7,bX X G hc 7,U8,B8,bX X G hc 8,U9,B9,bX X G hc 9,U10,B10,bX X G hc 10,U11,B11,bX X G hc 11,U12,B12,bX X G hc 12,U13,B13,bX X G hc 13,U14,B14,bX X G hc 14,U15,B15,bX X G hc 15,U16,B16,bX X G hc 16,U17,B17,bX X G hc 17,U18,B18,bX X G hc 18,U19,B19,bX X G hc 19,U20,B20,bX X G hc 20,U21,B21,bX X G hc 21,U22,B22,bX X G hc 22,U23,B23,bX X G hc 23,U24,B24,bX X G hc 24,U25,B25,bX X G hc 25,U26,B26,bX X G hc 26,U27,B27,bX X G hc 27,U28,B28,bX X G hc 28,U29,B29,bX X G hc 29,U30,B30,bX X G hc 30,U31,B31,bX X G hc 31,U32,B32,bX X G hc 32,U33,B33,bX X G hc 33,U34,B34,bX X G hc 34,mg_none_of X G (dB hc 47),mg_none_of X G (dB hc 48),mg_none_of X G (dB hc 49),mg_none_of X G (dB hc 50),mg_none_of X G (dB hc 51),mg_none_of X G (dB hc 52),mg_none_of X G (dB hc 53),mg_none_of X G (dB hc 54),mg_none_of X G (dB hc 55),mg_none_of X G (dB hc 56),mg_none_of X G (dB hc 57),mg_none_of X G (dB hc 58),mg_none_of X G (dB hc 59),mg_none_of X G (dB hc 60),mg_none_of X G (dB hc 61),mg_none_of X G (dB hc 62),mg_of X G c_MOST_THINGS,bX X G hc 35,bX X G hc 36,bX X G hc 37,bX X G hc 38,bX X G hc 39,bX X G hc 40,bX X G hc 41,bX X G hc 42,bX X G hc 43,bX X G hc 44,bX X G hc 45,dB hc 35,nS hc 182 rfl,rfl,dB hc 40,nS hc 183 rfl,rfl,eQ ⟨dB hc 184,ex_NoOrder⟩ (eQ ⟨dB hc 185,ex_NoRow⟩ jW),eQ ⟨dB hc 146,ex_NoOrder⟩ (eQ ⟨dB hc 157,ex_NoRow⟩ jW),eQ ⟨dB hc 147,ex_NoOrder⟩ (eQ ⟨dB hc 158,ex_NoRow⟩ jW),eQ ⟨dB hc 148,ex_NoOrder⟩ (eQ ⟨dB hc 159,ex_NoRow⟩ jW),eQ ⟨dB hc 149,ex_NoOrder⟩ (eQ ⟨dB hc 160,ex_NoRow⟩ jW),eQ ⟨dB hc 150,ex_NoOrder⟩ (eQ ⟨dB hc 161,ex_NoRow⟩ jW),eQ ⟨dB hc 151,ex_NoOrder⟩ (eQ ⟨dB hc 162,ex_NoRow⟩ jW),eQ ⟨dB hc 152,ex_NoOrder⟩ (eQ ⟨dB hc 163,ex_NoRow⟩ jW),eQ ⟨dB hc 153,ex_NoOrder⟩ (eQ ⟨dB hc 164,ex_NoRow⟩ jW),eQ ⟨dB hc 154,ex_NoOrder⟩ (eQ ⟨dB hc 165,ex_NoRow⟩ jW),eQ ⟨dB hc 155,ex_NoOrder⟩ (eQ ⟨dB hc 166,ex_NoRow⟩ jW),eQ ⟨dB hc 156,ex_NoOrder⟩ (eQ ⟨dB hc 167,ex_NoRow⟩ jW),bX X G hc 46,dB hc 186,dB hc 187,dB hc 188,kL (dB hc 135) (kL (dB hc 136) (kL (dB hc 137) (kL (dB hc 138) (kL (dB hc 139) (kL (dB hc 140) (kL (dB hc 141) (kL (dB hc 142) (kL (dB hc 143) (kL (dB hc 144) (kL (dB hc 145) XH)))))))))),rfl,rfl,C34⟩
end L2.Mr.K05
open PySem PySem.W PyProof.Rows
set_option maxRecDepth 100000 in
set_option maxHeartbeats 0 in
theorem PySem.Challenge.cw_nearorders_k05_spans_of_rows_holds : PySem.Challenge.rw_nearorders_k05_spans_of_rows.Holds := by
  w_on; o_law
  refine holds_open (XP := XL L2.Mr.K05.vw []) (YP := L2.Mr.Ys L2.Mr.K05.ob L2.Mr.K05.obE) L2.Mr.K05.left L2.Mr.ys_of L2.Mr.ys_keeps (fun s e => xl_of s (Bool.and_eq_true_iff.mp e).1) XL.keeps (by rfl) (by rfl) (by rfl) (fun s e => recFacts_of (Bool.and_eq_true_iff.mp e).2) (by rfl) (by first | assumption | decide +kernel) (by decide +kernel) ⟨rfl,rfl,rfl,rfl,rfl,by decide +kernel⟩ ?hw ?hc
  case hw => w_witness2
  case hc => exact L2.Mr.walkK (l := PySem.Challenge.rw_nearorders_k05_spans_of_rows) (n := 63) (k := 15) (x := "_law_script") rfl (by decide) rfl ⟨rfl,by decide,by decide⟩ rfl (fun K w mg fa h hob hnt X G hmg => L2.Mr.K05.mk_of hob hnt X G hmg)