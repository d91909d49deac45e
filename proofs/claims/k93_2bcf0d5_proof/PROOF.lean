import PyProof.Rows.All
import Wide.All
import OpenK.AllK
import Wide.FinOn
import Lean
import PyProof.EqAt
import PyProof.EqKinds
import PyProof.TupleCall
import PyProof.NeKinds
import PyProof.StationsW
import PyProof.ExcClass3
import PyProof.ExcBaseAll.ValueError
import PyProof.ExcArgsOwn
import KE.KIsAll
import PyProof.ZipIter
import PyProof.RulesAs
import KE.KLam
import PyProof.NsDelKeeps
import PyProof.Rows.Range3
import PyProof.SumWalkG
import PyProof.EnumMake
import PyProof.EnumFor
import PyProof.WalkInts
import PyProof.Rows.SortWalk
import KE.KSortAsk
import PySem.SetOps
import KE.KSortTup
import PyProof.Rows.SetFrom
import PyProof.SetRoads
import PyProof.Rows.CallKwBuiltin
import PyProof.EnumIter
import PyProof.DictCompW
import KE.KDictList
import KE.KUnpackStar
import KE.KTab
import KE.KSortKey
import PyProof.SetKind
import PyProof.StrCalls
import PyProof.ListMulRoad
import PyProof.FactsAll.tuple_2
import PySem.Challenge.RW_nearorders_k93_lines_that_are_none
abbrev wo:=List (Int×Int)
abbrev y':=List (List Int)
abbrev zr:=List Int
abbrev zt:=List Nat
abbrev zu:=List PySem.Str
set_option genSizeOf false
set_option compiler.extract_closed false
noncomputable section
open Array renaming getElem?_setIfInBounds_self_of_lt->cy,getElem?_eq_some_iff->fq,getElem?_toList->nh,length_toList->ou,getElem?_eq_getElem->qk,getElem?_setIfInBounds_ne->uw,getD->wg,perm_iff_toList_perm->wj,getElem?_eq_none->yf
open Bool renaming and_eq_true->dh,eq_iff_iff->ig,false_ne_true->jc,false_eq_true->jd,not_eq_true'->qu,and_false->wx,and_eq_true_iff->zg
open False renaming elim->gh
open ForInStep renaming yield->qw
open Function renaming comp->vk
open Int renaming toNat_natCast->qv,le_refl->vm
open List renaming getElem?_eq_some_iff->av,mem_cons_of_mem->az,mem_append_right->bc,size_toArray->bf,mem_cons->bh,mem_cons_self->bo,length_cons->br,range->cf,length_map->cg,getElem?_eq_getElem->cn,mem_append_left->cu,mem_append->cz,getElem?_set_self->da,getElem?_append_left->di,lookup_cons->dr,mem_range->du,length_append->dw,mem_singleton->dy,all_eq_true->fv,map_cons->fw,getElem?_map->fx,mem_of_getElem?->gb,getElem?_set_ne->gg,mem_filter->gm,getElem_mem->gn,mem_map->gu,getElem?_append_right->gz,flatMap_cons->iw,filterMap_cons->iz,pairwise_cons->je,length_set->jq,append_nil->jz,lookup->ki,mem_filterMap->ko,length_nil->kr,mem_iff_getElem->lh,map_map->lj,filter_cons->ll,length_take->nj,any_eq_true->nq,mem_flatMap->nt,length->oj,nodup_cons->ow,forIn_cons->oz,length_pos_iff->pj,getD->pq,drop_zero->qd,getElem_range->qe,getElem?_zip_eq_some->qo,getElem?_replicate->rn,countP_cons->rp,filterMap_eq_map'->sk,map_append->td,length_filter_le->tm,ne_nil_of_mem->uk,any_map->ux,length_range->uy,of_mem_zip->vh,replicate->wq,pairwise_iff_getElem->xg,drop_eq_getElem_cons->xj,exists_mem_of_ne_nil->xl,length_filterMap_le->xw,length_eq_zero_iff->ye,drop_eq_nil_of_le->yo,length_singleton->yu,filterMap_eq_map->yz,map_congr_left->zq
open List.Pairwise renaming nil->wu
open Nat renaming le_refl->aq,lt_of_lt_of_le->ar,ne_of_lt->aw,le_trans->cm,lt_irrefl->fe,le_of_lt->ij,zero_le->ja,lt_succ_self->jf,ne_of_gt->ju,lt_succ_of_lt->lg,le_of_eq->nc,le_add_right->sf,zero_add->vb,mul_le_mul->xk,min_self->yw
open Ne renaming symm->cp
open Option renaming isSome_iff_exists->lx
open Option.some renaming inj->de,injEq->xm
open Or renaming inl->vj,inr->zd
open Prod renaming snd->jh
open PyProof.Rows renaming slot_tuple_getitem->gq,callWith_type1->km,IntsAre->kz,AllBare->sh,lt_int->vt,News->xi,Fr->yg,IsTup->yp,tupleItemsOf_->zk
open PyProof.Rows.KTD renaming datumAt->cw
open PySem renaming wpAny_bind->ae,Value->af,Shared->ag,Addr->ah,wpAny_pure->aj,starEach->ao,FuncData->ay,Expr->ba,Program->bg,sizeLine->bj,Around->bq,World->bu,Heap->bx,mainGlobals->bz,bootBuiltins->cx,wpAny_field->dg,Scope->dj,wpAny_newObj_type->dz,wpAny_holding->fg,mem_of_lookup->fh,Stmt->fj,wpAny_call_entry->gv,wpAny_truthy_bool->gy,wpAny_callSpecial?_slot->ib,Arguments->ji,wpAny_mono->jk,wpAny_Call_Name_kw->jl,wpAny_standAt->jn,wpAny_seqItems->jt,Comprehension->jx,wpAny_setField_rec->kg,pushCells_keeps->kj,NameKind->kq,sizeLine_eq->ly,codeAny_mono->mf,wpAny_comprehension_free->my,wpAny_pyIter_list->nu,IsPair->oi,wpAny_execs_cons->pb,wpAny_onRaise->pk,codeAny_call_builtin->pw,wpAny_letGo->pz,wpAny_typeNameOfWhole_keyiter->qc,wpAny_execs_nil->qf,wpAny_passesOwn->qg,codeAny_builtin->qj,wpAny_pyIter_tuple->rf,IsTupleKey->rj,wpAny_assign_Name->si,wpAny_of_eq->sj,Result->sv,DictEntry->tq,wpAny_call->ua,Builtin->ub,wpAny_Call_method_late->uc,wpAny_rule->ud,exec_Assign_Name_used->uj,IsPart->um,wpAny_updateSeq_pair->ur,SetTable->uu,TriplesOk->uv,slot_dict_contains->vg,BindsTo->vp,Keyword->vq,wpAny_sequenceKey->vz,call->wa,boot_len->wd,wpAny_dictEntries->wk,slot_dict_getitem->wm,wpAny_eqBool_int->wz,noFill_tuple_add->xc,Model->xq,IsZip->xv,Within->ya,wpAny_updateSeq->yd,CmpOp->yr,DefRec->yv,wpAny_setField->yx,wpAny_tryCatch->yy,seq_tuple_add->zj,wpAny_attempt->zl,wpAny_newList->zo
open PySem.Around renaming under_plainId->nr,under->xr,frames_deeper->ym
open PySem.Builtin.Builtins renaming bindParams->tw
open PySem.Builtin.Slice renaming slicePlaces->ku,sliceAdjust->nv,sliceApplied->uh
open PySem.Builtin.SmallTypes renaming nextOf->ff,ownedTupleIsFree->qi,stopIteration->qz
open PySem.Builtin.Str renaming occurrences->ie
open PySem.Builtin.Tuple renaming tupleExact->lb,tupleItemsOf->ui
open PySem.Calls renaming callWith_builtin->mr,evalArgs_plain->oh,Name_function_global->vn,call_len_list->zb,spliced_cons->zi
open PySem.Challenge renaming pw_nearorders_k93_lines_that_are_none->aa,rw_nearorders_k93_lines_that_are_none->mq
open PySem.Code renaming isFrame->yj
open PySem.EntryCells renaming newEntry->xf
open PySem.F renaming args_tuple_add_2->qh,entry_tuple_add->qr,slot_tuple_add->rh,excBase_ValueError->ve,slot_tuple_index->we,plainAttrs_list->wy
open PySem.Heap renaming get?_push_of_some->ai,lt_size->au,get?_push_size->ax,size_push->dq,SameBut->ic,get?_update_other->mz,get?_update_self->ni,get?->yh,ExtBut->zf,get?_update_ne->zm
open PySem.Heap.SameBut renaming refl->tj,update->wb
open PySem.IsL renaming update->yt
open PySem.NameKind renaming free->bw,cell->df
open PySem.Obj renaming mapSeq->sy,data_mapFields->uq,isFreed_of_fields->ze
open PySem.PassesOwn renaming leaving->yn
open PySem.SeqAt renaming EqAt->kn,RcAt->sd
open PySem.Str renaming ofString->ik,empty->jo
open PySem.Txt renaming split->lr,join->oq
open PySem.Value renaming ref->gw,none->jm,isInt_shape->ql,builtin->qt,type->rz,bool->ue
open PySem.W renaming Frag->ak,kitOne->cq,emptyDict->iq,keepIn->iu,excIn->jb,nsIn->jr,findIn->jv,instObj->jw,kla_obj->jy,subIn->kh,envX->mm,CodeHd->mn,fnOf->om,callWith_K->pd,kla_fn->pf,tabObj->ph,plainGet->qp,lookIn->sr,plainGet_of->tu,methodObj->uf,hasDictIn->ug,takerIn->va,codeIn->vc,kitCls->vf,isFn->xa,cellsFrom_some->xb,methodCall_KW->xu,hideAll_size->yb,hideAll_none->yc,hideAll_get->yi,callWith_K0->yk,of_hideAll->yq,plainOver->zc,handedIn->zh
open PySem.Walks renaming list->wc
open Sum renaming inl->jg,inr->uz
set_option Elab.async false
set_option linter.all false
set_option maxRecDepth 100000
set_option maxHeartbeats 4000000
open PySem PySem.Spec PyProof.Rows
namespace L2.Mr
open PySem PySem.Spec PySem.Calls PyProof.Rows PySem.W
noncomputable def N1(o:Obj):Bool:=match o.cls,o.data with
 |.none,.fields _=>false
 |_,_=>true
def mY(h:bx):List ah->Frag
 |[]=>[]
 |a::as=>match h.get? a with
  |some o=>match N1 o with
   |true=>(a,o)::mY h as
   |false=>mY h as
  |none=>mY h as
def lX(h:bx):Frag:=mY h (cf h.objs.size)
theorem uW(h:bx):∀as,(mY h as).In h
 |[],_,_,e=>nomatch e
 |a::as,b,o,e=>by
  unfold mY at e
  split at e
  ·rename_i o' q
   split at e
   ·rw[dr]at e
    cases z:b==a with
    |true=>rw[z]at e;cases e;rw[eq_of_beq z];exact q
    |false=>rw[z]at e;exact uW h as b o e
   ·exact uW h as b o e
  ·exact uW h as b o e
theorem uX(h:bx):∀as,noTabs (mY h as)=true
 |[]=>rfl
 |a::as=>by
  unfold mY
  split
  ·split
   ·rename_i q;show(_&&_)=true;rw[dh];refine⟨?_,uX h as⟩;exact q
   ·exact uX h as
  ·exact uX h as
noncomputable def bM(K:Frag)(f:ah):Option ay:=match K.lookup f with
 |some o=>match o.data with
  |.func fd=>some {fd with kwdefaults:=.none,doc:=.none,pyModule:=.none,annotations:=none,closureTuple:=.none}
  |_=>none
 |none=>none
theorem E5{K:Frag}{f:ah}{n q:Str}{A:ji}{B:List fj}{S:dj}{dV cd:af}(h:bM K f=some (fnOf n q A B S dV .none .none .none none cd .none)):
  ∃(oc:af)(od:Option ah)(kV dc pm:af)(an:Option ah)(ct:af)(sl:Array (Option af)),K.lookup f=some ⟨oc,od,.func (fnOf n q A B S dV kV dc pm an cd ct),sl⟩:=by
 unfold bM at h
 split at h
 ·rename_i o e
  split at h
  ·rename_i fd q;obtain⟨oc,od,dt,sl⟩:=o;cases fd;simp only[xm,FuncData.mk.injEq]at h;obtain⟨rfl,rfl,rfl,rfl,rfl,rfl,rfl,rfl,_,_,_,_,rfl,_,rfl⟩:=h;simp only at q;subst q;exact⟨_,_,_,_,_,_,_,_,e⟩
  ·cases h
 ·cases h
theorem cZ{F:List (Frag->Bool)}{K:Frag}(h:F.all (λf=>f K)=true)(i:Nat){f:Frag->Bool}(e:F[i]?=some f):f K=true:=fv.mp h f (gb e)
theorem rS{l m:List (Option ay)}(h:l=m)(i:Nat){a b:Option ay}(e:l[i]?=some a)(e':m[i]?=some b):a=b:=by subst h;rw[e]at e';exact de e'
noncomputable def lB(K:Frag)(q:ah):Bool:=match K.lookup q with
 |some ⟨_,_,.cls _,_⟩=>true
 |_=>false
theorem mZ{K:Frag}{q:ah}(h:lB K q=true):∃lo ld lc ls,K.lookup q=some ⟨lo,ld,.cls lc,ls⟩:=by
 unfold lB at h
 split at h
 ·exact⟨_,_,_,_,by assumption⟩
 ·cases h
noncomputable def zM(K:Frag)(n:Str)(v:Int):Bool:=match nsIn K bz n with
 |some (some (.int i _))=>i==v
 |_=>false
theorem N2{K:Frag}{n:Str}{v:Int}(h:zM K n v=true):∃t,nsIn K bz n=some (some (.int v t)):=by
 unfold zM at h
 split at h
 ·rename_i i t e;rw[eq_of_beq h]at e;exact⟨t,e⟩
 ·cases h
theorem nA(p:bg)(w:bu)(N:Nat){α:Type}(f:ag->α):(openEnds treeTable p w N).map f=(((Fast.tw10274390034422433532 Fast.tw14364793385576792824 (opening p) w N (PySem.start (opening p)).1 (PySem.start (opening p)).2).bind (Fast.tw14289696077712309145 p)).bind λs₀=>match s₀.heap.isNs bz&&s₀.gens.size==0 with
 |true=>(Fast.tw14082659384304107361 Fast.tw14364793385576792824 p w s₀.heap.objs.size (s₀.heap.nsMap bz "__annotations__") N s₀ (topStub p)).bind λs₁=>match staticsOk (importedModules p.main.body) s₀.heap s₁.heap&&namesBound p s₁.heap&&gensDone s₁&&laidKept s₀.heap s₁.heap with
   |true=>some s₁
   |false=>none
 |false=>none).map f:=by
 rw[<-Fast.te10274390034422433532,<-Fast.te14364793385576792824,<-Fast.te14289696077712309145,<-Fast.te14082659384304107361];rfl
abbrev nB:List af:=[.type "ValueError",.type "Exception",.type "BaseException",.type "object"]
noncomputable def N3(s:fj)(cd:ah):Option ay:=match s with
 |.FunctionDef n a b _ _ _ sc _ _ _=>some (fnOf n n a b sc .none .none .none .none none (.ref cd) .none)
 |_=>none
def fE(p:bg)(i:Nat)(cd:ah):Option ay:=N3 (p.main.body.getD i (.Pass ⟨0,0,0,0⟩)) cd
noncomputable def nR(K:Frag)(n:Str)(a:ah):Bool:=decide (nsIn K bz n=some (some (.ref a)))
noncomputable def nN(K:Frag)(n:Str):Bool:=decide (nsIn K bz n=some none)
noncomputable def sI(K:Frag)(a b:af)(v:Bool):Bool:=decide (subIn K a b=some v)
noncomputable def kI(K:Frag)(a b:ah)(v:Bool):Bool:=decide (kitOne K (.ref a) (.ref b)=some v)
theorem dA{F:List (Frag->Bool)}{K:Frag}(h:F.all (λf=>f K)=true)(i:Nat){g:Frag->Prop}[∀K,Decidable (g K)](e:F[i]?=some (λK=>decide (g K))):g K:=of_decide_eq_true (cZ h i e)
noncomputable def zN(K:Frag)(n v:Str):Bool:=match nsIn K bz n with
 |some (some (.str i _))=>decide (i=v)
 |_=>false
theorem N4{K:Frag}{n v:Str}(h:zN K n v=true):∃t,nsIn K bz n=some (some (.str v t)):=by
 unfold zN at h
 split at h
 ·rename_i i t e;rw[of_decide_eq_true h]at e;exact⟨t,e⟩
 ·cases h
def rT(s:fj)(j:Nat):fj:=match s with
 |.ClassDef _ _ _ b _ _ _ _ _ _ _=>b.getD j (.Pass ⟨0,0,0,0⟩)
 |_=>.Pass ⟨0,0,0,0⟩
noncomputable def N5(s:fj)(q:Str)(cd:ah):Option ay:=match s with
 |.FunctionDef n a b _ _ _ sc _ _ _=>some (fnOf n q a b sc .none .none .none .none none (.ref cd) .none)
 |_=>none
def fM(p:bg)(i j:Nat)(q:Str)(cd:ah):Option ay:=N5 (rT (p.main.body.getD i (.Pass ⟨0,0,0,0⟩)) j) q cd
noncomputable def qF:List tq->List (Str×ah)->Bool
 |[],[]=>true
 |⟨_,.str x _,.ref f⟩::es,(y,g)::D=>decide (x=y)&&decide (f=g)&&qF es D
 |_,_=>false
def zO(K:Frag)(q:ah)(D:List (Str×ah)):Bool:=!(q==sysModules)&&match K.lookup q with
 |some ⟨.type n,none,.dict es _,sl⟩=>decide (n="dict")&&(decide (sl.toList.length=0)&&qF es.toList D)
 |_=>false
end L2.Mr
namespace L2.Mr.K93
open PySem PySem.Spec PySem.Calls PySem.W PyProof.Rows
noncomputable def vw:bg:={aa with main:={aa.main with body:=List.filterMap (λi=>aa.main.body[i]?) [1,2,3,4,5,6,7,8,9,10,11,12,14,15,16,17,19,20,21,22,23,24,25,26,27,28,29,30,31,32,34,35,36,37,38,39,40,42,43,44,45,47,48,50,51,52,53,54,55,56,57,58,60,61,62]} }
def Xw:ag->Bool:=λs=>xlAt vw [] s&&recOk (RowW.records (OpenRow.toRowW mq.row)) s
def obF:List (Frag->Bool):=[(nR · "is_whole" 166),(nR · "is_between" 173),(nR · "need_between" 180),(nR · "is_rising" 185),(nR · "is_thing" 192),(nR · "are_things" 197),(nR · "is_pair" 204),(nR · "are_pairs" 209),(nR · "has_alike" 214),(nR · "is_complete" 219),(nR · "is_order" 226),(nR · "need_order" 233),(nR · "need_thing" 240),(nR · "with_all_that_follows" 245),(nR · "order_of" 252),(nR · "are_loose" 259),(nR · "loose_pairs" 264),(nR · "is_row" 269),(nR · "need_row" 276),(nR · "may_come" 281),(nR · "all_rows" 286),(nR · "apart" 293),(nR · "greatest_apart" 298),(nR · "span_of" 305),(nR · "rows_with_spans" 310),(nR · "least_span" 315),(nR · "best_rows" 320),(nR · "first_best" 327),(nR · "order_text" 332),(nR · "say_order" 339),(nR · "say_loose" 344),(nR · "say_least" 351),(nR · "say_best" 356),(nR · "say_many" 363),(nR · "number_of" 371),(nR · "with_ahead" 378),(nR · "_law_refused" 423),(nR · "_law_bad" 430),(nR · "law" 435),(nR · "NoOrder" 37),(nR · "NoNumber" 49),(nR · "NoPairs" 61),(nR · "Round" 73),(nR · "NoThing" 85),(nR · "NoRow" 97),(nR · "TooMany" 109),(nR · "TooFew" 121),(nR · "NoText" 133),(nR · "NoLine" 145),(nR · "NoDeed" 157),(nR · "NearError" 24),(nR · "Desk" 414),(nR · "QUESTIONS" 364),(nN · "ValueError"),(nN · "abs"),(nN · "all"),(nN · "any"),(nN · "bool"),(nN · "int"),(nN · "isinstance"),(nN · "len"),(nN · "list"),(nN · "max"),(nN · "min"),(nN · "range"),(nN · "set"),(nN · "sorted"),(nN · "str"),(nN · "tuple"),(nN · "zip"),(codeIn · (.ref 165) "is_whole"),(codeIn · (.ref 172) "is_between"),(codeIn · (.ref 179) "need_between"),(codeIn · (.ref 184) "is_rising"),(codeIn · (.ref 191) "is_thing"),(codeIn · (.ref 196) "are_things"),(codeIn · (.ref 203) "is_pair"),(codeIn · (.ref 208) "are_pairs"),(codeIn · (.ref 213) "has_alike"),(codeIn · (.ref 218) "is_complete"),(codeIn · (.ref 225) "is_order"),(codeIn · (.ref 232) "need_order"),(codeIn · (.ref 239) "need_thing"),(codeIn · (.ref 244) "with_all_that_follows"),(codeIn · (.ref 251) "order_of"),(codeIn · (.ref 258) "are_loose"),(codeIn · (.ref 263) "loose_pairs"),(codeIn · (.ref 268) "is_row"),(codeIn · (.ref 275) "need_row"),(codeIn · (.ref 280) "may_come"),(codeIn · (.ref 285) "all_rows"),(codeIn · (.ref 292) "apart"),(codeIn · (.ref 297) "greatest_apart"),(codeIn · (.ref 304) "span_of"),(codeIn · (.ref 309) "rows_with_spans"),(codeIn · (.ref 314) "least_span"),(codeIn · (.ref 319) "best_rows"),(codeIn · (.ref 326) "first_best"),(codeIn · (.ref 331) "order_text"),(codeIn · (.ref 338) "say_order"),(codeIn · (.ref 343) "say_loose"),(codeIn · (.ref 350) "say_least"),(codeIn · (.ref 355) "say_best"),(codeIn · (.ref 362) "say_many"),(codeIn · (.ref 370) "number_of"),(codeIn · (.ref 377) "with_ahead"),(codeIn · (.ref 391) "Desk.__init__"),(codeIn · (.ref 403) "Desk.change_to"),(codeIn · (.ref 410) "Desk.undo"),(codeIn · (.ref 396) "Desk.say"),(codeIn · (.ref 422) "_law_refused"),(codeIn · (.ref 429) "_law_bad"),(codeIn · (.ref 434) "law"),(keepIn · (.ref 166)),(keepIn · (.ref 173)),(keepIn · (.ref 180)),(keepIn · (.ref 185)),(keepIn · (.ref 192)),(keepIn · (.ref 197)),(keepIn · (.ref 204)),(keepIn · (.ref 209)),(keepIn · (.ref 214)),(keepIn · (.ref 219)),(keepIn · (.ref 226)),(keepIn · (.ref 233)),(keepIn · (.ref 240)),(keepIn · (.ref 245)),(keepIn · (.ref 252)),(keepIn · (.ref 259)),(keepIn · (.ref 264)),(keepIn · (.ref 269)),(keepIn · (.ref 276)),(keepIn · (.ref 281)),(keepIn · (.ref 286)),(keepIn · (.ref 293)),(keepIn · (.ref 298)),(keepIn · (.ref 305)),(keepIn · (.ref 310)),(keepIn · (.ref 315)),(keepIn · (.ref 320)),(keepIn · (.ref 327)),(keepIn · (.ref 332)),(keepIn · (.ref 339)),(keepIn · (.ref 344)),(keepIn · (.ref 351)),(keepIn · (.ref 356)),(keepIn · (.ref 363)),(keepIn · (.ref 371)),(keepIn · (.ref 378)),(keepIn · (.ref 392)),(keepIn · (.ref 404)),(keepIn · (.ref 411)),(keepIn · (.ref 397)),(keepIn · (.ref 423)),(keepIn · (.ref 430)),(keepIn · (.ref 435)),(zM · "MOST_THINGS" 6),(zN · "FIGURES" "0123456789"),λK=>decide (tabIn K "law"=some (434,432)),(excIn · 37 nB "ValueError.__new__"),(excIn · 49 nB "ValueError.__new__"),(excIn · 61 nB "ValueError.__new__"),(excIn · 73 nB "ValueError.__new__"),(excIn · 85 nB "ValueError.__new__"),(excIn · 97 nB "ValueError.__new__"),(excIn · 145 nB "ValueError.__new__"),(excIn · 157 nB "ValueError.__new__"),(sI · (.ref 37) (.ref 24) true),(sI · (.ref 49) (.ref 24) true),(sI · (.ref 61) (.ref 24) true),(sI · (.ref 73) (.ref 24) true),(sI · (.ref 85) (.ref 24) true),(sI · (.ref 97) (.ref 24) true),(sI · (.ref 109) (.ref 24) true),(sI · (.ref 121) (.ref 24) true),(sI · (.ref 133) (.ref 24) true),(sI · (.ref 145) (.ref 24) true),(sI · (.ref 157) (.ref 24) true),(kI · 37 37 true),(kI · 37 49 false),(kI · 37 61 false),(kI · 37 73 false),(kI · 37 85 false),(kI · 37 97 false),(kI · 37 109 false),(kI · 37 121 false),(kI · 37 133 false),(kI · 37 145 false),(kI · 37 157 false),(kI · 49 37 false),(kI · 49 49 true),(kI · 49 61 false),(kI · 49 73 false),(kI · 49 85 false),(kI · 49 97 false),(kI · 49 109 false),(kI · 49 121 false),(kI · 49 133 false),(kI · 49 145 false),(kI · 49 157 false),(kI · 61 37 false),(kI · 61 49 false),(kI · 61 61 true),(kI · 61 73 false),(kI · 61 85 false),(kI · 61 97 false),(kI · 61 109 false),(kI · 61 121 false),(kI · 61 133 false),(kI · 61 145 false),(kI · 61 157 false),(kI · 73 37 false),(kI · 73 49 false),(kI · 73 61 false),(kI · 73 73 true),(kI · 73 85 false),(kI · 73 97 false),(kI · 73 109 false),(kI · 73 121 false),(kI · 73 133 false),(kI · 73 145 false),(kI · 73 157 false),(kI · 85 37 false),(kI · 85 49 false),(kI · 85 61 false),(kI · 85 73 false),(kI · 85 85 true),(kI · 85 97 false),(kI · 85 109 false),(kI · 85 121 false),(kI · 85 133 false),(kI · 85 145 false),(kI · 85 157 false),(kI · 97 37 false),(kI · 97 49 false),(kI · 97 61 false),(kI · 97 73 false),(kI · 97 85 false),(kI · 97 97 true),(kI · 97 109 false),(kI · 97 121 false),(kI · 97 133 false),(kI · 97 145 false),(kI · 97 157 false),(kI · 145 37 false),(kI · 145 49 false),(kI · 145 61 false),(kI · 145 73 false),(kI · 145 85 false),(kI · 145 97 false),(kI · 145 109 false),(kI · 145 121 false),(kI · 145 133 false),(kI · 145 145 true),(kI · 145 157 false),(kI · 157 37 false),(kI · 157 49 false),(kI · 157 61 false),(kI · 157 73 false),(kI · 157 85 false),(kI · 157 97 false),(kI · 157 109 false),(kI · 157 121 false),(kI · 157 133 false),(kI · 157 145 false),(kI · 157 157 true),λK=>decide (findIn K (.ref 37) "__getattribute__"=some (some (.builtin "BaseException.__getattribute__"))),λK=>decide (findIn K (.ref 37) "__getattr__"=some none),λK=>decide (findIn K (.ref 37) "__class__"=some (some (.builtin "object.__class__"))),λK=>decide (mroIn K 37 (.type "object")=some true),(sI · (.ref 37) (.type "BaseException") true),λK=>decide (kitCls K (.ref 37) (.ref 37)=some true),(lB · 37),λK=>decide (findIn K (.ref 49) "__getattribute__"=some (some (.builtin "BaseException.__getattribute__"))),λK=>decide (findIn K (.ref 49) "__getattr__"=some none),λK=>decide (findIn K (.ref 49) "__class__"=some (some (.builtin "object.__class__"))),λK=>decide (mroIn K 49 (.type "object")=some true),(sI · (.ref 49) (.type "BaseException") true),λK=>decide (kitCls K (.ref 49) (.ref 49)=some true),(lB · 49),λK=>decide (findIn K (.ref 61) "__getattribute__"=some (some (.builtin "BaseException.__getattribute__"))),λK=>decide (findIn K (.ref 61) "__getattr__"=some none),λK=>decide (findIn K (.ref 61) "__class__"=some (some (.builtin "object.__class__"))),λK=>decide (mroIn K 61 (.type "object")=some true),(sI · (.ref 61) (.type "BaseException") true),λK=>decide (kitCls K (.ref 61) (.ref 61)=some true),(lB · 61),λK=>decide (findIn K (.ref 73) "__getattribute__"=some (some (.builtin "BaseException.__getattribute__"))),λK=>decide (findIn K (.ref 73) "__getattr__"=some none),λK=>decide (findIn K (.ref 73) "__class__"=some (some (.builtin "object.__class__"))),λK=>decide (mroIn K 73 (.type "object")=some true),(sI · (.ref 73) (.type "BaseException") true),λK=>decide (kitCls K (.ref 73) (.ref 73)=some true),(lB · 73),λK=>decide (findIn K (.ref 85) "__getattribute__"=some (some (.builtin "BaseException.__getattribute__"))),λK=>decide (findIn K (.ref 85) "__getattr__"=some none),λK=>decide (findIn K (.ref 85) "__class__"=some (some (.builtin "object.__class__"))),λK=>decide (mroIn K 85 (.type "object")=some true),(sI · (.ref 85) (.type "BaseException") true),λK=>decide (kitCls K (.ref 85) (.ref 85)=some true),(lB · 85),λK=>decide (findIn K (.ref 97) "__getattribute__"=some (some (.builtin "BaseException.__getattribute__"))),λK=>decide (findIn K (.ref 97) "__getattr__"=some none),λK=>decide (findIn K (.ref 97) "__class__"=some (some (.builtin "object.__class__"))),λK=>decide (mroIn K 97 (.type "object")=some true),(sI · (.ref 97) (.type "BaseException") true),λK=>decide (kitCls K (.ref 97) (.ref 97)=some true),(lB · 97),λK=>decide (findIn K (.ref 145) "__getattribute__"=some (some (.builtin "BaseException.__getattribute__"))),λK=>decide (findIn K (.ref 145) "__getattr__"=some none),λK=>decide (findIn K (.ref 145) "__class__"=some (some (.builtin "object.__class__"))),λK=>decide (mroIn K 145 (.type "object")=some true),(sI · (.ref 145) (.type "BaseException") true),λK=>decide (kitCls K (.ref 145) (.ref 145)=some true),(lB · 145),λK=>decide (findIn K (.ref 157) "__getattribute__"=some (some (.builtin "BaseException.__getattribute__"))),λK=>decide (findIn K (.ref 157) "__getattr__"=some none),λK=>decide (findIn K (.ref 157) "__class__"=some (some (.builtin "object.__class__"))),λK=>decide (mroIn K 157 (.type "object")=some true),(sI · (.ref 157) (.type "BaseException") true),λK=>decide (kitCls K (.ref 157) (.ref 157)=some true),(lB · 157),λK=>decide (kitOne K (.ref 37) (.type "ValueError")=some true),λK=>decide (kitOne K (.ref 49) (.type "ValueError")=some true),λK=>decide (kitOne K (.ref 61) (.type "ValueError")=some true),λK=>decide (kitOne K (.ref 73) (.type "ValueError")=some true),λK=>decide (kitOne K (.ref 85) (.type "ValueError")=some true),λK=>decide (kitOne K (.ref 97) (.type "ValueError")=some true),λK=>decide (kitOne K (.ref 145) (.type "ValueError")=some true),λK=>decide (kitOne K (.ref 157) (.type "ValueError")=some true),(sI · (.ref 24) (.type "BaseException") true),(sI · (.type "type") (.type "tuple") false),λK=>decide (kitCls K (.ref 24) (.ref 24)=some true),λK=>decide (plainGet K 414 jo=true),λK=>decide (hasDictIn K 414=true),λK=>decide (plainOver K 414=true),λK=>decide (findIn K (.ref 414) "__setattr__"=some (some (.builtin "object.__setattr__"))),λK=>decide (makesIn K 414=true),λK=>decide (findIn K (.ref 414) "__init__"=some (some (.ref 392))),λK=>decide (isFn K (.ref 392)=true),λK=>decide (keepIn K (.ref 414)=true),λK=>decide (findIn K (.ref 414) "order"=some none),λK=>decide (findIn K (.ref 414) "earlier"=some none),λK=>decide (findIn K (.ref 414) "change_to"=some (some (.ref 404))),λK=>decide (isFn K (.ref 404)=true),λK=>decide (findIn K (.ref 414) "undo"=some (some (.ref 411))),λK=>decide (isFn K (.ref 411)=true),λK=>decide (findIn K (.ref 414) "say"=some (some (.ref 397))),λK=>decide (isFn K (.ref 397)=true),(zO · 364 [("order",339),("loose",344),("least",351),("best",356),("many",363)])]
def rV(K:Frag):List (Option ay):=[bM K 166,bM K 173,bM K 180,bM K 185,bM K 192,bM K 197,bM K 204,bM K 209,bM K 214,bM K 219,bM K 226,bM K 233,bM K 240,bM K 245,bM K 252,bM K 259,bM K 264,bM K 269,bM K 276,bM K 281,bM K 286,bM K 293,bM K 298,bM K 305,bM K 310,bM K 315,bM K 320,bM K 327,bM K 332,bM K 339,bM K 344,bM K 351,bM K 356,bM K 363,bM K 371,bM K 378,bM K 392,bM K 404,bM K 411,bM K 397,bM K 423,bM K 430,bM K 435]
def rW:List (Option ay):=[fE aa 14 165,fE aa 15 172,fE aa 16 179,fE aa 17 184,fE aa 20 191,fE aa 21 196,fE aa 22 203,fE aa 23 208,fE aa 24 213,fE aa 25 218,fE aa 26 225,fE aa 27 232,fE aa 28 239,fE aa 29 244,fE aa 30 251,fE aa 31 258,fE aa 32 263,fE aa 34 268,fE aa 35 275,fE aa 36 280,fE aa 37 285,fE aa 38 292,fE aa 39 297,fE aa 40 304,fE aa 42 309,fE aa 43 314,fE aa 44 319,fE aa 45 326,fE aa 48 331,fE aa 50 338,fE aa 51 343,fE aa 52 350,fE aa 53 355,fE aa 54 362,fE aa 56 370,fE aa 57 377,fM aa 58 0 "Desk.__init__" 391,fM aa 58 2 "Desk.change_to" 403,fM aa 58 3 "Desk.undo" 410,fM aa 58 1 "Desk.say" 396,fE aa 60 422,fE aa 61 429,fE aa 62 434]
def ob(K:Frag):Bool×List (Option ay):=(obF.all (λf=>f K),rV K)
abbrev obE:Bool×List (Option ay):=(true,rW)
theorem E6{α β γ:Type}{o:Option α}{f:α->β}{g:α->γ}{a:β}{b:γ}(h1:o.map f=some a)(h2:o.map g=some b):o.map (λs=>(f s,g s))=some (a,b):=by
 cases o with
 |none=>cases h1
 |some s=>cases h1;cases h2;rfl
theorem N6{α β γ:Type}{o:Option α}{f:α->β×γ}{a:β×γ}(h1:o.map (λs=>(f s).1)=some a.1)(h2:o.map (λs=>(f s).2)=some a.2):o.map f=some a:=by
 cases o with
 |none=>cases h1
 |some s=>exact congrArg some (Prod.ext (de h1) (de h2))
abbrev sn(s:ag):=openSeen vw ["QUESTIONS"] (importedModules (aa).main.body) Xw true s
theorem N7(w:bu):(openEnds treeTable aa (w.withFollow "special-get-raises" false) 8000).map (λs=>(sn s).1)=some (openGood vw ["QUESTIONS"]).1:=by unfold sn;rw[nA,Fast.te4187177175401517315];kernel_rfl
theorem N8(w:bu):(openEnds treeTable aa (w.withFollow "special-get-raises" true) 8000).map (λs=>(sn s).1)=some (openGood vw ["QUESTIONS"]).1:=by unfold sn;rw[nA,Fast.te4187177175401517315];kernel_rfl
theorem N9(w:bu)(b:Bool):(openEnds treeTable aa (w.withFollow "special-get-raises" b) 8000).map (λs=>(sn s).1)=some (openGood vw ["QUESTIONS"]).1:=by
 cases b
 ·exact N7 w
 ·exact N8 w
theorem OA(w:bu):(openEnds treeTable aa (w.withFollow "special-get-raises" false) 8000).map (λs=>(sn s).2)=some (openGood vw ["QUESTIONS"]).2:=by unfold sn;rw[nA,Fast.te4187177175401517315];kernel_rfl
theorem OB(w:bu):(openEnds treeTable aa (w.withFollow "special-get-raises" true) 8000).map (λs=>(sn s).2)=some (openGood vw ["QUESTIONS"]).2:=by unfold sn;rw[nA,Fast.te4187177175401517315];kernel_rfl
theorem OC(w:bu)(b:Bool):(openEnds treeTable aa (w.withFollow "special-get-raises" b) 8000).map (λs=>(sn s).2)=some (openGood vw ["QUESTIONS"]).2:=by
 cases b
 ·exact OA w
 ·exact OB w
theorem OD(w:bu)(b:Bool):(openEnds treeTable aa (w.withFollow "special-get-raises" b) 8000).map sn=some (openGood vw ["QUESTIONS"]):=N6 (N9 w b) (OC w b)
theorem OE(w:bu):(openEnds treeTable aa (w.withFollow "special-get-raises" false) 8000).map (λs=>obF.all (λf=>f (lX s.heap)))=some true:=by rw[nA];kernel_rfl
theorem OF(w:bu):(openEnds treeTable aa (w.withFollow "special-get-raises" true) 8000).map (λs=>obF.all (λf=>f (lX s.heap)))=some true:=by rw[nA];kernel_rfl
theorem OG(w:bu)(b:Bool):(openEnds treeTable aa (w.withFollow "special-get-raises" b) 8000).map (λs=>obF.all (λf=>f (lX s.heap)))=some true:=by
 cases b
 ·exact OE w
 ·exact OF w
theorem OH(w:bu):(openEnds treeTable aa (w.withFollow "special-get-raises" false) 8000).map (λs=>rV (lX s.heap))=some rW:=by rw[nA];kernel_rfl
theorem OI(w:bu):(openEnds treeTable aa (w.withFollow "special-get-raises" true) 8000).map (λs=>rV (lX s.heap))=some rW:=by rw[nA];kernel_rfl
theorem OJ(w:bu)(b:Bool):(openEnds treeTable aa (w.withFollow "special-get-raises" b) 8000).map (λs=>rV (lX s.heap))=some rW:=by
 cases b
 ·exact OH w
 ·exact OI w
theorem ws:OpenLaw.wellSaid mq=true:=by kernel_rfl
theorem left:LeftO aa vw ["QUESTIONS"] Xw (λs=>ob (lX s.heap)) (λ_=>obE) 8000:=λw=>by have h:=λb=>E6 (OD w b) (E6 (OG w b) (OJ w b));have h:=h (w.params.followText "special-get-raises");rwa [World.withFollow_self]at h
end L2.Mr.K93
abbrev Ey:PySem.Str:="__debug__"
namespace L2
abbrev dD:=Sum Int Str
noncomputable def uY:dD->af->Bool
 |.inl k,v=>Value.isInt k v
 |.inr x,v=>Value.isStrOf x v
noncomputable def OK(w:bu):dD->Int
 |.inl k=>hashInt k
 |.inr x=>hashStr w x
theorem lY:∀{k:dD}{v:af},uY k v=true->(∃i t,k=jg i/\v=Value.int i t)∨(∃x t,k=uz x/\v=Value.str x t)
 |.inl i,v,h=>by obtain⟨t,e⟩:=ql (k:=i) (v:=v) h;exact .inl ⟨i,t,rfl,e⟩
 |.inr x,v,h=>by obtain⟨t,e⟩:=Value.isStrOf_shape (x:=x) (v:=v) h;exact .inr ⟨x,t,rfl,e⟩
theorem OL(i:Int)(t:Tok):uY (.inl i) (.int i t)=true:=by simp[uY,Value.isInt]
theorem OM(a b:Int):decide ((jg a:dD)=jg b)=(a==b):=by
 by_cases e:a=b
 ·subst e;simp
 ·have h:¬(jg a:dD)=jg b:=λq=>e (Sum.inl.inj q);rw[decide_eq_false h];exact(beq_eq_false_iff_ne.mpr e).symm
theorem ON(a b:Str):decide ((uz a:dD)=uz b)=decide (a=b):=by
 by_cases e:a=b
 ·subst e;simp
 ·have h:¬(uz a:dD)=uz b:=λq=>e (Sum.inr.inj q);rw[decide_eq_false h,decide_eq_false e]
theorem OO(a:Int)(b:Str):decide ((jg a:dD)=uz b)=false:=decide_eq_false (λq=>nomatch q)
theorem OP(a:Str)(b:Int):decide ((uz a:dD)=jg b)=false:=decide_eq_false (λq=>nomatch q)
def lC(prog:bg)(w:bu):PySem.KeyKind prog w dD where
 is:=uY
 hash:=OK w
 inj:=λv a b ha hb=>by
  rcases lY ha with⟨i,t,rfl,rfl⟩|⟨x,t,rfl,rfl⟩
  ·rcases lY hb with⟨j,u,rfl,e⟩|⟨y,u,rfl,e⟩
   ·injection e with e1 _;rw[e1]
   ·exact nomatch e
  ·rcases lY hb with⟨j,u,rfl,e⟩|⟨y,u,rfl,e⟩
   ·exact nomatch e
   ·injection e with e1 _;rw[e1]
 byValue:=λk v h=>by rcases lY h with⟨i,t,rfl,rfl⟩|⟨x,t,rfl,rfl⟩<;>rfl
 pyHash:=λhv h=>by
  rcases lY hv with⟨i,t,rfl,rfl⟩|⟨x,t,rfl,rfl⟩
  ·exact wpAny_pyHash_int h
  ·exact wpAny_pyHash_str h
 eqBool:=λhu hv h=>by
  rcases lY hu with⟨i,t,rfl,rfl⟩|⟨x,t,rfl,rfl⟩
  ·rcases lY hv with⟨j,u,rfl,rfl⟩|⟨y,u,rfl,rfl⟩
   ·rw[OM]at h;exact wz h
   ·rw[OO]at h;exact SeqAt.EqAt.int_str i t y u _ _ _ _ h
  ·rcases lY hv with⟨j,u,rfl,rfl⟩|⟨y,u,rfl,rfl⟩
   ·rw[OP]at h;exact SeqAt.EqAt.str_int x t j u _ _ _ _ h
   ·rw[ON]at h;exact wpAny_eqBool_str h
 «strs»:=λk x t v h=>by
  rcases lY h with⟨i,u,rfl,e⟩|⟨y,u,rfl,e⟩
  ·exact nomatch e
  ·injection e with e1 _;subst e1
   cases v<;>rfl
theorem OQ(prog:bg)(w:bu)(i:Int)(t:Tok):(lC prog w).is (.inl i) (.int i t)=true:=OL i t
inductive V where
 |non|bl (b:Bool)|int (i:Int)|str (x:Str)|byt (b:Array UInt8)|flt (b:UInt64)|ref (a:ah)|ty (n:String)
 deriving DecidableEq
noncomputable def RelV:V->af->Prop
 |.non,u=>u=jm
 |.bl b,u=>u=ue b
 |.int i,u=>∃t,u=Value.int i t
 |.str x,u=>∃t,u=Value.str x t
 |.byt b,u=>∃t,u=Value.bytes b t
 |.flt b,u=>∃t,u=Value.float b t
 |.ref a,u=>u=gw a
 |.ty n,u=>u=rz n
abbrev Ae:List V->List af->Prop:=Paired RelV
theorem Ae.length{xs:List V}{us:List af}(r:Ae xs us):xs.length=us.length:=Paired.length r
theorem Ae.get:∀{xs:List V}{us:List af}{i:Nat}{x:V},Ae xs us->xs[i]?=some x->∃u,us[i]?=some u/\RelV x u
 |_,_,_,_,.nil,e=>by simp at e
 |_,_,0,_,.cons r _,e=>by simp at e;subst e;exact⟨_,rfl,r⟩
 |_,_,i+1,x,.cons _ t,e=>by obtain⟨u,h1,h2⟩:=Ae.get (i:=i) (x:=x) t (by simpa using e);exact⟨u,by simpa using h1,h2⟩
theorem Ae.append:∀{xs ys:List V}{us ws:List af},Ae xs us->Ae ys ws->Ae (xs++ys) (us++ws)
 |_,_,_,_,.nil,s=>s
 |_,_,_,_,.cons r t,s=>.cons r (Ae.append t s)
theorem Ae.take:∀{xs:List V}{us:List af}(n:Nat),Ae xs us->Ae (xs.take n) (us.take n)
 |_,_,0,_=>.nil
 |_,_,_+1,.nil=>.nil
 |_,_,n+1,.cons r t=>.cons r (Ae.take n t)
theorem Ae.drop:∀{xs:List V}{us:List af}(n:Nat),Ae xs us->Ae (xs.drop n) (us.drop n)
 |_,_,0,r=>r
 |_,_,_+1,.nil=>.nil
 |_,_,n+1,.cons _ t=>Ae.drop n t
def Cn:Option V->Option af->Prop
 |some v,some u=>RelV v u
 |none,none=>True
 |_,_=>False
def KV{κ:Type}:List (κ×V)->List (κ×af)->Prop:=Paired λ(p:κ×V)(q:κ×af)=>p.1=q.1/\RelV p.2 q.2
noncomputable def kV:dD->V
 |.inl i=>.int i
 |.inr x=>.str x
inductive HO where
 |lst (xs:List V)
 |tup (xs:List V)
 |dK (kvs:List (dD×V))|dT (kvs:List (List dD×V))
 |set (S:Int->Bool) (n:Nat)
 |ins (C dx:ah) (fs:List (Str×V))
 |own (x:ah)
 |xd (fs:List (Str×V))
 |met (f x:ah)
 |rng (lo hi:Int)
 |frz (o:Obj) (u:HO)
 |tbl (ps:Array af)
 |ext (φ:bx->Prop)
abbrev Hp:=ah->Option HO
noncomputable def aF(H:Hp)(a:ah)(o:HO):Hp:=λb=>if b=a then some o else H b
theorem bP{H:Hp}{a:ah}{o:HO}:aF H a o a=some o:=by unfold aF;rw[if_pos rfl]
theorem aM{H:Hp}{a b:ah}{o:HO}(h:b≠a):aF H a o b=H b:=by unfold aF;rw[if_neg h]
theorem eG{H:Hp}{a b:ah}{o u:HO}(h:H a=some o)(h':H b=some u)(d:o≠u):a≠b:=by intro e;subst e;rw[h]at h';exact d (de h')
theorem bY{H:Hp}{a b:ah}{o:HO}(h:H a=some o)(h':H b=none):a≠b:=by intro e;subst e;rw[h]at h';cases h'
noncomputable def Ba(h:bx)(a:ah)(items:Array af):Prop:=∃o,h.get? a=some o/\o.cls=.type "tuple"/\o.dict=none/\∃n,o.data=.seq items n
theorem Ba.tup{h:bx}{a:ah}{items:Array af}(x:Ba h a items):yp h a items:=let ⟨o,e,c,_,d⟩:=x;⟨o,e,c,d⟩
theorem Ba.lt{h:bx}{a:ah}{items:Array af}(x:Ba h a items):a<h.objs.size:=let ⟨_,e,_⟩:=x;au e
theorem Ba.new(h:bx)(items:Array af):Ba (h.push {cls:=.type "tuple",data:=.seq items}) h.objs.size items:=⟨_,ax _ rfl,rfl,rfl,_,rfl⟩
section
variable(P:bg) (w:bu)
def Ag(H:Hp)(h:bx)(a:ah):HO->Prop
 |.lst xs=>xs.length<=bj/\∃(its:List af)(n:Nat),Ae xs its/\h.get? a=some {cls:=.type "list",data:=.seq its.toArray n}
 |.tup xs=>xs.length<=bj/\∃its:List af,Ae xs its/\Ba h a its.toArray
 |.dK kvs=>kvs.length<=bj/\(a==sysModules)=false/\∃vs,KV kvs vs/\h.DictOf (lC P w) a vs
 |.dT kvs=>kvs.length<=bj/\(a==sysModules)=false/\∃xs:List (List dD×ah×af),
   Paired (λ(p:List dD×V)(q:List dD×ah×af)=>p.1=q.1/\H q.2.1=some (.tup (p.1.map kV))/\RelV p.2 q.2.2) kvs xs/\
   ∃o es ep,h.get? a=some o/\o.ExactDict/\o.data=.dict es ep/\es.toList=xs.map (entryOfKey (tupleKind (lC P w)))/\(xs.map (·.1)).Nodup
 |.set S n=>h.SetOf (intKind P w) a S n
 |.ins C dx fs=>H dx=some (.own a)/\fs.length<=1000/\dx≠a/\h.get? a=some (jw C dx)/\
   ∃mA,h.Ns1 dx mA/\(∀f,Cn (fs.lookup f) (mA f))/\ya mA (fs.map (·.1))
 |.own _=>∃o,h.get? a=some o
 |.xd fs=>∃mA,h.Ns1 a mA/\∀f,Cn (fs.lookup f) (mA f)
 |.rng lo hi=>∃t u v,h.get? a=some {cls:=.type "range",data:=.fields #[.int lo t,.int hi u,.int 1 v]}
 |.frz o u=>h.get? a=some o/\Ag H h a u
 |.tbl ps=>h.get? a=some {cls:=.none,data:=.fields ps}
 |.met f x=>h.get? a=some (uf (.ref f) (.ref x))
 |.ext φ=>φ h/\(∃o,h.get? a=some o)/\∀h1 h2:bx,φ h1->(∀o,h1.get? a=some o->h2.get? a=some o)->φ h2
def Az(H:Hp)(h:bx):Prop:=∀a o,H a=some o->Ag P w H h a o
end
section
variable{P:bg}{w:bu}{H H':Hp}{h h':bx}{a:ah}{o:HO}
theorem Ag.lt(x:Ag P w H h a o):a<h.objs.size:=by
 cases o with
 |lst xs=>obtain⟨_,_,_,_,e⟩:=x;exact au e
 |tup xs=>obtain⟨_,_,_,p⟩:=x;exact p.lt
 |dK kvs=>obtain⟨_,_,_,_,o,_,_,e,_⟩:=x;exact au e
 |dT kvs=>obtain⟨_,_,_,_,o,_,_,e,_⟩:=x;exact au e
 |set S n=>obtain⟨o,_,_,_,e,_⟩:=x;exact au e
 |ins C dx fs=>obtain⟨_,_,_,e,_⟩:=x;exact au e
 |own y=>obtain⟨_,e⟩:=x;exact au e
 |xd fs=>obtain⟨_,⟨_,_,_,e,_⟩,_⟩:=x;exact au e
 |rng lo hi=>obtain⟨_,_,_,e⟩:=x;exact au e
 |frz ob u=>obtain⟨e,_⟩:=x;exact au e
 |tbl ps=>exact au (show h.get? a=some _ from x)
 |met f y=>exact au (show h.get? a=some _ from x)
 |ext φ=>obtain⟨_,⟨_,e⟩,_⟩:=x;exact au e
theorem Paired.mapP{α β:Type}{F G:α->β->Prop}:∀{l₁:List α}{l₂:List β},Paired F l₁ l₂->(∀a b,F a b->G a b)->Paired G l₁ l₂
 |_,_,.nil,_=>.nil
 |_,_,.cons r t,f=>.cons (f _ _ r) (Paired.mapP t f)
theorem Ag.stay(x:Ag P w H h a o)(k:∀b u,(b=a∨H b=some (.own a))->h.get? b=some u->h'.get? b=some u)(ho:∀b,H b=some (.own a)->H' b=some (.own a))(ht:∀b xs,H b=some (.tup xs)->H' b=some (.tup xs)):Ag P w H' h' a o:=by
 induction o with
 |lst xs=>obtain⟨z,its,n,r,e⟩:=x;exact⟨z,its,n,r,k _ _ (.inl rfl) e⟩
 |tup xs=>obtain⟨z,its,r,ob,e,c⟩:=x;exact⟨z,its,r,ob,k _ _ (.inl rfl) e,c⟩
 |dK kvs=>obtain⟨z,y,vs,r,ob,es,ep,e,c⟩:=x;exact⟨z,y,vs,r,ob,es,ep,k _ _ (.inl rfl) e,c⟩
 |dT kvs=>obtain⟨z,y,xs,r,ob,es,ep,e,c⟩:=x;exact⟨z,y,xs,Paired.mapP r λp q z=>⟨z.1,ht _ _ z.2.1,z.2.2⟩,ob,es,ep,k _ _ (.inl rfl) e,c⟩
 |set S n=>obtain⟨ob,es,ep,t,e,c⟩:=x;exact⟨ob,es,ep,t,k _ _ (.inl rfl) e,c⟩
 |ins C dx fs=>obtain⟨d,z,ne,e,mA,⟨od,es,ep,e2,c⟩,r⟩:=x;exact⟨ho _ d,z,ne,k _ _ (.inl rfl) e,mA,⟨od,es,ep,k _ _ (.inr d) e2,c⟩,r⟩
 |own y=>obtain⟨ob,e⟩:=x;exact⟨ob,k _ _ (.inl rfl) e⟩
 |xd fs=>obtain⟨mA,⟨od,es,ep,e,c⟩,r⟩:=x;exact⟨mA,⟨od,es,ep,k _ _ (.inl rfl) e,c⟩,r⟩
 |rng lo hi=>obtain⟨t,u,v,e⟩:=x;exact⟨t,u,v,k _ _ (.inl rfl) e⟩
 |frz ob u ih=>obtain⟨e,q⟩:=x;exact⟨k _ _ (.inl rfl) e,ih q⟩
 |tbl ps=>have e:h.get? a=some {cls:=.none,data:=.fields ps}:=x;show h'.get? a=some {cls:=.none,data:=.fields ps};exact k a _ (.inl rfl) e
 |met f y=>have e:h.get? a=some (uf (.ref f) (.ref y)):=x;show h'.get? a=some (uf (.ref f) (.ref y));exact k a _ (.inl rfl) e
 |ext φ=>obtain⟨p,⟨o,e⟩,st⟩:=x;exact⟨st _ _ p λo q=>k _ _ (.inl rfl) q,⟨o,k _ _ (.inl rfl) e⟩,st⟩
theorem Az.lt(x:Az P w H h)(e:H a=some o):a<h.objs.size:=(x a o e).lt
theorem Az.fresh(x:Az P w H h)(e:h.objs.size<=a):H a=none:=by
 cases q:H a with
 |none=>rfl
 |some u=>exact absurd (ar (x.lt q) e) (fe _)
theorem Az.kept(x:Az P w H h)(k:∀b u,h.get? b=some u->h'.get? b=some u):Az P w H h':=λa o e=>(x a o e).stay (λb u _ q=>k b u q) (λ_ q=>q) λ_ _ q=>q
theorem Az.laid(x:Az P w H h)(k:∀b u,h.get? b=some u->h'.get? b=some u)(hp:h.objs.size<=a)(new:Ag P w (aF H a o) h' a o):Az P w (aF H a o) h':=λb u e=>by
 have hn:=x.fresh hp
 by_cases hb:b=a
 ·subst hb;rw[bP]at e;cases e;exact new
 ·rw[aM hb]at e;exact(x b u e).stay (λc v _ q=>k c v q) (λc q=>by rw[aM (bY q hn)];exact q) λc xs q=>by rw[aM (bY q hn)];exact q
end
noncomputable def Rd(H:Hp)(a:ah)(u:HO):Prop:=H a=some u∨∃o,H a=some (.frz o u)
theorem Rd.ok{P:bg}{w:bu}{H:Hp}{h:bx}{a:ah}{u:HO}(r:Rd H a u)(x:Az P w H h):Ag P w H h a u:=by
 rcases r with r|⟨o,r⟩
 ·exact x a u r
 ·obtain⟨_,q⟩:=x a _ r;exact q
noncomputable def uZ:Option HO->Prop
 |some (.lst _)=>True
 |some (.dK _)=>True
 |some (.dT _)=>True
 |some (.set _ _)=>True
 |some (.ins _ _ _)=>True
 |some (.ext _)=>True
 |_=>False
section
variable{P:bg}{w:bu}{H:Hp}{h h':bx}{x e:ah}{o':HO}
theorem Az.write(ok:Az P w H h)(mu:uZ (H x))(he:e=x∨H e=some (.own x))(k:∀b u,b≠e->h.get? b=some u->h'.get? b=some u)(heo:∃u,h'.get? e=some u)(new:Ag P w (aF H x o') h' x o'):Az P w (aF H x o') h':=λb u q=>by
 have nown:∀c y,H c=some (.own y)->c≠x:=λc y r z=>by subst z;rw[r]at mu;exact mu
 have ntup:∀c xs,H c=some (.tup xs)->c≠x:=λc xs r z=>by subst z;rw[r]at mu;exact mu
 by_cases hb:b=x
 ·subst hb;rw[bP]at q;cases q;exact new
 ·rw[aM hb]at q
  by_cases Di:b=e
  ·have q':H b=some (.own x):=by
    rcases he with z|z
    ·exact absurd (Di.trans z) hb
    ·rw[Di];exact z
   rw[q]at q';cases q';obtain⟨v,hv⟩:=heo;exact⟨v,by rw[Di];exact hv⟩
  ·refine(ok b u q).stay (λc v hc r=>k c v ?_ r) (λc r=>by rw[aM (nown c b r)];exact r) λc xs r=>by rw[aM (ntup c xs r)];exact r
   rcases hc with rfl|hc
   ·exact Di
   ·rintro rfl
    rcases he with z|z
    ·exact nown c b hc z
    ·rw[hc]at z;cases z;exact hb rfl
end
structure Un(fs ex:List ah)(H H':Hp)(h h':bx):Prop where
 keep:∀b o,h.get? b=some o->H b=none->b∉fs->b∉ex->h'.get? b=some o
 slot:∀b o,h.get? b=some o->H b=none->b∈fs->b∉ex->∃sl,h'.get? b=some {o with slots:=sl}
 free:∀b o,h.get? b=some o->H b=none->b∉ex->H' b=none
 there:∀b o,h.get? b=some o->b∉ex->∃o',h'.get? b=some o'
 tups:∀b xs,H b=some (.tup xs)->H' b=some (.tup xs)
 frzs:∀b o u,H b=some (.frz o u)->H' b=some (.frz o u)
 tbls:∀b ps,H b=some (.tbl ps)->∃more,H' b=some (.tbl (ps++more))
section
variable{fs fs' ex ex':List ah}{H H1 H2:Hp}{h h1 h2 h':bx}{a x e:ah}{o:HO}
theorem Un.any(u:Un fs ex H H1 h h1){b:ah}{ob:Obj}(q:h.get? b=some ob)(n:H b=none)(hx:b∉ex):∃sl,h1.get? b=some {ob with slots:=sl}:=by
 by_cases hb:b∈fs
 ·exact u.slot b ob q n hb hx
 ·exact⟨ob.slots,u.keep b ob q n hb hx⟩
theorem Un.kept(k:∀b u,h.get? b=some u->h'.get? b=some u):Un fs ex H H h h':=⟨λb ob q _ _ _=>k b ob q,λb ob q _ _ _=>⟨ob.slots,k b ob q⟩,λ_ _ _ n _=>n,λb ob q _=>⟨ob,k b ob q⟩,λ_ _ q=>q,λ_ _ _ q=>q,λ_ ps q=>⟨#[],by rw[q];simp⟩⟩
theorem Un.refl:Un fs ex H H h h:=Un.kept λ_ _ q=>q
theorem Un.laid(k:∀b u,h.get? b=some u->h'.get? b=some u)(hp:h.objs.size<=a)(hn:H a=none):Un fs ex H (aF H a o) h h' where
 keep:=λb u q _ _ _=>k b u q
 slot:=λb u q _ _ _=>⟨u.slots,k b u q⟩
 free:=λb u q n _=>by rw[aM (aw (ar (au q) hp))];exact n
 there:=λb u q _=>⟨u,k b u q⟩
 tups:=λb xs q=>by rw[aM (bY q hn)];exact q
 frzs:=λb u xs q=>by rw[aM (bY q hn)];exact q
 tbls:=λb ps q=>⟨#[],by rw[aM (bY q hn),q];simp⟩
theorem Un.write(mu:uZ (H x))(he:e=x∨H e=some (.own x))(k:∀b u,b≠e->h.get? b=some u->h'.get? b=some u)(heo:∃u,h'.get? e=some u):Un fs ex H (aF H x o) h h':=by
 have hx:∀b,H b=none->b≠x:=λb n z=>by subst z;rw[n]at mu;exact mu
 have hb:∀b,H b=none->b≠e:=λb n z=>by
  subst z
  rcases he with r|r
  ·exact hx b n r
  ·rw[n]at r;cases r
 have hm:∀b u,H b=some u->¬uZ (some u)->b≠x:=λb u q nm z=>by subst z;rw[q]at mu;exact nm mu
 refine⟨λb u q n _ _=>k b u (hb b n) q,λb u q n _ _=>⟨u.slots,k b u (hb b n) q⟩,λb u q n _=>by rw[aM (hx b n)];exact n,λb u q _=>?_,
  λb xs q=>by rw[aM (hm b _ q λz=>z)];exact q,λb u xs q=>by rw[aM (hm b _ q λz=>z)];exact q,λb ps q=>⟨#[],by rw[aM (hm b _ q λz=>z),q];simp⟩⟩
 by_cases Di:b=e
 ·subst Di;exact heo
 ·exact⟨u,k b u Di q⟩
end
noncomputable def vA(h:bx)(H:Hp):List ah:=(cf h.objs.size).filter λa=>(H a).isSome
def kC(h:bx)(H:Hp):bx:=PySem.W.hideAll h (vA h H)
theorem OR(h:bx)(H:Hp):(kC h H).objs.size=h.objs.size:=yb _ _
theorem OS{h:bx}{H:Hp}{b:ah}{o:Obj}(e:h.get? b=some o)(n:H b=none):(kC h H).get? b=some o:=yi _ e λhm=>by have q:(H b).isSome=true:=(gm.mp hm).2;rw[n]at q;simp at q
theorem OT{h:bx}{H:Hp}{b:ah}{o:Obj}(e:(kC h H).get? b=some o):h.get? b=some o/\H b=none:=by
 have e':h.get? b=some o:=yq (vA h H) e;refine⟨e',?_⟩
 cases q:H b with
 |none=>rfl
 |some x=>have hm:b∈vA h H:=gm.mpr ⟨du.mpr (au e'),by simp[q]⟩;have z:(kC h H).get? b=none:=yc (vA h H) hm;rw[z]at e;cases e
structure Mod(K:ak)(mg:Str->Option af)(base:bx):Prop where
 kin:K.In base
 glob:base.Ns bz mg
 blt:∃mb,base.Ns builtinsNs mb/\∀x:Str,x≠"__name__"->mb x=cx x
 nolimit:base.NoLimit
structure Cx where
 prog:bg
 w:bu
 K:ak
 mg:Str->Option af
 base:bx
 A:bq
 N:zu
 s₀:ag
 H₀:Hp
 env:Env
 outer:List Env
 stack:List Env
 ex:List ah
 fn:Str->Bool
 calm:Bool
 pn:List (ah×Obj)
 xe:af->ag->Prop
noncomputable def cN(l:List Env):List ah:=l.filterMap (·.frame)
abbrev Cx.fs(X:Cx):List ah:=cN X.outer
noncomputable def oR(sc:dj)(x:Str):Prop:=sc.names.lookup x=some .local∨sc.names.lookup x=some .cell∨sc.names.lookup x=some .free
noncomputable def kD(sc:dj)(x:Str):Prop:=sc.names.lookup x=some .local∨sc.names.lookup x=some .cell
noncomputable def E7(env:Env)(h:bx)(m:Str->Option af)(x:Str)(u:af):Prop:=(env.kindOf x=some .local/\m x=some u)∨((env.kindOf x=some .cell∨env.kindOf x=some .free)/\∃c,env.cells.lookup x=some c/\h.IsCell c (some u))
structure Cx.Ok(X:Cx):Prop where
 mod:Mod X.K X.mg X.base
 kind:X.env.scope.kind=.function
 glob:X.env.globals=bz
 blt:X.env.builtins=builtinsNs
 above:X.s₀.heap.objs.size<=X.env.locals
 inj:∀x y c,X.env.cells.lookup x=some c->X.env.cells.lookup y=some c->x=y
 has:∀x,(X.env.kindOf x=some .cell∨X.env.kindOf x=some .free)->∃c,X.env.cells.lookup x=some c
 cab:∀x c,X.fn x=true->X.env.cells.lookup x=some c->X.s₀.heap.objs.size<=c
 hd:X.calm=true->X.A.handled=none
 frames:X.A.frames=some X.stack
 stk:X.stack=X.outer∨(X.stack=X.env::X.outer/\X.env.frame=some X.env.locals)
 exf:∀b∈X.ex,b≠X.env.locals/\∀x c,X.env.cells.lookup x=some c->c≠b
 bs:∀b o,X.base.get? b=some o->X.s₀.heap.get? b=some o/\X.H₀ b=none
 bsz:X.base.objs.size<=X.s₀.heap.objs.size
 noex:∀b o,X.base.get? b=some o->b∉X.ex
 exfs:∀b∈X.ex,b∉X.fs
 funs:X.s₀.heap.FunFrames X.base X.outer
 frf:∀b∈X.fs,X.H₀ b=none
structure Inv(X:Cx)(pins:List (ah×Obj))(σ:List (Option V))(H:Hp)(s:ag):Prop where
 ok:X.Ok
 os:s.os=X.s₀.os
 bare:sh s.gens
 base:Un X.fs X.ex X.H₀ H X.s₀.heap s.heap
 loc:∃m,s.heap.Ns X.env.locals m/\∀(i:Nat)(x:Str)(v:V),X.N[i]?=some x->σ[i]?=some (some v)->oR X.env.scope x->∃u,RelV v u/\E7 X.env s.heap m x u
 cell:∀x c,X.env.cells.lookup x=some c->∃v,s.heap.IsCell c v
 free:H X.env.locals=none
 freeC:∀x c,X.env.cells.lookup x=some c->H c=none
 pin:∀p∈X.pn++pins,s.heap.get? p.1=some p.2/\H p.1=none/\p.1≠X.env.locals/\p.1∉X.fs/\∀v,p.2.data≠.cell v
 hok:Az X.prog X.w H s.heap
 len:σ.length=X.N.length
section
variable{X:Cx}{pins:List (ah×Obj)}{σ:List (Option V)}{H H':Hp}{s:ag}{h':bx}
theorem Cx.Ok.nofr(ok:X.Ok){b:ah}{o:Obj}(e:X.base.get? b=some o):b∉X.fs:=λhb=>by have:=(ok.funs.mem hb).1;rw[e]at this;cases this
theorem Inv.bs(I:Inv X pins σ H s):∀b o,X.base.get? b=some o->s.heap.get? b=some o/\H b=none:=λb o e=>⟨I.base.keep b o (I.ok.bs b o e).1 (I.ok.bs b o e).2 (I.ok.nofr e) (I.ok.noex b o e),I.base.free b o (I.ok.bs b o e).1 (I.ok.bs b o e).2 (I.ok.noex b o e)⟩
theorem Inv.bk(I:Inv X pins σ H s):∀b o,X.base.get? b=some o->s.heap.get? b=some o:=λb o e=>(I.bs b o e).1
theorem Inv.mod(I:Inv X pins σ H s):Mod X.K X.mg X.base:=I.ok.mod
theorem Inv.kIn(I:Inv X pins σ H s):X.K.In s.heap:=I.ok.mod.kin.keeps I.bk
theorem Inv.lt(I:Inv X pins σ H s):X.env.locals<s.heap.objs.size:=let ⟨_,hn,_⟩:=I.loc;hn.lt
theorem Inv.sz(I:Inv X pins σ H s):X.s₀.heap.objs.size<=s.heap.objs.size:=cm I.ok.above (ij I.lt)
theorem Inv.nofs(I:Inv X pins σ H s){a:ah}(h:s.heap.objs.size<=a):a∉X.fs:=λhb=>by obtain⟨_,o,ho,_⟩:=I.ok.funs.mem hb;exact absurd (ar (au ho) (cm I.sz h)) (fe _)
theorem Inv.cne(I:Inv X pins σ H s):∀x c,X.env.cells.lookup x=some c->c≠X.env.locals:=λx c e z=>by obtain⟨v,o,ho,hd⟩:=I.cell x c e;obtain⟨m,⟨o',es,ep,Cr,hd',_⟩,_⟩:=I.loc;rw[z,Cr]at ho;cases ho;rw[hd']at hd;cases hd
theorem Inv.funs(I:Inv X pins σ H s):s.heap.FunFrames X.base X.outer:=by
 have all:∀(l:List Env),(∀b∈cN l,b∈X.fs)->X.s₀.heap.FunFrames X.base l->s.heap.FunFrames X.base l:=by
  intro l
  induction l with
  |nil=>intro _ _;trivial
  |cons env r ih=>intro hs hl;obtain⟨hk,⟨L,o,hf,hn,ho,hd⟩,hr⟩:=hl;have hL:L∈X.fs:=hs L (by unfold cN;rw[iz,hf];exact bo);obtain⟨sl,e⟩:=I.base.slot L o ho (I.ok.frf L hL) hL λz=>I.ok.exfs L z hL;exact⟨hk,⟨L,_,hf,hn,e,hd⟩,ih (λb hb=>hs b (by unfold cN;rw[iz,hf];exact az _ hb)) hr⟩
 exact all X.outer (λ_ hb=>hb) I.ok.funs
theorem Inv.stack(I:Inv X pins σ H s):s.heap.FunFrames X.base X.stack:=by
 rcases I.ok.stk with e|⟨e,hf⟩
 ·rw[e];exact I.funs
 ·rw[e];obtain⟨m,hn,_⟩:=I.loc;refine .cons (by rw[I.ok.kind];decide) hf hn ?_ I.funs;exact Heap.get?_none_of_le (cm I.ok.bsz I.ok.above)
theorem Inv.stkSub(I:Inv X pins σ H s):∀b∈cN X.stack,b∈X.env.locals::X.fs:=λb hb=>by
 rcases I.ok.stk with e|⟨e,hf⟩
 ·rw[e]at hb;exact az _ hb
 ·rw[e]at hb;unfold cN at hb;rw[iz,hf]at hb;exact hb
theorem Inv.stkFree(I:Inv X pins σ H s):∀b∈cN X.stack,H b=none:=λb hb=>by
 rcases bh.mp (I.stkSub b hb)with e|hb
 ·rw[e];exact I.free
 ·obtain⟨_,o,ho,_⟩:=I.ok.funs.mem hb;exact I.base.free b o ho (I.ok.frf b hb) λz=>I.ok.exfs b z hb
theorem Inv.step{g':Array GenState}{t':Nat}{d':Drawn}{ch:List ah}(I:Inv X pins σ H s)(Cy:∀b∈ch,(b∈X.ex∨X.s₀.heap.objs.size<=b)/\b≠X.env.locals/\(∀x c,X.env.cells.lookup x=some c->c≠b)/\∀p∈X.pn++pins,p.1≠b)(keep:∀b o,b≠X.env.locals->b∉X.fs->b∉ch->s.heap.get? b=some o->H b=none->h'.get? b=some o)(slot:∀b o,b≠X.env.locals->b∈X.fs->b∉ch->s.heap.get? b=some o->H b=none->∃sl,h'.get? b=some {o with slots:=sl})(free:∀b o,b∉ch->s.heap.get? b=some o->H b=none->H' b=none)(there:∀b o,b∉ch->s.heap.get? b=some o->∃o',h'.get? b=some o')(tups:∀b xs,H b=some (.tup xs)->H' b=some (.tup xs))(frzs:∀b o u,H b=some (.frz o u)->H' b=some (.frz o u))(tbls:∀b ps,H b=some (.tbl ps)->∃more,H' b=some (.tbl (ps++more)))(ns:∀m,s.heap.Ns X.env.locals m->h'.Ns X.env.locals m)(hok:Az X.prog X.w H' h')(hg:sh g'):
  Inv X pins σ H' {s with heap:=h',gens:=g',drawn:=d',toks:=t'}:=by
 have neL:∀b o,X.s₀.heap.get? b=some o->b≠X.env.locals:=λb o e=>aw (ar (au e) I.ok.above);have neC:∀b o,X.s₀.heap.get? b=some o->b∉X.ex->b∉ch:=λb o e hx hb=>by
  rcases(Cy b hb).1 with z|z
  ·exact hx z
  ·exact absurd (ar (au e) z) (fe _)
 have cellK:∀x c,X.env.cells.lookup x=some c->∀v,s.heap.IsCell c v->h'.IsCell c v:=λx c e v⟨o,ho,hd⟩=>by
  have nch:c∉ch:=λz=>(Cy c z).2.2.1 x c e rfl
  by_cases hc:c∈X.fs
  ·obtain⟨sl,q⟩:=slot c o (I.cne x c e) hc nch ho (I.freeC x c e);exact⟨_,q,hd⟩
  ·exact⟨o,keep c o (I.cne x c e) hc nch ho (I.freeC x c e),hd⟩
 refine⟨I.ok,I.os,hg,⟨λb o e n hb hx=>?_,λb o e n hb hx=>?_,λb o e n hx=>?_,λb o e hx=>?_,λb xs e=>tups b xs (I.base.tups b xs e),λb o xs e=>frzs b o xs (I.base.frzs b o xs e),λb ps e=>?_⟩,?_,λx c e=>?_,?_,λx c e=>?_,λp hp=>?_,hok,I.len⟩
 ·exact keep b o (neL b o e) hb (neC b o e hx) (I.base.keep b o e n hb hx) (I.base.free b o e n hx)
 ·obtain⟨sl,e1⟩:=I.base.slot b o e n hb hx;obtain⟨sl',e2⟩:=slot b _ (neL b o e) hb (neC b o e hx) e1 (I.base.free b o e n hx);exact⟨sl',e2⟩
 ·obtain⟨o',e1⟩:=I.base.there b o e hx;exact free b o' (neC b o e hx) e1 (I.base.free b o e n hx)
 ·obtain⟨o',e1⟩:=I.base.there b o e hx;exact there b o' (neC b o e hx) e1
 ·obtain⟨m1,e1⟩:=I.base.tbls b ps e;obtain⟨m2,e2⟩:=tbls b _ e1;exact⟨m1++m2,by rw[e2,Array.append_assoc]⟩
 ·obtain⟨m,hn,hl⟩:=I.loc;refine⟨m,ns m hn,λi x v e1 e2 e3=>?_⟩;obtain⟨u,r,l⟩:=hl i x v e1 e2 e3;refine⟨u,r,?_⟩
  rcases l with l|⟨k,c,e,z⟩
  ·exact .inl l
  ·exact .inr ⟨k,c,e,cellK x c e _ z⟩
 ·obtain⟨v,z⟩:=I.cell x c e;exact⟨v,cellK x c e v z⟩
 ·obtain⟨m,⟨o,_,_,ho,_⟩,_⟩:=I.loc;exact free _ o (λz=>(Cy _ z).2.1 rfl) ho I.free
 ·obtain⟨v,o,ho,hd⟩:=I.cell x c e;exact free c o (λz=>(Cy c z).2.2.1 x c e rfl) ho (I.freeC x c e)
 ·obtain⟨e,n,ne,nf,d⟩:=I.pin p hp;have nch:p.1∉ch:=λz=>(Cy p.1 z).2.2.2 p hp rfl;exact⟨keep p.1 p.2 ne nf nch e n,free p.1 p.2 nch e n,ne,nf,d⟩
theorem Inv.un{t':Nat}(I:Inv X pins σ H s)(u:Un X.fs [] H H' s.heap h')(hok:Az X.prog X.w H' h'):Inv X pins σ H' {s with heap:=h',toks:=t'}:=by obtain⟨m,⟨o,es,ep,ho,r⟩,_⟩:=id I.loc;obtain⟨sl,hL⟩:=u.any ho I.free (by simp);exact I.step (g':=s.gens) (d':=s.drawn) (ch:=[]) (λ_ z=>nomatch z) (λb o _ hb _ e n=>u.keep b o e n hb (by simp)) (λb o _ hb _ e n=>u.slot b o e n hb (by simp)) (λb o _ e n=>u.free b o e n (by simp)) (λb o _ e=>u.there b o e (by simp)) u.tups u.frzs u.tbls (λm' hm=>by obtain⟨o',es',ep',Cr,r'⟩:=hm;rw[ho]at Cr;cases Cr;exact⟨_,es',ep',hL,r'⟩) hok I.bare
theorem Inv.call{g':Array GenState}{t':Nat}{d':Drawn}{ch:List ah}(I:Inv X pins σ H s)(u:Un (cN X.stack) ch H H' s.heap h')(hok:Az X.prog X.w H' h')(hg:sh g')(Cy:∀b∈ch,(b∈X.ex∨X.s₀.heap.objs.size<=b)/\b≠X.env.locals/\(∀x c,X.env.cells.lookup x=some c->c≠b)/\∀p∈X.pn++pins,p.1≠b):
  Inv X pins σ H' {s with heap:=h',gens:=g',drawn:=d',toks:=t'}:=by
 obtain⟨m,⟨o,es,ep,ho,r⟩,_⟩:=id I.loc;obtain⟨sl,hL⟩:=u.any ho I.free λz=>(Cy _ z).2.1 rfl;exact I.step (ch:=ch) Cy (λb o hL hb hc e n=>u.keep b o e n (λz=>(bh.mp (I.stkSub b z)).elim hL hb) hc) (λb o _ _ hc e n=>u.any e n hc) (λb o hc e n=>u.free b o e n hc) (λb o hc e=>u.there b o e hc) u.tups u.frzs u.tbls (λm' hm=>by obtain⟨o',es',ep',Cr,r'⟩:=hm;rw[ho]at Cr;cases Cr;exact⟨_,es',ep',hL,r'⟩) hok hg
theorem Inv.turned{t':Nat}{it:ah}(I:Inv X pins σ H s)(k:∀b o,b≠it->s.heap.get? b=some o->h'.get? b=some o)(hn:H it=none)(hL:it≠X.env.locals)(h1:it∈X.ex∨X.s₀.heap.objs.size<=it)(h2:∀x c,X.env.cells.lookup x=some c->c≠it)(h3:∀p∈X.pn++pins,p.1≠it):Inv X pins σ H {s with heap:=h',toks:=t'}:=by
 have nit:∀b u,H b=some u->b≠it:=λb u e z=>by rw[z,hn]at e;cases e
 refine I.step (g':=s.gens) (d':=s.drawn) (ch:=[it]) (λb hb=>?_) (λb o _ _ hc e _=>k b o (λz=>hc (by simp[z])) e) (λb o _ _ hc e _=>⟨o.slots,k b o (λz=>hc (by simp[z])) e⟩) (λ_ _ _ _ n=>n)
  (λb o hc e=>⟨o,k b o (λz=>hc (by simp[z])) e⟩) (λ_ _ e=>e) (λ_ _ _ e=>e) (λb ps e=>⟨#[],by rw[e];simp⟩) (λm hm=>?_) (λb u e=>?_) I.bare
 ·have e:b=it:=by simpa using hb
  subst e;exact⟨h1,hL,h2,h3⟩
 ·obtain⟨o,es,ep,ho,r⟩:=hm;exact⟨o,es,ep,k _ o (cp hL) ho,r⟩
 ·refine(I.hok b u e).stay (λc v hc q=>k c v ?_ q) (λ_ q=>q) λ_ _ q=>q
  rcases hc with z|z
  ·rw[z];exact nit b u e
  ·exact nit c _ z
theorem Inv.tok(I:Inv X pins σ H s)(t:Nat):Inv X pins σ H {s with toks:=t}:=I.un (h':=s.heap) (t':=t) Un.refl I.hok
theorem Inv.kept{t':Nat}(I:Inv X pins σ H s)(k:∀b u,s.heap.get? b=some u->h'.get? b=some u):Inv X pins σ H {s with heap:=h',toks:=t'}:=I.un (Un.kept k) (I.hok.kept k)
theorem Inv.laid{a:ah}{o:HO}{t':Nat}(I:Inv X pins σ H s)(k:∀b u,s.heap.get? b=some u->h'.get? b=some u)(hp:s.heap.objs.size<=a)(new:Ag X.prog X.w (aF H a o) h' a o):
  Inv X pins σ (aF H a o) {s with heap:=h',toks:=t'}:=I.un (Un.laid k hp (I.hok.fresh hp)) (I.hok.laid k hp new)
theorem Inv.write{x e:ah}{o:HO}{t':Nat}(I:Inv X pins σ H s)(mu:uZ (H x))(he:e=x∨H e=some (.own x))(k:∀b u,b≠e->s.heap.get? b=some u->h'.get? b=some u)(heo:∃u,h'.get? e=some u)(new:Ag X.prog X.w (aF H x o) h' x o):Inv X pins σ (aF H x o) {s with heap:=h',toks:=t'}:=I.un (Un.write mu he k heo) (I.hok.write mu he k heo new)
theorem Inv.pins_of{pins':List (ah×Obj)}(I:Inv X pins σ H s)(h:∀p∈pins',s.heap.get? p.1=some p.2/\H p.1=none/\p.1≠X.env.locals/\p.1∉X.fs/\∀v,p.2.data≠.cell v):Inv X pins' σ H s:=⟨I.ok,I.os,I.bare,I.base,I.loc,I.cell,I.free,I.freeC,λp hp=>(cz.mp hp).elim (λz=>I.pin p (cu _ z)) (h p),I.hok,I.len⟩
theorem zP{N:zu}(hN:N.Nodup){i j:Nat}{x:Str}(a:N[i]?=some x)(b:N[j]?=some x):i=j:=by obtain⟨h1,e1⟩:=av.mp a;obtain⟨h2,e2⟩:=av.mp b;exact(List.getElem_inj hN).mp (e1.trans e2.symm)
theorem vB{M:xq}{A:bq}{E:af->ag->Prop}{i:Nat}{x:Str}{v:V}{u:af}{Q:Unit->ag->Prop}(I:Inv X pins σ H s)(hN:X.N.Nodup)(hi:X.N[i]?=some x)(hx:kD X.env.scope x)(r:RelV v u)(h:∀s',Inv X pins (σ.set i (some v)) H s'->(∃a,ic a s.heap s'.heap/\(a=X.env.locals∨X.env.cells.lookup x=some a))->Q () s')(hf:X.fn x=true∨X.env.scope.names.lookup x=some .local:=by first|exact .inl rfl|exact .inr rfl|assumption):wpAny M A (storeName X.env x u) Q E s:=by
 obtain⟨m,hn,hl⟩:=id I.loc;have hcls:(X.env.scope.kind==.class||(X.env.scope.kind==.module&&X.env.locals !=X.env.globals))=false:=by rw[I.ok.kind];rfl
 have hiσ:i<σ.length:=by rw[I.len];exact(av.mp hi).1
 have cne:=I.cne;have tracked:∀{a:ah}{h':bx},(∃o,s.heap.get? a=some o/\H a=none)->ic a s.heap h'->Az X.prog X.w H h':=λ{a h'}ha hs b ob e=>by
  obtain⟨_,_,hfree⟩:=ha;refine(I.hok b ob e).stay (λc w' hc q=>(hs.2 c ?_).trans q) (λ_ q=>q) λ_ _ q=>q
  rintro rfl
  rcases hc with rfl|hc
  ·rw[hfree]at e;cases e
  ·rw[hfree]at hc;cases hc
 rcases hx with hk|hk
 ·refine wpAny_storeName_local hk hn (λh' hn' hs=>?_) hcls;obtain⟨oL,_,_,hoL,_⟩:=id hn;refine h _ ⟨I.ok,I.os,I.bare,⟨λb o e n hb hx=>?_,λb o e n hb hx=>?_,I.base.free,λb o e hx=>?_,I.base.tups,I.base.frzs,I.base.tbls⟩,⟨_,hn',λj y v' e1 e2 e3=>?_⟩,λy c e=>?_,I.free,I.freeC,λp hp=>?_,tracked ⟨oL,hoL,I.free⟩ hs,by simpa using I.len⟩ ⟨_,hs,.inl rfl⟩
  ·exact(hs.2 b (aw (ar (au e) I.ok.above))).trans (I.base.keep b o e n hb hx)
  ·obtain⟨sl,e1⟩:=I.base.slot b o e n hb hx;exact⟨sl,(hs.2 b (aw (ar (au e) I.ok.above))).trans e1⟩
  ·obtain⟨o',e1⟩:=I.base.there b o e hx;exact⟨o',(hs.2 b (aw (ar (au e) I.ok.above))).trans e1⟩
  ·by_cases hj:j=i
   ·subst hj;rw[hi]at e1;cases e1;rw[da hiσ]at e2;cases e2;exact⟨u,r,.inl ⟨hk,by simp⟩⟩
   ·rw[gg (cp hj)]at e2;obtain⟨u',r',q⟩:=hl j y v' e1 e2 e3;refine⟨u',r',?_⟩
    rcases q with⟨k,e⟩|⟨k,c,e,z⟩
    ·refine .inl ⟨k,?_⟩;have:y≠x:=λe=>hj (zP hN e1 (e▸hi));simp[this,e]
    ·exact .inr ⟨k,c,e,z.sameBut hs (cne y c e)⟩
  ·obtain⟨w',z⟩:=I.cell y c e;exact⟨w',z.sameBut hs (cne y c e)⟩
  ·obtain⟨e,n,ne,nf,d⟩:=I.pin p hp;exact⟨(hs.2 p.1 ne).trans e,n,ne,nf,d⟩
 ·have hfn:X.fn x=true:=by
   rcases hf with z|z
   ·exact z
   ·rw[z]at hk;cases hk
  obtain⟨c,hc⟩:=I.ok.has x (.inl hk);obtain⟨w',z⟩:=I.cell x c hc;refine wpAny_storeName_cell I.ok.kind hk hc z (λh' hc' hs=>?_);obtain⟨oc,hoc,hocd⟩:=id z;refine h {s with heap:=h'} ⟨I.ok,I.os,I.bare,⟨λb o e n hb hx=>?_,λb o e n hb hx=>?_,I.base.free,λb o e hx=>?_,I.base.tups,I.base.frzs,I.base.tbls⟩,⟨m,hn.sameBut hs (cp (cne x c hc)),λj y v' e1 e2 e3=>?_⟩,λy c' e=>?_,I.free,I.freeC,λp hp=>?_,tracked ⟨oc,hoc,I.freeC x c hc⟩ hs,by simpa using I.len⟩ ⟨c,hs,.inr hc⟩
  ·exact(hs.2 b (aw (ar (au e) (I.ok.cab x c hfn hc)))).trans (I.base.keep b o e n hb hx)
  ·obtain⟨sl,e1⟩:=I.base.slot b o e n hb hx;exact⟨sl,(hs.2 b (aw (ar (au e) (I.ok.cab x c hfn hc)))).trans e1⟩
  ·obtain⟨o',e1⟩:=I.base.there b o e hx;exact⟨o',(hs.2 b (aw (ar (au e) (I.ok.cab x c hfn hc)))).trans e1⟩
  ·by_cases hj:j=i
   ·subst hj;rw[hi]at e1;cases e1;rw[da hiσ]at e2;cases e2;exact⟨u,r,.inr ⟨.inl hk,c,hc,hc'⟩⟩
   ·rw[gg (cp hj)]at e2;obtain⟨u',r',q⟩:=hl j y v' e1 e2 e3;refine⟨u',r',?_⟩
    rcases q with q|⟨k,c',e,z'⟩
    ·exact .inl q
    ·refine .inr ⟨k,c',e,z'.sameBut hs ?_⟩
     rintro rfl
     exact hj (zP hN e1 (I.ok.inj _ _ _ e hc▸hi))
  ·by_cases hcc:c'=c
   ·subst hcc;exact⟨_,hc'⟩
   ·obtain⟨w2,z2⟩:=I.cell y c' e;exact⟨w2,z2.sameBut hs hcc⟩
  ·obtain⟨e,n,ne,nf,d⟩:=I.pin p hp;refine⟨(hs.2 p.1 ?_).trans e,n,ne,nf,d⟩;intro q;rw[q,hoc]at e;have q':oc=p.2:=de e;exact d w' (by rw[<-q'];exact hocd)
theorem zQ{M:xq}{A:bq}{E:af->ag->Prop}{i:Nat}{x:Str}{v:V}{u:af}{Q:Unit->ag->Prop}(I:Inv X pins σ H s)(hN:X.N.Nodup)(hi:X.N[i]?=some x)(hx:kD X.env.scope x)(r:RelV v u)(h:∀s',Inv X pins (σ.set i (some v)) H s'->Q () s')(hf:X.fn x=true∨X.env.scope.names.lookup x=some .local:=by first|exact .inl rfl|exact .inr rfl|assumption):wpAny M A (storeName X.env x u) Q E s:=
 vB I hN hi hx r (λs' I' _=>h s' I') hf
theorem Inv.call'{s':ag}{ch:List ah}(I:Inv X pins σ H s)(ho:s'.os=s.os)(u:Un (cN X.stack) ch H H' s.heap s'.heap)(hok:Az X.prog X.w H' s'.heap)(hg:sh s'.gens)(Cy:∀b∈ch,(b∈X.ex∨X.s₀.heap.objs.size<=b)/\b≠X.env.locals/\(∀x c,X.env.cells.lookup x=some c->c≠b)/\∀p∈X.pn++pins,p.1≠b):Inv X pins σ H' s':=by
 obtain⟨h',g',d',t',o'⟩:=s';have e:o'=s.os:=ho;subst e;exact I.call (g':=g') (t':=t') (d':=d') u hok hg Cy
end
abbrev XK:=af->Option ah->Hp->Prop
abbrev St:=List (Option V)
abbrev VK:=V->Hp->Prop
abbrev TE:=St->Hp->VK->Prop
abbrev TT:=St->Hp->(Bool->Hp->Prop)->Prop
abbrev TA:=St->Hp->(List V->Hp->Prop)->Prop
structure Ends where
 nx:St->Hp->Prop
 rt:VK
 bk:St->Hp->Prop:=λ_ _=>False
 ct:St->Hp->Prop:=λ_ _=>False
abbrev TS:=Ends->St->Hp->Prop
inductive EP(X:Cx)(pins:List (ah×Obj))(σ:St)(Q:VK)(u:af)(s':ag):Prop
 |mk (v:_) (H':_) (h0:Inv X pins σ H' s') (h1:RelV v u) (h2:Q v H'):EP X pins σ Q u s'
noncomputable def TP(X:Cx)(pins:List (ah×Obj))(σ:St)(Q:Bool->Hp->Prop)(b:Bool)(s':ag):Prop:=∃H',Inv X pins σ H' s'/\Q b H'
inductive AP(X:Cx)(pins:List (ah×Obj))(σ:St)(Q:List V->Hp->Prop)(us:List af)(s':ag):Prop
 |mk (vs:_) (H':_) (h0:Inv X pins σ H' s') (h1:Ae vs us) (h2:Q vs H'):AP X pins σ Q us s'
def SP(X:Cx)(pins:List (ah×Obj))(D:Ends)(f:Flow)(s':ag):Prop:=
 match f with
 |.next=>∃σ' H',Inv X pins σ' H' s'/\D.nx σ' H'
 |.brk=>∃σ' H',Inv X pins σ' H' s'/\D.bk σ' H'
 |.cont=>∃σ' H',Inv X pins σ' H' s'/\D.ct σ' H'
 |.ret u=>∃v σ' H',Inv X pins σ' H' s'/\RelV v u/\D.rt v H'
noncomputable def PE(X:Cx)(e:ba)(t:TE):Prop:=∀(pins:List (ah×Obj))(s:ag)(σ:St)(H:Hp)(Q:VK),Inv X pins σ H s->t σ H Q->wpAny (model X.prog X.w) X.A (eval e X.env) (EP X pins σ Q) X.xe s
def PT(X:Cx)(e:ba)(t:TT):Prop:=∀(pins:List (ah×Obj))(s:ag)(σ:St)(H:Hp)(Q:Bool->Hp->Prop),Inv X pins σ H s->t σ H Q->wpAny (model X.prog X.w) X.A (isTrue e X.env (eval e X.env)) (TP X pins σ Q) X.xe s
def PW(X:Cx)(e:ba)(t:TT):Prop:=∀(whole:Sem af)(pins:List (ah×Obj))(s:ag)(σ:St)(H:Hp)(Q:Bool->Hp->Prop),Inv X pins σ H s->t σ H Q->wpAny (model X.prog X.w) X.A (isTrue e X.env whole) (TP X pins σ Q) X.xe s
theorem PW.pt{X:Cx}{e:ba}{t:TT}(h:PW X e t):PT X e t:=h _
noncomputable def PA(X:Cx)(es:List ba)(t:TA):Prop:=∀(pos:Pos)(pins:List (ah×Obj))(s:ag)(σ:St)(H:Hp)(Q:List V->Hp->Prop),Inv X pins σ H s->t σ H Q->wpAny (model X.prog X.w) X.A (spliced (backTo pos (ao es X.env))) (AP X pins σ Q) X.xe s
def PS(X:Cx)(st:fj)(t:TS):Prop:=∀(pins:List (ah×Obj))(s:ag)(σ:St)(H:Hp)(D:Ends),Inv X pins σ H s->t D σ H->wpAny (model X.prog X.w) X.A (exec st X.env) (SP X pins D) X.xe s
def Du(X:Cx)(st:List fj)(t:TS):Prop:=∀(pins:List (ah×Obj))(s:ag)(σ:St)(H:Hp)(D:Ends),Inv X pins σ H s->t D σ H->wpAny (model X.prog X.w) X.A (execs st X.env) (SP X pins D) X.xe s
theorem aH{α:Type}{t:Sem α}{Q Q':α->ag->Prop}{M:xq}{A:bq}{E:af->ag->Prop}{s:ag}(h:wpAny M A t Q E s)(hQ:∀a s,Q a s->Q' a s):wpAny M A t Q' E s:=jk h hQ λ_ _ x=>x
section
variable{X:Cx}
noncomputable def vC(i:Nat):TE:=λσ H Q=>∃v,σ[i]?=some (some v)/\Q v H
noncomputable def tC(v:V):TE:=λ_ H Q=>Q v H
theorem qG{i:Nat}{x:Str}{pos:Pos}(hN:X.N[i]?=some x)(hv:oR X.env.scope x)(hd:(x==Ey)=false:=by decide)(hcd:(x==("__classdict__":Str))=false:=by decide):PE X (.Name x pos) (vC i):=by
 intro pins s σ H Q I h;obtain⟨v,e,h⟩:=h;obtain⟨m,hn,hl⟩:=I.loc;obtain⟨u,r,l⟩:=hl i x v hN e hv;have fin:EP X pins σ Q u s:=⟨v,H,I,r,h⟩
 rcases l with⟨hk,hm⟩|⟨hk,c,hc,hcell⟩
 ·exact wpAny_Name (wpAny_loadName_local I.ok.kind hk hn hm fin) hd
 ·rcases hk with hk|hk
  ·exact wpAny_Name (wpAny_loadName_cell I.ok.kind hk hc hcell fin) hd
  ·exact wpAny_Name (wpAny_loadName_free I.ok.kind hk hc hcell fin hcd) hd
theorem E8{i j pos}:PE X (.Constant (.int i) j pos) (tC (.int i)):=λ_ _ _ H _ I h=>wpAny_Constant_int ⟨.int i,H,I.tok _,⟨_,rfl⟩,h⟩
theorem OU{b j pos}:PE X (.Constant (.bool b) j pos) (tC (.bl b)):=λ_ _ _ H _ I h=>Constant_bool ⟨.bl b,H,I,rfl,h⟩
theorem E9{j pos}:PE X (.Constant .none j pos) (tC .non):=λ_ _ _ H _ I h=>Constant_none ⟨.non,H,I,rfl,h⟩
theorem FA{x j pos}:PE X (.Constant (.str x) j pos) (tC (.str x)):=λ_ _ _ H _ I h=>Calls.Constant_str ⟨.str x,H,I.tok _,⟨_,rfl⟩,h⟩
noncomputable def Gl(X:Cx)(x:Str):Prop:=X.env.kindOf x=some .globalImplicit
theorem qH{E:af->ag->Prop}{pins:List (ah×Obj)}{s:ag}{σ:St}{H:Hp}{x:Str}{u:af}{pos:Pos}{Q:af->ag->Prop}(I:Inv X pins σ H s)(hg:Gl X x)(hm:X.mg x=some u)(h:Q u s)(hd:(x==Ey)=false:=by decide):wpAny (model X.prog X.w) X.A (eval (.Name x pos) X.env) Q E s:=
 vn I.ok.kind hg (Calls.loadGlobal_global (by rw[I.ok.glob];exact I.mod.glob.keeps I.bk) hm h) hd
theorem oS{E:af->ag->Prop}{pins:List (ah×Obj)}{s:ag}{σ:St}{H:Hp}{x:Str}{u:af}{pos:Pos}{Q:af->ag->Prop}(I:Inv X pins σ H s)(hg:Gl X x)(hm:X.mg x=none)(hv:cx x=some u)(h:Q u s)(hn:x≠"__name__":=by decide)(hd:(x==Ey)=false:=by decide):wpAny (model X.prog X.w) X.A (eval (.Name x pos) X.env) Q E s:=by
 obtain⟨mb,h1,h2⟩:=I.mod.blt;exact vn I.ok.kind hg (Calls.loadGlobal_builtin (by rw[I.ok.glob];exact I.mod.glob.keeps I.bk) hm (by rw[I.ok.blt];exact h1.keeps I.bk) ((h2 x hn).trans hv) h) hd
theorem rX{x:Str}{v:V}{u:af}{pos:Pos}(hg:Gl X x)(hm:X.mg x=some u)(r:RelV v u)(hd:(x==Ey)=false:=by decide):PE X (.Name x pos) (tC v):=λ_ _ _ H _ I h=>qH I hg hm ⟨v,H,I,r,h⟩ hd
variable{a b:ba}{ta tb:TE}{pos:Pos}
variable{tA tB':TT}{rest:List ba}
noncomputable def FC(t u:TT):TT:=λσ H Q=>t σ H λc H1=>if c=true then u σ H1 Q else Q false H1
noncomputable def FD(t u:TT):TT:=λσ H Q=>t σ H λc H1=>if c=true then Q true H1 else u σ H1 Q
noncomputable def OV(t:TT):TT:=λσ H Q=>t σ H λc H1=>Q (!c) H1
theorem OW(ha:PT X a tA):PW X (.BoolOp .And [a] pos) tA:=by
 intro wh pins s σ H Q I h;refine isTrue_and (aH (ha pins s σ H Q I h) λc s1 e=>?_)
 cases c with
 |true=>exact isTrue_and_nil e
 |false=>exact e
theorem OX(ha:PT X a tA):PW X (.BoolOp .Or [a] pos) tA:=by
 intro wh pins s σ H Q I h;refine isTrue_or (aH (ha pins s σ H Q I h) λc s1 e=>?_)
 cases c with
 |false=>exact isTrue_or_nil e
 |true=>exact e
theorem OY(ha:PT X a tA)(hb:PW X (.BoolOp .And (b::rest) pos) tB'):PW X (.BoolOp .And (a::b::rest) pos) (FC tA tB'):=by
 intro wh pins s σ H Q I h;refine isTrue_and (aH (ha pins s σ H _ I h) λc s1⟨H1,I1,q1⟩=>?_)
 cases c with
 |true=>exact hb wh pins s1 σ H1 Q I1 q1
 |false=>exact⟨H1,I1,q1⟩
theorem OZ(ha:PT X a tA)(hb:PW X (.BoolOp .Or (b::rest) pos) tB'):PW X (.BoolOp .Or (a::b::rest) pos) (FD tA tB'):=by
 intro wh pins s σ H Q I h;refine isTrue_or (aH (ha pins s σ H _ I h) λc s1⟨H1,I1,q1⟩=>?_)
 cases c with
 |true=>exact⟨H1,I1,q1⟩
 |false=>exact hb wh pins s1 σ H1 Q I1 q1
theorem O0(ha:PT X a tA):PT X (.UnaryOp .Not a pos) (OV tA):=by intro pins s σ H Q I h;exact isTrue_not (ha pins s σ H (λc H1=>Q (!c) H1) I h)
noncomputable def O1(ta tb:TE):TE:=λσ H Q=>ta σ H λx H1=>∃c,x=.bl c/\if c=true then tb σ H1 Q else Q (.bl false) H1
noncomputable def O2(ta:TE):TE:=λσ H Q=>ta σ H λx H1=>∃c,x=.bl c/\Q (.bl (!c)) H1
theorem O3{op}{t:TE}(h:PE X a t):PE X (.BoolOp op [a] pos) t:=λpins s σ H Q I hw=>BoolOp_one (h pins s σ H Q I hw)
theorem O4(ha:PE X a ta)(hb:PE X (.BoolOp .And (b::rest) pos) tb):PE X (.BoolOp .And (a::b::rest) pos) (O1 ta tb):=by
 intro pins s σ H Q I h;refine BoolOp_and (aH (ha pins s σ H _ I h) λv s1⟨x,H1,I1,r1,q1⟩=>?_);obtain⟨c,rfl,q1⟩:=q1;cases r1;refine gy ?_
 cases c with
 |true=>exact hb pins s1 σ H1 Q I1 q1
 |false=>exact⟨.bl false,H1,I1,rfl,q1⟩
theorem O5(ha:PE X a ta):PE X (.UnaryOp .Not a pos) (O2 ta):=by intro pins s σ H Q I h;refine UnaryOp_ (aH (ha pins s σ H _ I h) λv s1⟨x,H1,I1,r1,q1⟩=>?_);obtain⟨c,rfl,q1⟩:=q1;cases r1;exact not_of (gy ⟨.bl (!c),H1,I1,rfl,q1⟩)
end
def Bb(K:ak)(H:Hp)(a:ah)(xs:List V):Prop:=
 Rd H a (.lst xs) ∨
  ∃(o:Obj)(its:Array af)(n:Nat),K.lookup a=some o/\o.cls=.type "list"/\o.dict=none/\o.data=.seq its n/\its.size<=bj/\Ae xs its.toList
def Ap(K:ak)(H:Hp)(a:ah)(xs:List V):Prop:=
 Rd H a (.tup xs) ∨
  ∃(o:Obj)(its:Array af)(n:Nat),K.lookup a=some o/\o.cls=.type "tuple"/\o.data=.seq its n/\its.size<=bj/\Ae xs its.toList
noncomputable def O6:af->Option V
 |.none=>some .non
 |.bool b=>some (.bl b)
 |.int i _=>some (.int i)
 |.str x _=>some (.str x)
 |.bytes b _=>some (.byt b)
 |.float b _=>some (.flt b)
 |.ref a=>some (.ref a)
 |.type n=>some (.ty n)
 |_=>none
theorem RelV.abs{x:V}{u:af}(r:RelV x u):O6 u=some x:=by
 cases x with
 |non=>cases r;rfl
 |bl _=>cases r;rfl
 |int _=>obtain⟨t,rfl⟩:=r;rfl
 |str _=>obtain⟨t,rfl⟩:=r;rfl
 |byt _=>obtain⟨t,rfl⟩:=r;rfl
 |flt _=>obtain⟨t,rfl⟩:=r;rfl
 |ref _=>cases r;rfl
 |ty _=>cases r;rfl
theorem RelV.inj{x y:V}{u:af}(r:RelV x u)(q:RelV y u):x=y:=de (r.abs.symm.trans q.abs)
theorem Ae.inj:∀{xs ys:List V}{us:List af},Ae xs us->Ae ys us->xs=ys
 |_,_,_,.nil,.nil=>rfl
 |_,_,_,.cons r t,.cons r' t'=>by rw[r.inj r',Ae.inj t t']
section
variable{X:Cx}{pins:List (ah×Obj)}{σ:St}{H:Hp}{s:ag}{a:ah}{xs ys:List V}
theorem Bb.of{K:ak}(h:H a=some (.lst xs)):Bb K H a xs:=.inl (.inl h)
theorem Ap.of{K:ak}(h:H a=some (.tup xs)):Ap K H a xs:=.inl (.inl h)
theorem Inv.list(I:Inv X pins σ H s)(h:Bb X.K H a xs):∃its:List af,Ae xs its/\PlainL s.heap a its.toArray/\xs.length<=bj:=by
 rcases h with h|⟨o,its,n,hk,hc,hd,hs,hz,r⟩
 ·obtain⟨z,its,n,r,e⟩:=h.ok I.hok;exact⟨its,r,⟨_,n,e,rfl,rfl,rfl⟩,z⟩
 ·refine⟨its.toList,r,⟨o,n,I.kIn a o hk,hc,hd,by simpa using hs⟩,?_⟩;have e:=r.length;simp only[ou]at e
  lia
theorem Inv.tuple(I:Inv X pins σ H s)(h:Ap X.K H a xs):∃its:List af,Ae xs its/\yp s.heap a its.toArray/\xs.length<=bj:=by
 rcases h with h|⟨o,its,n,hk,hc,hs,hz,r⟩
 ·obtain⟨z,its,r,p⟩:=h.ok I.hok;exact⟨its,r,p.tup,z⟩
 ·refine⟨its.toList,r,⟨o,I.kIn a o hk,hc,n,by simpa using hs⟩,?_⟩;have e:=r.length;simp only[ou]at e
  lia
theorem Inv.list_inj(I:Inv X pins σ H s)(h:Bb X.K H a xs)(h':Bb X.K H a ys):xs=ys:=by
 obtain⟨its,r,⟨o,n,e,_,_,d⟩,_⟩:=I.list h;obtain⟨its',r',⟨o',n',e',_,_,d'⟩,_⟩:=I.list h';rw[e]at e';cases e';rw[d]at d';injection d' with d1 _;have:its=its':=by simpa using congrArg Array.toList d1
 subst this;exact r.inj r'
theorem Inv.tuple_inj(I:Inv X pins σ H s)(h:Ap X.K H a xs)(h':Ap X.K H a ys):xs=ys:=by
 obtain⟨its,r,⟨o,e,_,n,d⟩,_⟩:=I.tuple h;obtain⟨its',r',⟨o',e',_,n',d'⟩,_⟩:=I.tuple h';rw[e]at e';cases e';rw[d]at d';injection d' with d1 _;have:its=its':=by simpa using congrArg Array.toList d1
 subst this;exact r.inj r'
end
abbrev Cx.wish(X:Cx)(E:af->ag->Prop):Cx:={X with xe:=E}
abbrev Cx.nox(X:Cx):Cx:=X.wish λ_ _=>False
theorem Cx.Ok.wish{X:Cx}(ok:X.Ok)(E:af->ag->Prop):(X.wish E).Ok:=⟨ok.mod,ok.kind,ok.glob,ok.blt,ok.above,ok.inj,ok.has,ok.cab,ok.hd,ok.frames,ok.stk,ok.exf,ok.bs,ok.bsz,ok.noex,ok.exfs,ok.funs,ok.frf⟩
theorem Cx.Ok.unwish{X:Cx}{E:af->ag->Prop}(ok:(X.wish E).Ok):X.Ok:=⟨ok.mod,ok.kind,ok.glob,ok.blt,ok.above,ok.inj,ok.has,ok.cab,ok.hd,ok.frames,ok.stk,ok.exf,ok.bs,ok.bsz,ok.noex,ok.exfs,ok.funs,ok.frf⟩
section
variable{X:Cx}{pins:List (ah×Obj)}{σ:St}{H:Hp}{s:ag}{E:af->ag->Prop}
theorem Inv.wish(I:Inv X pins σ H s)(E:af->ag->Prop):Inv (X.wish E) pins σ H s:=⟨I.ok.wish E,I.os,I.bare,I.base,I.loc,I.cell,I.free,I.freeC,I.pin,I.hok,I.len⟩
theorem Inv.unwish(I:Inv (X.wish E) pins σ H s):Inv X pins σ H s:=⟨I.ok.unwish,I.os,I.bare,I.base,I.loc,I.cell,I.free,I.freeC,I.pin,I.hok,I.len⟩
end
section
variable{X:Cx}{st:fj}{rest:List fj}{t u:TS}{e:ba}{te:TE}{pos:Pos}
noncomputable def O7:TS:=λD σ H=>D.nx σ H
noncomputable def O8(t u:TS):TS:=λD σ H=>t {D with nx:=u D} σ H
theorem O9:Du X [] O7:=λ_ _ σ H _ I h=>qf ⟨σ,H,I,h⟩
theorem FE(h1:PS X st t)(h2:Du X rest u):Du X (st::rest) (O8 t u):=by
 intro pins s σ H D I h;refine pb (aH (h1 pins s σ H {D with nx:=u D} I h) λf s1 q=>?_)
 cases f with
 |next=>obtain⟨σ',H',I',q⟩:=q;exact h2 pins s1 σ' H' D I' q
 |ret v=>exact q
 |brk=>exact q
 |cont=>exact q
theorem zR(h1:PS X st t):Du X [st] t:=by
 intro pins s σ H D I h;refine pb (aH (h1 pins s σ H D I h) λf s1 q=>?_)
 cases f with
 |next=>exact qf q
 |ret v=>exact q
 |brk=>exact q
 |cont=>exact q
theorem Inv.quiet{pins:List (ah×Obj)}{σ:St}{H:Hp}{s:ag}(I:Inv X pins σ H s):interactive X.env=false:=by simp[interactive,I.ok.kind]
noncomputable def PB(te:TE):TS:=λD σ H=>te σ H λ_ H1=>D.nx σ H1
theorem PC(he:PE X e te)(hs:swapsWith e none pos.line X.env=pure false:=by rfl):PS X (.Expr e pos) (PB te):=by intro pins s σ H D I h;exact wpAny_Expr_any (aH (he pins s σ H _ I h) λv s1⟨x,H1,I1,r1,q1⟩=>⟨σ,H1,I1,q1⟩) I.quiet hs
noncomputable def PF(te:TE):TS:=λD σ H=>te σ H D.rt
theorem FF(he:PE X e te):PS X (.Return (some e) pos) (PF te):=by intro pins s σ H D I h;exact wpAny_Return_some (aH (he pins s σ H _ I h) λv s1⟨x,H1,I1,r1,q1⟩=>⟨x,σ,H1,I1,r1,q1⟩)
noncomputable def PH(c:TT)(t u:TS):TS:=λD σ H=>c σ H λb H1=>if b=true then t D σ H1 else u D σ H1
theorem PK{c:ba}{a b:List fj}{tc:TT}(hc:PT X c tc)(ha:Du X a t)(hb:Du X b u):PS X (.If c a b pos) (PH tc t u):=by
 intro pins s σ H D I h;refine wpAny_If (aH (hc pins s σ H _ I h) λd s1⟨H1,I1,q1⟩=>?_)
 cases d with
 |true=>exact ha pins s1 σ H1 D I1 q1
 |false=>exact hb pins s1 σ H1 D I1 q1
end
abbrev TG:=V->St->Hp->(St->Hp->Prop)->Prop
abbrev jI:=List V->St->Hp->(St->Hp->Prop)->Prop
def PG(X:Cx)(target:ba)(t:TG):Prop:=
 ∀(pins:List (ah×Obj))(s:ag)(σ:St)(H:Hp)(v:V)(u:af)(Q:St->Hp->Prop),Inv X pins σ H s->RelV v u->t v σ H Q->
  wpAny (model X.prog X.w) X.A (assign target X.env u) (λ_ s'=>∃σ' H',Inv X pins σ' H' s'/\Q σ' H') X.xe s
def PGs(X:Cx)(ts:List ba)(t:jI):Prop:=
 ∀(pins:List (ah×Obj))(s:ag)(σ:St)(H:Hp)(vs:List V)(us:List af)(Q:St->Hp->Prop),Inv X pins σ H s->Ae vs us->t vs σ H Q->
  wpAny (model X.prog X.w) X.A (assignInOrder ((assignEach ts X.env).map (·.2)) us) (λ_ s'=>∃σ' H',Inv X pins σ' H' s'/\Q σ' H') X.xe s
abbrev zS:=V->V->V->Hp->(Hp->Prop)->Prop
def FG(X:Cx)(t:zS):Prop:=
 ∀(pins:List (ah×Obj))(s:ag)(σ:St)(H:Hp)(o i v:V)(ov iv u:af)(Q:Hp->Prop),Inv X pins σ H s->RelV o ov->RelV i iv->RelV v u->t o i v H Q->
  wpAny (model X.prog X.w) X.A (setItem ov iv u) (λ_ s'=>∃H',Inv X pins σ H' s'/\Q H') X.xe s
section
variable{X:Cx}{pos:Pos}
noncomputable def vD(i:Nat):TG:=λv σ H Q=>Q (σ.set i (some v)) H
theorem PL{i:Nat}{x:Str}(hN:X.N.Nodup)(hi:X.N[i]?=some x)(hx:kD X.env.scope x)(hf:X.fn x=true∨X.env.scope.names.lookup x=some .local:=by first|exact .inl rfl|exact .inr rfl|assumption):PG X (.Name x pos) (vD i):=by intro pins s σ H v u Q I r h;exact si (zQ I hN hi hx r (λs' I'=>⟨_,H,I',h⟩) hf)
noncomputable def PM:jI:=λvs σ H Q=>vs=[]/\Q σ H
noncomputable def FH(t:TG)(u:jI):jI:=λvs σ H Q=>∃v r,vs=v::r/\t v σ H λσ' H'=>u r σ' H' Q
theorem PN:PGs X [] PM:=by intro pins s σ H vs us Q I r h;obtain⟨e,h⟩:=h;subst e;cases r;exact assignInOrder_nil ⟨σ,H,I,h⟩
theorem PQ{e:ba}{es:List ba}{t:TG}{u:jI}(h1:PG X e t)(h2:PGs X es u)(hs:(assignEach (e::es) X.env).map (·.2)=assign e X.env::(assignEach es X.env).map (·.2):=by rfl):PGs X (e::es) (FH t u):=by
 intro pins s σ H vs us Q I r h;obtain⟨v,vr,e1,h⟩:=h;subst e1
 cases r with
 |cons r rr=>rw[hs];refine assignInOrder_cons (aH (h1 pins s σ H _ _ _ I r h) λ_ s1⟨σ1,H1,I1,q1⟩=>?_);exact h2 pins s1 σ1 H1 _ _ Q I1 rr q1
def PR(K:ak)(n:Nat)(t:jI):TG:=λv σ H Q=>∃a xs,v=.ref a/\Ap K H a xs/\xs.length=n/\t xs σ H Q
theorem PU{es:List ba}{k:Nat}{t:jI}{n:Nat}(hc:X.calm=true)(h:PGs X es t)(hn:(assignEach es X.env).length=n:=by rfl)(Ck:(assignEach es X.env).findIdx? (·.1)=none:=by rfl):PG X (.Tuple es k pos) (PR X.K n t):=by
 intro pins s σ H v u Q I r hw;obtain⟨a,xs,e1,hq,hl,hw⟩:=hw;subst e1;cases r;obtain⟨its,rv,ht,hz⟩:=I.tuple hq;refine assign_Tuple_tuple (I.ok.hd hc) ht (by simp[hn,<-hl,rv.length]) Ck λh' hx=>?_;have I1:Inv X pins σ H {s with heap:=h'}:=I.kept (t':=s.toks) λb o e=>hx b o (aw (au e)) e;exact h pins _ σ H xs _ Q I1 (by simpa using rv) hw
noncomputable def PV(to ti:TE)(t:zS):TG:=λv σ H Q=>to σ H λo H1=>ti σ H1 λi H2=>t o i v H2 λH3=>Q σ H3
theorem PX{o i:ba}{to ti:TE}{t:zS}(ho:PE X o to)(hi:PE X i ti)(hs:FG X t)(ha:∀v,assign (.Subscript o i pos) X.env v=(do
   let ov <-holding [v] (eval o X.env)
   let iv <-holding [v,ov] (eval i X.env)
   standAt pos
   holding [v,ov,iv] (setItem ov iv v)
   release [v,ov,iv] []):=by intro _;rfl):PG X (.Subscript o i pos) (PV to ti t):=by
 intro pins s σ H v u Q I r h;rw[ha];refine ae (fg (aH (ho pins s σ H _ I h) λov s1⟨x,H1,I1,r1,q1⟩=>?_));refine ae (fg (aH (hi pins s1 σ H1 _ I1 q1) λiv s2⟨y,H2,I2,r2,q2⟩=>?_));refine ae (jn (ae (fg (aH (hs pins s2 σ H2 x y v ov iv u _ I2 r1 r2 r q2) λ_ s3⟨H3,I3,q3⟩=>?_))));exact wpAny_release ⟨σ,H3,I3,q3⟩
noncomputable def rY(te:TE)(g:TG):TS:=λD σ H=>te σ H λx H1=>g x σ H1 D.nx
theorem zT{tg e:ba}{te:TE}{g:TG}(he:PE X e te)(hg:PG X tg g)(hs:swapsWithSole [tg] e pos.line X.env=pure false:=by rfl)(hw:swappedStores [tg] e X.env=pure none:=by rfl)(h1:(assignEach [tg] X.env).map (·.2)=[assign tg X.env]:=by rfl):PS X (.Assign [tg] e pos) (rY te g):=by
 intro pins s σ H D I h;refine wpAny_Assign_stores (aH (he pins s σ H _ I h) λv s1⟨x,H1,I1,r1,q1⟩=>?_) hs hw;rw[h1];exact aH (hg pins s1 σ H1 x v _ I1 r1 q1) λ_ s2 q=>q
theorem vE{i:Nat}{x:Str}{e:ba}{te:TE}{pos':Pos}(hN:X.N.Nodup)(hi:X.N[i]?=some x)(hx:kD X.env.scope x)(he:PE X e te)(hs:swapsWith e (some (.Name x pos')) pos.line X.env=pure false:=by rfl)(hf:X.fn x=true∨X.env.scope.names.lookup x=some .local:=by first|exact .inl rfl|exact .inr rfl|assumption):
  PS X (.Assign [.Name x pos'] e pos) (rY te (vD i)):=by
 intro pins s σ H D I h;refine wpAny_Assign_Name (aH (he pins s σ H _ I h) λv s1⟨y,H1,I1,r1,q1⟩=>?_) hs;exact zQ I1 hN hi hx r1 (λs2 I2=>⟨_,H1,I2,q1⟩) hf
end
structure It where
 go:Nat->Hp->Prop
 yld:Nat->Hp->V->Hp->Prop
 stop:Nat->Hp->Prop
noncomputable def bQ(X:Cx)(pins:List (ah×Obj))(H:Hp)(b:ah):Prop:=H b=none/\b≠X.env.locals/\b∉X.fs/\(b∈X.ex∨X.s₀.heap.objs.size<=b)/\(∀x c,X.env.cells.lookup x=some c->c≠b)/\∀p∈X.pn++pins,p.1≠b
theorem Inv.fpOk{X:Cx}{pins:List (ah×Obj)}{σ:St}{H H':Hp}{s:ag}{b:ah}(I:Inv X pins σ H s)(hb:s.heap.objs.size<=b)(hn:H' b=none):bQ X pins H' b:=by
 refine⟨hn,ju (ar I.lt hb),I.nofs hb,.inr (cm I.sz hb),λx c e z=>?_,λp hp z=>?_⟩
 ·obtain⟨v,q⟩:=I.cell x c e;exact absurd (ar q.lt (by rw[z];exact hb)) (fe _)
 ·exact absurd (ar (au (I.pin p hp).1) (by rw[z];exact hb)) (fe _)
structure Turn(P:bg)(w:bu)(K:ak)(tg:ba)(J:It)(fp:List ah)(it:ah)(tn:Nat->bx->Prop):Prop where
 mem:it∈fp
 obj:∀i h,tn i h->∀b∈fp,∃o,h.get? b=some o/\∀v,o.data≠.cell v
 keep:∀i h h',tn i h->(∀b∈fp,∀o,h.get? b=some o->h'.get? b=some o)->tn i h'
 item:∀(X:Cx),X.prog=P->X.w=w->X.K=K->X.calm=true->∀(i:Nat)(pins:List (ah×Obj))(s:ag)(σ:St)(H:Hp)(E:af->ag->Prop),Inv X pins σ H s->(∀b∈fp,bQ X pins H b)->tn i s.heap->J.go i H->
  wpAny (model P w) X.A (pyNext (.ref it)) (λr s1=>∃u,r=some u/\
   wpAny (model P w) X.A (letOwnedTupleGo tg (.ref it) u) (λ_ s2=>∃x H',Inv X pins σ H' s2/\RelV x u/\J.yld i H x H'/\tn (i+1) s2.heap/\∀b∈fp,H' b=none) E s1) E s
 done:∀(X:Cx),X.prog=P->X.w=w->X.K=K->X.calm=true->∀(i:Nat)(pins:List (ah×Obj))(s:ag)(σ:St)(H:Hp)(E:af->ag->Prop),Inv X pins σ H s->(∀b∈fp,bQ X pins H b)->tn i s.heap->J.stop i H->
  wpAny (model P w) X.A (pyNext (.ref it)) (λr s1=>r=none/\Inv X pins σ H s1) E s
 self:∀(A:bq)(i:Nat)(s:ag)(Q:af->ag->Prop)(E:af->ag->Prop),tn i s.heap->Q (.ref it) s->wpAny (model P w) A (pyIter (.ref it)) Q E s
abbrev TI:=St->Hp->(It->Hp->Prop)->Prop
inductive PIE(X:Cx)(pins:List (ah×Obj))(σ:St)(tg:ba)(R:It->Hp->Prop)(itv:af)(s2:ag):Prop
 |mk (it:ah) (fp:List ah) (tn:Nat->bx->Prop) (J:It) (H':Hp) (h0:itv=.ref it) (h1:Inv X pins σ H' s2) (h2:Turn X.prog X.w X.K tg J fp it tn) (h3:tn 0 s2.heap) (h4:(∀b∈fp,bQ X pins H' b)) (h5:R J H'):PIE X pins σ tg R itv s2
noncomputable def PI(X:Cx)(tg iter:ba)(wi:TI):Prop:=
 ∀(pins:List (ah×Obj))(s:ag)(σ:St)(H:Hp)(R:It->Hp->Prop),Inv X pins σ H s->wi σ H R->
  wpAny (model X.prog X.w) X.A (eval iter X.env) (λv s1=>wpAny (model X.prog X.w) X.A (pyIter v) (PIE X pins σ tg R) X.xe s1) X.xe s
theorem zU{M:xq}{A:bq}{E:af->ag->Prop}{s:ag}{tg:ba}{it:ah}{u:af}{o:Obj}{n:String}{vs:Array af}{Q:Unit->ag->Prop}(ho:s.heap.get? it=some o)(hc:o.cls=.type n)(hd:o.data=.fields vs)(hn:["enumerate","zip","dict_itemiterator","dict_reverseitemiterator","odict_iterator","itertools.zip_longest","itertools.pairwise"].contains n=false)(hQ:Q () s):wpAny M A (letOwnedTupleGo tg (.ref it) u) Q E s:=by
 unfold letOwnedTupleGo
 cases tg<;>first
  |exact aj hQ
  |(cases u<;>first
    |exact aj hQ
    |(refine ae (wpAny_load ho ?_);rw[hc,hd];show wpAny M A (if(["enumerate","zip","dict_itemiterator","dict_reverseitemiterator","odict_iterator","itertools.zip_longest","itertools.pairwise"].contains n&&vs[0]?==some (rawInt _))=true then _ else _) Q E s;rw[if_neg (by intro h;rw[hn,Bool.false_and]at h;cases h)];exact aj hQ))
def FI(K:ak)(a:ah):It:=⟨λi H=>∃xs x,Bb K H a xs/\xs[i]?=some x,λi H x H'=>H'=H/\∀xs,Bb K H a xs->xs[i]?=some x,λi H=>∃xs,Bb K H a xs/\xs.length<=i⟩
def zV(K:ak)(a:ah):It:=⟨λi H=>∃xs x,Ap K H a xs/\xs[i]?=some x,λi H x H'=>H'=H/\∀xs,Ap K H a xs->xs[i]?=some x,λi H=>∃xs,Ap K H a xs/\xs.length<=i⟩
noncomputable def rZ(lo:Int)(n:Nat):It:=⟨λi _=>i<n,λi H x H'=>H'=H/\x=.int (lo+i),λi _=>n<=i⟩
theorem PY{P:bg}{w:bu}{K:ak}{tg:ba}(a it:ah):Turn P w K tg (FI K a) [it] it (λi h=>h.IsListIter it a i) where
 mem:=by simp
 obj:=λi h st b hb=>by
  have e:b=it:=by simpa using hb
  subst e;obtain⟨o,e,c,d⟩:=st;exact⟨o,e,λv z=>by rw[d]at z;cases z⟩
 keep:=λi h h' st k=>st.at λo e=>k it (by simp) o e
 item:=by intro X hP hw hK hc i pins s σ H E I hf st hg;subst hP hw hK;obtain⟨xs,x,hq,hx⟩:=hg;obtain⟨its,rv,p,hz⟩:=I.list hq;obtain⟨u,hu,ru⟩:=rv.get hx;obtain⟨f0,f1,f2,f3,f4,f5⟩:=hf it (by simp);refine wpAny_pyNext_list_item st p.isList (x:=u) (by simpa using hu) λh' Ca sb=>?_;have I1:Inv X pins σ H {s with heap:=h'}:=I.turned (t':=s.toks) (λb o hb e=>(sb.2 b hb).trans e) f0 f1 f3 f4 f5;obtain⟨o,e,c,d⟩:=id Ca;exact⟨u,rfl,zU (s:={s with heap:=h'}) e c d (by decide) ⟨x,H,I1,ru,⟨rfl,λys hy=>by rw[I.list_inj hy hq];exact hx⟩,Ca,λb hb=>(hf b hb).1⟩⟩
 done:=by intro X hP hw hK hc i pins s σ H E I hf st hg;subst hP hw hK;obtain⟨xs,hq,hx⟩:=hg;obtain⟨its,rv,p,hz⟩:=I.list hq;obtain⟨f0,f1,f2,f3,f4,f5⟩:=hf it (by simp);have hl:=rv.length;exact wpAny_pyNext_list_end (I.ok.hd hc) st p.isList (by simp;lia) λh' eb=>⟨rfl,I.turned (t':=s.toks) (λb o hb e=>eb b o hb e) f0 f1 f3 f4 f5⟩
 self:=λ_ _ _ _ _ st h=>wpAny_pyIter_listiter st h
theorem PZ{P:bg}{w:bu}{K:ak}{tg:ba}(a it:ah):Turn P w K tg (zV K a) [it] it (λi h=>h.IsTupleIter it a i) where
 mem:=by simp
 obj:=λi h st b hb=>by
  have e:b=it:=by simpa using hb
  subst e;obtain⟨o,e,c,d⟩:=st;exact⟨o,e,λv z=>by rw[d]at z;cases z⟩
 keep:=λi h h' st k=>st.at λo e=>k it (by simp) o e
 item:=by intro X hP hw hK hc i pins s σ H E I hf st hg;subst hP hw hK;obtain⟨xs,x,hq,hx⟩:=hg;obtain⟨its,rv,p,hz⟩:=I.tuple hq;obtain⟨u,hu,ru⟩:=rv.get hx;obtain⟨f0,f1,f2,f3,f4,f5⟩:=hf it (by simp);refine wpAny_pyNext_tuple_item st (show s.heap.IsTuple a its.toArray from p) (x:=u) (by simpa using hu) λh' Ca sb=>?_;have I1:Inv X pins σ H {s with heap:=h'}:=I.turned (t':=s.toks) (λb o hb e=>(sb.2 b hb).trans e) f0 f1 f3 f4 f5;obtain⟨o,e,c,d⟩:=id Ca;exact⟨u,rfl,zU (s:={s with heap:=h'}) e c d (by decide) ⟨x,H,I1,ru,⟨rfl,λys hy=>by rw[I.tuple_inj hy hq];exact hx⟩,Ca,λb hb=>(hf b hb).1⟩⟩
 done:=by intro X hP hw hK hc i pins s σ H E I hf st hg;subst hP hw hK;obtain⟨xs,hq,hx⟩:=hg;obtain⟨its,rv,p,hz⟩:=I.tuple hq;obtain⟨f0,f1,f2,f3,f4,f5⟩:=hf it (by simp);have hl:=rv.length;exact wpAny_pyNext_tuple_end (I.ok.hd hc) st (show s.heap.IsTuple a its.toArray from p) (by simp;lia) λh' eb=>⟨rfl,I.turned (t':=s.toks) (λb o hb e=>eb b o hb e) f0 f1 f3 f4 f5⟩
 self:=λ_ _ _ _ _ st h=>wpAny_pyIter_tupleiter st h
theorem P0{P:bg}{w:bu}{K:ak}{tg:ba}(it:ah)(lo:Int)(n:Nat):Turn P w K tg (rZ lo n) [it] it (λi h=>IsRangeIter h it (lo+(i:Nat)*1) ((n:Int)-(i:Nat)) 1) where
 mem:=by simp
 obj:=λi h st b hb=>by
  have e:b=it:=by simpa using hb
  subst e;exact⟨_,st,λv z=>by
   have z':Data.fields _=Data.cell v:=z
   cases z'⟩
 keep:=λi h h' st k=>k it (by simp) _ st
 item:=by intro X hP hw hK hc i pins s σ H E I hf st hg;subst hP hw hK;obtain⟨f0,f1,f2,f3,f4,f5⟩:=hf it (by simp);have W:=Walks.range (prog:=X.prog) (w:=X.w) (I.ok.hd hc) it lo 1 n;refine W.item i s _ _ hg st λv h' tk hv Ca kk=>?_;obtain⟨t,rfl⟩:=hv;have I1:Inv X pins σ H {s with heap:=h',toks:=tk}:=I.turned (λb o hb e=>kk b o (by simpa using hb) e) f0 f1 f3 f4 f5;refine⟨_,rfl,zU (s:={s with heap:=h',toks:=tk}) (n:="range_iterator") Ca rfl rfl (by decide) ⟨.int (lo+i),H,I1,⟨t,?_⟩,⟨rfl,rfl⟩,Ca,λb hb=>(hf b hb).1⟩⟩;rw[Int.mul_one]
 done:=by intro X hP hw hK hc i pins s σ H E I hf st hg;subst hP hw hK;obtain⟨f0,f1,f2,f3,f4,f5⟩:=hf it (by simp);exact wpAny_pyNext_range_end (I.ok.hd hc) st (by have:n<=i:=hg;lia) λh' eb=>⟨rfl,I.turned (t':=s.toks) (λb o hb e=>eb b o hb e) f0 f1 f3 f4 f5⟩
 self:=λ_ _ _ _ _ st h=>wpAny_pyIter_rangeiter st h
section
variable{X:Cx}{tg:ba}
def P1(K:ak)(tl:TE):TI:=λσ H R=>tl σ H λx H1=>∃a,x=.ref a/\(∃xs,Bb K H1 a xs)/\R (FI K a) H1
def P2(K:ak)(tl:TE):TI:=λσ H R=>tl σ H λx H1=>∃a,x=.ref a/\(∃xs,Ap K H1 a xs)/\R (zV K a) H1
theorem P4{l:ba}{tl:TE}(hl:PE X l tl):PI X tg l (P1 X.K tl):=by
 intro pins s σ H R I h;refine aH (hl pins s σ H _ I h) λv s1⟨x,H1,I1,r1,q1⟩=>?_;obtain⟨a,e,⟨xs,hq⟩,q⟩:=q1;subst e;cases r1;obtain⟨its,rv,p,hz⟩:=I1.list hq;refine nu p.isList ?_;refine⟨s1.heap.objs.size,[s1.heap.objs.size],_,_,H1,rfl,I1.kept (t':=s1.toks) λb o e=>ai _ e,PY a _,⟨_,ax _ rfl,rfl,rfl⟩,λb hb=>?_,q⟩;have e:b=s1.heap.objs.size:=by simpa using hb
 subst e;exact I1.fpOk (aq _) (I1.hok.fresh (aq _))
theorem P5{l:ba}{tl:TE}(hl:PE X l tl):PI X tg l (P2 X.K tl):=by
 intro pins s σ H R I h;refine aH (hl pins s σ H _ I h) λv s1⟨x,H1,I1,r1,q1⟩=>?_;obtain⟨a,e,⟨xs,hq⟩,q⟩:=q1;subst e;cases r1;obtain⟨its,rv,p,hz⟩:=I1.tuple hq;refine rf (show s1.heap.IsTuple a its.toArray from p) ?_;refine⟨s1.heap.objs.size,[s1.heap.objs.size],_,_,H1,rfl,I1.kept (t':=s1.toks) λb o e=>ai _ e,PZ a _,⟨_,ax _ rfl,rfl,rfl⟩,λb hb=>?_,q⟩;have e:b=s1.heap.objs.size:=by simpa using hb
 subst e;exact I1.fpOk (aq _) (I1.hok.fresh (aq _))
theorem FJ{pins:List (ah×Obj)}{σ:St}{H:Hp}{s:ag}{R:It->Hp->Prop}{E:af->ag->Prop}{lo hi:Int}{t u v:Tok}{tk:Nat}(I:Inv X pins σ H s)(h1:-(2^62)<=lo)(h2:lo<2^62)(h3:-(2^62)<=hi)(h4:hi<2^62)(q:R (rZ lo (hi-lo).toNat) H):wpAny (model X.prog X.w) X.A (pyIter (.ref s.heap.objs.size)) (PIE X pins σ tg R) E {s with heap:=s.heap.push {cls:=.type "range",data:=.fields #[.int lo t,.int hi u,.int 1 v]},toks:=tk}:=by
 refine wpAny_pyIter_range (IsRange.new ..) (small_one h1 h2 h3 h4) ?_;have I1:Inv X pins σ H {s with heap:=s.heap.push {cls:=.type "range",data:=.fields #[.int lo t,.int hi u,.int 1 v]},toks:=tk}:=I.kept λb o e=>ai _ e;refine⟨(s.heap.push {cls:=.type "range",data:=.fields #[.int lo t,.int hi u,.int 1 v]}).objs.size,[(s.heap.push {cls:=.type "range",data:=.fields #[.int lo t,.int hi u,.int 1 v]}).objs.size],_,_,H,rfl,
  I1.kept (t':=tk) λb o e=>ai _ e,P0 _ lo (hi-lo).toNat,?_,λb hb=>?_,q⟩
 ·have e1:lo+((0:Nat):Int)*1=lo:=by simp
  have e2:(((hi-lo).toNat:Nat):Int)-((0:Nat):Int)=Builtin.Range.rangeSize lo hi 1:=by rw[rangeSize_one];split<;>lia
  show IsRangeIter _ _ (lo+((0:Nat):Int)*1) ((((hi-lo).toNat:Nat):Int)-((0:Nat):Int)) 1;rw[e1,e2];exact ax _ rfl
 ·have e:b=(s.heap.push {cls:=.type "range",data:=.fields #[.int lo t,.int hi u,.int 1 v]}).objs.size:=by simpa using hb
  subst e;exact I1.fpOk (aq _) (I1.hok.fresh (aq _))
def P6(ta:TA):TI:=λσ H R=>ta σ H λvs H1=>∃j:Int,vs=[.int j]/\-(2^62)<=j/\j<2^62/\R (rZ 0 j.toNat) H1
def P7(ta:TA):TI:=λσ H R=>ta σ H λvs H1=>∃i j:Int,vs=[.int i,.int j]/\(-(2^62)<=i/\i<2^62/\-(2^62)<=j/\j<2^62)/\R (rZ i (j-i).toNat) H1
theorem P8{a:ba}{ta:TA}{p pos:Pos}(hg:Gl X "range")(hm:X.mg "range"=none)(ha:PA X [a] ta)(hs:ao [a] X.env=[(false,eval a X.env)]:=by rfl):PI X tg (.Call (.Name "range" p) [a] [] pos) (P6 ta):=by
 intro pins s σ H R I h;refine Call_ (oS I hg hm boot_range (km (aH (ha pos pins s σ H _ I h) λus s1⟨vs,H1,I1,r1,q1⟩=>?_) hs rfl));obtain⟨j,e,q1,q2,q⟩:=q1;subst e
 cases r1 with
 |cons r rr=>cases rr;obtain⟨t,rfl⟩:=r;exact call_range_1 (FJ I1 (by lia) (by lia) q1 q2 (by simpa using q))
theorem P9{a b:ba}{ta:TA}{p pos:Pos}(hg:Gl X "range")(hm:X.mg "range"=none)(ha:PA X [a,b] ta)(hs:ao [a,b] X.env=[(false,eval a X.env),(false,eval b X.env)]:=by rfl)(hs2:ao [b] X.env=[(false,eval b X.env)]:=by rfl):
  PI X tg (.Call (.Name "range" p) [a,b] [] pos) (P7 ta):=by
 intro pins s σ H R I h;refine Call_ (oS I hg hm boot_range (km (aH (ha pos pins s σ H _ I h) λus s1⟨vs,H1,I1,r1,q1⟩=>?_) (by rw[hs,hs2]) (by rw[hs2];rfl)));obtain⟨i,j,e,⟨q1,q2,q3,q4⟩,q⟩:=q1;subst e
 cases r1 with
 |cons r rr=>
  cases rr with
  |cons r' rr=>cases rr;obtain⟨t,rfl⟩:=r;obtain⟨t',rfl⟩:=r';exact call_range_2 (FJ I1 q1 q2 q3 q4 q)
noncomputable def QA(wi:TI)(g:TG)(tb:TS):TS:=λD σ H=>wi σ H λJ H1=>∃W:Nat->Nat->St->Hp->Prop,(∃m,W 0 m σ H1)/\∀i m σ H,W i m σ H->
 (J.stop i H/\D.nx σ H)∨(J.go i H/\∃N:St->Hp->Prop,(∀σ' H',N σ' H'->∃m',m'<m/\W (i+1) m' σ' H')/\∀x H',J.yld i H x H'->g x σ H' λσ2 H2=>tb {D with nx:=N,ct:=N,bk:=D.nx} σ2 H2)
noncomputable def fS(fp:List ah)(h:bx):List (ah×Obj):=fp.filterMap λb=>(h.get? b).map λo=>(b,o)
theorem lD{fp:List ah}{h:bx}{b:ah}{o:Obj}(hb:b∈fp)(e:h.get? b=some o):(b,o)∈fS fp h:=ko.mpr ⟨b,hb,by rw[e];rfl⟩
theorem sA{fp:List ah}{h:bx}{p:ah×Obj}(hp:p∈fS fp h):p.1∈fp/\h.get? p.1=some p.2:=by
 obtain⟨b,hb,e⟩:=ko.mp hp
 cases q:h.get? b with
 |none=>rw[q]at e;cases e
 |some o=>rw[q]at e;have e':(b,o)=p:=de e;subst e';exact⟨hb,q⟩
theorem Inv.pinned{pins:List (ah×Obj)}{σ:St}{H:Hp}{s:ag}{fp:List ah}(I:Inv X pins σ H s)(hf:∀b∈fp,bQ X pins H b)(ho:∀b∈fp,∃o,s.heap.get? b=some o/\∀v,o.data≠.cell v):Inv X (pins++fS fp s.heap) σ H s:=I.pins_of λp hp=>(cz.mp hp).elim (λz=>I.pin p (bc _ z)) λz=>by obtain⟨hb,e⟩:=sA z;obtain⟨f0,f1,f2,_⟩:=hf p.1 hb;obtain⟨o,e',d⟩:=ho p.1 hb;rw[e]at e';cases e';exact⟨e,f0,f1,f2,d⟩
theorem Inv.unpinned{pins pl:List (ah×Obj)}{σ:St}{H:Hp}{s:ag}(I:Inv X (pins++pl) σ H s):Inv X pins σ H s:=I.pins_of λp hp=>I.pin p (bc _ (cu _ hp))
theorem QB{iter:ba}{body:List fj}{wi:TI}{g:TG}{tb:TS}{pos:Pos}(hp:PassesOwn (model X.prog X.w) X.A X.env X.xe)(hc:X.calm=true)(hi:PI X tg iter wi)(hg:PG X tg g)(hb:Du X body tb)(hs:∀x,foldedSetIterable iter X.env x=pure x:=by intro _;rfl):PS X (.For tg iter body [] pos) (QA wi g tb):=by
 intro pins s σ H D I h;refine wpAny_For (aH (hi pins s σ H _ I h) λv s1 h1=>aH h1 λitv s2 h2=>?_) hs;obtain⟨it,fp,tn,J,H2,e,I2,T,Cp,f2,W,⟨m0,w0⟩,turn⟩:=h2;subst e;have stat:∀{H':Hp},(∀b∈fp,H' b=none)->∀b∈fp,bQ X pins H' b:=λhn b hb=>⟨hn b hb,(f2 b hb).2⟩
 refine codeAny_forLoop_any (λn s'=>∃i σ' H',Inv X pins σ' H' s'/\tn i s'.heap/\(∀b∈fp,H' b=none)/\W i n σ' H') ?_ m0 ⟨0,σ,H2,I2,Cp,λb hb=>(f2 b hb).1,w0⟩
 rintro n s3 ⟨i,σ3,H3,I3,st3,fr3,w3⟩
 rcases turn i n σ3 H3 w3 with⟨stop,qn⟩|⟨go,N,hN,step⟩
 ·refine qg hp (aH (T.done X rfl rfl rfl hc i pins s3 σ3 H3 X.xe I3 (stat fr3) st3 stop) λr s4⟨hr,I4⟩=>?_);subst hr;exact qf ⟨σ3,H3,I4,qn⟩
 ·refine qg hp (aH (T.item X rfl rfl rfl hc i pins s3 σ3 H3 X.xe I3 (stat fr3) st3 go) λr s4⟨u,hr,h4⟩=>?_);subst hr;refine qg hp (aH h4 λ_ s5⟨x,H5,I5,r5,y5,Dk,fr5⟩=>?_);have I5':=I5.pinned (stat fr5) (T.obj _ _ Dk);refine qg hp (aH (hg _ s5 σ3 H5 x u _ I5' r5 (step x H5 y5)) λ_ s6⟨σ6,H6,I6,q6⟩=>?_);refine qg hp (aH (hb _ s6 σ6 H6 _ I6 q6) λf s7 q7=>?_);have again:∀{σ7:St}{H7:Hp},Inv X (pins++fS fp s5.heap) σ7 H7 s7->N σ7 H7->∃m,m<n/\∃i σ' H',Inv X pins σ' H' s7/\tn i s7.heap/\(∀b∈fp,H' b=none)/\W i m σ' H':=λ{σ7 H7}I7 n7=>by obtain⟨m',hm,w7⟩:=hN σ7 H7 n7;refine⟨m',hm,i+1,σ7,H7,I7.unpinned,T.keep _ _ _ Dk λb hb o e=>(I7.pin (b,o) (bc _ (bc _ (lD hb e)))).1,λb hb=>?_,w7⟩;obtain⟨o,e,d⟩:=T.obj _ _ Dk b hb;exact(I7.pin (b,o) (bc _ (bc _ (lD hb e)))).2.1
  cases f with
  |next=>obtain⟨σ7,H7,I7,n7⟩:=q7;exact again I7 n7
  |cont=>obtain⟨σ7,H7,I7,n7⟩:=q7;exact again I7 n7
  |brk=>obtain⟨σ7,H7,I7,q7⟩:=q7;exact⟨σ7,H7,I7.unpinned,q7⟩
  |ret v=>obtain⟨x7,σ7,H7,I7,r7,q7⟩:=q7;exact⟨x7,σ7,H7,I7.unpinned,r7,q7⟩
end
abbrev R2:=V->V->Hp->VK->Prop
def Bi(X:Cx)(f:af->af->Sem af)(r:R2):Prop:=
 ∀(pins:List (ah×Obj))(s:ag)(σ:St)(H:Hp)(x y:V)(v u:af)(Q:VK),Inv X pins σ H s->RelV x v->RelV y u->r x y H Q->
  wpAny (model X.prog X.w) X.A (f v u) (EP X pins σ Q) X.xe s
def vF(X:Cx)(f:af->Sem af)(r:V->Hp->VK->Prop):Prop:=
 ∀(pins:List (ah×Obj))(s:ag)(σ:St)(H:Hp)(x:V)(v:af)(Q:VK),Inv X pins σ H s->RelV x v->r x H Q->
  wpAny (model X.prog X.w) X.A (f v) (EP X pins σ Q) X.xe s
def Am(X:Cx)(f:af)(r:List V->Hp->VK->Prop):Prop:=
 ∀(pins:List (ah×Obj))(s:ag)(σ:St)(H:Hp)(xs:List V)(us:List af)(Q:VK),Inv X pins σ H s->Ae xs us->r xs H Q->
  wpAny (model X.prog X.w) X.A (call f us) (EP X pins σ Q) X.xe s
def QC(X:Cx)(r:V->Hp->(Bool->Hp->Prop)->Prop):Prop:=
 ∀(pins:List (ah×Obj))(s:ag)(σ:St)(H:Hp)(x:V)(v:af)(Q:Bool->Hp->Prop),Inv X pins σ H s->RelV x v->r x H Q->
  wpAny (model X.prog X.w) X.A (truthy v) (TP X pins σ Q) X.xe s
noncomputable def sC(r:R2)(ta tb:TE):TE:=λσ H Q=>ta σ H λx H1=>tb σ H1 λy H2=>r x y H2 Q
noncomputable def QD(r:V->Hp->VK->Prop)(ta:TE):TE:=λσ H Q=>ta σ H λx H1=>r x H1 Q
def rI(C:Int->Int->Prop)(g:Int->Int->V):R2:=λx y H Q=>∃i j,x=.int i/\y=.int j/\C i j/\Q (g i j) H
noncomputable def lE(g:Int->Int->V):R2:=λx y H Q=>∃i j,x=.int i/\y=.int j/\Q (g i j) H
def rU(g:Int->V):V->Hp->VK->Prop:=λx H Q=>∃i,x=.int i/\Q (g i) H
section
variable{X:Cx}{a b c:ba}{ta tb tc:TE}{pos:Pos}
theorem zW(ha:PE X a ta)(hb:PE X b tb){pins:List (ah×Obj)}{s:ag}{σ:St}{H:Hp}{R:V->V->Hp->Prop}(I:Inv X pins σ H s)(h:ta σ H λx H1=>tb σ H1 λy H2=>R x y H2){Q:af->ag->Prop}{f:af->af->Sem af}(hf:∀v u s2 x y H2,Inv X pins σ H2 s2->RelV x v->RelV y u->R x y H2->wpAny (model X.prog X.w) X.A (f v u) Q X.xe s2):
  wpAny (model X.prog X.w) X.A (eval a X.env) (λv s₁=>wpAny (model X.prog X.w) X.A (eval b X.env) (λu s₂=>wpAny (model X.prog X.w) X.A (f v u) Q X.xe s₂) X.xe s₁) X.xe s:=by
 refine aH (ha pins s σ H _ I h) λv s1⟨x,H1,I1,r1,q1⟩=>?_;refine aH (hb pins s1 σ H1 _ I1 q1) λu s2⟨y,H2,I2,r2,q2⟩=>?_;exact hf v u s2 x y H2 I2 r1 r2 q2
theorem QE{op:Operator}{r:R2}(ho:Bi X (binaryOp op) r)(ha:PE X a ta)(hb:PE X b tb):PE X (.BinOp a op b pos) (sC r ta tb):=by intro pins s σ H Q I h;exact wpAny_BinOp (zW ha hb I h λv u s2 x y H2 I2 rx ry q=>ho pins s2 σ H2 x y v u Q I2 rx ry q)
theorem QF{op:UnaryOp}{r:V->Hp->VK->Prop}(ho:vF X (unaryOp op) r)(ha:PE X a ta):PE X (.UnaryOp op a pos) (QD r ta):=by intro pins s σ H Q I h;exact UnaryOp_ (aH (ha pins s σ H _ I h) λv s1⟨x,H1,I1,r1,q1⟩=>ho pins s1 σ H1 x v Q I1 r1 q1)
theorem QG{f:af->af->Sem af}{C:Int->Int->Prop}{g:Int->Int->Int}(rule:∀(i j:Int)(t u:Tok)(s:ag)(Q:af->ag->Prop)(E:af->ag->Prop),C i j->Q (.int (g i j) s.toks) {s with toks:=s.toks+1}->wpAny (model X.prog X.w) X.A (f (.int i t) (.int j u)) Q E s):
  Bi X f (rI C λi j=>.int (g i j)):=by
 intro pins s σ H x y v u Q I rx ry h;obtain⟨i,j,rfl,rfl,hc,q⟩:=h;obtain⟨t,rfl⟩:=rx;obtain⟨t',rfl⟩:=ry;exact rule i j t t' s _ _ hc ⟨.int (g i j),H,I.tok _,⟨_,rfl⟩,q⟩
theorem FK{f:af->af->Sem af}{g:Int->Int->Int}(rule:∀(i j:Int)(t u:Tok)(s:ag)(Q:af->ag->Prop)(E:af->ag->Prop),Q (.int (g i j) s.toks) {s with toks:=s.toks+1}->wpAny (model X.prog X.w) X.A (f (.int i t) (.int j u)) Q E s):
  Bi X f (lE λi j=>.int (g i j)):=by
 intro pins s σ H x y v u Q I rx ry h;obtain⟨i,j,rfl,rfl,q⟩:=h;obtain⟨t,rfl⟩:=rx;obtain⟨t',rfl⟩:=ry;exact rule i j t t' s _ _ ⟨.int (g i j),H,I.tok _,⟨_,rfl⟩,q⟩
theorem FL{f:af->af->Sem af}{g:Int->Int->Bool}(rule:∀(i j:Int)(t u:Tok)(s:ag)(Q:af->ag->Prop)(E:af->ag->Prop),Q (.bool (g i j)) s->wpAny (model X.prog X.w) X.A (f (.int i t) (.int j u)) Q E s):
  Bi X f (lE λi j=>.bl (g i j)):=by
 intro pins s σ H x y v u Q I rx ry h;obtain⟨i,j,rfl,rfl,q⟩:=h;obtain⟨t,rfl⟩:=rx;obtain⟨t',rfl⟩:=ry;exact rule i j t t' s _ _ ⟨.bl (g i j),H,I,rfl,q⟩
theorem op_add:Bi X (binaryOp .Add) (lE λi j=>.int (i+j)):=FK λ_ _ _ _ _ _ _ q=>add_int q
theorem QH:Bi X (binaryOp .Sub) (lE λi j=>.int (i-j)):=FK λ_ _ _ _ _ _ _ q=>sub_int q
theorem QI:Bi X (binaryOp .Mod) (rI (λ_ j=>0<j) λi j=>.int (i%j)):=QG λi j _ _ _ _ _ hc q=>by have h1:(0:Int)<j:=hc;exact mod_int' (by lia) (by rw[Int.fmod_eq_emod_of_nonneg i (by lia)];exact q)
theorem QJ{f:af->Sem af}{g:Int->Int}(rule:∀(i:Int)(t:Tok)(s:ag)(Q:af->ag->Prop)(E:af->ag->Prop),Q (.int (g i) s.toks) {s with toks:=s.toks+1}->wpAny (model X.prog X.w) X.A (f (.int i t)) Q E s):
  vF X f (rU λi=>.int (g i)):=by
 intro pins s σ H x v Q I rx h;obtain⟨i,rfl,q⟩:=h;obtain⟨t,rfl⟩:=rx;exact rule i t s _ _ ⟨.int (g i),H,I.tok _,⟨_,rfl⟩,q⟩
theorem QK:vF X (unaryOp .USub) (rU λi=>.int (-i)):=QJ λ_ _ _ _ _ q=>neg_int q
end
section
variable{X:Cx}{a b c:ba}{ta tb tc:TE}{pos:Pos}
theorem QL{pins:List (ah×Obj)}{σ:St}{H:Hp}{s:ag}{Q:VK}{k k':Bool}(I:Inv X pins σ H s)(q:Q (.bl k) H)(e:k=k'):EP X pins σ Q (.bool k') s:=by subst e;exact⟨.bl k,H,I,rfl,q⟩
theorem QM:Bi X (compareOp .Lt) (lE λi j=>.bl (decide (i<j))):=FL λ_ _ _ _ _ _ _ q=>lt_int q
theorem vG:Bi X (compareOp .LtE) (lE λi j=>.bl (decide (i<=j))):=FL λ_ _ _ _ _ _ _ q=>le_int q
theorem QN:Bi X (compareOp .NotIn) (λx y H Q=>∃i j,x=.str i/\y=.str j/\Q (.bl (!(!(ie j i 0 j.length 1).isEmpty))) H):=by intro pins s σ H x y v u Q I rx ry h;obtain⟨i,j,rfl,rfl,q⟩:=h;obtain⟨t,rfl⟩:=rx;obtain⟨t',rfl⟩:=ry;exact notIn_str (QL I q rfl)
theorem Bi.or{f:af->af->Sem af}{r r':R2}(h:Bi X f r)(h':Bi X f r'):Bi X f (λx y H Q=>r x y H Q∨r' x y H Q):=by
 intro pins s σ H x y v u Q I rx ry q
 rcases q with q|q
 ·exact h pins s σ H x y v u Q I rx ry q
 ·exact h' pins s σ H x y v u Q I rx ry q
theorem sD(b:ba){op:yr}(h:op≠.In:=by decide)(h2:op≠.NotIn:=by decide):behindInMarks op b=false:=by
 have e1:(op==CmpOp.In)=false:=by cases op<;>first|rfl|exact absurd rfl h
 have e2:(op==CmpOp.NotIn)=false:=by cases op<;>first|rfl|exact absurd rfl h2
 cases b<;>simp[behindInMarks,e1,e2]
theorem QO{op:yr}{r:R2}(ho:Bi X (compareOp op) r)(ha:PE X a ta)(hb:PE X b tb)(hm:behindInMarks op b=false):PE X (.Compare a [op] [b] pos) (sC r ta tb):=by intro pins s σ H Q I h;exact wpAny_Compare1 (zW ha hb I h λv u s2 x y H2 I2 rx ry q=>ho pins s2 σ H2 x y v u Q I2 rx ry q) hm
noncomputable def FN(t:TE):TT:=λσ H Q=>t σ H λx H'=>∃k,x=.bl k/\Q k H'
theorem FO{op:yr}{r:R2}(ho:Bi X (compareOp op) r)(ha:PE X a ta)(hb:PE X b tb)(hm:behindInMarks op b=false):PT X (.Compare a [op] [b] pos) (FN (sC r ta tb)):=by intro pins s σ H Q I h;refine wpAny_isTrue_Compare1 (aH (ha pins s σ H _ I h) λv s1⟨x,H1,I1,r1,q1⟩=>aH (hb pins s1 σ H1 _ I1 q1) λu s2⟨y,H2,I2,r2,q2⟩=>aH (ho pins s2 σ H2 x y v u _ I2 r1 r2 q2) λc s3⟨z,H3,I3,r3,k,e,q3⟩=>?_) hm;subst e;cases r3;exact gy ⟨H3,I3,q3⟩
noncomputable def zX(r r':R2)(ta tb tc:TE):TE:=λσ H Q=>ta σ H λx H1=>tb σ H1 λy H2=>r x y H2 λz H3=>∃k,z=.bl k/\
 (if k=true then tc σ H3 λw' H4=>r' y w' H4 Q else Q (.bl false) H3)
theorem QP{op Dm:yr}{r r':R2}(ho:Bi X (compareOp op) r)(Cr:Bi X (compareOp Dm) r')(ha:PE X a ta)(hb:PE X b tb)(hc:PE X c tc)(hm:lastMarks [op,Dm] [b,c]=false:=by with_unfolding_all rfl):PE X (.Compare a [op,Dm] [b,c] pos) (zX r r' ta tb tc):=by
 intro pins s σ H Q I h;refine Compare_chain (aH (ha pins s σ H _ I h) λv s1⟨x,H1,I1,r1,q1⟩=>chain_link (aH (hb pins s1 σ H1 _ I1 q1) λu s2⟨y,H2,I2,r2,q2⟩=>aH (ho pins s2 σ H2 x y v u _ I2 r1 r2 q2) λd s3⟨z,H3,I3,r3,k,e,q3⟩=>?_)) hm;subst e;cases r3;refine gy ?_
 cases k with
 |false=>exact ite_ff ⟨.bl false,H3,I3,rfl,q3⟩
 |true=>exact ite_tt (chain_last (aH (hc pins s3 σ H3 _ I3 q3) λw' s4⟨z',H4,I4,r4,q4⟩=>Cr pins s4 σ H4 y z' u w' Q I4 r2 r4 q4))
theorem QQ{op Dm:yr}{r r':R2}(ho:Bi X (compareOp op) r)(Cr:Bi X (compareOp Dm) r')(ha:PE X a ta)(hb:PE X b tb)(hc:PE X c tc)(hm:lastMarks [op,Dm] [b,c]=false:=by with_unfolding_all rfl):PT X (.Compare a [op,Dm] [b,c] pos) (FN (zX r r' ta tb tc)):=by
 intro pins s σ H Q I h;refine isTrue_chain (aH (ha pins s σ H _ I h) λv s1⟨x,H1,I1,r1,q1⟩=>test_link (aH (hb pins s1 σ H1 _ I1 q1) λu s2⟨y,H2,I2,r2,q2⟩=>aH (ho pins s2 σ H2 x y v u _ I2 r1 r2 q2) λd s3⟨z,H3,I3,r3,k,e,q3⟩=>?_)) hm;subst e;cases r3;refine gy ?_
 cases k with
 |false=>obtain⟨k',e',q'⟩:=q3;cases e';exact ite_ff ⟨H3,I3,q'⟩
 |true=>refine ite_tt (test_last (aH (hc pins s3 σ H3 _ I3 q3) λw' s4⟨z',H4,I4,r4,q4⟩=>aH (Cr pins s4 σ H4 y z' u w' _ I4 r2 r4 q4) λd' s5⟨z2,H5,I5,r5,k2,e2,q5⟩=>?_));subst e2;cases r5;exact gy ⟨H5,I5,q5⟩
def zY(K:ak)(x:V)(H:Hp)(k:Bool):Prop:=
 match x with
 |.non=>k=false
 |.bl b=>k=b
 |.int i=>k=(i !=0)
 |.str y=>y.length<=bj/\k=((y.length:Int) !=0)
 |.byt y=>y.size<=bj/\k=((y.size:Int) !=0)
 |.ref p=>(∃xs,Bb K H p xs/\k=!xs.isEmpty)∨(∃xs,Ap K H p xs/\k=!xs.isEmpty)∨∃kvs,H p=some (.dK kvs)/\k=!kvs.isEmpty
 |_=>False
theorem QR{κ:Type}{kvs:List (κ×V)}{vs:List (κ×af)}(r:KV kvs vs):(!vs.isEmpty)=!kvs.isEmpty:=by cases r<;>rfl
theorem FP{xs:List V}{its:List af}(r:Ae xs its):(!its.toArray.isEmpty)=!xs.isEmpty:=by cases r<;>simp
theorem qI:(bj:Nat)<2^63:=by rw[ly];decide
theorem FQ:QC X (λx H Q=>∃k,zY X.K x H k/\Q k H):=by
 intro pins s σ H x v Q I rx h;obtain⟨k,e,q⟩:=h;have hl:=qI;have hs:bj=16777216:=ly
 cases x with
 |non=>cases rx;have e':k=false:=e;subst e';exact truthy_none ⟨H,I,q⟩
 |bl b=>cases rx;have e':k=b:=e;subst e';exact gy ⟨H,I,q⟩
 |int i=>obtain⟨t,rfl⟩:=rx;have e':k=(i !=0):=e;subst e';exact PySem.P.truthy_int ⟨H,I,q⟩
 |str y=>obtain⟨t,rfl⟩:=rx;obtain⟨hy,e'⟩:y.length<=bj/\k=((y.length:Int) !=0):=e;subst e';exact PySem.P.truthy_str (by lia) ⟨H,I.tok _,q⟩
 |byt y=>obtain⟨t,rfl⟩:=rx;obtain⟨hy,e'⟩:y.size<=bj/\k=((y.size:Int) !=0):=e;subst e';exact PySem.W.truthy_bytes (by lia) ⟨H,I.tok _,q⟩
 |ref p=>
  cases rx;have e':(∃xs,Bb X.K H p xs/\k=!xs.isEmpty)∨(∃xs,Ap X.K H p xs/\k=!xs.isEmpty)∨∃kvs,H p=some (.dK kvs)/\k=!kvs.isEmpty:=e
  rcases e' with⟨xs,hx,e'⟩|⟨xs,hx,e'⟩|⟨kvs,hx,e'⟩
  ·subst e';obtain⟨its,r,pl,hz⟩:=I.list hx;have hlen:=r.length;exact wpAny_truthy_list pl.isList (by simp only[bf];lia) ⟨H,I.tok _,by rw[FP r];exact q⟩
  ·subst e';obtain⟨its,r,pl,hz⟩:=I.tuple hx;have hlen:=r.length;exact truthy_tuple pl (by simp only[bf];lia) ⟨H,I.tok _,by rw[FP r];exact q⟩
  ·subst e';obtain⟨hz,hS,vs,r,m⟩:kvs.length<=bj/\(p==sysModules)=false/\∃vs,KV kvs vs/\s.heap.DictOf (lC X.prog X.w) p vs:=I.hok p _ hx;have hlen:kvs.length=vs.length:=Paired.length r;exact wpAny_truthy_dict hS m (by lia) ⟨H,I.tok _,by rw[QR r];exact q⟩
 |_=>exact(show False from e).elim
theorem QS(ha:PE X a ta)(he:∀whole,isTrue a X.env whole=(do let v <-whole;standAt a.pos;holding [v] (truthy v))):
  PT X a (λσ H Q=>ta σ H λx H'=>∃k,zY X.K x H' k/\Q k H'):=by
 intro pins s σ H Q I h;exact isTrue_plain (aH (ha pins s σ H _ I h) λv s1⟨x,H1,I1,r1,q1⟩=>FQ pins s1 σ H1 x v Q I1 r1 q1) (he _)
theorem QT:Bi X (binaryOp .Add) (λx y H Q=>∃i j,x=.str i/\y=.str j/\i.length+j.length<=bj/\Q (.str (i++j)) H):=by intro pins s σ H x y v u Q I rx ry h;obtain⟨i,j,rfl,rfl,hz,q⟩:=h;obtain⟨t,rfl⟩:=rx;obtain⟨t',rfl⟩:=ry;exact add_str (λt' tk=>⟨.str (i++j),H,I.tok _,⟨_,rfl⟩,q⟩) hz
theorem gI{x:V}{us:List af}(r:Ae [x] us):∃u,us=[u]/\RelV x u:=by
 cases r with
 |cons r1 r2=>cases r2;exact⟨_,rfl,r1⟩
theorem FR{x y:V}{us:List af}(r:Ae [x,y] us):∃u w',us=[u,w']/\RelV x u/\RelV y w':=by
 cases r with
 |cons r1 r2=>
  cases r2 with
  |cons r3 r4=>cases r4;exact⟨_,_,rfl,r1,r3⟩
theorem QU:Am X (.builtin "abs") (λxs H Q=>∃i,xs=[.int i]/\Q (.int (if i<0 then -i else i)) H):=by intro pins s σ H xs us Q I r h;obtain⟨i,rfl,q⟩:=h;obtain⟨u,rfl,t,rfl⟩:=gI r;exact call_abs_int λu tk=>⟨.int (if i<0 then -i else i),H,I.tok _,⟨_,rfl⟩,q⟩
theorem QV:Am X (.type "str") (λxs H Q=>∃i,xs=[.int i]/\i.natAbs.log2<1920/\Q (.str (toString i)) H):=by intro pins s σ H xs us Q I r h;obtain⟨i,rfl,hz,q⟩:=h;obtain⟨u,rfl,t,rfl⟩:=gI r;exact PySem.P.str_of_int hz ⟨.str _,H,I.tok _,⟨_,rfl⟩,q⟩
def QW(K:ak)(x:V)(H:Hp)(n:Nat):Prop:=
 match x with
 |.str y=>y.length<=bj/\n=y.length
 |.byt y=>y.size<=bj/\n=y.size
 |.ref p=>(∃xs,Bb K H p xs/\n=xs.length)∨∃xs,Ap K H p xs/\n=xs.length
 |_=>False
theorem QX:Am X (.builtin "len") (λxs H Q=>∃x n,xs=[x]/\QW X.K x H n/\Q (.int n) H):=by
 intro pins s σ H xs us Q I r h;obtain⟨x,n,rfl,e,q⟩:=h;obtain⟨u,rfl,rx⟩:=gI r;have hl:=qI;have hs:bj=16777216:=ly
 cases x with
 |str y=>obtain⟨t,rfl⟩:=rx;obtain⟨hy,e'⟩:y.length<=bj/\n=y.length:=e;subst e';exact len_str (by lia) ⟨.int _,H,I.tok _,⟨_,rfl⟩,q⟩
 |byt y=>obtain⟨t,rfl⟩:=rx;obtain⟨hy,e'⟩:y.size<=bj/\n=y.size:=e;subst e';exact PySem.W.len_bytes (by lia) ⟨.int _,H,I.tok _,⟨_,rfl⟩,q⟩
 |ref p=>
  cases rx;have e':(∃xs,Bb X.K H p xs/\n=xs.length)∨∃xs,Ap X.K H p xs/\n=xs.length:=e
  rcases e' with⟨xs,hx,e'⟩|⟨xs,hx,e'⟩
  ·subst e';obtain⟨its,r',pl,hz⟩:=I.list hx;have hlen:=r'.length;exact zb pl.isList (by simp only[bf];lia) ⟨.int xs.length,H,I.tok _,⟨_,by simp only[bf];rw[hlen]⟩,q⟩
  ·subst e';obtain⟨its,r',pl,hz⟩:=I.tuple hx;have hlen:=r'.length;exact len_tuple pl (by simp only[bf];lia) ⟨.int xs.length,H,I.tok _,⟨_,by simp only[bf];rw[hlen]⟩,q⟩
 |_=>exact(show False from e).elim
end
structure Dw(h:bx)(x dx C:ah)(mA:Str->Option af):Prop where
 obj:h.get? x=some (jw C dx)
 ns:h.Ns1 dx mA
 ne:dx≠x
theorem QY{h:bx}{dx:ah}{mA:Str->Option af}(n:h.Ns1 dx mA):∃od,h.get? dx=some od/\∀name,sr name od=some (mA name):=by
 obtain⟨o,es,ep,ho,hd,hk,_,hm⟩:=n;refine⟨o,ho,λname=>?_⟩;have e:=hm name;unfold nsFind findBy at e;rw[<-Array.find?_toList]at e;unfold sr;rw[hd];dsimp only
 split
 ·rename_i y q;rw[q]at e;exact congrArg some e
 ·rename_i q;rw[q]at e;have a:es.toList.any (·.refKey)=false:=by rw[List.any_eq_false];intro y hy;obtain⟨z,t,hkey⟩:=hk y (Array.mem_toList_iff.mp hy);simp[DictEntry.refKey,hkey]
  have a':¬es.toList.any (·.refKey)=true:=by rw[a];exact jc
  rw[if_neg a'];exact congrArg some e
theorem Dw.look{h:bx}{x dx C:ah}{mA:Str->Option af}(I:Dw h x dx C mA):∃od,PySem.W.InstAt h x (jw C dx) C (some od)/\∀name,sr name od=some (mA name):=
 let ⟨od,ho,hl⟩:=QY I.ns
 ⟨od,⟨I.obj,rfl,rfl,ho⟩,hl⟩
section
variable{prog:bg}{w:bu}{A:bq}{E:af->ag->Prop}{s:ag}{K:ak}{x dx C f:ah}{mA:Str->Option af}{name:Str}{v:af}
theorem QZ{expr:Bool}{Q:af->ag->Prop}(X:K.In s.heap)(I:Dw s.heap x dx C mA)(hg:qp K C name=true)(hh:ug K C=true)(ha:jv K (.ref C) name=some none)(hv:mA name=some v)(hv':zh v=true)(h:Q v {s with toks:=s.toks+1}):
  wpAny (model prog w) A (getAttr (.ref x) name expr) Q E s:=by
 obtain⟨od,J,hl⟩:=I.look;exact PySem.W.get_value X J (tu hg).1 (PySem.W.findObj_own hh ha rfl (by rw[hl,hv])) hv' h
theorem Q0{pl:Sem Bool}{Q:af×List af->ag->Prop}(X:K.In s.heap)(I:Dw s.heap x dx C mA)(hg:qp K C name=true)(hf:jv K (.ref C) name=some (some (.ref f)))(ht:xa K (.ref f)=true)(hv:mA name=none)(h:Q (.ref f,[.ref x]) s):
  wpAny (model prog w) A (getMethod (.ref x) name pl) Q E s:=by
 obtain⟨od,J,hl⟩:=I.look;exact PySem.W.method_fn X J (tu hg).1 (tu hg).2 hf (beq_iff_eq.mp ht) (by show(sr name od).map (·.isSome)=some false;rw[hl,hv];rfl) h
theorem Q2{ns:zu}{Q:Unit->ag->Prop}(X:K.In s.heap)(I:Dw s.heap x dx C mA)(hs:jv K (.ref C) "__setattr__"=some (some (.builtin "object.__setattr__")))(hp:zc K C=true)(ht:va K C name=some none)(hh:ug K C=true)(hw:ya mA ns)(hsz:ns.length<=bj)(h:∀h',Dw h' x dx C (λy=>if y=name then some v else mA y)->ic dx s.heap h'->Q () {s with heap:=h',toks:=s.toks+2}):
  wpAny (model prog w) A (setAttr (.ref x) name v) Q E s:=by
 obtain⟨od,J,hl⟩:=I.look;refine PySem.W.set_plain X J hs (PySem.W.osa_open (s:={s with toks:=s.toks+1}) (r:=none) X J hp ht λb=>?_);obtain⟨cd,hc,hd'⟩:=PySem.W.any_some hh;have hx:s.heap.get? x=some ⟨.ref C,some dx,.plain,#[]⟩:=I.obj;refine ae (aj (ae (ae (wpAny_loadPart hx (ae (PySem.W.Looks.here (s:={s with toks:=s.toks+1}) (PySem.W.looks_clsIn X hc) ?_))))));rw[hd'];refine aj (a:=some dx) (ae (aj (ae ?_)));refine wpAny_nsSet1 (s:={s with toks:=s.toks+1}) I.ns λh' hn2 hs2=>?_;obtain⟨oD,esD,epD,hoD,hdD,hcD⟩:=hn2.count (PySem.Within.cons name v hw);refine ae (wpAny_lookBehind hoD (by rw[hdD];exact pastItsLine_dict (cm hcD (by rw[br];lia))) ?_);exact aj (h _ ⟨(hs2.2 _ (cp I.ne)).trans I.obj,hn2,I.ne⟩ hs2)
theorem Q3{R:sv->ag->Prop}{vs:List af}{kw:List (Str×af)}(X:K.In s.heap)(hm:PySem.W.makesIn K C=true)(hi:jv K (.ref C) "__init__"=some (some (.ref f)))(hf:PySem.W.typeIn K (.ref f)=some (.type "function"))(h:codeAny (model prog w) (A.under (.builtin "type.__call__" ⟨.ref C::vs,kw⟩)) (.call (.ref f) ⟨.ref (s.heap.objs.size+1)::vs,kw⟩) (PySem.W.InitBack (s.heap.objs.size+1) R)
   {s with heap:=(s.heap.push iq).push (jw C s.heap.objs.size)}):
  codeAny (model prog w) A (.call (.ref C) ⟨vs,kw⟩) R s:=by
 obtain⟨hh,g,d,t,os⟩:=s;exact PySem.W.make_core (PySem.W.makes_of X hm) (PySem.W.looks_findIn X hi) (λself=>PySem.W.bind_fn X self hf) (.inl rfl) h
end
noncomputable def fT(f:Str)(v:V):List (Str×V)->List (Str×V)
 |[]=>[(f,v)]
 |(g,x)::r=>if g=f then(g,v)::r else(g,x)::fT f v r
theorem FT(f g:Str)(v:V):∀fs:List (Str×V),(fT f v fs).lookup g=if g=f then some v else fs.lookup g
 |[]=>by
  show ki g [(f,v)]=_
  by_cases h:g=f
  ·have hb:(g==f)=true:=beq_iff_eq.mpr h;simp only[ki,hb,if_pos h]
  ·have hb:(g==f)=false:=beq_eq_false_iff_ne.mpr h;simp only[ki,hb,if_neg h]
 |(k,x)::r=>by
  have ih:=FT f g v r;rw[show fT f v ((k,x)::r)=(if k=f then(k,v)::r else(k,x)::fT f v r) from rfl]
  by_cases hk:k=f
  ·rw[if_pos hk]
   by_cases h:g=k
   ·have hb:(g==k)=true:=beq_iff_eq.mpr h;simp only[ki,hb,if_pos (h.trans hk)]
   ·have hb:(g==k)=false:=beq_eq_false_iff_ne.mpr h;simp only[ki,hb,if_neg (λe:g=f=>h (e.trans hk.symm))]
  ·rw[if_neg hk]
   by_cases h:g=k
   ·have hb:(g==k)=true:=beq_iff_eq.mpr h;simp only[ki,hb,if_neg (λe:g=f=>hk (h.symm.trans e))]
   ·have hb:(g==k)=false:=beq_eq_false_iff_ne.mpr h;simp only[ki,hb];exact ih
theorem zZ(f:Str)(v:V):∀fs:List (Str×V),f∈(fT f v fs).map (·.1)/\∀g,g∈fs.map (·.1)->g∈(fT f v fs).map (·.1)
 |[]=>⟨by simp[fT],λg h=>by simp at h⟩
 |(k,x)::r=>by
  obtain⟨i1,i2⟩:=zZ f v r;rw[show fT f v ((k,x)::r)=(if k=f then(k,v)::r else(k,x)::fT f v r) from rfl]
  by_cases hk:k=f
  ·rw[if_pos hk];subst hk;exact⟨by simp,λg h=>by simpa using h⟩
  ·rw[if_neg hk];refine⟨?_,λg h=>?_⟩
   ·rw[fw];exact az _ i1
   ·rw[fw]at h⊢
    rcases bh.mp h with e|e
    ·exact bh.mpr (.inl e)
    ·exact az _ (i2 g e)
theorem FU(f:Str)(v:V):∀fs:List (Str×V),(fT f v fs).length<=fs.length+1
 |[]=>by simp[fT]
 |(k,x)::r=>by
  have ih:=FU f v r;rw[show fT f v ((k,x)::r)=(if k=f then(k,v)::r else(k,x)::fT f v r) from rfl]
  by_cases hk:k=f
  ·rw[if_pos hk,br,br];lia
  ·rw[if_neg hk,br,br];lia
theorem Cn.some_of{v:V}{o:Option af}(r:Cn (some v) o):∃u,o=some u/\RelV v u:=by
 cases o with
 |none=>exact(show False from r).elim
 |some u=>exact⟨u,rfl,r⟩
theorem Cn.none_of{o:Option af}(r:Cn none o):o=none:=by
 cases o with
 |none=>rfl
 |some u=>exact(show False from r).elim
theorem Q4{v:V}{u:af}(r:RelV v u):zh u=true:=by
 cases v with
 |non=>cases (show u=jm from r);rfl
 |bl b=>cases (show u=ue b from r);rfl
 |int i=>obtain⟨t,e⟩:=(show ∃t,u=Value.int i t from r);cases e;rfl
 |str x=>obtain⟨t,e⟩:=(show ∃t,u=Value.str x t from r);cases e;rfl
 |byt b=>obtain⟨t,e⟩:=(show ∃t,u=Value.bytes b t from r);cases e;rfl
 |flt b=>obtain⟨t,e⟩:=(show ∃t,u=Value.float b t from r);cases e;rfl
 |ref a=>cases (show u=gw a from r);rfl
 |ty n=>cases (show u=rz n from r);rfl
section
variable{P:bg}{w:bu}{H H':Hp}{h h':bx}{a C dx:ah}{fs fs':List (Str×V)}
theorem AA(hok:Az P w H h)(e:H a=some (.ins C dx fs)):∃mA,Dw h a dx C mA/\(∀f,Cn (fs.lookup f) (mA f))/\ya mA (fs.map (·.1))/\fs.length<=1000/\H dx=some (.own a):=by
 obtain⟨d,z,ne,ob,mA,n,r,q⟩:=(show Ag P w H h a (.ins C dx fs) from hok a _ e)
 exact⟨mA,⟨ob,n,ne⟩,r,q,z,d⟩
end
structure Dx(K:ak)(C:ah):Prop where
 pg:qp K C jo=true
 hd:ug K C=true
 po:zc K C=true
 sa:jv K (.ref C) "__setattr__"=some (some (.builtin "object.__setattr__"))
theorem Dx.get{K:ak}{C:ah}(c:Dx K C)(f:Str):qp K C f=true:=c.pg
noncomputable def Ay(K:ak)(C:ah)(f:Str):Prop:=jv K (.ref C) f=some none
theorem Ay.taker{K:ak}{C:ah}{f:Str}(n:Ay K C f):va K C f=some none:=by unfold va;rw[show jv K (.ref C) f=some none from n];rfl
structure Ci(K:ak)(C:ah)(m:Str)(f:ah):Prop where
 at_:jv K (.ref C) m=some (some (.ref f))
 fn:xa K (.ref f)=true
 kp:iu K (.ref f)=true
section
variable{X:Cx}{pins:List (ah×Obj)}{σ:St}{H:Hp}{s:ag}{a C dx:ah}{fs:List (Str×V)}{f:Str}{v:V}{A:bq}{E:af->ag->Prop}
theorem Q5{b:Bool}{Q:af->ag->Prop}(I:Inv X pins σ H s)(e:H a=some (.ins C dx fs))(c:Dx X.K C)(n:Ay X.K C f)(l:fs.lookup f=some v)(h:∀u s',Inv X pins σ H s'->RelV v u->Q u s'):wpAny (model X.prog X.w) A (getAttr (.ref a) f b) Q E s:=by
 obtain⟨mA,O,r,_,_,_⟩:=AA I.hok e;obtain⟨u,hu,ru⟩:=Cn.some_of (v:=v) (o:=mA f) (by rw[<-l];exact r f);exact QZ I.kIn O (c.get f) c.hd n hu (Q4 ru) (h u _ (I.tok _) ru)
theorem FV{m:Str}{g:ah}{pl:Sem Bool}{Q:af×List af->ag->Prop}(I:Inv X pins σ H s)(e:H a=some (.ins C dx fs))(c:Dx X.K C)(k:Ci X.K C m g)(l:fs.lookup m=none)(h:Q (.ref g,[.ref a]) s):wpAny (model X.prog X.w) A (getMethod (.ref a) m pl) Q E s:=by
 obtain⟨mA,O,r,_,_,_⟩:=AA I.hok e;have hn:mA m=none:=Cn.none_of (by rw[<-l];exact r m);exact Q0 I.kIn O (c.get m) k.at_ k.fn hn h
theorem Q6{y:V}{u:af}{Q:Unit->ag->Prop}(I:Inv X pins σ H s)(e:H a=some (.ins C dx fs))(c:Dx X.K C)(n:Ay X.K C f)(hl:fs.length<1000)(ry:RelV y u)(h:∀s',Inv X pins σ (aF H a (.ins C dx (fT f y fs))) s'->Q () s'):wpAny (model X.prog X.w) A (setAttr (.ref a) f u) Q E s:=by
 obtain⟨mA,O,r,wi,_,ho⟩:=AA I.hok e;have hz:(fs.map (·.1)).length<=bj:=by rw[cg,ly];lia
 refine Q2 I.kIn O c.sa c.po n.taker c.hd wi hz λh' O' sb=>h _ ?_;have hd:∃o,h'.get? dx=some o:=let ⟨o,_,_,e',_⟩:=O'.ns;⟨o,e'⟩;refine I.write (x:=a) (e:=dx) (by rw[e];exact True.intro) (.inr ho) (λb q hb z=>(sb.2 b hb).trans z) hd ?_;refine⟨by rw[aM O.ne];exact ho,?_,O.ne,O'.obj,_,O'.ns,λg=>?_,λg hg=>?_⟩
 ·have:=FU f y fs;lia
 ·show Cn ((fT f y fs).lookup g) (if g=f then some u else mA g);rw[FT]
  by_cases q:g=f
  ·rw[if_pos q,if_pos q];exact ry
  ·rw[if_neg q,if_neg q];exact r g
 ·by_cases q:g=f
  ·rw[q];exact(zZ f y fs).1
  ·refine(zZ f y fs).2 g (wi g λz=>hg ?_);show(if g=f then some u else mA g)=none;rw[if_neg q];exact z
theorem Inv.made(I:Inv X pins σ H s):Inv X pins σ (aF (aF H s.heap.objs.size (.own (s.heap.objs.size+1))) (s.heap.objs.size+1) (.ins C s.heap.objs.size []))
  {s with heap:=(s.heap.push iq).push (jw C s.heap.objs.size)}:=by
 have e1:(s.heap.push iq).get? s.heap.objs.size=some iq:=ax s.heap rfl;have e2:((s.heap.push iq).push (jw C s.heap.objs.size)).get? (s.heap.objs.size+1)=some (jw C s.heap.objs.size):=by have:=ax (s.heap.push iq) (o:=jw C s.heap.objs.size) rfl;rwa [dq]at this
 have e3:(s.heap.push iq).Ns s.heap.objs.size (λ_=>none):=⟨iq,#[],_,e1,rfl,(λe he=>absurd he (by simp)),λ_=>rfl⟩
 have I1:=I.laid (a:=s.heap.objs.size) (o:=.own (s.heap.objs.size+1)) (h':=s.heap.push iq) (t':=s.toks) (λb u q=>ai _ q) (aq _) ⟨_,e1⟩;refine I1.laid (a:=s.heap.objs.size+1) (o:=.ins C s.heap.objs.size []) (t':=s.toks) (λb u q=>ai _ q) (nc (dq _ _)) ?_;have ne:s.heap.objs.size≠s.heap.objs.size+1:=aw (jf _);refine⟨by rw[aM ne,bP],ja _,ne,e2,λ_=>none,(Heap.Ns1.of_empty e3).at λo q=>ai _ q,λ_=>True.intro,λy hy=>absurd rfl hy⟩
theorem Q7{prog:bg}{w:bu}{env:Env}{e:ba}{f:Str}{pos:Pos}{s:ag}{Q:af->ag->Prop}(hb:attributeBase e f env (eval e env)=eval e env)(h:wpAny (model prog w) A (eval e env) (λo s₁=>wpAny (model prog w) A (getAttr o f true) Q E s₁) E s):wpAny (model prog w) A (eval (.Attribute e f pos) env) Q E s:=
 Attribute_any_ h (by rw[arm_eval_Attribute,hb])
end
def Q8(K:ak)(ta:TE)(f:Str):TE:=λσ H Q=>ta σ H λx H1=>∃a C dx fs v,x=.ref a/\H1 a=some (.ins C dx fs)/\Dx K C/\Ay K C f/\fs.lookup f=some v/\Q v H1
def Q9(K:ak)(ta tv:TE)(f:Str):TS:=λD σ H=>tv σ H λy H1=>ta σ H1 λx H2=>∃a C dx fs,x=.ref a/\H2 a=some (.ins C dx fs)/\Dx K C/\Ay K C f/\fs.length<1000/\
 D.nx σ (aF H2 a (.ins C dx (fT f y fs)))
section
variable{X:Cx}{o e value:ba}{f:Str}{pos pos' tpos:Pos}{ta tv:TE}
theorem RA(he:PE X e ta)(hb:attributeBase e f X.env (eval e X.env)=eval e X.env):PE X (.Attribute e f pos) (Q8 X.K ta f):=by intro pins s σ H Q I h;refine Q7 hb (aH (he pins s σ H _ I h) λu s1⟨x,H1,I1,rx,a,C,dx,fs,v,ex,ea,c,n,l,q⟩=>?_);subst ex;obtain rfl:u=gw a:=rx;exact Q5 I1 ea c n l λu' s2 I2 ru=>⟨v,H1,I2,ru,q⟩
theorem RC(ha:PE X o ta)(hv:PE X value tv)(hs:swapsWith value (some (.Attribute o f pos')) pos.line X.env=pure false):PS X (.Assign [.Attribute o f pos'] value pos) (Q9 X.K ta tv f):=by intro pins s σ H D I h;refine plainObj_wpAny_Assign_Attribute (aH (hv pins s σ H _ I h) λu s1⟨y,H1,I1,ry,q⟩=>aH (ha pins s1 σ H1 _ I1 q) λov s2⟨x,H2,I2,rx,a,C,dx,fs,ex,ea,c,n,l,q2⟩=>?_) hs;subst ex;obtain rfl:ov=gw a:=rx;exact Q6 I2 ea c n l ry λs3 I3=>⟨σ,_,I3,q2⟩
end
structure Aq(k:Nat)(A:bq):Prop where
 hd:A.handled=none
 dp:A.depth+3*k+5<recursionLimit
 un:A.units+16*k+200<cLine
theorem Aq.mono{j k:Nat}{A:bq}(r:Aq k A)(h:j<=k):Aq j A:=⟨r.hd,by have:=r.dp;lia,by have:=r.un;lia⟩
theorem Aq.deeper{k:Nat}{A:bq}(r:Aq (k+1) A)(env:Env):Aq k (A.deeper env):=⟨r.hd,by have:=r.dp;show A.depth+1+3*k+5<_;lia,by have:=r.un;show A.units+3+16*k+200<_;lia⟩
theorem RD{A:bq}{C:ah}{us:List af}{kw:List (Str×af)}:(A.under (.builtin "type.__call__" ⟨.ref C::us,kw⟩)).depth=A.depth+1:=by first|rfl|simp[xr,Code.weight,Code.isCreation,Code.isGuard,Code.isCaller,Code.frames,yj,guardIds]
theorem RE{A:bq}{C:ah}{us:List af}{kw:List (Str×af)}:(A.under (.builtin "type.__call__" ⟨.ref C::us,kw⟩)).units=A.units+1:=by first|rfl|simp[xr,Code.cUnits,Code.frames,yj]
theorem Aq.make{k:Nat}{A:bq}(r:Aq (k+1) A)(C:ah)(us:List af)(kw:List (Str×af)):Aq k (A.under (.builtin "type.__call__" ⟨.ref C::us,kw⟩)):=⟨r.hd,by have:=r.dp;rw[RD];lia,by have:=r.un;rw[RE];lia⟩
theorem Aq.depth{k:Nat}{A:bq}(r:Aq k A):A.depth<recursionLimit:=by have:=r.dp;lia
theorem Aq.units{k:Nat}{A:bq}(r:Aq k A):A.units+64<cLine:=by have:=r.un;lia
noncomputable def sE:TA:=λ_ H Q=>Q [] H
noncomputable def FW(ta:TE)(tr:TA):TA:=λσ H Q=>ta σ H λx H1=>tr σ H1 λxs H2=>Q (x::xs) H2
section
variable{X:Cx}{e:ba}{es:List ba}{te:TE}{t:TA}{pos:Pos}
theorem jJ:PA X [] sE:=λ_ _ _ _ H Q I h=>Calls.spliced_nil ⟨[],H,I,.nil,h⟩
theorem iR(ha:PE X e te)(hr:PA X es t)(hs:ao (e::es) X.env=(false,eval e X.env)::ao es X.env:=by rfl):PA X (e::es) (FW te t):=by intro pos pins s σ H Q I h;rw[hs];show wpAny _ _ (spliced ((false,eval e X.env)::backTo pos (ao es X.env))) _ _ s;refine zi (aH (ha pins s σ H _ I h) λu s1⟨x,H1,I1,r1,q1⟩=>?_);exact aH (hr pos pins s1 σ H1 _ I1 q1) λus s2⟨xs,H2,I2,r2,q2⟩=>⟨x::xs,H2,I2,.cons r1 r2,q2⟩
def RF(t:TA):TE:=λσ H Q=>t σ H λxs H1=>xs.length<=bj/\∀p,H1 p=none->Q (.ref p) (aF H1 p (.tup xs))
def RG(t:TA):TE:=λσ H Q=>t σ H λxs H1=>xs.length<=bj/\∀p,H1 p=none->Q (.ref p) (aF H1 p (.lst xs))
theorem RH{x1}(h:PA X es t):PE X (.Tuple es x1 pos) (RF t):=by intro pins s σ H Q I hq;refine wpAny_Tuple_spliced (aH (h pos pins s σ H _ I hq) λus s1⟨xs,H1,I1,r,z,q⟩=>⟨by rw[<-r.length];exact z,?_⟩);have hf:H1 s1.heap.objs.size=none:=I1.hok.fresh (aq _);refine⟨.ref s1.heap.objs.size,aF H1 s1.heap.objs.size (.tup xs),I1.laid (t':=s1.toks) (λb u e=>ai _ e) (aq _) ?_,rfl,q _ hf⟩;exact⟨z,us,r,⟨_,ax _ rfl,rfl,rfl,_,rfl⟩⟩
theorem RI(h:PA X es t):PE X (.List es pos) (RG t):=by intro pins s σ H Q I hq;refine wpAny_List_spliced (aH (h pos pins s σ H _ I hq) λus s1⟨xs,H1,I1,r,z,q⟩=>⟨by rw[<-r.length];exact z,?_⟩);have hf:H1 s1.heap.objs.size=none:=I1.hok.fresh (aq _);refine⟨.ref s1.heap.objs.size,aF H1 s1.heap.objs.size (.lst xs),I1.laid (t':=s1.toks) (λb u e=>ai _ e) (aq _) ?_,rfl,q _ hf⟩;exact⟨z,us,0,r,ax _ rfl⟩
end
abbrev Sp:=List V->Hp->VK->XK->Prop
abbrev iS:=List Env->Hp->ag->XK->af->ag->Prop
structure Co(P:bg)(w:bu)(K:ak)(mg:Str->Option af)(base:bx)(A:bq)(outer:List Env)(s:ag)(H:Hp):Prop where
 frames:A.frames=some outer
 mod:Mod K mg base
 bs:∀b o,base.get? b=some o->s.heap.get? b=some o/\H b=none
 bsz:base.objs.size<=s.heap.objs.size
 funs:s.heap.FunFrames base outer
 frf:∀b∈cN outer,H b=none
 hok:Az P w H s.heap
 bare:sh s.gens
inductive CE(outer:List Env)(P:bg)(w:bu)(H:Hp)(s:ag)(Q:VK)(u:af)(s':ag):Prop
 |mk (v:_) (H':_) (h0:s'.os=s.os) (h1:sh s'.gens) (h2:Un (cN outer) [] H H' s.heap s'.heap) (h3:Az P w H' s'.heap) (h4:RelV v u) (h5:Q v H'):CE outer P w H s Q u s'
noncomputable def CR(CX:iS)(outer:List Env)(P:bg)(w:bu)(H:Hp)(s:ag)(Q:VK)(E:XK)(r:sv)(s':ag):Prop:=
 match r with
 |.ok (.ret u)=>CE outer P w H s Q u s'
 |.ok _=>False
 |.error e=>CX outer H s E e s'
structure Af(P:bg)(w:bu)(K:ak)(mg:Str->Option af)(base:bx)(CX:iS)(k:Nat)(f:ah)(fd:ay)(ps:zu)(sp:Sp):Prop where
 len:∀vs H Q E,sp vs H Q E->vs.length=ps.length
 run:∀(A:bq)(outer:List Env)(s:ag)(H:Hp)(args:Args)(us:List af)(vs:List V)(Q:VK)(E:XK),Aq k A->Co P w K mg base A outer s H->vp s fd args (ps.zip us)->Ae vs us->sp vs H Q E->
  codeAny (model P w) A (.call (.ref f) args) (CR CX outer P w H s Q E) s
theorem Af.mono{P:bg}{w:bu}{K:ak}{mg:Str->Option af}{base:bx}{CX:iS}{j k:Nat}{f:ah}{fd:ay}{ps:zu}{sp:Sp}(F:Af P w K mg base CX j f fd ps sp)(h:j<=k):
  Af P w K mg base CX k f fd ps sp:=⟨F.len,λA outer s H args us vs Q E hr=>F.run A outer s H args us vs Q E (hr.mono h)⟩
theorem Af.imp{P:bg}{w:bu}{K:ak}{mg:Str->Option af}{base:bx}{CX:iS}{k:Nat}{f:ah}{fd:ay}{ps:zu}{sp sp':Sp}(F:Af P w K mg base CX k f fd ps sp)(h:∀vs H Q E,sp' vs H Q E->sp vs H Q E):Af P w K mg base CX k f fd ps sp':=
 ⟨λvs H Q E q=>F.len vs H Q E (h _ _ _ _ q),λA outer s H args us vs Q E hr he hb hv hs=>F.run A outer s H args us vs Q E hr he hb hv (h _ _ _ _ hs)⟩
theorem Co.make{P:bg}{w:bu}{K:ak}{mg:Str->Option af}{base:bx}{A:bq}{outer:List Env}{s:ag}{H:Hp}(e:Co P w K mg base A outer s H)(C:ah)(us:List af)(kw:List (Str×af)):
  Co P w K mg base (A.under (.builtin "type.__call__" ⟨.ref C::us,kw⟩)) outer s H:=⟨by first|exact e.frames|(simpa[xr,Code.envs,yj,pushEnvs]using e.frames),e.mod,e.bs,e.bsz,e.funs,e.frf,e.hok,e.bare⟩
section
variable{X:Cx}{pins:List (ah×Obj)}{σ:St}{H:Hp}{s s':ag}
theorem Inv.env0(I:Inv X pins σ H s):Co X.prog X.w X.K X.mg X.base X.A X.stack s H:=⟨I.ok.frames,I.ok.mod,I.bs,cm I.ok.bsz I.sz,I.stack,I.stkFree,I.hok,I.bare⟩
theorem Inv.after{Q:VK}{u:af}(I:Inv X pins σ H s)(h:CE X.stack X.prog X.w H s Q u s'):EP X pins σ Q u s':=by obtain⟨v,H',os,bare,un,hok,r,q⟩:=h;obtain⟨hh,g,d,t,os'⟩:=s';obtain rfl:os'=s.os:=os;exact⟨v,H',I.call (h':=hh) (g':=g) (d':=d) (t':=t) (ch:=[]) un hok bare (λb z=>absurd z (by simp)),r,q⟩
end
noncomputable def RJ(sp:Sp)(dvs:List V)(E:XK)(t:TA):TE:=λσ H Q=>t σ H λvs H1=>sp (vs++dvs) H1 Q E
noncomputable def vH(C:ah)(m:Str)(sp:Sp)(dvs:List V)(E:XK)(ta:TE)(t:TA):TE:=λσ H Q=>ta σ H λx H1=>∃a dx fs,x=.ref a/\H1 a=some (.ins C dx fs)/\fs.lookup m=none/\
 t σ H1 λvs H2=>sp (x::(vs++dvs)) H2 Q E
def RK(C:ah)(sp:Sp)(dvs:List V)(E:XK)(t:TA):TE:=λσ H Q=>t σ H λvs H1=>∀x dx,H1 x=none->H1 dx=none->dx≠x->
 sp (.ref x::(vs++dvs)) (aF (aF H1 dx (.own x)) x (.ins C dx [])) (λv H2=>v=.non/\Q (.ref x) H2) E
noncomputable def Binds(K:ak)(fd:ay)(ps:zu)(ds:List af):Prop:=∀(s:ag)(us:List af),K.In s.heap->(us++ds).length=ps.length->vp s fd ⟨us,[]⟩ (ps.zip (us++ds))
theorem Binds.all{K:ak}{fd:ay}{ps:zu}(h:∀us:List af,us.length=ps.length->bindArgs fd ⟨us,[]⟩=pure (ps.zip us)):Binds K fd ps []:=λs us _ hl=>by rw[jz]at hl⊢;exact .of_eq (h us hl)
noncomputable def lF(CX:iS)(X:Cx)(E:XK):Prop:=∀(pins:List (ah×Obj))(σ:St)(H:Hp)(s:ag)(e:af)(s':ag),Inv X pins σ H s->CX X.stack H s E e s'->X.xe e s'
section
variable{X:Cx}{CX:iS}{k:Nat}{f C:ah}{fd:ay}{ps:zu}{sp:Sp}{dvs:List V}{ds:List af}{E:XK}{x m:Str}{p pos apos:Pos}{e o:ba}{es:List ba}{ta:TE}{t:TA}
theorem vI{pins:List (ah×Obj)}{σ:St}{H:Hp}{s:ag}{Q:VK}{us:List af}{vs:List V}(F:Af X.prog X.w X.K X.mg X.base CX k f fd ps sp)(hr:Aq k X.A)(hb:Binds X.K fd ps ds)(hd:Ae dvs ds)(hx:lF CX X E)(I:Inv X pins σ H s)(r:Ae vs us)(h:sp (vs++dvs) H Q E):wpAny (model X.prog X.w) X.A (call (.ref f) us) (EP X pins σ Q) X.xe s:=by
 have r2:Ae (vs++dvs) (us++ds):=r.append hd;have hl:(us++ds).length=ps.length:=by rw[<-r2.length];exact F.len _ _ _ _ h
 refine ua (mf (F.run X.A X.stack s H ⟨us,[]⟩ (us++ds) (vs++dvs) Q E hr I.env0 (hb s us I.kIn hl) r2 h) λr s' hq=>?_)
 cases r with
 |error e=>exact hx pins σ H s e s' I hq
 |ok fl=>
  cases fl with
  |ret u=>exact I.after hq
  |next=>exact gh hq
  |brk=>exact gh hq
  |cont=>exact gh hq
theorem FX(F:Af X.prog X.w X.K X.mg X.base CX k f fd ps sp)(hr:Aq k X.A)(hg:Gl X x)(hm:X.mg x=some (.ref f))(hk:iu X.K (.ref f)=true)(hb:Binds X.K fd ps ds)(hd:Ae dvs ds)(hx:lF CX X E)(ha:PA X (e::es) t)(Cd:(x==Ey)=false:=by decide)(he:ao (e::es) X.env=(false,eval e X.env)::ao es X.env:=by rfl)(Bc:(backTo pos (ao es X.env)).any (·.1)=false:=by rfl):
  PE X (.Call (.Name x p) (e::es) [] pos) (RJ sp dvs E t):=by
 intro pins s σ H Q I h;refine jl (qH I hg hm ?_ Cd);refine pd (h₀:=X.base) I.ok.mod.kin hk (aH (ha pos pins s σ H _ I h) λus s1⟨vs,H1,I1,r,q⟩=>⟨I1.kIn,?_⟩) he Bc;exact vI F hr hb hd hx I1 r q
theorem RM{pl:Sem Bool}(he:PE X o ta)(c:Dx X.K C)(hm:Ci X.K C m f)(F:Af X.prog X.w X.K X.mg X.base CX k f fd ps sp)(hr:Aq k X.A)(hb:Binds X.K fd ps ds)(hd:Ae dvs ds)(hx:lF CX X E)(ha:PA X (e::es) t)(Ck:ao (e::es) X.env=(false,eval e X.env)::ao es X.env:=by rfl)(Bc:(backTo pos (ao es X.env)).any (·.1)=false:=by rfl)(ht:eval (.Call (.Attribute o m apos) (e::es) [] pos) X.env=(do
   let ov <-eval o X.env
   standAt apos.atName
   let (f,first) <-holding [ov] (getMethod ov m pl)
   callWith pos f first (backTo pos (ao (e::es) X.env)) (backToKw pos (keywordEach [] X.env))):=by rfl):
  PE X (.Call (.Attribute o m apos) (e::es) [] pos) (vH C m sp dvs E ta t):=by
 intro pins s σ H Q I h;refine xu (pl:=pl) (aH (he pins s σ H _ I h) λu s1⟨x,H1,I1,rx,a,dx,fs,ex,ea,l,q⟩=>?_) ht;subst ex;obtain rfl:u=gw a:=rx;refine FV I1 ea c hm l ?_;refine pd (first:=[.ref a]) (h₀:=X.base) I.ok.mod.kin hm.kp (aH (ha pos pins s1 σ H1 _ I1 q) λus s2⟨vs,H2,I2,r,q2⟩=>⟨I2.kIn,?_⟩) Ck Bc;exact vI (us:=.ref a::us) (vs:=.ref a::vs) F hr hb hd hx I2 (.cons rfl r) q2
theorem RN{pl:Sem Bool}(he:PE X o ta)(c:Dx X.K C)(hm:Ci X.K C m f)(F:Af X.prog X.w X.K X.mg X.base CX k f fd ps sp)(hr:Aq k X.A)(hb:Binds X.K fd ps ds)(hd:Ae dvs ds)(hx:lF CX X E)(ht:eval (.Call (.Attribute o m apos) [] [] pos) X.env=(do
   let ov <-eval o X.env
   standAt apos.atName
   let (f,first) <-holding [ov] (getMethod ov m pl)
   callWith pos f first (backTo pos (ao [] X.env)) (backToKw pos (keywordEach [] X.env))):=by rfl):
  PE X (.Call (.Attribute o m apos) [] [] pos) (vH C m sp dvs E ta sE):=by
 intro pins s σ H Q I h;refine xu (pl:=pl) (aH (he pins s σ H _ I h) λu s1⟨x,H1,I1,rx,a,dx,fs,ex,ea,l,q⟩=>?_) ht;subst ex;obtain rfl:u=gw a:=rx;refine FV I1 ea c hm l ?_;exact yk (first:=[.ref a]) I1.kIn hm.kp (vI (us:=[.ref a]) (vs:=[.ref a]) F hr hb hd hx I1 (.cons rfl .nil) q)
structure Mk(K:ak)(C f:ah):Prop where
 makes:PySem.W.makesIn K C=true
 init:jv K (.ref C) "__init__"=some (some (.ref f))
 fn:xa K (.ref f)=true
 kp:iu K (.ref C)=true
theorem RO{pins:List (ah×Obj)}{σ:St}{H:Hp}{s:ag}{Q:VK}{us:List af}{vs:List V}(M:Mk X.K C f)(F:Af X.prog X.w X.K X.mg X.base CX k f fd ps sp)(hr:Aq (k+1) X.A)(hb:Binds X.K fd ps ds)(hd:Ae dvs ds)(hx:lF CX X E)(I:Inv X pins σ H s)(r:Ae vs us)(h:∀x dx,H x=none->H dx=none->dx≠x->sp (.ref x::(vs++dvs)) (aF (aF H dx (.own x)) x (.ins C dx [])) (λv H2=>v=.non/\Q (.ref x) H2) E):
  wpAny (model X.prog X.w) X.A (call (.ref C) us) (EP X pins σ Q) X.xe s:=by
 have hq:=h (s.heap.objs.size+1) s.heap.objs.size (I.hok.fresh (Nat.le_succ _)) (I.hok.fresh (aq _)) (aw (jf _));have I2:=Inv.made (C:=C) I;have r2:Ae (V.ref (s.heap.objs.size+1)::(vs++dvs)) (gw (s.heap.objs.size+1)::(us++ds)):=.cons rfl (r.append hd);have hl:(gw (s.heap.objs.size+1)::us++ds).length=ps.length:=by have e:=r2.length;rw[F.len _ _ _ _ hq]at e;exact e.symm
 refine ua (Q3 (f:=f) I.kIn M.makes M.init (beq_iff_eq.mp M.fn) (mf (F.run _ X.stack _ _ ⟨gw (s.heap.objs.size+1)::us,[]⟩ (gw (s.heap.objs.size+1)::(us++ds)) _ _ E (hr.make C us [])
  (I2.env0.make C us []) (hb _ (gw (s.heap.objs.size+1)::us) I2.kIn hl) r2 hq) λr s' hq'=>?_))
 cases r with
 |error e=>exact hx pins σ _ _ e s' I2 hq'
 |ok fl=>
  cases fl with
  |ret u=>obtain⟨v,H',I3,rv,ev,q3⟩:=I2.after hq';subst ev;exact⟨rv,⟨V.ref (s.heap.objs.size+1),H',I3,rfl,q3⟩⟩
  |next=>exact gh hq'
  |brk=>exact gh hq'
  |cont=>exact gh hq'
theorem RP(M:Mk X.K C f)(F:Af X.prog X.w X.K X.mg X.base CX k f fd ps sp)(hr:Aq (k+1) X.A)(hg:Gl X x)(hm:X.mg x=some (.ref C))(hb:Binds X.K fd ps ds)(hd:Ae dvs ds)(hx:lF CX X E)(Cd:(x==Ey)=false:=by decide):PE X (.Call (.Name x p) [] [] pos) (RK C sp dvs E sE):=by
 intro pins s σ H Q I h;refine jl (qH I hg hm ?_ Cd);exact yk I.kIn M.kp (RO (us:=[]) M F hr hb hd hx I .nil h)
end
structure Ab(N P:zu)(sc:dj):Prop where
 kind:sc.kind=.function
 co:sc.isCoroutine=false
 gen:sc.isGenerator=false
 nd:N.Nodup
 pre:N.take P.length=P
 par:∀x∈P,sc.names.lookup x=some .local∨sc.names.lookup x=some .cell
 nofree:∀y∈sc.names,y.2≠.free
theorem FY{kindOf:Str->Option kq}{x:Str}:∀{binds:List (Str×af)}{m:Str->Option af},(∀v,(x,v)∉binds)->bindL kindOf binds m x=m x
 |[],_,_=>rfl
 |(n,v)::r,m,h=>by
  unfold bindL;rw[FY λw hw=>h w (az _ hw)]
  split
  ·have:x≠n:=by rintro rfl;exact h v bo
   simp[this]
  ·rfl
theorem FZ{kindOf:Str->Option kq}{x:Str}:∀{binds:List (Str×af)}{m:Str->Option af},(∀v,(x,v)∉binds)->bindC kindOf binds m x=m x
 |[],_,_=>rfl
 |(n,v)::r,m,h=>by
  unfold bindC;rw[FZ λw hw=>h w (az _ hw)]
  split
  ·rfl
  ·have:x≠n:=by rintro rfl;exact h v bo
   simp[this]
theorem F0{kindOf:Str->Option kq}{x:Str}{v:af}:∀{P:zu}{vs:List af}{i:Nat}{m:Str->Option af},P.Nodup->P[i]?=some x->vs[i]?=some v->kindOf x=some .local->
  bindL kindOf (P.zip vs) m x=some v
 |[],_,_,_,_,h,_,_=>by simp at h
 |_::_,[],_,_,_,_,h,_=>by simp at h
 |p::P,w::vs,0,m,nd,h1,h2,hk=>by simp at h1 h2;subst h1;subst h2;show bindL kindOf ((p,w)::P.zip vs) m p=_;unfold bindL;rw[FY λv hv=>(ow.mp nd).1 (vh hv).1,if_pos hk];simp
 |p::P,w::vs,i+1,m,nd,h1,h2,hk=>by show bindL kindOf ((p,w)::P.zip vs) m x=_;unfold bindL;exact F0 (i:=i) (ow.mp nd).2 (by simpa using h1) (by simpa using h2) hk
theorem F1{kindOf:Str->Option kq}{x:Str}{v:af}:∀{P:zu}{vs:List af}{i:Nat}{m:Str->Option af},P.Nodup->P[i]?=some x->vs[i]?=some v->kindOf x≠some .local->
  bindC kindOf (P.zip vs) m x=some v
 |[],_,_,_,_,h,_,_=>by simp at h
 |_::_,[],_,_,_,_,h,_=>by simp at h
 |p::P,w::vs,0,m,nd,h1,h2,hk=>by simp at h1 h2;subst h1;subst h2;show bindC kindOf ((p,w)::P.zip vs) m p=_;unfold bindC;rw[FZ λv hv=>(ow.mp nd).1 (vh hv).1,if_neg hk];simp
 |p::P,w::vs,i+1,m,nd,h1,h2,hk=>by show bindC kindOf ((p,w)::P.zip vs) m x=_;unfold bindC;exact F1 (i:=i) (ow.mp nd).2 (by simpa using h1) (by simpa using h2) hk
noncomputable def start(N:zu)(vs:List V):St:=vs.map some++wq (N.length-vs.length) none
noncomputable def eK(CX:iS)(P:bg)(w:bu)(K:ak)(mg:Str->Option af)(base:bx)(N:zu)(qual:Str)(scope:dj)(f:ah)(cd:af)(A:bq)(outer:List Env)(s:ag)(H:Hp)(E:XK):Cx where
 prog:=P
 w:=w
 K:=K
 mg:=mg
 base:=base
 A:=A.deeper (envOfC qual scope s.heap.objs.size f cd)
 N:=N
 s₀:=s
 H₀:=H
 env:=envOfC qual scope s.heap.objs.size f cd
 outer:=outer
 stack:=envOfC qual scope s.heap.objs.size f cd::outer
 ex:=[]
 calm:=true
 fn:=λ_=>true
 pn:=[]
 xe:=λe s'=>wpAny (model P w) (A.deeper (envOfC qual scope s.heap.objs.size f cd)) (leaving (envOfC qual scope s.heap.objs.size f cd) e) (λ_ Dg=>CX outer H s E e Dg) (λe' Dg=>CX outer H s E e' Dg) s'
theorem F2{sc:dj}{n:Nat}{x:Str}(h:sc.names.lookup x=some .cell):∃c,(cellsFrom n sc.names []).lookup x=some c:=by have q:=xb sc.names n [] (.inl h);exact lx.mp q
theorem RQ{CX:iS}{P:bg}{w:bu}{K:ak}{mg:Str->Option af}{base:bx}{N ps:zu}{qual:Str}{scope:dj}{f:ah}{cd:af}{A:bq}{outer:List Env}{s s1:ag}{H:Hp}{E:XK}{us:List af}{vs:List V}(S:Ab N ps scope)(hd:A.handled=none)(e0:Co P w K mg base A outer s H)(hl:vs.length=ps.length)(r:Ae vs us)(x:InCallC s s.heap.objs.size (bindL (envOfC qual scope s.heap.objs.size f cd).kindOf (ps.zip us) λ_=>none) (cellsFrom (s.heap.objs.size+1) scope.names []) (bindC (envOfC qual scope s.heap.objs.size f cd).kindOf (ps.zip us) λ_=>none) s1):
  Inv (eK CX P w K mg base N qual scope f cd A outer s H E) [] (start N vs) H s1:=by
 have Bc:ps.length<=N.length:=by have:=congrArg oj S.pre;rw[nj]at this;lia
 obtain⟨h1,tk,rfl,hk⟩:=x.done;have noA:∀b:ah,b∉(eK CX P w K mg base N qual scope f cd A outer s H E).ex:=λb z=>absurd (show b∈([]:List ah) from z) (by simp);refine⟨⟨e0.mod,S.kind,rfl,rfl,aq _,λy z c h1 h2=>?_,λy hy=>?_,λy c _ h=>?_,λ_=>hd,ym e0.frames,.inr ⟨rfl,rfl⟩,λb z=>absurd z (noA b),e0.bs,e0.bsz,λb _ _=>noA b,λb z=>absurd z (noA b),e0.funs,e0.frf⟩,
  rfl,e0.bare,Un.kept hk,⟨_,x.toInCall.ns,λi y v h1 h2 h3=>?_⟩,λy c h=>⟨_,x.cell y c h⟩,e0.hok.fresh (aq _),λy c h=>?_,λp hp=>absurd (show p∈([]:List (ah×Obj)) from hp) (by simp),e0.hok.kept hk,?_⟩
 ·exact name_of_addr x.apart (fh h1) (fh h2)
 ·have hy:scope.names.lookup y=some .cell∨scope.names.lookup y=some .free:=hy
  rcases hy with hy|hy
  ·exact F2 hy
  ·exact absurd rfl (S.nofree _ (fh hy))
 ·exact ij (x.above y c (fh h))
 ·have hi:i<vs.length:=by
   unfold start at h2
   by_cases hi:i<vs.length
   ·exact hi
   ·rw[gz (by simpa using hi)]at h2;rw[rn]at h2
    split at h2<;>cases h2
  have ha:vs[i]?=some v:=by
   unfold start at h2;rw[di (by simpa using hi),fx]at h2
   cases e:vs[i]? with
   |none=>rw[e]at h2;cases h2
   |some a=>rw[e]at h2;cases h2;rfl
  obtain⟨u,hu,rv⟩:=r.get ha;have hp:ps[i]?=some y:=by rw[<-S.pre,List.getElem?_take_of_lt (by lia)];exact h1
  have ndP:ps.Nodup:=by rw[<-S.pre];exact S.nd.sublist (List.take_sublist _ _)
  refine⟨u,rv,?_⟩
  rcases S.par y (gb hp)with k|k
  ·exact .inl ⟨k,F0 ndP hp hu k⟩
  ·obtain⟨c,e⟩:=F2 (n:=s.heap.objs.size+1) k;refine .inr ⟨.inl k,c,e,?_⟩;have q:=x.cell y c e;rw[F1 ndP hp hu (by show scope.names.lookup y≠_;rw[k];decide)]at q;exact q
 ·exact e0.hok.fresh (ij (x.above y c (fh h)))
 ·unfold start;show _=N.length;rw[dw,cg,List.length_replicate]
  lia
theorem vJ{CX:iS}{P:bg}{w:bu}{K:ak}{mg:Str->Option af}{base:bx}{k:Nat}{f:ah}{name qual:Str}{params:ji}{body:List fj}{scope:dj}{dV kV doc pm cdv ct oc:af}{an od:Option ah}{osl:Array (Option af)}{N ps:zu}{sp:Sp}(lk:K.lookup f=some ⟨oc,od,.func (om name qual params body scope dV kV doc pm an cdv ct),osl⟩)(hcd:vc K cdv qual=true)(S:Ab N ps scope)(len:∀vs H Q E,sp vs H Q E->vs.length=ps.length)(Aw:∀(A:bq)(outer:List Env)(s:ag)(H:Hp)(vs:List V)(Q:VK)(E:XK),Aq k (A.deeper (envOfC qual scope s.heap.objs.size f cdv))->sp vs H Q E->
   ∃t,Du (eK CX P w K mg base N qual scope f cdv A outer s H E) body t/\t {nx:=λ_ H'=>Q .non H',rt:=Q} (start N vs) H):
  Af P w K mg base CX (k+1) f (om name qual params body scope dV kV doc pm an cdv ct) ps sp:=by
 refine⟨len,λA outer s H args us vs Q E hr e0 hb r hsp=>?_⟩;have hl:=len _ _ _ _ hsp;have KX:K.In s.heap:=e0.mod.kin.keeps λb o e=>(e0.bs b o e).1;have lim:s.heap.NoLimit:=e0.mod.nolimit.keeps λb o e=>(e0.bs b o e).1;have Bx:∀y∈ps.zip us,scope.names.lookup y.1=some .local∨(scope.names.lookup y.1=some .cell/\((cellsFrom (s.heap.objs.size+1) scope.names []).lookup y.1).isSome=true):=λ⟨n,v⟩hy=>by
  rcases S.par n (vh hy).1 with q|q
  ·exact .inl q
  ·exact .inr ⟨q,xb _ _ _ (.inl q)⟩
 refine codeAny_call_function hr.depth (KX _ _ lk) rfl S.co S.gen rfl (PySem.W.codeRec_of KX hcd) (hb _ _ _ _ ?_);refine wpAny_newFunctionEnv_cells S.kind Bx λenv he s1 x=>?_;subst he;refine⟨lim.keeps x.toInCall.keep,codeAny_func ?_⟩;obtain⟨t,ht,hq⟩:=Aw A outer s H vs Q E (hr.deeper _) hsp;have I:Inv (eK CX P w K mg base N qual scope f cdv A outer s H E) [] (start N vs) H s1:=RQ S hr.hd e0 hl r x;refine jk (ht [] s1 (start N vs) H _ I hq) (λfl s' hs=>?_) λe s' hs=>hs;have fin:∀{σ':St}{H':Hp}{v:V}{u:af},Inv (eK CX P w K mg base N qual scope f cdv A outer s H E) [] σ' H' s'->RelV v u->Q v H'->CE outer P w H s Q u s':=λ{σ' H' v u}J rv q=>⟨v,H',J.os,J.bare,J.base,J.hok,rv,q⟩
 cases fl with
 |ret u=>obtain⟨v,σ',H',J,rv,q⟩:=hs;exact fin J rv q
 |next=>obtain⟨σ',H',J,q⟩:=hs;exact fin (v:=V.non) (u:=jm) J rfl q
 |brk=>obtain⟨_,_,_,q⟩:=hs;exact gh q
 |cont=>obtain⟨_,_,_,q⟩:=hs;exact gh q
section
variable{X:Cx}{x:Str}{p pos:Pos}{e:ba}{es:List ba}{t:TA}{id T:String}{r:List V->Hp->VK->Prop}
noncomputable def vK(r:List V->Hp->VK->Prop)(t:TA):TE:=λσ H Q=>t σ H λvs H1=>r vs H1 Q
theorem vL(hc:Am X (.builtin id) r)(hg:Gl X x)(hm:X.mg x=none)(hv:cx x=some (.builtin id))(ha:PA X (e::es) t)(hn:x≠"__name__":=by decide)(Cd:(x==Ey)=false:=by decide)(he:ao (e::es) X.env=(false,eval e X.env)::ao es X.env:=by rfl)(Bc:(backTo pos (ao es X.env)).any (·.1)=false:=by rfl):PE X (.Call (.Name x p) (e::es) [] pos) (vK r t):=by
 intro pins s σ H Q I h;refine jl (oS I hg hm hv ?_ hn Cd);exact PyProof.Rows.callWith_builtin1 (aH (ha pos pins s σ H _ I h) λus s1⟨vs,H1,I1,r1,q1⟩=>hc pins s1 σ H1 vs us Q I1 r1 q1) he Bc
theorem F3(hc:Am X (.type T) r)(hg:Gl X x)(hm:X.mg x=none)(hv:cx x=some (.type T))(ha:PA X (e::es) t)(hn:x≠"__name__":=by decide)(Cd:(x==Ey)=false:=by decide)(he:ao (e::es) X.env=(false,eval e X.env)::ao es X.env:=by rfl)(Bc:(backTo pos (ao es X.env)).any (·.1)=false:=by rfl):PE X (.Call (.Name x p) (e::es) [] pos) (vK r t):=by
 intro pins s σ H Q I h;refine jl (oS I hg hm hv ?_ hn Cd);exact km (aH (ha pos pins s σ H _ I h) λus s1⟨vs,H1,I1,r1,q1⟩=>hc pins s1 σ H1 vs us Q I1 r1 q1) he Bc
end
end L2
abbrev Ez:=List L2.V
open L2.V renaming int->Ef,ref->Eo,str->Et
open L2.Ap renaming of->Ek
open L2.Bb renaming of->Em
namespace HT
open PySem PyProof.Rows
noncomputable def lexLt:zr->zr->Bool
 |[],[]=>false
 |[],_::_=>true
 |_::_,[]=>false
 |x::xs,y::ys=>if x=y then lexLt xs ys else decide (x<y)
theorem lexLt_cons(x y:Int)(xs ys:zr):lexLt (x::xs) (y::ys)=if x=y then lexLt xs ys else decide (x<y):=rfl
theorem RR:lexLt [] []=false:=rfl
theorem RS(y:Int)(ys:zr):lexLt [] (y::ys)=true:=rfl
theorem RT(x:Int)(xs:zr):lexLt (x::xs) []=false:=rfl
theorem RU(A:bq)(s:ag)(a:Int)(t:Tok)(c:Int)(u:Tok):∃e,kn A s (.int a t) (.int c u) e/\(e=true↔a=c):=⟨(a==c),SeqAt.EqAt.int_int a t c u,by simp⟩
theorem RV(A:bq)(s:ag)(a:Int)(t:Tok)(c:Int)(u:Tok)(prog:bg)(w:bu)(E:af->ag->Prop)(Q:af->ag->Prop)(h:Q (.bool (decide (a<c))) s):
  wpAny (model prog w) A (richCompare .Lt (.int a t) (.int c u)) Q E s:=
 (vt h:wpAny (model prog w) A (compareOp .Lt (.int a t) (.int c u)) Q E s)
section
open PySem.SeqAt
open PySem.AutoSeq1 (wpAny_loadPart')
open PySem.MeetsSeq PySem.MeetsSeq2 PySem.MeetsSeq3
theorem RW(l b:ah)(items Bd:Array af)(n n2:Nat)(dd dd2:Option ah)(sl sl2:Array (Option af))(ns ms:zr)(hi:kz items.toList ns)(hj:kz Bd.toList ms):
  Meets (ub.«tuple.__lt__» ⟨[.ref l,.ref b],[]⟩)
   (λ_ R s=>s.heap.get? l=some {cls:=.type "tuple",dict:=dd,data:=.seq items n,slots:=sl}/\s.heap.get? b=some {cls:=.type "tuple",dict:=dd2,data:=.seq Bd n2,slots:=sl2}/\
    R (.ok (.ret (.bool (lexLt ns ms)))) s):=
 .of_wp λprog w A R s h=>by
  obtain⟨hp,g,d,tk,os⟩:=s;obtain⟨hl,hb,h⟩:=h;have f2:=AutoSeq1.sub_tuple_tuple;have z1:items.size=ns.length:=by rw[<-hi.length];simp
  have z2:Bd.size=ms.length:=by rw[<-hj.length];simp
  wp_walk using wpAny_loadPart' hl,wpAny_loadPart' hb,wpAny_forIn_list _ (λrest b s'=>b.1=none/\s'=⟨hp,g,d,tk,os⟩/\∃(vs ws:List af)(ns' ms':zr),rest=vs.zip ws/\
   kz vs ns'/\kz ws ms'/\ns'.length+Bd.size=ms'.length+items.size/\R (.ok (.ret (.bool (lexLt ns' ms')))) ⟨hp,g,d,tk,os⟩) _
  case turn=>
   rintro ⟨y,x⟩ rest b s' ⟨hb',rfl,vs,ws,ns',ms',hz,hvi,hwi,hlen,hR⟩
   cases hvi with
   |nil=>rw[List.zip_nil_left]at hz;cases hz
   |cons a t hvi'=>
    cases hwi with
    |nil=>rw[List.zip_nil_right]at hz;cases hz
    |cons c u hwi'=>
     rw[List.zip_cons_cons]at hz;injection hz with hyx C';injection hyx with hy hx;subst hy hx;rw[lexLt_cons]at hR;simp only[br]at hlen;obtain⟨e,he,hiff⟩:=RU A.in1 ⟨hp,g,d,tk,os⟩ a t c u;refine ae (he prog w _ _ ?_)
     cases e with
     |true=>
      rw[if_pos (hiff.mp rfl)]at hR
      wp_walk
      exact⟨rfl,rfl,_,_,_,_,C',hvi',hwi',by lia,hR⟩
     |false=>
      rw[if_neg (λq=>absurd (hiff.mpr q) jc)]at hR;have hri:=RV A.in1 ⟨hp,g,d,tk,os⟩ a t c u prog w
      wp_walk using hri
      exact⟨_,rfl,by simpa using hR⟩
  case fin=>
   rintro ⟨b1,b2⟩ s' ⟨hb',rfl,vs,ws,ns',ms',hz,hvi,hwi,hlen,hR⟩
   simp only at hb';subst hb';have hv:lexLt ns' ms'=decide (items.size<Bd.size):=by
    cases hvi with
    |nil=>
     cases hwi with
     |nil=>simp only[kr]at hlen;rw[RR];exact(decide_eq_false (by lia)).symm
     |cons c u hw=>simp only[kr,br]at hlen;rw[RS];exact(decide_eq_true (by lia)).symm
    |cons a t hv=>
     cases hwi with
     |nil=>simp only[kr,br]at hlen;rw[RT];exact(decide_eq_false (by lia)).symm
     |cons c u hw=>rw[List.zip_cons_cons]at hz;cases hz
   rw[hv]at hR
   wp_walk
   exact⟨_,rfl,by simpa[Builtin.Tuple.tupleCompareSizes]using hR⟩
  case h=>exact⟨rfl,rfl,items.toList,Bd.toList,ns,ms,rfl,hi,hj,by lia,h⟩
end
section
variable{prog:bg}{w:bu}{A:bq}{E:af->ag->Prop}{s:ag}
theorem lt_tupInts{l b:ah}{items Bd:Array af}{ns ms:zr}{Q:af->ag->Prop}(hl:yp s.heap l items)(hb:yp s.heap b Bd)(hi:kz items.toList ns)(hj:kz Bd.toList ms)(hu:A.units<cLine)(h:Q (.bool (lexLt ns ms)) s):wpAny (model prog w) A (compareOp .Lt (.ref l) (.ref b)) Q E s:=by
 obtain⟨⟨cls,dd,data,sl⟩,ho,hc,n,hd⟩:=id hl;obtain⟨⟨cls2,dd2,data2,sl2⟩,ho2,hc2,n2,hd2⟩:=id hb;simp only at hc hd hc2 hd2;subst hc hd hc2 hd2;exact richCompare_meets_room (op:=.Lt) ⟨_,ho,rfl⟩ ⟨_,ho2,rfl⟩ PySem.F.slot_tuple_lt PySem.F.entry_tuple_lt (PySem.F.args_tuple_lt_2 _ _) (RW l b items Bd n n2 dd dd2 sl sl2 ns ms hi hj)
  ⟨ho,ho2,show ue (lexLt ns ms)≠Value.notImplemented/\Q (.bool (lexLt ns ms)) s from⟨(λx=>nomatch x),h⟩⟩ hu
theorem cat_tup{t b:ah}{vs ws:List af}{Q:af->ag->Prop}(ht:yp s.heap t vs.toArray)(hb:yp s.heap b ws.toArray)(hv:vs≠[])(h1:ws=[]->Q (.ref t) s)(h2:ws≠[]->Q (.ref s.heap.objs.size) {s with heap:=s.heap.push {cls:=.type "tuple",data:=.seq (vs++ws).toArray} })(hsz:vs.length+ws.length<=bj):wpAny (model prog w) A (binaryOp .Add (.ref t) (.ref b)) Q E s:=by
 obtain⟨⟨cls,dd,data,sl⟩,ho,hc,n,hd⟩:=id ht;obtain⟨⟨cls2,dd2,data2,sl2⟩,ho2,hc2,n2,hd2⟩:=id hb;simp only at hc hd hc2 hd2;subst hc hd hc2 hd2;have e:vs.toArray++ws.toArray=(vs++ws).toArray:=by simp
 by_cases hw:ws=[]
 ·exact concat_meets ⟨_,ho,rfl⟩ ⟨_,ho2,rfl⟩ xc zj rh qr (qh _ _)
   (tuple_addW1 t b vs.toArray ws.toArray n n2 dd dd2 sl sl2 (by simpa using hv) (by simp[hw])) ⟨ho,ho2,h1 hw⟩
 ·refine concat_meets ⟨_,ho,rfl⟩ ⟨_,ho2,rfl⟩ xc zj rh qr (qh _ _)
   (tuple_addW2 t b vs.toArray ws.toArray n n2 dd dd2 sl sl2 (by simpa using hv) (by simpa using hw) (by rw[bf,bf];exact hsz)) ⟨ho,ho2,?_⟩
  rw[e];exact h2 hw
noncomputable def sIx(n d:Nat):Option Int->Nat
 |none=>d
 |some v=>if v<0 then(v+(n:Int)).toNat else min v.toNat n
theorem sIx_none(n d:Nat):sIx n d none=d:=rfl
theorem sIx_nat(n d k:Nat):sIx n d (some (k:Int))=min k n:=by show(if(k:Int)<0 then((k:Int)+(n:Int)).toNat else min (k:Int).toNat n)=min k n;rw[if_neg (by lia),qv]
theorem RX(n d:Nat)(hd:d<=n)(o:Option Int):sIx n d o<=n:=by
 cases o with
 |none=>exact hd
 |some v=>
  show(if v<0 then(v+(n:Int)).toNat else min v.toNat n)<=n
  by_cases hv:v<0
  ·rw[if_pos hv];lia
  ·rw[if_neg hv];exact Nat.min_le_right _ _
theorem F5(v:Int)(n d:Nat):(if v<0 then max (v+(n:Int)) 0 else min v (n:Int))=((sIx n d (some v):Nat):Int):=by
 show(if v<0 then max (v+(n:Int)) 0 else min v (n:Int))=(((if v<0 then(v+(n:Int)).toNat else min v.toNat n):Nat):Int)
 by_cases hv:v<0
 ·simp only[if_pos hv];lia
 ·simp only[if_neg hv];lia
theorem RY(lo hi:Option Int)(n:Nat):nv lo hi 1 (n:Int)=(((sIx n 0 lo:Nat):Int),((sIx n n hi:Nat):Int)):=by
 have h1:¬((1:Int)<0):=by lia
 unfold nv;simp only[h1,if_false];refine Prod.ext ?_ ?_
 ·cases lo with
  |none=>rfl
  |some v=>exact F5 v n 0
 ·cases hi with
  |none=>rfl
  |some v=>exact F5 v n n
theorem RZ(i j:Nat):ku (i:Int) (j:Int) 1=j-i:=by
 unfold ku;have h1:(1:Int)>0:=by lia
 simp only[h1,if_true,Int.ediv_one]
 split<;>lia
theorem F6{v:af}{o:Option Int}{Q:Option Int->ag->Prop}(p:um v o)(h:Q o s):wpAny (model prog w) A (Builtin.Slice.slicePartIndex v) Q E s:=by
 cases p with
 |none=>exact slicePart_none h
 |int i t=>exact slicePart_int h
theorem sliceApplied_gen{sl:ah}{vl vu:af}{lo hi:Option Int}{n:Nat}{Q:Int×Int×Nat->ag->Prop}(hs:s.heap.IsSliceOf sl vl vu .none)(pl:um vl lo)(pu:um vu hi)(h:Q (((sIx n 0 lo:Nat):Int),1,sIx n n hi-sIx n 0 lo) s):wpAny (model prog w) A (uh (.ref sl) (pure (n:Int))) Q E s:=by
 obtain⟨os,hos,hcs,hds⟩:=id hs;unfold uh Builtin.Slice.sliceFields;refine ae (ae (dg hos hds (x:=vl) rfl (ae (dg hos hds (x:=vu) rfl (ae (dg hos hds (x:=.none) rfl (aj ?_)))))));refine ae (slicePart_none ?_);show wpAny _ _ (if((1:Int)==0)=true then _ else _) _ _ s;rw[if_neg (by decide)];refine ae (F6 pl (ae (F6 pu (ae (aj ?_)))));show wpAny _ _ (match nv lo hi 1 (n:Int)with|(lo,hi)=>pure (lo,(1:Int),ku lo hi 1)) _ _ s;rw[RY lo hi n];show wpAny _ _ (pure (((sIx n 0 lo:Nat):Int),(1:Int),ku ((sIx n 0 lo:Nat):Int) ((sIx n n hi:Nat):Int) 1)) _ _ s;rw[RZ];exact aj h
theorem R0(xs:Array af)(i k:Nat):((cf k).filterMap λ(m:Nat)=>xs[((i:Int)+(m:Int)*1).toNat]?).toArray=((xs.toList.drop i).take k).toArray:=by
 have e:(λ(m:Nat)=>xs[((i:Int)+(m:Int)*1).toNat]?)=λm=>xs[i+m]?:=by
  funext m
  have:((i:Int)+(m:Int)*1).toNat=i+m:=by lia
  rw[this]
 rw[e];have:=pick_run xs i k;rw[List.filterMap_map]at this;have e2:((λx=>xs[x]?)∘λx=>i+x)=λm=>xs[i+m]?:=rfl;rw[e2]at this;rw[this]
theorem getItem_tuple_cut{t sl:ah}{items:Array af}{vl vu:af}{lo hi:Option Int}{Q:af->ag->Prop}(ht:yp s.heap t items)(hs:s.heap.IsSliceOf sl vl vu .none)(pl:um vl lo)(pu:um vu hi)(hw:¬(sIx items.size 0 lo=0/\sIx items.size items.size hi=items.size))(h:Q (.ref s.heap.objs.size) {s with heap:=s.heap.push {cls:=.type "tuple",data:=.seq ((items.toList.drop (sIx items.size 0 lo)).take (sIx items.size items.size hi-sIx items.size 0 lo)).toArray} })(hsz:items.size<=bj):wpAny (model prog w) A (getItem (.ref t) (.ref sl)) Q E s:=by
 have htake:sizeOk (.seq ((items.toList.drop (sIx items.size 0 lo)).take (sIx items.size items.size hi-sIx items.size 0 lo)).toArray):=by
  show((items.toList.drop (sIx items.size 0 lo)).take (sIx items.size items.size hi-sIx items.size 0 lo)).toArray.size<=bj;rw[bf,nj,List.length_drop,ou]
  lia
 have hj:sIx items.size items.size hi<=items.size:=RX _ _ (aq _) hi;obtain⟨os,hos,hcs,hds⟩:=id hs;have hTs:s.TypeIs (.ref sl) "slice":=⟨os,hos,hcs⟩;unfold getItem
 try with_reducible refine fg ?_
 first|refine ae (aj ?_)|skip
 refine ae (vz ht.typeIs (by decide) ?_);refine ae (ib (name:=ik "__getitem__") ht.typeIs gq
  (gv gq ht.typeIs entry_tuple_getitem ?_ (args_tuple_getitem _ _)))
 show wpAny _ _ (ui (.ref t) >>=_) _ _ s;refine ae (zk ht ?_);refine ae (wpAny_typeOf hTs ?_);rw[if_pos (by decide)];refine ae (sliceApplied_gen hs pl pu ?_);have hno:¬((((sIx items.size 0 lo:Nat):Int)==0&&(1:Int)==1&&(sIx items.size items.size hi-sIx items.size 0 lo)==items.size)=true):=by intro q;rw[dh,dh]at q;have q1:((sIx items.size 0 lo:Nat):Int)=0:=eq_of_beq q.1.1;have q2:sIx items.size items.size hi-sIx items.size 0 lo=items.size:=eq_of_beq q.2;exact hw ⟨by lia,by lia⟩
 show wpAny _ _ (if(((sIx items.size 0 lo:Nat):Int)==0&&(1:Int)==1&&(sIx items.size items.size hi-sIx items.size 0 lo)==items.size)=true then _ else _) _ _ s;rw[if_neg hno,R0]
 first
  |exact ae (m:=lb _) (dz (aj ⟨_,rfl,aj h⟩) htake)
  |exact ae (m:=lb _) (dz (ae (aj (aj ⟨_,rfl,aj h⟩))) htake)
  |exact ae (ae (m:=lb _) (dz (aj (aj ⟨_,rfl,aj h⟩)) htake))
  |exact ae (ae (m:=lb _) (dz (aj ⟨_,rfl,aj h⟩) htake))
end
end HT
namespace L2
abbrev TO:=St->Hp->(Option Int->Hp->Prop)->Prop
noncomputable def PO(X:Cx)(e:Option ba)(t:TO):Prop:=
 ∀(pins:List (ah×Obj))(s:ag)(σ:St)(H:Hp)(Q:Option Int->Hp->Prop),Inv X pins σ H s->t σ H Q->
  wpAny (model X.prog X.w) X.A (evalPart e X.env) (λu s'=>∃o H',Inv X pins σ H' s'/\um u o/\Q o H') X.xe s
noncomputable def R3:TO:=λ_ H Q=>Q none H
noncomputable def R4(t:TE):TO:=λσ H Q=>t σ H λx H1=>∃i,x=.int i/\Q (some i) H1
theorem F7{ns:zr}:∀{us:List af},Ae (ns.map Ef) us->kz us ns:=by
 induction ns with
 |nil=>intro us r;rw[List.map_nil]at r;cases r;exact .nil
 |cons n ns ih=>
  intro us r;rw[fw]at r
  cases r with
  |cons r1 r2=>obtain⟨t,e⟩:=r1;subst e;exact .cons n t (ih r2)
section
variable{X:Cx}{e:ba}{te:TE}{lo hi:Option ba}{tl th:TO}{pos p2:Pos}
theorem R5:PO X none R3:=by intro pins s σ H Q I h;rw[evalPart_none];exact aj ⟨none,H,I,.none,h⟩
theorem R6(h:PE X e te):PO X (some e) (R4 te):=by intro pins s σ H Q I hw;rw[evalPart_some];refine aH (h pins s σ H _ I hw) λu s1⟨x,H1,I1,r1,q1⟩=>?_;obtain⟨i,rfl,q⟩:=q1;obtain⟨t,rfl⟩:=r1;exact⟨some i,H1,I1,.int i t,q⟩
def SlR(X:Cx)(r:V->Option Int->Option Int->Hp->VK->Prop):Prop:=
 ∀(pins:List (ah×Obj))(s:ag)(σ:St)(H:Hp)(x:V)(v vl vu:af)(lo hi:Option Int)(sl:ah)(Q:VK),Inv X pins σ H s->RelV x v->s.heap.IsSliceOf sl vl vu .none->um vl lo->um vu hi->r x lo hi H Q->
  ∃T id,typeLookup (.type T) "__getitem__"=pure (some (.builtin id))/\s.TypeIs v T/\wpAny (model X.prog X.w) X.A (getItem v (.ref sl)) (EP X pins σ Q) X.xe s
theorem SlR.or{r r':V->Option Int->Option Int->Hp->VK->Prop}(h:SlR X r)(h':SlR X r'):SlR X (λx lo hi H Q=>r x lo hi H Q∨r' x lo hi H Q):=by
 intro pins s σ H x v vl vu lo hi sl Q I rx hs pl pu q
 rcases q with q|q
 ·exact h pins s σ H x v vl vu lo hi sl Q I rx hs pl pu q
 ·exact h' pins s σ H x v vl vu lo hi sl Q I rx hs pl pu q
noncomputable def R7(r:V->Option Int->Option Int->Hp->VK->Prop)(te:TE)(tl th:TO):TE:=λσ H Q=>te σ H λx H1=>tl σ H1 λl H2=>th σ H2 λu H3=>r x l u H3 Q
theorem F8{r:V->Option Int->Option Int->Hp->VK->Prop}(hr:SlR X r)(he:PE X e te)(hl:PO X lo tl)(hu:PO X hi th):PE X (.Subscript e (.Slice lo hi none p2) pos) (R7 r te tl th):=by intro pins s σ H Q I h;refine Subscript_ (aH (he pins s σ H _ I h) λv s1⟨x,H1,I1,r1,q1⟩=>?_);refine wpAny_Slice (aH (hl pins s1 σ H1 _ I1 q1) λvl s2⟨l,H2,I2,pl,q2⟩=>aH (hu pins s2 σ H2 _ I2 q2) λvu s3⟨u,H3,I3,pu,q3⟩=>?_);rw[evalPart_none];refine aj ?_;have I4:Inv X pins σ H3 {s3 with heap:=s3.heap.push {cls:=.type "slice",data:=.fields #[vl,vu,.none]} }:=I3.kept (t':=s3.toks) λb ob q=>ai _ q;obtain⟨T,id,hT,ht,hg⟩:=hr pins {s3 with heap:=s3.heap.push {cls:=.type "slice",data:=.fields #[vl,vu,.none]} } σ H3 x v vl vu l u s3.heap.objs.size Q I4 r1 (Heap.IsSliceOf.new ..) pl pu q3;show wpAny (model X.prog X.w) X.A (subscriptTail e (.Slice lo hi none p2) v (.ref s3.heap.objs.size)) (EP X pins σ Q) X.xe {s3 with heap:=s3.heap.push {cls:=.type "slice",data:=.fields #[vl,vu,.none]} };exact tail_any (ops:=[.ref s3.heap.objs.size,v]) ht hT hg (by with_unfolding_all rfl)
noncomputable def nE(xs:Ez)(lo hi:Option Int):Ez:=(xs.drop (HT.sIx xs.length 0 lo)).take (HT.sIx xs.length xs.length hi-HT.sIx xs.length 0 lo)
theorem F9(xs:Ez)(lo hi:Option Int):(nE xs lo hi).length<=xs.length:=by
 unfold nE;rw[nj,List.length_drop]
 lia
def R8(K:ak):V->Option Int->Option Int->Hp->VK->Prop:=λx lo hi H Q=>∃a xs,x=.ref a/\Ap K H a xs/\
 ¬(HT.sIx xs.length 0 lo=0/\HT.sIx xs.length xs.length hi=xs.length)/\∀p,H p=none->Q (.ref p) (aF H p (.tup (nE xs lo hi)))
theorem R9:SlR X (R8 X.K):=by
 intro pins s σ H x v vl vu lo hi sl Q I rx hs pl pu h;obtain⟨a,xs,rfl,hx,hw,q⟩:=h;cases rx;obtain⟨its,r,ht,hz⟩:=I.tuple hx;have hlen:its.toArray.size=xs.length:=by rw[bf];exact r.length.symm
 refine⟨"tuple",_,gq.lookup,ht.typeIs,?_⟩;refine HT.getItem_tuple_cut ht hs pl pu (by rw[hlen];exact hw) ?_ (by rw[hlen];exact hz);rw[hlen];refine⟨.ref s.heap.objs.size,_,I.laid (t':=s.toks) (o:=.tup (nE xs lo hi)) (λb ob q=>ai _ q) (aq _) ?_,rfl,q _ (I.hok.fresh (aq _))⟩;exact⟨cm (F9 xs lo hi) hz,_,(r.drop (HT.sIx xs.length 0 lo)).take (HT.sIx xs.length xs.length hi-HT.sIx xs.length 0 lo),Ba.new _ _⟩
def GA(K:ak):R2:=λx y H Q=>∃a b ns ms,x=.ref a/\y=.ref b/\Ap K H a (ns.map Ef)/\Ap K H b (ms.map Ef)/\Q (.bl (HT.lexLt ns ms)) H
theorem SA(hu:X.A.units<cLine):Bi X (compareOp .Lt) (GA X.K):=by intro pins s σ H x y v u Q I rx ry h;obtain⟨a,b,ns,ms,rfl,rfl,ha,hb,q⟩:=h;cases rx;cases ry;obtain⟨its,r1,p1,_⟩:=I.tuple ha;obtain⟨Bz,r2,p2,_⟩:=I.tuple hb;have i1:kz its.toArray.toList ns:=F7 r1;have i2:kz Bz.toArray.toList ms:=F7 r2;exact HT.lt_tupInts p1 p2 i1 i2 hu ⟨.bl (HT.lexLt ns ms),H,I,rfl,q⟩
def GB(K:ak):R2:=λx y H Q=>∃a b xs ys,x=.ref a/\y=.ref b/\Ap K H a xs/\Ap K H b ys/\xs≠[]/\xs.length+ys.length<=bj/\
 (ys=[]->Q (.ref a) H)/\(ys≠[]->∀p,H p=none->Q (.ref p) (aF H p (.tup (xs++ys))))
theorem Ae.nil_iff{xs:Ez}{us:List af}(r:Ae xs us):us=[]↔xs=[]:=by
 cases r with
 |nil=>simp
 |cons _ _=>simp
theorem SD:Bi X (binaryOp .Add) (GB X.K):=by intro pins s σ H x y v u Q I rx ry h;obtain⟨a,b,xs,ys,rfl,rfl,ha,hb,hx,hz,q1,q2⟩:=h;cases rx;cases ry;obtain⟨its,r1,p1,_⟩:=I.tuple ha;obtain⟨Bz,r2,p2,_⟩:=I.tuple hb;refine HT.cat_tup p1 p2 (λz=>hx (r1.nil_iff.mp z)) (λz=>⟨.ref a,H,I,rfl,q1 (r2.nil_iff.mp z)⟩) (λz=>?_) (by rw[<-r1.length,<-r2.length];exact hz);refine⟨.ref s.heap.objs.size,_,I.laid (t':=s.toks) (o:=.tup (xs++ys)) (λb ob q=>ai _ q) (aq _) ?_,rfl,q2 (λw=>z (r2.nil_iff.mpr w)) _ (I.hok.fresh (aq _))⟩;exact⟨by rw[dw];exact hz,_,r1.append r2,Ba.new _ _⟩
end
noncomputable def oU(n:Nat)(i:Int):Option Nat:=if 0<=i then(if i<n then some i.toNat else none)else if -(n:Int)<=i then some (i+n).toNat else none
def kE{α:Type}(xs:List α)(i:Int):Option α:=(oU xs.length i).bind λj=>xs[j]?
theorem SE{n:Nat}{i:Int}{j:Nat}(h:oU n i=some j):seqIndex? i n=some j/\j<n/\-(n:Int)<=i/\i<n:=by
 unfold oU at h
 by_cases h0:0<=i
 ·rw[if_pos h0]at h
  by_cases h1:i<n
  ·rw[if_pos h1]at h;have e:i.toNat=j:=de h;exact⟨by rw[seqIndex_of h0 h1,e],by lia,by lia,h1⟩
  ·rw[if_neg h1]at h;cases h
 ·rw[if_neg h0]at h
  by_cases h1:-(n:Int)<=i
  ·rw[if_pos h1]at h;have e:(i+n).toNat=j:=de h;exact⟨by rw[seqIndex_neg (by lia) h1,e],by lia,h1,by lia⟩
  ·rw[if_neg h1]at h;cases h
theorem AB{α:Type}{xs:List α}{i:Int}{v:α}(h:kE xs i=some v):∃j,seqIndex? i xs.length=some j/\xs[j]?=some v/\j<xs.length/\-(xs.length:Int)<=i/\i<xs.length:=by
 unfold kE at h
 cases e:oU xs.length i with
 |none=>rw[e]at h;cases h
 |some j=>rw[e]at h;obtain⟨h1,h2,h3,h4⟩:=SE e;exact⟨j,h1,h,h2,h3,h4⟩
noncomputable def AD(b:ba):Prop:=∀o i,subscripted b false o i=operate [o,i] (getItem o i)
def IxR(X:Cx)(r:R2):Prop:=
 ∀(value slice:ba)(pins:List (ah×Obj))(s:ag)(σ:St)(H:Hp)(x y:V)(v u:af)(Q:VK),Inv X pins σ H s->RelV x v->RelV y u->r x y H Q->
  subscripted slice false v u=operate [v,u] (getItem v u)->wpAny (model X.prog X.w) X.A (subscriptTail value slice v u) (EP X pins σ Q) X.xe s
def nF(X:Cx)(id:String)(r:V->Ez->Hp->VK->Prop):Prop:=
 ∀(pins:List (ah×Obj))(s:ag)(σ:St)(H:Hp)(x:V)(xs:Ez)(v:af)(us:List af)(Q:VK),Inv X pins σ H s->RelV x v->Ae xs us->r x xs H Q->
  wpAny (model X.prog X.w) X.A (call (.builtin id) (v::us)) (EP X pins σ Q) X.xe s
section
variable{X:Cx}{a b:ba}{ta tb:TE}{pos:Pos}
theorem IxR.or{r r':R2}(h:IxR X r)(h':IxR X r'):IxR X (λx y H Q=>r x y H Q∨r' x y H Q):=by
 intro value slice pins s σ H x y v u Q I rx ry q hs
 rcases q with q|q
 ·exact h value slice pins s σ H x y v u Q I rx ry q hs
 ·exact h' value slice pins s σ H x y v u Q I rx ry q hs
theorem GC{r:R2}(hr:IxR X r)(ha:PE X a ta)(hb:PE X b tb)(hs:AD b):PE X (.Subscript a b pos) (sC r ta tb):=by intro pins s σ H Q I h;exact Subscript_ (zW ha hb I h λv u s2 x y H2 I2 rx ry q=>hr a b pins s2 σ H2 x y v u Q I2 rx ry q (hs _ _))
def GD(K:ak):R2:=λx y H Q=>∃p xs i v,x=.ref p/\y=.int i/\Bb K H p xs/\kE xs i=some v/\Q v H
def GF(K:ak):R2:=λx y H Q=>∃p xs i v,x=.ref p/\y=.int i/\Ap K H p xs/\kE xs i=some v/\Q v H
def GG:R2:=λx y H Q=>∃z i c,x=.str z/\y=.int i/\z.length<=bj/\kE z.cps.toList i=some c/\Q (.str ⟨#[c]⟩) H
theorem ix_list:IxR X (GD X.K):=by
 intro value slice pins s σ H x y v u Q I rx ry h hs;obtain⟨p,xs,i,z,rfl,rfl,hq,he,q⟩:=h;cases rx;obtain⟨t,rfl⟩:=ry;obtain⟨its,r,pl,hz⟩:=I.list hq;obtain⟨j,h1,h2,h3,h4,h5⟩:=AB he;obtain⟨w,ew,rw'⟩:=r.get h2;have hl:=r.length;have hn:=qI;have fin:EP X pins σ Q w s:=⟨z,H,I,rw',q⟩
 by_cases h0:0<=i
 ·have hj:i.toNat=j:=by rw[seqIndex_of h0 h5]at h1;exact de h1
  exact item_listR pl.isList h0 (by lia) (by rw[hj];simpa using ew) fin hs
 ·have hj:(i+(its.toArray.size:Int)).toNat=j:=by rw[seqIndex_neg (by lia) h4]at h1;rw[bf,<-hl];exact de h1
  exact subscriptTail_builtinR (x:=w) pl.isList.typeIs slot_list_getitem.lookup
   (wpAny_getItem_list_neg (Q:=λr s'=>r=w/\EP X pins σ Q r s') pl.isList (by lia) (by rw[bf]<;>lia) (by lia) (by rw[hj];simpa using ew) ⟨rfl,fin⟩) hs
theorem ix_tup:IxR X (GF X.K):=by
 intro value slice pins s σ H x y v u Q I rx ry h hs;obtain⟨p,xs,i,z,rfl,rfl,hq,he,q⟩:=h;cases rx;obtain⟨t,rfl⟩:=ry;obtain⟨its,r,pl,hz⟩:=I.tuple hq;obtain⟨j,h1,h2,h3,h4,h5⟩:=AB he;obtain⟨w,ew,rw'⟩:=r.get h2;have hl:=r.length;have hn:=qI;have fin:EP X pins σ Q w s:=⟨z,H,I,rw',q⟩
 exact subscriptTail_builtinR (x:=w) pl.typeIs slot_tuple_getitem.lookup
  (getItem_tuple (j:=j) (Q:=λr s'=>r=w/\EP X pins σ Q r s') pl (by lia) (by lia) (by rw[bf,<-hl];exact h1) (by simpa using ew) ⟨rfl,fin⟩) hs
theorem SF:IxR X GG:=by
 intro value slice pins s σ H x y v u Q I rx ry h hs;obtain⟨z,i,c,rfl,rfl,hz,he,q⟩:=h;obtain⟨t,rfl⟩:=rx;obtain⟨t',rfl⟩:=ry;obtain⟨j,h1,h2,h3,h4,h5⟩:=AB he;have hl:z.cps.toList.length=z.length:=by simp[Str.length]
 rw[hl]at h1 h4 h5;have hn:=qI;exact tail_any (typeIs_str s z t) slot_str_getitem.lookup (getItem_str (c:=c) (by have e1:decide (i < -(2^63:Int))=false:=decide_eq_false (by lia);have e2:decide (i>=2^63)=false:=decide_eq_false (by lia);rw[e1,e2,Bool.or_false]) (by rw[h1];simpa using h2) ⟨.str ⟨#[c]⟩,H,I.tok _,⟨_,rfl⟩,q⟩) hs
def AE(K:ak):R2:=λx y H Q=>GD K x y H Q∨GF K x y H Q∨GG x y H Q
theorem SG:IxR X (AE X.K):=ix_list.or (ix_tup.or SF)
theorem SH(lo hi:Option Int)(n:Nat):(sliceBounds lo hi none n).1=((HT.sIx n 0 lo:Nat):Int)/\(sliceBounds lo hi none n).2.1=((HT.sIx n n hi:Nat):Int)/\(sliceBounds lo hi none n).2.2=1:=by
 refine⟨?_,?_,rfl⟩
 ·cases lo with
  |none=>simp[sliceBounds,HT.sIx]
  |some i=>
   simp only[sliceBounds,HT.sIx,Option.getD_none,show(1:Int)>0 by decide,if_true]
   by_cases h:i<0
   ·simp only[h,if_true]<;>lia
   ·simp only[h,if_false]<;>lia
 ·cases hi with
  |none=>simp[sliceBounds,HT.sIx]
  |some i=>
   simp only[sliceBounds,HT.sIx,Option.getD_none,show(1:Int)>0 by decide,if_true]
   by_cases h:i<0
   ·simp only[h,if_true]<;>lia
   ·simp only[h,if_false]<;>lia
theorem SI(its:List af)(lo hi:Option Int):slicePick its.toArray lo hi none=((its.drop (HT.sIx its.length 0 lo)).take (HT.sIx its.length its.length hi-HT.sIx its.length 0 lo)).toArray:=by obtain⟨h1,h2,h3⟩:=SH lo hi its.toArray.size;unfold slicePick;rw[h1,h2,h3];simp only[sliceRange_one,pick_run,bf]<;>rfl
def SJ(K:ak):V->Option Int->Option Int->Hp->VK->Prop:=λx lo hi H Q=>∃a xs,x=.ref a/\Bb K H a xs/\∀p,H p=none->Q (.ref p) (aF H p (.lst (nE xs lo hi)))
theorem GH:SlR X (SJ X.K):=by intro pins s σ H x v vl vu lo hi sl Q I rx hs pl pu h;obtain⟨a,xs,rfl,hx,q⟩:=h;cases rx;obtain⟨its,r,ht,hz⟩:=I.list hx;have hlen:=r.length;refine⟨"list",_,slot_list_getitem.lookup,ht.isList.typeIs,?_⟩;refine wpAny_getItem_list_slice ht.isList hs pl pu .none (by simp) ?_ (by rw[bf]<;>lia);rw[SI,<-hlen];refine⟨.ref s.heap.objs.size,_,I.laid (t':=s.toks) (o:=.lst (nE xs lo hi)) (λb ob q=>ai _ q) (aq _) ?_,rfl,q _ (I.hok.fresh (aq _))⟩;exact⟨cm (F9 xs lo hi) hz,_,0,(r.drop (HT.sIx xs.length 0 lo)).take (HT.sIx xs.length xs.length hi-HT.sIx xs.length 0 lo),ax _ rfl⟩
theorem SK:Am X (.builtin "len") (λxs H Q=>∃p ys,xs=[.ref p]/\(Bb X.K H p ys∨Ap X.K H p ys)/\Q (.int ys.length) H):=by
 intro pins s σ H xs us Q I r h;obtain⟨p,ys,rfl,hq,q⟩:=h;obtain⟨u,rfl,rx⟩:=gI r;cases rx;have hn:=qI
 rcases hq with hq|hq
 ·obtain⟨its,r',pl,hz⟩:=I.list hq;have hlen:=r'.length;exact zb pl.isList (by simp only[bf]<;>lia) ⟨.int ys.length,H,I.tok _,⟨s.toks+1,by rw[bf,hlen]⟩,q⟩
 ·obtain⟨its,r',pl,hz⟩:=I.tuple hq;have hlen:=r'.length;exact len_tuple pl (by simp only[bf]<;>lia) ⟨.int ys.length,H,I.tok _,⟨s.toks+1,by rw[bf,hlen]⟩,q⟩
theorem SN:Am X (.type "list") (λxs H Q=>∃p ys,xs=[.ref p]/\(Bb X.K H p ys∨Ap X.K H p ys)/\∀l,H l=none->Q (.ref l) (aF H l (.lst ys))):=by
 intro pins s σ H xs us Q I r h;obtain⟨p,ys,rfl,hq,q⟩:=h;obtain⟨u,rfl,rx⟩:=gI r;cases rx;have fin:∀(its:List af),Ae ys its->ys.length<=bj->∀(h':bx)(c':Nat),(∀b o',s.heap.get? b=some o'->h'.get? b=some o')->
   h'.get? s.heap.objs.size=some {cls:=.type "list",dict:=none,data:=.seq its.toArray c',slots:=#[]}->EP X pins σ Q (.ref s.heap.objs.size) {s with heap:=h'}:=λits r' hz h' c' kp e=>
  ⟨.ref s.heap.objs.size,_,I.laid (t':=s.toks) kp (aq _) (show Ag X.prog X.w _ h' _ (.lst ys) from⟨hz,its,c',r',e⟩),rfl,q _ (I.hok.fresh (aq _))⟩
 rcases hq with hq|hq
 ·obtain⟨its,r',pl,hz⟩:=I.list hq;have hlen:=r'.length;obtain⟨o,ho,hc,n,hd⟩:=pl.isList;exact call_list_seq p (.inl rfl) ho hc hd (λh' c' kp e=>fin its r' hz h' c' kp e) (by simp only[bf]<;>lia)
 ·obtain⟨its,r',pl,hz⟩:=I.tuple hq;have hlen:=r'.length;obtain⟨o,ho,hc,n,hd⟩:=pl;exact call_list_seq p (.inr rfl) ho hc hd (λh' c' kp e=>fin its r' hz h' c' kp e) (by simp only[bf]<;>lia)
theorem SO:Am X (.type "tuple") (λxs H Q=>∃p ys,xs=[.ref p]/\((Bb X.K H p ys/\∀l,H l=none->Q (.ref l) (aF H l (.tup ys)))∨(Ap X.K H p ys/\Q (.ref p) H))):=by
 intro pins s σ H xs us Q I r h;obtain⟨p,ys,rfl,h⟩:=h;obtain⟨u,rfl,rx⟩:=gI r;cases rx
 rcases h with⟨hq,q⟩|⟨hq,q⟩
 ·obtain⟨its,r',pl,hz⟩:=I.list hq;have hlen:=r'.length;refine call_tuple_list pl.isList (λh' kp=>?_) (by simp only[bf]<;>lia);have I1:Inv X pins σ H {s with heap:=h'}:=I.kept (t':=s.toks) kp;have I2:Inv X pins σ (aF H h'.objs.size (.tup ys)) {s with heap:=h'.push {cls:=.type "tuple",data:=.seq its.toArray} }:=I1.laid (t':=s.toks) (λb o e=>ai _ e) (aq _) (show Ag X.prog X.w _ _ _ (.tup ys) from⟨hz,its,r',Ba.new _ _⟩);exact⟨.ref h'.objs.size,_,I2,rfl,q _ (I1.hok.fresh (aq _))⟩
 ·obtain⟨its,r',pl,hz⟩:=I.tuple hq;exact call_tuple_same pl ⟨.ref p,H,I,rfl,q⟩
def sF(K:ak)(T:String)(x:V)(H:Hp):Prop:=match x with
 |.str _=>T="str"
 |.int _=>T="int"
 |.ref p=>(T="list"/\∃xs,Bb K H p xs)∨(T="tuple"/\∃o,K.lookup p=some o/\o.cls=.type "tuple"/\o.dict=none) ∨
   (T="dict"/\((∃kvs,H p=some (.dK kvs))∨∃kvs,H p=some (.dT kvs)))∨(T="set"/\∃S n,H p=some (.set S n))
 |_=>False
theorem GI{pins:List (ah×Obj)}{σ:St}{H:Hp}{s:ag}{T:String}{x:V}{v:af}(I:Inv X pins σ H s)(r:RelV x v)(ty:sF X.K T x H):
  s.TypeIs v T/\∀a,v=.ref a->∃ob,s.heap.get? a=some ob/\ob.dict=none:=by
 cases x with
 |str z=>
  obtain⟨t,rfl⟩:=r
  cases (show T="str" from ty)
  exact⟨typeIs_str s z t,λ_ e=>nomatch e⟩
 |int i=>
  obtain⟨t,rfl⟩:=r
  cases (show T="int" from ty)
  exact⟨typeIs_int s i t,λ_ e=>nomatch e⟩
 |ref p=>
  cases r
  rcases ty with⟨rfl,xs,hq⟩|⟨rfl,o,hk,hc,hd⟩|⟨rfl,hk⟩|⟨rfl,S,n,hk⟩
  ·obtain⟨its,_,pl,_⟩:=I.list hq;refine⟨pl.isList.typeIs,λa e=>?_⟩;cases e;obtain⟨o,n,e,c,hd,_⟩:=pl;exact⟨o,e,hd⟩
  ·refine⟨⟨o,I.kIn p o hk,hc⟩,λa e=>?_⟩;cases e;exact⟨o,I.kIn _ o hk,hd⟩
  ·have z:∃o,s.heap.get? p=some o/\o.ExactDict:=by
    rcases hk with⟨kvs,hk⟩|⟨kvs,hk⟩
    ·obtain⟨_,_,_,_,o,_,_,e,ex,_⟩:=I.hok p _ hk;exact⟨o,e,ex⟩
    ·obtain⟨_,_,_,_,o,_,_,e,ex,_⟩:=I.hok p _ hk;exact⟨o,e,ex⟩
   obtain⟨o,e,ex⟩:=z;refine⟨⟨o,e,ex.1⟩,λa e2=>?_⟩;cases e2;exact⟨o,e,ex.2.1⟩
  ·obtain⟨o,_,_,_,e,ex,_⟩:=I.hok p _ hk;refine⟨⟨o,e,ex.1⟩,λa e2=>?_⟩;cases e2;exact⟨o,e,ex.2.1⟩
 |_=>exact gh ty
def SQ(K:ak)(T:String)(r:V->Ez->Hp->VK->Prop)(to:TE):TE:=λσ H Q=>to σ H λx H1=>sF K T x H1/\r x [] H1 Q
def SS(K:ak)(T:String)(r:V->Ez->Hp->VK->Prop)(to:TE)(t:TA):TE:=λσ H Q=>to σ H λx H1=>sF K T x H1/\t σ H1 λxs H2=>r x xs H2 Q
variable{o e:ba}{es:List ba}{to:TE}{t:TA}{name:Str}{apos cpos:Pos}{T id:String}{r:V->Ez->Hp->VK->Prop}
theorem SU(pa:PlainAttrs T)(slot:Slot T name id)(hty:typeOf (.builtin id)=pure (.type "method_descriptor"))(hm:nF X id r)(ho:PE X o to)(Ce:attributeBase o name X.env (eval o X.env)=eval o X.env:=by rfl)(Cc:(apos.endLine==cpos.line)=true:=by rfl):PE X (.Call (.Attribute o name apos) [] [] cpos) (SQ X.K T r to):=by
 intro pins s σ H Q I h;refine wpAny_Call_method0_late Ce Cc (aH (ho pins s σ H _ I h) λv s1⟨x,H1,I1,r1,ty,q1⟩=>?_);obtain⟨h1,h2⟩:=GI I1 r1 ty;exact⟨T,id,pa,slot,hty,h1,h2,mr rfl (PySem.evalArgs_none (hm pins s1 σ H1 x [] v [] Q I1 r1 .nil q1))⟩
theorem SV(pa:PlainAttrs T)(slot:Slot T name id)(hty:typeOf (.builtin id)=pure (.type "method_descriptor"))(hm:nF X id r)(ho:PE X o to)(ha:PA X (e::es) t)(Ce:attributeBase o name X.env (eval o X.env)=eval o X.env:=by rfl)(hfew:((backTo cpos (ao (e::es) X.env)).all (λx=>!x.1)&&(backToKw cpos (keywordEach [] X.env)).all (λx=>x.1.isSome)
   && decide ((e::es).length+([]:List vq).length+(if([]:List vq).isEmpty then 0 else 1)<30))=true:=by rfl)(Cc:(apos.endLine==cpos.line)=true:=by rfl)(hs:ao (e::es) X.env=(false,eval e X.env)::ao es X.env:=by rfl)(hplain:(backTo cpos (ao es X.env)).any (·.1)=false:=by rfl):
  PE X (.Call (.Attribute o name apos) (e::es) [] cpos) (SS X.K T r to t):=by
 intro pins s σ H Q I h;refine uc Ce hfew Cc rfl (aH (ho pins s σ H _ I h) λv s1⟨x,H1,I1,r1,ty,q1⟩=>?_);obtain⟨h1,h2⟩:=GI I1 r1 ty;refine⟨T,id,pa,slot,hty,h1,h2,?_⟩;have hA:=ha cpos pins s1 σ H1 _ I1 q1;rw[hs]at hA⊢;refine mr (by show(false||(backTo cpos (ao es X.env)).any (·.1))=false;rw[hplain]<;>rfl) (oh ?_);exact aH hA λus s2⟨vs,H2,I2,r2,q2⟩=>hm pins s2 σ H2 x vs v us Q I2 r1 r2 q2
end
def GJ(X:Cx)(id:String)(r:V->Ez->Hp->VK->Prop):Prop:=
 ∀(pins:List (ah×Obj))(s:ag)(σ:St)(H:Hp)(x:V)(xs:Ez)(v:af)(us:List af)(Q:VK),Inv X pins σ H s->RelV x v->Ae xs us->r x xs H Q->
  wpAny (model X.prog X.w) X.A (call (.builtin id) (v::us)) (EP X pins σ Q) X.xe s
theorem Ae.one:∀{x:V}{us:List af},Ae [x] us->∃u,us=[u]/\RelV x u
 |_,_,.cons r .nil=>⟨_,rfl,r⟩
theorem Ae.zero:∀{us:List af},Ae [] us->us=[]
 |_,.nil=>rfl
theorem Ae.dropLast{xs:Ez}{us:List af}(h:Ae xs us):Ae xs.dropLast us.dropLast:=by
 induction h with
 |nil=>exact .nil
 |cons r t ih=>
  cases t with
  |nil=>exact .nil
  |cons q t'=>exact .cons r ih
theorem SX{α:Type}(l:List α):l.eraseIdx (l.length-1)=l.dropLast:=by
 induction l with
 |nil=>rfl
 |cons a r ih=>
  cases r with
  |nil=>rfl
  |cons b r=>
   have e:(a::b::r).length-1=((b::r).length-1)+1:=by
    have h1:(a::b::r).length=r.length+2:=rfl;have h2:(b::r).length=r.length+1:=rfl
    lia
   rw[e,List.eraseIdx_cons_succ,ih]
   all_goals rfl
section
variable{X:Cx}{pins:List (ah×Obj)}{σ:St}{H:Hp}{s:ag}{l b:ah}{xs ys zs:Ez}
theorem Inv.lset{its its':List af}{n:Nat}{f:Array af->Array af}{t':Nat}(I:Inv X pins σ H s)(hH:H l=some (.lst xs))(e:s.heap.get? l=some {cls:=.type "list",data:=.seq its.toArray n})(hf:f its.toArray=its'.toArray)(hv:Ae ys its')(hz:ys.length<=bj):
  Inv X pins σ (aF H l (.lst ys)) {s with heap:=s.heap.update l (sy f),toks:=t'}:=by
 have q:=yt e f;rw[hf]at q;refine I.write (x:=l) (e:=l) (by rw[hH];exact trivial) (.inl rfl) (λb' u hb hu=>(mz s.heap (sy f) (cp hb)).trans hu) ⟨_,q⟩ ?_;exact⟨hz,its',_,hv,q⟩
theorem Inv.lnew{its:List af}{t':Nat}(I:Inv X pins σ H s)(hv:Ae ys its)(hz:ys.length<=bj):
  Inv X pins σ (aF H s.heap.objs.size (.lst ys)) {s with heap:=s.heap.push {cls:=.type "list",data:=.seq its.toArray},toks:=t'}:=
 I.laid (λ_ _ q=>ai _ q) (aq _) ⟨hz,its,0,hv,ax _ rfl⟩
theorem Inv.fresh(I:Inv X pins σ H s):H s.heap.objs.size=none:=I.hok.fresh (aq _)
theorem Inv.lstM(I:Inv X pins σ H s)(hH:H l=some (.lst xs)):xs.length<=bj/\∃(its:List af)(n:Nat),Ae xs its/\xs.length=its.length/\s.heap.get? l=some {cls:=.type "list",data:=.seq its.toArray n}:=by obtain⟨z,its,n,r,e⟩:=I.hok l _ hH;exact⟨z,its,n,r,r.length,e⟩
end
section
variable{X:Cx}
def SY:V->Ez->Hp->VK->Prop:=λx vs H Q=>∃l xs y,x=.ref l/\vs=[y]/\H l=some (.lst xs)/\xs.length<bj/\Q .non (aF H l (.lst (xs++[y])))
theorem S0:GJ X "list.append" SY:=by
 intro pins s σ H x vs v us Q I rx rv h;obtain⟨l,xs,y,rfl,rfl,hH,hz,q⟩:=h;cases rx;obtain⟨u,rfl,ru⟩:=rv.one;obtain⟨z,its,n,r,hl,e⟩:=I.lstM hH;refine call_meets F.slot_list_append ⟨_,e,rfl⟩ F.entry_list_append (F.args_list_append_2 _ _) (PySem.list_append l its.toArray n u (by rw[bf];lia)) ⟨e,?_⟩;refine⟨.non,_,I.lset (its':=its++[u]) hH e (by simp) (r.append (.cons ru .nil)) ?_,rfl,q⟩;rw[dw,yu]
 lia
def S1:V->Ez->Hp->VK->Prop:=λx vs H Q=>∃l xs y,x=.ref l/\vs=[]/\H l=some (.lst xs)/\xs[xs.length-1]?=some y/\Q y (aF H l (.lst xs.dropLast))
theorem S3:GJ X "list.pop" S1:=by
 intro pins s σ H x vs v us Q I rx rv h;obtain⟨l,xs,y,rfl,rfl,hH,hy,q⟩:=h;cases rx;have hus:=rv.zero;subst hus;obtain⟨z,its,n,r,hl,e⟩:=I.lstM hH;obtain⟨u,hu,ru⟩:=r.get hy;have hy':its.toArray[its.toArray.size-1]?=some u:=by show its.toArray[its.length-1]?=some u;rw[<-nh,<-hl];exact hu
 refine call_meets F.slot_list_pop ⟨_,e,rfl⟩ F.entry_list_pop (F.args_list_pop_1 _) (MeetsSeq.list_pop_last l its.toArray n u hy' (by rw[bf];lia)) ⟨e,?_⟩;refine⟨y,_,I.lset (its':=its.dropLast) hH e ?_ r.dropLast ?_,ru,q⟩
 ·show its.toArray.eraseIdxIfInBounds (its.toArray.size-1)=its.dropLast.toArray;rw[bf,List.eraseIdxIfInBounds_toArray,SX]
 ·rw[List.length_dropLast]
  lia
def GK:R2:=λx y H Q=>∃l b xs zs,x=.ref l/\y=.ref b/\H l=some (.lst xs)/\H b=some (.lst zs)/\xs.length+zs.length<=bj/\∀p,H p=none->Q (.ref p) (aF H p (.lst (xs++zs)))
theorem op_cat:Bi X (binaryOp .Add) GK:=by
 intro pins s σ H x y v u Q I rx ry h;obtain⟨l,b,xs,zs,rfl,rfl,hH,hB,hz,q⟩:=h;cases rx;cases ry;obtain⟨z,its,n,r,hl,e⟩:=I.lstM hH;obtain⟨z2,Bz,n2,r2,hl2,e2⟩:=I.lstM hB;refine PySem.P.add_list e e2 ?_ (by rw[bf,bf];lia);have ea:its.toArray++Bz.toArray=(its++Bz).toArray:=by simp
 rw[ea];exact⟨.ref _,_,I.lnew (t':=s.toks) (r.append r2) (by rw[dw];lia),rfl,q _ I.fresh⟩
end
section
variable{prog:bg}{w:bu}{A:bq}{E:af->ag->Prop}{s:ag}
set_option maxRecDepth 100000 in
end
end L2
namespace Att
open PySem PySem.W PySem.Calls PyProof.Rows
theorem S4{P:Params}{h:bx}:∀(ns:zr)(vs:List af),WellAll P h vs (ns.map WData.int)->kz vs ns:=by
 intro ns
 induction ns with
 |nil=>intro vs w;rw[List.map_nil]at w;cases w;exact .nil
 |cons n ns ih=>
  intro vs w;rw[fw]at w
  cases w with
  |cons a b=>cases a;exact .cons _ _ (ih _ b)
theorem S5{l:OpenLaw}{n:Nat}(hn:l.most=some n){P:Params}{h:bx}{args:List WData}{vals:List af}(hpre:l.row.toRowW.claim.pre args=true)(hwl:WellAll P h vals args):
  ∃a vs ns,vals=[gw a]/\args=[WData.list (ns.map WData.int)]/\h.get? a=some {cls:=.type "list",data:=.seq vs.toArray}/\kz vs ns/\ns.length<=n:=by
 have hsh:WShape.hasAll [] args [.list .int]=true:=(pre_splitW hpre).1;have hc:l.pre.holds [] {args:=args}=true:=(pre_splitW hpre).2;obtain⟨d,r,rfl,h1,h2⟩:=hasAllW_cons hsh;obtain rfl:=hasAllW_nil h2;obtain⟨xs,rfl,h3⟩:=hasW_list h1;obtain⟨ns,rfl⟩:=items_int h3;have hlen:ns.length<=n:=by
  unfold OpenLaw.pre at hc;have h4:(WTm.not (.lt (.lit (.int (n:Int))) (.len (.arg 0)))).holds [] {args:=[.list (ns.map .int)]}=true:=by have h4:=(holds_andW hc).1;rw[hn]at h4;exact h4
  have h5:=condW_of h4 (w_not (w_lt w_lit (w_len_list (w_arg rfl))));rw[cg]at h5;refine Nat.le_of_not_lt λq=>?_;have q':(n:Int)<((ns.length:Nat):Int):=by lia
  first
   |(rw[decide_eq_true q']at h5;exact absurd h5 (by decide))
   |(simp at h5;lia)
 cases hwl with
 |cons w1 w2=>
  cases w2
  cases w1 with
  |list ho hall=>exact⟨_,_,ns,rfl,rfl,ho,S4 ns _ hall,hlen⟩
theorem S6(l:OpenLaw)(args:List WData):l.row.toRowW.claim.post args (.bool true) args=true:=
 postW_of (r:=l.row.toRowW) (X:=(true==true))
  (show WShape.has [] (.bool true) .bool=true by first|rfl|decide|simp[WShape.has,WShape.arms,WShape.armsAll])
  (show(WTm.eq .res (.lit (.bool true))).value [] {args:=args,res:=some (.bool true),after:=args}=some (.bool (true==true)) from w_eq_bool (w_res rfl) w_lit) rfl
theorem attach_call{l:OpenLaw}{n:Nat}{q:bg}{loose:zu}{XP:(Str->Option af)->bx->Prop}{YP:bu->bx->Prop}{d:yv}(hn:l.most=some n)(hdf:d.params.defaults=[])(call:∀(w:bu)(s₀ s₁:ag)(mg mb:Str->Option af)(fa:ah)(o:Obj)(pm cd doc:af)(a:ah)(vs:List af)(ns:zr),
   Ground q loose [] XP w s₀ mg mb s₁.heap->YP w s₁.heap->
   s₁.heap.get? fa=some o->o.data=.func (docDef d.name d.params d.body d.scope pm cd doc)->s₁.heap.CodeRec cd d.name->mg d.name=some (.ref fa)->
   s₁.heap.get? a=some {cls:=.type "list",data:=.seq vs.toArray}->kz vs ns->ns.length<=n->s₁.gens=#[]->
   codeAny (model l.prog w) callerA (.call (.ref fa) ⟨[.ref a],[]⟩) (λr s'=>r=.ok (.ret (.bool true))/\OldK s₁.heap s'.heap/\s'.os=s₁.os/\sh s'.gens) s₁):
  WalkO q loose XP YP l.row.toRowW d [] (λf vs=>wa f vs):=by
 intro w s₀ s₁ mg mb G Y fa o pm cd doc dV kV ho hd hcd hD hmg hg args vals as hpre hlay hrd hwl hlo;obtain rfl:dV=.none:=Dflts.none hD hdf;obtain rfl:kV=.none:=Dflts.noKw hD;obtain⟨a,vs,ns,rfl,rfl,Dp,hints,hlen⟩:=S5 hn hpre hwl;refine enter_call (mf (call w s₀ s₁ mg mb fa o pm cd doc a vs ns G Y ho (fd_plain hd) hcd hmg Dp hints hlen hg) λr s' hq=>?_);obtain⟨rfl,h2,h3,h4⟩:=hq;exact⟨.inl ⟨.bool true,.bool true,[],rfl,λ_=>rfl,.bool true,S6 l _,λ_=>⟨wu,λ_ hm=>(nomatch hm)⟩⟩,h2,h3,h4⟩
end Att
namespace L2
theorem GL:∀{vs:List af}{ns:zr},kz vs ns->Ae (ns.map Ef) vs
 |_,_,.nil=>.nil
 |_,_,.cons n t h=>.cons ⟨t,rfl⟩ (GL h)
noncomputable def lG(s:fj):ji:=match s with
 |.FunctionDef _ a _ _ _ _ _ _ _ _=>a
 |_=>{posonlyargs:=[],args:=[],vararg:=none,kwonlyargs:=[],kw_defaults:=[],kwarg:=none,defaults:=[]}
noncomputable def gJ(s:fj):List fj:=match s with
 |.FunctionDef _ _ b _ _ _ _ _ _ _=>b
 |_=>[]
noncomputable def aI(s:fj):dj:=match s with
 |.FunctionDef _ _ _ _ _ _ sc _ _ _=>sc
 |_=>{kind:=.function,names:=[],isGenerator:=false,isCoroutine:=false}
abbrev E0:XK:=λ_ _ _=>False
structure Fun(K:ak)(x qual:Str)(st:fj)(f:ah)(fd:ay):Prop where
 ex:∃(oc:af)(od:Option ah)(kV doc pm:af)(an:Option ah)(cdv ct:af)(osl:Array (Option af)),
  fd=om x qual (lG st) (gJ st) (aI st) .none kV doc pm an cdv ct/\K.lookup f=some ⟨oc,od,.func fd,osl⟩/\vc K cdv qual=true
 kp:iu K (.ref f)=true
section
variable{P:bg}{w:bu}{K:ak}{mg:Str->Option af}{base:bx}
theorem Fun.binds{x qual:Str}{st:fj}{f:ah}{fd:ay}{ps:zu}(F:Fun K x qual st f fd)(h:∀(kV doc pm:af)(an:Option ah)(cdv ct:af)(us:List af),us.length=ps.length->bindArgs (om x qual (lG st) (gJ st) (aI st) .none kV doc pm an cdv ct) ⟨us,[]⟩=pure (ps.zip us)):Binds K fd ps []:=by
 obtain⟨oc,od,kV,doc,pm,an,cdv,ct,osl,rfl,lk,hcd⟩:=F.ex;exact .all (h kV doc pm an cdv ct)
theorem vM{x qual:Str}{st:fj}{f:ah}{oc:af}{od an:Option ah}{osl:Array (Option af)}{kV doc pm cdv ct:af}(l:K.lookup f=some ⟨oc,od,.func (om x qual (lG st) (gJ st) (aI st) .none kV doc pm an cdv ct),osl⟩)(c:vc K cdv qual=true)(k:iu K (.ref f)=true):Fun K x qual st f (om x qual (lG st) (gJ st) (aI st) .none kV doc pm an cdv ct):=⟨⟨oc,od,kV,doc,pm,an,cdv,ct,osl,rfl,l,c⟩,k⟩
end
theorem AF{A B:Prop}(h:B):if false=true then A else B:=by rw[if_neg jc];exact h
theorem AG{A B:Prop}(h:A):if true=true then A else B:=by rw[if_pos rfl];exact h
noncomputable def Bn(H H':Hp):Prop:=∀b o,H b=some o->H' b=some o
theorem Bn.refl(H:Hp):Bn H H:=λ_ _ h=>h
theorem vN{β:Type}(x y:Str)(c:β)(acc:List (Str×β)):((y,c)::acc).lookup x=if x=y then some c else acc.lookup x:=by
 rw[dr]
 by_cases e:x=y
 ·have hb:(x==y)=true:=beq_iff_eq.mpr e;rw[hb,if_pos e]
 ·have hb:(x==y)=false:=beq_eq_false_iff_ne.mpr e;rw[hb,if_neg e]
noncomputable def cS(env:Env):List (Str×kq)->List (Str×ah)->List (Str×ah)
 |[],acc=>acc
 |(x,k)::r,acc=>cS env r (if k==.free then(x,(env.cells.lookup x).getD 0)::acc else acc)
theorem AH{env:Env}:∀(l:List (Str×kq))(acc:List (Str×ah)),(∀x,(x,bw)∈l->∃c,env.cells.lookup x=some c)->
  (forIn l acc (λ(x:Str×kq)(r:List (Str×ah))=>match x with
   |(name,kind)=>if(kind==bw)=true then(do let a <-cellOf env name;pure (qw ((name,a)::r)))else(pure (qw r):Sem (ForInStep (List (Str×ah))))))=(pure (cS env l acc):Sem (List (Str×ah)))
 |[],acc,_=>rfl
 |(x,k)::l,acc,h=>by
  rw[oz];dsimp only
  cases hk:k==bw with
  |true=>
   have e:k=.free:=by cases k<;>first|rfl|cases hk
   subst e;obtain⟨c,hc⟩:=h x (bo ..);rw[if_pos rfl,show cS env ((x,bw)::l) acc=cS env l ((x,c)::acc)by rw[cS,if_pos hk,hc];rfl,<-AH l ((x,c)::acc) λy hy=>h y (az _ hy)];unfold cellOf;rw[hc];rfl
  |false=>rw[if_neg (by simp),show cS env ((x,k)::l) acc=cS env l acc by rw[cS,hk];rfl,<-AH l acc λy hy=>h y (az _ hy)];rfl
theorem sG{env:Env}{scope:dj}(h:∀x,(x,bw)∈scope.names->∃c,env.cells.lookup x=some c):closureFor scope env=pure (cS env scope.names []):=by unfold closureFor;have:=AH (env:=env) scope.names [] h;show(forIn scope.names [] _ >>=λcs=>pure cs)=_;exact(congrArg (λ(m:Sem (List (Str×ah)))=>m >>=λcs=>pure cs) this)
theorem sH{env:Env}{x:Str}:∀(l:List (Str×kq))(acc:List (Str×ah)),((x,bw)∈l∨acc.lookup x=some ((env.cells.lookup x).getD 0))->(cS env l acc).lookup x=some ((env.cells.lookup x).getD 0)
 |[],acc,h=>h.elim (λz=>nomatch z) id
 |(y,k)::l,acc,h=>by
  rw[cS]
  cases hk:k==bw with
  |true=>
   refine sH l _ ?_;rw[if_pos rfl]
   by_cases e:x=y
   ·subst e;right;rw[vN,if_pos rfl]
   ·rcases h with h|h
    ·rcases bh.mp h with h|h
     ·cases h;exact absurd rfl e
     ·exact .inl h
    ·right;rw[vN,if_neg e];exact h
  |false=>
   refine sH l _ ?_
   rcases h with h|h
   ·rcases bh.mp h with h|h
    ·cases h;simp at hk
    ·exact .inl h
   ·exact .inr h
structure BlkCells(h h':bx)(names:List (Str×kq))(acc cs:List (Str×ah)):Prop where
 cases:∀x c,cs.lookup x=some c->acc.lookup x=some c∨(h.objs.size<=c/\h'.IsCell c none/\(x,df)∈names)
 own:∀x,(x,df)∈names->∃c,cs.lookup x=some c
 old:∀x,(x,df)∉names->cs.lookup x=acc.lookup x
 inj:(∀x y c,acc.lookup x=some c->acc.lookup y=some c->x=y)->(∀x c,acc.lookup x=some c->c<h.objs.size)->∀x y c,cs.lookup x=some c->cs.lookup y=some c->x=y
theorem sJ:∀(names:List (Str×kq))(h:bx)(acc:List (Str×ah)),BlkCells h (pushCells h names) names acc (cellsFrom h.objs.size names acc)
 |[],h,acc=>{cases:=λ_ _ e=>.inl e,own:=λ_ z=>(nomatch z),old:=λ_ _=>rfl,inj:=λa _=>a}
 |(y,k)::r,h,acc=>by
  cases hk:k==df with
  |true=>
   have ek:k=.cell:=by cases k<;>first|rfl|cases hk
   subst ek;have ih:=sJ r (h.push {cls:=.type "cell",data:=.cell none}) ((y,h.objs.size)::acc);have e1:pushCells h ((y,df)::r)=pushCells (h.push {cls:=.type "cell",data:=.cell none}) r:=rfl;have e2:cellsFrom h.objs.size ((y,df)::r) acc=cellsFrom (h.push {cls:=.type "cell",data:=.cell none}).objs.size r ((y,h.objs.size)::acc):=by rw[dq];rfl
   rw[e1,e2];have look:∀x,((y,h.objs.size)::acc).lookup x=if x=y then some h.objs.size else acc.lookup x:=λx=>vN ..
   refine⟨λx c e=>?_,λx hx=>?_,λx hx=>?_,λh1 h2 x z c ex ez=>?_⟩
   ·rcases ih.cases x c e with q|⟨q1,q2,q3⟩
    ·rw[look]at q
     by_cases exy:x=y
     ·rw[if_pos exy]at q;cases q;refine .inr ⟨aq _,⟨_,kj r _ _ _ (ax _ rfl),rfl⟩,by rw[exy];exact bo ..⟩
     ·rw[if_neg exy]at q;exact .inl q
    ·rw[dq]at q1;exact .inr ⟨Nat.le_of_succ_le q1,q2,az _ q3⟩
   ·by_cases hr:(x,df)∈r
    ·exact ih.own x hr
    ·rw[ih.old x hr,look]
     rcases bh.mp hx with z|z
     ·cases z;exact⟨_,if_pos rfl⟩
     ·exact absurd z hr
   ·rw[ih.old x λz=>hx (az _ z),look,if_neg]
    rintro rfl
    exact hx (bo ..)
   ·refine ih.inj ?_ ?_ x z c ex ez
    ·intro a b c ea eb;rw[look]at ea eb
     by_cases qa:a=y
     ·rw[if_pos qa]at ea;cases ea
      by_cases qb:b=y
      ·exact qa.trans qb.symm
      ·rw[if_neg qb]at eb;exact absurd (h2 b _ eb) (fe _)
     ·rw[if_neg qa]at ea
      by_cases qb:b=y
      ·rw[if_pos qb]at eb;cases eb;exact absurd (h2 a _ ea) (fe _)
      ·rw[if_neg qb]at eb;exact h1 a b c ea eb
    ·intro a c ea;rw[dq];rw[look]at ea
     by_cases qa:a=y
     ·rw[if_pos qa]at ea;cases ea;exact jf _
     ·rw[if_neg qa]at ea;exact lg (h2 a c ea)
  |false=>
   have ih:=sJ r h acc;have e1:pushCells h ((y,k)::r)=pushCells h r:=by rw[pushCells,hk];rfl
   have e2:cellsFrom h.objs.size ((y,k)::r) acc=cellsFrom h.objs.size r acc:=by rw[cellsFrom,hk];rfl
   rw[e1,e2];have nk:∀x,(x,df)∈(y,k)::r->(x,df)∈r:=λx z=>by
    rcases bh.mp z with z|z
    ·cases z;simp at hk
    ·exact z
   exact⟨λx c e=>(ih.cases x c e).imp id λ⟨a,b,c⟩=>⟨a,b,az _ c⟩,λx hx=>ih.own x (nk x hx),λx hx=>ih.old x λz=>hx (az _ z),ih.inj⟩
def GN(scope:dj)(env:Env)(L:ah):Env:={scope:=relabel scope env,locals:=L,globals:=env.globals,cells:=cellsFrom (L+1) scope.names (cS env scope.names []),qual:=env.qual,func:=none,code:=env.code,frame:=env.frame,builtins:=env.builtins}
theorem AI{M:xq}{A:bq}{E:af->ag->Prop}{s:ag}{scope:dj}{env:Env}{cl:List (Str×ah)}{qual:Str}{g:ah}{Q:Env->ag->Prop}(h:Q {scope:=scope,locals:=s.heap.objs.size,globals:=g,cells:=cellsFrom (s.heap.objs.size+1) scope.names cl,qual:=qual,func:=none,code:=env.code,frame:=env.frame,builtins:=env.builtins}
   {s with heap:=pushCells (s.heap.push {cls:=.type "dict",data:=.dict #[]}) scope.names}):
  wpAny M A (newFunctionEnv scope g cl [] qual none .none (some env)) Q E s:=by
 simp only[newFunctionEnv,Option.isSome_some,if_true];refine ae (wpAny_alloc ?_);refine ae (wpAny_layCells _ (λname kind cells=>by cases hkc:kind==df<;>simp[hkc]) _ _ _ _ ?_);rw[show({s with heap:=s.heap.push {cls:=.type "dict",data:=.dict #[]} }:ag).heap.objs.size=s.heap.objs.size+1 from dq ..];exact ae (aj (aj h))
def bK(X:Cx)(scope:dj)(N:zu)(s:ag)(H:Hp)(ex:List ah):Cx:={X with N:=N,s₀:=s,H₀:=H,env:=GN scope X.env s.heap.objs.size,outer:=X.stack,stack:=X.stack,ex:=ex,fn:=λx=>scope.names.lookup x==some .cell,xe:=λ_ _=>False}
noncomputable def oV(cap:List (Option Nat))(σ:St):St:=cap.map λo=>match o with|some j=>(σ[j]?).getD none|none=>none
structure Av(X:Cx)(scope:dj)(N:zu)(cap:List (Option Nat)):Prop where
 kind:scope.kind=.function
 nd:∀x∈scope.names,x.2=.local->scope.names.lookup x.1=some .local
 len:cap.length=N.length
 free:∀x,(x,bw)∈scope.names->X.env.kindOf x=some .cell∨X.env.kindOf x=some .free
 apart:∀x,(x,bw)∈scope.names->(x,df)∉scope.names
 cap:∀(i j:Nat)(x:Str),cap[i]?=some (some j)->N[i]?=some x->X.N[j]?=some x/\(x,bw)∈scope.names/\(relabel scope X.env).names.lookup x≠some .local
theorem AJ{scope:dj}{env:Env}{x:Str}:∀{l:List (Str×kq)}{k:kq},(l.map λ(n,k)=>if(k==bw&&env.scope.kind==.function&&env.kindOf n==some .cell)then(n,df)else(n,k)).lookup x=some k->
  (x,k)∈l∨(k=.cell/\(x,bw)∈l)
 |[],_,h=>by simp at h
 |(n,q)::r,k,h=>by
  have ih:=@AJ scope env x r k;rw[fw]at h
  by_cases hc:(q==bw&&env.scope.kind==.function&&env.kindOf n==some .cell)=true
  ·have hq:q=.free:=by
    have:(q==bw)=true:=by
     cases z:q==bw with
     |true=>rfl
     |false=>rw[z]at hc;simp at hc
    cases q<;>first|rfl|cases this
   dsimp only at h;rw[if_pos hc,dr]at h
   cases e:x==n with
   |true=>rw[e]at h;have h':df=k:=de h;subst h';have ex:=beq_iff_eq.mp e;subst ex;subst hq;exact .inr ⟨rfl,bo ..⟩
   |false=>rw[e]at h;exact(ih h).imp (az _) λ⟨a,b⟩=>⟨a,az _ b⟩
  ·dsimp only at h;rw[if_neg hc,dr]at h
   cases e:x==n with
   |true=>rw[e]at h;have h':q=k:=de h;subst h';have ex:=beq_iff_eq.mp e;subst ex;exact .inl (bo ..)
   |false=>rw[e]at h;exact(ih h).imp (az _) λ⟨a,b⟩=>⟨a,az _ b⟩
theorem vO{env:Env}{x:Str}{c:ah}:∀(l:List (Str×kq))(acc:List (Str×ah)),(cS env l acc).lookup x=some c->acc.lookup x=some c∨((x,bw)∈l/\c=(env.cells.lookup x).getD 0)
 |[],acc,h=>.inl h
 |(y,k)::l,acc,h=>by
  rw[cS]at h
  cases hk:k==bw with
  |true=>
   have ek:k=.free:=by cases k<;>first|rfl|cases hk
   subst ek;rw[if_pos hk]at h
   rcases vO l _ h with q|⟨q1,q2⟩
   ·rw[vN]at q
    by_cases e:x=y
    ·rw[if_pos e]at q;subst e;exact .inr ⟨bo ..,(de q).symm⟩
    ·rw[if_neg e]at q;exact .inl q
   ·exact .inr ⟨az _ q1,q2⟩
  |false=>rw[if_neg (by rw[hk];exact jc)]at h;exact(vO l _ h).imp id λ⟨a,b⟩=>⟨az _ a,b⟩
section
variable{X:Cx}{pins:List (ah×Obj)}{σ:St}{H:Hp}{s:ag}{scope:dj}{N:zu}{cap:List (Option Nat)}{ex:List ah}
theorem vP(I:Inv X pins σ H s)(C:Av X scope N cap){x:Str}{c:ah}(e:(cS X.env scope.names []).lookup x=some c):(x,bw)∈scope.names/\X.env.cells.lookup x=some c:=by
 rcases vO _ _ e with q|⟨q1,q2⟩
 ·cases q
 ·obtain⟨c',h'⟩:=I.ok.has x (C.free x q1);rw[h']at q2;subst q2;exact⟨q1,h'⟩
theorem vQ(I:Inv X pins σ H s)(C:Av X scope N cap){x:Str}{c:ah}(e:(GN scope X.env s.heap.objs.size).cells.lookup x=some c):
  (X.env.cells.lookup x=some c/\(x,bw)∈scope.names)∨(s.heap.objs.size<c/\(pushCells (s.heap.push {cls:=.type "dict",data:=.dict #[]}) scope.names).IsCell c none/\(x,df)∈scope.names):=by
 have B:=sJ scope.names (s.heap.push {cls:=.type "dict",data:=.dict #[]}) (cS X.env scope.names []);rw[dq]at B
 rcases B.cases x c e with q|⟨q1,q2,q3⟩
 ·obtain⟨a,b⟩:=vP I C q;exact .inl ⟨b,a⟩
 ·rw[dq]at q1;exact .inr ⟨q1,q2,q3⟩
theorem GO(I:Inv X pins σ H s)(C:Av X scope N cap)(hex:∀b∈ex,bQ X pins H b/\b<s.heap.objs.size):(bK X scope N s H ex).Ok:=by
 have B:=sJ scope.names (s.heap.push {cls:=.type "dict",data:=.dict #[]}) (cS X.env scope.names []);rw[dq]at B;have kf:∀x,(x,bw)∈scope.names->∃c,X.env.cells.lookup x=some c:=λx hx=>I.ok.has x (C.free x hx);refine⟨I.ok.mod,C.kind,I.ok.glob,I.ok.blt,aq _,?_,?_,?_,I.ok.hd,I.ok.frames,.inl rfl,?_,I.bs,cm I.ok.bsz I.sz,?_,?_,I.stack,I.stkFree⟩
 ·refine B.inj (λx y c e1 e2=>?_) λx c e=>?_
  ·exact I.ok.inj x y c (vP I C e1).2 (vP I C e2).2
  ·obtain⟨v,q⟩:=I.cell x c (vP I C e).2;rw[dq];exact lg q.lt
 ·intro x hx;have hx':(relabel scope X.env).names.lookup x=some .cell∨(relabel scope X.env).names.lookup x=some .free:=hx;have mem:(x,df)∈scope.names∨(x,bw)∈scope.names:=by
   rcases hx' with h|h
   ·rcases AJ (scope:=scope) h with q|⟨_,q⟩
    ·exact .inl q
    ·exact .inr q
   ·rcases AJ (scope:=scope) h with q|⟨z,q⟩
    ·exact .inr q
    ·exact .inr q
  by_cases hc:(x,df)∈scope.names
  ·exact B.own x hc
  ·rcases mem with h|h
   ·exact absurd h hc
   ·exact⟨_,(B.old x hc).trans (sH _ _ (.inl h))⟩
 ·intro x c hf e;have hf':(scope.names.lookup x==some .cell)=true:=hf;have hm:(x,df)∈scope.names:=fh (eq_of_beq hf')
  rcases vQ I C e with⟨_,q⟩|⟨q,_⟩
  ·exact absurd hm (C.apart x q)
  ·exact ij q
 ·intro b hb;obtain⟨⟨f0,f1,f2,f3,f4,f5⟩,hlt⟩:=hex b hb;refine⟨aw hlt,λx c e z=>?_⟩
  rcases vQ I C e with⟨q,_⟩|⟨q,_⟩
  ·exact f4 x c q z
  ·subst z;exact fe _ (Nat.lt_trans q hlt)
 ·intro b o e hb;obtain⟨⟨f0,f1,f2,f3,f4,f5⟩,hlt⟩:=hex b hb
  rcases f3 with q|q
  ·exact I.ok.noex b o e q
  ·exact fe _ (ar (au e) (cm I.ok.bsz q))
 ·intro b hb z;obtain⟨⟨f0,f1,f2,f3,f4,f5⟩,hlt⟩:=hex b hb
  rcases bh.mp (I.stkSub b z)with q|q
  ·exact f1 q
  ·exact f2 q
theorem AK(I:Inv X pins σ H s)(C:Av X scope N cap)(hex:∀b∈ex,bQ X pins H b/\b<s.heap.objs.size):
  Inv (bK X scope N s H ex) pins (oV cap σ) H {s with heap:=pushCells (s.heap.push {cls:=.type "dict",data:=.dict #[]}) scope.names}:=by
 have B:=sJ scope.names (s.heap.push {cls:=.type "dict",data:=.dict #[]}) (cS X.env scope.names []);rw[dq]at B;have kp:∀b o,s.heap.get? b=some o->(pushCells (s.heap.push {cls:=.type "dict",data:=.dict #[]}) scope.names).get? b=some o:=λb o e=>kj _ _ _ _ (ai _ e);have ns:(pushCells (s.heap.push {cls:=.type "dict",data:=.dict #[]}) scope.names).Ns s.heap.objs.size (λ_=>none):=⟨_,#[],_,kj _ _ _ _ (ax _ rfl),rfl,(λe he=>absurd he (by simp)),λ_=>rfl⟩
 obtain⟨m,hn,hl⟩:=I.loc;refine⟨GO I C hex,rfl,I.bare,Un.kept kp,⟨_,ns,λi x v h1 h2 h3=>?_⟩,λx c e=>?_,I.hok.fresh (aq _),λx c e=>?_,λp hp=>?_,I.hok.kept kp,?_⟩
 ·have h2':(cap.map λo=>match o with|some j=>(σ[j]?).getD none|none=>none)[i]?=some (some v):=h2;rw[fx]at h2'
  cases q:cap[i]? with
  |none=>rw[q]at h2';cases h2'
  |some o=>
   rw[q]at h2'
   cases o with
   |none=>cases h2'
   |some j=>
    have e1:(σ[j]?).getD none=some v:=de h2';have e2:σ[j]?=some (some v):=by
     cases z:σ[j]? with
     |none=>rw[z]at e1;cases e1
     |some w=>rw[z]at e1;exact congrArg some e1
    obtain⟨c1,c2,c3⟩:=C.cap i j x q h1;have vis:oR X.env.scope x:=by
     rcases C.free x c2 with z|z
     ·exact .inr (.inl z)
     ·exact .inr (.inr z)
    obtain⟨u,r,l⟩:=hl j x v c1 e2 vis;refine⟨u,r,?_⟩
    rcases l with⟨hk,hm⟩|⟨hk,c,hc,hcell⟩
    ·rcases C.free x c2 with z|z
     ·rw[z]at hk;cases hk
     ·rw[z]at hk;cases hk
    ·refine .inr ⟨?_,c,?_,?_⟩
     ·have h3':oR (relabel scope X.env) x:=h3
      rcases h3' with z|z|z
      ·exact absurd z c3
      ·exact .inl z
      ·exact .inr z
     ·have:=(B.old x (C.apart x c2)).trans (sH _ _ (.inl c2));rw[hc]at this;exact this
     ·obtain⟨o,ho,hd⟩:=hcell;exact⟨o,kp _ _ ho,hd⟩
 ·rcases vQ I C e with⟨q,_⟩|⟨_,q,_⟩
  ·obtain⟨v,o,ho,hd⟩:=I.cell x c q;exact⟨v,o,kp _ _ ho,hd⟩
  ·exact⟨none,q⟩
 ·rcases vQ I C e with⟨q,_⟩|⟨q,_⟩
  ·exact I.freeC x c q
  ·exact I.hok.fresh (ij q)
 ·obtain⟨a1,a2,a3,a4,a5⟩:=I.pin p hp;refine⟨kp _ _ a1,a2,aw (au a1),λz=>?_,a5⟩
  rcases bh.mp (I.stkSub _ z)with q|q
  ·exact a3 q
  ·exact a4 q
 ·show(cap.map _).length=N.length;rw[cg];exact C.len
theorem AL(I:Inv X pins σ H s)(C:Av X scope N cap)(hex:∀b∈ex,bQ X pins H b/\b<s.heap.objs.size):∀b∈ex,bQ (bK X scope N s H ex) pins H b:=by intro b hb;obtain⟨⟨f0,f1,f2,f3,f4,f5⟩,hlt⟩:=hex b hb;have ok:=GO (N:=N) I C hex;exact⟨f0,(ok.exf b hb).1,ok.exfs b hb,.inl hb,(ok.exf b hb).2,f5⟩
theorem vR{σ':St}{H':Hp}{s':ag}{h':bx}(I:Inv X pins σ H s)(hex:∀b∈ex,bQ X pins H b/\b<s.heap.objs.size)(I':Inv (bK X scope N s H ex) pins σ' H' s')(hh:ic s.heap.objs.size s'.heap h'):
  Inv X pins σ H' {s' with heap:=h'}:=by
 have u:Un (cN X.stack) ex H H' s.heap s'.heap:=I'.base;have up:∀b o o',s.heap.get? b=some o->s'.heap.get? b=some o'->h'.get? b=some o':=λb o o' e e'=>(hh.2 b (aw (au e))).trans e';have hL:H' s.heap.objs.size=none:=I'.free;refine I.call' (s':={s' with heap:=h'}) (ch:=ex) I'.os ⟨λb o q n hb hx=>up b o o q (u.keep b o q n hb hx),λb o q n hb hx=>?_,u.free,λb o q hx=>?_,u.tups,u.frzs,u.tbls⟩ (λb o e=>?_) I'.bare λb hb=>?_
 ·obtain⟨sl,e⟩:=u.slot b o q n hb hx;exact⟨sl,up b o _ q e⟩
 ·obtain⟨o',e⟩:=u.there b o q hx;exact⟨o',up b o _ q e⟩
 ·refine(I'.hok b o e).stay (λc v hc q=>(hh.2 c ?_).trans q) (λ_ q=>q) λ_ _ q=>q
  rcases hc with z|z
  ·rw[z];rintro rfl;rw[hL]at e;cases e
  ·rintro rfl;rw[hL]at z;cases z
 ·obtain⟨⟨f0,f1,f2,f3,f4,f5⟩,hlt⟩:=hex b hb;exact⟨f3,f1,f4,f5⟩
theorem Inv.adopt{a:ah}{o:HO}(I:Inv X pins σ H s)(f:bQ X pins H a)(ha:X.s₀.heap.objs.size<=a)(new:Ag X.prog X.w (aF H a o) s.heap a o):Inv X pins σ (aF H a o) s:=by
 obtain⟨f0,f1,f2,f3,f4,f5⟩:=f;have ne0:∀b ob,X.s₀.heap.get? b=some ob->b≠a:=λb ob e z=>by subst z;exact fe _ (ar (au e) ha)
 refine⟨I.ok,I.os,I.bare,⟨I.base.keep,I.base.slot,λb ob e n hx=>by rw[aM (ne0 b ob e)];exact I.base.free b ob e n hx,I.base.there,λb xs e=>?_,λb ob u e=>?_,λb ps e=>?_⟩,I.loc,I.cell,by rw[aM (cp f1)];exact I.free,
  λx c e=>by rw[aM (f4 x c e)];exact I.freeC x c e,λp hp=>?_,λb u e=>?_,I.len⟩
 ·have:=I.base.tups b xs e;rw[aM (bY this f0)];exact this
 ·have:=I.base.frzs b ob u e;rw[aM (bY this f0)];exact this
 ·obtain⟨more,this⟩:=I.base.tbls b ps e;exact⟨more,by rw[aM (bY this f0)];exact this⟩
 ·obtain⟨a1,a2,a3,a4,a5⟩:=I.pin p hp;exact⟨a1,by rw[aM (f5 p hp)];exact a2,a3,a4,a5⟩
 ·by_cases hb:b=a
  ·subst hb;rw[bP]at e;cases e;exact new
  ·rw[aM hb]at e;exact(I.hok b u e).stay (λ_ _ _ q=>q) (λc q=>by rw[aM (bY q f0)];exact q) λc xs q=>by rw[aM (bY q f0)];exact q
end
def AccAt(s:ag)(D:ah)(xs:Ez):Prop:=xs.length<=bj/\∃(its:List af)(n:Nat),Ae xs its/\s.heap.get? D=some {cls:=.type "list",data:=.seq its.toArray n}
abbrev TC:=St->Hp->Ez->(St->Hp->Ez->Prop)->Prop
def De(X:Cx)(D:ah)(m:Sem Unit)(t:TC):Prop:=
 ∀(pins:List (ah×Obj))(s:ag)(σ:St)(H:Hp)(xs:Ez)(K:St->Hp->Ez->Prop),Inv X pins σ H s->AccAt s D xs->bQ X pins H D->t σ H xs K->
  wpAny (model X.prog X.w) X.A m (λ_ s'=>∃σ' H' xs',Inv X pins σ' H' s'/\AccAt s' D xs'/\H' D=none/\K σ' H' xs') X.xe s
section
variable{X:Cx}{D:ah}
theorem AccAt.obj{s:ag}{xs:Ez}(a:AccAt s D xs):∃o,s.heap.get? D=some o/\∀v,o.data≠.cell v:=by obtain⟨_,its,n,_,e⟩:=a;exact⟨_,e,λv z=>nomatch z⟩
theorem Inv.pinD{pins:List (ah×Obj)}{s:ag}{σ:St}{H:Hp}{xs:Ez}(I:Inv X pins σ H s)(a:AccAt s D xs)(f:bQ X pins H D):Inv X (pins++fS [D] s.heap) σ H s:=
 I.pinned (λb hb=>by (have e:b=D:=by simpa using hb);subst e;exact f) λb hb=>by
  have e:b=D:=by simpa using hb
  subst e;exact a.obj
theorem Inv.atD{pins:List (ah×Obj)}{s s':ag}{σ':St}{H':Hp}{xs:Ez}(a:AccAt s D xs)(I:Inv X (pins++fS [D] s.heap) σ' H' s'):AccAt s' D xs/\H' D=none:=by obtain⟨z,its,n,r,e⟩:=a;have:=I.pin (D,_) (bc _ (bc _ (lD (by simp) e)));exact⟨⟨z,its,n,r,this.1⟩,this.2.1⟩
noncomputable def sL(te:TE):TC:=λσ H xs K=>te σ H λv H1=>xs.length<bj/\K σ H1 (xs++[v])
theorem sM{elt:ba}{te:TE}(he:PE X elt te):De X D (do let x <-eval elt X.env;let _ <-call (.builtin "list.append") [.ref D,x];pure ()) (sL te):=by
 intro pins s σ H xs K I a f h;refine ae (aH (he _ s σ H _ (I.pinD a f) h) λu s1⟨v,H1,I1,r1,hz,q1⟩=>?_);obtain⟨a1,n1⟩:=Inv.atD a I1;have I1':=I1.unpinned;obtain⟨z,its,n,r,e⟩:=a1;have hl:=r.length;refine ae (call_meets F.slot_list_append ⟨_,e,rfl⟩ F.entry_list_append (F.args_list_append_2 _ _) (PySem.list_append D its.toArray n u (by rw[bf];lia)) ⟨e,?_⟩);have q:=yt e (·.push u);have e2:its.toArray.push u=(its++[u]).toArray:=by simp
 rw[e2]at q;refine aj ⟨σ,H1,xs++[v],?_,⟨by rw[dw,yu];lia,its++[u],_,r.append (.cons r1 .nil),q⟩,n1,q1⟩;obtain⟨f0,f1,f2,f3,f4,f5⟩:=f;exact I1'.turned (t':=s1.toks) (λb o hb z=>(mz s1.heap _ (cp hb)).trans z) n1 f1 f3 f4 f5
noncomputable def GP(ifs:List ba)(env:Env):Sem Bool:=forIn ifs true λc r=>if r=true then do let ok <-isTrue c env (eval c env);pure (qw ok)else pure (qw r)
def Dj(X:Cx)(ifs:List ba)(t:TT):Prop:=∀(pins:List (ah×Obj))(s:ag)(σ:St)(H:Hp)(Q:Bool->Hp->Prop),Inv X pins σ H s->t σ H Q->wpAny (model X.prog X.w) X.A (GP ifs X.env) (TP X pins σ Q) X.xe s
noncomputable def S7:TT:=λ_ H Q=>Q true H
theorem GQ:Dj X [] S7:=λpins s σ H Q I h=>wpAny_tests_nil ⟨H,I,h⟩
theorem S8{c:ba}{t:TT}(h:PT X c t):Dj X [c] t:=λpins s σ H Q I q=>wpAny_tests_one (h pins s σ H Q I q)
def iG(p:Pos)(it:af)(tg:ba)(ifs:List ba)(env:Env)(inner:Sem Unit)(c:Code):Sem PySem.Fin:=do
 standAt p
 match <-pyNext it with
 |none=>pure (.done .next)
 |some v=>do
  letOwnedTupleGo tg it v
  assign tg env v
  let ok <-GP ifs env
  if ok=true then do inner;again c
  else again c
noncomputable def oW(J:It)(g:TG)(tt:TT)(inner:TC)(K:St->Hp->Ez->Prop)(σ:St)(H:Hp)(xs:Ez):Prop:=
 ∃W:Nat->Nat->St->Hp->Ez->Prop,(∃m,W 0 m σ H xs)/\∀i m σ H xs,W i m σ H xs->
  (J.stop i H/\K σ H xs)∨(J.go i H/\∃N:St->Hp->Ez->Prop,(∀σ' H' xs',N σ' H' xs'->∃m',m'<m/\W (i+1) m' σ' H' xs')/\
   ∀x H',J.yld i H x H'->g x σ H' λσ2 H2=>tt σ2 H2 λb H3=>if b=true then inner σ2 H3 xs N else N σ2 H3 xs)
theorem GR{elt:ba}{gens:List jx}{sc:dj}{ps:Pos}{d:Nat}{it:ah}{tg:ba}{ifs:List ba}{p:Pos}{inner:Sem Unit}{g:TG}{tt:TT}{ti:TC}{J:It}{fp:List ah}{tn:Nat->bx->Prop}(hx:X.xe=λ_ _=>False)(hc:X.calm=true)(ht:compTurn (.ListComp elt gens sc ps) d (.ref it) (.ref D) X.env=iG p (.ref it) tg ifs X.env inner (.compLoop (.ListComp elt gens sc ps) d (.ref it) (.ref D) X.env))(hg:PG X tg g)(Cb:Dj X ifs tt)(hi:De X D inner ti)(T:Turn X.prog X.w X.K tg J fp it tn){pins:List (ah×Obj)}{s:ag}{σ:St}{H:Hp}{xs:Ez}{K:St->Hp->Ez->Prop}{R:sv->ag->Prop}(I:Inv X pins σ H s)(a:AccAt s D xs)(f:bQ X pins H D)(st:tn 0 s.heap)(hf:∀b∈fp,bQ X pins H b)(hD:D∉fp)(h:oW J g tt ti K σ H xs)(hR:∀σ' H' xs' s',Inv X pins σ' H' s'->AccAt s' D xs'->H' D=none->K σ' H' xs'->R (.ok .next) s'):
  codeAny (model X.prog X.w) X.A (.compLoop (.ListComp elt gens sc ps) d (.ref it) (.ref D) X.env) R s:=by
 obtain⟨W,⟨m0,w0⟩,turn⟩:=h;have stat:∀{H':Hp},(∀b∈fp,H' b=none)->∀b∈fp,bQ X pins H' b:=λhn b hb=>⟨hn b hb,(hf b hb).2⟩
 have statD:∀{H':Hp},H' D=none->bQ X pins H' D:=λhn=>⟨hn,f.2⟩
 refine codeAny_loop rfl (λn s'=>∃i σ' H' xs',Inv X pins σ' H' s'/\AccAt s' D xs'/\H' D=none/\tn i s'.heap/\(∀b∈fp,H' b=none)/\W i n σ' H' xs') ?_ m0 ⟨0,σ,H,xs,I,a,f.1,st,λb hb=>(hf b hb).1,w0⟩
 rintro n s3 ⟨i,σ3,H3,xs3,I3,a3,n3,st3,fr3,w3⟩
 show wpAny _ X.A ((compTurn (.ListComp elt gens sc ps) d (.ref it) (.ref D) X.env).onRaise (λx=>do noteFrame x X.env;theTreesLotGoes x)) _ _ s3;rw[ht];refine pk (jk (Q:=λfin s'=>match fin with|.done f=>R (.ok f) s'|.again c'=>c'=.compLoop (.ListComp elt gens sc ps) d (.ref it) (.ref D) X.env/\∃m,m<n/\∃i σ' H' xs',Inv X pins σ' H' s'/\AccAt s' D xs'/\H' D=none/\tn i s'.heap/\(∀b∈fp,H' b=none)/\W i m σ' H' xs') (E:=λ_ _=>False) ?_ (λ_ _ z=>z) λ_ _ z=>z.elim);unfold iG;refine ae (jn (ae ?_));have xe':∀{α:Type}{m:Sem α}{Q:α->ag->Prop}{s:ag},wpAny (model X.prog X.w) X.A m Q X.xe s->wpAny (model X.prog X.w) X.A m Q (λ_ _=>False) s:=λ{α m Q s}z=>by rw[hx]at z;exact z
 have I3':=I3.pinD a3 (statD n3);have fr3':∀b∈fp,bQ X (pins++fS [D] s3.heap) H3 b:=λb hb=>by
  obtain⟨g0,g1,g2,g3,g4,g5⟩:=stat fr3 b hb;refine⟨g0,g1,g2,g3,g4,λp hp=>?_⟩
  rcases cz.mp hp with z|z
  ·exact g5 p (cu _ z)
  ·rcases cz.mp z with z|z
   ·exact g5 p (bc _ z)
   ·have:=(sA z).1;have e:p.1=D:=by simpa using this
    rw[e];rintro rfl;exact hD hb
 rcases turn i n σ3 H3 xs3 w3 with⟨stop,qn⟩|⟨go,N,hN,step⟩
 ·refine aH (T.done X rfl rfl rfl hc i _ s3 σ3 H3 (λ_ _=>False) I3' fr3' st3 stop) λr s4⟨hr,I4⟩=>?_;subst hr;obtain⟨a4,n4⟩:=Inv.atD a3 I4;exact aj (hR σ3 H3 xs3 s4 I4.unpinned a4 n4 qn)
 ·refine aH (T.item X rfl rfl rfl hc i _ s3 σ3 H3 (λ_ _=>False) I3' fr3' st3 go) λr s4⟨u,hr,h4⟩=>?_;subst hr;refine ae (aH h4 λ_ s5⟨x,H5,I5,r5,y5,Dk,fr5⟩=>?_);obtain⟨a5,n5⟩:=Inv.atD a3 I5;have I5u:=I5.unpinned;have I5p:=I5u.pinned (stat fr5) (T.obj _ _ Dk);have fD5:bQ X (pins++fS fp s5.heap) H5 D:=by
   obtain⟨g0,g1,g2,g3,g4,g5⟩:=statD n5;refine⟨g0,g1,g2,g3,g4,λp hp=>?_⟩
   rcases cz.mp hp with z|z
   ·exact g5 p (cu _ z)
   ·rcases cz.mp z with z|z
    ·exact g5 p (bc _ z)
    ·rintro rfl;exact hD (sA z).1
  have I5':=I5p.pinD a5 fD5;refine ae (xe' (aH (hg _ s5 σ3 H5 x u _ I5' r5 (step x H5 y5)) λ_ s6⟨σ6,H6,I6,q6⟩=>?_));obtain⟨a6,n6⟩:=Inv.atD a5 I6;have pin':∀{s σ H},Inv X (pins++fS fp s5.heap) σ H s->tn (i+1) s.heap/\∀b∈fp,H b=none:=λ{s σ H}J=>by refine⟨T.keep _ _ _ Dk λb hb o e=>(J.pin (b,o) (bc _ (bc _ (lD hb e)))).1,λb hb=>?_⟩;obtain⟨o,e,d⟩:=T.obj _ _ Dk b hb;exact(J.pin (b,o) (bc _ (bc _ (lD hb e)))).2.1
  have fD6:bQ X (pins++fS fp s5.heap) H6 D:=⟨n6,fD5.2⟩
  have I6u:=I6.unpinned;have I6p:=I6u.pinD a6 fD6;refine ae (xe' (aH (Cb _ s6 σ6 H6 _ I6p q6) λb s7⟨H7,I7,q7⟩=>?_));obtain⟨a7,n7⟩:=Inv.atD a6 I7;have I7u:=I7.unpinned;have fin:∀{s8 σ8 H8 xs8},Inv X (pins++fS fp s5.heap) σ8 H8 s8->AccAt s8 D xs8->H8 D=none->N σ8 H8 xs8->
    ∃m,m<n/\∃i σ' H' xs',Inv X pins σ' H' s8/\AccAt s8 D xs'/\H' D=none/\tn i s8.heap/\(∀b∈fp,H' b=none)/\W i m σ' H' xs':=λ{s8 σ8 H8 xs8}J a8 n8 q8=>by
   obtain⟨m',hm,w8⟩:=hN σ8 H8 xs8 q8;obtain⟨t8,fr8⟩:=pin' J;exact⟨m',hm,i+1,σ8,H8,xs8,J.unpinned,a8,n8,t8,fr8,w8⟩
  cases b with
  |true=>
   rw[if_pos rfl]at q7⊢;have fD7:bQ X (pins++fS fp s5.heap) H7 D:=⟨n7,fD5.2⟩
   refine ae (xe' (aH (hi _ s7 σ6 H7 xs3 N I7u a7 fD7 q7) λ_ s8⟨σ8,H8,xs8,I8,a8,n8,q8⟩=>?_));exact aj ⟨rfl,fin I8 a8 n8 q8⟩
  |false=>rw[if_neg jc]at q7⊢;exact aj ⟨rfl,fin I7u a7 n7 q7⟩
end
theorem AM(elt tg iter:ba)(ifs:List ba)(sc:dj)(ps:Pos)(it:af)(D:ah)(env:Env):
  compTurn (.ListComp elt [⟨tg,iter,ifs,0⟩] sc ps) 0 it (.ref D) env=
   iG iter.pos it tg ifs env (do let x <-eval elt env;let _ <-call (.builtin "list.append") [.ref D,x];pure ()) (.compLoop (.ListComp elt [⟨tg,iter,ifs,0⟩] sc ps) 0 it (.ref D) env):=by rfl
noncomputable def qJ(iter:ba)(e:ba)(d:Nat)(D:ah)(env:Env):Sem Unit:=do
 let x <-eval iter env
 standAt iter.pos
 let x <-foldedSetIterable iter env x
 let it <-holding [x] (pyIter x)
 let _ <-runOwn (.compStart e d it (.ref D) env) env
 pure ()
theorem GS(elt tg iter By An:ba)(ifs A':List ba)(sc:dj)(ps:Pos)(it:af)(D:ah)(env:Env):
  compTurn (.ListComp elt [⟨tg,iter,ifs,0⟩,⟨By,An,A',0⟩] sc ps) 0 it (.ref D) env=
   iG iter.pos it tg ifs env (qJ An (.ListComp elt [⟨tg,iter,ifs,0⟩,⟨By,An,A',0⟩] sc ps) 1 D env) (.compLoop (.ListComp elt [⟨tg,iter,ifs,0⟩,⟨By,An,A',0⟩] sc ps) 0 it (.ref D) env):=by
 unfold iG qJ;simp only[bind_assoc,pure_bind];rfl
theorem GU(elt tg iter By An:ba)(ifs A':List ba)(sc:dj)(ps:Pos)(it:af)(D:ah)(env:Env):
  compTurn (.ListComp elt [⟨tg,iter,ifs,0⟩,⟨By,An,A',0⟩] sc ps) 1 it (.ref D) env=
   iG An.pos it By A' env (do let x <-eval elt env;let _ <-call (.builtin "list.append") [.ref D,x];pure ()) (.compLoop (.ListComp elt [⟨tg,iter,ifs,0⟩,⟨By,An,A',0⟩] sc ps) 1 it (.ref D) env):=by rfl
section
variable{X:Cx}{D:ah}
theorem AN{prog:bg}{w:bu}{A:bq}{R:sv->ag->Prop}{s:ag}{elt:ba}{gens:List jx}{sc:dj}{ps:Pos}{d:Nat}{it acc:af}{env:Env}(ha:((gens)[d]?).elim false (·.is_async !=0)=false)(h0:codeAny (model prog w) A (.compLoop (.ListComp elt gens sc ps) d it acc env) R s)(h:wpAny (model prog w) A (pyIter it) (λit' s'=>codeAny (model prog w) A (.compLoop (.ListComp elt gens sc ps) d it' acc env) R s') (λ_ _=>False) s):
  codeAny (model prog w) A (.compStart (.ListComp elt gens sc ps) d it acc env) R s:=by
 refine codeAny_of_tree ?_;show wpAny _ _ ((compStart (.ListComp elt gens sc ps) d it acc env).onRaise (λx=>do noteFrame x env;standAt theWindowsPlace)) _ _ s;refine wpAny_notedAt (jk (E:=λ_ _=>False) ?_ (λ_ _ z=>z) λ_ _ z=>z.elim);unfold compStart;rw[show((clausesOf (.ListComp elt gens sc ps))[d]?).elim false (·.is_async !=0)=false from ha];simp only[jd,if_false];refine ae (wpAny_askSetting (wpAny_ite ?_))
 split
 ·first
   |exact ae (aj (aj (And.intro rfl h0)))
   |exact aj (And.intro rfl h0)
 ·have fin:∀s:ag,wpAny (model prog w) A (pyIter it) (λit' s'=>codeAny (model prog w) A (.compLoop (.ListComp elt gens sc ps) d it' acc env) R s') (λ_ _=>False) s->
    wpAny (model prog w) A (do let it' <-pyIter it;again (.compLoop (.ListComp elt gens sc ps) d it' acc env)) (λfin s'=>match fin with|.done f=>R (.ok f) s'|.again c=>c.quiet=true/\codeAny (model prog w) A c R s') (λ_ _=>False) s:=λs h=>ae (jk h (λit' s' h'=>aj ⟨rfl,h'⟩) λ_ _ x=>x)
  refine ae (ud ?_);have ec:clausesOf (.ListComp elt gens sc ps)=gens:=rfl;rw[ec]
  cases q:gens[d]? with
  |none=>exact fin s h
  |some g=>exact ae (jn (fin s h))
def GV(wi:TI)(g:TG)(tt:TT)(inner:TC):TC:=λσ H xs K=>wi σ H λJ H1=>oW J g tt inner K σ H1 xs
theorem GW{elt:ba}{gens:List jx}{sc:dj}{ps:Pos}{d:Nat}{tg iter:ba}{ifs:List ba}{inner:Sem Unit}{wi:TI}{g:TG}{tt:TT}{ti:TC}(hx:X.xe=λ_ _=>False)(hc:X.calm=true)(ha:((gens)[d]?).elim false (·.is_async !=0)=false)(ht:∀it,compTurn (.ListComp elt gens sc ps) d (.ref it) (.ref D) X.env=iG iter.pos (.ref it) tg ifs X.env inner (.compLoop (.ListComp elt gens sc ps) d (.ref it) (.ref D) X.env))(hi:PI X tg iter wi)(hg:PG X tg g)(Cb:Dj X ifs tt)(Dq:De X D inner ti)(hs:∀x,foldedSetIterable iter X.env x=pure x):
  De X D (qJ iter (.ListComp elt gens sc ps) d D X.env) (GV wi g tt ti):=by
 intro pins s σ H xs K I a f h;unfold qJ;refine ae (aH (hi _ s σ H _ (I.pinD a f) h) λv s1 h1=>ae (jn (ae (sj (hs v) (ae (fg (aH h1 λitv s2 h2=>?_)))))));obtain⟨it,fp,tn,J,H2,e,I2,T,Cp,f2,lp⟩:=h2;subst e;obtain⟨a2,n2⟩:=Inv.atD a I2;have I2u:=I2.unpinned;have hpD:∀b∈fp,b≠D:=λb hb z=>by subst z;obtain⟨_,its,n,_,eo⟩:=a;exact(f2 b hb).2.2.2.2.2 (b,_) (bc _ (bc _ (lD (by simp) eo))) rfl
 have f2u:∀b∈fp,bQ X pins H2 b:=λb hb=>by
  obtain⟨g0,g1,g2,g3,g4,g5⟩:=f2 b hb;exact⟨g0,g1,g2,g3,g4,λp hp=>g5 p (by
   rcases cz.mp hp with z|z
   ·exact cu _ z
   ·exact bc _ (cu _ z))⟩
 have fD:bQ X pins H2 D:=⟨n2,f.2⟩
 refine ae (wpAny_runOwn ?_);have loop:codeAny (model X.prog X.w) X.A (.compLoop (.ListComp elt gens sc ps) d (.ref it) (.ref D) X.env) (λr s'=>match r with
   |.ok f=>wpAny (model X.prog X.w) X.A (pure ():Sem Unit) (λ_ s'=>∃σ' H' xs',Inv X pins σ' H' s'/\AccAt s' D xs'/\H' D=none/\K σ' H' xs') X.xe s'
   |.error e=>cameBackBy (model X.prog X.w) X.A X.env X.xe e s') s2:=
  GR hx hc (ht it) hg Cb Dq T I2u a2 fD Cp f2u (λz=>hpD D z rfl) lp λσ' H' xs' s' I' a' n' k'=>aj ⟨σ',H',xs',I',a',n',k'⟩
 exact AN ha loop (T.self _ 0 s2 _ _ Cp loop)
end
def sN(wi:TI)(cap:List (Option Nat))(g:TG)(tt:TT)(inner:TC):TE:=λσ H Q=>wi σ H λJ H1=>oW J g tt inner (λ_ H' xs=>∀p,H' p=none->Q (.ref p) (aF H' p (.lst xs))) (oV cap σ) H1 []
section
variable{X:Cx}
theorem GX{elt:ba}{gens:List jx}{sc:dj}{ps:Pos}{tg iter:ba}{ifs:List ba}{rest:List jx}{inner:ah->Env->Sem Unit}{g:TG}{tt:TT}{ti:TC}{N:zu}{cap:List (Option Nat)}{E:af->ag->Prop}(hc:X.calm=true)(C:Av X sc N cap)(eg:gens=⟨tg,iter,ifs,0⟩::rest)(ht:∀it D env,compTurn (.ListComp elt gens sc ps) 0 (.ref it) (.ref D) env=iG iter.pos (.ref it) tg ifs env (inner D env) (.compLoop (.ListComp elt gens sc ps) 0 (.ref it) (.ref D) env))(hg:∀s H ex,PG (bK X sc N s H ex) tg g)(Cb:∀s H ex,Dj (bK X sc N s H ex) ifs tt){pins:List (ah×Obj)}{s2:ag}{σ:St}{H2:Hp}(Dq:∀s ex D,Inv X pins σ H2 s->(∀b∈ex,bQ X pins H2 b/\b<s.heap.objs.size)->De (bK X sc N s H2 ex) D (inner D (bK X sc N s H2 ex).env) ti){K:St->Hp->Ez->Prop}{it:ah}{fp:List ah}{tn:Nat->bx->Prop}{J:It}(I2:Inv X pins σ H2 s2)(T:Turn X.prog X.w X.K tg J fp it tn)(Cp:tn 0 s2.heap)(f2:∀b∈fp,bQ X pins H2 b)(lp:oW J g tt ti K (oV cap σ) H2 []){R:af->ah->sv->ag->Prop}(hR:∀σ' H' xs(s3 s':ag)(C D:ah),X.s₀.heap.objs.size<=D->C=s3.heap.objs.size->(∃m,s'.heap.Ns C m)->AccAt s' D xs->bQ X pins H' D->bQ X pins H' C->D<C->(∀h',ic C s'.heap h'->Inv X pins σ H' {s' with heap:=h'})->K σ' H' xs->R (.ref D) C (.ok .next) s'):
  wpAny (model X.prog X.w) X.A (newList []) (λacc s3=>wpAny (model X.prog X.w) X.A (newFunctionEnv sc X.env.globals (cS X.env sc.names []) [] X.env.qual none .none (some X.env)) (λcenv s4=>codeAny (model X.prog X.w) X.A (.compStart (.ListComp elt gens sc ps) 0 (.ref it) acc {cenv with scope:=relabel sc X.env}) (R acc cenv.locals) s4) E s3) E s2:=by
 refine dz (AI ?_);dsimp only;generalize hs3:({s2 with heap:=s2.heap.push {cls:=.type "list",dict:=none,data:=.seq ([]:List af).toArray} }:ag)=s3;have kp:∀b o,s2.heap.get? b=some o->s3.heap.get? b=some o:=λb o e=>by rw[<-hs3];exact ai _ e
 have I3:Inv X pins σ H2 s3:=by rw[<-hs3];exact I2.kept (t':=s2.toks) λb o e=>ai _ e
 have eD:s3.heap.get? s2.heap.objs.size=some {cls:=.type "list",data:=.seq ([]:List af).toArray 0}:=by rw[<-hs3];exact ax _ rfl
 have nD:H2 s2.heap.objs.size=none:=I2.hok.fresh (aq _);have fD:bQ X pins H2 s2.heap.objs.size:=I2.fpOk (aq _) nD;have hlt:s2.heap.objs.size<s3.heap.objs.size:=au eD;have hex:∀b∈s2.heap.objs.size::fp,bQ X pins H2 b/\b<s3.heap.objs.size:=λb hb=>by
  rcases bh.mp hb with rfl|hb
  ·exact⟨fD,hlt⟩
  ·obtain⟨o,e,_⟩:=T.obj 0 _ Cp b hb;exact⟨f2 b hb,au (kp b o e)⟩
 have hDfp:s2.heap.objs.size∉fp:=λz=>by obtain⟨o,e,_⟩:=T.obj 0 _ Cp _ z;exact fe _ (au e)
 have I4:=AK (N:=N) (ex:=s2.heap.objs.size::fp) I3 C hex;have F4:=AL (N:=N) I3 C hex;have st4:tn 0 (pushCells (s3.heap.push {cls:=.type "dict",data:=.dict #[]}) sc.names):=T.keep 0 _ _ Cp λb hb o e=>kj _ _ _ _ (ai _ (kp b o e));have a4:AccAt {s3 with heap:=pushCells (s3.heap.push {cls:=.type "dict",data:=.dict #[]}) sc.names} s2.heap.objs.size []:=⟨ja _,[],0,.nil,kj _ _ _ _ (ai _ eD)⟩
 have loop:codeAny (model X.prog X.w) X.A (.compLoop (.ListComp elt gens sc ps) 0 (.ref it) (.ref s2.heap.objs.size) (bK X sc N s3 H2 (s2.heap.objs.size::fp)).env) (R (.ref s2.heap.objs.size) s3.heap.objs.size)
   {s3 with heap:=pushCells (s3.heap.push {cls:=.type "dict",data:=.dict #[]}) sc.names}:=by
  refine GR (X:=bK X sc N s3 H2 (s2.heap.objs.size::fp)) rfl hc (ht it _ _) (hg _ _ _) (Cb _ _ _) (Dq _ _ _ I3 hex) T I4 a4 (F4 _ (bo ..)) st4 (λb hb=>F4 b (az _ hb)) hDfp lp λσ' H' xs' s' I' a' n' k'=>?_;obtain⟨m,hn,_⟩:=I'.loc;exact hR σ' H' xs' s3 s' _ _ (cm I2.sz (aq _)) rfl ⟨m,hn⟩ a' ⟨n',fD.2⟩ (I3.fpOk (aq _) I'.free) hlt (λh' hh=>vR I3 hex I' hh) k'
 have ha:((gens)[0]?).elim false (·.is_async !=0)=false:=by rw[eg];rfl
 subst hs3;exact AN ha loop (T.self _ 0 _ _ _ st4 loop)
theorem GY{elt:ba}{gens:List jx}{sc:dj}{ps:Pos}{tg iter:ba}{ifs:List ba}{rest:List jx}{inner:ah->Env->Sem Unit}{wi:TI}{g:TG}{tt:TT}{ti:TC}{N:zu}{cap:List (Option Nat)}(hc:X.calm=true)(C:Av X sc N cap)(eg:gens=⟨tg,iter,ifs,0⟩::rest)(ht:∀it D env,compTurn (.ListComp elt gens sc ps) 0 (.ref it) (.ref D) env=iG iter.pos (.ref it) tg ifs env (inner D env) (.compLoop (.ListComp elt gens sc ps) 0 (.ref it) (.ref D) env))(hi:PI X tg iter wi)(hg:∀s H ex,PG (bK X sc N s H ex) tg g)(Cb:∀s H ex,Dj (bK X sc N s H ex) ifs tt)(Dq:∀s H ex D,De (bK X sc N s H ex) D (inner D (bK X sc N s H ex).env) ti)(hs:∀x,foldedSetIterable iter X.env x=pure x):PE X (.ListComp elt gens sc ps) (sN wi cap g tt ti):=by
 intro pins s σ H Q I h;rw[eval_ListComp];have Dh:closureFor sc X.env=pure (cS X.env sc.names []):=sG λx hx=>I.ok.has x (C.free x hx);have e1:firstAsync gens=false:=by rw[eg];rfl
 have e2:firstIter gens X.env=eval iter X.env:=by rw[eg];rfl
 rw[e1,e2];refine my (use:=none) (g:=⟨tg,iter,ifs,0⟩) (gs:=rest) (by rw[eg];rfl) hs Dh C.kind C.nd (aH (hi pins s σ H _ I h) λv s1 h1=>aH h1 λitv s2 h2=>?_);obtain⟨it,fp,tn,J,H2,e,I2,T,Cp,f2,lp⟩:=h2;subst e;refine GX (N:=N) (inner:=inner) (R:=λacc C=>compPost (model X.prog X.w) X.A X.xe none (EP X pins σ Q) acc C) hc C eg ht hg Cb (λs ex D _ _=>Dq s _ ex D) I2 T Cp f2 lp ?_;intro σ' H' xs s3 s' C D hD0 hC hn a f fC hDC hout k;obtain⟨m,hn⟩:=hn;refine⟨m,hn,λh' hh=>?_⟩;have I5:=hout h' hh;obtain⟨hz,its,n,r,eD⟩:=a;have eD':h'.get? D=some {cls:=.type "list",data:=.seq its.toArray n}:=(hh.2 D (aw hDC)).trans eD;refine⟨.ref D,aF H' D (.lst xs),I5.adopt f hD0 ⟨hz,its,n,r,eD'⟩,rfl,k D f.1⟩
end
section
variable{X:Cx}
theorem GZ{i:Nat}{x:Str}{px pos:Pos}{elt:ba}{gens:List jx}{sc:dj}{ps:Pos}{tg iter:ba}{ifs:List ba}{rest:List jx}{inner:ah->Env->Sem Unit}{wi:TI}{g:TG}{tt:TT}{ti:TC}{N:zu}{cap:List (Option Nat)}(Cu:swapsWith (.ListComp elt gens sc ps) (some (.Name x px)) pos.line X.env=pure true)(hN:X.N.Nodup)(hi':X.N[i]?=some x)(hx:X.env.scope.names.lookup x=some .local)(hc:X.calm=true)(C:Av X sc N cap)(eg:gens=⟨tg,iter,ifs,0⟩::rest)(ht:∀it D env,compTurn (.ListComp elt gens sc ps) 0 (.ref it) (.ref D) env=iG iter.pos (.ref it) tg ifs env (inner D env) (.compLoop (.ListComp elt gens sc ps) 0 (.ref it) (.ref D) env))(hi:PI X tg iter wi)(hg:∀s H ex,PG (bK X sc N s H ex) tg g)(Cb:∀s H ex,Dj (bK X sc N s H ex) ifs tt)(Dq:∀s H ex D,De (bK X sc N s H ex) D (inner D (bK X sc N s H ex).env) ti)(hs:∀x,foldedSetIterable iter X.env x=pure x):PS X (.Assign [.Name x px] (.ListComp elt gens sc ps) pos) (rY (sN wi cap g tt ti) (vD i)):=by
 intro pins s σ H D I h;rw[uj _ _ _ _ Cu];have Dh:closureFor sc X.env=pure (cS X.env sc.names []):=sG λx hx=>I.ok.has x (C.free x hx);have e1:firstAsync gens=false:=by rw[eg];rfl
 have e2:firstIter gens X.env=eval iter X.env:=by rw[eg];rfl
 refine ae (jn (ae ?_));show wpAny _ X.A (do let _ <-comprehension (.ListComp elt gens sc ps) sc X.env (firstIterPos gens ps) (newList []) (firstAsync gens) (firstIter gens X.env) (some (assign (.Name x px) X.env))) _ _ s;rw[e1,e2];refine ae (aH (my (use:=some (assign (.Name x px) X.env)) (Q:=λ_ s'=>SP X pins D .next s') (g:=⟨tg,iter,ifs,0⟩) (gs:=rest) (by rw[eg];rfl) hs Dh C.kind C.nd (aH (hi pins s σ H _ I h) λv s1 h1=>aH h1 λitv s2 h2=>?_)) λ_ s' hq=>aj (aj hq));obtain⟨it,fp,tn,J,H2,e,I2,T,Cp,f2,lp⟩:=h2;subst e;refine GX (N:=N) (inner:=inner) (R:=λacc C=>compPost (model X.prog X.w) X.A X.xe (some (assign (.Name x px) X.env)) (λ_ s'=>SP X pins D .next s') acc C) hc C eg ht hg Cb (λs ex D _ _=>Dq s _ ex D) I2 T Cp f2 lp ?_;intro σ' H' xs s3 s' C D' hD0 hC hn a f fC hDC hout k;obtain⟨m,hn⟩:=hn;have I5:Inv X pins σ H' s':=hout s'.heap (tj ..);obtain⟨hz,its,n,r,eD⟩:=a;have I6:Inv X pins σ (aF H' D' (.lst xs)) s':=I5.adopt f hD0 ⟨hz,its,n,r,eD⟩;show wpAny _ X.A (assign (.Name x px) X.env (.ref D')) _ _ s';obtain⟨c0,c1,c2,c3,c4,c5⟩:=fC;have nC:aF H' D' (.lst xs) C=none:=by rw[aM (cp (aw hDC))];exact c0
 refine si (vB (v:=Eo D') I6 hN hi' (.inl hx) rfl (λDg I7⟨a,sb,ha⟩=>?_) (.inr hx));have hCa:C≠a:=by
  rcases ha with z|z
  ·rw[z];exact c1
  ·exact cp (c4 x a z)
 refine⟨m,hn.sameBut sb hCa,λh' hh=>?_⟩;have I8:Inv X pins (σ.set i (some (.ref D'))) (aF H' D' (.lst xs)) {Dg with heap:=h'}:=I7.turned (t':=Dg.toks) (λb o hb e=>(hh.2 b hb).trans e) nC c1 c3 c4 c5;exact⟨_,_,I8,k D' f.1⟩
end
inductive Dt where
 |non|bl (b:Bool)|int (i:Int)|str (x:Str)|tup (xs:List Dt)|lst (xs:List Dt)|dct
mutual
def Den(P:ah->Prop)(H:Hp):Dt->V->Prop
 |.non,v=>v=.non
 |.bl b,v=>v=.bl b
 |.int i,v=>v=.int i
 |.str x,v=>v=.str x
 |.tup ds,v=>∃a vs,v=.ref a/\H a=some (.tup vs)/\Aj P H ds vs
 |.lst ds,v=>∃a vs,v=.ref a/\P a/\H a=some (.lst vs)/\Aj P H ds vs
 |.dct,v=>∃a,v=.ref a/\P a/\H a=some (.dK [])
def Aj(P:ah->Prop)(H:Hp):List Dt->Ez->Prop
 |[],vs=>vs=[]
 |d::ds,vs=>∃v r,vs=v::r/\Den P H d v/\Aj P H ds r
end
theorem Aj.length{P:ah->Prop}{H:Hp}:∀{ds:List Dt}{vs:Ez},Aj P H ds vs->vs.length=ds.length
 |[],vs,h=>by rw[Aj]at h;rw[h];rfl
 |d::ds,vs,h=>by rw[Aj]at h;obtain⟨v,r,rfl,_,h2⟩:=h;simp[Aj.length h2]
theorem Aj.get{P:ah->Prop}{H:Hp}:∀{ds:List Dt}{vs:Ez}{i:Nat}{v:V},Aj P H ds vs->vs[i]?=some v->∃d,ds[i]?=some d/\Den P H d v
 |[],vs,i,v,h,e=>by rw[Aj]at h;rw[h]at e;simp at e
 |d::ds,vs,i,v,h,e=>by
  rw[Aj]at h;obtain⟨w,r,rfl,h1,h2⟩:=h
  cases i with
  |zero=>simp at e;subst e;exact⟨d,rfl,h1⟩
  |succ i=>simp at e;exact Aj.get (i:=i) h2 e
theorem Aj.nil{P:ah->Prop}{H:Hp}:Aj P H [] []:=by rw[Aj]
theorem Aj.cons{P:ah->Prop}{H:Hp}{d:Dt}{v:V}{ds:List Dt}{vs:Ez}(h:Den P H d v)(t:Aj P H ds vs):Aj P H (d::ds) (v::vs):=by rw[Aj];exact⟨v,vs,rfl,h,t⟩
mutual
def bH:Dt->Dt->Bool
 |.non,.non=>true
 |.bl a,.bl b=>a==b
 |.bl a,.int j=>(if a then 1 else 0)==j
 |.int i,.bl b=>i==(if b then 1 else 0)
 |.int i,.int j=>i==j
 |.str x,.str y=>x==y
 |.tup xs,.tup ys=>jK xs ys
 |.lst xs,.lst ys=>jK xs ys
 |_,_=>false
def jK:List Dt->List Dt->Bool
 |[],[]=>true
 |x::xs,y::ys=>bH x y&&jK xs ys
 |_,_=>false
end
mutual
def dZ:Dt->Nat
 |.tup xs=>lZ xs+1
 |.lst xs=>lZ xs+1
 |_=>0
def lZ:List Dt->Nat
 |[]=>0
 |x::xs=>max (dZ x) (lZ xs)
end
mutual
def cI:Dt->Bool
 |.tup xs=>kF xs
 |.lst xs=>kF xs
 |.dct=>false
 |_=>true
def kF:List Dt->Bool
 |[]=>true
 |x::xs=>cI x&&kF xs
end
mutual
theorem AO:∀d:Dt,cI d=true->bH d d=true
 |.non,_=>rfl
 |.bl b,_=>by simp[bH]
 |.int i,_=>by simp[bH]
 |.str x,_=>by simp[bH]
 |.tup xs,h=>by rw[bH];exact AQ xs (by rw[cI]at h;exact h)
 |.lst xs,h=>by rw[bH];exact AQ xs (by rw[cI]at h;exact h)
 |.dct,h=>by simp[cI]at h
theorem AQ:∀l:List Dt,kF l=true->jK l l=true
 |[],_=>rfl
 |x::xs,h=>by rw[kF,dh]at h;rw[jK,AO x h.1,AQ xs h.2];rfl
end
theorem G1:∀{l:List Dt}{d:Dt},d∈l->dZ d<=lZ l
 |x::xs,d,h=>by
  rw[lZ]
  rcases bh.mp h with rfl|h
  ·lia
  ·have:=G1 h;lia
theorem AR:∀{l:List Dt}{d:Dt},kF l=true->d∈l->cI d=true
 |x::xs,d,h,hd=>by
  rw[kF,dh]at h
  rcases bh.mp hd with rfl|hd
  ·exact h.1
  ·exact AR h.2 hd
theorem sO:∀{xs ys:List Dt},xs.length=ys.length->jK xs ys=(cf xs.length).all λi=>bH (xs.getD i .non) (ys.getD i .non)
 |[],[],_=>rfl
 |x::xs,y::ys,h=>by rw[jK,sO (xs:=xs) (ys:=ys) (by simpa using h),br,List.range_succ_eq_map,List.all_cons,List.all_map];rfl
theorem sP:∀{xs ys:List Dt},xs.length≠ys.length->jK xs ys=false
 |[],[],h=>absurd rfl h
 |[],_::_,_=>rfl
 |_::_,[],_=>rfl
 |x::xs,y::ys,h=>by rw[jK,sP (xs:=xs) (ys:=ys) (by simpa using h),wx]
mutual
theorem Den.inj{P:ah->Prop}{H:Hp}:∀(d d':Dt)(v:V),Den P H d v->Den P H d' v->d=d'
 |.non,d',v,h,h'=>by
  rw[Den]at h;subst h
  cases d'<;>rw[Den]at h'<;>first|rfl|(obtain⟨_,_,e,_⟩:=h';cases e;done)|(obtain⟨_,e,_⟩:=h';cases e;done)|(cases h';done)
 |.bl b,d',v,h,h'=>by
  rw[Den]at h;subst h
  cases d'<;>rw[Den]at h'<;>first|(obtain⟨_,_,e,_⟩:=h';cases e;done)|(obtain⟨_,e,_⟩:=h';cases e;done)|(cases h';done)|(cases h';rfl)
 |.int b,d',v,h,h'=>by
  rw[Den]at h;subst h
  cases d'<;>rw[Den]at h'<;>first|(obtain⟨_,_,e,_⟩:=h';cases e;done)|(obtain⟨_,e,_⟩:=h';cases e;done)|(cases h';done)|(cases h';rfl)
 |.str b,d',v,h,h'=>by
  rw[Den]at h;subst h
  cases d'<;>rw[Den]at h'<;>first|(obtain⟨_,_,e,_⟩:=h';cases e;done)|(obtain⟨_,e,_⟩:=h';cases e;done)|(cases h';done)|(cases h';rfl)
 |.tup ds,d',v,h,h'=>by
  rw[Den]at h;obtain⟨a,vs,rfl,h1,h2⟩:=h
  cases d'<;>rw[Den]at h'<;>first|(cases h';done)|(obtain⟨_,_,e,_,q,_⟩:=h';cases e;rw[h1]at q;cases q;done)|(obtain⟨_,e,_,q⟩:=h';cases e;rw[h1]at q;cases q;done)|(obtain⟨_,_,e,q,g⟩:=h';cases e;rw[h1]at q;cases q;rw[Aj.inj ds _ vs h2 g])
 |.lst ds,d',v,h,h'=>by
  rw[Den]at h;obtain⟨a,vs,rfl,_,h1,h2⟩:=h
  cases d'<;>rw[Den]at h'<;>first|(cases h';done)|(obtain⟨_,_,e,q,_⟩:=h';cases e;rw[h1]at q;cases q;done)|(obtain⟨_,e,_,q⟩:=h';cases e;rw[h1]at q;cases q;done)|(obtain⟨_,_,e,_,q,g⟩:=h';cases e;rw[h1]at q;cases q;rw[Aj.inj ds _ vs h2 g])
 |.dct,d',v,h,h'=>by
  rw[Den]at h;obtain⟨a,rfl,_,h1⟩:=h
  cases d'<;>rw[Den]at h'<;>first|rfl|(cases h';done)|(obtain⟨_,_,e,q,_⟩:=h';cases e;rw[h1]at q;cases q;done)|(obtain⟨_,_,e,_,q,_⟩:=h';cases e;rw[h1]at q;cases q;done)
theorem Aj.inj{P:ah->Prop}{H:Hp}:∀(ds Bs:List Dt)(vs:Ez),Aj P H ds vs->Aj P H Bs vs->ds=Bs
 |[],Bs,vs,h,h'=>by
  rw[Aj]at h;subst h
  cases Bs with
  |nil=>rfl
  |cons d Bs=>rw[Aj]at h';obtain⟨_,_,e,_⟩:=h';cases e
 |d::ds,Bs,vs,h,h'=>by
  rw[Aj]at h;obtain⟨v,r,rfl,h1,h2⟩:=h
  cases Bs with
  |nil=>rw[Aj]at h';cases h'
  |cons d' Bs=>rw[Aj]at h';obtain⟨v',r',e,h1',h2'⟩:=h';cases e;rw[Den.inj d d' v h1 h1',Aj.inj ds Bs r h2 h2']
end
section
variable{Pg:bg}{w:bu}{P:ah->Prop}{H:Hp}{s:ag}
theorem S9(hok:Az Pg w H s.heap){a:ah}{vs:Ez}(e:H a=some (.tup vs)):∃its:List af,Ae vs its/\s.heap.IsTuple a its.toArray:=by
 obtain⟨_,its,r,p⟩:=(show Ag Pg w H s.heap a (.tup vs) from hok a _ e)
 exact⟨its,r,p.tup⟩
theorem TB(hok:Az Pg w H s.heap){a:ah}{vs:Ez}(e:H a=some (.lst vs)):∃its:List af,Ae vs its/\s.heap.IsList a its.toArray:=by
 obtain⟨_,its,n,r,p⟩:=(show Ag Pg w H s.heap a (.lst vs) from hok a _ e)
 exact⟨its,r,_,p,rfl,n,rfl⟩
theorem G2{vs:Ez}{its:List af}(r:Ae vs its){j:Nat}(h:j<its.toArray.size):∃v,vs[j]?=some v/\RelV v its.toArray[j]:=by
 have hl:=r.length;have h':j<its.length:=by simpa using h
 have hv:j<vs.length:=by lia
 obtain⟨u,e,q⟩:=r.get (i:=j) (x:=vs[j]) (cn hv);refine⟨vs[j],cn hv,?_⟩;have:its.toArray[j]=u:=by have:its[j]?=some its[j]:=cn h';rw[this]at e;simpa using e
 rw[this];exact q
inductive Vw(P:ah->Prop)(H:Hp)(s:ag):Dt->af->Prop
 |non:Vw P H s .non .none
 |bl {b:Bool}:Vw P H s (.bl b) (.bool b)
 |int {i:Int}{t:Tok}:Vw P H s (.int i) (.int i t)
 |str {x:Str}{t:Tok}:Vw P H s (.str x) (.str x t)
 |tup {ds:List Dt}{a:ah}{vs:Ez}{its:List af}(e:H a=some (.tup vs)) (g:Aj P H ds vs) (q:Ae vs its) (tp:s.heap.IsTuple a its.toArray):Vw P H s (.tup ds) (.ref a)
 |lst {ds:List Dt}{a:ah}{vs:Ez}{its:List af}(e:H a=some (.lst vs)) (g:Aj P H ds vs) (q:Ae vs its) (tp:s.heap.IsList a its.toArray):Vw P H s (.lst ds) (.ref a)
theorem vw(hok:Az Pg w H s.heap){d:Dt}{v:V}{u:af}(n:cI d=true)(h:Den P H d v)(r:RelV v u):Vw P H s d u:=by
 cases d<;>rw[Den]at h
 case tup=>obtain⟨a,vs,rfl,e,g⟩:=h;cases r;obtain⟨its,q,tp⟩:=S9 hok e;exact .tup e g q tp
 case lst=>obtain⟨a,vs,rfl,_,e,g⟩:=h;cases r;obtain⟨its,q,tp⟩:=TB hok e;exact .lst e g q tp
 case dct=>simp[cI]at n
 all_goals subst h
 case int=>obtain⟨t,rfl⟩:=r;exact .int
 case str=>obtain⟨t,rfl⟩:=r;exact .str
 all_goals cases r;constructor
theorem vS(hok:Az Pg w H s.heap){A:bq}{n:Nat}(ih:∀(d d':Dt)(u u':af),dZ d<=n->cI d=true->cI d'=true->Vw P H s d u->Vw P H s d' u'->kn A s u u' (bH d d')){vs Bh:Ez}{ds Bs:List Dt}{its its':List af}(hd:lZ ds<=n)(m1:kF ds=true)(m2:kF Bs=true)(g:Aj P H ds vs)(g':Aj P H Bs Bh)(q:Ae vs its)(q':Ae Bh its')(j:Nat)(h1:j<its.toArray.size)(h2:j<its'.toArray.size):kn A s its.toArray[j] its'.toArray[j] (bH (ds.getD j .non) (Bs.getD j .non)):=by
 obtain⟨x,ex,rx⟩:=G2 q h1;obtain⟨x',ex',rx'⟩:=G2 q' h2;obtain⟨dx,edx,gx⟩:=g.get ex;obtain⟨dx',edx',gx'⟩:=g'.get ex';have e1:ds.getD j .non=dx:=by simp[pq,edx]
 have e2:Bs.getD j .non=dx':=by simp[pq,edx']
 rw[e1,e2];have hm:=gb edx;have k1:=AR m1 hm;have k2:=AR m2 (gb edx');exact ih dx dx' _ _ (cm (G1 hm) hd) k1 k2 (vw hok k1 gx rx) (vw hok k2 gx' rx')
theorem G3(hok:Az Pg w H s.heap)(n:Nat)(ih:∀m,m+1=n->∀(A:bq)(d d':Dt)(u u':af),dZ d<=m->A.units+m+1<cLine->cI d=true->cI d'=true->Vw P H s d u->Vw P H s d' u'->sd A s u u' (bH d d')/\kn A s u u' (bH d d'))(A:bq)(d d':Dt)(u u':af)(hn:dZ d<=n)(hu:A.units+n+1<cLine)(n1:cI d=true)(n2:cI d'=true)(h:Vw P H s d u)(h':Vw P H s d' u'):sd A s u u' (bH d d')/\kn A s u u' (bH d d'):=by
 have As:A.units<cLine:=by lia
 have ok:∀{a1 a2:ah}{b:Bool},(sd A s (.ref a1) (.ref a2) b)->(a1=a2->b=true)->sd A s (.ref a1) (.ref a2) b/\kn A s (.ref a1) (.ref a2) b:=λ{a1 a2 b}key z=>⟨key,by
  by_cases hab:a1=a2
  ·rw[z hab,hab];exact .same _
  ·exact .of_refs hab key⟩
 have Dq:1<=n->∀(d d':Dt)(u u':af),dZ d<=n-1->cI d=true->cI d'=true->Vw P H s d u->Vw P H s d' u'->kn A.in1 s u u' (bH d d'):=λhd d d' u u' a b c e f=>(ih (n-1) (by lia) A.in1 d d' u u' a (by show A.units+1+(n-1)+1<cLine;lia) b c e f).2
 cases h<;>cases h'
 case tup.tup ds a1 vs1 its1 e1 g1 q1 tp1 Bs a2 vs2 Bz e2 g2 q2 tp2=>
  rw[cI]at n1 n2;rw[dZ]at hn;have hl1:=g1.length;have hl2:=g2.length;have hq1:=q1.length;have hq2:=q2.length;refine ok ?_ λhab=>?_
  ·rw[bH];have z:=SeqAt.RcAt.tuples (e:=λj=>bH (ds.getD j .non) (Bs.getD j .non)) tp1 tp2 As (vS hok (Dq (by lia)) (by lia) n1 n2 g1 g2 q1 q2);have s1:its1.toArray.size=ds.length:=by simp;lia
   have s2:Bz.toArray.size=Bs.length:=by simp;lia
   rw[s1,s2]at z
   by_cases hlen:ds.length=Bs.length
   ·rw[sO hlen];rw[<-hlen,yw]at z;simpa using z
   ·rw[sP hlen];rw[show(ds.length==Bs.length)=false from beq_eq_false_iff_ne.mpr hlen,wx]at z;exact z
  ·subst hab;rw[e1]at e2;cases e2;rw[Aj.inj ds Bs _ g1 g2,AO _ (by rw[cI];exact n2)]
 case lst.lst ds a1 vs1 its1 e1 g1 q1 tp1 Bs a2 vs2 Bz e2 g2 q2 tp2=>
  rw[cI]at n1 n2;rw[dZ]at hn;have hl1:=g1.length;have hl2:=g2.length;have hq1:=q1.length;have hq2:=q2.length;refine ok ?_ λhab=>?_
  ·rw[bH]
   by_cases hlen:ds.length=Bs.length
   ·have z:=SeqAt.RcAt.lists (e:=λj=>bH (ds.getD j .non) (Bs.getD j .non)) tp1 tp2 (by simp;lia) As (vS hok (Dq (by lia)) (by lia) n1 n2 g1 g2 q1 q2);rw[sO hlen];simpa[hq1.symm,hl1]using z
   ·rw[sP hlen];exact SeqAt.RcAt.lists_lengths tp1 tp2 (by simp;lia) As
  ·subst hab;rw[e1]at e2;cases e2;rw[Aj.inj ds Bs _ g1 g2,AO _ (by rw[cI];exact n2)]
 case non.non=>exact⟨.none_none,.same _⟩
 case non.bl=>exact⟨.none_bool _,.none_bool _⟩
 case non.int=>exact⟨.none_int _ _,.none_int _ _⟩
 case non.str=>exact⟨.none_str _ _,.none_str _ _⟩
 case non.tup=>exact⟨.none_tuple ‹_› As,.none_tuple ‹_› As⟩
 case non.lst=>exact⟨.none_list ‹_› As,.none_list ‹_› As⟩
 case bl.non=>exact⟨.bool_none _,.bool_none _⟩
 case bl.bl=>exact⟨.bool_bool _ _,.bool_bool _ _⟩
 case bl.int=>exact⟨.bool_int _ _ _,.bool_int _ _ _⟩
 case bl.str=>exact⟨.bool_str _ _ _,.bool_str _ _ _⟩
 case bl.tup=>exact⟨.bool_tuple _ ‹_› As,.bool_tuple _ ‹_› As⟩
 case bl.lst=>exact⟨.bool_list _ ‹_› As,.bool_list _ ‹_› As⟩
 case int.non=>exact⟨.int_none _ _,.int_none _ _⟩
 case int.bl=>exact⟨.int_bool _ _ _,.int_bool _ _ _⟩
 case int.int=>exact⟨.int_int _ _ _ _,.int_int _ _ _ _⟩
 case int.str=>exact⟨.int_str _ _ _ _,.int_str _ _ _ _⟩
 case int.tup=>exact⟨.int_tuple _ _ ‹_› As,.int_tuple _ _ ‹_› As⟩
 case int.lst=>exact⟨.int_list _ _ ‹_› As,.int_list _ _ ‹_› As⟩
 case str.non=>exact⟨.str_none _ _,.str_none _ _⟩
 case str.bl=>exact⟨.str_bool _ _ _,.str_bool _ _ _⟩
 case str.int=>exact⟨.str_int _ _ _ _,.str_int _ _ _ _⟩
 case str.str=>exact⟨.str_str _ _ _ _,.str_str _ _ _ _⟩
 case str.tup=>exact⟨.str_tuple _ _ ‹_› As,.str_tuple _ _ ‹_› As⟩
 case str.lst=>exact⟨.str_list _ _ ‹_› As,.str_list _ _ ‹_› As⟩
 case tup.non=>exact⟨.tuple_none ‹_› As,.tuple_none ‹_› As⟩
 case tup.bl=>exact⟨.tuple_bool _ ‹_› As,.tuple_bool _ ‹_› As⟩
 case tup.int=>exact⟨.tuple_int _ _ ‹_› As,.tuple_int _ _ ‹_› As⟩
 case tup.str=>exact⟨.tuple_str _ _ ‹_› As,.tuple_str _ _ ‹_› As⟩
 case tup.lst=>exact⟨.tuple_list ‹_› ‹_› As,.tuple_list ‹_› ‹_› As⟩
 case lst.non=>exact⟨.list_none ‹_› As,.list_none ‹_› As⟩
 case lst.bl=>exact⟨.list_bool _ ‹_› As,.list_bool _ ‹_› As⟩
 case lst.int=>exact⟨.list_int _ _ ‹_› As,.list_int _ _ ‹_› As⟩
 case lst.str=>exact⟨.list_str _ _ ‹_› As,.list_str _ _ ‹_› As⟩
 case lst.tup=>exact⟨.list_tuple ‹_› ‹_› As,.list_tuple ‹_› ‹_› As⟩
theorem AS(hok:Az Pg w H s.heap):∀(n:Nat)(A:bq)(d d':Dt)(u u':af),dZ d<=n->A.units+n+1<cLine->cI d=true->cI d'=true->Vw P H s d u->Vw P H s d' u'->sd A s u u' (bH d d')/\kn A s u u' (bH d d')
 |0=>G3 hok 0 λ_ e=>by cases e
 |n+1=>G3 hok _ λm e=>by cases e;exact AS hok n
theorem G4(hok:Az Pg w H s.heap)(n:Nat)(A:bq)(d d':Dt)(v v':V)(u u':af)(a:dZ d<=n)(b:A.units+n+1<cLine)(n1:cI d=true)(n2:cI d'=true)(h:Den P H d v)(h':Den P H d' v')(r:RelV v u)(r':RelV v' u'):
  sd A s u u' (bH d d')/\kn A s u u' (bH d d'):=AS hok n A d d' u u' a b n1 n2 (vw hok n1 h r) (vw hok n2 h' r')
end
end L2
open L2.Inv renaming atD->Eu
open L2.Dt renaming int->Ex
namespace L2.Mr
inductive Dv where
 |non|bl (b:Bool)|int (i:Int)|str (x:Str)|tup (xs:List Dv)|ref (i:Nat)|edc|exc (c:Nat)|scr
inductive Ob where
 |lst (xs:List Dv)
 |clo (k t:Nat)
 |dct (ks:y' ⊕ wo)
 |ins (xs:List Dv)
abbrev Hs:=List Ob
abbrev Ev:=List (Option Dv)
inductive Rs(α:Type) where
 |ok (a:α) (h:Hs)|ex (c:Nat) (h:Hs)|bad
abbrev zv:=List Dv->Hs->Rs Dv
abbrev zw:=List Dv
abbrev zx:=Option Dv
noncomputable def Rs.bind {α β:Type}(r:Rs α) (f:α->Hs->Rs β):Rs β:=match r with
 |.ok a h=>f a h
 |.ex c h=>.ex c h
 |.bad=>.bad
@[simp] theorem Rs.bind_ok {α β:Type}(a:α) (h:Hs) (f:α->Hs->Rs β):(Rs.ok a h).bind f=f a h:=rfl
@[simp] theorem Rs.bind_ex {α β:Type}(c:Nat) (h:Hs) (f:α->Hs->Rs β):(Rs.ex c h).bind f=.ex c h:=rfl
@[simp] theorem Rs.bind_bad {α β:Type}(f:α->Hs->Rs β):(Rs.bad).bind f=.bad:=rfl
abbrev M(α:Type):=Ev->Hs->Rs α
structure Cf0 where
 K:ak
 cl:Nat->ah
 scr:zr
 sa:ah
 tabs:ah->Option Str:=λ_=>none
 lq:Str:=jo
 insC:ah:=0
noncomputable def cG(C:af)(e T:ah)(a0:af)(h:bx):Prop:=∃oe vs,h.get? e=some oe/\oe.cls=C/\oe.data=.fields vs/\vs[0]?=some a0/\vs[1]?=some (.ref T)/\oe.dict=none
inductive FlyE(G:Cf0)(H:Hp)(c:Nat)(u:af):Prop
 |mk (e:_) (φ:_) (h0:u=.ref e) (h1:H e=some (.ext φ)) (h2:∀h,φ h->∃o,h.get? e=some o/\o.cls=.ref (G.cl c)):FlyE G H c u
noncomputable def AU:HO->Prop
 |.tup _=>True
 |.dK kvs=>kvs=[]
 |.frz _ _=>True
 |_=>False
def FzL(K:ak)(H:Hp)(a:ah)(xs:Ez):Prop:=(∃o,H a=some (.frz o (.lst xs))) ∨
  ∃(o:Obj)(its:Array af)(n:Nat),K.lookup a=some o/\o.cls=.type "list"/\o.dict=none/\o.data=.seq its n/\its.size<=bj/\Ae xs its.toList
theorem FzL.sq{K:ak}{H:Hp}{a:ah}{xs:Ez}(h:FzL K H a xs):Bb K H a xs:=by
 rcases h with⟨o,h⟩|h
 ·exact .inl (.inr ⟨o,h⟩)
 ·exact .inr h
theorem FzL.keep{K:ak}{H H':Hp}{a:ah}{xs:Ez}(h:FzL K H a xs)(k:∀a o,AU o->H a=some o->H' a=some o):FzL K H' a xs:=by
 rcases h with⟨o,h⟩|h
 ·exact .inl ⟨o,k a _ trivial h⟩
 ·exact .inr h
mutual
def Ac(G:Cf0)(μ:Nat->ah)(n:Nat)(H:Hp):Dv->V->Prop
 |.non,v=>v=.non
 |.bl b,v=>v=.bl b
 |.int i,v=>v=.int i
 |.str x,v=>v=.str x
 |.tup ds,v=>∃a vs,v=.ref a/\H a=some (.tup vs)/\RelDL G μ n H ds vs
 |.ref i,v=>i<n/\v=.ref (μ i)
 |.edc,v=>∃a,v=.ref a/\H a=some (.dK [])
 |.exc c,v=>∃a o u,v=.ref a/\H a=some (.frz o u)/\o.cls=.ref (G.cl c)/\o.dict=none/\∃vs,o.data=.fields vs
 |.scr,v=>v=.ref G.sa/\FzL G.K H G.sa (G.scr.map Ef)
def RelDL(G:Cf0)(μ:Nat->ah)(n:Nat)(H:Hp):zw->Ez->Prop
 |[],vs=>vs=[]
 |d::ds,vs=>∃v r,vs=v::r/\Ac G μ n H d v/\RelDL G μ n H ds r
end
structure Ext(μ:Nat->ah)(n:Nat)(H:Hp)(μ':Nat->ah)(n':Nat)(H':Hp):Prop where
 le:n<=n'
 mu:∀i,i<n->μ' i=μ i
 im:∀a o,AU o->H a=some o->H' a=some o
theorem Ext.refl{μ:Nat->ah}{n:Nat}{H:Hp}:Ext μ n H μ n H:=⟨aq _,λ_ _=>rfl,λ_ _ _ e=>e⟩
theorem Ext.trans{μ μ1 μ2:Nat->ah}{n n1 n2:Nat}{H H1 H2:Hp}(a:Ext μ n H μ1 n1 H1)(b:Ext μ1 n1 H1 μ2 n2 H2):Ext μ n H μ2 n2 H2:=⟨cm a.le b.le,λi hi=>(b.mu i (ar hi a.le)).trans (a.mu i hi),λc o i e=>b.im c o i (a.im c o i e)⟩
structure Cfg extends Cf0 where
 clo:(Nat->ah)->Nat->Hp->Nat->Nat->ah->Prop:=λ_ _ _ _ _ _=>True
 cloM:∀{μ μ':Nat->ah}{n n':Nat}{H H':Hp}{k t:Nat}{a:ah},Ext μ n H μ' n' H'->clo μ n H k t a->clo μ' n' H' k t a:=by intros;trivial
instance:Coe Cfg Cf0:=⟨Cfg.toCf0⟩
section
variable{G:Cf0}{μ μ':Nat->ah}{n n':Nat}{H H':Hp}
mutual
theorem Ac.mono(x:Ext μ n H μ' n' H'):∀(d:Dv)(v:V),Ac G μ n H d v->Ac G μ' n' H' d v
 |.non,v,h=>h
 |.bl b,v,h=>h
 |.int i,v,h=>h
 |.str s,v,h=>h
 |.tup ds,v,h=>by obtain⟨a,vs,e,h1,h2⟩:=h;exact⟨a,vs,e,x.im a _ trivial h1,RelDL.mono x ds vs h2⟩
 |.ref i,v,h=>by obtain⟨h1,h2⟩:=h;exact⟨ar h1 x.le,by rw[x.mu i h1];exact h2⟩
 |.edc,v,h=>by obtain⟨a,e,h1⟩:=h;exact⟨a,e,x.im a _ rfl h1⟩
 |.exc c,v,h=>by obtain⟨a,o,u,e,h1,h2⟩:=h;exact⟨a,o,u,e,x.im a _ trivial h1,h2⟩
 |.scr,v,h=>by obtain⟨h1,h2⟩:=h;exact⟨h1,h2.keep x.im⟩
theorem RelDL.mono(x:Ext μ n H μ' n' H'):∀(ds:zw)(vs:Ez),RelDL G μ n H ds vs->RelDL G μ' n' H' ds vs
 |[],vs,h=>h
 |d::ds,vs,h=>by obtain⟨v,r,e,h1,h2⟩:=h;exact⟨v,r,e,Ac.mono x d v h1,RelDL.mono x ds r h2⟩
end
theorem RelDL.length:∀{ds:zw}{vs:Ez},RelDL G μ n H ds vs->vs.length=ds.length
 |[],_,h=>by rw[RelDL]at h;subst h;rfl
 |d::ds,_,h=>by rw[RelDL]at h;obtain⟨v,r,rfl,_,h2⟩:=h;rw[br,br,RelDL.length h2]
theorem RelDL.get:∀{ds:zw}{vs:Ez}{i:Nat}{d:Dv},RelDL G μ n H ds vs->ds[i]?=some d->∃v,vs[i]?=some v/\Ac G μ n H d v
 |[],_,_,_,_,e=>by simp at e
 |d::ds,_,0,d',h,e=>by rw[RelDL]at h;obtain⟨v,r,rfl,h1,_⟩:=h;simp at e;subst e;exact⟨v,rfl,h1⟩
 |d::ds,_,i+1,d',h,e=>by rw[RelDL]at h;obtain⟨v,r,rfl,_,h2⟩:=h;obtain⟨u,e1,h3⟩:=RelDL.get (i:=i) h2 (by simpa using e);exact⟨u,by simpa using e1,h3⟩
theorem RelDL.nil:RelDL G μ n H [] []:=by rw[RelDL]
theorem RelDL.cons{d:Dv}{v:V}{ds:zw}{vs:Ez}(h:Ac G μ n H d v)(t:RelDL G μ n H ds vs):RelDL G μ n H (d::ds) (v::vs):=by rw[RelDL];exact⟨v,vs,rfl,h,t⟩
theorem RelDL.append:∀{ds es:zw}{vs ws:Ez},RelDL G μ n H ds vs->RelDL G μ n H es ws->RelDL G μ n H (ds++es) (vs++ws)
 |[],_,_,_,h,h'=>by rw[RelDL]at h;subst h;exact h'
 |d::ds,_,_,_,h,h'=>by rw[RelDL]at h;obtain⟨v,r,rfl,h1,h2⟩:=h;exact RelDL.cons h1 (RelDL.append h2 h')
theorem RelDL.take:∀{ds:zw}{vs:Ez}(k:Nat),RelDL G μ n H ds vs->RelDL G μ n H (ds.take k) (vs.take k)
 |[],_,k,h=>by rw[RelDL]at h;subst h;simp[RelDL.nil]
 |d::ds,_,0,h=>by simp[RelDL.nil]
 |d::ds,_,k+1,h=>by rw[RelDL]at h;obtain⟨v,r,rfl,h1,h2⟩:=h;exact RelDL.cons h1 (RelDL.take k h2)
theorem RelDL.drop:∀{ds:zw}{vs:Ez}(k:Nat),RelDL G μ n H ds vs->RelDL G μ n H (ds.drop k) (vs.drop k)
 |[],_,k,h=>by rw[RelDL]at h;subst h;simp[RelDL.nil]
 |d::ds,_,0,h=>h
 |d::ds,_,k+1,h=>by rw[RelDL]at h;obtain⟨v,r,rfl,h1,h2⟩:=h;exact RelDL.drop k h2
theorem RelDL.set{x:Dv}{u:V}(hx:Ac G μ n H x u):∀{ds:zw}{vs:Ez}(i:Nat),RelDL G μ n H ds vs->RelDL G μ n H (ds.set i x) (vs.set i u)
 |[],_,_,h=>by rw[RelDL]at h;subst h;exact RelDL.nil
 |d::ds,_,0,h=>by rw[RelDL]at h;obtain⟨v,r,rfl,h1,h2⟩:=h;exact RelDL.cons hx h2
 |d::ds,_,i+1,h=>by rw[RelDL]at h;obtain⟨v,r,rfl,h1,h2⟩:=h;exact RelDL.cons h1 (RelDL.set hx i h2)
end
noncomputable def fH(ks:y'):List (List dD×V):=ks.map λk=>(k.map jg,.bl true)
noncomputable def G5(kvs:wo):List (dD×V):=kvs.map λp=>(jg p.1,.int p.2)
def dO:y' ⊕ wo->HO
 |.inl ks=>.dT (fH ks)
 |.inr []=>.dT []
 |.inr (p::kvs)=>.dK (G5 (p::kvs))
theorem sQ:∀d,(∃l,dO d=.dT l)∨∃l,dO d=.dK l/\l≠[]
 |.inl ks=>.inl ⟨_,rfl⟩
 |.inr []=>.inl ⟨_,rfl⟩
 |.inr (p::kvs)=>.inr ⟨_,rfl,by simp[G5]⟩
noncomputable def Ax:zu:=["order","earlier"]
def ObR(G:Cfg)(μ:Nat->ah)(n:Nat)(H:Hp)(a:ah):Ob->Prop
 |.lst xs=>∃vs,H a=some (.lst vs)/\RelDL G μ n H xs vs
 |.clo k t=>t<n/\(∃o u,H a=some (.frz o u))/\G.clo μ n H k t a
 |.dct ks=>H a=some (dO ks)
 |.ins xs=>∃dx vs,H a=some (.ins G.insC dx (Ax.zip vs))/\RelDL G μ n H xs vs
theorem ObR.clo{G:Cfg}{μ μ':Nat->ah}{n n':Nat}{H H':Hp}{a:ah}{k t:Nat}(r:ObR G μ n H a (.clo k t))(x:Ext μ n H μ' n' H'):ObR G μ' n' H' a (.clo k t):=by obtain⟨h1,⟨o,u,h2⟩,h3⟩:=r;exact⟨ar h1 x.le,⟨o,u,x.im _ _ trivial h2⟩,G.cloM x h3⟩
inductive Cs(q:Str)(oc:Obj):Prop
 |mk (vs:_) (t:_) (h0:oc.data=.fields vs) (h1:vs[1]?=some (.str q t)):Cs q oc
noncomputable def Cf(G:Cf0)(H:Hp):Prop:=∀P lq,G.tabs P=some lq->∃ps,H P=some (.tbl ps)/\uv ps.toList/\∀pos cv,codeAmong pos ps.toList=some cv->∃q oc,cv=.ref q/\H q=some (.frz oc (.own 0))/\Cs lq oc
theorem Cf.keep{G:Cf0}{H H':Hp}(t:Cf G H)(k:∀a o,(∀xs,o≠.lst xs)->(∀φ,o≠.ext φ)->H a=some o->H' a=some o):Cf G H':=λP lq e=>by obtain⟨ps,h1,h2,h3⟩:=t P lq e;refine⟨ps,k P _ (λ_ z=>by cases z) (λ_ z=>by cases z) h1,h2,λpos cv q=>?_⟩;obtain⟨a,oc,e1,e2,e3⟩:=h3 pos cv q;exact⟨a,oc,e1,k a _ (λ_ z=>by cases z) (λ_ z=>by cases z) e2,e3⟩
structure Ai(G:Cfg)(μ:Nat->ah)(h:Hs)(H:Hp):Prop where
 inj:∀i j,i<h.length->j<h.length->μ i=μ j->i=j
 ob:∀(i:Nat)(o:Ob),h[i]?=some o->ObR G μ h.length H (μ i) o
 tab:Cf G H
structure Ah(G:Cfg)(μ:Nat->ah)(n:Nat)(H:Hp)(ρ:Ev)(σ:St):Prop where
 len:ρ.length=σ.length
 at_:∀(i:Nat)(d:Dv),ρ[i]?=some (some d)->∃v,σ[i]?=some (some v)/\Ac G μ n H d v
theorem Ah.mono{G:Cfg}{μ μ':Nat->ah}{n n':Nat}{H H':Hp}{ρ:Ev}{σ:St}(r:Ah G μ n H ρ σ)(x:Ext μ n H μ' n' H'):Ah G μ' n' H' ρ σ:=⟨r.len,λi d e=>let ⟨v,e1,h⟩:=r.at_ i d e;⟨v,e1,Ac.mono x d v h⟩⟩
noncomputable def Out{α β:Type}(G:Cfg)(E:XK)(μ:Nat->ah)(n:Nat)(H:Hp)(r:Rs α)(R:(Nat->ah)->Nat->Hp->α->β->Prop)(Q:β->Hp->Prop):Prop:=
 match r with
 |.ok d h'=>∀μ' H' v,Ext μ n H μ' h'.length H'->Ai G μ' h' H'->R μ' h'.length H' d v->Q v H'
 |.ex c h'=>∀μ' H' u,Ext μ n H μ' h'.length H'->Ai G μ' h' H'->FlyE G H' c u->E u none H'
 |.bad=>False
theorem Out.bind{α β γ δ:Type}{G:Cfg}{E:XK}{μ:Nat->ah}{n:Nat}{H:Hp}{r:Rs α}{f:α->Hs->Rs γ}{R:(Nat->ah)->Nat->Hp->γ->δ->Prop}{Q:δ->Hp->Prop}{R1:(Nat->ah)->Nat->Hp->α->β->Prop}(o:Out G E μ n H (r.bind f) R Q):Out G E μ n H r R1 λv H1=>∃μ1 d h1,Ext μ n H μ1 h1.length H1/\Ai G μ1 h1 H1/\R1 μ1 h1.length H1 d v/\Out G E μ1 h1.length H1 (f d h1) R Q:=by
 cases r with
 |bad=>exact o
 |ex c h'=>exact o
 |ok d h'=>
  intro μ1 H1 v x1 s1 r1;refine⟨μ1,d,h',x1,s1,r1,?_⟩;have o':Out G E μ n H (f d h') R Q:=o
  cases e:f d h' with
  |bad=>rw[e]at o';exact o'
  |ex c h2=>rw[e]at o';exact λμ2 H2 u x2 s2 r2=>o' μ2 H2 u (x1.trans x2) s2 r2
  |ok d2 h2=>rw[e]at o';exact λμ2 H2 u x2 s2 r2=>o' μ2 H2 u (x1.trans x2) s2 r2
theorem Out.mono{α β:Type}{G:Cfg}{E:XK}{μ:Nat->ah}{n:Nat}{H:Hp}{r:Rs α}{R:(Nat->ah)->Nat->Hp->α->β->Prop}{Q Q':β->Hp->Prop}(o:Out G E μ n H r R Q)(h:∀v H',Q v H'->Q' v H'):Out G E μ n H r R Q':=by
 cases r with
 |bad=>exact o
 |ex c h'=>exact o
 |ok d h'=>exact λμ' H' v x s r=>h _ _ (o μ' H' v x s r)
abbrev RB:(Nat->ah)->Nat->Hp->Bool->Bool->Prop:=λ_ _ _ b b'=>b'=b
inductive TOu{α β:Type}(G:Cfg)(E:XK)(m:M α)(R:(Nat->ah)->Nat->Hp->α->β->Prop)(σ:St)(H:Hp)(Q:β->Hp->Prop):Prop
 |mk (μ:Nat->ah) (ρ:Ev) (h:Hs) (rs:Ah G μ h.length H ρ σ) (s:Ai G μ h H) (o:Out G E μ h.length H (m ρ h) R Q):TOu G E m R σ H Q
def eI(G:Cfg)(E:XK)(m:M Dv):TE:=TOu G E m (Ac G)
noncomputable def fU(G:Cfg)(E:XK)(m:M Bool):TT:=TOu G E m RB
def vT(G:Cfg)(E:XK)(m:M zw ):TA:=TOu G E m (RelDL G)
def aB(X:Cx)(G:Cfg)(E:XK)(pe:ba)(m:M Dv):Prop:=X.K=G.K->PE X pe (eI G E m)
def fK(X:Cx)(G:Cfg)(E:XK)(pe:ba)(m:M Bool):Prop:=X.K=G.K->PT X pe (fU G E m)
def dH(X:Cx)(G:Cfg)(E:XK)(pe:List ba)(m:M zw ):Prop:=X.K=G.K->PA X pe (vT G E m)
theorem PE.imp{X:Cx}{e:ba}{t t':TE}(h:PE X e t)(i:∀σ H Q,t' σ H Q->t σ H Q):PE X e t':=λpins s σ H Q I q=>h pins s σ H Q I (i σ H Q q)
theorem PT.imp{X:Cx}{e:ba}{t t':TT}(h:PT X e t)(i:∀σ H Q,t' σ H Q->t σ H Q):PT X e t':=λpins s σ H Q I q=>h pins s σ H Q I (i σ H Q q)
theorem PA.imp{X:Cx}{e:List ba}{t t':TA}(h:PA X e t)(i:∀σ H Q,t' σ H Q->t σ H Q):PA X e t':=λpos pins s σ H Q I q=>h pos pins s σ H Q I (i σ H Q q)
section
variable{G:Cfg}{E:XK}{σ:St}{H:Hp}
theorem cT{m:M Dv}{γ δ:Type}{f:Dv->Hs->Rs γ}{R:(Nat->ah)->Nat->Hp->γ->δ->Prop}{Q:δ->Hp->Prop}{Q1:V->Hp->Prop}{μ:Nat->ah}{ρ:Ev}{h:Hs}(rs:Ah G μ h.length H ρ σ)(s:Ai G μ h H)(o:Out G E μ h.length H ((m ρ h).bind f) R Q)(k:∀μ1 d h1 v H1,Ext μ h.length H μ1 h1.length H1->Ah G μ1 h1.length H1 ρ σ->Ai G μ1 h1 H1->Ac G μ1 h1.length H1 d v->Out G E μ1 h1.length H1 (f d h1) R Q->Q1 v H1):eI G E m σ H Q1:=
 ⟨μ,ρ,h,rs,s,(o.bind (R1:=Ac G)).mono λv H1⟨μ1,d,h1,x,s1,r1,o1⟩=>k μ1 d h1 v H1 x (rs.mono x) s1 r1 o1⟩
theorem AV{m:M Bool}{γ δ:Type}{f:Bool->Hs->Rs γ}{R:(Nat->ah)->Nat->Hp->γ->δ->Prop}{Q:δ->Hp->Prop}{Q1:Bool->Hp->Prop}{μ:Nat->ah}{ρ:Ev}{h:Hs}(rs:Ah G μ h.length H ρ σ)(s:Ai G μ h H)(o:Out G E μ h.length H ((m ρ h).bind f) R Q)(k:∀μ1 b h1 H1,Ext μ h.length H μ1 h1.length H1->Ah G μ1 h1.length H1 ρ σ->Ai G μ1 h1 H1->Out G E μ1 h1.length H1 (f b h1) R Q->Q1 b H1):fU G E m σ H Q1:=
 ⟨μ,ρ,h,rs,s,(o.bind (R1:=RB)).mono λv H1⟨μ1,d,h1,x,s1,r1,o1⟩=>by have e:v=d:=r1;subst e;exact k μ1 v h1 H1 x (rs.mono x) s1 o1⟩
theorem kG{m:M zw}{γ δ:Type}{f:zw->Hs->Rs γ}{R:(Nat->ah)->Nat->Hp->γ->δ->Prop}{Q:δ->Hp->Prop}{Q1:Ez->Hp->Prop}{μ:Nat->ah}{ρ:Ev}{h:Hs}(rs:Ah G μ h.length H ρ σ)(s:Ai G μ h H)(o:Out G E μ h.length H ((m ρ h).bind f) R Q)(k:∀μ1 d h1 v H1,Ext μ h.length H μ1 h1.length H1->Ah G μ1 h1.length H1 ρ σ->Ai G μ1 h1 H1->RelDL G μ1 h1.length H1 d v->Out G E μ1 h1.length H1 (f d h1) R Q->Q1 v H1):vT G E m σ H Q1:=
 ⟨μ,ρ,h,rs,s,(o.bind (R1:=RelDL G)).mono λv H1⟨μ1,d,h1,x,s1,r1,o1⟩=>k μ1 d h1 v H1 x (rs.mono x) s1 r1 o1⟩
theorem Out.val{α β:Type}{μ:Nat->ah}{h:Hs}{d:α}{R:(Nat->ah)->Nat->Hp->α->β->Prop}{Q:β->Hp->Prop}{v:β}(s:Ai G μ h H)(o:Out G E μ h.length H (.ok d h) R Q)(r:R μ h.length H d v):Q v H:=o μ H v Ext.refl s r
end
section
variable{G:Cfg}{μ:Nat->ah}{h:Hs}{H H':Hp}{p:ah}{n:Nat}
theorem Ext.same(e:Bn H H'):Ext μ n H μ n H':=⟨aq _,λ_ _=>rfl,λa o _ q=>e a o q⟩
theorem Ai.same(s:Ai G μ h H)(e:Bn H H'):Ai G μ h H':=⟨s.inj,λi o q=>by
 have r:=s.ob i o q
 cases o with
 |lst xs=>obtain⟨vs,e1,r1⟩:=r;exact⟨vs,e _ _ e1,RelDL.mono (Ext.same e) _ _ r1⟩
 |clo k t=>exact r.clo (Ext.same e)
 |dct ks=>exact e _ _ r
 |ins xs=>obtain⟨dx,vs,e1,r1⟩:=r;exact⟨dx,vs,e _ _ e1,RelDL.mono (Ext.same e) _ _ r1⟩,s.tab.keep λa o _ _ q=>e a o q⟩
theorem cJ{o:HO}(h:H p=none):Bn H (aF H p o):=λb u e=>by rw[aM (bY e h)];exact e
theorem Ai.not(s:Ai G μ h H)(hp:H p=none):∀(i:Nat),i<h.length->μ i≠p:=λi hi z=>by
 have q:h[i]?=some h[i]:=cn hi;generalize h[i]=o at q
 cases o with
 |lst xs=>obtain⟨vs,e1,_⟩:=s.ob i _ q;rw[z,hp]at e1;cases e1
 |clo k t=>obtain⟨_,⟨o,u,e1⟩,_⟩:=s.ob i _ q;rw[z,hp]at e1;cases e1
 |dct ks=>have e1:H (μ i)=some (dO ks):=s.ob i _ q;rw[z,hp]at e1;cases e1
 |ins xs=>obtain⟨_,_,e1,_⟩:=s.ob i _ q;rw[z,hp]at e1;cases e1
theorem Ai.alloc{ds:zw}{vs:Ez}(s:Ai G μ h H)(hp:H p=none)(r:RelDL G μ h.length H ds vs):
  Ext μ h.length H (λi=>if i=h.length then p else μ i) (h++[Ob.lst ds]).length (aF H p (.lst vs))/\Ai G (λi=>if i=h.length then p else μ i) (h++[.lst ds]) (aF H p (.lst vs)):=by
 have hl:(h++[Ob.lst ds]).length=h.length+1:=by simp
 have hq:=s.not hp;have x:Ext μ h.length H (λi=>if i=h.length then p else μ i) (h++[Ob.lst ds]).length (aF H p (.lst vs)):=⟨by lia,λi hi=>if_neg (aw hi),λa o _ e=>cJ hp a o e⟩
 refine⟨x,λi j hi hj e=>?_,λi o q=>?_,s.tab.keep λa o _ _ q=>cJ hp a o q⟩
 ·rw[hl]at hi hj
  by_cases h1:i=h.length<;>by_cases h2:j=h.length
  ·lia
  ·rw[if_pos h1,if_neg h2]at e;exact absurd e.symm (hq j (by lia))
  ·rw[if_neg h1,if_pos h2]at e;exact absurd e (hq i (by lia))
  ·rw[if_neg h1,if_neg h2]at e;exact s.inj i j (by lia) (by lia) e
 ·by_cases h1:i<h.length
  ·rw[di h1]at q;have r1:=s.ob i o q
   cases o with
   |lst xs=>obtain⟨ws,e1,r2⟩:=r1;exact⟨ws,by rw[if_neg (aw h1)];exact cJ hp _ _ e1,RelDL.mono x _ _ r2⟩
   |clo k t=>rw[if_neg (aw h1)];exact r1.clo x
   |dct ks=>rw[if_neg (aw h1)];exact cJ hp _ _ r1
   |ins xs=>obtain⟨dx,ws,e1,r2⟩:=r1;exact⟨dx,ws,by rw[if_neg (aw h1)];exact cJ hp _ _ e1,RelDL.mono x _ _ r2⟩
  ·rw[gz (by lia)]at q;have h2:i=h.length:=by have:=(av.mp q).1;simp at this;lia
   subst h2;simp at q;subst q;exact⟨vs,by rw[if_pos rfl];exact bP,RelDL.mono x _ _ r⟩
theorem Ai.write{xs ys:zw}{i:Nat}{vs:Ez}(s:Ai G μ h H)(q:h[i]?=some (.lst xs))(r:RelDL G μ h.length H ys vs):
  Ext μ h.length H μ (h.set i (.lst ys)).length (aF H (μ i) (.lst vs))/\Ai G μ (h.set i (.lst ys)) (aF H (μ i) (.lst vs)):=by
 obtain⟨us,e0,r0⟩:=s.ob i _ q;have hi:i<h.length:=(av.mp q).1;have im:∀a o,AU o->H a=some o->aF H (μ i) (.lst vs) a=some o:=λa o m e=>by
  rw[aM];exact e
  rintro rfl;rw[e0]at e;cases e;exact m
 have x:Ext μ h.length H μ (h.set i (.lst ys)).length (aF H (μ i) (.lst vs)):=⟨by simp,λ_ _=>rfl,im⟩
 refine⟨x,λa b ha hb=>?_,λj o e=>?_,s.tab.keep λa o n1 _ q=>?_⟩
 rotate_left 2
 ·rw[aM];exact q
  rintro rfl;rw[e0]at q;cases q;exact n1 _ rfl
 ·rw[jq]at ha hb;exact s.inj a b ha hb
 ·by_cases Br:i=j
  ·subst Br;rw[da hi]at e;cases e;exact⟨vs,bP,RelDL.mono x _ _ r⟩
  ·rw[gg Br]at e;have hj:j<h.length:=(av.mp e).1;have r1:=s.ob j o e;have ne:μ j≠μ i:=λz=>Br (s.inj j i hj hi z).symm
   cases o with
   |lst zs=>obtain⟨ws,e1,r2⟩:=r1;exact⟨ws,by rw[aM ne];exact e1,RelDL.mono x _ _ r2⟩
   |clo k t=>exact r1.clo x
   |dct ks=>exact(aM ne).trans r1
   |ins zs=>obtain⟨dx,ws,e1,r2⟩:=r1;exact⟨dx,ws,by rw[aM ne];exact e1,RelDL.mono x _ _ r2⟩
end
noncomputable def lim{α:Type}(n:Nat)(r:Rs α):Rs α:=if n<=1000000 then r else .bad
theorem nG{n:Nat}(h:n<=1000000):n<=bj:=cm h (by decide)
noncomputable def getL(h:Hs)(i:Nat):Option zw:=match h[i]? with
 |some (.lst xs)=>some xs
 |_=>none
theorem eL{h:Hs}{i:Nat}{xs:zw}(e:getL h i=some xs):h[i]?=some (.lst xs):=by
 unfold getL at e
 cases q:h[i]? with
 |none=>rw[q]at e;cases e
 |some o=>
  cases o with
  |lst ys=>rw[q]at e;cases e;rfl
  |clo k t=>rw[q]at e;cases e
  |dct ks=>rw[q]at e;cases e
  |ins xs=>rw[q]at e;cases e
section
variable{X:Cx}{G:Cfg}{E:XK}{a b c:ba}{ma mb mc:M Dv}{pos:Pos}{es:List ba}{aU:M zw}
noncomputable def aA(i:Nat):M Dv:=λρ h=>match ρ[i]? with
 |some (some d)=>.ok d h
 |_=>.bad
theorem gW(i:Nat){x:Str}(hN:X.N[i]?=some x:=by rfl)(hv:oR X.env.scope x:=by first|exact vj rfl|exact zd (vj rfl)|exact zd (zd rfl))(hd:(x==Ey)=false:=by decide)(hcd:(x==("__classdict__":Str))=false:=by decide):aB X G E (.Name x pos) (aA i):=λ_=>PE.imp (qG hN hv hd hcd) λσ H Q⟨μ,ρ,h,rs,s,o⟩=>by
 unfold aA at o
 split at o
 ·rename_i d e;obtain⟨v,e1,r⟩:=rs.at_ i d e;exact⟨v,e1,o.val s r⟩
 ·exact o.elim
noncomputable def mC(d:Dv):M Dv:=λ_ h=>.ok d h
abbrev aK(i:Int):M Dv:=mC (.int i)
theorem dG{i j}:aB X G E (.Constant (.int i) j pos) (aK i):=λ_=>PE.imp E8 λσ H Q⟨μ,ρ,h,rs,s,o⟩=>o.val s (show Ac G μ _ H (.int i) (.int i) from rfl)
theorem lI{i j}:aB X G E (.Constant (.bool i) j pos) (mC (.bl i)):=λ_=>PE.imp OU λσ H Q⟨μ,ρ,h,rs,s,o⟩=>o.val s (show Ac G μ _ H (.bl i) (.bl i) from rfl)
theorem G6{j}:aB X G E (.Constant .none j pos) (mC .non):=λ_=>PE.imp E9 λσ H Q⟨μ,ρ,h,rs,s,o⟩=>o.val s (show Ac G μ _ H .non .non from rfl)
theorem dQ{x j}:aB X G E (.Constant (.str x) j pos) (mC (.str x)):=λ_=>PE.imp FA λσ H Q⟨μ,ρ,h,rs,s,o⟩=>o.val s (show Ac G μ _ H (.str x) (.str x) from rfl)
noncomputable def bV:M zw:=λ_ h=>.ok [] h
noncomputable def aN(m:M Dv)(ms:M zw ):M zw:=λρ h=>(m ρ h).bind λd h1=>(ms ρ h1).bind λds h2=>.ok (d::ds) h2
abbrev aD(a:M Dv):M zw:=aN a bV
abbrev bB(a b:M Dv):M zw:=aN a (aN b bV)
abbrev gB(a b c:M Dv):M zw:=aN a (aN b (aN c bV))
abbrev gK(a b c d:M Dv):M zw:=aN a (aN b (aN c (aN d bV)))
theorem oX:dH X G E [] bV:=λ_=>PA.imp jJ λσ H Q⟨μ,ρ,h,rs,s,o⟩=>o.val s RelDL.nil
theorem kH(ha:aB X G E a ma)(hr:dH X G E es aU)(hs:ao (a::es) X.env=(false,eval a X.env)::ao es X.env:=by rfl):dH X G E (a::es) (aN ma aU):=λhK=>PA.imp (iR (ha hK) (hr hK) hs) λσ H Q⟨μ,ρ,h,rs,s,o⟩=>cT rs s o λμ1 d h1 v H1 x1 Ak s1 r1 o1=>kG Ak s1 o1 λμ2 ds h2 vs H2 x2 Bu s2 r2 o2=>o2.val s2 (RelDL.cons (Ac.mono x2 _ _ r1) r2)
theorem aZ{X:Cx}{G:Cfg}{E:XK}{a:ba}{ma:M Dv}(ka:aB X G E a ma)(ha:ao [a] X.env=(false,eval a X.env)::ao [] X.env:=by rfl):dH X G E [a] (aD ma):=kH ka oX ha
theorem dE{X:Cx}{G:Cfg}{E:XK}{a b:ba}{ma mb:M Dv}(ka:aB X G E a ma)(kb:aB X G E b mb)(ha:ao [a,b] X.env=(false,eval a X.env)::ao [b] X.env:=by rfl)(hb:ao [b] X.env=(false,eval b X.env)::ao [] X.env:=by rfl):dH X G E [a,b] (bB ma mb):=kH ka (kH kb oX hb) ha
theorem mD{X:Cx}{G:Cfg}{E:XK}{a b c:ba}{ma mb mc:M Dv}(ka:aB X G E a ma)(kb:aB X G E b mb)(kc:aB X G E c mc)(ha:ao [a,b,c] X.env=(false,eval a X.env)::ao [b,c] X.env:=by rfl)(hb:ao [b,c] X.env=(false,eval b X.env)::ao [c] X.env:=by rfl)(hc:ao [c] X.env=(false,eval c X.env)::ao [] X.env:=by rfl):dH X G E [a,b,c] (gB ma mb mc):=kH ka (kH kb (kH kc oX hc) hb) ha
theorem z4p{X:Cx}{G:Cfg}{E:XK}{a b c d:ba}{ma mb mc md:M Dv}(ka:aB X G E a ma)(kb:aB X G E b mb)(kc:aB X G E c mc)(kd:aB X G E d md)(ha:ao [a,b,c,d] X.env=(false,eval a X.env)::ao [b,c,d] X.env:=by rfl)(hb:ao [b,c,d] X.env=(false,eval b X.env)::ao [c,d] X.env:=by rfl)(hc:ao [c,d] X.env=(false,eval c X.env)::ao [d] X.env:=by rfl)(hd:ao [d] X.env=(false,eval d X.env)::ao [] X.env:=by rfl):dH X G E [a,b,c,d] (gK ma mb mc md):=kH ka (kH kb (kH kc (kH kd oX hd) hc) hb) ha
def bS(ms:M zw ):M Dv:=λρ h=>(ms ρ h).bind λds h1=>lim ds.length (.ok (.tup ds) h1)
theorem iH{k}(h:dH X G E es aU):aB X G E (.Tuple es k pos) (bS aU):=λhK=>PE.imp (RH (h hK)) λσ H Q⟨μ,ρ,h,rs,s,o⟩=>kG rs s o λμ1 ds h1 vs H1 x1 Ak s1 r1 o1=>by
 unfold lim at o1
 split at o1
 ·rename_i hl;refine⟨by rw[r1.length];exact nG hl,λp hp=>?_⟩;exact o1 μ1 _ _ (Ext.same (cJ hp)) (s1.same (cJ hp)) ⟨p,vs,rfl,bP,RelDL.mono (Ext.same (cJ hp)) _ _ r1⟩
 ·exact o1.elim
def bC(ms:M zw ):M Dv:=λρ h=>(ms ρ h).bind λds h1=>lim ds.length (.ok (.ref h1.length) (h1++[.lst ds]))
theorem oY{μ:Nat->ah}{h:Hs}{H:Hp}{ds:zw}{vs:Ez}{Q:VK}{p:ah}(s:Ai G μ h H)(r:RelDL G μ h.length H ds vs)(hp:H p=none)(o:Out G E μ h.length H (.ok (.ref h.length) (h++[.lst ds])) (Ac G) Q):Q (.ref p) (aF H p (.lst vs)):=by obtain⟨x,s'⟩:=s.alloc hp r;exact o _ _ _ x s' ⟨by simp,by show Eo p=Eo (if h.length=h.length then p else μ h.length);rw[if_pos rfl]⟩
theorem oZ(h:dH X G E es aU):aB X G E (.List es pos) (bC aU):=λhK=>PE.imp (RI (h hK)) λσ H Q⟨μ,ρ,h,rs,s,o⟩=>kG rs s o λμ1 ds h1 vs H1 x1 Ak s1 r1 o1=>by
 unfold lim at o1
 split at o1
 ·rename_i hl;exact⟨by rw[r1.length];exact nG hl,λp hp=>oY s1 r1 hp o1⟩
 ·exact o1.elim
noncomputable def m2(f:Dv->Dv->Hs->Rs Dv)(ma mb:M Dv):M Dv:=λρ h=>(ma ρ h).bind λx h1=>(mb ρ h1).bind λy h2=>f x y h2
def eA(G:Cfg)(r:R2)(f:Dv->Dv->Hs->Rs Dv):Prop:=∀(E:XK)(μ:Nat->ah)(h:Hs)(H:Hp)(x y:Dv)(vx vy:V)(Q:VK),Ai G μ h H->Ac G μ h.length H x vx->Ac G μ h.length H y vy->Out G E μ h.length H (f x y h) (Ac G) Q->r vx vy H Q
theorem vU{r:R2}{f:Dv->Dv->Hs->Rs Dv}(hd:eA G r f){σ:St}{H:Hp}{Q:VK}(t:eI G E (m2 f ma mb) σ H Q):sC r (eI G E ma) (eI G E mb) σ H Q:=by obtain⟨μ,ρ,h,rs,s,o⟩:=t;exact cT rs s o λμ1 x h1 vx H1 x1 Ak s1 r1 o1=>cT Ak s1 o1 λμ2 y h2 vy H2 x2 Bu s2 r2 o2=>hd E μ2 h2 H2 x y vx vy Q s2 (Ac.mono x2 _ _ r1) r2 o2
theorem vV{op:Operator}{r:R2}{f:Dv->Dv->Hs->Rs Dv}(ho:Bi X (binaryOp op) r)(hd:eA G r f)(ha:aB X G E a ma)(hb:aB X G E b mb):aB X G E (.BinOp a op b pos) (m2 f ma mb):=λhK=>PE.imp (QE ho (ha hK) (hb hK)) λ_ _ _ t=>vU hd t
theorem sR{op:yr}{r:R2}{f:Dv->Dv->Hs->Rs Dv}(ho:Bi X (compareOp op) r)(hd:eA G r f)(ha:aB X G E a ma)(hb:aB X G E b mb)(hm:behindInMarks op b=false):aB X G E (.Compare a [op] [b] pos) (m2 f ma mb):=λhK=>PE.imp (QO ho (ha hK) (hb hK) hm) λ_ _ _ t=>vU hd t
noncomputable def nI:Dv->Hs->Rs Bool
 |.bl b,h=>.ok b h
 |_,_=>.bad
def mB(m:M Dv):M Bool:=λρ h=>(m ρ h).bind nI
theorem AW{m:M Dv}{σ:St}{H:Hp}{Q:Bool->Hp->Prop}(t:fU G E (mB m) σ H Q):eI G E m σ H λx H'=>∃k,x=.bl k/\Q k H':=by
 obtain⟨μ,ρ,h,rs,s,o⟩:=t;refine cT rs s o λμ1 x h1 vx H1 x1 Ak s1 r1 o1=>?_
 cases x with
 |bl k=>exact⟨k,r1,o1.val s1 rfl⟩
 |_=>exact o1.elim
theorem sT{op:yr}{r:R2}{f:Dv->Dv->Hs->Rs Dv}(ho:Bi X (compareOp op) r)(hd:eA G r f)(ha:aB X G E a ma)(hb:aB X G E b mb)(hm:behindInMarks op b=false):fK X G E (.Compare a [op] [b] pos) (mB (m2 f ma mb)):=λhK=>PT.imp (FO ho (ha hK) (hb hK) hm) λσ H Q t=>vU hd (AW t)
noncomputable def jL(f f':Dv->Dv->Hs->Rs Dv)(ma mb mc:M Dv):M Dv:=λρ h=>(ma ρ h).bind λx h1=>(mb ρ h1).bind λy h2=>(f x y h2).bind λz h3=>match z with
 |.bl true=>(mc ρ h3).bind λw h4=>f' y w h4
 |.bl false=>.ok (.bl false) h3
 |_=>.bad
theorem G7{r r':R2}{f f':Dv->Dv->Hs->Rs Dv}(hd:eA G r f)(hd':eA G r' f'){σ:St}{H:Hp}{Q:VK}(t:eI G E (jL f f' ma mb mc) σ H Q):zX r r' (eI G E ma) (eI G E mb) (eI G E mc) σ H Q:=by
 obtain⟨μ,ρ,h,rs,s,o⟩:=t;refine cT rs s o λμ1 x h1 vx H1 x1 Ak s1 r1 o1=>cT Ak s1 o1 λμ2 y h2 vy H2 x2 Bu s2 r2 o2=>?_;refine hd E μ2 h2 H2 x y vx vy _ s2 (Ac.mono x2 _ _ r1) r2 ((o2.bind (R1:=Ac G)).mono λvz H3⟨μ3,z,h3,x3,s3,r3,o3⟩=>?_)
 cases z with
 |bl k=>
  refine⟨k,r3,?_⟩
  cases k with
  |true=>exact AG (cT (Bu.mono x3) s3 o3 λμ4 w h4 vw H4 x4 rQ s4 r4 o4=>hd' E μ4 h4 H4 y w vy vw Q s4 (Ac.mono (x3.trans x4) _ _ r2) r4 o4)
  |false=>exact AF (o3.val s3 rfl)
 |_=>exact o3.elim
theorem TF{op Dm:yr}{r r':R2}{f f':Dv->Dv->Hs->Rs Dv}(ho:Bi X (compareOp op) r)(Cr:Bi X (compareOp Dm) r')(hd:eA G r f)(hd':eA G r' f')(ha:aB X G E a ma)(hb:aB X G E b mb)(hc:aB X G E c mc)(hm:lastMarks [op,Dm] [b,c]=false:=by with_unfolding_all rfl):aB X G E (.Compare a [op,Dm] [b,c] pos) (jL f f' ma mb mc):=λhK=>
 PE.imp (QP ho Cr (ha hK) (hb hK) (hc hK) hm) λ_ _ _ t=>G7 hd hd' t
theorem TH{op Dm:yr}{r r':R2}{f f':Dv->Dv->Hs->Rs Dv}(ho:Bi X (compareOp op) r)(Cr:Bi X (compareOp Dm) r')(hd:eA G r f)(hd':eA G r' f')(ha:aB X G E a ma)(hb:aB X G E b mb)(hc:aB X G E c mc)(hm:lastMarks [op,Dm] [b,c]=false:=by with_unfolding_all rfl):fK X G E (.Compare a [op,Dm] [b,c] pos) (mB (jL f f' ma mb mc)):=λhK=>
 PT.imp (QQ ho Cr (ha hK) (hb hK) (hc hK) hm) λσ H Q t=>G7 hd hd' (AW t)
def iT(G:Cfg)(r:V->Hp->VK->Prop)(f:Dv->Hs->Rs Dv):Prop:=∀(E:XK)(μ:Nat->ah)(h:Hs)(H:Hp)(x:Dv)(vx:V)(Q:VK),Ai G μ h H->Ac G μ h.length H x vx->Out G E μ h.length H (f x h) (Ac G) Q->r vx H Q
noncomputable def m1(f:Dv->Hs->Rs Dv)(ma:M Dv):M Dv:=λρ h=>(ma ρ h).bind f
theorem TJ{op:UnaryOp}{r:V->Hp->VK->Prop}{f:Dv->Hs->Rs Dv}(ho:vF X (unaryOp op) r)(hd:iT G r f)(ha:aB X G E a ma):aB X G E (.UnaryOp op a pos) (m1 f ma):=λhK=>PE.imp (QF ho (ha hK)) λσ H Q⟨μ,ρ,h,rs,s,o⟩=>cT rs s o λμ1 x h1 vx H1 x1 Ak s1 r1 o1=>hd E μ1 h1 H1 x vx Q s1 r1 o1
variable{tA tB':M Bool}{rest:List ba}
noncomputable def dS(t u:M Bool):M Bool:=λρ h=>(t ρ h).bind λc h1=>if c=true then u ρ h1 else .ok false h1
noncomputable def lJ(t u:M Bool):M Bool:=λρ h=>(t ρ h).bind λc h1=>if c=true then .ok true h1 else u ρ h1
noncomputable def dI(t:M Bool):M Bool:=λρ h=>(t ρ h).bind λc h1=>.ok (!c) h1
def Be(X:Cx)(G:Cfg)(E:XK)(pe:ba)(m:M Bool):Prop:=X.K=G.K->PW X pe (fU G E m)
theorem Be.t{pe:ba}{m:M Bool}(h:Be X G E pe m):fK X G E pe m:=λhK=>(h hK).pt
theorem PW.imp{e:ba}{t t':TT}(h:PW X e t)(i:∀σ H Q,t' σ H Q->t σ H Q):PW X e t':=λwh pins s σ H Q I q=>h wh pins s σ H Q I (i σ H Q q)
theorem pA(ha:fK X G E a tA):Be X G E (.BoolOp .And [a] pos) tA:=λhK=>OW (ha hK)
theorem qK(ha:fK X G E a tA):Be X G E (.BoolOp .Or [a] pos) tA:=λhK=>OX (ha hK)
theorem TK{σ:St}{H:Hp}{Q:Bool->Hp->Prop}(t:fU G E (dS tA tB') σ H Q):FC (fU G E tA) (fU G E tB') σ H Q:=by
 obtain⟨μ,ρ,h,rs,s,o⟩:=t;refine AV rs s o λμ1 k h1 H1 x1 Ak s1 o1=>?_
 cases k with
 |true=>rw[if_pos rfl]at o1⊢;exact⟨μ1,ρ,h1,Ak,s1,o1⟩
 |false=>rw[if_neg (by decide)]at o1⊢;exact o1.val s1 rfl
theorem TL{σ:St}{H:Hp}{Q:Bool->Hp->Prop}(t:fU G E (lJ tA tB') σ H Q):FD (fU G E tA) (fU G E tB') σ H Q:=by
 obtain⟨μ,ρ,h,rs,s,o⟩:=t;refine AV rs s o λμ1 k h1 H1 x1 Ak s1 o1=>?_
 cases k with
 |false=>rw[if_neg (by decide)]at o1⊢;exact⟨μ1,ρ,h1,Ak,s1,o1⟩
 |true=>rw[if_pos rfl]at o1⊢;exact o1.val s1 rfl
theorem nJ(ha:fK X G E a tA)(hb:Be X G E (.BoolOp .And (b::rest) pos) tB'):Be X G E (.BoolOp .And (a::b::rest) pos) (dS tA tB'):=λhK=>PW.imp (OY (ha hK) (hb hK)) λ_ _ _ t=>TK t
theorem pB(ha:fK X G E a tA)(hb:Be X G E (.BoolOp .Or (b::rest) pos) tB'):Be X G E (.BoolOp .Or (a::b::rest) pos) (lJ tA tB'):=λhK=>PW.imp (OZ (ha hK) (hb hK)) λ_ _ _ t=>TL t
theorem gC(ha:fK X G E a tA):fK X G E (.UnaryOp .Not a pos) (dI tA):=λhK=>PT.imp (O0 (ha hK)) λσ H Q⟨μ,ρ,h,rs,s,o⟩=>AV rs s o λμ1 k h1 H1 x1 Ak s1 o1=>o1.val s1 rfl
noncomputable def eV(m u:M Dv):M Dv:=λρ h=>(m ρ h).bind λd h1=>match d with
 |.bl true=>u ρ h1
 |.bl false=>.ok (.bl false) h1
 |_=>.bad
noncomputable def sU:Dv->Hs->Rs Dv
 |.bl b,h=>.ok (.bl (!b)) h
 |_,_=>.bad
theorem pC{op}{m:M Dv}(h:aB X G E a m):aB X G E (.BoolOp op [a] pos) m:=λhK=>O3 (h hK)
theorem pD(ha:aB X G E a ma)(hb:aB X G E (.BoolOp .And (b::rest) pos) mb):aB X G E (.BoolOp .And (a::b::rest) pos) (eV ma mb):=λhK=>PE.imp (O4 (ha hK) (hb hK)) λσ H Q⟨μ,ρ,h,rs,s,o⟩=>
 cT rs s o λμ1 x h1 vx H1 x1 Ak s1 r1 o1=>by
  cases x with
  |bl k=>
   refine⟨k,r1,?_⟩
   cases k with
   |true=>exact AG ⟨μ1,ρ,h1,Ak,s1,o1⟩
   |false=>exact AF (o1.val s1 rfl)
  |_=>exact o1.elim
theorem G8(ha:aB X G E a ma):aB X G E (.UnaryOp .Not a pos) (m1 sU ma):=λhK=>PE.imp (O5 (ha hK)) λσ H Q⟨μ,ρ,h,rs,s,o⟩=>
 cT rs s o λμ1 x h1 vx H1 x1 Ak s1 r1 o1=>by
  cases x with
  |bl k=>exact⟨k,r1,o1.val s1 rfl⟩
  |_=>exact o1.elim
def nK:Dv->Hs->Rs Bool
 |.non,h=>.ok false h
 |.bl b,h=>.ok b h
 |.int i,h=>.ok (i !=0) h
 |.tup xs,h=>.ok (!xs.isEmpty) h
 |.ref i,h=>match getL h i with
  |some xs=>.ok (!xs.isEmpty) h
  |none=>.bad
 |_,_=>.bad
def bZ(m:M Dv):M Bool:=λρ h=>(m ρ h).bind nK
theorem G9{μ:Nat->ah}{n:Nat}{H:Hp}{ds:zw}{vs:Ez}(r:RelDL G μ n H ds vs):vs.isEmpty=ds.isEmpty:=by
 have:=r.length
 cases ds<;>cases vs<;>simp_all
theorem fA(ha:aB X G E a ma)(he:∀whole,isTrue a X.env whole=(do let v <-whole;standAt a.pos;holding [v] (truthy v)):=by intro _;rfl):fK X G E a (bZ ma):=λhK=>PT.imp (QS (ha hK) he) λσ H Q⟨μ,ρ,h,rs,s,o⟩=>
 cT rs s o λμ1 x h1 vx H1 x1 Ak s1 r1 o1=>by
  cases x with
  |non=>rw[Ac]at r1;subst r1;exact⟨_,rfl,o1.val s1 rfl⟩
  |bl k=>rw[Ac]at r1;subst r1;exact⟨_,rfl,o1.val s1 rfl⟩
  |int i=>rw[Ac]at r1;subst r1;exact⟨_,rfl,o1.val s1 rfl⟩
  |tup ds=>obtain⟨p,vs,rfl,e,r⟩:=r1;exact⟨_,.inr (.inl ⟨vs,Ek e,rfl⟩),by rw[G9 r];exact o1.val s1 rfl⟩
  |ref i=>
   obtain⟨hi,rfl⟩:=r1;dsimp only[nK]at o1
   cases q:getL h1 i with
   |none=>rw[q]at o1;exact o1.elim
   |some xs=>obtain⟨vs,e,r⟩:=s1.ob i _ (eL q);rw[q]at o1;exact⟨_,.inl ⟨vs,Em e,rfl⟩,by rw[G9 r];exact o1.val s1 rfl⟩
  |_=>exact o1.elim
end
end L2.Mr
open L2.Mr.Dv renaming str->Dy,int->Dz,bl->Ep,tup->Ew
open L2.Mr.Ob renaming lst->Ea
open L2.Mr.RelDL renaming mono->Eb,nil->Eh,cons->Ei
open L2.Mr.Ext renaming same->Ed,refl->Ej
open L2.Mr.PE renaming imp->Eg
open L2.Mr.Ac renaming mono->El
open L2.Mr.Rs renaming ok->En
open L2.Mr.Be renaming t->Er
namespace L2
section
variable{Pg:bg}{w:bu}{P:ah->Prop}{H:Hp}{s:ag}
theorem TM(hok:Az Pg w H s.heap)(n:Nat)(A:bq)(d d':Dt)(v v':V)(u u':af)(hn:dZ d<=n)(hu:A.units+n+1<cLine)(n1:cI d=true)(n2:cI d'=true)(h:Den P H d v)(h':Den P H d' v')(r:RelV v u)(r':RelV v' u'):
  SeqAt.RcNeAt A s u u' (!bH d d'):=by
 have As:A.units<cLine:=by lia
 have Dq:1<=n->∀(d d':Dt)(u u':af),dZ d<=n-1->cI d=true->cI d'=true->Vw P H s d u->Vw P H s d' u'->kn A.in1 s u u' (bH d d'):=λhd d d' u u' a b c e f=>(AS hok (n-1) A.in1 d d' u u' a (by show A.units+1+(n-1)+1<cLine;lia) b c e f).2;have k:=vw hok n1 h r;have k':=vw hok n2 h' r'
 clear h h' r r'
 cases k<;>cases k'
 case tup.tup ds a1 vs1 its1 e1 g1 q1 tp1 Bs a2 vs2 Bz e2 g2 q2 tp2=>
  rw[cI]at n1 n2;rw[dZ]at hn;have hl1:=g1.length;have hl2:=g2.length;have hq1:=q1.length;have hq2:=q2.length;rw[bH];have z:=SeqAt.RcNeAt.tuples (e:=λj=>bH (ds.getD j .non) (Bs.getD j .non)) tp1 tp2 As (vS hok (Dq (by lia)) (by lia) n1 n2 g1 g2 q1 q2);have s1:its1.toArray.size=ds.length:=by simp;lia
  have s2:Bz.toArray.size=Bs.length:=by simp;lia
  rw[s1,s2]at z
  by_cases hlen:ds.length=Bs.length
  ·rw[sO hlen];rw[<-hlen,yw]at z;simpa using z
  ·rw[sP hlen];rw[show(ds.length==Bs.length)=false from beq_eq_false_iff_ne.mpr hlen,wx]at z;exact z
 case lst.lst ds a1 vs1 its1 e1 g1 q1 tp1 Bs a2 vs2 Bz e2 g2 q2 tp2=>
  rw[cI]at n1 n2;rw[dZ]at hn;have hl1:=g1.length;have hl2:=g2.length;have hq1:=q1.length;have hq2:=q2.length;rw[bH]
  by_cases hlen:ds.length=Bs.length
  ·have z:=SeqAt.RcNeAt.lists (e:=λj=>bH (ds.getD j .non) (Bs.getD j .non)) tp1 tp2 (by simp;lia) As (vS hok (Dq (by lia)) (by lia) n1 n2 g1 g2 q1 q2);rw[sO hlen];simpa[hq1.symm,hl1]using z
  ·rw[sP hlen];exact SeqAt.RcNeAt.lists_lengths tp1 tp2 (by simp;lia) As
 case non.non=>exact .none_none
 case non.bl=>exact .none_bool _
 case non.int=>exact .none_int _ _
 case non.str=>exact .none_str _ _
 case non.tup=>exact .none_tuple ‹_› As
 case non.lst=>exact .none_list ‹_› As
 case bl.non=>exact .bool_none _
 case bl.bl=>exact .bool_bool _ _
 case bl.int=>exact .bool_int _ _ _
 case bl.str=>exact .bool_str _ _ _
 case bl.tup=>exact .bool_tuple _ ‹_› As
 case bl.lst=>exact .bool_list _ ‹_› As
 case int.non=>exact .int_none _ _
 case int.bl=>exact .int_bool _ _ _
 case int.int=>exact .int_int _ _ _ _
 case int.str=>exact .int_str _ _ _ _
 case int.tup=>exact .int_tuple _ _ ‹_› As
 case int.lst=>exact .int_list _ _ ‹_› As
 case str.non=>exact .str_none _ _
 case str.bl=>exact .str_bool _ _ _
 case str.int=>exact .str_int _ _ _ _
 case str.str=>exact .str_str _ _ _ _
 case str.tup=>exact .str_tuple _ _ ‹_› As
 case str.lst=>exact .str_list _ _ ‹_› As
 case tup.non=>exact .tuple_none ‹_› As
 case tup.bl=>exact .tuple_bool _ ‹_› As
 case tup.int=>exact .tuple_int _ _ ‹_› As
 case tup.str=>exact .tuple_str _ _ ‹_› As
 case tup.lst=>exact .tuple_list ‹_› ‹_› As
 case lst.non=>exact .list_none ‹_› As
 case lst.bl=>exact .list_bool _ ‹_› As
 case lst.int=>exact .list_int _ _ ‹_› As
 case lst.str=>exact .list_str _ _ ‹_› As
 case lst.tup=>exact .list_tuple ‹_› ‹_› As
end
end L2
namespace L2.Mr
noncomputable def aW{α β:Type}(f:α->Option β):List α->Option (List β)
 |[]=>some []
 |x::xs=>match f x with
  |none=>none
  |some y=>match aW f xs with
   |none=>none
   |some ys=>some (y::ys)
def cU:Nat->Hs->Dv->Option Dt
 |0,_,_=>none
 |k+1,h,d=>match d with
  |.non=>some .non
  |.bl b=>some (.bl b)
  |.int i=>some (.int i)
  |.str x=>some (.str x)
  |.tup xs=>match aW (cU k h) xs with
   |some ts=>some (.tup ts)
   |none=>none
  |.ref i=>match getL h i with
   |some xs=>match aW (cU k h) xs with
    |some ts=>some (.lst ts)
    |none=>none
   |none=>none
  |_=>none
abbrev jM:ah->Prop:=λ_=>True
section
variable{G:Cfg}{μ:Nat->ah}{h:Hs}{H:Hp}
theorem qL(s:Ai G μ h H):∀(k:Nat)(d:Dv)(v:V)(t:Dt),Ac G μ h.length H d v->cU k h d=some t->Den jM H t v/\dZ t<=k/\cI t=true:=by
 intro k
 induction k with
 |zero=>intro d v t _ e;cases e
 |succ k ih=>
  have il:∀(xs:zw)(vs:Ez)(ts:List Dt),RelDL G μ h.length H xs vs->aW (cU k h) xs=some ts->Aj jM H ts vs/\lZ ts<=k/\kF ts=true:=by
   intro xs
   induction xs with
   |nil=>intro vs ts r e;cases e;rw[RelDL]at r;subst r;exact⟨Aj.nil,by simp[lZ],rfl⟩
   |cons x xs ihx=>
    intro vs ts r e;rw[RelDL]at r;obtain⟨v,rr,rfl,r1,r2⟩:=r;unfold aW at e
    cases q:cU k h x with
    |none=>rw[q]at e;cases e
    |some y=>
     rw[q]at e;dsimp only at e
     cases q2:aW (cU k h) xs with
     |none=>rw[q2]at e;cases e
     |some ys=>rw[q2]at e;cases e;obtain⟨a1,a2,a3⟩:=ih x v y r1 q;obtain⟨b1,b2,b3⟩:=ihx rr ys r2 q2;exact⟨Aj.cons a1 b1,by rw[lZ];lia,by rw[kF,a3,b3];rfl⟩
  intro d v t r e;unfold cU at e
  cases d with
  |non=>cases e;rw[Ac]at r;subst r;exact⟨by rw[Den],by simp[dZ],rfl⟩
  |bl b=>cases e;rw[Ac]at r;subst r;exact⟨by rw[Den],by simp[dZ],rfl⟩
  |int b=>cases e;rw[Ac]at r;subst r;exact⟨by rw[Den],by simp[dZ],rfl⟩
  |str b=>cases e;rw[Ac]at r;subst r;exact⟨by rw[Den],by simp[dZ],rfl⟩
  |tup xs=>
   dsimp only at e
   cases q:aW (cU k h) xs with
   |none=>rw[q]at e;cases e
   |some ts=>rw[q]at e;cases e;obtain⟨a,vs,rfl,e1,r1⟩:=r;obtain⟨b1,b2,b3⟩:=il xs vs ts r1 q;exact⟨by rw[Den];exact⟨a,vs,rfl,e1,b1⟩,by rw[dZ];lia,by rw[cI];exact b3⟩
  |ref i=>
   dsimp only at e
   cases g:getL h i with
   |none=>rw[g]at e;cases e
   |some xs=>
    rw[g]at e;dsimp only at e
    cases q:aW (cU k h) xs with
    |none=>rw[q]at e;cases e
    |some ts=>rw[q]at e;cases e;obtain⟨hi,rfl⟩:=r;obtain⟨vs,e1,r1⟩:=s.ob i _ (eL g);obtain⟨b1,b2,b3⟩:=il xs vs ts r1 q;exact⟨by rw[Den];exact⟨_,vs,rfl,trivial,e1,b1⟩,by rw[dZ];lia,by rw[cI];exact b3⟩
  |edc=>cases e
  |exc c=>cases e
  |scr=>cases e
end
noncomputable def cY:Nat:=30
def cO(x y:Dv)(h:Hs):Rs Dv:=match cU cY h x,cU cY h y with
 |some s,some t=>.ok (.bl (bH s t)) h
 |_,_=>.bad
def dU(x y:Dv)(h:Hs):Rs Dv:=match cU cY h x,cU cY h y with
 |some s,some t=>.ok (.bl (!bH s t)) h
 |_,_=>.bad
def vW(neg:Bool):R2:=λx y H Q=>∃t t',Den jM H t x/\Den jM H t' y/\dZ t<=cY/\cI t=true/\cI t'=true/\Q (.bl (if neg then !bH t t' else bH t t')) H
section
variable{X:Cx}{G:Cfg}
theorem HA(hu:X.A.units+64<cLine):Bi X (compareOp .Eq) (vW false):=by intro pins s σ H x y v u Q I r1 r2 ⟨t,t',d,d',hd,n1,n2,q⟩;exact EqBoolInt.of_rc (G4 I.hok cY X.A t t' x y v u hd (by unfold cY;lia) n1 n2 d d' r1 r2).1 ⟨.bl _,H,I,rfl,q⟩
theorem HB(hu:X.A.units+64<cLine):Bi X (compareOp .NotEq) (vW true):=by intro pins s σ H x y v u Q I r1 r2 ⟨t,t',d,d',hd,n1,n2,q⟩;exact EqBoolInt.of_rcne (TM I.hok cY X.A t t' x y v u hd (by unfold cY;lia) n1 n2 d d' r1 r2) ⟨.bl _,H,I,rfl,q⟩
theorem HC:eA G (vW false) cO:=by
 intro E μ h H x y vx vy Q s rx ry o;unfold cO at o
 split at o
 ·rename_i t t' e e';obtain⟨a1,a2,a3⟩:=qL s _ x vx t rx e;obtain⟨b1,b2,b3⟩:=qL s _ y vy t' ry e';exact⟨t,t',a1,b1,a2,a3,b3,o.val s rfl⟩
 ·exact o.elim
theorem HD:eA G (vW true) dU:=by
 intro E μ h H x y vx vy Q s rx ry o;unfold dU at o
 split at o
 ·rename_i t t' e e';obtain⟨a1,a2,a3⟩:=qL s _ x vx t rx e;obtain⟨b1,b2,b3⟩:=qL s _ y vy t' ry e';exact⟨t,t',a1,b1,a2,a3,b3,o.val s rfl⟩
 ·exact o.elim
end
noncomputable def pE(g:Int->Int->Dv):Dv->Dv->Hs->Rs Dv
 |.int i,.int j,h=>.ok (g i j) h
 |_,_,_=>.bad
noncomputable def AX(C:Int->Int->Bool)(g:Int->Int->Dv):Dv->Dv->Hs->Rs Dv
 |.int i,.int j,h=>if C i j=true then .ok (g i j) h else .bad
 |_,_,_=>.bad
section
variable{X:Cx}{G:Cfg}
theorem TN{f:Int->Int->Int}:eA G (lE λi j=>.int (f i j)) (pE λi j=>.int (f i j)):=by
 intro E μ h H x y vx vy Q s rx ry o
 cases x with
 |int i=>
  cases y with
  |int j=>exact⟨i,j,rx,ry,o.val s rfl⟩
  |_=>exact o.elim
 |_=>exact o.elim
theorem sW{f:Int->Int->Bool}:eA G (lE λi j=>.bl (f i j)) (pE λi j=>.bl (f i j)):=by
 intro E μ h H x y vx vy Q s rx ry o
 cases x with
 |int i=>
  cases y with
  |int j=>exact⟨i,j,rx,ry,o.val s rfl⟩
  |_=>exact o.elim
 |_=>exact o.elim
theorem TQ{C:Int->Int->Prop}{B:Int->Int->Bool}{f:Int->Int->Int}(hB:∀i j,B i j=true->C i j):eA G (rI C λi j=>.int (f i j)) (AX B λi j=>.int (f i j)):=by
 intro E μ h H x y vx vy Q s rx ry o
 cases x with
 |int i=>
  cases y with
  |int j=>
   dsimp only[AX]at o
   split at o
   ·rename_i hb;exact⟨i,j,rx,ry,hB i j hb,o.val s rfl⟩
   ·exact o.elim
  |_=>exact o.elim
 |_=>exact o.elim
noncomputable def sX(i:Int):Bool:=decide (-18446744073709551616<i)&&decide (i<18446744073709551616)
noncomputable def pF(_ j:Int):Bool:=decide (0<j)
theorem TR(i j:Int)(h:pF i j=true):0<j:=by unfold pF at h;simpa using h
def qM:Dv->Dv->Hs->Rs Dv
 |.int i,.int j,h=>.ok (.int (i+j)) h
 |.ref i,.ref j,h=>match getL h i,getL h j with
  |some xs,some ys=>lim (xs.length+ys.length) (.ok (.ref h.length) (h++[.lst (xs++ys)]))
  |_,_=>.bad
 |.tup xs,.tup ys,h=>if xs.isEmpty=true then .bad else lim (xs.length+ys.length) (.ok (.tup (xs++ys)) h)
 |_,_,_=>.bad
def AY(K:ak):R2:=λx y H Q=>(lE λi j=>.int (i+j)) x y H Q∨GK x y H Q∨GB K x y H Q
theorem TU:Bi X (binaryOp .Add) (AY X.K):=op_add.or (op_cat.or SD)
theorem TV:eA G (AY G.K) qM:=by
 intro E μ h H x y vx vy Q s rx ry o
 cases x with
 |int i=>
  cases y with
  |int j=>exact .inl ⟨i,j,rx,ry,o.val s rfl⟩
  |_=>exact o.elim
 |ref i=>
  cases y with
  |ref j=>
   dsimp only[qM]at o
   cases g1:getL h i with
   |none=>rw[g1]at o;exact o.elim
   |some xs=>
    cases g2:getL h j with
    |none=>rw[g1,g2]at o;exact o.elim
    |some ys=>
     rw[g1,g2]at o;dsimp only at o;unfold lim at o
     split at o
     ·rename_i hl;obtain⟨vs,e1,r1⟩:=s.ob i _ (eL g1);obtain⟨ws,e2,r2⟩:=s.ob j _ (eL g2);obtain⟨_,rfl⟩:=rx;obtain⟨_,rfl⟩:=ry;exact .inr (.inl ⟨_,_,vs,ws,rfl,rfl,e1,e2,by rw[r1.length,r2.length];exact nG hl,λp hp=>oY s (r1.append r2) hp o⟩)
     ·exact o.elim
  |_=>exact o.elim
 |tup xs=>
  cases y with
  |tup ys=>
   dsimp only[qM]at o
   split at o
   ·exact o.elim
   ·rename_i hne;unfold lim at o
    split at o
    ·rename_i hl;obtain⟨a,vs,rfl,e1,r1⟩:=rx;obtain⟨b,ws,rfl,e2,r2⟩:=ry;refine .inr (.inr ⟨a,b,vs,ws,rfl,rfl,Ek e1,Ek e2,?_,by rw[r1.length,r2.length];exact nG hl,λz=>?_,λ_ p hp=>?_⟩)
     ·intro z;subst z;have:=r1.length
      cases xs<;>simp_all
     ·subst z;have e3:ys=[]:=by have:=r2.length;cases ys<;>simp_all
      subst e3;refine o.val s ?_;rw[jz];exact⟨a,vs,rfl,e1,r1⟩
     ·exact o μ _ _ (Ed (cJ hp)) (s.same (cJ hp)) ⟨p,_,rfl,bP,Eb (Ed (cJ hp)) _ _ (r1.append r2)⟩
    ·exact o.elim
  |_=>exact o.elim
 |_=>exact o.elim
def qN(xs:zw)(i:Int)(h:Hs):Rs Dv:=match kE xs i with
 |some d=>.ok d h
 |none=>.bad
def qO(scr:zr):Dv->Dv->Hs->Rs Dv
 |.tup xs,.int i,h=>qN xs i h
 |.ref k,.int i,h=>match getL h k with
  |some xs=>qN xs i h
  |none=>.bad
 |.scr,.int i,h=>qN (scr.map Dz) i h
 |_,_,_=>.bad
theorem vX{μ:Nat->ah}{n:Nat}{H:Hp}:∀ns:zr,RelDL G μ n H (ns.map Dz) (ns.map Ef)
 |[]=>Eh
 |i::ns=>Ei rfl (vX ns)
theorem AZ{E:XK}{μ:Nat->ah}{h:Hs}{H:Hp}{xs:zw}{vs:Ez}{i:Int}{Q:VK}(s:Ai G μ h H)(r:RelDL G μ h.length H xs vs)(o:Out G E μ h.length H (qN xs i h) (Ac G) Q):∃v,kE vs i=some v/\Q v H:=by
 unfold qN at o
 cases e:kE xs i with
 |none=>rw[e]at o;exact o.elim
 |some d=>
  rw[e]at o;unfold kE at e⊢;rw[r.length]
  cases q:oU xs.length i with
  |none=>rw[q]at e;cases e
  |some j=>rw[q]at e;obtain⟨v,e1,r1⟩:=r.get e;exact⟨v,e1,o.val s r1⟩
theorem TX:eA G (AE G.K) (qO G.scr):=by
 intro E μ h H x y vx vy Q s rx ry o
 cases y with
 |int i=>
  cases x with
  |tup xs=>obtain⟨a,vs,rfl,e1,r1⟩:=rx;obtain⟨v,e2,q⟩:=AZ s r1 o;exact .inr (.inl ⟨a,vs,i,v,rfl,ry,Ek e1,e2,q⟩)
  |ref k=>
   dsimp only[qO]at o
   cases g:getL h k with
   |none=>rw[g]at o;exact o.elim
   |some xs=>rw[g]at o;obtain⟨vs,e1,r1⟩:=s.ob k _ (eL g);obtain⟨_,rfl⟩:=rx;obtain⟨v,e2,q⟩:=AZ s r1 o;exact .inl ⟨_,vs,i,v,rfl,ry,Em e1,e2,q⟩
  |scr=>obtain⟨rfl,hf⟩:=rx;obtain⟨v,e2,q⟩:=AZ s (vX G.scr) o;exact .inl ⟨_,_,i,v,rfl,ry,hf.sq,e2,q⟩
  |_=>exact o.elim
 |_=>cases x<;>exact o.elim
theorem TY:cx "abs"=some (.builtin "abs"):=by decide+kernel
theorem HE:cx "tuple"=some (.type "tuple"):=by decide+kernel
theorem HF:cx "list"=some (.type "list"):=by decide+kernel
theorem TZ:cx "max"=some (.builtin "max"):=by decide+kernel
theorem T3:cx "min"=some (.builtin "min"):=by decide+kernel
variable{E:XK}{aU:M zw}{e:ba}{es:List ba}{x:Str}{p pos:Pos}{id T:String}
def vY(G:Cfg)(r:Ez->Hp->VK->Prop)(f:zv):Prop:=∀(E:XK)(μ:Nat->ah)(h:Hs)(H:Hp)(xs:zw)(vs:Ez)(Q:VK),Ai G μ h H->RelDL G μ h.length H xs vs->Out G E μ h.length H (f xs h) (Ac G) Q->r vs H Q
noncomputable def aE(f:zv)(ms:M zw ):M Dv:=λρ h=>(ms ρ h).bind f
theorem HG{r:Ez->Hp->VK->Prop}{f:zv}(hd:vY G r f){σ:St}{H:Hp}{Q:VK}(t:eI G E (aE f aU) σ H Q):vK r (vT G E aU) σ H Q:=by obtain⟨μ,ρ,h,rs,s,o⟩:=t;exact kG rs s o λμ1 ds h1 vs H1 x1 Ak s1 r1 o1=>hd E μ1 h1 H1 ds vs Q s1 r1 o1
theorem sY{r:Ez->Hp->VK->Prop}{f:zv}(hc:Am X (.builtin id) r)(hd:vY G r f)(hg:Gl X x)(hm:X.mg x=none)(hv:cx x=some (.builtin id))(ha:dH X G E (e::es) aU)(hn:x≠"__name__":=by decide)(Cd:(x==Ey)=false:=by decide)(he:ao (e::es) X.env=(false,eval e X.env)::ao es X.env:=by rfl)(Bc:(backTo pos (ao es X.env)).any (·.1)=false:=by rfl):aB X G E (.Call (.Name x p) (e::es) [] pos) (aE f aU):=λhK=>
 Eg (vL hc hg hm hv (ha hK) hn Cd he Bc) λ_ _ _ t=>HG hd t
theorem A0{r:Ez->Hp->VK->Prop}{f:zv}(hc:Am X (.type T) r)(hd:vY G r f)(hg:Gl X x)(hm:X.mg x=none)(hv:cx x=some (.type T))(ha:dH X G E (e::es) aU)(hn:x≠"__name__":=by decide)(Cd:(x==Ey)=false:=by decide)(he:ao (e::es) X.env=(false,eval e X.env)::ao es X.env:=by rfl)(Bc:(backTo pos (ao es X.env)).any (·.1)=false:=by rfl):aB X G E (.Call (.Name x p) (e::es) [] pos) (aE f aU):=λhK=>
 Eg (F3 hc hg hm hv (ha hK) hn Cd he Bc) λ_ _ _ t=>HG hd t
def gX(scr:zr):Dv->Hs->Option zw 
 |.tup xs,_=>some xs
 |.ref i,h=>getL h i
 |.scr,_=>some (scr.map Dz)
 |_,_=>none
noncomputable def f1(g:Dv->Hs->Rs Dv):zv
 |[d],h=>g d h
 |_,_=>.bad
def lK(scr:zr)(d:Dv)(h:Hs):Rs Dv:=match gX scr d h with
 |some xs=>.ok (.int xs.length) h
 |none=>.bad
theorem vZ{μ:Nat->ah}{n:Nat}{H:Hp}{d:Dv}{vs:Ez}(r:RelDL G μ n H [d] vs):∃v,vs=[v]/\Ac G μ n H d v:=by rw[RelDL]at r;obtain⟨v,rr,rfl,h1,h2⟩:=r;rw[RelDL]at h2;subst h2;exact⟨v,rfl,h1⟩
theorem nL{r:V->Hp->VK->Prop}{g:Dv->Hs->Rs Dv}(hg:iT G r g):vY G (λxs H Q=>∃v,xs=[v]/\r v H Q) (f1 g):=by
 intro E μ h H xs vs Q s rr o
 match xs,rr,o with
 |[],_,o=>exact o.elim
 |_::_::_,_,o=>exact o.elim
 |[d],rr,o=>obtain⟨v,rfl,r1⟩:=vZ rr;exact⟨v,rfl,hg E μ h H d v Q s r1 o⟩
theorem HH{μ:Nat->ah}{n:Nat}{H:Hp}{d d':Dv}{vs:Ez}(r:RelDL G μ n H [d,d'] vs):∃v v',vs=[v,v']/\Ac G μ n H d v/\Ac G μ n H d' v':=by rw[RelDL]at r;obtain⟨v,rr,rfl,h1,h2⟩:=r;obtain⟨v',rfl,h3⟩:=vZ h2;exact⟨v,v',rfl,h1,h3⟩
theorem A1{μ:Nat->ah}{h:Hs}{H:Hp}{d:Dv}{v:V}{xs:zw}(s:Ai G μ h H)(r:Ac G μ h.length H d v)(e:gX G.scr d h=some xs):∃a vs,v=.ref a/\(Bb G.K H a vs∨Ap G.K H a vs)/\RelDL G μ h.length H xs vs:=by
 cases d with
 |tup ds=>cases e;obtain⟨a,vs,rfl,e1,r1⟩:=r;exact⟨a,vs,rfl,.inr (Ek e1),r1⟩
 |ref i=>obtain⟨_,rfl⟩:=r;obtain⟨vs,e1,r1⟩:=s.ob i _ (eL e);exact⟨_,vs,rfl,.inl (Em e1),r1⟩
 |scr=>cases e;obtain⟨rfl,hf⟩:=r;exact⟨_,_,rfl,.inl hf.sq,vX _⟩
 |_=>cases e
def HI(K:ak):V->Hp->VK->Prop:=λx H Q=>∃p ys,x=.ref p/\(Bb K H p ys∨Ap K H p ys)/\Q (.int ys.length) H
theorem T4:iT G (HI G.K) (lK G.scr):=by
 intro E μ h H d v Q s r1 o;unfold lK at o
 cases e:gX G.scr d h with
 |none=>rw[e]at o;exact o.elim
 |some ys=>rw[e]at o;obtain⟨a,ws,rfl,hs,r2⟩:=A1 s r1 e;exact⟨a,ws,rfl,hs,by rw[r2.length];exact o.val s rfl⟩
theorem Am.imp{f:af}{r r':Ez->Hp->VK->Prop}(h:Am X f r)(i:∀xs H Q,r' xs H Q->r xs H Q):Am X f r':=λpins s σ H xs us Q I rv q=>h pins s σ H xs us Q I rv (i xs H Q q)
noncomputable def pG:Dv->Hs->Rs Dv
 |.int i,h=>.ok (.int (if i<0 then -i else i)) h
 |_,_=>.bad
theorem T5:iT G (λx H Q=>∃i,x=.int i/\Q (.int (if i<0 then -i else i)) H) pG:=by
 intro E μ h H d v Q s r1 o
 cases d with
 |int i=>rw[Ac]at r1;subst r1;exact⟨i,rfl,o.val s rfl⟩
 |_=>exact o.elim
theorem T6(hg:Gl X "abs")(hm:X.mg "abs"=none)(ha:dH X G E (e::es) aU)(he:ao (e::es) X.env=(false,eval e X.env)::ao es X.env:=by rfl)(Bc:(backTo pos (ao es X.env)).any (·.1)=false:=by rfl):aB X G E (.Call (.Name "abs" p) (e::es) [] pos) (aE (f1 pG) aU):=
 sY (Am.imp (QU (X:=X)) λxs H Q⟨v,h1,i,h2,h3⟩=>⟨i,by rw[h1,h2],h3⟩) (nL T5) hg hm TY ha (by decide) (by decide) he Bc
def qP:Dv->Hs->Rs Dv
 |.tup xs,h=>.ok (.tup xs) h
 |.ref i,h=>match getL h i with
  |some xs=>.ok (.tup xs) h
  |none=>.bad
 |_,_=>.bad
def T7(K:ak):V->Hp->VK->Prop:=λx H Q=>∃p ys,x=.ref p/\((Bb K H p ys/\∀l,H l=none->Q (.ref l) (aF H l (.tup ys)))∨(Ap K H p ys/\Q (.ref p) H))
theorem T9:iT G (T7 G.K) qP:=by
 intro E μ h H d v Q s r1 o
 cases d with
 |tup ds=>have r1':=r1;obtain⟨a,ws,rfl,e1,r2⟩:=r1;exact⟨a,ws,rfl,.inr ⟨Ek e1,o.val s r1'⟩⟩
 |ref i=>
  dsimp only[qP]at o
  cases g:getL h i with
  |none=>rw[g]at o;exact o.elim
  |some ys=>rw[g]at o;obtain⟨_,rfl⟩:=r1;obtain⟨ws,e1,r2⟩:=s.ob i _ (eL g);exact⟨_,ws,rfl,.inl ⟨Em e1,λl hl=>o μ _ _ (Ed (cJ hl)) (s.same (cJ hl)) ⟨l,ws,rfl,bP,Eb (Ed (cJ hl)) _ _ r2⟩⟩⟩
 |_=>exact o.elim
theorem HJ(hg:Gl X "tuple")(hm:X.mg "tuple"=none)(ha:dH X G E (e::es) aU)(he:ao (e::es) X.env=(false,eval e X.env)::ao es X.env:=by rfl)(Bc:(backTo pos (ao es X.env)).any (·.1)=false:=by rfl):aB X G E (.Call (.Name "tuple" p) (e::es) [] pos) (aE (f1 qP) aU):=λhK=>
 A0 (Am.imp (SO (X:=X)) λxs H Q⟨v,h1,a,ys,h2,h3⟩=>⟨a,ys,by rw[h1,h2],by rw[hK];exact h3⟩) (nL T9) hg hm HE ha (by decide) (by decide) he Bc hK
def wA(scr:zr)(d:Dv)(h:Hs):Rs Dv:=match gX scr d h with
 |some xs=>.ok (.ref h.length) (h++[.lst xs])
 |none=>.bad
theorem UA:iT G (λx H Q=>∃p ys,x=.ref p/\(Bb G.K H p ys∨Ap G.K H p ys)/\∀l,H l=none->Q (.ref l) (aF H l (.lst ys))) (wA G.scr):=by
 intro E μ h H d v Q s r1 o;unfold wA at o
 cases e:gX G.scr d h with
 |none=>rw[e]at o;exact o.elim
 |some ys=>rw[e]at o;obtain⟨a,ws,rfl,hs,r2⟩:=A1 s r1 e;exact⟨a,ws,rfl,hs,λl hl=>oY s r2 hl o⟩
end
inductive Sr where
 |nx (ρ:Ev) (h:Hs)|rt (d:Dv) (h:Hs)|bk (ρ:Ev) (h:Hs)|ct (ρ:Ev) (h:Hs)|ex (c:Nat) (h:Hs)|bad
abbrev MS:=Ev->Hs->Sr
def Bl(G:Cfg)(E:XK)(μ:Nat->ah)(n:Nat)(H:Hp)(r:Sr)(D:Ends):Prop:=match r with
 |.nx ρ h'=>∀μ' H' σ',Ext μ n H μ' h'.length H'->Ai G μ' h' H'->Ah G μ' h'.length H' ρ σ'->D.nx σ' H'
 |.bk ρ h'=>∀μ' H' σ',Ext μ n H μ' h'.length H'->Ai G μ' h' H'->Ah G μ' h'.length H' ρ σ'->D.bk σ' H'
 |.ct ρ h'=>∀μ' H' σ',Ext μ n H μ' h'.length H'->Ai G μ' h' H'->Ah G μ' h'.length H' ρ σ'->D.ct σ' H'
 |.rt d h'=>∀μ' H' v,Ext μ n H μ' h'.length H'->Ai G μ' h' H'->Ac G μ' h'.length H' d v->D.rt v H'
 |.ex c h'=>∀μ' H' u,Ext μ n H μ' h'.length H'->Ai G μ' h' H'->FlyE G H' c u->E u none H'
 |.bad=>False
theorem Bl.ext{G:Cfg}{E:XK}{μ μ1:Nat->ah}{n n1:Nat}{H H1:Hp}{r:Sr}{D:Ends}(o:Bl G E μ n H r D)(x:Ext μ n H μ1 n1 H1):Bl G E μ1 n1 H1 r D:=by
 cases r with
 |nx ρ h'=>exact λμ' H' σ' y=>o μ' H' σ' (x.trans y)
 |bk ρ h'=>exact λμ' H' σ' y=>o μ' H' σ' (x.trans y)
 |ct ρ h'=>exact λμ' H' σ' y=>o μ' H' σ' (x.trans y)
 |rt d h'=>exact λμ' H' σ' y=>o μ' H' σ' (x.trans y)
 |ex c h'=>exact λμ' H' σ' y=>o μ' H' σ' (x.trans y)
 |bad=>exact o
inductive TSO(G:Cfg)(E:XK)(m:MS)(D:Ends)(σ:St)(H:Hp):Prop
 |mk (μ:Nat->ah) (ρ:Ev) (h:Hs) (rs:Ah G μ h.length H ρ σ) (s:Ai G μ h H) (o:Bl G E μ h.length H (m ρ h) D):TSO G E m D σ H
noncomputable def wB(G:Cfg)(E:XK)(m:MS):TS:=TSO G E m
def fL(X:Cx)(G:Cfg)(E:XK)(st:fj)(m:MS):Prop:=X.K=G.K->PS X st (wB G E m)
def iI(X:Cx)(G:Cfg)(E:XK)(st:List fj)(m:MS):Prop:=X.K=G.K->Du X st (wB G E m)
theorem PS.imp{X:Cx}{e:fj}{t t':TS}(h:PS X e t)(i:∀D σ H,t' D σ H->t D σ H):PS X e t':=λpins s σ H D I q=>h pins s σ H D I (i D σ H q)
theorem Du.imp{X:Cx}{e:List fj}{t t':TS}(h:Du X e t)(i:∀D σ H,t' D σ H->t D σ H):Du X e t':=λpins s σ H D I q=>h pins s σ H D I (i D σ H q)
noncomputable def Rs.thenS {α:Type}(r:Rs α) (f:α->Hs->Sr):Sr:=match r with
 |.ok a h=>f a h
 |.ex c h=>.ex c h
 |.bad=>.bad
@[simp] theorem Rs.thenS_ok {α:Type}(a:α) (h:Hs) (f:α->Hs->Sr):(En a h).thenS f=f a h:=rfl
@[simp] theorem Rs.thenS_ex {α:Type}(c:Nat) (h:Hs) (f:α->Hs->Sr):(Rs.ex c h).thenS f=.ex c h:=rfl
@[simp] theorem Rs.thenS_bad {α:Type}(f:α->Hs->Sr):(Rs.bad).thenS f=.bad:=rfl
theorem Bl.thenS{α β:Type}{G:Cfg}{E:XK}{μ:Nat->ah}{n:Nat}{H:Hp}{r:Rs α}{f:α->Hs->Sr}{D:Ends}{R:(Nat->ah)->Nat->Hp->α->β->Prop}(o:Bl G E μ n H (r.thenS f) D):Out G E μ n H r R λv H1=>∃μ1 d h1,Ext μ n H μ1 h1.length H1/\Ai G μ1 h1 H1/\R μ1 h1.length H1 d v/\Bl G E μ1 h1.length H1 (f d h1) D:=by
 cases r with
 |bad=>exact o
 |ex c h'=>exact o
 |ok d h'=>exact λμ1 H1 v x1 s1 r1=>⟨μ1,d,h',x1,s1,r1,Bl.ext o x1⟩
variable{X:Cx}{G:Cfg}{E:XK}
section
variable{st:fj}{rest:List fj}{m u:MS}{e:ba}{me:M Dv}{pos:Pos}
theorem gY{m:M Dv}{σ:St}{H:Hp}{f:Dv->Hs->Sr}{D:Ends}{Q1:V->Hp->Prop}{μ:Nat->ah}{ρ:Ev}{h:Hs}(rs:Ah G μ h.length H ρ σ)(s:Ai G μ h H)(o:Bl G E μ h.length H ((m ρ h).thenS f) D)(k:∀μ1 d h1 v H1,Ext μ h.length H μ1 h1.length H1->Ah G μ1 h1.length H1 ρ σ->Ai G μ1 h1 H1->Ac G μ1 h1.length H1 d v->Bl G E μ1 h1.length H1 (f d h1) D->Q1 v H1):eI G E m σ H Q1:=
 ⟨μ,ρ,h,rs,s,(o.thenS (R:=Ac G)).mono λv H1⟨μ1,d,h1,x,s1,r1,o1⟩=>k μ1 d h1 v H1 x (rs.mono x) s1 r1 o1⟩
theorem UB{m:M Bool}{σ:St}{H:Hp}{f:Bool->Hs->Sr}{D:Ends}{Q1:Bool->Hp->Prop}{μ:Nat->ah}{ρ:Ev}{h:Hs}(rs:Ah G μ h.length H ρ σ)(s:Ai G μ h H)(o:Bl G E μ h.length H ((m ρ h).thenS f) D)(k:∀μ1 b h1 H1,Ext μ h.length H μ1 h1.length H1->Ah G μ1 h1.length H1 ρ σ->Ai G μ1 h1 H1->Bl G E μ1 h1.length H1 (f b h1) D->Q1 b H1):fU G E m σ H Q1:=
 ⟨μ,ρ,h,rs,s,(o.thenS (R:=RB)).mono λv H1⟨μ1,d,h1,x,s1,r1,o1⟩=>by have e:v=d:=r1;subst e;exact k μ1 v h1 H1 x (rs.mono x) s1 o1⟩
noncomputable def cK:MS:=λρ h=>.nx ρ h
noncomputable def aG(m u:MS):MS:=λρ h=>match m ρ h with
 |.nx ρ1 h1=>u ρ1 h1
 |r=>r
theorem eM:iI X G E [] cK:=λ_=>Du.imp O9 λD σ H⟨μ,ρ,h,rs,s,o⟩=>o μ H σ Ej s rs
theorem bG(h1:fL X G E st m)(h2:iI X G E rest u):iI X G E (st::rest) (aG m u):=λhK=>Du.imp (FE (h1 hK) (h2 hK)) λD σ H⟨μ,ρ,h,rs,s,o⟩=>by
 refine⟨μ,ρ,h,rs,s,?_⟩;unfold aG at o
 cases q:m ρ h with
 |nx ρ1 h1=>rw[q]at o;exact λμ1 H1 σ1 x1 s1 Ak=>⟨μ1,ρ1,h1,Ak,s1,Bl.ext o x1⟩
 |bk ρ1 h1=>rw[q]at o;exact o
 |ct ρ1 h1=>rw[q]at o;exact o
 |rt ρ1 h1=>rw[q]at o;exact o
 |ex ρ1 h1=>rw[q]at o;exact o
 |bad=>rw[q]at o;exact o
theorem aX(h1:fL X G E st m):iI X G E [st] m:=λhK=>zR (h1 hK)
noncomputable def dR(me:M Dv):MS:=λρ h=>(me ρ h).thenS λ_ h1=>.nx ρ h1
theorem jN(he:aB X G E e me)(hs:swapsWith e none pos.line X.env=pure false:=by rfl):fL X G E (.Expr e pos) (dR me):=λhK=>PS.imp (PC (he hK) hs) λD σ H⟨μ,ρ,h,rs,s,o⟩=>gY rs s o λμ1 d h1 v H1 x1 Ak s1 r1 o1=>o1 μ1 H1 σ Ej s1 Ak
noncomputable def aL(me:M Dv):MS:=λρ h=>(me ρ h).thenS λd h1=>.rt d h1
theorem bO(he:aB X G E e me):fL X G E (.Return (some e) pos) (aL me):=λhK=>PS.imp (FF (he hK)) λD σ H⟨μ,ρ,h,rs,s,o⟩=>gY rs s o λμ1 d h1 v H1 x1 Ak s1 r1 o1=>o1 μ1 H1 v Ej s1 r1
noncomputable def cA(c:M Bool)(t u:MS):MS:=λρ h=>(c ρ h).thenS λb h1=>if b=true then t ρ h1 else u ρ h1
theorem eN{c:ba}{a b:List fj}{mc:M Bool}(hc:fK X G E c mc)(ha:iI X G E a m)(hb:iI X G E b u):fL X G E (.If c a b pos) (cA mc m u):=λhK=>PS.imp (PK (hc hK) (ha hK) (hb hK)) λD σ H⟨μ,ρ,h,rs,s,o⟩=>
 UB rs s o λμ1 k h1 H1 x1 Ak s1 o1=>by
  cases k with
  |true=>rw[if_pos rfl]at o1⊢;exact⟨μ1,ρ,h1,Ak,s1,o1⟩
  |false=>rw[if_neg (by decide)]at o1⊢;exact⟨μ1,ρ,h1,Ak,s1,o1⟩
theorem Ah.set{μ:Nat->ah}{n:Nat}{H:Hp}{ρ:Ev}{σ:St}{d:Dv}{v:V}(rs:Ah G μ n H ρ σ)(i:Nat)(r:Ac G μ n H d v):Ah G μ n H (ρ.set i (some d)) (σ.set i (some v)):=⟨by rw[jq,jq];exact rs.len,λj d' e=>by
 have hl:=rs.len
 by_cases Br:i=j
 ·subst Br;have hi:i<ρ.length:=by have:=(av.mp e).1;simpa using this
  rw[da hi]at e;cases e;exact⟨v,da (by lia),r⟩
 ·rw[gg Br]at e⊢;exact rs.at_ j d' e⟩
abbrev cH:=Dv->Ev->Option Ev
inductive TGO(G:Cfg)(st:cH)(v:V)(σ:St)(H:Hp)(Q:St->Hp->Prop):Prop
 |mk (μ:Nat->ah) (ρ:Ev) (h:Nat) (d:Dv) (ρ':Ev) (rs:Ah G μ h H ρ σ) (r:Ac G μ h H d v) (e:st d ρ=some ρ') (q:∀σ',Ah G μ h H ρ' σ'->Q σ' H):TGO G st v σ H Q
noncomputable def nM(G:Cfg)(st:cH):TG:=TGO G st
def gZ(X:Cx)(G:Cfg)(tg:ba)(st:cH):Prop:=X.K=G.K->PG X tg (nM G st)
theorem PG.imp{tg:ba}{t t':TG}(h:PG X tg t)(i:∀v σ H Q,t' v σ H Q->t v σ H Q):PG X tg t':=λpins s σ H v u Q I r q=>h pins s σ H v u Q I r (i v σ H Q q)
theorem PGs.imp{tg:List ba}{t t':jI}(h:PGs X tg t)(i:∀v σ H Q,t' v σ H Q->t v σ H Q):PGs X tg t':=λpins s σ H v u Q I r q=>h pins s σ H v u Q I r (i v σ H Q q)
noncomputable def aC(i:Nat):cH:=λd ρ=>some (ρ.set i (some d))
theorem UC{i:Nat}{x:Str}(hN:X.N.Nodup)(hi:X.N[i]?=some x)(hx:kD X.env.scope x)(hf:X.fn x=true∨X.env.scope.names.lookup x=some .local:=by first|exact .inl rfl|exact .inr rfl|assumption):gZ X G (.Name x pos) (aC i):=λ_=>PG.imp (PL hN hi hx hf) λv σ H Q⟨μ,ρ,h,d,ρ',rs,r,e,k⟩=>by cases e;exact k _ (rs.set i r)
abbrev jO:=zw->Ev->Option Ev
inductive TGSO(G:Cfg)(st:jO)(vs:Ez)(σ:St)(H:Hp)(Q:St->Hp->Prop):Prop
 |mk (μ:Nat->ah) (ρ:Ev) (h:Nat) (ds:zw) (ρ':Ev) (rs:Ah G μ h H ρ σ) (r:RelDL G μ h H ds vs) (e:st ds ρ=some ρ') (q:∀σ',Ah G μ h H ρ' σ'->Q σ' H):TGSO G st vs σ H Q
noncomputable def UD(G:Cfg)(st:jO):jI:=TGSO G st
def pH(X:Cx)(G:Cfg)(tg:List ba)(st:jO):Prop:=X.K=G.K->PGs X tg (UD G st)
noncomputable def cP:jO:=λds ρ=>match ds with
 |[]=>some ρ
 |_=>none
noncomputable def aV(s:cH)(t:jO):jO:=λds ρ=>match ds with
 |d::r=>match s d ρ with
  |some ρ1=>t r ρ1
  |none=>none
 |[]=>none
theorem fV:pH X G [] cP:=λ_=>PGs.imp PN λvs σ H Q⟨μ,ρ,h,ds,ρ',rs,r,e,k⟩=>by
 cases ds with
 |nil=>cases e;rw[RelDL]at r;subst r;exact⟨rfl,k _ rs⟩
 |cons d r=>cases e
theorem cV{tg:ba}{tgs:List ba}{s:cH}{t:jO}(h1:gZ X G tg s)(h2:pH X G tgs t)(hs:(assignEach (tg::tgs) X.env).map (·.2)=assign tg X.env::(assignEach tgs X.env).map (·.2):=by rfl):pH X G (tg::tgs) (aV s t):=λhK=>PGs.imp (PQ (h1 hK) (h2 hK) hs) λvs σ H Q⟨μ,ρ,h,ds,ρ',rs,r,e,k⟩=>by
 cases ds with
 |nil=>cases e
 |cons d ds=>
  rw[RelDL]at r;obtain⟨v,rr,rfl,r1,r2⟩:=r;unfold aV at e;dsimp only at e
  cases q:s d ρ with
  |none=>rw[q]at e;cases e
  |some ρ1=>rw[q]at e;exact⟨v,rr,rfl,μ,ρ,h,d,ρ1,rs,r1,q,λσ1 Ak=>⟨μ,ρ1,h,ds,ρ',Ak,r2,e,k⟩⟩
noncomputable def cQ(n:Nat)(t:jO):cH:=λd ρ=>match d with
 |.tup ds=>if ds.length=n then t ds ρ else none
 |_=>none
theorem gD{tgs:List ba}{k:Nat}{t:jO}{n:Nat}(hc:X.calm=true)(h:pH X G tgs t)(hn:(assignEach tgs X.env).length=n:=by rfl)(Ck:(assignEach tgs X.env).findIdx? (·.1)=none:=by rfl):gZ X G (.Tuple tgs k pos) (cQ n t):=λhK=>
 PG.imp (PU hc (h hK) hn Ck) λv σ H Q⟨μ,ρ,hh,d,ρ',rs,r,e,kk⟩=>by
  cases d with
  |tup ds=>
   dsimp only[cQ]at e
   split at e
   ·rename_i hl;obtain⟨a,vs,rfl,e1,r1⟩:=r;exact⟨a,vs,rfl,Ek e1,by rw[r1.length];exact hl,μ,ρ,hh,ds,ρ',rs,r1,e,kk⟩
   ·cases e
  |_=>cases e
noncomputable def aR(me:M Dv)(st:cH):MS:=λρ h=>(me ρ h).thenS λd h1=>match st d ρ with
 |some ρ1=>.nx ρ1 h1
 |none=>.bad
theorem UE{st:cH}{σ:St}{H:Hp}{D:Ends}(t:wB G E (aR me st) D σ H):rY (eI G E me) (nM G st) D σ H:=by
 obtain⟨μ,ρ,h,rs,s,o⟩:=t;refine gY rs s o λμ1 d h1 v H1 x1 Ak s1 r1 o1=>?_
 cases q:st d ρ with
 |none=>rw[q]at o1;exact o1.elim
 |some ρ1=>rw[q]at o1;exact⟨μ1,ρ,h1.length,d,ρ1,Ak,r1,q,λσ' rs'=>o1 μ1 H1 σ' Ej s1 rs'⟩
theorem sZ{tg:ba}{st:cH}(he:aB X G E e me)(hg:gZ X G tg st)(hs:swapsWithSole [tg] e pos.line X.env=pure false:=by rfl)(hw:swappedStores [tg] e X.env=pure none:=by rfl)(h1:(assignEach [tg] X.env).map (·.2)=[assign tg X.env]:=by rfl):fL X G E (.Assign [tg] e pos) (aR me st):=λhK=>PS.imp (zT (he hK) (hg hK) hs hw h1) λ_ _ _ t=>UE t
theorem A2{i:Nat}{x:Str}{pos':Pos}(hN:X.N.Nodup)(hi:X.N[i]?=some x)(hx:kD X.env.scope x)(he:aB X G E e me)(hs:swapsWith e (some (.Name x pos')) pos.line X.env=pure false:=by rfl)(hf:X.fn x=true∨X.env.scope.names.lookup x=some .local:=by first|exact .inl rfl|exact .inr rfl|assumption):
  fL X G E (.Assign [.Name x pos'] e pos) (aR me (aC i)):=λhK=>PS.imp (vE hN hi hx (he hK) hs hf) λD σ H t=>by
 obtain⟨μ,ρ,h,rs,s,o⟩:=t;exact gY rs s o λμ1 d h1 v H1 x1 Ak s1 r1 o1=>o1 μ1 H1 _ Ej s1 (Ak.set i r1)
end
structure Src where
 n:Nat
 get:Nat->Hs->zx
 fin:Hs->Bool
def Bm(G:Cfg)(μ0:Nat->ah)(n0:Nat)(H0:Hp)(src:Src)(J:It):Prop:=
 ∀(k:Nat)(μ:Nat->ah)(h:Hs)(H:Hp),Ext μ0 n0 H0 μ h.length H->Ai G μ h H->
  (k<src.n->∀d,src.get k h=some d->J.go k H/\∀x H',J.yld k H x H'->Bn H H'/\Ac G μ h.length H' d x)/\(k=src.n->src.fin h=true->J.stop k H)
def wC(G:Cfg)(E:XK)(m:M Src):TI:=TOu G E m (Bm G)
def iJ(X:Cx)(G:Cfg)(E:XK)(tg iter:ba)(m:M Src):Prop:=X.K=G.K->PI X tg iter (wC G E m)
theorem PI.imp{X:Cx}{tg iter:ba}{t t':TI}(h:PI X tg iter t)(i:∀σ H R,t' σ H R->t σ H R):PI X tg iter t':=λpins s σ H R I q=>h pins s σ H R I (i σ H R q)
noncomputable def eB(xs:zw):Src:=⟨xs.length,λk _=>xs[k]?,λ_=>true⟩
def bU(i n:Nat):Src:=⟨n,λk h=>match getL h i with
 |some xs=>if xs.length=n then xs[k]? else none
 |none=>none,λh=>match getL h i with
 |some xs=>xs.length==n
 |none=>false⟩
noncomputable def hG(lo hi:Int):Src:=⟨(hi-lo).toNat,λk _=>some (.int (lo+k)),λ_=>true⟩
noncomputable def aY(f:Dv->Hs->Rs Src)(m:M Dv):M Src:=λρ h=>(m ρ h).bind f
section
variable{tg e a b:ba}{me ma mb:M Dv}{pos p:Pos}
def bW:Dv->Hs->Rs Src
 |.ref i,h=>match getL h i with
  |some xs=>.ok (bU i xs.length) h
  |none=>.bad
 |_,_=>.bad
def eW:Dv->Hs->Rs Src
 |.tup xs,h=>.ok (eB xs) h
 |_,_=>.bad
theorem hJ(he:aB X G E e me):iJ X G E tg e (aY bW me):=λhK=>PI.imp (P4 (he hK)) λσ H R⟨μ,ρ,h,rs,s,o⟩=>cT rs s o λμ1 x h1 vx H1 x1 Ak s1 r1 o1=>by
 rw[hK]
 cases x with
 |ref i=>
  obtain⟨hi,rfl⟩:=r1;dsimp only[bW]at o1
  cases g:getL h1 i with
  |none=>rw[g]at o1;exact o1.elim
  |some xs=>
   rw[g]at o1;obtain⟨vs,e1,r2⟩:=s1.ob i _ (eL g);refine⟨_,rfl,⟨vs,Em e1⟩,o1.val s1 λk μ2 h2 H2 x2 s2=>?_⟩;have emu:=x2.mu i hi;constructor
   ·intro hk d hd;dsimp only[bU]at hd
    cases g2:getL h2 i with
    |none=>rw[g2]at hd;cases hd
    |some ys=>
     rw[g2]at hd;dsimp only at hd
     split at hd
     ·obtain⟨ws,e2,r3⟩:=s2.ob i _ (eL g2);rw[emu]at e2;obtain⟨v,ev,rv⟩:=r3.get hd;refine⟨⟨ws,v,Em e2,ev⟩,λx H' hy=>?_⟩;obtain⟨rfl,hy⟩:=hy;have:=hy ws (Em e2);rw[ev]at this;cases this;exact⟨Bn.refl _,rv⟩
     ·cases hd
   ·intro hk hf;dsimp only[bU]at hf
    cases g2:getL h2 i with
    |none=>rw[g2]at hf;cases hf
    |some ys=>
     rw[g2]at hf;obtain⟨ws,e2,r3⟩:=s2.ob i _ (eL g2);rw[emu]at e2;refine⟨ws,Em e2,?_⟩;have h3:ys.length=xs.length:=by simpa using hf
     rw[r3.length,h3,hk];exact aq _
 |_=>exact o1.elim
theorem Bm.tup{μ:Nat->ah}{n:Nat}{H:Hp}{a:ah}{vs:Ez}{xs:zw}{K:ak}(e:H a=some (.tup vs))(r:RelDL G μ n H xs vs)(hi:∀(X:Cx),True):Bm G μ n H (eB xs) (zV K a):=by
 intro k μ2 h2 H2 x2 s2;have e2:=x2.im a (.tup vs) trivial e;have r2:=Eb x2 _ _ r;have inj:∀ws,Ap K H2 a ws->ws=vs->True:=λ_ _ _=>trivial;constructor
 ·intro hk d hd;obtain⟨v,ev,rv⟩:=r2.get hd;refine⟨⟨vs,v,Ek e2,ev⟩,λx H' hy=>?_⟩;obtain⟨rfl,hy⟩:=hy;have:=hy vs (Ek e2);rw[ev]at this;cases this;exact⟨Bn.refl _,rv⟩
 ·intro hk _;exact⟨vs,Ek e2,by rw[r2.length,hk];exact aq _⟩
theorem mE(he:aB X G E e me):iJ X G E tg e (aY eW me):=λhK=>PI.imp (P5 (he hK)) λσ H R⟨μ,ρ,h,rs,s,o⟩=>cT rs s o λμ1 x h1 vx H1 x1 Ak s1 r1 o1=>by
 cases x with
 |tup xs=>obtain⟨a,vs,rfl,e1,r2⟩:=r1;exact⟨a,rfl,⟨vs,Ek e1⟩,o1.val s1 (Bm.tup e1 r2 λ_=>trivial)⟩
 |_=>exact o1.elim
noncomputable def kJ(i:Int):Bool:=decide (-4611686018427387904<=i)&&decide (i<4611686018427387904)
def fN:zw->Hs->Rs Src
 |[.int j],h=>if kJ j=true then .ok (hG 0 j) h else .bad
 |_,_=>.bad
def pI:zw->Hs->Rs Src
 |[.int i,.int j],h=>if kJ i=true/\kJ j=true then .ok (hG i j) h else .bad
 |_,_=>.bad
noncomputable def aU(f:zw->Hs->Rs Src)(ms:M zw ):M Src:=λρ h=>(ms ρ h).bind f
theorem Bm.rng{μ:Nat->ah}{n:Nat}{H:Hp}(lo hi:Int):Bm G μ n H (hG lo hi) (rZ lo (hi-lo).toNat):=by
 intro k μ2 h2 H2 x2 s2;constructor
 ·intro hk d hd;cases hd;exact⟨hk,λx H' hy=>by obtain⟨rfl,rfl⟩:=hy;exact⟨Bn.refl _,rfl⟩⟩
 ·intro hk _;exact nc hk.symm
variable{ms:M zw}
theorem pJ(hg:Gl X "range")(hm:X.mg "range"=none)(ha:dH X G E [a] ms)(hs:ao [a] X.env=[(false,eval a X.env)]:=by rfl):iJ X G E tg (.Call (.Name "range" p) [a] [] pos) (aU fN ms):=λhK=>
 PI.imp (P8 hg hm (ha hK) hs) λσ H R⟨μ,ρ,h,rs,s,o⟩=>kG rs s o λμ1 ds h1 vs H1 x1 Ak s1 r1 o1=>by
  unfold fN at o1
  split at o1
  ·rename_i j
   split at o1
   ·rename_i hj;obtain⟨v,rfl,rv⟩:=vZ r1;rw[Ac]at rv;subst rv;simp only[kJ,dh,decide_eq_true_eq]at hj;refine⟨j,rfl,by lia,by lia,?_⟩;have:=o1.val s1 (Bm.rng (G:=G) (μ:=μ1) (n:=h1.length) (H:=H1) 0 j);rw[Int.sub_zero]at this;exact this
   ·exact o1.elim
  ·exact o1.elim
theorem UG(hg:Gl X "range")(hm:X.mg "range"=none)(ha:dH X G E [a,b] ms)(hs:ao [a,b] X.env=[(false,eval a X.env),(false,eval b X.env)]:=by rfl)(hs2:ao [b] X.env=[(false,eval b X.env)]:=by rfl):iJ X G E tg (.Call (.Name "range" p) [a,b] [] pos) (aU pI ms):=λhK=>
 PI.imp (P9 hg hm (ha hK) hs hs2) λσ H R⟨μ,ρ,h,rs,s,o⟩=>kG rs s o λμ1 ds h1 vs H1 x1 Ak s1 r1 o1=>by
  unfold pI at o1
  split at o1
  ·rename_i i j
   split at o1
   ·rename_i hj;obtain⟨v,v',rfl,rv,rv'⟩:=HH r1;rw[Ac]at rv rv';subst rv;subst rv';simp only[kJ,dh,decide_eq_true_eq]at hj;exact⟨i,j,rfl,⟨by lia,by lia,by lia,by lia⟩,o1.val s1 (Bm.rng (G:=G) (μ:=μ1) (n:=h1.length) (H:=H1) i j)⟩
   ·exact o1.elim
  ·exact o1.elim
end
noncomputable def hO(src:Src)(st:cH)(body:MS):Nat->Nat->MS
 |0,_=>λρ h=>if src.fin h=true then .nx ρ h else .bad
 |f+1,k=>λρ h=>match src.get k h with
  |none=>.bad
  |some d=>match st d ρ with
   |none=>.bad
   |some ρ1=>match body ρ1 h with
    |.nx ρ2 h2=>hO src st body f (k+1) ρ2 h2
    |.ct ρ2 h2=>hO src st body f (k+1) ρ2 h2
    |.bk ρ2 h2=>.nx ρ2 h2
    |r=>r
def kK(mi:M Src)(st:cH)(body:MS):MS:=λρ h=>(mi ρ h).thenS λsrc h1=>hO src st body src.n 0 ρ h1
section
variable{tg iter:ba}{body:List fj}{mi:M Src}{st:cH}{mb:MS}{pos:Pos}
theorem tB(hp:PassesOwn (model X.prog X.w) X.A X.env X.xe)(hc:X.calm=true)(hi:iJ X G E tg iter mi)(hg:gZ X G tg st)(hb:iI X G E body mb)(hs:∀x,foldedSetIterable iter X.env x=pure x:=by intro _;rfl):fL X G E (.For tg iter body [] pos) (kK mi st mb):=λhK=>PS.imp (QB hp hc (hi hK) (hg hK) (hb hK) hs) λD σ H⟨μ,ρ,h,rs,s,o⟩=>by
 refine⟨μ,ρ,h,rs,s,(o.thenS (R:=Bm G)).mono λJ H1⟨μ1,src,h1,x1,s1,ok,o1⟩=>?_⟩;refine⟨λi m σ H=>∃μ2 ρ2 h2,Ext μ1 h1.length H1 μ2 h2.length H/\Ah G μ2 h2.length H ρ2 σ/\Ai G μ2 h2 H/\i+m=src.n/\Bl G E μ2 h2.length H (hO src st mb m i ρ2 h2) D,⟨src.n,μ1,ρ,h1,Ej,rs.mono x1,s1,vb _,o1⟩,?_⟩
 rintro i m σ2 H2 ⟨μ2,ρ2,h2,x2,Bu,s2,him,o2⟩
 cases m with
 |zero=>
  unfold hO at o2
  split at o2
  ·rename_i hf;exact .inl ⟨(ok i μ2 h2 H2 x2 s2).2 (by lia) hf,o2 μ2 H2 σ2 Ej s2 Bu⟩
  ·exact o2.elim
 |succ m=>
  unfold hO at o2
  cases q:src.get i h2 with
  |none=>rw[q]at o2;exact o2.elim
  |some d=>
   rw[q]at o2;dsimp only at o2
   cases q2:st d ρ2 with
   |none=>rw[q2]at o2;exact o2.elim
   |some ρ3=>
    rw[q2]at o2;dsimp only at o2;obtain⟨go,yl⟩:=(ok i μ2 h2 H2 x2 s2).1 (by lia) d q;refine .inr ⟨go,λσ' H'=>∃μ3 ρ4 h4,Ext μ1 h1.length H1 μ3 h4.length H'/\Ah G μ3 h4.length H' ρ4 σ'/\Ai G μ3 h4 H'/\(i+1)+m=src.n/\Bl G E μ3 h4.length H' (hO src st mb m (i+1) ρ4 h4) D,λσ' H' z=>⟨m,jf m,z⟩,λx H' hy=>?_⟩;obtain⟨sm,rx⟩:=yl x H' hy;have xs:Ext μ2 h2.length H2 μ2 h2.length H':=Ed sm;refine⟨μ2,ρ2,h2.length,d,ρ3,Bu.mono xs,rx,q2,λσ3 Ct=>⟨μ2,ρ3,h2,Ct,s2.same sm,?_⟩⟩;have step:∀ρ5 h5,Bl G E μ2 h2.length H2 (hO src st mb m (i+1) ρ5 h5) D->∀μ6 H6 σ6,Ext μ2 h2.length H' μ6 h5.length H6->Ai G μ6 h5 H6->Ah G μ6 h5.length H6 ρ5 σ6->
      ∃μ3 ρ4 h4,Ext μ1 h1.length H1 μ3 h4.length H6/\Ah G μ3 h4.length H6 ρ4 σ6/\Ai G μ3 h4 H6/\(i+1)+m=src.n/\Bl G E μ3 h4.length H6 (hO src st mb m (i+1) ρ4 h4) D:=
     λρ5 h5 o5 μ6 H6 σ6 x6 s6 rs6=>⟨μ6,ρ5,h5,(x2.trans xs).trans x6,rs6,s6,by lia,o5.ext (xs.trans x6)⟩
    cases q3:mb ρ3 h2 with
    |nx ρ5 h5=>rw[q3]at o2;exact step ρ5 h5 o2
    |ct ρ5 h5=>rw[q3]at o2;exact step ρ5 h5 o2
    |bk ρ5 h5=>rw[q3]at o2;exact λμ6 H6 σ6 x6 s6 rs6=>o2 μ6 H6 σ6 (xs.trans x6) s6 rs6
    |rt d5 h5=>rw[q3]at o2;exact λμ6 H6 σ6 x6 s6 rs6=>o2 μ6 H6 σ6 (xs.trans x6) s6 rs6
    |ex d5 h5=>rw[q3]at o2;exact λμ6 H6 σ6 x6 s6 rs6=>o2 μ6 H6 σ6 (xs.trans x6) s6 rs6
    |bad=>rw[q3]at o2;exact o2.elim
end
abbrev MC:=Ev->Hs->zw->Rs (Ev×zw)
noncomputable def bD(me:M Dv):MC:=λρ h acc=>match me ρ h with
 |.ok d h1=>if acc.length<1000000 then .ok (ρ,acc++[d]) h1 else .bad
 |_=>.bad
noncomputable def iK(src:Src)(st:cH)(test:M Bool)(inner:MC):Nat->Nat->MC
 |0,_=>λρ h acc=>if src.fin h=true then .ok (ρ,acc) h else .bad
 |f+1,k=>λρ h acc=>match src.get k h with
  |none=>.bad
  |some d=>match st d ρ with
   |none=>.bad
   |some ρ1=>match test ρ1 h with
    |.ok true h2=>match inner ρ1 h2 acc with
     |.ok r h3=>iK src st test inner f (k+1) r.1 h3 r.2
     |_=>.bad
    |.ok false h2=>iK src st test inner f (k+1) ρ1 h2 acc
    |_=>.bad
def gE(mi:M Src)(st:cH)(test:M Bool)(inner:MC):MC:=λρ h acc=>match mi ρ h with
 |.ok src h1=>iK src st test inner src.n 0 ρ h1 acc
 |_=>.bad
noncomputable def bN:M Bool:=λ_ h=>.ok true h
noncomputable def jP(cap:List (Option Nat))(ρ:Ev):Ev:=cap.map λo=>match o with
 |some j=>(ρ[j]?).getD none
 |none=>none
def bJ(mi:M Src)(cap:List (Option Nat))(st:cH)(test:M Bool)(inner:MC):M zw:=λρ h=>(mi ρ h).bind λsrc h1=>match iK src st test inner src.n 0 (jP cap ρ) h1 []with
 |.ok r h2=>.ok r.2 h2
 |_=>.bad
inductive TCO(G:Cfg)(m:MC)(σ:St)(H:Hp)(vs:Ez)(K:St->Hp->Ez->Prop):Prop
 |mk (μ:Nat->ah) (ρ:Ev) (h:Hs) (xs:zw) (ρ':Ev) (xs':zw) (h':Hs) (rs:Ah G μ h.length H ρ σ) (s:Ai G μ h H) (r:RelDL G μ h.length H xs vs) (e:m ρ h xs=.ok (ρ',xs') h')
  (q:∀μ' H' σ' Bh,Ext μ h.length H μ' h'.length H'->Ai G μ' h' H'->Ah G μ' h'.length H' ρ' σ'->RelDL G μ' h'.length H' xs' Bh->K σ' H' Bh):TCO G m σ H vs K
noncomputable def tD(G:Cfg)(m:MC):TC:=TCO G m
section
variable{G:Cfg}
theorem A3{μ:Nat->ah}{n:Nat}{H:Hp}{ρ:Ev}{σ:St}(rs:Ah G μ n H ρ σ)(cap:List (Option Nat)):Ah G μ n H (jP cap ρ) (oV cap σ):=⟨by simp[jP,oV],λi d e=>by
 unfold jP at e;rw[fx]at e
 cases q:cap[i]? with
 |none=>rw[q]at e;cases e
 |some o=>
  rw[q]at e
  cases o with
  |none=>cases e
  |some j=>
   have e':(ρ[j]?).getD none=some d:=by simpa using e
   have e2:ρ[j]?=some (some d):=by
    cases z:ρ[j]? with
    |none=>rw[z]at e';cases e'
    |some y=>rw[z]at e';simp at e';rw[e']
   obtain⟨v,e3,r⟩:=rs.at_ j d e2;refine⟨v,?_,r⟩;unfold oV;rw[fx,q];simp[e3]⟩
theorem wD{E:XK}{me:M Dv}{σ:St}{H:Hp}{vs:Ez}{K:St->Hp->Ez->Prop}(t:tD G (bD me) σ H vs K):sL (eI G E me) σ H vs K:=by
 obtain⟨μ,ρ,h,xs,ρ',xs',h',rs,s,r,e,k⟩:=t;refine⟨μ,ρ,h,rs,s,?_⟩;unfold bD at e
 cases q:me ρ h with
 |bad=>rw[q]at e;cases e
 |ex c h1=>rw[q]at e;cases e
 |ok d h1=>
  rw[q]at e;dsimp only at e
  split at e
  ·rename_i hl;cases e;intro μ1 H1 v x1 s1 r1;refine⟨?_,k μ1 H1 σ _ x1 s1 (rs.mono x1) ((Eb x1 _ _ r).append (Ei r1 Eh))⟩;rw[r.length];exact ar hl (by decide)
  ·cases e
theorem wF{E:XK}{src:Src}{st:cH}{test:M Bool}{inner:MC}{J:It}{μ1:Nat->ah}{h1:Hs}{H1:Hp}{ρ ρ':Ev}{σ:St}{xs xs':zw}{vs:Ez}{h':Hs}{K:St->Hp->Ez->Prop}(ok:Bm G μ1 h1.length H1 src J)(rs:Ah G μ1 h1.length H1 ρ σ)(s1:Ai G μ1 h1 H1)(r:RelDL G μ1 h1.length H1 xs vs)(e:iK src st test inner src.n 0 ρ h1 xs=.ok (ρ',xs') h')(k:∀μ' H' σ' Bh,Ext μ1 h1.length H1 μ' h'.length H'->Ai G μ' h' H'->Ah G μ' h'.length H' ρ' σ'->RelDL G μ' h'.length H' xs' Bh->K σ' H' Bh):
  oW J (nM G st) (fU G E test) (tD G inner) K σ H1 vs:=by
 refine⟨λi m σ H vs=>∃μ2 ρ2 h2 xs2,Ext μ1 h1.length H1 μ2 h2.length H/\Ah G μ2 h2.length H ρ2 σ/\Ai G μ2 h2 H/\RelDL G μ2 h2.length H xs2 vs/\i+m=src.n/\iK src st test inner m i ρ2 h2 xs2=.ok (ρ',xs') h',⟨src.n,μ1,ρ,h1,xs,Ej,rs,s1,r,vb _,e⟩,?_⟩
 rintro i m σ2 H2 vs2 ⟨μ2,ρ2,h2,xs2,x2,Bu,s2,r2,him,e2⟩
 cases m with
 |zero=>
  unfold iK at e2
  split at e2
  ·rename_i hf;cases e2;exact .inl ⟨(ok i μ2 _ H2 x2 s2).2 (by lia) hf,k μ2 H2 σ2 vs2 x2 s2 Bu r2⟩
  ·cases e2
 |succ m=>
  unfold iK at e2
  cases q:src.get i h2 with
  |none=>rw[q]at e2;cases e2
  |some d=>
   rw[q]at e2;dsimp only at e2
   cases q2:st d ρ2 with
   |none=>rw[q2]at e2;cases e2
   |some ρ3=>
    rw[q2]at e2;dsimp only at e2;obtain⟨go,yl⟩:=(ok i μ2 h2 H2 x2 s2).1 (by lia) d q;refine .inr ⟨go,λσ' H' Bh=>∃μ3 ρ4 h4 xs4,Ext μ1 h1.length H1 μ3 h4.length H'/\Ah G μ3 h4.length H' ρ4 σ'/\Ai G μ3 h4 H'/\RelDL G μ3 h4.length H' xs4 Bh/\(i+1)+m=src.n/\iK src st test inner m (i+1) ρ4 h4 xs4=.ok (ρ',xs') h',
     λσ' H' Bh z=>⟨m,jf m,z⟩,λx H' hy=>?_⟩
    obtain⟨sm,rx⟩:=yl x H' hy;have xsm:Ext μ2 h2.length H2 μ2 h2.length H':=Ed sm;refine⟨μ2,ρ2,h2.length,d,ρ3,Bu.mono xsm,rx,q2,λσ3 Ct=>⟨μ2,ρ3,h2,Ct,s2.same sm,?_⟩⟩
    cases q3:test ρ3 h2 with
    |bad=>rw[q3]at e2;cases e2
    |ex c h3=>rw[q3]at e2;cases e2
    |ok b h3=>
     rw[q3]at e2;intro μ4 H4 b' x4 s4 rb;have eb:b'=b:=rb;subst eb
     cases b' with
     |false=>rw[if_neg (by decide)];exact⟨μ4,ρ3,h3,xs2,(x2.trans xsm).trans x4,Ct.mono x4,s4,Eb (xsm.trans x4) _ _ r2,by lia,e2⟩
     |true=>
      rw[if_pos rfl];dsimp only at e2
      cases q4:inner ρ3 h3 xs2 with
      |bad=>rw[q4]at e2;cases e2
      |ex c h5=>rw[q4]at e2;cases e2
      |ok rr h5=>rw[q4]at e2;obtain⟨ρ5,xs5⟩:=rr;exact⟨μ4,ρ3,h3,xs2,ρ5,xs5,h5,Ct.mono x4,s4,Eb (xsm.trans x4) _ _ r2,q4,λμ6 H6 σ6 vs6 x6 s6 rs6 r6=>⟨μ6,ρ5,h5,xs5,((x2.trans xsm).trans x4).trans x6,rs6,s6,r6,by lia,e2⟩⟩
theorem HK{E:XK}{mi:M Src}{st:cH}{test:M Bool}{inner:MC}{σ:St}{H:Hp}{vs:Ez}{K:St->Hp->Ez->Prop}(t:tD G (gE mi st test inner) σ H vs K):GV (wC G E mi) (nM G st) (fU G E test) (tD G inner) σ H vs K:=by
 obtain⟨μ,ρ,h,xs,ρ',xs',h',rs,s,r,e,k⟩:=t;refine⟨μ,ρ,h,rs,s,?_⟩;unfold gE at e
 cases q:mi ρ h with
 |bad=>rw[q]at e;cases e
 |ex c h1=>rw[q]at e;cases e
 |ok src h1=>rw[q]at e;exact λμ1 H1 J x1 s1 ok=>wF ok (rs.mono x1) s1 (Eb x1 _ _ r) e λμ2 H2 σ2 vs2 x2=>k μ2 H2 σ2 vs2 (x1.trans x2)
def RL(G:Cfg):(Nat->ah)->Nat->Hp->zw->V->Prop:=λμ n H xs v=>∃p vs,v=.ref p/\H p=some (.lst vs)/\(∀i,i<n->μ i≠p)/\RelDL G μ n H xs vs
def tE(G:Cfg)(E:XK)(m:M zw ):TE:=TOu G E m (RL G)
def qQ(X:Cx)(G:Cfg)(E:XK)(pe:ba)(m:M zw ):Prop:=X.K=G.K->PE X pe (tE G E m)
theorem Ai.adopt{μ:Nat->ah}{h:Hs}{H:Hp}{p:ah}{ds:zw}{vs:Ez}(s:Ai G μ h H)(e:H p=some (.lst vs))(hq:∀i,i<h.length->μ i≠p)(r:RelDL G μ h.length H ds vs):
  Ext μ h.length H (λi=>if i=h.length then p else μ i) (h++[Ea ds]).length H/\Ai G (λi=>if i=h.length then p else μ i) (h++[.lst ds]) H:=by
 have hl:(h++[Ea ds]).length=h.length+1:=by simp
 have x:Ext μ h.length H (λi=>if i=h.length then p else μ i) (h++[Ea ds]).length H:=⟨by lia,λi hi=>if_neg (aw hi),λa o _ e=>e⟩
 refine⟨x,λi j hi hj e=>?_,λi o q=>?_,s.tab⟩
 ·rw[hl]at hi hj
  by_cases h1:i=h.length<;>by_cases h2:j=h.length
  ·lia
  ·rw[if_pos h1,if_neg h2]at e;exact absurd e.symm (hq j (by lia))
  ·rw[if_neg h1,if_pos h2]at e;exact absurd e (hq i (by lia))
  ·rw[if_neg h1,if_neg h2]at e;exact s.inj i j (by lia) (by lia) e
 ·by_cases h1:i<h.length
  ·rw[di h1]at q;have r1:=s.ob i o q
   cases o with
   |lst xs=>obtain⟨ws,e1,r2⟩:=r1;exact⟨ws,by rw[if_neg (aw h1)];exact e1,Eb x _ _ r2⟩
   |clo k t=>rw[if_neg (aw h1)];exact r1.clo x
   |dct ks=>rw[if_neg (aw h1)];exact r1
   |ins xs=>obtain⟨dx,ws,e1,r2⟩:=r1;exact⟨dx,ws,by rw[if_neg (aw h1)];exact e1,Eb x _ _ r2⟩
  ·rw[gz (by lia)]at q;have h2:i=h.length:=by have:=(av.mp q).1;simp at this;lia
   subst h2;simp at q;subst q;exact⟨vs,by rw[if_pos rfl];exact e,Eb x _ _ r⟩
noncomputable def bE(m:M zw ):M Dv:=λρ h=>(m ρ h).bind λxs h1=>.ok (.ref h1.length) (h1++[.lst xs])
theorem wG{E:XK}{m:M zw}{σ:St}{H:Hp}{Q:VK}(t:eI G E (bE m) σ H Q):tE G E m σ H Q:=by obtain⟨μ,ρ,h,rs,s,o⟩:=t;refine⟨μ,ρ,h,rs,s,(o.bind (R1:=RL G)).mono λv H1⟨μ1,xs,h1,x1,s1,⟨p,vs,ev,e1,hq,r1⟩,o1⟩=>?_⟩;subst ev;obtain⟨x2,s2⟩:=s1.adopt e1 hq r1;exact o1 _ _ _ x2 s2 ⟨by simp,by show Eo p=Eo (if h1.length=h1.length then p else μ1 h1.length);rw[if_pos rfl]⟩
theorem iU{X:Cx}{E:XK}{pe:ba}{m:M zw}(h:qQ X G E pe m):aB X G E pe (bE m):=λhK=>Eg (h hK) λ_ _ _ t=>wG t
theorem wH{E E':XK}{mi:M Src}{cap:List (Option Nat)}{st:cH}{test:M Bool}{inner:MC}{σ:St}{H:Hp}{Q:VK}(t:tE G E (bJ mi cap st test inner) σ H Q):sN (wC G E mi) cap (nM G st) (fU G E' test) (tD G inner) σ H Q:=by
 obtain⟨μ,ρ,h,rs,s,o⟩:=t;refine⟨μ,ρ,h,rs,s,(o.bind (R1:=Bm G)).mono λJ H1⟨μ1,src,h1,x1,s1,ok,o1⟩=>?_⟩
 cases q:iK src st test inner src.n 0 (jP cap ρ) h1 []with
 |bad=>rw[q]at o1;exact o1.elim
 |ex c h2=>rw[q]at o1;exact o1.elim
 |ok r h2=>rw[q]at o1;obtain⟨ρ',xs'⟩:=r;refine wF ok (A3 (rs.mono x1) cap) s1 Eh q λμ2 H2 σ2 vs2 x2 s2 Bu r2 p hp=>?_;exact o1 μ2 _ _ (x2.trans (Ed (cJ hp))) (s2.same (cJ hp)) ⟨p,vs2,rfl,bP,s2.not hp,Eb (Ed (cJ hp)) _ _ r2⟩
end
section
variable{elt tg iter By An:ba}{ifs A':List ba}{sc:dj}{ps pos:Pos}{mi mi':M Src}{st Ca:cH}{test B':M Bool}{me:M Dv}{N:zu}{cap:List (Option Nat)}
def nO(X:Cx)(G:Cfg)(ifs:List ba)(m:M Bool):Prop:=X.K=G.K->Dj X ifs (fU G E0 m)
theorem Dj.imp{Y:Cx}{ifs:List ba}{t t':TT}(h:Dj Y ifs t)(i:∀σ H Q,t' σ H Q->t σ H Q):Dj Y ifs t':=λpins s σ H Q I q=>h pins s σ H Q I (i σ H Q q)
theorem fI{Y:Cx}:nO Y G [] bN:=λ_=>Dj.imp GQ λσ H Q⟨μ,ρ,h,rs,s,o⟩=>o.val s rfl
theorem qR{Y:Cx}{c:ba}{m:M Bool}(h:fK Y G E0 c m):nO Y G [c] m:=λhK=>S8 (h hK)
theorem De.imp{Y:Cx}{D:ah}{m:Sem Unit}{t t':TC}(h:De Y D m t)(i:∀σ H xs K,t' σ H xs K->t σ H xs K):De Y D m t':=λpins s σ H xs K I a f q=>h pins s σ H xs K I a f (i σ H xs K q)
theorem fO(hc:X.calm=true)(C:Av X sc N cap)(hi:iJ X G E tg iter mi)(hg:∀s H ex,gZ (bK X sc N s H ex) G tg st)(Cb:∀s H ex,nO (bK X sc N s H ex) G ifs test)(hel:∀s H ex,aB (bK X sc N s H ex) G E0 elt me)(hs:∀x,foldedSetIterable iter X.env x=pure x:=by intro _;rfl):qQ X G E (.ListComp elt [⟨tg,iter,ifs,0⟩] sc ps) (bJ mi cap st test (bD me)):=λhK=>
 Eg (GY hc C rfl (λit D env=>AM elt tg iter ifs sc ps (.ref it) D env) (hi hK) (λs H ex=>hg s H ex hK) (λs H ex=>Cb s H ex hK) (λs H ex D=>De.imp (sM (hel s H ex hK)) λ_ _ _ _ t=>wD t) hs) λ_ _ _ t=>wH t
theorem HL(hc:X.calm=true)(C:Av X sc N cap)(hi:iJ X G E tg iter mi)(hg:∀s H ex,gZ (bK X sc N s H ex) G tg st)(Cb:∀s H ex,nO (bK X sc N s H ex) G ifs test)(hi':∀s H ex,iJ (bK X sc N s H ex) G E0 By An mi')(Dc:∀s H ex,gZ (bK X sc N s H ex) G By Ca)(htt':∀s H ex,nO (bK X sc N s H ex) G A' B')(hel:∀s H ex,aB (bK X sc N s H ex) G E0 elt me)(hs:∀x,foldedSetIterable iter X.env x=pure x:=by intro _;rfl)(hs':∀s H ex x,foldedSetIterable An (bK X sc N s H ex).env x=pure x:=by intro _ _ _ _;rfl):
  qQ X G E (.ListComp elt [⟨tg,iter,ifs,0⟩,⟨By,An,A',0⟩] sc ps) (bJ mi cap st test (gE mi' Ca B' (bD me))):=λhK=>
 Eg (GY hc C rfl (inner:=λD env=>qJ An (.ListComp elt [⟨tg,iter,ifs,0⟩,⟨By,An,A',0⟩] sc ps) 1 D env) (λit D env=>GS elt tg iter By An ifs A' sc ps (.ref it) D env) (hi hK) (λs H ex=>hg s H ex hK) (λs H ex=>Cb s H ex hK)
  (λs H ex D=>De.imp (GW (X:=bK X sc N s H ex) (D:=D) (gens:=[⟨tg,iter,ifs,0⟩,⟨By,An,A',0⟩]) (d:=1) rfl hc rfl (λit=>GU elt tg iter By An ifs A' sc ps (.ref it) D _) (hi' s H ex hK) (Dc s H ex hK) (htt' s H ex hK) (De.imp (sM (hel s H ex hK)) λ_ _ _ _ t=>wD t) (hs' s H ex)) λ_ _ _ _ t=>HK t) hs) λ_ _ _ t=>wH t
end
noncomputable def cW(T:ah)(h:bx):Prop:=∃oT ts,h.get? T=some oT/\oT.data=.fields ts/\ts[3]?=some .none
structure Chg(fs:List ah)(e T:ah)(h h':bx):Prop where
 new:h.objs.size<=T
 keep:∀b o,b≠e->b∉fs->h.get? b=some o->h'.get? b=some o
 slot:∀b o,b≠e->h.get? b=some o->∃sl,h'.get? b=some {o with slots:=sl}
 tb:cW T h'
theorem UH(f:Array af->Array af)(o:Obj):(Obj.mapFields f o).dict=o.dict:=by
 unfold Obj.mapFields
 split<;>rfl
section
variable{M:xq}{A:bq}{E:af->ag->Prop}{s:ag}
theorem pK{a:ah}{o:Obj}{vs:Array af}{i:Nat}{v:af}{Q:Unit->ag->Prop}(e:s.heap.get? a=some o)(hd:o.data=.fields vs)(hi:i<vs.size)(k:∀h' o',ic a s.heap h'->h'.get? a=some o'->o'.cls=o.cls->o'.dict=o.dict->o'.data=.fields (vs.setIfInBounds i v)->Q () {s with heap:=h'}):wpAny M A (setField (.ref a) i v) Q E s:=
 have d':=uq hd (·.setIfInBounds i v)
 yx e hd hi (k _ _ (wb ..) (ni _ e (ze d')) (Obj.cls_mapFields ..) (UH ..) d')
theorem HM{head v:af}{L:Int}{pl:List af}{Q:af->ag->Prop}(Bc:IsPlace pl)(k:∀ob ts,ob.data=.fields ts->3<ts.size->ob.isFreed=false->Q (.ref s.heap.objs.size) {s with heap:=s.heap.push ob}):
  wpAny M A (xf head v .none (rawInt L) .none pl) Q E s:=
 dz (k _ _ rfl (by simp only[bf,dw,br,kr];lia) rfl) (Bc.sizeOk5 ..)
theorem A4{e T:ah}{oe oT:Obj}{vs ts:Array af}{Q:Unit->ag->Prop}(he:s.heap.get? e=some oe)(hd:oe.data=.fields vs)(h1:vs[1]?=some (.ref T))(hT:s.heap.get? T=some oT)(hdT:oT.data=.fields ts)(hs:3<ts.size)(k:∀h',ic T s.heap h'->cW T h'->Q () {s with heap:=h'}):wpAny M A (setFlight (.ref e) none) Q E s:=by
 refine ae (dg he hd h1 ?_);show wpAny M A (if(gw T !=jm)=true then _ else _) Q E s;rw[if_pos (by simp)];exact pK hT hdT hs λh' o' sb g _ _ d=>k h' sb ⟨o',_,g,d,by rw[cy hs];rfl⟩
theorem tF{base:bx}{l:List Env}{a:ah}{o:Obj}{vs:Array af}(hl:s.heap.FunFrames base l)(e:s.heap.get? a=some o)(hd:o.data=.fields vs):a∉cN l:=λhm=>by obtain⟨_,o',e',nf⟩:=hl.mem hm;rw[e]at e';cases e';exact nf vs hd
theorem A5{base:bx}{env:Env}{outer:List Env}{L e:ah}{oe:Obj}{vs:Array af}{head a0:af}{nx:Bool}{Q:Unit->ag->Prop}(Cm:A.frames=some (env::outer))(hl:s.heap.FunFrames base (env::outer))(hf:env.frame=some L)(he:s.heap.get? e=some oe)(hd:oe.data=.fields vs)(hdn:oe.dict=none)(hsz:1<vs.size)(h0:vs[0]?=some a0)(k:∀h' T,Chg (cN (env::outer)) e T s.heap h'->cG oe.cls e T a0 h'->Q () {s with heap:=h'}):
  wpAny M A (do let a <-frameOf env;let pl <-entryPlaceOf L nx;let b <-xf head a .none (rawInt L) .none pl;setField (.ref e) 1 b)
   (λ_ s'=>wpAny M A (setFlight (.ref e) none) Q E s') E s:=by
 have ne:=tF hl he hd;refine ae (wpAny_frameOf_fun Cm hl hf λg1 so=>ae (wpAny_entryPlaceOf λpl Bc=>ae (HM Bc λob ts dt hts nf=>?_)));have e1:g1.get? e=some oe:=(so.2.1 e ne).trans he;have lt:e<g1.objs.size:=au e1;refine pK (s:={s with heap:=g1.push ob}) (ai _ e1) hd hsz λg2 oe2 sb2 ge c2 dn2 d2=>?_;have gT:g2.get? g1.objs.size=some ob:=sb2.extBut _ _ (ju lt) (ax _ nf);refine A4 (s:={s with heap:=g2}) ge d2 (T:=g1.objs.size) (by rw[cy hsz]) gT dt hts λg3 sb3 tb=>?_;have kp:∀b o,b≠e->g1.get? b=some o->g3.get? b=some o:=λb o hb q=>sb3.extBut _ _ (aw (au q)) (sb2.extBut _ _ hb (ai _ q));refine k g3 g1.objs.size ⟨nc so.1.symm,λb o hb hn q=>kp b o hb ((so.2.1 b hn).trans q),λb o hb q=>?_,tb⟩ ⟨oe2,_,sb3.extBut _ _ (aw lt) ge,c2,d2,?_,?_,dn2.trans hdn⟩
 ·obtain⟨sl,q'⟩:=so.2.2 b o q;exact⟨sl,kp b _ hb q'⟩
 ·rw[uw (by decide)];exact h0
 ·rw[cy hsz]
theorem UI{base:bx}{env:Env}{outer:List Env}{L e:ah}{oe:Obj}{vs:Array af}{a0:af}{Q:Unit->ag->Prop}(Cm:A.frames=some (env::outer))(hl:s.heap.FunFrames base (env::outer))(hf:env.frame=some L)(he:s.heap.get? e=some oe)(hd:oe.data=.fields vs)(hdn:oe.dict=none)(h0:vs[0]?=some a0)(h1:vs[1]?=some .none)(k:∀h' T,Chg (cN (env::outer)) e T s.heap h'->cG oe.cls e T a0 h'->Q () {s with heap:=h'}):
  wpAny M A (noteFrame (.ref e) env) (λ_ s'=>wpAny M A (setFlight (.ref e) none) Q E s') E s:=by
 unfold noteFrame;rw[hf];refine ae (dg he hd h1 ?_);exact A5 Cm hl hf he hd hdn (fq.mp h1).1 h0 k
theorem UJ{base:bx}{env:Env}{outer:List Env}{L e T:ah}{C a0:af}{Q:Unit->ag->Prop}(Cm:A.frames=some (env::outer))(hl:s.heap.FunFrames base (env::outer))(hf:env.frame=some L)(hx:cG C e T a0 s.heap)(ht:cW T s.heap)(hne:T≠e)(k:∀h' T',s.heap.objs.size<=T'->(∀b o,b≠e->b≠T->b∉cN (env::outer)->s.heap.get? b=some o->h'.get? b=some o)->(∀b o,b≠e->b≠T->s.heap.get? b=some o->∃sl,h'.get? b=some {o with slots:=sl})->
   cG C e T' a0 h'->cW T h'->cW T' h'->Q () {s with heap:=h'}):
  wpAny M A (noteFrame (.ref e) env) (λ_ s'=>wpAny M A (setFlight (.ref e) none) Q E s') E s:=by
 obtain⟨oe,vs,he,rfl,hd,h0,h1,hdn⟩:=hx;obtain⟨oT,ts,hT,hdT,h3⟩:=ht;have l3:3<ts.size:=(fq.mp h3).1;have nT:=tF hl hT hdT;unfold noteFrame;rw[hf];refine ae (dg he hd h1 ?_);rw[if_pos (by simp)];refine ae (dg hT hdT h3 ?_);rw[if_neg (by simp[rawInt])];refine ae (pK hT hdT l3 λg o' sb gT _ _ dT=>?_);have hl':g.FunFrames base (env::outer):=hl.of_keeps λb o q nf=>⟨o,sb.extBut _ _ (λz=>by subst z;rw[hT]at q;cases q;exact nf ts hdT) q,rfl⟩
 refine A5 (s:={s with heap:=g}) Cm hl' hf (sb.extBut _ _ (cp hne) he) hd hdn (fq.mp h1).1 h0 λh' T' c x=>?_;refine k h' T' (by rw[<-sb.1];exact c.new) (λb o n1 n2 n3 q=>c.keep b o n1 n3 (sb.extBut _ _ n2 q)) (λb o n1 n2 q=>c.slot b o n1 (sb.extBut _ _ n2 q)) x ⟨_,_,c.keep T _ hne nT gT,dT,?_⟩ c.tb;rw[cy l3]
end
theorem pL{P:bg}{w:bu}{H:Hp}{h:bx}{a:ah}{o:HO}(x:Ag P w H h a o):∃ob,h.get? a=some ob:=by
 cases o with
 |lst xs=>obtain⟨_,_,_,_,e⟩:=x;exact⟨_,e⟩
 |tup xs=>obtain⟨_,_,_,ob,e,_⟩:=x;exact⟨_,e⟩
 |dK kvs=>obtain⟨_,_,_,_,o,_,_,e,_⟩:=x;exact⟨_,e⟩
 |dT kvs=>obtain⟨_,_,_,_,o,_,_,e,_⟩:=x;exact⟨_,e⟩
 |set S n=>obtain⟨o,_,_,_,e,_⟩:=x;exact⟨_,e⟩
 |ins C dx fs=>obtain⟨_,_,_,e,_⟩:=x;exact⟨_,e⟩
 |own y=>exact x
 |xd fs=>obtain⟨_,⟨_,_,_,e,_⟩,_⟩:=x;exact⟨_,e⟩
 |rng lo hi=>obtain⟨_,_,_,e⟩:=x;exact⟨_,e⟩
 |frz ob u=>obtain⟨e,_⟩:=x;exact⟨_,e⟩
 |tbl ps=>exact⟨_,(show h.get? a=some _ from x)⟩
 |met f y=>exact⟨_,(show h.get? a=some _ from x)⟩
 |ext φ=>obtain⟨_,e,_⟩:=x;exact e
inductive Fly(base:bx)(H:Hp)(C:af)(e:ah):Prop
 |mk (T:_) (a0:_) (h0:H e=some (.ext (cG C e T a0))) (h1:H T=some (.ext (cW T))) (h2:base.get? e=none) (h3:T≠e):Fly base H C e
noncomputable def mF(e:ah)(H H':Hp):Prop:=∀b o,b≠e->H b=some o->H' b=some o
theorem UK{C a0:af}{e T:ah}{h1 h2:bx}(x:cG C e T a0 h1)(k:∀o,h1.get? e=some o->h2.get? e=some o):cG C e T a0 h2:=by obtain⟨oe,vs,he,r⟩:=x;exact⟨oe,vs,k oe he,r⟩
theorem UL{T:ah}{h1 h2:bx}(x:cW T h1)(k:∀o,h1.get? T=some o->h2.get? T=some o):cW T h2:=by obtain⟨oe,vs,he,r⟩:=x;exact⟨oe,vs,k oe he,r⟩
theorem wI{P:bg}{w:bu}{H:Hp}{h:bx}{C a0:af}{e T:ah}(x:cG C e T a0 h):Ag P w H h e (.ext (cG C e T a0)):=⟨x,(let ⟨oe,_,he,_⟩:=x;⟨oe,he⟩),λ_ _ y k=>UK y k⟩
theorem pM{P:bg}{w:bu}{H:Hp}{h:bx}{T:ah}(x:cW T h):Ag P w H h T (.ext (cW T)):=⟨x,(let ⟨oe,_,he,_⟩:=x;⟨oe,he⟩),λ_ _ y k=>UL y k⟩
section
variable{P:bg}{w:bu}{M:xq}{A:bq}{E:af->ag->Prop}{s:ag}{H:Hp}{base:bx}{env:Env}{outer:List Env}{L e:ah}{C:af}
theorem A6{Q:Unit->ag->Prop}(Cm:A.frames=some (env::outer))(hl:s.heap.FunFrames base (env::outer))(hf:env.frame=some L)(hok:Az P w H s.heap)(hfree:∀b∈cN (env::outer),H b=none)(fl:Fly base H C e)(k:∀h' H',Un (cN (env::outer)) [] H H' s.heap h'->Az P w H' h'->Fly base H' C e->mF e H H'->Q () {s with heap:=h'}):
  wpAny M A (noteFrame (.ref e) env) (λ_ s'=>wpAny M A (setFlight (.ref e) none) Q E s') E s:=by
 obtain⟨T,a0,he,hT,hb,hne⟩:=fl;have xe:cG C e T a0 s.heap:=(show Ag P w H s.heap e _ from hok e _ he).1;have xt:cW T s.heap:=(show Ag P w H s.heap T _ from hok T _ hT).1;refine UJ Cm hl hf xe xt hne λh' T' Bk keep slot x' t0 t'=>?_;have nT':H T'=none:=hok.fresh Bk;have eT':T'≠e:=(bY he nT').symm;have TT':T'≠T:=(bY hT nT').symm;have sx:mF e H (aF (aF H e (.ext (cG C e T' a0))) T' (.ext (cW T'))):=λb o Di q=>by rw[aM (bY q nT'),aM Di];exact q
 have ee:aF (aF H e (.ext (cG C e T' a0))) T' (.ext (cW T')) e=some (.ext (cG C e T' a0)):=by rw[aM (cp eT'),bP]
 refine k h' (aF (aF H e (.ext (cG C e T' a0))) T' (.ext (cW T'))) ?_ ?_ ⟨T',a0,ee,bP,hb,eT'⟩ sx
 ·have free:∀b o,s.heap.get? b=some o->H b=none->aF (aF H e (.ext (cG C e T' a0))) T' (.ext (cW T')) b=none:=λb o q n=>by have h1:b≠T':=aw (ar (au q) Bk);have h2:b≠e:=(bY he n).symm;rw[aM h1,aM h2];exact n
  refine⟨λb o q n hb _=>keep b o (bY he n).symm (bY hT n).symm hb q,λb o q n _ _=>slot b o (bY he n).symm (bY hT n).symm q,λb o q n _=>free b o q n,λb o q _=>?_,λb xs q=>?_,λb o u q=>?_,λb ps q=>?_⟩
  ·by_cases h1:b=e
   ·subst h1;obtain⟨oe,_,z,_⟩:=x';exact⟨oe,z⟩
   ·by_cases h2:b=T
    ·subst h2;obtain⟨oe,_,z,_⟩:=t0;exact⟨oe,z⟩
    ·obtain⟨sl,z⟩:=slot b o h1 h2 q;exact⟨_,z⟩
  ·exact sx b _ (eG q he (by intro z;cases z)) q
  ·exact sx b _ (eG q he (by intro z;cases z)) q
  ·exact⟨#[],by rw[sx b _ (eG q he (by intro z;cases z)) q];simp⟩
 ·intro a o q
  by_cases h1:a=T'
  ·subst h1;rw[bP]at q;cases q;exact pM t'
  ·rw[aM h1]at q
   by_cases h2:a=e
   ·subst h2;rw[bP]at q;cases q;exact wI x'
   ·rw[aM h2]at q
    by_cases h3:a=T
    ·subst h3;rw[hT]at q;cases q;exact pM t0
    ·have nf:a∉cN (env::outer):=λz=>by rw[hfree a z]at q;cases q
     refine(hok a o q).stay (λb u hb z=>?_) (λb z=>sx b _ (eG z he (by intro y;cases y)) z) λb xs z=>sx b _ (eG z he (by intro y;cases y)) z
     rcases hb with rfl|hb
     ·exact keep b u h2 h3 nf z
     ·exact keep b u (eG hb he (by intro y;cases y)) (eG hb hT (by intro y;cases y)) (λy=>by rw[hfree b y]at hb;cases hb) z
theorem HN{Q:Unit->ag->Prop}{h0:bx}{args:List af}(Cm:A.frames=some (env::outer))(hl:h0.FunFrames base (env::outer))(hf:env.frame=some L)(hok:Az P w H h0)(hfree:∀b∈cN (env::outer),H b=none)(hsb:∀b o,base.get? b=some o->h0.get? b=some o)(mx:Heap.MadeExcOf h0 s.heap e C args)(k:∀h' H',Un (cN (env::outer)) [] H H' h0 h'->Az P w H' h'->Fly base H' C e->Bn H H'->Q () {s with heap:=h'}):
  wpAny M A (noteFrame (.ref e) env) (λ_ s'=>wpAny M A (setFlight (.ref e) none) Q E s') E s:=by
 obtain⟨t,he,hnt,ht⟩:=mx.there;have hbn:base.get? e=none:=by
  cases q:base.get? e with
  |none=>rfl
  |some o=>have:=hsb e o q;rw[mx.new]at this;cases this
 have nH:H e=none:=by
  cases q:H e with
  |none=>rfl
  |some o=>
   have z:∀a o,H a=some o->h0.get? a≠none:=λa o q n=>by
    have lt:=hok.lt q;have:=(hok a o q)
    have ex:∃ob,h0.get? a=some ob:=pL this;obtain⟨ob,eo⟩:=ex;rw[n]at eo;cases eo
   exact absurd mx.new (z e o q)
 have hl1:s.heap.FunFrames base (env::outer):=hl.of_keeps λb o hb _=>⟨o,mx.keeps b o hb,rfl⟩
 refine UI Cm hl1 hf he rfl rfl (a0:=.ref t) rfl rfl λh' T c x=>?_;have ne_e:∀b o,h0.get? b=some o->b≠e:=λb o q z=>by subst z;rw[mx.new]at q;cases q
 have lt0:∀b o,h0.get? b=some o->b<T:=λb o q=>ar (au (mx.keeps b o q)) c.new;have nT:H T=none:=by
  cases q:H T with
  |none=>rfl
  |some o=>obtain⟨ob,eo⟩:=pL (hok T o q);exact absurd (lt0 T ob eo) (fe _)
 have eT:T≠e:=ju (ar (au he) c.new);have sm:Bn H (aF (aF H e (.ext (cG C e T (.ref t)))) T (.ext (cW T))):=λb o q=>by rw[aM (bY q nT),aM (bY q nH)];exact q
 refine k h' (aF (aF H e (.ext (cG C e T (.ref t)))) T (.ext (cW T))) ?_ ?_ ⟨T,.ref t,by rw[aM (cp eT),bP],bP,hbn,eT⟩ sm
 ·refine⟨λb o q n hb _=>c.keep b o (ne_e b o q) hb (mx.keeps b o q),λb o q n _ _=>c.slot b o (ne_e b o q) (mx.keeps b o q),λb o q n _=>?_,λb o q _=>?_,λb xs q=>sm b _ q,λb o u q=>sm b _ q,λb ps q=>⟨#[],by rw[sm b _ q];simp⟩⟩
  ·rw[aM (aw (lt0 b o q)),aM (ne_e b o q)];exact n
  ·obtain⟨sl,z⟩:=c.slot b o (ne_e b o q) (mx.keeps b o q);exact⟨_,z⟩
 ·intro a o q
  by_cases h1:a=T
  ·subst h1;rw[bP]at q;cases q;exact pM c.tb
  ·rw[aM h1]at q
   by_cases h2:a=e
   ·subst h2;rw[bP]at q;cases q;exact wI x
   ·rw[aM h2]at q;have nf:a∉cN (env::outer):=λz=>by rw[hfree a z]at q;cases q
    refine(hok a o q).stay (λb u hb z=>?_) (λb z=>sm b _ z) λb xs z=>sm b _ z
    rcases hb with rfl|hb
    ·exact c.keep b u (ne_e b u z) nf (mx.keeps b u z)
    ·exact c.keep b u (ne_e b u z) (λy=>by rw[hfree b y]at hb;cases hb) (mx.keeps b u z)
end
inductive CXo(P:bg)(w:bu)(base:bx)(outer:List Env)(H:Hp)(s:ag)(E:XK)(u:af)(s':ag):Prop
 |mk (e:ah) (C:af) (H':Hp) (h0:u=.ref e) (h1:s'.os=s.os) (h2:sh s'.gens) (h3:Un (cN outer) [] H H' s.heap s'.heap) (h4:Az P w H' s'.heap) (h5:Fly base H' C e) (h6:E u none H'):CXo P w base outer H s E u s'
noncomputable def aS(P:bg)(w:bu)(base:bx):iS:=CXo P w base
def UM(X:Cx)(E:XK):Prop:=∀(pins:List (ah×Obj))(σ:St)(H:Hp)(s:ag)(h':bx)(e:ah)(C:af)(args:List af),Inv X pins σ H s->Heap.MadeExcOf s.heap h' e C args->
 (∀H',Bn H H'->(∃T a0,H' e=some (.ext (cG C e T a0)))->E (.ref e) none H')->X.xe (.ref e) {s with heap:=h'}
structure Good(X:Cx)(G:Cfg)(E:XK)(k:Nat):Prop where
 calm:X.calm=true
 room:Aq k X.A
 K:X.K=G.K
 pas:lF (aS X.prog X.w X.base) X E
 own:PassesOwn (model X.prog X.w) X.A X.env X.xe
 rais:UM X E
def wJ(E:XK):Prop:=∀e H H',mF e H H'->(∃C T a0 T' a0',H e=some (.ext (cG C e T a0))/\(∃h,cG C e T a0 h)/\H' e=some (.ext (cG C e T' a0')))->E (.ref e) none H->E (.ref e) none H'
section
variable{P:bg}{w:bu}{K:ak}{mg:Str->Option af}{base:bx}{N:zu}{qual:Str}{scope:dj}{f:ah}{cdv:af}{A:bq}{outer:List Env}{s0:ag}{H0:Hp}{E0:XK}{G:Cfg}{E:XK}{k:Nat}
theorem wK(hr:Aq k (A.deeper (envOfC qual scope s0.heap.objs.size f cdv)))(hK:K=G.K)(hE:∀u H',E u none H'->E0 u none H')(hF:wJ E):
  Good (eK (aS P w base) P w K mg base N qual scope f cdv A outer s0 H0 E0) G E k where
 calm:=rfl
 room:=hr
 K:=hK
 own:=yn
 pas:=by intro pins σ H s u s' I ⟨e,C,H',eu,os,bare,un,hok,fl,he⟩;subst eu;have I':=I.call' os un hok bare (λb z=>absurd z (by simp));refine ae (A6 (P:=P) (w:=w) (H:=H') (base:=base) I'.ok.frames I'.stack rfl hok I'.stkFree fl λDr H'' un2 Bq Cz sx=>?_);have I2:=I'.call (h':=Dr) (g':=s'.gens) (d':=s'.drawn) (t':=s'.toks) un2 Bq I'.bare (λb z=>absurd z (by simp));obtain⟨T,a0,h1,_⟩:=id fl;obtain⟨T2,a2,h3,_⟩:=id Cz;have xe1:cG C e T a0 s'.heap:=(show Ag P w H' s'.heap e _ from hok e _ h1).1;have:E (.ref e) none H'':=hF e H' H'' sx ⟨C,T,a0,T2,a2,h1,⟨_,xe1⟩,h3⟩ he;exact⟨e,C,H'',rfl,I2.os,I2.bare,I2.base,Bq,Cz,hE _ _ this⟩
 rais:=by intro pins σ H s h' e C args I mx he;refine ae (HN (P:=P) (w:=w) (H:=H) (base:=base) I.ok.frames I.stack rfl I.hok I.stkFree I.bk mx λDr H'' un2 Bq Cz sm=>?_);have I2:=I.call (h':=Dr) (g':=s.gens) (d':=s.drawn) (t':=s.toks) un2 Bq I.bare (λb z=>absurd z (by simp));obtain⟨T2,a2,h3,_⟩:=id Cz;exact⟨e,C,H'',rfl,I2.os,I2.bare,I2.base,Bq,Cz,hE _ _ (he H'' sm ⟨T2,a2,h3⟩)⟩
theorem dJ{X:Cx}{sc:dj}{N':zu}{s:ag}{H:Hp}{ex:List ah}(g:Good X G E k):Good (bK X sc N' s H ex) G L2.E0 k where
 calm:=g.calm
 room:=g.room
 K:=g.K
 own:=PassesOwn.never
 pas:=λ_ _ _ _ _ _ _⟨_,_,_,_,_,_,_,_,_,z⟩=>z
 rais:=λ_ _ H s h' e C args I mx he=>by
  have nH:H e=none:=by
   cases q:H e with
   |none=>rfl
   |some o=>obtain⟨ob,eo⟩:=pL (I.hok e o q);rw[mx.new]at eo;cases eo
  exact he (aF H e (.ext (cG C e 0 .none))) (cJ nH) ⟨0,.none,bP⟩
noncomputable def dF(n:Nat)(ds:zw):Ev:=ds.map some++wq (n-ds.length) none
noncomputable def cL:Sr->Rs Dv
 |.rt d h=>.ok d h
 |.nx _ h=>.ok .non h
 |.ex c h=>.ex c h
 |_=>.bad
def aT(np n:Nat)(mb:MS):zv:=λds h=>if ds.length=np then cL (mb (dF n ds) h)else .bad
inductive SPo(G:Cfg)(F:zv)(vs:Ez)(H:Hp)(Q:VK)(E:XK):Prop
 |mk (μ:Nat->ah) (h:Hs) (ds:zw) (r:RelDL G μ h.length H ds vs) (s:Ai G μ h H) (o:Out G E μ h.length H (F ds h) (Ac G) Q):SPo G F vs H Q E
noncomputable def bA(G:Cfg)(F:zv):Sp:=SPo G F
theorem tG{μ:Nat->ah}{n:Nat}{H:Hp}{ds:zw}{vs:Ez}(r:RelDL G μ n H ds vs)(N:zu):Ah G μ n H (dF N.length ds) (start N vs):=by
 have hl:=r.length;refine⟨by simp[dF,start,hl],λi d e=>?_⟩;unfold dF at e
 by_cases hi:i<ds.length
 ·rw[di (by simpa using hi),fx]at e
  cases q:ds[i]? with
  |none=>rw[q]at e;cases e
  |some d'=>rw[q]at e;cases e;obtain⟨v,e1,r1⟩:=r.get q;refine⟨v,?_,r1⟩;unfold start;rw[di (by simp;lia),fx,e1];rfl
 ·rw[gz (by simpa using hi),rn]at e
  split at e<;>cases e
noncomputable def EB(G:Cfg)(μ0:Nat->ah)(n0:Nat)(H0:Hp)(r:Sr):XK:=λu _ H'=>∃c h' μ',r=.ex c h'/\Ext μ0 n0 H0 μ' h'.length H'/\Ai G μ' h' H'/\FlyE G H' c u
theorem Ai.sameX{μ:Nat->ah}{h:Hs}{H H':Hp}{e:ah}(s:Ai G μ h H)(sx:mF e H H')(hx:∃φ,H e=some (.ext φ)):Ai G μ h H'/\∀(n:Nat),Ext μ n H μ n H':=by
 obtain⟨φ,hx⟩:=hx;have x:∀n:Nat,Ext μ n H μ n H':=λn=>⟨aq _,λ_ _=>rfl,λa o i q=>sx a o (by rintro rfl;rw[hx]at q;cases q;exact i) q⟩
 refine⟨⟨s.inj,λi o q=>?_,s.tab.keep λa o _ n2 q=>sx a o (by rintro rfl;rw[hx]at q;cases q;exact n2 _ rfl) q⟩,x⟩;have r:=s.ob i o q
 cases o with
 |lst xs=>obtain⟨vs,e1,r1⟩:=r;exact⟨vs,sx _ _ (eG e1 hx (by intro z;cases z)) e1,Eb (x _) _ _ r1⟩
 |clo k t=>exact r.clo (x _)
 |dct ks=>exact sx _ _ (eG r hx (by intro z;rcases sQ ks with⟨_,e⟩|⟨_,e,_⟩<;>rw[e]at z<;>cases z)) r
 |ins xs=>obtain⟨dx,vs,e1,r1⟩:=r;exact⟨dx,vs,sx _ _ (eG e1 hx (by intro z;cases z)) e1,Eb (x _) _ _ r1⟩
theorem tH{μ0:Nat->ah}{n0:Nat}{H0:Hp}{r:Sr}:wJ (EB G μ0 n0 H0 r):=by intro e H H' sx ⟨C,T,a0,T',a0',h1,⟨hp,hx⟩,h3⟩ ⟨c,h',μ',er,x,s,e',φ,eu,h4,h5⟩;cases eu;obtain⟨s2,x2⟩:=s.sameX sx ⟨_,h1⟩;refine⟨c,h',μ',er,x.trans (x2 _),s2,e,_,rfl,h3,λhh z=>?_⟩;rw[h1]at h4;cases h4;obtain⟨o,g1,g2⟩:=h5 hp hx;obtain⟨oe,vs,g3,g4,_⟩:=hx;rw[g3]at g1;cases g1;obtain⟨oe',Bh,g5,g6,_⟩:=z;exact⟨oe',g5,by rw[g6,<-g4,g2]⟩
theorem cE{x qual:Str}{st:fj}{fd:ay}{ps:zu}{mb:MS}(Fn:Fun K x qual st f fd)(S:Ab N ps (aI st))(hK:K=G.K)(Aw:∀(cdv:af)(A:bq)(outer:List Env)(s:ag)(H:Hp)(E₀ E:XK),Good (eK (aS P w base) P w K mg base N qual (aI st) f cdv A outer s H E₀) G E k->iI (eK (aS P w base) P w K mg base N qual (aI st) f cdv A outer s H E₀) G E (gJ st) mb):
  Af P w K mg base (aS P w base) (k+1) f fd ps (bA G (aT ps.length N.length mb)):=by
 obtain⟨oc,od,kV,doc,pm,an,cdv,ct,osl,rfl,lk,hcd⟩:=Fn.ex;have hlen:∀vs H Q E,bA G (aT ps.length N.length mb) vs H Q E->vs.length=ps.length:=λvs H Q E⟨μ,h,ds,r,sm,o⟩=>by
  rw[r.length];unfold aT at o
  by_cases hd:ds.length=ps.length
  ·exact hd
  ·rw[if_neg hd]at o;exact o.elim
 refine vJ lk hcd S hlen λA outer s H vs Q E hr hsp=>?_;have hl:=hlen _ _ _ _ hsp;obtain⟨μ,h,ds,r,sm,o⟩:=hsp;have o':Out G E μ h.length H (cL (mb (dF N.length ds) h)) (Ac G) Q:=by unfold aT at o;rw[if_pos (by rw[<-r.length];exact hl)]at o;exact o
 refine⟨_,Aw cdv A outer s H E (EB G μ h.length H (mb (dF N.length ds) h)) (wK hr hK (λu H'⟨c,h',μ',er,x,s',fl⟩=>?_) tH) hK,?_⟩
 ·rw[er]at o';exact o' μ' H' u x s' fl
 ·refine⟨μ,dF N.length ds,h,tG r N,sm,?_⟩
  cases q:mb (dF N.length ds) h with
  |bad=>rw[q]at o';exact o'.elim
  |bk ρ h'=>rw[q]at o';exact o'.elim
  |ct ρ h'=>rw[q]at o';exact o'.elim
  |rt d h'=>rw[q]at o';exact o'
  |nx ρ h'=>rw[q]at o';exact λμ' H' σ' x' s' rs'=>o' μ' H' .non x' s' rfl
  |ex c h'=>exact λμ' H' u x' s' fl=>⟨c,h',μ',rfl,x',s',fl⟩
theorem UN{X:Cx}{F:zv}{ps:zu}{fd:ay}{x:Str}{p pos:Pos}{e:ba}{es:List ba}{ms:M zw}{j:Nat}(g:Good X G E k)(Fn:Af X.prog X.w X.K X.mg X.base (aS X.prog X.w X.base) j f fd ps (bA G F))(hj:j<=k)(hg:Gl X x)(hm:X.mg x=some (.ref f))(hk:iu X.K (.ref f)=true)(hb:Binds X.K fd ps [])(ha:dH X G E (e::es) ms)(Cd:(x==Ey)=false:=by decide)(he:ao (e::es) X.env=(false,eval e X.env)::ao es X.env:=by rfl)(Bc:(backTo pos (ao es X.env)).any (·.1)=false:=by rfl):
  aB X G E (.Call (.Name x p) (e::es) [] pos) (aE F ms):=λhK=>
 Eg (FX Fn (g.room.mono hj) hg hm hk hb .nil g.pas (ha hK) Cd he Bc) λσ H Q⟨μ,ρ,h,rs,s,o⟩=>kG rs s o λμ1 ds1 h1 vs H1 x1 Ak s1 r1 o1=>by rw[jz];exact⟨μ1,h1,ds1,r1,s1,o1⟩
end
abbrev kL:List af:=[.type "ValueError",.type "Exception",.type "BaseException",.type "object"]
theorem UO{K:ak}{mg:Str->Option af}{base:bx}(p:bg)(m:Mod K mg base):∃loose mb,PySem.W.TopRead p loose mg mb base:=by
 obtain⟨mb,hb,hbb⟩:=m.blt;obtain⟨o,es,ep,ho,hd,hk,hf⟩:=id m.glob;refine⟨es.toList.filterMap λe=>match e.key with
  |.str n _=>some n
  |_=>none,mb,m.glob,hb,m.nolimit,hbb,λx _ hx _ _ _=>?_⟩
 rw[<-hf x]
 cases q:nsFind es x with
 |none=>rfl
 |some v=>
  exfalso
  apply hx
  unfold nsFind findBy at q;obtain⟨e,he,_⟩:=Option.map_eq_some_iff.mp q;have h1:=Array.find?_some he;have h2:=Array.mem_of_find?_eq_some he;obtain⟨n,t,hn⟩:=hk e h2;rw[hn]at h1;have h3:n=x:=by simpa[Value.isStr]using h1
  exact ko.mpr ⟨e,by simpa using h2,by rw[hn,h3]⟩
section
variable{k:Nat}{x:Str}{C:ah}{np cpos pos:Pos}{e:ba}{es:List ba}{t:TA}{ms:M zw}{c:Nat}
theorem HP(g:Good X G E k)(hg:Gl X x)(hm:X.mg x=some (.ref C))(hns:jr X.K bz x=some (some (.ref C)))(hx:jb X.K C kL "ValueError.__new__"=true)(ha:PA X (e::es) t)(hd:(x==Ey)=false:=by decide)(he:ao (e::es) X.env=(false,eval e X.env)::ao es X.env:=by rfl)(Bc:(backTo cpos (ao es X.env)).any (·.1)=false:=by rfl):
  PS X (.Raise (some (.Call (.Name x np) (e::es) [] cpos)) none pos) (λ_ σ H=>t σ H λvs H1=>vs.length<=bj/\∀e H',Bn H1 H'->(∃T a0,H' e=some (.ext (cG (.ref C) e T a0)))->E (.ref e) none H'):=by
 intro pins s σ H D I h;obtain⟨bm,N,nm,q,bs,hdct,sn,sub,ab,col,dd,k0,k1,k2,k3,k5,mN,hC,hN,hni,T⟩:=(let ⟨_,_,tr⟩:=UO X.prog I.ok.mod;PySem.W.own_of_in I.ok.mod.kin tr hns hx).obj;refine wpAny_Raise_call_subU (C:=C) (nm:=nm) (q:=q) (N:=N) (bs:=bs) (bm:=bm) (hdct:=hdct) (sn:=sn) (sub:=sub) (ab:=ab) (col:=col) (dd:=dd) (k0:=k0) (k1:=k1) (k2:=k2) (k3:=k3) (k5:=k5)
  ve (by decide) ve (mN:=mN) (T.hasType (by decide)) (I.ok.hd g.calm) (by rw[he];show(false||(backTo cpos (ao es X.env)).any (·.1))=false;rw[Bc];rfl) hni (qH I hg hm ⟨rfl,?_⟩ hd)
 have hh:=ha cpos pins s σ H _ I h;rw[he]at hh⊢;refine oh (aH hh λus s2⟨vs,H2,I2,r,hz,w⟩=>⟨rfl,by rw[<-r.length];exact hz,I2.bk _ _ hC,hN.keeps I2.bk,T.keeps I2.bk,λh' e' mx=>?_⟩);exact g.rais pins σ H2 s2 h' e' _ _ I2 mx λH' sm z=>w e' H' sm z
theorem HQ{H:Hp}{e:ah}(hc:C=G.cl c)(z:∃T a0,H e=some (.ext (cG (.ref C) e T a0))):FlyE G H c (.ref e):=by obtain⟨T,a0,z⟩:=z;exact⟨e,_,rfl,z,λh⟨oe,vs,h1,h2,_⟩=>⟨oe,h1,by rw[h2,hc]⟩⟩
noncomputable def gL(c:Nat)(ms:M zw ):MS:=λρ h=>(ms ρ h).thenS λds h1=>if ds.length<=1000 then .ex c h1 else .bad
theorem mG(g:Good X G E k)(hg:Gl X x)(hm:X.mg x=some (.ref C))(hns:jr X.K bz x=some (some (.ref C)))(hx:jb X.K C kL "ValueError.__new__"=true)(hc:C=G.cl c)(ha:dH X G E (e::es) ms)(hd:(x==Ey)=false:=by decide)(he:ao (e::es) X.env=(false,eval e X.env)::ao es X.env:=by rfl)(Bc:(backTo cpos (ao es X.env)).any (·.1)=false:=by rfl):
  fL X G E (.Raise (some (.Call (.Name x np) (e::es) [] cpos)) none pos) (gL c ms):=λhK=>PS.imp (HP g hg hm hns hx (ha hK) hd he Bc) λD σ H⟨μ,ρ,h,rs,s,o⟩=>
 ⟨μ,ρ,h,rs,s,(o.thenS (R:=RelDL G)).mono λvs H1⟨μ1,ds,h1,x1,s1,r1,o1⟩=>by
  split at o1
  ·rename_i hl;refine⟨by rw[r1.length];exact cm hl (by decide),λe' H' sm z=>?_⟩;exact o1 μ1 H' (.ref e') (Ed sm) (s1.same sm) (HQ hc z)
  ·exact o1.elim⟩
noncomputable def A7(X:Cx)(p:ba)(cond:St->Prop):Prop:=∀(pins:List (ah×Obj))(s:ag)(σ:St)(H:Hp),Inv X pins σ H s->cond σ->
 wpAny (model X.prog X.w) X.A (eval p X.env) (λu s'=>∃y t,u=.str y t/\y.length<=1000/\Inv X pins σ H s') X.xe s
theorem HR{y:Str}{j:Nat}{p:Pos}(h:y.length<=1000):A7 X (.Constant (.str y) j p) (λ_=>True):=λpins s σ H I _=>aH (FA (X:=X) pins s σ H (λv H'=>v=.str y/\H'=H) I ⟨rfl,rfl⟩) λu s'⟨v,H',I',r,hv,hH⟩=>by subst hv;subst hH;obtain⟨t,rfl⟩:=r;exact⟨y,t,rfl,h,I'⟩
theorem HS{a:Int}(h:sX a=true):a.natAbs.log2<1920/\(toString a:Str).length<=1000:=by
 have hn:a.natAbs<2^64:=by
  simp only[sX,dh,decide_eq_true_eq]at h
  lia
 have hlog:a.natAbs.log2<64:=by
  by_cases h0:a.natAbs=0
  ·rw[h0];decide
  ·exact(Nat.log2_lt h0).mpr hn
 refine⟨by lia,?_⟩;have e:=int_text_length_le (k:=64) (by decide) hlog;rw[PySem.ofString_length]
 lia
theorem HU{i:Nat}{y:Str}{p q:Pos}(hv:PE X (.Name y p) (vC i)):A7 X (.FormattedValue (.Name y p) (-1) none q) (λσ=>∃a,σ[i]?=some (some (.int a))/\sX a=true):=by intro pins s σ H I ⟨a,e,ha⟩;refine FormattedValue_plain (aH (hv pins s σ H (λv H'=>v=.int a/\H'=H) I ⟨_,e,rfl,rfl⟩) λu s1⟨v,H',I',r,e1,e2⟩=>?_);subst e1;subst e2;obtain⟨t,rfl⟩:=r;exact formatField_int_small (HS ha).1 ⟨_,_,rfl,(HS ha).2,I'.tok _⟩
inductive Cg(X:Cx):List ba->(St->Prop)->Prop
 |nil:Cg X [] (λ_=>True)
 |cons {p:ba}{ps:List ba}{a b:St->Prop}:A7 X p a->Cg X ps b->Cg X (p::ps) (λσ=>a σ/\b σ)
theorem UP{ps:List ba}{cond:St->Prop}(h:Cg X ps cond):∀(out:Str)(pins:List (ah×Obj))(s:ag)(σ:St)(H:Hp),Inv X pins σ H s->cond σ->out.length+1000*ps.length<=bj->
  wpAny (model X.prog X.w) X.A (joinParts out (evalEach ps X.env)) (λu s'=>∃y t,u=.str y t/\Inv X pins σ H s') X.xe s:=by
 induction h with
 |nil=>intro out pins s σ H I _ hl;exact joinParts_nil ⟨_,_,rfl,I.tok _⟩ (by simpa using hl)
 | @cons p ps a b hp hr ih=>intro out pins s σ H I ⟨ca,cb⟩ hl;rw[br]at hl;have e1:evalEach (p::ps) X.env=eval p X.env::evalEach ps X.env:=rfl;rw[e1];refine joinParts_cons (aH (hp pins s σ H I ca) λu s1⟨y,t,eu,hy,I1⟩=>?_);subst eu;have hz:(out++y).length=out.length+y.length:=strLen_append ..;refine⟨by lia,ih (out++y) pins s1 σ H I1 cb (by lia)⟩
theorem UQ{p1 p2:ba}{ps:List ba}{cond:St->Prop}(h:Cg X (p1::p2::ps) cond)(hl:1000*(ps.length+2)<=bj:=by decide):
  PE X (.JoinedStr (p1::p2::ps) pos) (λσ H Q=>cond σ/\∀y,Q (.str y) H):=by
 intro pins s σ H Q I ⟨c,q⟩;refine JoinedStr_many ?_;have e1:eval p1 X.env::eval p2 X.env::evalEach ps X.env=evalEach (p1::p2::ps) X.env:=rfl;rw[e1];refine aH (UP h jo pins s σ H I c (by have:jo.length=0:=rfl;rw[this,br,br];lia)) λu s'⟨y,t,eu,I'⟩=>?_;exact⟨.str y,H,I',⟨t,eu⟩,q y⟩
def A8(c:Nat)(slots:zt):MS:=λρ h=>if slots.all (λi=>match ρ[i]? with
 |some (some (.int a))=>sX a
 |_=>false)=true then .ex c h else .bad
theorem UR{p1 p2:ba}{ps:List ba}{cond:St->Prop}{slots:zt}{fpos:Pos}(g:Good X G E k)(hg:Gl X x)(hm:X.mg x=some (.ref C))(hns:jr X.K bz x=some (some (.ref C)))(hx:jb X.K C kL "ValueError.__new__"=true)(hc:C=G.cl c)(h:Cg X (p1::p2::ps) cond)(hcond:∀σ,(∀i∈slots,∃a,σ[i]?=some (some (.int a))/\sX a=true)->cond σ)(hl:1000*(ps.length+2)<=bj:=by decide)(hd:(x==Ey)=false:=by decide)(he:ao [.JoinedStr (p1::p2::ps) fpos] X.env=[(false,eval (.JoinedStr (p1::p2::ps) fpos) X.env)]:=by rfl):
  fL X G E (.Raise (some (.Call (.Name x np) [.JoinedStr (p1::p2::ps) fpos] [] cpos)) none pos) (A8 c slots):=λhK=>PS.imp (HP g hg hm hns hx (iR (UQ h hl) jJ he) hd he rfl) λD σ H⟨μ,ρ,hh,rs,s,o⟩=>by
 unfold A8 at o
 split at o
 ·rename_i ha;refine⟨hcond σ λi hi=>?_,λy=>⟨by show 1<=bj;decide,λe' H' sm z=>o μ H' (.ref e') (Ed sm) (s.same sm) (HQ hc z)⟩⟩;have:=fv.mp ha i hi
  cases q:ρ[i]? with
  |none=>rw[q]at this;cases this
  |some o1=>
   cases o1 with
   |none=>rw[q]at this;cases this
   |some d=>
    cases d with
    |int a=>rw[q]at this;obtain⟨v,e1,r1⟩:=rs.at_ i _ q;rw[Ac]at r1;subst r1;exact⟨a,e1,this⟩
    |_=>rw[q]at this;cases this
 ·exact o.elim
end
open PySem.W
section
variable{prog:bg}{w:bu}{A:bq}{E:af->ag->Prop}{h:bx}{g:Array GenState}{d:Drawn}{t:Nat}{os:OsState}{a C:ah}{o:Obj}{K:Frag}
structure Bv(K:Frag)(C:ah):Prop where
 ga:findIn K (.ref C) "__getattribute__"=some (some (.builtin "BaseException.__getattribute__"))
 ng:findIn K (.ref C) "__getattr__"=some none
 cl:findIn K (.ref C) "__class__"=some (some (.builtin "object.__class__"))
 ob:mroIn K C (.type "object")=some true
 be:subIn K (.ref C) (.type "BaseException")=some true
 se:kitCls K (.ref C) (.ref C)=some true
 lk:∃oc od cd osl,K.lookup C=some ⟨oc,od,.cls cd,osl⟩
theorem kindGa:builtinKind "BaseException.__getattribute__"=some .slot/\splitId "BaseException.__getattribute__"=some ("BaseException","__getattribute__"):=by decide+kernel
theorem US:(qt "BaseException.__getattribute__"==qt "object.__getattribute__")=false:=by decide+kernel
section
variable{R:sv->ag->Prop}{s:ag}
theorem UT{M:xq}{n:af}{Q:Unit->ag->Prop}(X:K.In s.heap)(I:InstAt s.heap a o C none)(k:Bv K C)(hq:Q () s):wpAny M A (checkBuiltinCall "BaseException.__getattribute__" ⟨[.ref a,n],[]⟩) Q E s:=by
 have one:Looks M s.heap (isInstance (.ref a) (.type "BaseException")) true:=I.type.andThen (looks_subIn X k.be);have two:=F.args_bexc_ga (.ref a) n;obtain⟨hh,g,d,t,os⟩:=s;unfold checkBuiltinCall;rw[kindGa.1,kindGa.2];refine ae (one.at ?_)
 repeat (first|assumption|wp_step)
theorem UU{n:Tok}(X:K.In s.heap)(I:InstAt s.heap a o C none)(k:Bv K C)(hq:R (.ok (.ret (.ref C))) s):codeAny (model prog w) A (.call (.builtin "BaseException.__getattribute__") ⟨[.ref a,.str "__class__" n],[]⟩) R s:=by
 refine pw F.excAttr_ValueError.ga.plain F.entry_bexc_ga (UT X I k ?_);have own:=I.type (M:=model prog w);have entry:=looks_findIn (M:=model prog w) X k.cl;have of_get:=F.slot_gs_get.lookup;have of_set:=F.slot_gs_set.lookup;have kind:=F.typeOf_object_class;have kindIs:s.TypeIs (.builtin "object.__class__") "getset_descriptor":=kind;obtain⟨hh,g,d,t,os⟩:=s
 repeat (any_goals (first|assumption|with_reducible refine own.at ?_|with_reducible refine entry.at ?_|wp_step))
 exact class_get (s:=⟨hh,g,d,t,os⟩) X I k.ob (by repeat (any_goals (first|assumption|wp_step)))
end
theorem UW{Q:Option af->ag->Prop}(X:K.In h)(I:InstAt h a o C none)(k:Bv K C)(hq:Q (some (.ref C)) ⟨h,g,d,t+1,os⟩):
  wpAny (model prog w) A (getAttr? (.ref a) "__class__") Q E ⟨h,g,d,t,os⟩:=by
 have own:=I.type (M:=model prog w);have first_:=looks_findIn (M:=model prog w) X k.ga;have then_:=looks_findIn (M:=model prog w) X k.ng;have bound:=F.excAttr_ValueError.ga.bind (.ref a);have other:=US;have apart:(onTheHeap (gw C)&&qt "BaseException.__getattribute__"==qt "object.__getattribute__")=false:=by rw[other];rfl
 unfold getAttr? getAttrBy?
 repeat (any_goals (first|assumption|with_reducible refine own.at ?_|with_reducible refine first_.at ?_|with_reducible refine then_.at ?_|wp_step))
 exact UU X I k (by repeat (any_goals (first|assumption|wp_step)))
noncomputable def UX(a C:ah)(h:bx):Prop:=∃o,InstAt h a o C none
theorem UY(k:Bv K C):KitX K (.ref a) (.ref C) (UX a C) where
 ty:=λ_ _ _⟨_,I⟩=>I.type
 it:=λ_ _ X _=>(kit_cls X k.se).2.1
 ne:=λh tp dd its n sl X htp=>by
  cases z:(gw C==gw tp)with
  |false=>rfl
  |true=>
   obtain rfl:C=tp:=by simpa using z
   obtain⟨oc,od,cd,osl,lk⟩:=k.lk;have:=X _ _ lk;rw[htp]at this;simp at this
 ca:=λ{prog w A E Q s}X⟨o,I⟩hq=>by obtain⟨hh,g,d,t,os⟩:=s;exact UW X I k hq
end
inductive Ty where
 |non|bl|int|str|tup|lst|dct|exc (c:Nat)
def mH:Dv->Hs->Option Ty
 |.non,_=>some .non
 |.bl _,_=>some .bl
 |.int _,_=>some .int
 |.str _,_=>some .str
 |.tup _,_=>some .tup
 |.ref i,h=>match getL h i with
  |some _=>some .lst
  |none=>none
 |.edc,_=>some .dct
 |.exc c,_=>some (.exc c)
 |.scr,_=>none
noncomputable def nQ(cl:Nat->ah):Ty->af
 |.non=>.type "NoneType"
 |.bl=>.type "bool"
 |.int=>.type "int"
 |.str=>.type "str"
 |.tup=>.type "tuple"
 |.lst=>.type "list"
 |.dct=>.type "dict"
 |.exc c=>.ref (cl c)
def bR(f:Ty->Option Bool)(d:Dv)(h:Hs):Rs Dv:=match mH d h with
 |some ty=>match f ty with
  |some b=>.ok (.bl b) h
  |none=>.bad
 |none=>.bad
section
variable{pins:List (ah×Obj)}{σ:St}{H:Hp}{s:ag}
theorem UZ{μ:Nat->ah}{h:Hs}{d:Dv}{v:V}{u:af}{ty:Ty}(I:Inv X pins σ H s)(sm:Ai G μ h H)(r:Ac G μ h.length H d v)(ru:RelV v u)(e:mH d h=some ty)(hex:∀c,ty=.exc c->Bv X.K (G.cl c)):
  ∃P,KitX X.K u (nQ G.cl ty) P/\P s.heap/\u≠.builtin "__main__.__loader__#opaque":=by
 cases d with
 |non=>cases e;rw[Ac]at r;subst r;cases ru;exact⟨_,kitx_none,trivial,λz=>nomatch z⟩
 |bl b=>cases e;rw[Ac]at r;subst r;cases ru;exact⟨_,kitx_bool,trivial,λz=>nomatch z⟩
 |int i=>cases e;rw[Ac]at r;subst r;obtain⟨t,rfl⟩:=ru;exact⟨_,kitx_int,trivial,λz=>nomatch z⟩
 |str i=>cases e;rw[Ac]at r;subst r;obtain⟨t,rfl⟩:=ru;exact⟨_,kitx_str,trivial,λz=>nomatch z⟩
 |tup ds=>
  cases e;obtain⟨a,vs,rfl,ea,_⟩:=r;cases ru;obtain⟨_,_,_,o,h1,h2,_⟩:=(show Ag X.prog X.w H s.heap a (.tup vs) from I.hok a _ ea)
  exact⟨_,kitx_tuple,⟨o,h1,h2⟩,λz=>nomatch z⟩
 |ref i=>
  dsimp only[mH]at e
  cases g:getL h i with
  |none=>rw[g]at e;cases e
  |some xs=>
   rw[g]at e;cases e;obtain⟨_,rfl⟩:=r;cases ru;obtain⟨vs,ea,_⟩:=sm.ob i _ (eL g);obtain⟨_,_,n,_,h1⟩:=(show Ag X.prog X.w H s.heap (μ i) (.lst vs) from I.hok _ _ ea)
   exact⟨_,kitx_list,⟨_,h1,rfl⟩,λz=>nomatch z⟩
 |edc=>
  cases e;obtain⟨a,rfl,ea⟩:=r;cases ru;obtain⟨_,_,vs,_,p⟩:=(show Ag X.prog X.w H s.heap a (.dK []) from I.hok a _ ea)
  obtain⟨o,es,ep,h1,h2,_⟩:=p;exact⟨_,kitx_dict,⟨o,h1,h2.1⟩,λz=>nomatch z⟩
 |exc c=>
  cases e;obtain⟨a,o,uo,rfl,ea,hc,hdn,vs,hd⟩:=r;cases ru;obtain⟨h1,_⟩:=(show Ag X.prog X.w H s.heap a (.frz o uo) from I.hok a _ ea)
  refine⟨_,UY (hex c rfl),⟨o,h1,hc,?_,?_⟩,λz=>nomatch z⟩
  ·unfold notCls;rw[hd]
  ·rw[hdn];trivial
 |scr=>cases e
end
section
variable{a b:ba}{ma:M Dv}{p pos:Pos}{f:Ty->Option Bool}
theorem VA:cx "isinstance"=some (.builtin "isinstance"):=by decide+kernel
def HV(G:Cfg)(f:Ty->Option Bool)(c:V):Ez->Hp->VK->Prop:=λxs H Q=>∃μ h d v ty bb,xs=[v,c]/\Ai G μ h H/\Ac G μ h.length H d v/\mH d h=some ty/\f ty=some bb/\Q (.bl bb) H
theorem VB{c:V}{u:af}(hc:(∃T,c=.ty T)∨∃C,c=.ref C)(rc:RelV c u)(hf:∀ty bb,f ty=some bb->kitOne X.K (nQ G.cl ty) u=some bb)(hex:∀c bb,f (.exc c)=some bb->Bv X.K (G.cl c)):Am X (.builtin "isinstance") (HV G f c):=by
 intro pins s σ H xs us Q I rv ⟨μ,h,d,v,ty,bb,e1,sm,r,et,ef,q⟩;subst e1;obtain⟨u1,u2,rfl,r1,r2⟩:=FR rv;have e2:u2=u:=by rcases hc with⟨T,rfl⟩|⟨C,rfl⟩<;>(cases rc;cases r2;rfl)
 subst e2;obtain⟨P,Z,hP,hne⟩:=UZ I sm r r1 et (λc z=>by subst z;exact hex c bb ef);exact kia_one Z I.kIn hP (hf ty bb ef) hne λtk=>⟨.bl bb,H,I.tok _,rfl,q⟩
theorem qS{x:Str}{T:String}(hg:Gl X x)(hm:X.mg x=none)(hv:cx x=some (.type T))(hn:x≠"__name__":=by decide)(hd:(x==Ey)=false:=by decide):PE X (.Name x pos) (tC (.ty T)):=λpins s σ H Q I h=>oS I hg hm hv ⟨.ty T,H,I,rfl,h⟩ hn hd
theorem pN{c:V}{u:af}(hg:Gl X "isinstance")(hm:X.mg "isinstance"=none)(ha:aB X G E a ma)(hb:PE X b (tC c))(hc:(∃T,c=.ty T)∨∃C,c=.ref C)(rc:RelV c u)(hf:∀ty bb,f ty=some bb->kitOne G.K (nQ G.cl ty) u=some bb)(hex:∀c bb,f (.exc c)=some bb->Bv G.K (G.cl c))(he:ao [a,b] X.env=[(false,eval a X.env),(false,eval b X.env)]:=by rfl)(he2:ao [b] X.env=[(false,eval b X.env)]:=by rfl):
  aB X G E (.Call (.Name "isinstance" p) [a,b] [] pos) (m1 (bR f) ma):=λhK=>
 Eg (vL (VB (G:=G) (f:=f) hc rc (by rw[hK];exact hf) (by rw[hK];exact hex)) hg hm VA (iR (ha hK) (iR hb jJ he2) (by rw[he,he2])) (by decide) (by decide) (by rw[he,he2]) (by rw[he2];rfl))
  λσ H Q⟨μ,ρ,h,rs,s,o⟩=>cT rs s o λμ1 d h1 v H1 x1 Ak s1 r1 o1=>by
   show HV G f c [v,c] H1 Q;unfold bR at o1
   cases q:mH d h1 with
   |none=>rw[q]at o1;exact o1.elim
   |some ty=>
    rw[q]at o1;dsimp only at o1
    cases q2:f ty with
    |none=>rw[q2]at o1;exact o1.elim
    |some bb=>rw[q2]at o1;exact⟨μ1,h1,d,v,ty,bb,rfl,s1,r1,q,q2,o1.val s1 rfl⟩
end
noncomputable def nS:Dv->Option Bool
 |.bl b=>some b
 |_=>none
theorem A9{G:Cfg}{μ:Nat->ah}{n:Nat}{H:Hp}:∀{xs:zw}{vs:Ez}{bs:List Bool},RelDL G μ n H xs vs->aW nS xs=some bs->vs=bs.map V.bl
 |[],vs,bs,r,e=>by cases e;rw[RelDL]at r;exact r
 |x::xs,vs,bs,r,e=>by
  rw[RelDL]at r;obtain⟨v,rr,rfl,r1,r2⟩:=r;unfold aW at e
  cases x with
  |bl b=>
   dsimp only[nS]at e
   cases q:aW nS xs with
   |none=>rw[q]at e;cases e
   |some zs=>rw[q]at e;cases e;rw[Ac]at r1;subst r1;rw[A9 r2 q];rfl
  |_=>cases e
section
variable{X:Cx}{pins:List (ah×Obj)}{σ:St}{H:Hp}{s:ag}
theorem VC(bs:List Bool):(cf bs.length).all (λi=>bs.getD i false)=bs.all id:=by
 rw[ig,fv,fv];constructor
 ·intro h b hb;obtain⟨i,hi,rfl⟩:=lh.mp hb;simpa[pq,hi]using h i (du.mpr hi)
 ·intro h i hi;have hi:=du.mp hi;simpa[pq,hi]using h _ (gn hi)
theorem VD(bs:List Bool):(cf bs.length).any (λi=>bs.getD i false)=bs.any id:=by
 rw[ig,nq,nq];constructor
 ·rintro ⟨i,hi,h⟩
  have hi:=du.mp hi;exact⟨bs[i],gn hi,by simpa[pq,hi]using h⟩
 ·rintro ⟨b,hb,h⟩
  obtain⟨i,hi,rfl⟩:=lh.mp hb;exact⟨i,du.mpr hi,by simpa[pq,hi]using h⟩
theorem VE{bs:List Bool}{its:List af}(rv:Ae (bs.map V.bl) its){i:Nat}{v:af}(e:its.toArray[i]?=some v):v=.bool (bs.getD i false):=by
 have hl:=rv.length;rw[cg]at hl;have e':its[i]?=some v:=by simpa using e
 have hi:i<its.length:=(av.mp e').1;have hb:i<bs.length:=by lia
 obtain⟨u,e2,r⟩:=rv.get (i:=i) (x:=V.bl bs[i]) (by simp[hb]);rw[e']at e2;cases e2;have hg:bs.getD i false=bs[i]:=by simp[pq,hb]
 rw[hg];exact r
theorem HW{bs:List Bool}{its:List af}{A:bq}(rv:Ae (bs.map V.bl) its):TruthOf X.prog X.w A (λi v=>its.toArray[i]?=some v) (λi=>bs.getD i false):=by intro i v s Q E e q;rw[VE rv e];exact gy q
theorem BA{o:Obj}{h':bx}{tk:Nat}(I:Inv X pins σ H s)(k:∀b u,b∉[s.heap.objs.size]->(s.heap.push o).get? b=some u->h'.get? b=some u):Inv X pins σ H {s with heap:=h',toks:=tk}:=by have I1:Inv X pins σ H {s with heap:=s.heap.push o}:=I.kept (t':=s.toks) λb u e=>ai _ e;obtain⟨f0,f1,f2,f3,f4,f5⟩:=I.fpOk (aq s.heap.objs.size) I.fresh;exact I1.turned (t':=tk) (λb u hb e=>k b u (by simpa using hb) e) f0 f1 f3 f4 f5
theorem VF(hc:X.calm=true):Am X (.builtin "all") (λxs H Q=>∃(p:ah)(bs:List Bool),xs=[.ref p]/\H p=some (.lst (bs.map V.bl))/\Q (.bl (bs.all id)) H):=by
 intro pins s σ H xs us Q I rv ⟨p,bs,e,hp,q⟩;subst e;obtain⟨u,rfl,ru⟩:=gI rv;cases ru;obtain⟨its,rits,pl,hz⟩:=I.list (Em hp);have hn:its.toArray.size=bs.length:=by have:=rits.length;simp at this⊢;lia
 have ne:p≠s.heap.objs.size:=aw (I.hok.lt hp);refine call_all_walk (nu pl.isList ⟨_,_,_,_,_,_,λi=>bs.getD i false,rfl,wc (A:=X.A.in1) (show X.A.in1.handled=none from I.ok.hd hc) _ p ne its.toArray,⟨⟨_,ax _ rfl,rfl,rfl⟩,pl.isList.push _⟩,HW rits,λh' tk k=>?_⟩);rw[hn,VC];exact⟨.bl _,H,(BA (tk:=tk) I k:Inv X pins σ H {s with heap:=h',toks:=tk}),rfl,q⟩
theorem VG(hc:X.calm=true):Am X (.builtin "any") (λxs H Q=>∃(p:ah)(bs:List Bool),xs=[.ref p]/\H p=some (.lst (bs.map V.bl))/\Q (.bl (bs.any id)) H):=by
 intro pins s σ H xs us Q I rv ⟨p,bs,e,hp,q⟩;subst e;obtain⟨u,rfl,ru⟩:=gI rv;cases ru;obtain⟨its,rits,pl,hz⟩:=I.list (Em hp);have hn:its.toArray.size=bs.length:=by have:=rits.length;simp at this⊢;lia
 have ne:p≠s.heap.objs.size:=aw (I.hok.lt hp);refine call_any_walk (nu pl.isList ⟨_,_,_,_,_,_,λi=>bs.getD i false,rfl,wc (A:=X.A.in1) (show X.A.in1.handled=none from I.ok.hd hc) _ p ne its.toArray,⟨⟨_,ax _ rfl,rfl,rfl⟩,pl.isList.push _⟩,HW rits,λh' tk k=>?_⟩);rw[hn,VD];exact⟨.bl _,H,(BA (tk:=tk) I k:Inv X pins σ H {s with heap:=h',toks:=tk}),rfl,q⟩
end
section
variable{e:ba}{ml:M zw}{x:Str}{p pos:Pos}{bid T:String}
noncomputable def mL(f:zv)(ml:M zw ):M Dv:=λρ h=>(ml ρ h).bind f
def HX(G:Cfg)(r:Ez->Hp->VK->Prop)(f:zv):Prop:=∀(E:XK)(μ:Nat->ah)(h:Hs)(H:Hp)(xs:zw)(a:ah)(vs:Ez)(Q:VK),Ai G μ h H->H a=some (.lst vs)->RelDL G μ h.length H xs vs->Out G E μ h.length H (f xs h) (Ac G) Q->r [.ref a] H Q
theorem VH{r:Ez->Hp->VK->Prop}{f:zv}(hd:HX G r f){σ:St}{H:Hp}{Q:VK}(t:eI G E (mL f ml) σ H Q):vK r (FW (tE G E ml) sE) σ H Q:=by obtain⟨μ,ρ,h,rs,s,o⟩:=t;refine⟨μ,ρ,h,rs,s,(o.bind (R1:=RL G)).mono λv H1⟨μ1,xs,h1,x1,s1,⟨a,vs,ev,ea,_,r1⟩,o1⟩=>?_⟩;subst ev;exact hd E μ1 h1 H1 xs a vs Q s1 ea r1 o1
theorem HY{r:Ez->Hp->VK->Prop}{f:zv}(hc:Am X (.builtin bid) r)(hd:HX G r f)(hg:Gl X x)(hm:X.mg x=none)(hv:cx x=some (.builtin bid))(ha:qQ X G E e ml)(hn:x≠"__name__":=by decide)(Cd:(x==Ey)=false:=by decide)(he:ao [e] X.env=[(false,eval e X.env)]:=by rfl):aB X G E (.Call (.Name x p) [e] [] pos) (mL f ml):=λhK=>
 Eg (vL hc hg hm hv (iR (ha hK) jJ he) hn Cd he rfl) λ_ _ _ t=>VH hd t
theorem VI:cx "all"=some (.builtin "all"):=by decide+kernel
theorem VJ:cx "any"=some (.builtin "any"):=by decide+kernel
def jQ(xs:zw)(h:Hs):Rs Dv:=match aW nS xs with
 |some bs=>.ok (.bl (bs.all id)) h
 |none=>.bad
def qT(xs:zw)(h:Hs):Rs Dv:=match aW nS xs with
 |some bs=>.ok (.bl (bs.any id)) h
 |none=>.bad
theorem qU(hc:X.calm=true)(hg:Gl X "all")(hm:X.mg "all"=none)(ha:qQ X G E e ml)(he:ao [e] X.env=[(false,eval e X.env)]:=by rfl):aB X G E (.Call (.Name "all" p) [e] [] pos) (mL jQ ml):=
 HY (VF hc) (λE μ h H xs a vs Q s ea r o=>by
  unfold jQ at o
  cases q:aW nS xs with
  |none=>rw[q]at o;exact o.elim
  |some bs=>rw[q]at o;exact⟨a,bs,rfl,by rw[ea,A9 r q],o.val s rfl⟩) hg hm VI ha (by decide) (by decide) he
theorem HZ(hc:X.calm=true)(hg:Gl X "any")(hm:X.mg "any"=none)(ha:qQ X G E e ml)(he:ao [e] X.env=[(false,eval e X.env)]:=by rfl):aB X G E (.Call (.Name "any" p) [e] [] pos) (mL qT ml):=
 HY (VG hc) (λE μ h H xs a vs Q s ea r o=>by
  unfold qT at o
  cases q:aW nS xs with
  |none=>rw[q]at o;exact o.elim
  |some bs=>rw[q]at o;exact⟨a,bs,rfl,by rw[ea,A9 r q],o.val s rfl⟩) hg hm VJ ha (by decide) (by decide) he
end
section
variable{o e i:ba}{mo me mi:M Dv}{ml:M zw}{pos apos cpos:Pos}
theorem IA{H:Hp}{a:ah}{vs:Ez}(e:H a=some (.lst vs)):sF X.K "list" (.ref a) H:=.inl ⟨rfl,vs,Em e⟩
def IB(o d:Dv)(h:Hs):Rs Dv:=match o with
 |.ref j=>match getL h j with
  |some xs=>if xs.length<1000000 then .ok .non (h.set j (.lst (xs++[d])))else .bad
  |none=>.bad
 |_=>.bad
def IC(o:Dv)(h:Hs):Bool:=match o with
 |.ref j=>(getL h j).isSome
 |_=>false
def ID(mo me:M Dv):M Dv:=λρ h=>(mo ρ h).bind λx h1=>if IC x h1=true then(me ρ h1).bind λd h2=>IB x d h2 else .bad
theorem VL{μ:Nat->ah}{h:Hs}{H:Hp}{x:Dv}{v:V}(s:Ai G μ h H)(r:Ac G μ h.length H x v)(e:IC x h=true):sF X.K "list" v H:=by
 cases x with
 |ref j=>obtain⟨xs,q⟩:=lx.mp (show(getL h j).isSome=true from e);obtain⟨vs,ea,_⟩:=s.ob j _ (eL q);obtain⟨_,rfl⟩:=r;exact IA ea
 |_=>cases e
end
section
variable{prog:bg}{w:bu}{A:bq}{E:af->ag->Prop}{s:ag}
theorem VM{it t:ah}{i:Nat}{items:Array af}{x:af}{Q:af->ag->Prop}(hit:s.heap.IsTupleIter it t i)(ht:s.heap.IsTuple t items)(hx:items[i]?=some x)(k:∀h',h'.IsTupleIter it t (i+1)->ic it s.heap h'->Q x {s with heap:=h'}):wpAny (model prog w) A (ff (.ref it)) Q E s:=by
 obtain⟨o,ho,hc,hd⟩:=id hit;obtain⟨ol,hol,Dh,nl,hdl⟩:=id ht;refine ae (ib (name:=ik "__next__") hit.typeIs F.slot_tuple_iterator_next (gv F.slot_tuple_iterator_next hit.typeIs F.entry_tuple_iterator_next ?_ (F.args_tuple_iterator_next_1 _)));have q0:∀{Q':af->ag->Prop}{E':af->ag->Prop}{B:bq},Q' (.ref t) s->wpAny (model prog w) B (field (.ref it) 0) Q' E' s:=λq=>dg ho hd (x:=.ref t) rfl q;have q1:∀{Q':af->ag->Prop}{E':af->ag->Prop}{B:bq},Q' (.int i 0) s->wpAny (model prog w) B (field (.ref it) 1) Q' E' s:=λq=>dg ho hd (x:=.int i 0) rfl q;refine ae (aj (ae (q0 ?_)));dsimp only;rw[if_neg (by simp)];refine ae (q1 (ae (jt hol hdl ?_)));rw[show((i:Int)).toNat=i from qv i];dsimp only;rw[hx];refine ae (yx ho hd (by simp) (aj ⟨x,rfl,aj (k _ ⟨_,ni _ ho (ze (uq hd _)),?_,?_⟩ (wb ..))⟩))
 ·rw[Obj.cls_mapFields];exact hc
 ·rw[uq hd];simp[rawInt]
end
section
variable{prog:bg}{w:bu}{A:bq}{E:af->ag->Prop}{s:ag}
theorem VN{α:Type}{Q:α->ag->Prop}(hh:A.handled=none)(k:∀h' e,(∀b o,s.heap.get? b=some o->h'.get? b=some o)->(∃o,h'.get? e=some o/\o.cls=.type "StopIteration")->E (.ref e) {s with heap:=h'}):
  wpAny (model prog w) A (qz:Sem α) Q E s:=by
 have e0:firstArgMember (.type "StopIteration") []=pure jm:=by show(pure (if _ then jm else jm):Sem af)=_;rw[ite_self]
 unfold qz newExc newTuple;refine ae (ae (dz (ae (sj e0 (dz (wpAny_raiseNew_none hh (k _ _ (λb o q=>ai _ (ai _ q)) ⟨_,ax _ rfl,rfl⟩)) (by size_fits)))) (by size_fits)))
theorem VO{it t:ah}{i:Nat}{items:Array af}{Q:af->ag->Prop}(hh:A.handled=none)(hit:s.heap.IsTupleIter it t i)(ht:s.heap.IsTuple t items)(hx:items[i]?=none)(k:∀h' e,zf it s.heap h'->(∃o,h'.get? e=some o/\o.cls=.type "StopIteration")->E (.ref e) {s with heap:=h'}):wpAny (model prog w) A (ff (.ref it)) Q E s:=by
 obtain⟨o,ho,hc,hd⟩:=id hit;obtain⟨ol,hol,Dh,nl,hdl⟩:=id ht;refine ae (ib (name:=ik "__next__") hit.typeIs F.slot_tuple_iterator_next (gv F.slot_tuple_iterator_next hit.typeIs F.entry_tuple_iterator_next ?_ (F.args_tuple_iterator_next_1 _)));have q0:∀{Q':af->ag->Prop}{E':af->ag->Prop}{B:bq},Q' (.ref t) s->wpAny (model prog w) B (field (.ref it) 0) Q' E' s:=λq=>dg ho hd (x:=.ref t) rfl q;have q1:∀{Q':af->ag->Prop}{E':af->ag->Prop}{B:bq},Q' (.int i 0) s->wpAny (model prog w) B (field (.ref it) 1) Q' E' s:=λq=>dg ho hd (x:=.int i 0) rfl q;refine ae (aj (ae (q0 ?_)));dsimp only;rw[if_neg (by simp)];refine ae (q1 (ae (jt hol hdl ?_)));rw[show((i:Int)).toNat=i from qv i];dsimp only;rw[hx];refine ae (ud (ae (yx ho hd (by simp) (VN (show A.in1.handled=none from hh) λh' e kp st=>k h' e (λb u hb q=>kp b u ?_) st))));rw[mz _ _ (cp hb)];exact q
end
structure Draws(prog:bg)(w:bu)(it src:ah)(xs:List af)(st:Nat->bx->Prop):Prop where
 keep:∀i h h',st i h->(∀b o,b=it∨b=src->h.get? b=some o->h'.get? b=some o)->st i h'
 there:∀i h,st i h->∃o vs,h.get? it=some o/\o.data=.fields vs
 item:∀(A:bq)(i:Nat)(x:af)(s:ag)(Q:af->ag->Prop)(E:af->ag->Prop),xs[i]?=some x->st i s.heap->
  (∀h',st (i+1) h'->ic it s.heap h'->Q x {s with heap:=h'})->wpAny (model prog w) A (ff (.ref it)) Q E s
 done:∀(A:bq)(i:Nat)(s:ag)(Q:af->ag->Prop)(E:af->ag->Prop),A.handled=none->xs[i]?=none->st i s.heap->
  (∀h' e,zf it s.heap h'->(∃o,h'.get? e=some o/\o.cls=.type "StopIteration")->E (.ref e) {s with heap:=h'})->wpAny (model prog w) A (ff (.ref it)) Q E s
structure Four(z TI TO i j u v:ah):Prop where
 a:z≠TO
 b:z≠i
 c:z≠j
 d:TO≠i
 e:TO≠j
 f:i≠j
 g:TI≠z
 h:TI≠TO
 k:TI≠i
 l:TI≠j
 u1:u≠z
 u2:u≠TO
 u3:u≠i
 u4:u≠j
 v1:v≠z
 v2:v≠TO
 v3:v≠i
 v4:v≠j
theorem iL{b x y c:ah}(h:b=x∨b=y)(p:x≠c)(q:y≠c):b≠c:=by
 rcases h with h|h
 ·rw[h];exact p
 ·rw[h];exact q
noncomputable def wL(z TO i j:ah)(h h':bx):Prop:=∀b o,b≠z->b≠TO->b≠i->b≠j->h.get? b=some o->h'.get? b=some o
section
variable{prog:bg}{w:bu}{A:bq}{E:af->ag->Prop}{s:ag}{z TI TO i j u v:ah}{xs ys:List af}{st su:Nat->bx->Prop}
theorem VP{n:Nat}{x y a b:af}{Q:af->ag->Prop}(F4:Four z TI TO i j u v)(P:Draws prog w i u xs st)(R:Draws prog w j v ys su)(hz:xv s.heap z TI TO .none)(hTI:oi s.heap TI (.ref i) (.ref j))(hTO:oi s.heap TO a b)(p:st n s.heap)(r:su n s.heap)(hx:xs[n]?=some x)(hy:ys[n]?=some y)(k:∀h' T,s.heap.objs.size<=T->xv h' z TI TO (rawInt T)->oi h' TI (.ref i) (.ref j)->oi h' TO x y->st (n+1) h'->su (n+1) h'->oi h' T x y->wL z TO i j s.heap h'->Q (.ref T) {s with heap:=h'}):
  wpAny (model prog w) A (ub.«zip.__next__» ⟨[.ref z],[]⟩) (λfin s'=>∃v,fin=.done (.ret v)/\Q v s') E s:=by
 refine ae (aj (ae (dg hz rfl (x:=.bool false) rfl (ae (dg hz rfl (x:=.ref TI) rfl (ae (jt hTI rfl ?_)))))));have fr:∀{Q':Bool->ag->Prop}{E':af->ag->Prop},Q' true s->wpAny (model prog w) A (qi (.ref z)) Q' E' s:=λq=>ae (dg hz rfl (x:=.none) rfl (aj q));refine ae (fr ?_);rw[if_pos rfl];refine ae (ud (ae (dg hz rfl (x:=.ref TO) rfl (ae (kg hz (by simp) λg1 z1 b1=>?_)))));have z1':xv g1 z TI TO .ellipsis:=z1;refine ae ?_;show wpAny _ _ (forIn [(gw i,0),(gw j,1)] _ _) _ _ _;rw[oz];refine ae (ae (pk ?_));show wpAny _ _ (ff (.ref i) >>=_) _ _ _;refine ae (P.item A n x _ _ _ hx (P.keep n _ _ p λb o hb q=>b1.extBut _ _ (iL hb (cp F4.b) F4.u1) q) λg2 p2 b2=>aj ?_);have t2:oi g2 TO a b:=b2.extBut _ _ F4.d (b1.extBut _ _ (cp F4.a) hTO);refine ae (jt t2 rfl (ae (ur t2 λg3 t3 b3=>ae (pz (aj ?_)))));have t3':oi g3 TO x b:=t3;dsimp only;rw[oz];refine ae (ae (pk ?_));show wpAny _ _ (ff (.ref j) >>=_) _ _ _;have r3:su n g3:=R.keep n _ _ r λb o hb q=>b3.extBut _ _ (iL hb (cp F4.e) F4.v2) (b2.extBut _ _ (iL hb (cp F4.f) F4.v3) (b1.extBut _ _ (iL hb (cp F4.c) F4.v1) q));refine ae (R.item A n y _ _ _ hy r3 λg4 r4 b4=>aj ?_);have t4:oi g4 TO x b:=b4.extBut _ _ F4.e t3';refine ae (jt t4 rfl (ae (ur t4 λg5 t5 b5=>ae (pz (aj ?_)))));have t5':oi g5 TO x y:=t5;dsimp only;rw[List.forIn_nil];refine aj ?_;refine ae (jt t5' rfl (ae (wpAny_newTuple ?_)));have z5:xv g5 z TI TO .ellipsis:=b5.extBut _ _ F4.a (b4.extBut _ _ F4.c (b3.extBut _ _ F4.a (b2.extBut _ _ F4.b z1')));have sz:g5.objs.size=s.heap.objs.size:=by rw[b5.1,b4.1,b3.1,b2.1,b1.1]
 have all5:wL z TO i j s.heap g5:=λc o c1 c2 c3 c4 q=>b5.extBut _ _ c2 (b4.extBut _ _ c4 (b3.extBut _ _ c2 (b2.extBut _ _ c3 (b1.extBut _ _ c1 q))));have p5:st (n+1) g5:=P.keep _ _ _ p2 λb o hb q=>b5.extBut _ _ (iL hb (cp F4.d) F4.u2) (b4.extBut _ _ (iL hb F4.f F4.u4) (b3.extBut _ _ (iL hb (cp F4.d) F4.u2) q));have r5:su (n+1) g5:=R.keep _ _ _ r4 λb o hb q=>b5.extBut _ _ (iL hb (cp F4.e) F4.v2) q;generalize hob:({cls:=.type "tuple",dict:=none,data:=.seq [x,y].toArray}:Obj)=ob;have zp:xv (g5.push ob) z TI TO .ellipsis:=ai _ z5;refine ae (ae (kg zp (by simp) λg7 z7 b7=>?_));have z7':xv g7 z TI TO (rawInt g5.objs.size):=z7;refine kg z7' (by simp) λg8 z8 b8=>aj ⟨_,rfl,?_⟩;have up:∀c o,c≠z->g5.get? c=some o->g8.get? c=some o:=λc o c1 q=>b8.extBut _ _ c1 (b7.extBut _ _ c1 (ai _ q));have lz:z<g5.objs.size:=au z5;have T8:oi g8 g5.objs.size x y:=b8.extBut _ _ (ju lz) (b7.extBut _ _ (ju lz) (by rw[<-hob];exact ax _ rfl));refine k g8 g5.objs.size (nc sz.symm) z8 (up _ _ F4.g (all5 _ _ F4.g F4.h F4.k F4.l hTI)) (up _ _ (cp F4.a) t5') (P.keep _ _ _ p5 λb o hb q=>up _ _ (iL hb (cp F4.b) F4.u1) q) (R.keep _ _ _ r5 λb o hb q=>up _ _ (iL hb (cp F4.c) F4.v1) q) T8 λc o c1 c2 c3 c4 q=>up _ _ c1 (all5 c o c1 c2 c3 c4 q)
end
section
variable{prog:bg}{w:bu}{A:bq}{E:af->ag->Prop}{s:ag}{z TI TO i j u v:ah}{xs ys:List af}{st su:Nat->bx->Prop}
theorem VQ{n:Nat}{a b:af}{Q:PySem.Fin->ag->Prop}(hh:A.handled=none)(F4:Four z TI TO i j u v)(P:Draws prog w i u xs st)(R:Draws prog w j v ys su)(hz:xv s.heap z TI TO .none)(hTI:oi s.heap TI (.ref i) (.ref j))(hTO:oi s.heap TO a b)(p:st n s.heap)(r:su n s.heap)(hend:xs[n]?=none∨ys[n]?=none)(k:∀h' e,wL z TO i j s.heap h'->(∃o,h'.get? e=some o/\o.cls=.type "StopIteration")->E (.ref e) {s with heap:=h'}):
  wpAny (model prog w) A (ub.«zip.__next__» ⟨[.ref z],[]⟩) Q E s:=by
 refine ae (aj (ae (dg hz rfl (x:=.bool false) rfl (ae (dg hz rfl (x:=.ref TI) rfl (ae (jt hTI rfl ?_)))))));have fr:∀{Q':Bool->ag->Prop}{E':af->ag->Prop},Q' true s->wpAny (model prog w) A (qi (.ref z)) Q' E' s:=λq=>ae (dg hz rfl (x:=.none) rfl (aj q));refine ae (fr ?_);rw[if_pos rfl];refine ae (ud (ae (dg hz rfl (x:=.ref TO) rfl (ae (kg hz (by simp) λg1 z1 b1=>?_)))));have z1':xv g1 z TI TO .ellipsis:=z1;have p1:st n g1:=P.keep n _ _ p λb o hb q=>b1.extBut _ _ (iL hb (cp F4.b) F4.u1) q;have fin:∀(g:bx)(e:ah),xv g z TI TO .ellipsis->wL z TO i j s.heap g->(∃o,g.get? e=some o/\o.cls=.type "StopIteration")->
   wpAny (model prog w) A (setField (.ref z) 0 .none) (λ_ s'=>E (.ref e) s') E {s with heap:=g}:=λg e zz bt⟨o,he,hc⟩=>
  kg zz (by simp) λg' _ b'=>k g' e (λc u c1 c2 c3 c4 q=>b'.extBut _ _ c1 (bt c u c1 c2 c3 c4 q)) ⟨o,b'.extBut _ _ (λq=>by subst q;rw[zz]at he;cases he;simp at hc) he,hc⟩
 refine ae ?_;show wpAny _ _ (forIn [(gw i,0),(gw j,1)] _ _) _ _ _;rw[oz];refine ae (ae (pk ?_));show wpAny _ _ (ff (.ref i) >>=_) _ _ _
 cases hx:xs[n]? with
 |none=>exact ae (P.done A n _ _ _ hh hx p1 λg2 e b2 he=>fin g2 e (b2 _ _ F4.b z1') (λc u c1 _ c3 _ q=>b2 _ _ c3 (b1.extBut _ _ c1 q)) he)
 |some x=>
  have hy:ys[n]?=none:=by
   rcases hend with q|q
   ·rw[hx]at q;cases q
   ·exact q
  refine ae (P.item A n x _ _ _ hx p1 λg2 p2 b2=>aj ?_);have t2:oi g2 TO a b:=b2.extBut _ _ F4.d (b1.extBut _ _ (cp F4.a) hTO);refine ae (jt t2 rfl (ae (ur t2 λg3 t3 b3=>ae (pz (aj ?_)))));dsimp only;rw[oz];refine ae (ae (pk ?_));show wpAny _ _ (ff (.ref j) >>=_) _ _ _;have r3:su n g3:=R.keep n _ _ r λb o hb q=>b3.extBut _ _ (iL hb (cp F4.e) F4.v2) (b2.extBut _ _ (iL hb (cp F4.f) F4.v3) (b1.extBut _ _ (iL hb (cp F4.c) F4.v1) q));exact ae (R.done A n _ _ _ hh hy r3 λg4 e b4 he=>fin g4 e (b4 _ _ F4.c (b3.extBut _ _ F4.a (b2.extBut _ _ F4.b z1'))) (λc u c1 c2 c3 c4 q=>b4 _ _ c4 (b3.extBut _ _ c2 (b2.extBut _ _ c3 (b1.extBut _ _ c1 q)))) he)
theorem wM{it t:ah}{items:Array af}(hne:t≠it):Draws prog w it t items.toList (λi h=>h.IsTupleIter it t i/\h.IsTuple t items) where
 keep:=λi h h'⟨⟨o,e,r⟩,⟨o2,e2,r2⟩⟩k=>⟨⟨o,k _ _ (.inl rfl) e,r⟩,⟨o2,k _ _ (.inr rfl) e2,r2⟩⟩
 there:=λi h⟨⟨o,e,_,d⟩,_⟩=>⟨o,_,e,d⟩
 item:=λA i x s Q E hx⟨a,b⟩k=>VM a b (by simpa using hx) λh' a' sb=>k h' ⟨a',b.extBut sb.extBut hne⟩ sb
 done:=λA i s Q E hh hx⟨a,b⟩k=>VO hh a b (by simpa using hx) k
end
def BB(K:ak)(t u:ah):It:=
 ⟨λi H=>∃vs ws v w,Ap K H t vs/\Ap K H u ws/\vs[i]?=some v/\ws[i]?=some w,
  λi H x H'=>∃p v w,x=.ref p/\H p=none/\H'=aF H p (.tup [v,w])/\(∀vs,Ap K H t vs->vs[i]?=some v)/\∀ws,Ap K H u ws->ws[i]?=some w,
  λi H=>∃vs ws,Ap K H t vs/\Ap K H u ws/\(vs.length<=i∨ws.length<=i)⟩
structure ZipAt(z TI TO i j t u:ah)(n:Nat)(h:bx):Prop where
 zp:xv h z TI TO .none
 ti:oi h TI (.ref i) (.ref j)
 to:∃a b,oi h TO a b
 i1:h.IsTupleIter i t n
 i2:h.IsTupleIter j u n
section
variable{X:Cx}{pins:List (ah×Obj)}{σ:St}{H:Hp}{s:ag}
theorem Inv.turns{h':bx}{ch:List ah}{T:ah}{vs:Ez}{its:List af}(I:Inv X pins σ H s)(Cy:∀b∈ch,bQ X pins H b)(k:∀b o,b∉ch->s.heap.get? b=some o->h'.get? b=some o)(there:∀b∈ch,∃o,h'.get? b=some o)(hT:s.heap.objs.size<=T)(hv:Ae vs its)(hl:vs.length<=bj)(tp:Ba h' T its.toArray):Inv X pins σ (aF H T (.tup vs)) {s with heap:=h'}:=by
 have nT:H T=none:=I.hok.fresh hT;have nch:∀b o,H b=some o->b∉ch:=λb o q z=>by rw[(Cy b z).1]at q;cases q
 have un:Un (cN X.stack) ch H (aF H T (.tup vs)) s.heap h':=
  ⟨λb o q _ _ hb=>k b o hb q,λb o q _ _ hb=>⟨o.slots,k b o hb q⟩,λb o q n _=>by rw[aM (aw (ar (au q) hT))];exact n,
   λb o q hb=>⟨o,k b o hb q⟩,λb xs q=>cJ nT b _ q,λb o u q=>cJ nT b _ q,λb ps q=>⟨#[],by rw[cJ nT b _ q];simp⟩⟩
 have ok:Az X.prog X.w (aF H T (.tup vs)) h':=λb o q=>by
  by_cases hb:b=T
  ·subst hb;rw[bP]at q;cases q;exact⟨hl,its,hv,tp⟩
  ·rw[aM hb]at q;refine(I.hok b o q).stay (λc v hc z=>k c v ?_ z) (λc z=>cJ nT c _ z) λc xs z=>cJ nT c _ z
   rcases hc with rfl|hc
   ·exact nch c o q
   ·exact nch c _ hc
 exact I.call (g':=s.gens) (d':=s.drawn) (t':=s.toks) un ok I.bare λb hb=>let ⟨_,f1,_,f3,f4,f5⟩:=Cy b hb;⟨f3,f1,f4,f5⟩
theorem Inv.turns0{h':bx}{ch:List ah}(I:Inv X pins σ H s)(Cy:∀b∈ch,bQ X pins H b)(k:∀b o,b∉ch->s.heap.get? b=some o->h'.get? b=some o):Inv X pins σ H {s with heap:=h'}:=by
 have nch:∀b o,H b=some o->b∉ch:=λb o q z=>by rw[(Cy b z).1]at q;cases q
 refine I.call (g':=s.gens) (d':=s.drawn) (t':=s.toks) (ch:=ch) ⟨λb o q _ _ hb=>k b o hb q,λb o q _ _ hb=>⟨o.slots,k b o hb q⟩,λ_ _ _ n _=>n,λb o q hb=>⟨o,k b o hb q⟩,λ_ _ q=>q,λ_ _ _ q=>q,λb ps q=>⟨#[],by rw[q];simp⟩⟩ (λb o q=>?_) I.bare λb hb=>let ⟨_,f1,_,f3,f4,f5⟩:=Cy b hb;⟨f3,f1,f4,f5⟩;refine(I.hok b o q).stay (λc v hc z=>k c v ?_ z) (λ_ z=>z) λ_ _ z=>z
 rcases hc with rfl|hc
 ·exact nch c o q
 ·exact nch c _ hc
end
theorem VR{P:bg}{w:bu}{K:ak}{elts:List ba}{kk:Nat}{tp:Pos}{z TI TO i j t u:ah}(F4:Four z TI TO i j t u)(hti:t≠i)(huj:u≠j):
  Turn P w K (.Tuple elts kk tp) (BB K t u) [z,TI,TO,i,j] z (ZipAt z TI TO i j t u) where
 mem:=by simp
 obj:=λn h st b hb=>by
  obtain⟨zp,ti,⟨a,b',to⟩,⟨o1,e1,_,d1⟩,⟨o2,e2,_,d2⟩⟩:=st;simp at hb
  rcases hb with rfl|rfl|rfl|rfl|rfl
  ·exact⟨_,zp,λv q=>by cases q⟩
  ·exact⟨_,ti,λv q=>by cases q⟩
  ·exact⟨_,to,λv q=>by cases q⟩
  ·exact⟨_,e1,λv q=>by rw[d1]at q;cases q⟩
  ·exact⟨_,e2,λv q=>by rw[d2]at q;cases q⟩
 keep:=λn h h' st k=>by obtain⟨zp,ti,⟨a,b',to⟩,⟨o1,e1,r1⟩,⟨o2,e2,r2⟩⟩:=st;exact⟨k _ (by simp) _ zp,k _ (by simp) _ ti,⟨a,b',k _ (by simp) _ to⟩,⟨o1,k _ (by simp) _ e1,r1⟩,⟨o2,k _ (by simp) _ e2,r2⟩⟩
 item:=by
  intro X hP hw hK hc n pins s σ H E I hf st hg;subst hP hw hK;obtain⟨vs,ws,v,w',hq,hr,hv,hw'⟩:=hg;obtain⟨its,rv,p1,z1⟩:=I.tuple hq;obtain⟨jts,rw',p2,z2⟩:=I.tuple hr;obtain⟨x,hx,rx⟩:=rv.get hv;obtain⟨y,hy,ry⟩:=rw'.get hw';obtain⟨zp,ti,⟨a,b,to⟩,i1,i2⟩:=st;have hT:s.TypeIs (.ref z) "zip":=⟨_,zp,rfl⟩;unfold pyNext;refine ae (zl (ib (name:=ik "__next__") hT F.slot_zip_next (gv F.slot_zip_next hT F.entry_zip_next
   (VP F4 (wM (items:=its.toArray) hti) (wM (items:=jts.toArray) huj) zp ti to ⟨i1,p1⟩ ⟨i2,p2⟩ (by simpa using hx) (by simpa using hy) λh' T Bk a1 a2 a3 a4 a5 a6 bt=>aj ⟨_,rfl,?_⟩) (F.args_zip_next_1 _))))
  refine wpAny_letOwnedTupleGo_zip a1 λh2 z2' sb=>?_;have kp:∀b o,b∉[z,TI,TO,i,j]->s.heap.get? b=some o->h2.get? b=some o:=λb o hb q=>by simp at hb;obtain⟨n1,n2,n3,n4,n5⟩:=hb;exact sb.extBut _ _ n1 (bt b o n1 n3 n4 n5 q)
  have Tz:T≠z:=ju (ar (au zp) Bk);have T2:oi h2 T x y:=sb.extBut _ _ Tz a6;have th:∀b∈[z,TI,TO,i,j],∃o,h2.get? b=some o:=λb hb=>by
   obtain⟨⟨o1,e1,_⟩,_⟩:=a4;obtain⟨⟨o2,e2,_⟩,_⟩:=a5;simp at hb
   rcases hb with rfl|rfl|rfl|rfl|rfl
   ·exact⟨_,z2'⟩
   ·exact⟨_,sb.extBut _ _ F4.g a2⟩
   ·exact⟨_,sb.extBut _ _ (cp F4.a) a3⟩
   ·exact⟨_,sb.extBut _ _ (cp F4.b) e1⟩
   ·exact⟨_,sb.extBut _ _ (cp F4.c) e2⟩
  have I2:=Inv.turns (T:=T) (vs:=[v,w']) (its:=[x,y]) I hf kp th Bk (.cons rx (.cons ry .nil)) (by show 2<=bj;decide) ⟨_,T2,rfl,rfl,_,rfl⟩;have nT:H T=none:=I.hok.fresh Bk;refine⟨.ref T,_,I2,rfl,⟨T,v,w',rfl,nT,rfl,λBh h'=>by rw[I.tuple_inj h' hq];exact hv,λws' h'=>by rw[I.tuple_inj h' hr];exact hw'⟩,?_,λb hb=>?_⟩
  ·exact⟨z2',sb.extBut _ _ F4.g a2,⟨_,_,sb.extBut _ _ (cp F4.a) a3⟩,a4.1.extBut sb.extBut (cp F4.b),a5.1.extBut sb.extBut (cp F4.c)⟩
  ·obtain⟨o,q,_⟩:∃o,s.heap.get? b=some o/\True:=by
    obtain⟨o1,e1,_⟩:=i1;obtain⟨o2,e2,_⟩:=i2;simp at hb
    rcases hb with rfl|rfl|rfl|rfl|rfl
    ·exact⟨_,zp,trivial⟩
    ·exact⟨_,ti,trivial⟩
    ·exact⟨_,to,trivial⟩
    ·exact⟨_,e1,trivial⟩
    ·exact⟨_,e2,trivial⟩
   rw[aM (aw (ar (au q) Bk))];exact(hf b hb).1
 done:=by
  intro X hP hw hK hc n pins s σ H E I hf st hg;subst hP hw hK;obtain⟨vs,ws,hq,hr,hend⟩:=hg;obtain⟨its,rv,p1,z1⟩:=I.tuple hq;obtain⟨jts,rw',p2,z2⟩:=I.tuple hr;have l1:=rv.length;have l2:=rw'.length;obtain⟨zp,ti,⟨a,b,to⟩,i1,i2⟩:=st;have hT:s.TypeIs (.ref z) "zip":=⟨_,zp,rfl⟩;unfold pyNext;refine ae (zl (ib (name:=ik "__next__") hT F.slot_zip_next (gv F.slot_zip_next hT F.entry_zip_next
   (VQ (show X.A.in1.handled=none from I.ok.hd hc) F4 (wM (items:=its.toArray) hti) (wM (items:=jts.toArray) huj) zp ti to ⟨i1,p1⟩ ⟨i2,p2⟩ (by
    rcases hend with q|q
    ·exact .inl (by simp;lia)
    ·exact .inr (by simp;lia)) λh' e bt⟨o,he,Dh⟩=>ae (wpAny_isInstance (T:="StopIteration") (b:=true) ⟨o,he,Dh⟩ isSubtype_stop (aj ⟨rfl,?_⟩))) (F.args_zip_next_1 _))))
  refine Inv.turns0 I hf λb o hb q=>?_;simp at hb;exact bt b o hb.1 hb.2.2.1 hb.2.2.2.1 hb.2.2.2.2 q
 self:=λ_ _ _ _ _ st h=>wpAny_pyIter_zip st.zp h
noncomputable def IE(t u:ah)(h:bx)(z:ah)(h':bx):Prop:=∃TI TO i j,ZipAt z TI TO i j t u 0 h'/\Four z TI TO i j t u/\(∀b∈[z,TI,TO,i,j],h.objs.size<=b)/\∀b o,h.get? b=some o->h'.get? b=some o
theorem tI{h h':bx}{o:Obj}(e:h'=h.push o)(nf:o.isFreed=false):h'.get? h.objs.size=some o:=by rw[e];exact ax _ nf
theorem VS(n t u:Nat)(lt:t<n)(lu:u<n):Four (n+4) (n+2) (n+3) n (n+1) t u:=by
 have ne:∀{a b:Nat},(a<b∨b<a)->a≠b:=λh=>by lia
 exact⟨ne (by lia),ne (by lia),ne (by lia),ne (by lia),ne (by lia),ne (by lia),ne (by lia),ne (by lia),ne (by lia),ne (by lia),ne (by lia),ne (by lia),ne (by lia),ne (by lia),ne (by lia),ne (by lia),ne (by lia),ne (by lia)⟩
theorem VT{t u:ah}{hp h1 h2 h3 h4 h5:bx}{n:Nat}(hn:n=hp.objs.size)(lt:t<n)(lu:u<n)(e1:h1=hp.push {cls:=.type "tuple_iterator",data:=.fields #[.ref t,.int 0 0]})(e2:h2=h1.push {cls:=.type "tuple_iterator",data:=.fields #[.ref u,.int 0 0]})(e3:h3=h2.push {cls:=.type "tuple",data:=.seq #[.ref n,.ref (n+1)]})(e4:h4=h3.push {cls:=.type "tuple",data:=.seq #[.none,.none]})(e5:h5=h4.push {cls:=.type "zip",data:=.fields #[.none,.bool false,.bool false,.ref (n+2),.ref (n+3)]}):IE t u hp (n+4) h5:=by
 have z1:h1.objs.size=n+1:=by rw[e1,dq,hn]
 have z2:h2.objs.size=n+2:=by rw[e2,dq,z1]
 have z3:h3.objs.size=n+3:=by rw[e3,dq,z2]
 have z4:h4.objs.size=n+4:=by rw[e4,dq,z3]
 have up:∀(h:bx)(o:Obj)(b:ah)(q:Obj),h.get? b=some q->(h.push o).get? b=some q:=λh o b q e=>ai _ e;have g1:=tI e1 rfl;have g2:=tI e2 rfl;have g3:=tI e3 rfl;have g4:=tI e4 rfl;have g5:=tI e5 rfl;rw[<-hn]at g1;rw[z1]at g2;rw[z2]at g3;rw[z3]at g4;rw[z4]at g5;have u2:∀b q,h2.get? b=some q->h5.get? b=some q:=λb q e=>by rw[e5,e4,e3];exact up _ _ _ _ (up _ _ _ _ (up _ _ _ _ e))
 have u1:∀b q,h1.get? b=some q->h5.get? b=some q:=λb q e=>u2 b q (by rw[e2];exact up _ _ _ _ e);have u3:∀b q,h3.get? b=some q->h5.get? b=some q:=λb q e=>by rw[e5,e4];exact up _ _ _ _ (up _ _ _ _ e)
 have u4:∀b q,h4.get? b=some q->h5.get? b=some q:=λb q e=>by rw[e5];exact up _ _ _ _ e
 refine⟨n+2,n+3,n,n+1,⟨g5,u3 _ _ g3,⟨_,_,u4 _ _ g4⟩,⟨_,u1 _ _ g1,rfl,rfl⟩,⟨_,u2 _ _ g2,rfl,rfl⟩⟩,?_,?_,λb q e=>u1 b q (by rw[e1];exact up _ _ _ _ e)⟩
 ·exact VS n t u lt lu
 ·intro b hb;rw[<-hn];simp at hb
  rcases hb with rfl|rfl|rfl|rfl|rfl
  ·exact sf _ _
  ·exact sf _ _
  ·exact sf _ _
  ·exact aq _
  ·exact sf _ _
theorem VU{t u:ah}(xs ys:Array af):Meets (ub.«zip.__new__» ⟨[.type "zip",.ref t,.ref u],[]⟩) (λ_ R s=>s.heap.IsTuple t xs/\s.heap.IsTuple u ys/\∀h' z,IE t u s.heap z h'->R (.ok (.ret (.ref z))) {s with heap:=h'}):=
 .of_wp λprog w A R s h=>by
  obtain⟨ht,hu,k⟩:=h;obtain⟨hp,g,d,tk,os⟩:=s;have sub:=sub_zip;have ht':(⟨hp,g,d,tk,os⟩:ag).heap.IsTuple t xs:=ht;have As:(⟨hp.push {cls:=.type "tuple_iterator",data:=.fields #[.ref t,.int 0 0]},g,d,tk,os⟩:ag).heap.IsTuple u ys:=hu.push _
  wp_walk using rf ht',rf As
  have lt:t<hp.objs.size:=by obtain⟨o,e,_⟩:=ht;exact au e
  have lu:u<hp.objs.size:=by obtain⟨o,e,_⟩:=hu;exact au e
  simp only[dq];refine⟨_,rfl,k _ _ (VT rfl lt lu rfl rfl rfl rfl ?_)⟩;simp only[dq];rfl
section
variable{a b:ba}{elts:List ba}{kk:Nat}{tp p pos:Pos}{ta:TA}{ms:M zw}
def VV(K:ak)(ta:TA):TI:=λσ H R=>ta σ H λvs H1=>∃t u xs ys,vs=[.ref t,.ref u]/\Ap K H1 t xs/\Ap K H1 u ys/\R (BB K t u) H1
theorem VW:cx "zip"=some (.type "zip"):=by decide+kernel
theorem VX(hg:Gl X "zip")(hm:X.mg "zip"=none)(ha:PA X [a,b] ta)(hs:ao [a,b] X.env=[(false,eval a X.env),(false,eval b X.env)]:=by rfl)(hs2:ao [b] X.env=[(false,eval b X.env)]:=by rfl):
  PI X (.Tuple elts kk tp) (.Call (.Name "zip" p) [a,b] [] pos) (VV X.K ta):=by
 intro pins s σ H R I h;refine Call_ (oS I hg hm VW (km (aH (ha pos pins s σ H _ I h) λus s1⟨vs,H1,I1,r1,q1⟩=>?_) (by rw[hs,hs2]) (by rw[hs2];rfl)));obtain⟨t,u,xs,ys,e,hq,hr,q⟩:=q1;subst e;obtain⟨u1,u2,rfl,e1,e2⟩:=FR r1;cases e1;cases e2;obtain⟨its,rv,p1,_⟩:=I1.tuple hq;obtain⟨jts,rw',p2,_⟩:=I1.tuple hr;refine callType_new F.called_zip (by decide) (F.typeCall_zip_2 _ _) (F.newCall_zip_2 _ _) (λobj=>F.args_object_init_3 obj _ _) F.entry_zip_new (VU its.toArray jts.toArray) ⟨p1,p2,λh' z nz=>?_⟩;obtain⟨TI,TO,i,j,za,f4,fresh,kp⟩:=nz;refine⟨⟨_,za.zp,rfl⟩,?_⟩;have I2:Inv X pins σ H1 {s1 with heap:=h'}:=I1.kept (t':=s1.toks) kp;refine wpAny_pyIter_zip za.zp ⟨z,[z,TI,TO,i,j],_,_,H1,rfl,I2,VR f4 f4.u3 f4.v4,za,λb hb=>I1.fpOk (fresh b hb) (I1.hok.fresh (fresh b hb)),q⟩
def qV(xs ys:zw):Src:=eB ((xs.zip ys).map λq=>.tup [q.1,q.2])
def qW:zw->Hs->Rs Src
 |[.tup xs,.tup ys],h=>.ok (qV xs ys) h
 |_,_=>.bad
theorem Bm.zip{μ:Nat->ah}{n:Nat}{H:Hp}{t u:ah}{vs ws:Ez}{xs ys:zw}{K:ak}(e:H t=some (.tup vs))(e':H u=some (.tup ws))(r:RelDL G μ n H xs vs)(r':RelDL G μ n H ys ws):Bm G μ n H (qV xs ys) (BB K t u):=by
 intro k μ2 h2 H2 x2 s2;have f:=x2.im t (.tup vs) trivial e;have f':=x2.im u (.tup ws) trivial e';have g:=Eb x2 _ _ r;have g':=Eb x2 _ _ r';have hl:(qV xs ys).n=min xs.length ys.length:=by simp[qV,eB]
 constructor
 ·intro hk d hd;have hd':((xs.zip ys).map λq=>Ew [q.1,q.2])[k]?=some d:=hd;rw[fx]at hd'
  cases q:(xs.zip ys)[k]? with
  |none=>rw[q]at hd';cases hd'
  |some xy=>
   rw[q]at hd';cases hd';obtain⟨qx,qy⟩:=qo.mp q;obtain⟨v,ev,rv⟩:=g.get qx;obtain⟨w',ew,rw'⟩:=g'.get qy;refine⟨⟨vs,ws,v,w',Ek f,Ek f',ev,ew⟩,λx H' hy=>?_⟩;obtain⟨pp,v1,w1,rfl,np,rfl,a1,a2⟩:=hy;have b1:=a1 vs (Ek f);have b2:=a2 ws (Ek f');rw[ev]at b1;rw[ew]at b2
   cases b1;cases b2
   have sm:Bn H2 (aF H2 pp (.tup [v,w'])):=cJ np;exact⟨sm,pp,_,rfl,bP,Ei (El (Ed sm) _ _ rv) (Ei (El (Ed sm) _ _ rw') Eh)⟩
 ·intro hk _;refine⟨vs,ws,Ek f,Ek f',?_⟩;rw[g.length,g'.length,hk,hl];lia
theorem VY(hg:Gl X "zip")(hm:X.mg "zip"=none)(ha:dH X G E [a,b] ms)(hs:ao [a,b] X.env=[(false,eval a X.env),(false,eval b X.env)]:=by rfl)(hs2:ao [b] X.env=[(false,eval b X.env)]:=by rfl):
  iJ X G E (.Tuple elts kk tp) (.Call (.Name "zip" p) [a,b] [] pos) (aU qW ms):=λhK=>
 PI.imp (VX hg hm (ha hK) hs hs2) λσ H R⟨μ,ρ,h,rs,s,o⟩=>kG rs s o λμ1 ds h1 vs H1 x1 Ak s1 r1 o1=>by
  unfold qW at o1
  split at o1
  ·rename_i xs ys;obtain⟨v,v',rfl,rv,rv'⟩:=HH r1;obtain⟨t,us,rfl,e,r⟩:=rv;obtain⟨u,ws,rfl,e',r'⟩:=rv';exact⟨t,u,us,ws,rfl,Ek e,Ek e',o1.val s1 (Bm.zip e e' r r')⟩
  ·exact o1.elim
end
section
variable{prog:bg}{w:bu}{A:bq}{E:af->ag->Prop}{s:ag}{K:Frag}{e C N:ah}{o:Obj}
theorem VZ{Q:Bool->ag->Prop}(X:K.In s.heap)(he:s.heap.get? e=some o)(hc:o.cls=.ref C)(hn:subIn K (.ref N) (.type "BaseException")=some true)(ht:subIn K (.type "type") (.type "tuple")=some false)(hk:kitCls K (.ref N) (.ref N)=some true){b:Bool}(hs:subIn K (.ref C) (.ref N)=some b)(q:Q b s):
  wpAny (model prog w) A (excMatches (.ref e) (.ref N)) Q E s:=by
 have L1:=(kit_cls (M:=model prog w) X hk).1;have L2:=(kit_cls (M:=model prog w) X hk).2.1;have L3:=looks_subIn (M:=model prog w) X hn;have L4:=looks_subIn (M:=model prog w) X hs;have L5:=looks_subIn (M:=model prog w) X ht;obtain⟨hp,g,d,tk,os⟩:=s;unfold excMatches
 repeat (any_goals (first|assumption|(with_reducible refine wpAny_loadPart_at he ?_;rw[hc])|with_reducible refine L1.at ?_|with_reducible refine L2.at ?_|with_reducible refine L3.at ?_|with_reducible refine L4.at ?_|with_reducible refine L5.at ?_|wp_step))
 cases b
 all_goals (repeat (any_goals (first|assumption|wp_step)))
end
def iV(P:bg)(w:bu)(K:ak)(mg:Str->Option af)(base:bx)(N:zu)(qual:Str)(scope:dj)(f:ah)(cd:af)(cl:List (Str×ah))(A:bq)(outer:List Env)(s:ag)(H:Hp)(E:XK):Cx where
 prog:=P
 w:=w
 K:=K
 mg:=mg
 base:=base
 A:=A.deeper (mm qual scope s.heap.objs.size f cd cl)
 N:=N
 s₀:=s
 H₀:=H
 env:=mm qual scope s.heap.objs.size f cd cl
 outer:=outer
 stack:=mm qual scope s.heap.objs.size f cd cl::outer
 ex:=[]
 calm:=true
 fn:=λ_=>false
 pn:=[]
 xe:=λe s'=>wpAny (model P w) (A.deeper (mm qual scope s.heap.objs.size f cd cl)) (leaving (mm qual scope s.heap.objs.size f cd cl) e) (λ_ Dg=>aS P w base outer H s E e Dg) (λe' Dg=>aS P w base outer H s E e' Dg) s'
structure Bg(N:zu)(sc:dj):Prop where
 kind:sc.kind=.function
 co:sc.isCoroutine=false
 gen:sc.isGenerator=false
 nocell:∀x∈sc.names,x.2≠.cell
 fr:∀x∈N,sc.names.lookup x=some .free
 all:∀x∈sc.names,x.2=.free->x.1∈N
structure Df(G:Cfg)(base:bx)(H:Hp)(μ:Nat->ah)(n:Nat)(N:zu)(params:ji)(body:ba)(scope:dj)(f c':ah)(cl:List (Str×ah))(ds:zw):Prop where
 ob:∃pm ctv,H f=some (.frz (jy "<lambda>" G.lq params body scope cl pm c' ctv) (.own 0))
 cd:∃oc,H c'=some (.frz oc (.own 0))/\Cs G.lq oc
 inj:∀x y c,cl.lookup x=some c->cl.lookup y=some c->x=y
 len:ds.length=N.length
 at_:∀(i:Nat)(x:Str),N[i]?=some x->∃c,cl.lookup x=some c
 cell:∀(x:Str)(c:ah),cl.lookup x=some c->∃o u,base.get? c=some o/\o.data=.cell u
 val:∀(i:Nat)(x:Str)(c:ah)(d:Dv),N[i]?=some x->ds[i]?=some d->cl.lookup x=some c->∃o u v,base.get? c=some o/\o.data=.cell (some u)/\RelV v u/\Ac G μ n H d v
section
variable{P:bg}{w:bu}{K:ak}{mg:Str->Option af}{base:bx}{N:zu}{qual:Str}{scope:dj}{f:ah}{cdv:af}{cl:List (Str×ah)}{A:bq}{outer:List Env}{s0:ag}{H0:Hp}{E0:XK}{G:Cfg}{E:XK}{k:Nat}
theorem V0(hr:Aq k (A.deeper (mm qual scope s0.heap.objs.size f cdv cl)))(hK:K=G.K)(hE:∀u H',E u none H'->E0 u none H')(hF:wJ E):
  Good (iV P w K mg base N qual scope f cdv cl A outer s0 H0 E0) G E k where
 calm:=rfl
 room:=hr
 K:=hK
 own:=yn
 pas:=by intro pins σ H s u s' I ⟨e,C,H',eu,os,bare,un,hok,fl,he⟩;subst eu;have I':=I.call' os un hok bare (λb z=>absurd z (by simp));refine ae (A6 (P:=P) (w:=w) (H:=H') (base:=base) I'.ok.frames I'.stack rfl hok I'.stkFree fl λDr H'' un2 Bq Cz sx=>?_);have I2:=I'.call (h':=Dr) (g':=s'.gens) (d':=s'.drawn) (t':=s'.toks) un2 Bq I'.bare (λb z=>absurd z (by simp));obtain⟨T,a0,h1,_⟩:=id fl;obtain⟨T2,a2,h3,_⟩:=id Cz;have xe1:cG C e T a0 s'.heap:=(show Ag P w H' s'.heap e _ from hok e _ h1).1;have:E (.ref e) none H'':=hF e H' H'' sx ⟨C,T,a0,T2,a2,h1,⟨_,xe1⟩,h3⟩ he;exact⟨e,C,H'',rfl,I2.os,I2.bare,I2.base,Bq,Cz,hE _ _ this⟩
 rais:=by intro pins σ H s h' e C args I mx he;refine ae (HN (P:=P) (w:=w) (H:=H) (base:=base) I.ok.frames I.stack rfl I.hok I.stkFree I.bk mx λDr H'' un2 Bq Cz sm=>?_);have I2:=I.call (h':=Dr) (g':=s.gens) (d':=s.drawn) (t':=s.toks) un2 Bq I.bare (λb z=>absurd z (by simp));obtain⟨T2,a2,h3,_⟩:=id Cz;exact⟨e,C,H'',rfl,I2.os,I2.bare,I2.base,Bq,Cz,hE _ _ (he H'' sm ⟨T2,a2,h3⟩)⟩
end
noncomputable def IF{α:Type}:Rs α->Sr
 |.ex c h=>.ex c h
 |_=>.bad
section
variable{P:bg}{w:bu}{K:ak}{mg:Str->Option af}{base:bx}{N:zu}{params:ji}{body:ba}{scope:dj}{f c':ah}{cl:List (Str×ah)}{A:bq}{outer:List Env}{s:ag}{H:Hp}{E:XK}{G:Cfg}{k:Nat}{μ:Nat->ah}{h:Hs}{ds:zw}
theorem V1{h1:bx}{tk:Nat}{σ:St}{E₀:XK}(S:Bg N scope)(hd:A.handled=none)(e0:Co P w K mg base A outer s H)(L:Df G base H μ h.length N params body scope f c' cl ds)(hall:∀x c,cl.lookup x=some c->x∈N)(hns:h1.Ns s.heap.objs.size λ_=>none)(hk1:∀b o,s.heap.get? b=some o->h1.get? b=some o)(hσ:σ.length=N.length)(hv:∀(i:Nat)(x:Str)(v:V),N[i]?=some x->σ[i]?=some (some v)->∃c o u,cl.lookup x=some c/\base.get? c=some o/\o.data=.cell (some u)/\RelV v u):
  Inv (iV P w K mg base N G.lq scope f (.ref c') cl A outer s H E₀) [] σ H {s with heap:=h1,toks:=tk}:=by
 have noA:∀b:ah,b∉(iV P w K mg base N G.lq scope f (.ref c') cl A outer s H E₀).ex:=λb z=>absurd (show b∈([]:List ah) from z) (by simp);have kfree:∀x,scope.names.lookup x=some .free->x∈N:=λx e=>S.all _ (fh e) rfl;refine⟨⟨e0.mod,S.kind,rfl,rfl,aq _,L.inj,λx hx=>?_,λx c z=>(nomatch z),λ_=>hd,ym e0.frames,.inr ⟨rfl,rfl⟩,λb z=>absurd z (noA b),e0.bs,e0.bsz,λb _ _=>noA b,λb z=>absurd z (noA b),e0.funs,e0.frf⟩,
  rfl,e0.bare,Un.kept hk1,⟨_,hns,λi x v h1' h2 h3=>?_⟩,λx c e=>?_,e0.hok.fresh (aq _),λx c e=>?_,λp hp=>absurd (show p∈([]:List (ah×Obj)) from hp) (by simp),e0.hok.kept hk1,hσ⟩
 ·have hx:scope.names.lookup x=some .cell∨scope.names.lookup x=some .free:=hx
  rcases hx with hx|hx
  ·exact absurd rfl (S.nocell _ (fh hx))
  ·obtain⟨i,hi⟩:=List.getElem?_of_mem (kfree x hx);exact L.at_ i x hi
 ·obtain⟨c,o,u,e1,e2,e3,r⟩:=hv i x v h1' h2;refine⟨u,r,.inr ⟨.inr (S.fr x (gb h1')),c,e1,o,hk1 _ _ (e0.bs _ _ e2).1,e3⟩⟩
 ·obtain⟨o,u,e2,e3⟩:=L.cell x c e;exact⟨u,o,hk1 _ _ (e0.bs _ _ e2).1,e3⟩
 ·obtain⟨o,u,e2,e3⟩:=L.cell x c e;exact(e0.bs _ _ e2).2
theorem V2{me:M Dv}{Q:VK}(S:Bg N scope)(hK:K=G.K)(hb:∀(cl:List (Str×ah))(pm cdv ct:af),bindArgs (pf "<lambda>" G.lq params body scope cl pm cdv ct) ⟨[],[]⟩=pure [])(Aw:∀(f:ah)(cdv:af)(cl:List (Str×ah))(A:bq)(outer:List Env)(s:ag)(H:Hp)(E₀ E:XK),Good (iV P w K mg base N G.lq scope f cdv cl A outer s H E₀) G E k->aB (iV P w K mg base N G.lq scope f cdv cl A outer s H E₀) G E body me)(hr:Aq (k+1) A)(e0:Co P w K mg base A outer s H)(L:Df G base H μ h.length N params body scope f c' cl ds)(hall:∀x c,cl.lookup x=some c->x∈N)(sm:Ai G μ h H)(o:Out G E μ h.length H (me (ds.map some) h) (Ac G) Q):
  codeAny (model P w) A (.call (.ref f) ⟨[],[]⟩) (CR (aS P w base) outer P w H s Q E) s:=by
 obtain⟨pm,ctv,ho⟩:=L.ob;obtain⟨oc,hc,vs,t,hcd,hq⟩:=L.cd;have lim:s.heap.NoLimit:=e0.mod.nolimit.keeps λb o e=>(e0.bs b o e).1;have gc:s.heap.get? c'=some oc:=(e0.hok c' _ hc).1;refine PySem.W.kla_callFunE hr.depth (e0.hok f _ ho).1 rfl S.co S.gen rfl ⟨c',oc,vs,t,rfl,gc,hcd,hq⟩ ?_;rw[hb];refine aj (wpAny_newFunctionEnv S.nocell (λx hx=>absurd hx (by simp)) (λh₁ hns hsb=>⟨lim.fresh _ hsb,?_⟩) S.kind);show codeAny _ _ (.expr body (mm G.lq scope s.heap.objs.size f (.ref c') cl)) _ _;have hk₁:∀b o,s.heap.get? b=some o->h₁.get? b=some o:=λb o e=>hsb.extBut b o (aw (au e)) (ai _ e);have hvs:∀(i:Nat),i<N.length->∃v:V,∀d,ds[i]?=some d->Ac G μ h.length H d v/\∀x,N[i]?=some x->∃c o u,cl.lookup x=some c/\base.get? c=some o/\o.data=.cell (some u)/\RelV v u:=λi hi=>by
  obtain⟨x,hx⟩:∃x,N[i]?=some x:=⟨_,cn hi⟩
  obtain⟨d,hd⟩:∃d,ds[i]?=some d:=⟨_,cn (by rw[L.len];exact hi)⟩
  obtain⟨c,ec⟩:=L.at_ i x hx;obtain⟨oo,u,v,e1,e2,r1,r2⟩:=L.val i x c d hx hd ec;refine⟨v,λd' hd'=>?_⟩;rw[hd]at hd';cases hd';refine⟨r2,λx' hx'=>?_⟩;rw[hx]at hx';cases hx';exact⟨c,oo,u,ec,e1,e2,r1⟩
 have Cy:∃vs:Ez,vs.length=N.length/\∀(i:Nat)(v:V),vs[i]?=some v->∀d,ds[i]?=some d->Ac G μ h.length H d v/\∀x,N[i]?=some x->∃c o u,cl.lookup x=some c/\base.get? c=some o/\o.data=.cell (some u)/\RelV v u:=by
  have:∀m,m<=N.length->∃vs:Ez,vs.length=m/\∀(i:Nat)(v:V),vs[i]?=some v->∀d,ds[i]?=some d->Ac G μ h.length H d v/\∀x,N[i]?=some x->∃c o u,cl.lookup x=some c/\base.get? c=some o/\o.data=.cell (some u)/\RelV v u:=by
   intro m
   induction m with
   |zero=>exact λ_=>⟨[],rfl,λi v e=>by simp at e⟩
   |succ m ih=>
    intro hm;obtain⟨vs,hl,hv⟩:=ih (by lia);obtain⟨v,hv'⟩:=hvs m (by lia);refine⟨vs++[v],by simp[hl],λi v' e d hd=>?_⟩
    by_cases hi:i<vs.length
    ·rw[di hi]at e;exact hv i v' e d hd
    ·rw[gz (by lia)]at e;have:i=m:=by have:=(av.mp e).1;simp at this;lia
     subst this;simp[hl]at e;subst e;exact hv' d hd
  exact this _ (aq _)
 obtain⟨Bh,hl,hv⟩:=Cy;have I:Inv (iV P w K mg base N G.lq scope f (.ref c') cl A outer s H E) [] (Bh.map some) H {s with heap:=h₁,toks:=s.toks+([]:List (Str×af)).length}:=by
  refine V1 S hr.hd e0 L hall hns hk₁ (by simp[hl]) λi x v h1 h2=>?_;have h3:Bh[i]?=some v:=by
   rw[fx]at h2
   cases q:Bh[i]? with
   |none=>rw[q]at h2;cases h2
   |some a=>rw[q]at h2;cases h2;rfl
  obtain⟨d,hd⟩:∃d,ds[i]?=some d:=⟨_,cn (by rw[L.len];exact(av.mp h1).1)⟩
  exact(hv i v h3 d hd).2 x h1
 have rs:Ah G μ h.length H (ds.map some) (Bh.map some):=⟨by simp[hl,L.len],λi d e=>by
  have h3:ds[i]?=some d:=by
   rw[fx]at e
   cases q:ds[i]? with
   |none=>rw[q]at e;cases e
   |some a=>rw[q]at e;cases e;rfl
  have hi:i<Bh.length:=by rw[hl,<-L.len];exact(av.mp h3).1
  exact⟨Bh[i],by rw[fx,cn hi];rfl,(hv i _ (cn hi) d h3).1⟩⟩
 have gd:Good (iV P w K mg base N G.lq scope f (.ref c') cl A outer s H E) G (EB G μ h.length H (IF (me (ds.map some) h))) k:=V0 (hr.deeper _) hK (λu H'⟨c,h',μ',er,x,s',fl⟩=>by
  cases q:me (ds.map some) h with
  |ok d hh=>rw[q]at er;cases er
  |bad=>rw[q]at er;cases er
  |ex c1 h1=>rw[q]at er o;cases er;exact o μ' H' u x s' fl) tH
 refine PySem.W.kla_codeExpr (jk (Aw f (.ref c') cl A outer s H E _ gd hK [] _ (Bh.map some) H Q I ⟨μ,ds.map some,h,rs,sm,?_⟩) (λu s'⟨v,H',J,rv,q⟩=>⟨v,H',J.os,J.bare,J.base,J.hok,rv,q⟩) λe s' hs=>hs)
 cases q:me (ds.map some) h with
 |ok d hh=>rw[q]at o;exact o
 |bad=>rw[q]at o;exact o
 |ex c1 h1=>exact λμ' H' u x' s' fl=>⟨c1,h1,μ',rfl,x',s',fl⟩
end
section
variable{X:Cx}{pins:List (ah×Obj)}{σ:St}{H:Hp}{s:ag}
theorem V3{i:Nat}{x:Str}{h':bx}{tk:Nat}{m:Str->Option af}{v:Option af}(I:Inv X pins σ H s)(hN:X.N.Nodup)(hi:X.N[i]?=some x)(hn:s.heap.Ns X.env.locals m)(hl:∀(i:Nat)(x:Str)(v:V),X.N[i]?=some x->σ[i]?=some (some v)->oR X.env.scope x->∃u,RelV v u/\E7 X.env s.heap m x u)(hs:ic X.env.locals s.heap h')(hn':h'.Ns X.env.locals (λy=>if y=x then v else m y)):Inv X pins (σ.set i none) H {s with heap:=h',toks:=tk}:=by
 have cne:=I.cne;have hok:Az X.prog X.w H h':=λb ob e=>by
  refine(I.hok b ob e).stay (λc w' hc q=>(hs.2 c ?_).trans q) (λ_ q=>q) λ_ _ q=>q
  rintro rfl
  have hfree:=I.free
  rcases hc with hc|hc
  ·rw[<-hc]at e;rw[hfree]at e;cases e
  ·rw[hfree]at hc;cases hc
 refine⟨I.ok,I.os,I.bare,⟨λb o e n hb hx=>?_,λb o e n hb hx=>?_,I.base.free,λb o e hx=>?_,I.base.tups,I.base.frzs,I.base.tbls⟩,⟨_,hn',λj y v' e1 e2 e3=>?_⟩,λy c e=>?_,I.free,I.freeC,λp hp=>?_,hok,by simpa using I.len⟩
 ·exact(hs.2 b (aw (ar (au e) I.ok.above))).trans (I.base.keep b o e n hb hx)
 ·obtain⟨sl,e1⟩:=I.base.slot b o e n hb hx;exact⟨sl,(hs.2 b (aw (ar (au e) I.ok.above))).trans e1⟩
 ·obtain⟨o',e1⟩:=I.base.there b o e hx;exact⟨o',(hs.2 b (aw (ar (au e) I.ok.above))).trans e1⟩
 ·by_cases hj:j=i
  ·subst hj;have hiσ:j<σ.length:=by rw[I.len];exact(av.mp hi).1
   rw[da hiσ]at e2;cases e2
  ·rw[gg (cp hj)]at e2;obtain⟨u',r',q⟩:=hl j y v' e1 e2 e3;refine⟨u',r',?_⟩
   rcases q with⟨k,e⟩|⟨k,c,e,z⟩
   ·refine .inl ⟨k,?_⟩;have:y≠x:=λe=>hj (zP hN e1 (e▸hi));show(if y=x then v else m y)=some u';rw[if_neg this];exact e
   ·exact .inr ⟨k,c,e,z.sameBut hs (cne y c e)⟩
 ·obtain⟨w',z⟩:=I.cell y c e;exact⟨w',z.sameBut hs (cne y c e)⟩
 ·obtain⟨e,n,ne,nf,d⟩:=I.pin p hp;exact⟨(hs.2 p.1 ne).trans e,n,ne,nf,d⟩
noncomputable def qX(X:Cx)(e:af):Cx:={X with A:=X.A.mark (some e),calm:=false,xe:=λ_ _=>False}
theorem IG(e:af)(I:Inv X pins σ H s):Inv (qX X e) pins σ H s:=
 have ok:=I.ok
 ⟨⟨ok.mod,ok.kind,ok.glob,ok.blt,ok.above,ok.inj,ok.has,ok.cab,λz=>(nomatch z),ok.frames,ok.stk,ok.exf,ok.bs,ok.bsz,ok.noex,ok.exfs,ok.funs,ok.frf⟩,I.os,I.bare,I.base,I.loc,I.cell,I.free,I.freeC,I.pin,I.hok,I.len⟩
theorem V4{e:af}(ok:X.Ok)(I:Inv (qX X e) pins σ H s):Inv X pins σ H s:=⟨ok,I.os,I.bare,I.base,I.loc,I.cell,I.free,I.freeC,I.pin,I.hok,I.len⟩
end
section
variable{k:Nat}{N:zu}{params:ji}{body:ba}{scope:dj}{me:M Dv}{ncl:Nat}{NE:ah}
theorem V5{x xn en nm:Str}{p cpos epos np xp ep apos hpos tpos:Pos}{pins:List (ah×Obj)}{σ:St}{H:Hp}{s:ag}{D:Ends}{f c':ah}{cl:List (Str×ah)}{μ:Nat->ah}{h:Hs}{ds:zw}(hK:X.K=G.K)(Ck:X.stack=X.env::X.outer)(Cm:X.env.frame=some X.env.locals)(hnd:X.N.Nodup)(h0:X.N[0]?=some x)(h1:X.N[1]?=some xn)(h2:X.N[2]?=some en)(hfn:∀y,X.fn y=true)(l0:X.env.scope.names.lookup x=some .local)(l1:X.env.scope.names.lookup xn=some .local)(l2:X.env.scope.names.lookup en=some .local)(d0:(x==Ey)=false)(c0:(x==("__classdict__":Str))=false)(d2:(en==Ey)=false)(c2:(en==("__classdict__":Str))=false)(dn:(nm==Ey)=false)(Cu:swapsWith (.Call (.Name x p) [] [] cpos) none epos.line X.env=pure false)(hsw2:swapsWith (.Name en ep) (some (.Name xn xp)) apos.line X.env=pure false)(hg:Gl X nm)(hm:X.mg nm=some (.ref NE))(hx1:kh X.K (.ref NE) (.type "BaseException")=some true)(hx2:kh X.K (.type "type") (.type "tuple")=some false)(hx3:vf X.K (.ref NE) (.ref NE)=some true)(hsub:∀c,c<ncl->kh X.K (.ref (G.cl c)) (.ref NE)=some true)(S:Bg N scope)(hb:∀(cl:List (Str×ah))(pm cdv ct:af),bindArgs (pf "<lambda>" G.lq params body scope cl pm cdv ct) ⟨[],[]⟩=pure [])(Aw:∀(f:ah)(cdv:af)(cl:List (Str×ah))(A:bq)(outer:List Env)(s:ag)(H:Hp)(E₀ E:XK),Good (iV X.prog X.w X.K X.mg X.base N G.lq scope f cdv cl A outer s H E₀) G E k->aB (iV X.prog X.w X.K X.mg X.base N G.lq scope f cdv cl A outer s H E₀) G E body me)(hr:Aq (k+1) X.A)(I:Inv X pins σ H s)(hσ:σ[0]?=some (some (.ref f)))(L:Df G X.base H μ h.length N params body scope f c' cl ds)(hall:∀x c,cl.lookup x=some c->x∈N)(sm:Ai G μ h H)(hD:match me (ds.map some) h with
   |.ok _ h1=>∀μ' H',Ext μ h.length H μ' h1.length H'->Ai G μ' h1 H'->D.nx σ H'
   |.ex c h1=>c<ncl/\∀μ' H' a,Ext μ h.length H μ' h1.length H'->Ai G μ' h1 H'->Ac G μ' h1.length H' (.exc c) (.ref a)->D.nx (((σ.set 2 (some (.ref a))).set 1 (some (.ref a))).set 2 none) H'
   |.bad=>False):
  wpAny (model X.prog X.w) X.A (exec (.Try [.Expr (.Call (.Name x p) [] [] cpos) epos] [.ExceptHandler (some (.Name nm np)) (some en) [.Assign [.Name xn xp] (.Name en ep) apos] hpos] [] [] tpos) X.env) (SP X pins D) X.xe s:=by
 have hcls:(X.env.scope.kind==.class||(X.env.scope.kind==.module&&X.env.locals !=X.env.globals))=false:=by rw[I.ok.kind];rfl
 refine wpAny_Try_except ?_;obtain⟨pm,ctv,ho⟩:=L.ob;refine pb (wpAny_Expr_any (jl (aH (jk (qG (X:=X.nox) (pos:=p) h0 (.inl l0) d0 c0 pins s σ H (λv H'=>v=.ref f/\H'=H) (I.wish _) ⟨_,hσ,rfl,rfl⟩) (λ_ _ q=>q) λ_ _ z=>gh z) λu s1⟨v,H',I',r,e1,e2⟩=>?_)) I.quiet Cu);subst e1;subst e2;cases r;have I1:Inv X pins σ H' s1:=I'.unwish;refine PySem.W.callWith_F0 ⟨_,_,_,_,(I1.hok f _ ho).1⟩ ?_;refine ua (mf (V2 (E:=EB G μ h.length H' (IF (me (ds.map some) h))) (Q:=λ_ H2=>∃d hh μ',me (ds.map some) h=.ok d hh/\Ext μ h.length H' μ' hh.length H2/\Ai G μ' hh H2) S hK hb Aw hr I1.env0 L hall sm ?_) λr s' hq=>?_)
 ·cases q:me (ds.map some) h with
  |ok d hh=>exact λμ' H' v x' s' _=>⟨d,hh,μ',rfl,x',s'⟩
  |bad=>rw[q]at hD;exact hD.elim
  |ex c1 h1=>exact λμ' H' u x' s' fl=>⟨c1,h1,μ',rfl,x',s',fl⟩
 cases r with
 |ok fl=>
  cases fl with
  |ret u=>obtain⟨v,H2,I2,r2,d,hh,μ',e1,x1,s1⟩:=I1.after hq;refine qf (qf ?_);rw[e1]at hD;exact⟨σ,H2,I2,hD μ' H2 x1 s1⟩
  |next=>exact gh hq
  |brk=>exact gh hq
  |cont=>exact gh hq
 |error ev=>
  obtain⟨e,C,H2,rfl,os,bare,un,hok,fl,c,hh,μ',er,x1,sm1,e',φ,eu,g1,g2⟩:=hq;cases eu
  cases qm:me (ds.map some) h with
  |ok d h3=>rw[qm]at er;cases er
  |bad=>rw[qm]at er;cases er
  |ex c3 h3=>
  rw[qm]at er hD;cases er;obtain⟨hc,hD⟩:=hD;have I2:Inv X pins σ H2 s':=I1.call' os un hok bare (λb z=>absurd z (by simp));refine A6 (P:=X.prog) (w:=X.w) (H:=H2) (base:=X.base) (env:=X.env) (outer:=X.outer) (by rw[<-Ck];exact I2.ok.frames) (by rw[<-Ck];exact I2.stack) Cm hok (by rw[<-Ck];exact I2.stkFree) fl λh4 H4 un4 hok4 fl4 sx4=>?_;have I4:Inv X pins σ H4 {s' with heap:=h4}:=I2.call (h':=h4) (g':=s'.gens) (d':=s'.drawn) (t':=s'.toks) (by rw[Ck];exact un4) hok4 I2.bare (λb z=>absurd z (by simp));obtain⟨sm4,x4⟩:=sm1.sameX sx4 ⟨_,g1⟩;obtain⟨T,a0,w1,w2,w3,w4⟩:=id fl4;obtain⟨T0,b0,v1,_,_,_⟩:=id fl;have hC:C=.ref (G.cl c):=by have xo:cG C e T0 b0 s'.heap:=(show Ag X.prog X.w H2 s'.heap e _ from hok e _ v1).1;rw[v1]at g1;cases g1;obtain⟨oo,q1,q2⟩:=g2 _ xo;obtain⟨o2,vs2,q3,q4,_⟩:=xo;rw[q3]at q1;cases q1;rw[<-q4,q2]
  subst hC;have xo4:cG (.ref (G.cl c)) e T a0 h4:=(show Ag X.prog X.w H4 h4 e _ from hok4 e _ w1).1;obtain⟨oe,vs,y1,y2,y3,y4,y5,y6⟩:=id xo4;refine wpAny_handleBy_cons (codeAny_handlers_test (jk (qH (X:=qX X (.ref e)) (E:=λ_ _=>False) (Q:=λu s5=>u=.ref NE/\Inv X pins σ H4 s5/\s5.heap=h4) (IG _ I4) hg hm ⟨rfl,I4,rfl⟩ dn) (λcv s5 hs5=>?_) λ_ _ z=>gh z)) (by intro z;cases z);obtain⟨rfl,I5,e5⟩:=hs5;refine VZ (K:=X.K) I5.kIn (by rw[e5];exact y1) y2 hx1 hx2 hx3 (hsub c hc) ?_;obtain⟨oT,ts,z1,z2,z3⟩:cW T h4:=(show Ag X.prog X.w H4 h4 T _ from hok4 T _ w2).1;have l3:3<ts.size:=(fq.mp z3).1;refine codeAny_handlers_suite_as (A4 (e:=e) (T:=T) (by rw[e5];exact y1) y3 y5 (by rw[e5];exact z1) z2 l3 λh6 sb6 tb6=>?_);rw[e5]at sb6;have ge6:h6.get? e=some oe:=sb6.extBut _ _ (cp w4) y1;have I6:Inv X pins σ (aF H4 T (.ext (cW T))) {s5 with heap:=h6}:=I5.write (x:=T) (e:=T) (o:=.ext (cW T)) (h':=h6) (t':=s5.toks) (by rw[w2];trivial) (.inl rfl) (λb u hb q=>by rw[e5]at q;exact sb6.extBut _ _ hb q) (let ⟨oo,_,q,_⟩:=tb6;⟨oo,q⟩) (pM tb6);have se:Bn H4 (aF H4 T (.ext (cW T))):=λb o q=>by
   by_cases hb:b=T
   ·subst hb;rw[w2]at q;cases q;exact bP
   ·rw[aM hb];exact q
  have w1':(aF H4 T (.ext (cW T))) e=some (.ext (cG (.ref (G.cl c)) e T a0)):=se _ _ w1;have I7:Inv X pins σ (aF (aF H4 T (.ext (cW T))) e (.frz oe (.own 0))) {s5 with heap:=h6}:=I6.write (x:=e) (e:=e) (o:=.frz oe (.own 0)) (h':=h6) (t':=s5.toks) (by rw[w1'];trivial) (.inl rfl) (λb u hb q=>q) ⟨_,ge6⟩ ⟨ge6,oe,ge6⟩;have sx7:mF e (aF H4 T (.ext (cW T))) (aF (aF H4 T (.ext (cW T))) e (.frz oe (.own 0))):=λb o hb q=>by rw[aM hb];exact q
  obtain⟨sm7,x7⟩:=(sm4.same se).sameX sx7 ⟨_,w1'⟩;have xx:Ext μ h.length H' μ' hh.length (aF (aF H4 T (.ext (cW T))) e (.frz oe (.own 0))):=x1.trans ((x4 _).trans ((Ed se).trans (x7 _)));generalize hH7:aF (aF H4 T (.ext (cW T))) e (.frz oe (.own 0))=H7 at *;have rl:Ac G μ' hh.length H7 (.exc c) (.ref e):=by rw[Ac,<-hH7];exact⟨e,oe,.own 0,rfl,bP,y2,y6,vs,y3⟩
  refine zQ (v:=.ref e) I7 hnd h2 (.inl l2) rfl (λs8 I8=>?_) (.inr l2);have I8':Inv (qX X (.ref e)) pins (σ.set 2 (some (.ref e))) H7 s8:=IG _ I8;have hlen:2<σ.length:=by rw[I.len];exact(av.mp h2).1
  refine jk (zR (vE (X:=qX X (.ref e)) (i:=1) (pos:=apos) (pos':=xp) hnd h1 (.inl l1) (qG (X:=qX X (.ref e)) (pos:=ep) h2 (.inl l2) d2 c2) hsw2 (.inr l1)) pins s8 (σ.set 2 (some (.ref e))) H7 {nx:=λσ' H'=>σ'=(σ.set 2 (some (.ref e))).set 1 (some (.ref e))/\H'=H7,rt:=λ_ _=>False} I8' ⟨.ref e,da hlen,rfl,rfl⟩) (λfl9 s9 hs9=>?_) λ_ _ z=>gh z
  cases fl9 with
  |ret u=>obtain⟨_,_,_,_,_,z⟩:=hs9;exact z.elim
  |brk=>obtain⟨_,_,_,z⟩:=hs9;exact z.elim
  |cont=>obtain⟨_,_,_,z⟩:=hs9;exact z.elim
  |next=>obtain⟨σ9,H9,I9,e9,f9⟩:=hs9;subst e9;subst f9;have I9':Inv X pins _ H9 s9:=V4 I8.ok I9;obtain⟨m,hn,hl⟩:=id I9'.loc;refine wpAny_nameGoes_keeps l2 hn hcls λh10 v10 hn10 hs10=>?_;exact⟨_,H9,V3 I9' hnd h2 hn hl hs10 hn10,hD μ' H9 e xx sm7 rl⟩
end
noncomputable def tJ:Sr->Rs Dv
 |.rt d h=>.ok d h
 |.nx _ h=>.ok .non h
 |_=>.bad
noncomputable def nU(n:Nat)(d:Dv):Ev:=none::some d::wq (n-2) none
def tK(n ncl:Nat)(mb:MS):Rs Dv->Rs Dv
 |.ok _ h1=>tJ (mb (nU n .non) h1)
 |.ex c h1=>if c<ncl then tJ (mb (nU n (.exc c)) h1)else .bad
 |.bad=>.bad
def BC(G:Cfg)(base:bx)(Nl:zu)(params:ji)(body:ba)(scope:dj)(me:M Dv)(n ncl:Nat)(mb:MS):Sp:=λvs H Q E=>∃f c' cl ds μ h,vs=[.ref f]/\Df G base H μ h.length Nl params body scope f c' cl ds/\(∀x c,cl.lookup x=some c->x∈Nl)/\Ai G μ h H/\Out G E μ h.length H (tK n ncl mb (me (ds.map some) h)) (Ac G) Q
theorem IH{G:Cfg}{E:XK}{μ μ1:Nat->ah}{n n1:Nat}{H H1:Hp}{r:Sr}{Q:VK}(o:Out G E μ n H (tJ r) (Ac G) Q)(x:Ext μ n H μ1 n1 H1):Bl G (λ_ _ _=>False) μ1 n1 H1 r {nx:=λ_ H'=>Q .non H',rt:=Q}:=by
 cases r with
 |nx ρ h'=>exact λμ' H' σ' y s _=>o μ' H' .non (x.trans y) s rfl
 |rt d h'=>exact λμ' H' v y s r=>o μ' H' v (x.trans y) s r
 |bk ρ h'=>exact o.elim
 |ct ρ h'=>exact o.elim
 |ex c h'=>exact o.elim
 |bad=>exact o
theorem II{G:Cfg}{μ:Nat->ah}{n:Nat}{H:Hp}{m:Nat}{d:Dv}{v:V}{σ:St}(hl:σ.length=m)(hm:2<=m)(h1:σ[1]?=some (some v))(r:Ac G μ n H d v):Ah G μ n H (nU m d) σ:=by
 refine⟨by simp[nU,hl];lia,λi d' e=>?_⟩;unfold nU at e
 match i,e with
 |0,e=>simp at e
 |1,e=>simp at e;subst e;exact⟨v,h1,r⟩
 |i+2,e=>
  simp only[List.getElem?_cons_succ,rn]at e
  split at e<;>cases e
section
variable{P:bg}{w:bu}{K:ak}{mg:Str->Option af}{base:bx}{f:ah}{G:Cfg}{k:Nat}{Nm Nl:zu}{params:ji}{body:ba}{scope:dj}{me:M Dv}{ncl:Nat}{NE:ah}{mb:MS}
theorem V6{x xn en nm q qual:Str}{st:fj}{fd:ay}{p cpos epos np xp ep apos hpos tpos zpos zp npos:Pos}{j:Nat}{rest:List fj}(Fn:Fun K q qual st f fd)(S:Ab Nm [x] (aI st))(hK:K=G.K)(hdef:gJ st=.Assign [.Name xn zp] (.Constant .none j npos) zpos::.Try [.Expr (.Call (.Name x p) [] [] cpos) epos] [.ExceptHandler (some (.Name nm np)) (some en) [.Assign [.Name xn xp] (.Name en ep) apos] hpos] [] [] tpos::rest)(h0:Nm[0]?=some x)(h1:Nm[1]?=some xn)(h2:Nm[2]?=some en)(l0:(aI st).names.lookup x=some .local)(l1:(aI st).names.lookup xn=some .local)(l2:(aI st).names.lookup en=some .local)(d0:(x==Ey)=false)(c0:(x==("__classdict__":Str))=false)(d2:(en==Ey)=false)(c2:(en==("__classdict__":Str))=false)(dn:(nm==Ey)=false)(Cu:∀L cd,swapsWith (.Call (.Name x p) [] [] cpos) none epos.line (envOfC qual (aI st) L f cd)=pure false)(hsw2:∀L cd,swapsWith (.Name en ep) (some (.Name xn xp)) apos.line (envOfC qual (aI st) L f cd)=pure false)(hsw3:∀L cd,swapsWith (.Constant .none j npos) (some (.Name xn zp)) zpos.line (envOfC qual (aI st) L f cd)=pure false)(hg:(aI st).names.lookup nm=some .globalImplicit)(hm:mg nm=some (.ref NE))(hx1:kh K (.ref NE) (.type "BaseException")=some true)(hx2:kh K (.type "type") (.type "tuple")=some false)(hx3:vf K (.ref NE) (.ref NE)=some true)(hsub:∀c,c<ncl->kh K (.ref (G.cl c)) (.ref NE)=some true)(LS:Bg Nl scope)(hb:∀(cl:List (Str×ah))(pm cdv ct:af),bindArgs (pf "<lambda>" G.lq params body scope cl pm cdv ct) ⟨[],[]⟩=pure [])(Aw:∀(f:ah)(cdv:af)(cl:List (Str×ah))(A:bq)(outer:List Env)(s:ag)(H:Hp)(E₀ E:XK),Good (iV P w K mg base Nl G.lq scope f cdv cl A outer s H E₀) G E k->aB (iV P w K mg base Nl G.lq scope f cdv cl A outer s H E₀) G E body me)(C':∀(cdv:af)(A:bq)(outer:List Env)(s:ag)(H:Hp)(E₀ E:XK),Good (eK (aS P w base) P w K mg base Nm qual (aI st) f cdv A outer s H E₀) G E (k+1)->iI (eK (aS P w base) P w K mg base Nm qual (aI st) f cdv A outer s H E₀) G E rest mb):
  Af P w K mg base (aS P w base) (k+2) f fd [x] (BC G base Nl params body scope me Nm.length ncl mb):=by
 obtain⟨oc,od,kV,doc,pm,an,cdv,ct,osl,rfl,lk,hcd⟩:=Fn.ex;have hNl:2<Nm.length:=(av.mp h2).1;refine vJ lk hcd S (λvs H Q E⟨f,c',cl,ds,μ,h,e,_⟩=>by rw[e];rfl) λA outer s H vs Q E hr hsp=>?_;obtain⟨fl,c',cl,ds,μ,h,rfl,L,hall,sm,o⟩:=hsp;refine⟨λD σ H1=>σ=start Nm [.ref fl]/\H1=H/\D={nx:=λ_ H'=>Q .non H',rt:=Q},?_,rfl,rfl,rfl⟩;intro pins s1 σ H1 D I ⟨eσ,eH,eD⟩;subst eH;have hσl:σ.length=Nm.length:=I.len;have hσ0:σ[0]?=some (some (.ref fl)):=by rw[eσ];rfl
 rw[hdef];have gd:Good (eK (aS P w base) P w K mg base Nm qual (aI st) f cdv A outer s H1 E) G (λ_ _ _=>False) (k+1):=wK hr hK (λ_ _ z=>z.elim) (λ_ _ _ _ _ z=>z);have hset:(σ.set 1 (some .non))[0]?=some (some (.ref fl)):=by rw[gg (by decide)];exact hσ0
 refine pb (aH (vE (X:=eK (aS P w base) P w K mg base Nm qual (aI st) f cdv A outer s H1 E) (i:=1) (pos:=zpos) (pos':=zp) S.nd h1 (.inl l1) (E9 (j:=j) (pos:=npos)) (hsw3 _ _) (.inl rfl) pins s1 σ H1 {nx:=λσ' H'=>σ'=σ.set 1 (some .non)/\H'=H1,rt:=λ_ _=>False} I ⟨rfl,rfl⟩) λCz s2 q2=>?_)
 cases Cz with
 |ret u=>obtain⟨_,_,_,_,_,z⟩:=q2;exact z.elim
 |brk=>obtain⟨_,_,_,z⟩:=q2;exact z.elim
 |cont=>obtain⟨_,_,_,z⟩:=q2;exact z.elim
 |next=>
  obtain⟨σ2,H2,I2,e2,f2⟩:=q2;subst e2;subst f2;refine pb (aH (V5 (X:=eK (aS P w base) P w K mg base Nm qual (aI st) f cdv A outer s H2 E) (G:=G) (N:=Nl) (me:=me) (ncl:=ncl) (NE:=NE) (k:=k) (D:={nx:=wB G (λ_ _ _=>False) mb D,rt:=λ_ _=>False})
   hK rfl rfl S.nd h0 h1 h2 (λ_=>rfl) l0 l1 l2 d0 c0 d2 c2 dn (Cu _ _) (hsw2 _ _) hg hm hx1 hx2 hx3 hsub LS hb Aw hr I2 hset L hall sm ?_) λfl3 s3 q3=>?_)
  ·cases qm:me (ds.map some) h with
   |bad=>rw[qm]at o;exact o
   |ok d hh=>rw[qm]at o;intro μ' H' x' s';refine⟨μ',nU Nm.length .non,hh,II (v:=.non) (by rw[jq];exact hσl) (by lia) (da (by lia)) rfl,s',?_⟩;rw[eD];exact IH o x'
   |ex c hh=>
    rw[qm]at o;unfold tK at o;dsimp only at o
    split at o
    ·rename_i hc;refine⟨hc,λμ' H' a x' s' r'=>?_⟩;refine⟨μ',nU Nm.length (.exc c),hh,II (v:=.ref a) (by simp only[jq];exact hσl) (by lia) ?_ r',s',?_⟩
     ·rw[gg (by decide),da (by simp only[jq];lia)]
     ·rw[eD];exact IH o x'
    ·exact o.elim
  ·cases fl3 with
   |ret u=>obtain⟨_,_,_,_,_,z⟩:=q3;exact z.elim
   |brk=>obtain⟨_,_,_,z⟩:=q3;exact z.elim
   |cont=>obtain⟨_,_,_,z⟩:=q3;exact z.elim
   |next=>obtain⟨σ3,H3,I3,q3⟩:=q3;exact C' cdv A outer s H2 E _ gd hK pins s3 σ3 H3 D I3 q3
end
theorem V7:∀(l:List af)(a b:Int)(t u:Tok)(c:af),uv l->uv (l++[.int a t,.int b u,c]):=by
 intro l a b t u c h
 fun_induction uv l with
 |case1=>trivial
 |case2 x t y u z rest ih=>exact ih h
 |case3 l h1 h2=>exact h.elim
theorem V8{pos:Pos}{cv c:af}{a b:Int}{t u:Tok}:∀(l:List af),uv l->codeAmong pos (l++[.int a t,.int b u,c])=some cv->codeAmong pos l=some cv∨cv=c:=by
 intro l h
 fun_induction uv l with
 |case1=>
  intro e;simp only[List.nil_append,codeAmong]at e
  split at e
  ·cases e;exact .inr rfl
  ·cases e
 |case2 x t y u z rest ih=>
  intro e;simp only[List.cons_append,codeAmong]at e⊢
  split at e
  ·rename_i hc;rw[if_pos hc];exact .inl e
  ·rename_i hc;rw[if_neg hc];exact ih h e
 |case3 l h1 h2=>exact h.elim
def lL(mg:Str->Option af)(base:bx):Prop:=∃bm ob,mg "__builtins__"=some (.ref bm)/\bm≠builtinsNs/\base.get? bm=some ob/\ob.cls=.type "module"/\ob.dict=some builtinsNs/\ob.data=.plain
noncomputable def IJ(H H':Hp):Prop:=∀a o,(∀ps,o≠.tbl ps)->H a=some o->H' a=some o
section
variable{X:Cx}{G:Cfg}{params:ji}{body:ba}{scope:dj}{lpos:Pos}{c P:ah}
theorem V9(hdef:defaultsOf params X.env=([],[]))(hq:X.env.qual++"<lambda>"=G.lq)(hP:G.tabs P=some G.lq)(hcode:X.env.code=.ref c)(hC:mn X.base c P)(hB:lL X.mg X.base)(hfree:∀x,(x,bw)∈scope.names->X.env.kindOf x=some .cell∨X.env.kindOf x=some .free):
  PE X (.Lambda params body scope lpos) (λσ H Q=>Cf G H/\∀f c' pm ctv oc H1,H f=none->IJ H H1->Cf G H1->H1 f=some (.frz (jy "<lambda>" G.lq params body scope (cS X.env scope.names []) pm c' ctv) (.own 0))->H1 c'=some (.frz oc (.own 0))->Cs G.lq oc->Q (.ref f) H1):=by
 intro pins s σ H Q I ⟨hT,h⟩;obtain⟨ps,t1,t2,t3⟩:=hT P _ hP;have gP:s.heap.get? P=some (ph ps):=I.hok P _ t1;have Dh:closureFor scope X.env=pure (cS X.env scope.names []):=sG λx hx=>I.ok.has x (hfree x hx);have hgs:s.heap.Ns bz X.mg:=I.mod.glob.keeps I.bk;obtain⟨bm,ob,b1,b2,b3,b4,b5,b6⟩:=hB;have b3':=I.bk _ _ b3;have hgP:bz≠P:=λq=>by obtain⟨o,es,ep,e,hd,_⟩:=hgs;rw[q,gP]at e;cases e;cases hd
 have hbP:bm≠P:=λq=>by rw[q,gP]at b3';cases b3';cases b4
 have hbG:bm≠bz:=λq=>by obtain⟨o,es,ep,e,hd,_⟩:=hgs;rw[<-q,b3']at e;cases e;rw[hd]at b6;cases b6
 have hba:s.heap.BuiltinsAt X.mg P:=⟨bm,ob,b1,b2,hbG,hbP,b3',b4,b5,b6⟩
 refine PySem.W.kla_eval hdef ?_;rw[hq]
 cases hc:codeAmong lpos ps.toList with
 |some cv=>obtain⟨c',oc,ec,h2,h3⟩:=t3 lpos cv hc;subst ec;refine PySem.W.kla_makeFunctionHit (mg:=X.mg) Dh I.ok.glob hgs hcode (hC.keeps I.bk) gP t2 hc hba λctv h' tk hk hsz=>?_;have hn:H h'.objs.size=none:=I.hok.fresh hsz;have kk:∀b u,s.heap.get? b=some u->(h'.push {cls:=.type "function",data:=.func (pf "<lambda>" G.lq params body scope (cS X.env scope.names []) ((X.mg "__name__").getD .none) (.ref c') ctv)}).get? b=some u:=λb u q=>ai _ (hk b u q);have gf:=ax h' (o:=jy "<lambda>" G.lq params body scope (cS X.env scope.names []) ((X.mg "__name__").getD .none) c' ctv) rfl;have I1:=I.laid (a:=h'.objs.size) (o:=.frz (jy "<lambda>" G.lq params body scope (cS X.env scope.names []) ((X.mg "__name__").getD .none) c' ctv) (.own 0)) (t':=tk) kk hsz ⟨gf,_,gf⟩;have sm:Bn H (aF H h'.objs.size (.frz (jy "<lambda>" G.lq params body scope (cS X.env scope.names []) ((X.mg "__name__").getD .none) c' ctv) (.own 0))):=cJ hn;exact⟨.ref h'.objs.size,_,I1,rfl,h _ c' _ ctv oc _ hn (λa o _ q=>sm a o q) (hT.keep λa o _ _ q=>sm a o q) bP (sm _ _ h2) h3⟩
 |none=>
  refine PySem.W.kla_makeFunction (mg:=X.mg) Dh I.ok.glob hgs hcode (hC.keeps I.bk) gP t2 hc hgP hba λc' ctv h' tk hx hge hlt hrec htb=>?_;obtain⟨c₂,oc,vs,t,e2,hoc,hd,hv⟩:=hrec;cases e2;generalize hfo:jy "<lambda>" G.lq params body scope (cS X.env scope.names []) ((X.mg "__name__").getD .none) c' ctv=fo;have nfo:fo.isFreed=false:=by rw[<-hfo];rfl
  have gf:(h'.push fo).get? h'.objs.size=some fo:=ax h' nfo;have goc:(h'.push fo).get? c'=some oc:=ai _ hoc;have gP':=ai fo htb;generalize hps:ps++#[rawInt lpos.line,rawInt lpos.col,.ref c']=ps' at gP';have lP:P<s.heap.objs.size:=au gP;have kk:∀b u,b≠P->s.heap.get? b=some u->(h'.push fo).get? b=some u:=λb u hb q=>ai _ (hx b u hb q);have lt0:∀b u,s.heap.get? b=some u->b<s.heap.objs.size:=λb u q=>au q;have nPc:P≠c':=aw (ar lP hge);have nPf:P≠h'.objs.size:=aw (ar lP (cm hge (ij hlt)));have ncf:c'≠h'.objs.size:=aw hlt;have lH:∀b o,H b=some o->b<s.heap.objs.size:=λb o q=>I.hok.lt q;have H1e:∀b,b≠P->b<s.heap.objs.size->aF (aF (aF H P (.tbl ps')) c' (.frz oc (.own 0))) h'.objs.size (.frz fo (.own 0)) b=H b:=λb h1 h2=>by rw[aM (aw (ar h2 (cm hge (ij hlt)))),aM (aw (ar h2 hge)),aM h1]
  have eP:aF (aF (aF H P (.tbl ps')) c' (.frz oc (.own 0))) h'.objs.size (.frz fo (.own 0)) P=some (.tbl ps'):=by rw[aM nPf,aM nPc,bP]
  have ec:aF (aF (aF H P (.tbl ps')) c' (.frz oc (.own 0))) h'.objs.size (.frz fo (.own 0)) c'=some (.frz oc (.own 0)):=by rw[aM ncf,bP]
  have ef:aF (aF (aF H P (.tbl ps')) c' (.frz oc (.own 0))) h'.objs.size (.frz fo (.own 0)) h'.objs.size=some (.frz fo (.own 0)):=bP;have cases1:∀b o,aF (aF (aF H P (.tbl ps')) c' (.frz oc (.own 0))) h'.objs.size (.frz fo (.own 0)) b=some o->(b=h'.objs.size/\o=.frz fo (.own 0))∨(b=c'/\o=.frz oc (.own 0))∨(b=P/\o=.tbl ps')∨(b≠P/\H b=some o):=λb o q=>by
   by_cases q1:b=h'.objs.size
   ·subst q1;rw[bP]at q;cases q;exact .inl ⟨rfl,rfl⟩
   rw[aM q1]at q
   by_cases q2:b=c'
   ·subst q2;rw[bP]at q;cases q;exact .inr (.inl ⟨rfl,rfl⟩)
   rw[aM q2]at q
   by_cases q3:b=P
   ·subst q3;rw[bP]at q;cases q;exact .inr (.inr (.inl ⟨rfl,rfl⟩))
   rw[aM q3]at q;exact .inr (.inr (.inr ⟨q3,q⟩))
  generalize aF (aF (aF H P (.tbl ps')) c' (.frz oc (.own 0))) h'.objs.size (.frz fo (.own 0))=H1 at *;have keepO:∀b o,(∀ps,o≠.tbl ps)->H b=some o->H1 b=some o:=λb o hn q=>by rw[H1e b (λz=>by subst z;rw[t1]at q;cases q;exact hn _ rfl) (lH b o q)];exact q
  have un:Un X.fs [] H H1 s.heap (h'.push fo):=by
   have nP:∀b,H b=none->b≠P:=λb n z=>by subst z;rw[t1]at n;cases n
   refine⟨λb o q n _ _=>kk b o (nP b n) q,λb o q n _ _=>⟨o.slots,kk b o (nP b n) q⟩,λb o q n _=>by rw[H1e b (nP b n) (lt0 b o q)];exact n,λb o q _=>?_,λb xs q=>keepO b _ (λ_ z=>by cases z) q,λb o u q=>keepO b _ (λ_ z=>by cases z) q,λb qs q=>?_⟩
   ·by_cases hb:b=P
    ·subst hb;exact⟨_,gP'⟩
    ·exact⟨_,kk b o hb q⟩
   ·by_cases hb:b=P
    ·subst hb;rw[t1]at q;cases q;exact⟨#[rawInt lpos.line,rawInt lpos.col,.ref c'],by rw[eP,hps]⟩
    ·exact⟨#[],by rw[H1e b hb (lH b _ q),q];simp⟩
  have hok1:Az X.prog X.w H1 (h'.push fo):=λb o q=>by
   rcases cases1 b o q with⟨rfl,rfl⟩|⟨rfl,rfl⟩|⟨rfl,rfl⟩|⟨hb,q⟩
   ·exact⟨gf,_,gf⟩
   ·exact⟨goc,_,goc⟩
   ·exact gP'
   ·refine(I.hok b o q).stay (λb2 u hb2 z=>kk b2 u ?_ z) (λb2 z=>keepO b2 _ (λ_ z=>by cases z) z) λb2 xs z=>keepO b2 _ (λ_ z=>by cases z) z
    rcases hb2 with rfl|hb2
    ·exact hb
    ·rintro rfl;rw[t1]at hb2;cases hb2
  have I1:Inv X pins σ H1 {s with heap:=h'.push fo,toks:=tk}:=I.un un hok1;refine⟨.ref h'.objs.size,H1,I1,rfl,h h'.objs.size c' ((X.mg "__name__").getD .none) ctv oc H1 (I.hok.fresh (cm hge (ij hlt))) keepO ?_ (by rw[hfo];exact ef) ec ⟨vs,t,hd,hv⟩⟩;intro P' lq' eP'
  by_cases hPP:P'=P
  case neg=>obtain⟨qs,u1,u2,u3⟩:=hT P' lq' eP';refine⟨qs,by rw[H1e P' hPP (lH P' _ u1)];exact u1,u2,λpos cv q=>?_⟩;obtain⟨a,oa,z1,z2,z3⟩:=u3 pos cv q;exact⟨a,oa,z1,keepO a _ (λ_ z=>by cases z) z2,z3⟩
  subst hPP;rw[hP]at eP';cases eP';have hl:ps'.toList=ps.toList++[rawInt lpos.line,rawInt lpos.col,.ref c']:=by rw[<-hps];simp
  refine⟨ps',eP,by rw[hl];exact V7 _ _ _ _ _ _ t2,λpos cv q=>?_⟩;rw[hl]at q
  rcases V8 _ t2 q with q|q
  ·obtain⟨a,oa,z1,z2,z3⟩:=t3 pos cv q;exact⟨a,oa,z1,keepO a _ (λ_ z=>by cases z) z2,z3⟩
  ·exact⟨c',oc,q,ec,vs,t,hd,hv⟩
end
noncomputable def nV:zt->Ev->Option zw 
 |[],_=>some []
 |i::r,ρ=>match ρ[i]? with
  |some (some d)=>(match nV r ρ with
   |some ds=>some (d::ds)
   |none=>none)
  |_=>none
theorem IK{ρ:Ev}:∀{caps:zt}{ds:zw},nV caps ρ=some ds->ds.length=caps.length/\∀(i:Nat)(d:Dv),ds[i]?=some d->∃j,caps[i]?=some j/\ρ[j]?=some (some d)
 |[],ds,e=>by unfold nV at e;cases e;exact⟨rfl,λi d e=>by simp at e⟩
 |j::r,ds,e=>by
  unfold nV at e
  split at e
  ·rename_i d0 h0
   split at e
   ·rename_i ds0 h1;cases e;obtain⟨l,k⟩:=IK h1;refine⟨by simp[l],λi d q=>?_⟩
    cases i with
    |zero=>simp at q;subst q;exact⟨j,rfl,h0⟩
    |succ i=>exact k i d (by simpa using q)
   ·cases e
  ·cases e
def mI(caps:zt)(n ncl:Nat)(mb:MS)(me:M Dv):M Dv:=λρ h=>match nV caps ρ with
 |some ds=>tK n ncl mb (me (ds.map some) h)
 |none=>.bad
noncomputable def iM(base h:bx)(cs:List ah):bx:=PySem.W.hideAll h ((cf h.objs.size).filter λb=>!((base.get? b).isSome||cs.contains b))
theorem wN{base h:bx}{cs:List ah}{b:ah}{o:Obj}(e:h.get? b=some o)(hb:(∃u,base.get? b=some u)∨b∈cs):(iM base h cs).get? b=some o:=
 yi _ e λz=>by
  have:=(gm.mp z).2
  rcases hb with⟨u,hb⟩|hb
  ·simp[hb]at this
  ·simp[hb]at this
theorem IL{base h:bx}{cs:List ah}{b:ah}{o:Obj}(e:(iM base h cs).get? b=some o):h.get? b=some o/\((∃u,base.get? b=some u)∨b∈cs):=by
 have e1:=yq _ e;refine⟨e1,?_⟩
 by_cases hb:(∃u,base.get? b=some u)∨b∈cs
 ·exact hb
 ·exfalso
  have hm:b∈(cf h.objs.size).filter λb=>!((base.get? b).isSome||cs.contains b):=by
   refine gm.mpr ⟨du.mpr (au e1),?_⟩
   cases q:base.get? b with
   |some u=>exact absurd (.inl ⟨u,q⟩) hb
   |none=>have:b∉cs:=λz=>hb (.inr z);simp[this]
  have:=yc (h:=h) _ hm;unfold iM at e;rw[this]at e;cases e
theorem Out.ext{α β:Type}{G:Cfg}{E:XK}{μ μ1:Nat->ah}{n n1:Nat}{H H1:Hp}{r:Rs α}{R:(Nat->ah)->Nat->Hp->α->β->Prop}{Q:β->Hp->Prop}(o:Out G E μ n H r R Q)(x:Ext μ n H μ1 n1 H1):Out G E μ1 n1 H1 r R Q:=by
 cases r with
 |bad=>exact o
 |ex c h'=>exact λμ' H' u y=>o μ' H' u (x.trans y)
 |ok d h'=>exact λμ' H' u y=>o μ' H' u (x.trans y)
theorem WA{env:Env}{scope:dj}{x:Str}{c:ah}(hf:∀x,(x,bw)∈scope.names->∃c,env.cells.lookup x=some c)(e:(cS env scope.names []).lookup x=some c):(x,bw)∈scope.names/\env.cells.lookup x=some c:=by
 rcases vO _ _ e with q|⟨q1,q2⟩
 ·cases q
 ·obtain⟨c',h'⟩:=hf x q1;rw[h']at q2;subst q2;exact⟨q1,h'⟩
section
variable{X:Cx}{G:Cfg}
open Classical in
def eC(H:Hp)(tx:Dt)(u:af):Bool:=decide (∃v t,RelV v u/\Den jM H t v/\bH t tx=true)
open Classical in
theorem IM{H:Hp}{tx t:Dt}{u:af}{v:V}(r:RelV v u)(d:Den jM H t v):eC H tx u=bH t tx:=by
 unfold eC
 cases q:bH t tx with
 |true=>exact decide_eq_true ⟨v,t,r,d,q⟩
 |false=>refine decide_eq_false λ⟨v',t',r',d',q'⟩=>?_;have e:=r'.inj r;subst e;rw[Den.inj t' t v' d' d,q]at q';cases q'
theorem tL{H:Hp}{tx:Dt}:∀{ts:List Dt}{vs:Ez}{us:List af},Aj jM H ts vs->Ae vs us->us.any (eC H tx)=ts.any λt=>bH t tx
 |[],_,_,d,r=>by rw[Aj]at d;subst d;cases r;rfl
 |t::ts,_,_,d,r=>by
  rw[Aj]at d;obtain⟨v,rr,rfl,d1,d2⟩:=d
  cases r with
  |cons r1 r2=>rw[List.any_cons,List.any_cons,IM r1 d1,tL d2 r2]
def wO(K:ak)(neg:Bool):R2:=λx y H Q=>∃a vs ts tx,y=.ref a/\(Bb K H a vs∨Ap K H a vs)/\Aj jM H ts vs/\Den jM H tx x/\(∀t∈ts,dZ t<=cY/\cI t=true)/\cI tx=true/\Q (.bl (if neg then !(ts.any λt=>bH t tx)else ts.any λt=>bH t tx)) H
theorem wQ{pins:List (ah×Obj)}{σ:St}{H:Hp}{s:ag}{x:V}{v:af}{vs:Ez}{its:List af}{ts:List Dt}{tx:Dt}(hu:X.A.units+64<cLine)(I:Inv X pins σ H s)(rx:RelV x v)(r:Ae vs its)(d:Aj jM H ts vs)(dx:Den jM H tx x)(ht:∀t∈ts,dZ t<=cY/\cI t=true)(nx:cI tx=true):∀y,y∈its.toArray->kn X.A.in1 s y v (eC H tx y):=λy hy=>by
 have hy':y∈its:=by simpa using hy
 obtain⟨j,hj,e⟩:=lh.mp hy';have hl:=r.length;obtain⟨u,eu,ru⟩:=r.get (i:=j) (x:=vs[j]'(by lia)) (cn (by lia));have:u=y:=by rw[cn hj,e]at eu;cases eu;rfl
 subst this;obtain⟨t,et,dt⟩:=d.get (i:=j) (cn (by lia:j<vs.length));obtain⟨h1,h2⟩:=ht t (gb et);rw[IM ru dt];exact(G4 I.hok cY X.A.in1 t tx _ x _ v h1 (by show X.A.units+1+cY+1<cLine;unfold cY;lia) h2 nx dt dx ru rx).2
theorem WB(hu:X.A.units+64<cLine):Bi X (compareOp .In) (wO X.K false):=by
 intro pins s σ H x y v u Q I r1 r2 ⟨a,vs,ts,tx,e,hs,d,dx,ht,nx,q⟩;subst e;cases r2
 rcases hs with hs|hs
 ·obtain⟨its,r,pl,hz⟩:=I.list hs;refine SeqAt.in_listAt (eC H tx) pl.isList (wQ hu I r1 r d dx ht nx) ?_;exact⟨.bl _,H,I,by rw[show its.toArray.any (eC H tx)=its.any (eC H tx)by simp,tL d r];rfl,q⟩
 ·obtain⟨its,r,pl,hz⟩:=I.tuple hs;refine SeqAt.in_tupleAt (eC H tx) pl (wQ hu I r1 r d dx ht nx) ?_;exact⟨.bl _,H,I,by rw[show its.toArray.any (eC H tx)=its.any (eC H tx)by simp,tL d r];rfl,q⟩
theorem IP(hu:X.A.units+64<cLine):Bi X (compareOp .NotIn) (wO X.K true):=by
 intro pins s σ H x y v u Q I r1 r2 ⟨a,vs,ts,tx,e,hs,d,dx,ht,nx,q⟩;subst e;cases r2
 rcases hs with hs|hs
 ·obtain⟨its,r,pl,hz⟩:=I.list hs;refine SeqAt.notIn_listAt (eC H tx) pl.isList (wQ hu I r1 r d dx ht nx) ?_;exact⟨.bl _,H,I,by rw[show its.toArray.any (eC H tx)=its.any (eC H tx)by simp,tL d r];rfl,q⟩
 ·obtain⟨its,r,pl,hz⟩:=I.tuple hs;refine SeqAt.notIn_tupleAt (eC H tx) pl (wQ hu I r1 r d dx ht nx) ?_;exact⟨.bl _,H,I,by rw[show its.toArray.any (eC H tx)=its.any (eC H tx)by simp,tL d r];rfl,q⟩
def lM(scr:zr)(neg:Bool)(x c:Dv)(h:Hs):Rs Dv:=match gX scr c h with
 |some ys=>match aW (cU cY h) ys,cU cY h x with
  |some ts,some tx=>.ok (.bl (if neg then !(ts.any λt=>bH t tx)else ts.any λt=>bH t tx)) h
  |_,_=>.bad
 |none=>.bad
theorem IQ{μ:Nat->ah}{h:Hs}{H:Hp}(s:Ai G μ h H):∀{xs:zw}{vs:Ez}{ts:List Dt},RelDL G μ h.length H xs vs->aW (cU cY h) xs=some ts->Aj jM H ts vs/\∀t∈ts,dZ t<=cY/\cI t=true
 |[],_,_,r,e=>by cases e;rw[RelDL]at r;subst r;exact⟨Aj.nil,λt ht=>by simp at ht⟩
 |x::xs,_,_,r,e=>by
  rw[RelDL]at r;obtain⟨v,rr,rfl,r1,r2⟩:=r;unfold aW at e
  cases q:cU cY h x with
  |none=>rw[q]at e;cases e
  |some y=>
   rw[q]at e;dsimp only at e
   cases q2:aW (cU cY h) xs with
   |none=>rw[q2]at e;cases e
   |some ys=>
    rw[q2]at e;cases e;obtain⟨a1,a2,a3⟩:=qL s _ x v y r1 q;obtain⟨b1,b2⟩:=IQ s r2 q2;refine⟨Aj.cons a1 b1,λt ht=>?_⟩
    rcases bh.mp ht with rfl|ht
    ·exact⟨a2,a3⟩
    ·exact b2 t ht
theorem WC(neg:Bool):eA G (wO G.K neg) (lM G.scr neg):=by
 intro E μ h H x y vx vy Q s rx ry o;unfold lM at o
 cases q:gX G.scr y h with
 |none=>rw[q]at o;exact o.elim
 |some ys=>
  rw[q]at o;dsimp only at o
  split at o
  ·rename_i ts tx e1 e2;obtain⟨a,vs,rfl,hs,r⟩:=A1 s ry q;obtain⟨b1,b2⟩:=IQ s r e1;obtain⟨c1,c2,c3⟩:=qL s _ x vx tx rx e2;exact⟨a,vs,ts,tx,rfl,hs,b1,c1,b2,c3,o.val s rfl⟩
  ·exact o.elim
end
section
variable{e o:ba}{mo me:M Dv}{pos apos cpos np p2:Pos}{y:Str}
noncomputable def gM(xs:zw)(lo hi:Option Int):zw:=(xs.drop (HT.sIx xs.length 0 lo)).take (HT.sIx xs.length xs.length hi-HT.sIx xs.length 0 lo)
theorem BD{μ:Nat->ah}{n:Nat}{H:Hp}{xs:zw}{vs:Ez}(r:RelDL G μ n H xs vs)(lo hi:Option Int):RelDL G μ n H (gM xs lo hi) (nE vs lo hi):=by unfold gM nE;rw[r.length];exact(r.drop _).take _
abbrev MO:=Ev->Hs->Rs (Option Int)
noncomputable def WD(G:Cfg)(E:XK)(m:MO):TO:=TOu G E m (λ_ _ _ a b=>b=a)
def qY(X:Cx)(G:Cfg)(E:XK)(pe:Option ba)(m:MO):Prop:=X.K=G.K->PO X pe (WD G E m)
theorem PO.imp{pe:Option ba}{t t':TO}(h:PO X pe t)(i:∀σ H Q,t' σ H Q->t σ H Q):PO X pe t':=λpins s σ H Q I q=>h pins s σ H Q I (i σ H Q q)
noncomputable def nW:MO:=λ_ h=>.ok none h
noncomputable def IS:Dv->Hs->Rs (Option Int)
 |.int i,h=>.ok (some i) h
 |_,_=>.bad
def gN(m:M Dv):MO:=λρ h=>(m ρ h).bind IS
theorem IT:qY X G E none nW:=λ_=>PO.imp R5 λσ H Q⟨μ,ρ,h,rs,s,oo⟩=>oo.val s rfl
theorem wR(he:aB X G E e me):qY X G E (some e) (gN me):=λhK=>PO.imp (R6 (he hK)) λσ H Q⟨μ,ρ,h,rs,s,oo⟩=>cT rs s oo λμ1 d h1 v H1 x1 Ak s1 r1 o1=>by
 cases d with
 |int i=>exact⟨i,r1,o1.val s1 rfl⟩
 |_=>exact o1.elim
end
section
variable{pos:Pos}
theorem WE:aB X G E (.Dict [] [] pos) (mC .edc):=λ_ pins s σ H Q I⟨μ,ρ,h,rs,sm,o⟩=>by have hb:sysModules<s.heap.objs.size:=Nat.lt_trans (by decide) (I.mod.glob.keeps I.bk).lt;have hn:=I.hok.fresh (aq s.heap.objs.size);refine wpAny_Dict_empty ⟨.ref s.heap.objs.size,_,I.laid (a:=s.heap.objs.size) (o:=.dK []) (t':=s.toks) (λ_ _ q=>ai _ q) (aq _) ⟨ja _,beq_eq_false_iff_ne.mpr (cp (aw hb)),[],.nil,Heap.DictOf.new s.heap⟩,rfl,?_⟩;exact o μ _ _ (Ed (cJ hn)) (sm.same (cJ hn)) ⟨_,rfl,bP⟩
theorem BE{x:Str}{i:Int}{t:Tok}(hg:Gl X x)(hm:X.mg x=some (.int i t))(hd:(x==Ey)=false:=by decide):aB X G E (.Name x pos) (aK i):=λ_=>Eg (rX (v:=.int i) hg hm ⟨t,rfl⟩ hd) λσ H Q⟨μ,ρ,h,rs,s,o⟩=>o.val s (show Ac G μ _ H (.int i) (.int i) from rfl)
noncomputable def BF:Dv->Hs->Rs Dv
 |.int i,h=>.ok (.int (-i)) h
 |_,_=>.bad
theorem WG:iT G (rU λi=>.int (-i)) BF:=by
 intro E μ h H x vx Q s r o
 cases x with
 |int i=>rw[Ac]at r;subst r;exact⟨i,rfl,o.val s rfl⟩
 |_=>exact o.elim
end
structure Lawful(lp:bg)(w:bu)(K:ak)(mg:Str->Option af)(base:bx)(k:Nat)(fa:ah)(fd:ay)(x:Str)(Ps:List ah)(a:ah)(ns:zr):Prop where
 ex:∃(G:Cfg)(lawF:zv)(hh:Hs),G.K=K/\G.scr=ns/\G.sa=a/\(∀P lq,G.tabs P=some lq->P∈Ps)/\lawF [.scr] []=.ok (.bl true) hh/\Af lp w K mg base (aS lp w base) k fa fd [x] (bA G lawF)
theorem BG{lp:bg}{w:bu}{K:ak}{mg mb:Str->Option af}{k:Nat}{fa a:ah}{cps:List (ah×ah)}{fd:ay}{x:Str}{s₁:ag}{vs:List af}{ns:zr}(KX:K.In s₁.heap)(hns:s₁.heap.Ns bz mg)(hb:s₁.heap.Ns builtinsNs mb)(hbb:∀x:Str,x≠"__name__"->mb x=cx x)(hlim:s₁.heap.NoLimit)(hg:s₁.gens=#[])(ha:s₁.heap.get? a=some {cls:=.type "list",data:=.seq vs.toArray})(hi:kz vs ns)(hl:ns.length<=bj)(hr:Aq k callerA)(hC:∀y∈cps,mn s₁.heap y.1 y.2)(hP':∀y∈cps,s₁.heap.get? y.2=some (ph #[]))(hB:lL mg s₁.heap)(hnt:PySem.W.noTabs K=true)(F:∀base:bx,K.In base->base.Ns bz mg->(∀y∈cps,mn base y.1 y.2)->lL mg base->Lawful lp w K mg base k fa fd x (cps.map jh) a ns)(hbind:∀(s:ag)(u:af),vp s fd ⟨[u],[]⟩ [(x,u)]):
  codeAny (model lp w) callerA (.call (.ref fa) ⟨[.ref a],[]⟩) (λr s'=>r=.ok (.ret (.bool true))/\OldK s₁.heap s'.heap/\s'.os=s₁.os/\sh s'.gens) s₁:=by
 have rv:=GL hi;have lenV:=hi.length;have hP:∀{P:ah},P∈cps.map jh->s₁.heap.get? P=some (ph #[]):=λ{P}h=>by obtain⟨y,hy,rfl⟩:=gu.mp h;exact hP' y hy
 have KP:∀{P:ah},P∈cps.map jh->K.lookup P=none:=λ{P}hm=>by
  cases q:K.lookup P with
  |none=>rfl
  |some o=>have e:=KX P o q;rw[hP hm]at e;cases e;have:=fv.mp hnt (P,ph #[]) (PySem.W.mem_of_lookupK q);exact absurd (show false=true from this) jc
 have aP:a∉cps.map jh:=λz=>by rw[hP z]at ha;cases ha
 have core:∀H:Hp,(∀P∈cps.map jh,H P=some (.tbl #[]))->FzL K H a (ns.map Ef)->Az lp w H s₁.heap->(∀b,H b≠none->b=a∨b∈cps.map jh)->(H a≠none->K.lookup a=none)->(∀u,H a=some u->∃o xs,u=.frz o (.lst xs))->
   codeAny (model lp w) callerA (.call (.ref fa) ⟨[.ref a],[]⟩) (λr s'=>r=.ok (.ret (.bool true))/\OldK s₁.heap s'.heap/\s'.os=s₁.os/\sh s'.gens) s₁:=by
  intro H hHP hS hok hA hK hF;have base_of:∀{b:ah}{o:Obj},s₁.heap.get? b=some o->H b=none->(kC s₁.heap H).get? b=some o:=λe n=>OS e n;have none_of:∀{b:ah},b≠a->b∉cps.map jh->H b=none:=λ{b}h1 h2=>by
   cases q:H b with
   |none=>rfl
   |some u=>exact((hA b (by rw[q];simp)).elim h1 h2).elim
  have noD:∀{b:ah}{o:Obj}{es:Array tq}{ep:Nat},s₁.heap.get? b=some o->o.data=.dict es ep->H b=none:=λ{b o es ep}e d=>none_of (λz=>by
    subst z;rw[ha]at e;cases e;have d':Data.seq vs.toArray _=Data.dict es ep:=d
    cases d') (λz=>by
    rw[hP z]at e;cases e;have d':Data.fields _=Data.dict es ep:=d
    cases d')
  have nsK:∀{b:ah}{m:Str->Option af},s₁.heap.Ns b m->(kC s₁.heap H).Ns b m:=λ{b m}⟨o,es,ep,e,d,r⟩=>⟨o,es,ep,base_of e (noD e d),d,r⟩
  have hKb:K.In (kC s₁.heap H):=λb o e=>base_of (KX b o e) (by
   cases q:H b with
   |none=>rfl
   |some u=>
    rcases hA b (by rw[q];simp)with z|z
    ·subst z;rw[hK (by rw[q];simp)]at e;cases e
    ·rw[KP z]at e;cases e)
  have hM:Mod K mg (kC s₁.heap H):=⟨hKb,nsK hns,⟨mb,nsK hb,hbb⟩,let ⟨mc,h1,h2⟩:=hlim;⟨mc,nsK h1,h2⟩⟩
  have hCb:∀y∈cps,mn (kC s₁.heap H) y.1 y.2:=λy hy=>by
   obtain⟨o,Bh,file,tf,flags,tg,tX,text,tt,e1,r1,r⟩:=hC y hy;refine⟨o,Bh,file,tf,flags,tg,tX,text,tt,base_of e1 (none_of (λz=>?_) (λz=>?_)),r1,r⟩
   rotate_left
   ·rw[hP z]at e1;cases e1;cases r1
   rw[z,ha]at e1;cases e1;exact absurd r1 (by intro w;injection w with w;exact absurd w (by decide))
  have hBb:lL mg (kC s₁.heap H):=by
   obtain⟨bm,ob,b1,b2,b3,b4,b5,b6⟩:=hB;refine⟨bm,ob,b1,b2,base_of b3 (none_of (λz=>?_) (λz=>?_)),b4,b5,b6⟩
   ·subst z;rw[ha]at b3;cases b3;exact absurd b4 (by intro w;injection w with w;exact absurd w (by decide))
   ·rw[hP z]at b3;cases b3;cases b4
  have e0:Co lp w K mg (kC s₁.heap H) callerA [] s₁ H:=⟨rfl,hM,λb o e=>OT e,nc (OR _ _),trivial,λb hb=>absurd (show b∈([]:List ah) from hb) (by simp),hok,.of_eq hg⟩
  obtain⟨G,lawF,hh,g1,g2,g3,g4,hlaw,Fn⟩:=(F _ hKb (nsK hns) hCb hBb).ex;have rd:RelDL G (λ_=>0) 0 H [.scr] [.ref a]:=by refine Ei ?_ Eh;rw[Ac,g1,g2,g3];exact⟨rfl,hS⟩
  have sm:Ai G (λ_=>0) [] H:=⟨λi j h1=>absurd h1 (by simp),λi o q=>by simp at q,λP' lq e=>by
   exact⟨#[],hHP P' (g4 P' lq e),trivial,λpos cv q=>by
    have q':(none:Option af)=some cv:=q
    cases q'⟩⟩
  refine mf (Fn.run callerA [] s₁ H ⟨[.ref a],[]⟩ [.ref a] [.ref a] (λv _=>v=.bl true) (λ_ _ _=>False) hr e0 (hbind s₁ (.ref a)) (.cons rfl .nil) ⟨λ_=>0,[],[.scr],rd,sm,?_⟩) λr s' h=>?_
  ·rw[hlaw];exact λμ' H' v _ _ r=>r
  cases r with
  |error e=>obtain⟨_,_,_,_,_,_,_,_,_,z⟩:=h;exact z.elim
  |ok fl=>
   cases fl with
   |next=>exact gh h
   |brk=>exact gh h
   |cont=>exact gh h
   |ret u=>
    obtain⟨v,H',os,bare,un,hok',r',q⟩:=h;have q':v=.bl true:=q;subst q';obtain rfl:u=ue true:=r';have kept:∀b o,b∉cps.map jh->s₁.heap.get? b=some o->s'.heap.get? b=some o:=λb o hbP e=>by
     cases q:H b with
     |none=>exact un.keep b o e q (by intro z;exact absurd (show b∈([]:List ah) from z) (by simp)) (by simp)
     |some u=>
      rcases hA b (by rw[q];simp)with z|z
      ·subst z;obtain⟨ob,xs,rfl⟩:=hF u q;have z2:=un.frzs b ob _ q;obtain⟨e1,_⟩:=hok b _ q;obtain⟨e2,_⟩:=hok' b _ z2;rw[e]at e1;cases e1;exact e2
      ·exact absurd z hbP
    have gP':∀P∈cps.map jh,∃more,s'.heap.get? P=some (ph (#[]++more)):=λP h=>by obtain⟨more,hm⟩:=un.tbls P #[] (hHP P h);exact⟨more,hok' P _ hm⟩
    refine⟨rfl,⟨λb o e=>?_,λb o e=>?_⟩,os,bare⟩
    ·by_cases hb:b∈cps.map jh
     ·rw[hP hb]at e;cases e;obtain⟨more,gP⟩:=gP' b hb;obtain⟨y,hy,rfl⟩:=gu.mp hb;exact .inr (.inl ⟨((hC y hy).tab (hP hb)).isCodeTable,rfl,#[],more,rfl,gP⟩)
     ·exact .inl (kept b o hb e)
    ·by_cases hb:b∈cps.map jh
     ·obtain⟨more,gP⟩:=gP' b hb;exact⟨_,gP⟩
     ·exact⟨_,kept b o hb e⟩
 cases hk:K.lookup a with
 |some o=>
  have e:=KX a o hk;rw[ha]at e;cases e;refine core (λb=>if b∈cps.map jh then some (.tbl #[])else none) (λP h=>if_pos h) (.inr ⟨_,vs.toArray,_,hk,rfl,rfl,rfl,by rw[bf,lenV];exact hl,by simpa using rv⟩) (λb u z=>?_) (λb z=>?_) (λz=>absurd (if_neg aP) z) (λu z=>?_)
  ·by_cases hb:b∈cps.map jh
   ·have z':=(if_pos hb).symm.trans z;cases z';exact hP hb
   ·have z':=(if_neg hb).symm.trans z;cases z'
  ·by_cases hb:b∈cps.map jh
   ·exact .inr hb
   ·exact absurd (if_neg hb) z
  ·have z':=(if_neg aP).symm.trans z;cases z'
 |none=>
  have ea:(λb=>if b=a then some (HO.frz {cls:=.type "list",data:=.seq vs.toArray} (.lst (ns.map Ef)))else if b∈cps.map jh then some (.tbl #[])else none) a=some (.frz {cls:=.type "list",data:=.seq vs.toArray} (.lst (ns.map Ef))):=if_pos rfl;refine core (λb=>if b=a then some (.frz {cls:=.type "list",data:=.seq vs.toArray} (.lst (ns.map Ef)))else if b∈cps.map jh then some (.tbl #[])else none) (λP h=>(if_neg (λz:P=a=>aP (by rw[<-z];exact h))).trans (if_pos h)) (.inl ⟨{cls:=.type "list",data:=.seq vs.toArray},ea⟩) (λb u z=>?_) (λb z=>?_) (λ_=>hk) (λu z=>?_)
  ·by_cases hb:b=a
   ·have z':=(if_pos hb).symm.trans z;cases z';subst hb;exact⟨ha,by rw[cg];exact hl,vs,_,rv,ha⟩
   ·have z':=(if_neg hb).symm.trans z
    by_cases hb2:b∈cps.map jh
    ·have z2:=(if_pos hb2).symm.trans z';cases z2;exact hP hb2
    ·have z2:=(if_neg hb2).symm.trans z';cases z2
  ·by_cases hb:b=a
   ·exact .inl hb
   ·by_cases hb2:b∈cps.map jh
    ·exact .inr hb2
    ·exact absurd ((if_neg hb).trans (if_neg hb2)) z
  ·have z':=ea.symm.trans z;cases z';exact⟨_,_,rfl⟩
theorem eJ{α:Type}{P:List α->Prop}(h:∀a,P [a]):∀us:List α,us.length=1->P us
 |[a],_=>h a
theorem hU{α:Type}{P:List α->Prop}(h:∀a b,P [a,b]):∀us:List α,us.length=2->P us
 |[a,b],_=>h a b
theorem wU{α:Type}{P:List α->Prop}(h:∀a b c,P [a,b,c]):∀us:List α,us.length=3->P us
 |[a,b,c],_=>h a b c
theorem jR{P:Nat->Bool->Prop}:∀c b,ki c ([]:List (Nat×Bool))=some b->P c b:=λ_ _ h=>nomatch h
theorem aO{P:Nat->Bool->Prop}{x:Nat}{y:Bool}{l:List (Nat×Bool)}(h:P x y)(hl:∀c b,l.lookup c=some b->P c b):∀c b,ki c ((x,y)::l)=some b->P c b:=λc b e=>by
 rw[dr]at e
 cases q:c==x with
 |true=>rw[q]at e;exact eq_of_beq q▸(de e)▸h
 |false=>rw[q]at e;exact hl c b e
theorem WH{P:Nat->Prop}:∀c,c<0->P c:=λc h=>absurd h (Nat.not_lt_zero c)
theorem kM{P:Nat->Prop}{n:Nat}(h0:P 0)(h:∀c,c<n->P (c+1)):∀c,c<n+1->P c
 |0,_=>h0
 |c+1,hc=>h c (Nat.lt_of_succ_lt_succ hc)
open PySem.Calls
abbrev Ys{β:Type}(ob:Frag->β)(obE:β):bu->bx->Prop:=λ_ h=>∃K:Frag,K.In h/\noTabs K=true/\ob K=obE
theorem ys_of{β:Type}{ob:Frag->β}{obE:β}:∀(w:bu)(s:ag),ob (lX s.heap)=obE->Ys ob obE w s.heap:=λ_ s e=>⟨lX s.heap,uW _ _,uX _ _,e⟩
theorem ys_keeps{β:Type}{ob:Frag->β}{obE:β}:∀(w:bu)(h h':bx),Ys ob obE w h->(∀b o,h.get? b=some o->h'.get? b=some o)->Ys ob obE w h':=λ_ _ _⟨K,x,n,e⟩k=>⟨K,x.keeps k,n,e⟩
theorem z4q{β:Type}{ob:Frag->β}{obE:β}{l:OpenLaw}{n k:Nat}{q:bg}{loose:zu}{XP:(Str->Option af)->bx->Prop}{d:yv}{x:Str}(hn:l.most=some n)(hn2:n<=bj)(hdf:d.params.defaults=[])(hr:Aq k callerA)(Dd:(recsOf q).find? (λe=>e.name==d.name)=some d)(F:∀(K:Frag)(w:bu)(mg:Str->Option af)(fa:ah)(h:bx),ob K=obE->noTabs K=true->K.In h->h.Ns bz mg->mg d.name=some (.ref fa)->
   ∃(fd:ay)(c P:ah),(∀(s:ag)(u:af),vp s fd ⟨[u],[]⟩ [(x,u)])/\tabIn K d.name=some (c,P)/\noTabs K=true/\
    ∀(base:bx)(a:ah)(ns:zr),ns.length<=n->K.In base->base.Ns bz mg->CodeHd base c P->lL mg base->Lawful l.prog w K mg base k fa fd x [P] a ns):
  WalkO q loose XP (Ys ob obE) l.row.toRowW d [] (λf vs=>wa f vs):=by
 refine Att.attach_call hn hdf λw s₀ s₁ mg mb fa o pm cd doc a vs ns G Y ho hd hcd hmg Dp hints hlen hg=>?_;obtain⟨K,KX,hnt',hob⟩:=Y;obtain⟨fd,c,P,hb,ht,hnt,hF⟩:=F K w mg fa _ hob hnt' KX G.T.g hmg;obtain⟨hC,hP⟩:=tab_of G.T KX Dd ht;exact BG KX G.T.g G.T.b G.T.builtins G.T.nolimit hg Dp hints (cm hlen hn2) hr (cps:=[(c,P)]) (by simpa using hC) (by simpa using hP) G.T.bmain hnt (λbase h1 h2 h3 h4=>hF base a ns hlen h1 h2 (h3 (c,P) (by simp)) h4) hb
theorem WI{K:Frag}{f c:ah}{st:fj}{n:Str}{ps:zu}(h:bM K f=some (fnOf n n (lG st) (gJ st) (aI st) .none .none .none .none none (.ref c) .none))(hc:codeIn K (.ref c) n=true)(hk:keepIn K (.ref f)=true)(hb:∀(kV doc pm:af)(an:Option ah)(cdv ct:af)(us:List af),us.length=ps.length->bindArgs (fnOf n n (lG st) (gJ st) (aI st) .none kV doc pm an cdv ct) ⟨us,[]⟩=pure (ps.zip us)):
  ∃fd:ay,Fun K n n st f fd/\Binds K fd ps []/\fd.code=.ref c/\∀us:List af,us.length=ps.length->bindArgs fd ⟨us,[]⟩=pure (ps.zip us):=by
 obtain⟨oc,od,kV,dc,pm,an,ct,sl,e⟩:=E5 h;exact⟨_,vM e hc hk,(vM e hc hk).binds hb,rfl,hb kV dc pm an (.ref c) ct⟩
theorem walkK2{β:Type}{ob:Frag->β}{obE:β}{l:OpenLaw}{n k:Nat}{q:bg}{loose:zu}{XP:(Str->Option af)->bx->Prop}{d:yv}{x:Str}(nm:Str)(hn:l.most=some n)(hn2:n<=bj)(hdf:d.params.defaults=[])(hr:Aq k callerA)(Dd:∃d2:yv,(recsOf q).find? (λe=>e.name==nm)=some d2/\d2.name=nm)(F:∀(K:Frag)(w:bu)(mg:Str->Option af)(fa:ah)(h:bx),ob K=obE->noTabs K=true->K.In h->h.Ns bz mg->mg d.name=some (.ref fa)->
   ∃(fd:ay)(c P:ah),(∀(s:ag)(u:af),vp s fd ⟨[u],[]⟩ [(x,u)])/\tabIn K nm=some (c,P)/\noTabs K=true/\
    ∀(base:bx)(a:ah)(ns:zr),ns.length<=n->K.In base->base.Ns bz mg->CodeHd base c P->lL mg base->Lawful l.prog w K mg base k fa fd x [P] a ns):
  WalkO q loose XP (Ys ob obE) l.row.toRowW d [] (λf vs=>wa f vs):=by
 refine Att.attach_call hn hdf λw s₀ s₁ mg mb fa o pm cd doc a vs ns G Y ho hd hcd hmg Dp hints hlen hg=>?_;obtain⟨K,KX,hnt',hob⟩:=Y;obtain⟨fd,c,P,hb,ht,hnt,hF⟩:=F K w mg fa _ hob hnt' KX G.T.g hmg;obtain⟨d2,hf,hnm⟩:=Dd;have hf':(recsOf q).find? (λe=>e.name==d2.name)=some d2:=by rw[hnm];exact hf
 obtain⟨hC,hP⟩:=tab_of G.T KX hf' (by rw[hnm];exact ht);exact BG KX G.T.g G.T.b G.T.builtins G.T.nolimit hg Dp hints (cm hlen hn2) hr (cps:=[(c,P)]) (by simpa using hC) (by simpa using hP) G.T.bmain hnt (λbase h1 h2 h3 h4=>hF base a ns hlen h1 h2 (h3 (c,P) (by simp)) h4) hb
noncomputable def Cfg.at(G:Cfg)(q:Str):Cfg:={G with lq:=q}
section
variable{G:Cfg}{q:Str}{μ:Nat->ah}{n:Nat}{H:Hp}
mutual
theorem BH:∀(d:Dv)(v:V),Ac (G.at q) μ n H d v↔Ac G μ n H d v
 |.non,v=>by simp only[Ac]
 |.bl b,v=>by simp only[Ac]
 |.int i,v=>by simp only[Ac]
 |.str x,v=>by simp only[Ac]
 |.tup ds,v=>by
  simp only[Ac];constructor
  ·rintro ⟨a,vs,e,h1,h2⟩;exact⟨a,vs,e,h1,(mJ ds vs).mp h2⟩
  ·rintro ⟨a,vs,e,h1,h2⟩;exact⟨a,vs,e,h1,(mJ ds vs).mpr h2⟩
 |.ref i,v=>by simp only[Ac]
 |.edc,v=>by simp only[Ac]
 |.exc c,v=>by simp only[Ac];exact Iff.rfl
 |.scr,v=>by simp only[Ac];exact Iff.rfl
theorem mJ:∀(ds:zw)(vs:Ez),RelDL (G.at q) μ n H ds vs↔RelDL G μ n H ds vs
 |[],vs=>by simp only[RelDL]
 |d::ds,vs=>by
  simp only[RelDL];constructor
  ·rintro ⟨v,r,e,h1,h2⟩;exact⟨v,r,e,(BH d v).mp h1,(mJ ds r).mp h2⟩
  ·rintro ⟨v,r,e,h1,h2⟩;exact⟨v,r,e,(BH d v).mpr h1,(mJ ds r).mpr h2⟩
end
theorem Dl{h:Hs}:Ai (G.at q) μ h H↔Ai G μ h H:=by
 constructor
 ·intro s;refine⟨s.inj,λi o e=>?_,s.tab⟩;have r:=s.ob i o e
  cases o with
  |lst xs=>obtain⟨vs,h1,h2⟩:=r;exact⟨vs,h1,(mJ xs vs).mp h2⟩
  |clo k t=>exact r
  |dct ks=>exact r
  |ins xs=>obtain⟨dx,vs,h1,h2⟩:=r;exact⟨dx,vs,h1,(mJ xs vs).mp h2⟩
 ·intro s;refine⟨s.inj,λi o e=>?_,s.tab⟩;have r:=s.ob i o e
  cases o with
  |lst xs=>obtain⟨vs,h1,h2⟩:=r;exact⟨vs,h1,(mJ xs vs).mpr h2⟩
  |clo k t=>exact r
  |dct ks=>exact r
  |ins xs=>obtain⟨dx,vs,h1,h2⟩:=r;exact⟨dx,vs,h1,(mJ xs vs).mpr h2⟩
theorem WJ{F:zv}{vs:Ez}{Q:VK}{E:XK}(h:bA G F vs H Q E):bA (G.at q) F vs H Q E:=by
 obtain⟨μ,hs,ds,r,s,o⟩:=h;refine⟨μ,hs,ds,(mJ ds vs).mpr r,Dl.mpr s,?_⟩
 cases e:F ds hs with
 |ok d h'=>rw[e]at o;exact λμ' H' v x s' r'=>o μ' H' v x (Dl.mp s') ((BH d v).mp r')
 |ex c h'=>rw[e]at o;exact λμ' H' u x s' r'=>o μ' H' u x (Dl.mp s') (let ⟨e,φ,a,b,c⟩:=r';⟨e,φ,a,b,c⟩)
 |bad=>rw[e]at o;exact o
end
theorem WK{p:ah}{q:Str}:∀P lq,(if P=p then some q else none)=some lq->P∈[p]:=λP lq h=>by
 by_cases z:P=p
 ·simp[z]
 ·rw[if_neg z]at h;cases h
theorem z4r{β:Type}{ob:Frag->β}{obE:β}{l:OpenLaw}{n k:Nat}{q:bg}{loose:zu}{XP:(Str->Option af)->bx->Prop}{d:yv}{x:Str}(nm nm':Str)(hn:l.most=some n)(hn2:n<=bj)(hdf:d.params.defaults=[])(hr:Aq k callerA)(Dd:∃d2:yv,(recsOf q).find? (λe=>e.name==nm)=some d2/\d2.name=nm)(hfind':∃d2:yv,(recsOf q).find? (λe=>e.name==nm')=some d2/\d2.name=nm')(F:∀(K:Frag)(w:bu)(mg:Str->Option af)(fa:ah)(h:bx),ob K=obE->noTabs K=true->K.In h->h.Ns bz mg->mg d.name=some (.ref fa)->
   ∃(fd:ay)(c P c' P':ah),(∀(s:ag)(u:af),vp s fd ⟨[u],[]⟩ [(x,u)])/\tabIn K nm=some (c,P)/\tabIn K nm'=some (c',P')/\noTabs K=true/\
    ∀(base:bx)(a:ah)(ns:zr),ns.length<=n->K.In base->base.Ns bz mg->CodeHd base c P->CodeHd base c' P'->lL mg base->Lawful l.prog w K mg base k fa fd x [P,P'] a ns):
  WalkO q loose XP (Ys ob obE) l.row.toRowW d [] (λf vs=>wa f vs):=by
 refine Att.attach_call hn hdf λw s₀ s₁ mg mb fa o pm cd doc a vs ns G Y ho hd hcd hmg Dp hints hlen hg=>?_;obtain⟨K,KX,hnt',hob⟩:=Y;obtain⟨fd,c,P,c',P',hb,ht,ht',hnt,hF⟩:=F K w mg fa _ hob hnt' KX G.T.g hmg;obtain⟨d2,hf,hnm⟩:=Dd;obtain⟨d3,hf3,hnm3⟩:=hfind';obtain⟨hC,hP⟩:=tab_of G.T KX (by rw[hnm];exact hf:(recsOf q).find? (λe=>e.name==d2.name)=some d2) (by rw[hnm];exact ht);obtain⟨hC',hP'⟩:=tab_of G.T KX (by rw[hnm3];exact hf3:(recsOf q).find? (λe=>e.name==d3.name)=some d3) (by rw[hnm3];exact ht');refine BG KX G.T.g G.T.b G.T.builtins G.T.nolimit hg Dp hints (cm hlen hn2) hr (cps:=[(c,P),(c',P')]) (λy hy=>?_) (λy hy=>?_) G.T.bmain hnt (λbase h1 h2 h3 h4=>hF base a ns hlen h1 h2 (h3 (c,P) (by simp)) (h3 (c',P') (by simp)) h4) hb
 ·rcases bh.mp hy with rfl|hy
  ·exact hC
  ·rw[dy.mp hy];exact hC'
 ·rcases bh.mp hy with rfl|hy
  ·exact hP
  ·rw[dy.mp hy];exact hP'
theorem dB{F:List (Frag->Bool)}{K:Frag}(h:F.all (λf=>f K)=true)(i:Nat){g:Frag->Prop}[∀K,Decidable (g K)](e:F[i]?=some (λK=>decide (g K)):=by rfl):g K:=dA h i e
theorem bL{K:Frag}{h:bx}{mg:Str->Option af}{n:Str}{v:af}{F:List (Frag->Bool)}(X:K.In h)(G:h.Ns bz mg)(hc:F.all (λf=>f K)=true)(i:Nat)(e:F[i]?=some (λK=>decide (nsIn K bz n=some (some v))):=by rfl):mg n=some v:=mg_of X G (dA hc i e)
noncomputable def eO(h:Hs)(i:Nat):Option zw:=match h[i]? with
 |some (.ins xs)=>some xs
 |_=>none
theorem qZ{h:Hs}{i:Nat}{xs:zw}(e:eO h i=some xs):h[i]?=some (.ins xs):=by
 unfold eO at e
 cases q:h[i]? with
 |none=>rw[q]at e;cases e
 |some o=>
  cases o with
  |ins ys=>rw[q]at e;cases e;rfl
  |lst ks=>rw[q]at e;cases e
  |clo k t=>rw[q]at e;cases e
  |dct ks=>rw[q]at e;cases e
theorem WL{k:Nat}{f:Str}{vs:Ez}{w:V}(hf:Ax[k]?=some f)(hw:vs[k]?=some w):(Ax.zip vs).lookup f=some w:=by
 match k,vs with
 |0,a::vs=>cases hf;cases hw;rfl
 |1,[a]=>cases hw
 |1,a::b::vs=>cases hf;cases hw;rfl
 |k+2,vs=>cases hf
 |_,[]=>simp at hw
theorem IU{f:Str}(h:f∉Ax)(vs:Ez):(Ax.zip vs).lookup f=none:=by
 have h0:(f==("order":Str))=false:=by rw[beq_eq_false_iff_ne];rintro rfl;exact h (by simp[Ax])
 have h1:(f==("earlier":Str))=false:=by rw[beq_eq_false_iff_ne];rintro rfl;exact h (by simp[Ax])
 match vs with
 |[]=>rfl
 |[a]=>simp[Ax,ki,h0]
 |a::b::vs=>simp[Ax,ki,h0,h1]
noncomputable def wV(k:Nat)(d:Dv)(xs:zw):Option zw:=if k<xs.length then some (xs.set k d)else if k=xs.length/\k<2 then some (xs++[d])else none
theorem WM{k:Nat}{f:Str}{vs:Ez}{w:V}(hf:Ax[k]?=some f)(hk:k<vs.length∨(k=vs.length/\k<2)):fT f w (Ax.zip vs)=Ax.zip (if k<vs.length then vs.set k w else vs++[w]):=by
 match k,vs with
 |0,[]=>cases hf;rfl
 |0,[a]=>cases hf;rfl
 |0,a::b::vs=>cases hf;rfl
 |1,[]=>simp at hk
 |1,[a]=>cases hf;rfl
 |1,a::b::vs=>
  cases hf;have:(("order":Str)=("earlier":Str))=False:=by simp only[eq_iff_iff,iff_false];decide
  simp[Ax,fT,this]
 |k+2,vs=>cases hf
section
variable{k:Nat}{f:Str}{e o value:ba}{es:List ba}{me mo mv:M Dv}{ms:M zw}{pos pos' apos p:Pos}{μ:Nat->ah}{h:Hs}{H:Hp}
theorem Ai.allocN(s:Ai G μ h H){x dx:ah}(hx:H x=none)(hd:H dx=none)(hne:dx≠x):
  Ext μ h.length H (λi=>if i=h.length then x else μ i) (h++[Ob.ins []]).length (aF (aF H dx (.own x)) x (.ins G.insC dx []))/\Ai G (λi=>if i=h.length then x else μ i) (h++[.ins []]) (aF (aF H dx (.own x)) x (.ins G.insC dx [])):=by
 have hl:(h++[Ob.ins []]).length=h.length+1:=by simp
 have hq:=s.not hx;have sm:Bn H (aF (aF H dx (.own x)) x (.ins G.insC dx [])):=λb u e=>by rw[aM (bY e hx),aM (bY e hd)];exact e
 have xx:Ext μ h.length H (λi=>if i=h.length then x else μ i) (h++[Ob.ins []]).length (aF (aF H dx (.own x)) x (.ins G.insC dx [])):=⟨by lia,λi hi=>if_neg (aw hi),λa o _ e=>sm a o e⟩
 refine⟨xx,λi j hi hj e=>?_,λi o q=>?_,s.tab.keep λa o _ _ q=>sm a o q⟩
 ·rw[hl]at hi hj
  by_cases h1:i=h.length<;>by_cases h2:j=h.length
  ·lia
  ·rw[if_pos h1,if_neg h2]at e;exact absurd e.symm (hq j (by lia))
  ·rw[if_neg h1,if_pos h2]at e;exact absurd e (hq i (by lia))
  ·rw[if_neg h1,if_neg h2]at e;exact s.inj i j (by lia) (by lia) e
 ·by_cases h1:i<h.length
  ·rw[di h1]at q;have r1:=s.ob i o q;rw[if_neg (aw h1)]
   cases o with
   |lst xs=>obtain⟨ws,e1,r2⟩:=r1;exact⟨ws,sm _ _ e1,Eb xx _ _ r2⟩
   |clo k t=>exact r1.clo xx
   |dct ks=>exact sm _ _ r1
   |ins xs=>obtain⟨dx,ws,e1,r2⟩:=r1;exact⟨dx,ws,sm _ _ e1,Eb xx _ _ r2⟩
  ·rw[gz (by lia)]at q;have h2:i=h.length:=by have:=(av.mp q).1;simp at this;lia
   subst h2;simp at q;subst q;exact⟨dx,[],by rw[if_pos rfl];exact bP,Eh⟩
theorem Ai.writeN{i:Nat}{xs ys:zw}{ws us:Ez}{dx:ah}(s:Ai G μ h H)(q:h[i]?=some (.ins xs))(e0:H (μ i)=some (.ins G.insC dx (Ax.zip us)))(r:RelDL G μ h.length H ys ws):
  Ext μ h.length H μ (h.set i (.ins ys)).length (aF H (μ i) (.ins G.insC dx (Ax.zip ws)))/\Ai G μ (h.set i (.ins ys)) (aF H (μ i) (.ins G.insC dx (Ax.zip ws))):=by
 have hi:i<h.length:=(av.mp q).1;have im:∀a o,(∀C d fs,o≠.ins C d fs)->H a=some o->aF H (μ i) (.ins G.insC dx (Ax.zip ws)) a=some o:=λa o m e=>by
  rw[aM];exact e
  rintro rfl;rw[e0]at e;cases e;exact m _ _ _ rfl
 have x:Ext μ h.length H μ (h.set i (.ins ys)).length (aF H (μ i) (.ins G.insC dx (Ax.zip ws))):=⟨by simp,λ_ _=>rfl,λa o m e=>im a o (λ_ _ _ z=>by subst z;exact m) e⟩
 refine⟨x,λa b ha hb=>?_,λj o e=>?_,λP lq e=>?_⟩
 ·rw[jq]at ha hb;exact s.inj a b ha hb
 ·by_cases Br:i=j
  ·subst Br;rw[da hi]at e;cases e;exact⟨dx,ws,bP,Eb x _ _ r⟩
  ·rw[gg Br]at e;have hj:j<h.length:=(av.mp e).1;have r1:=s.ob j o e;have ne:μ j≠μ i:=λz=>Br (s.inj j i hj hi z).symm
   cases o with
   |lst zs=>obtain⟨ws,e1,r2⟩:=r1;exact⟨ws,by rw[aM ne];exact e1,Eb x _ _ r2⟩
   |clo k t=>exact r1.clo x
   |dct ks=>exact(aM ne).trans r1
   |ins zs=>obtain⟨dx,ws,e1,r2⟩:=r1;exact⟨dx,ws,by rw[aM ne];exact e1,Eb x _ _ r2⟩
 ·obtain⟨ps,h1,h2,h3⟩:=s.tab P lq e;refine⟨ps,im P _ (λ_ _ _ z=>by cases z) h1,h2,λpos cv q=>?_⟩;obtain⟨a,oc,e1,e2,e3⟩:=h3 pos cv q;exact⟨a,oc,e1,im a _ (λ_ _ _ z=>by cases z) e2,e3⟩
def hV(k:Nat)(x:Dv)(h:Hs):Rs Dv:=match x with
 |.ref i=>match eO h i with
  |some xs=>match xs[k]? with
   |some d=>.ok d h
   |none=>.bad
  |none=>.bad
 |_=>.bad
theorem pO(c:Dx G.K G.insC)(hn:Ay G.K G.insC f)(he:aB X G E e me)(hf:Ax[k]?=some f:=by rfl)(hb:attributeBase e f X.env (eval e X.env)=eval e X.env:=by rfl):aB X G E (.Attribute e f pos) (m1 (hV k) me):=λhK=>
 Eg (RA (he hK) hb) λσ H Q⟨μ,ρ,h,rs,s,o⟩=>cT rs s o λμ1 x h1 vx H1 x1 Ak s1 r1 o1=>by
  cases x with
  |ref i=>
   dsimp only[hV]at o1
   cases q:eO h1 i with
   |none=>rw[q]at o1;exact o1.elim
   |some xs=>
    rw[q]at o1;dsimp only at o1
    cases q2:xs[k]? with
    |none=>rw[q2]at o1;exact o1.elim
    |some d=>rw[q2]at o1;dsimp only at o1;obtain⟨_,rfl⟩:=r1;obtain⟨dx,vs,e1,r2⟩:=s1.ob i _ (qZ q);obtain⟨w,ew,rw'⟩:=r2.get q2;exact⟨_,_,dx,_,w,rfl,e1,by rw[hK];exact c,by rw[hK];exact hn,WL hf ew,o1.val s1 rw'⟩
  |_=>exact o1.elim
def tM(k:Nat)(mo mv:M Dv):MS:=λρ h=>(mv ρ h).thenS λd h1=>(mo ρ h1).thenS λo h2=>match o with
 |.ref i=>match eO h2 i with
  |some xs=>match wV k d xs with
   |some ys=>.nx ρ (h2.set i (.ins ys))
   |none=>.bad
  |none=>.bad
 |_=>.bad
theorem wW(c:Dx G.K G.insC)(hn:Ay G.K G.insC f)(ho:aB X G E o mo)(hv:aB X G E value mv)(hf:Ax[k]?=some f:=by rfl)(hs:swapsWith value (some (.Attribute o f pos')) pos.line X.env=pure false:=by rfl):fL X G E (.Assign [.Attribute o f pos'] value pos) (tM k mo mv):=λhK=>
 PS.imp (RC (ho hK) (hv hK) hs) λD σ H⟨μ,ρ,h,rs,s,oo⟩=>gY rs s oo λμ1 d h1 y H1 x1 Ak s1 r1 o1=>gY Ak s1 o1 λμ2 x h2 vx H2 x2 Bu s2 r2 o2=>by
  cases x with
  |ref i=>
   dsimp only at o2
   cases q:eO h2 i with
   |none=>rw[q]at o2;exact o2.elim
   |some xs=>
    rw[q]at o2;dsimp only at o2
    cases q2:wV k d xs with
    |none=>rw[q2]at o2;exact o2.elim
    |some ys=>
     rw[q2]at o2;dsimp only at o2;obtain⟨_,rfl⟩:=r2;obtain⟨dx,vs,e1,r3⟩:=s2.ob i _ (qZ q);have rd:=El x2 _ _ r1;have hl:=r3.length;have hk:k<vs.length∨(k=vs.length/\k<2):=by
      unfold wV at q2
      split at q2
      ·left;lia
      ·split at q2
       ·rename_i hh;right;lia
       ·cases q2
     have hr:RelDL G μ2 h2.length H2 ys (if k<vs.length then vs.set k y else vs++[y]):=by
      unfold wV at q2;rw[<-hl]at q2
      by_cases c1:k<vs.length
      ·rw[if_pos c1]at q2⊢;cases q2;exact RelDL.set rd k r3
      ·rw[if_neg c1]at q2⊢
       split at q2
       ·cases q2;exact r3.append (.cons rd .nil)
       ·cases q2
     obtain⟨x3,s3⟩:=s2.writeN (qZ q) e1 hr;refine⟨_,_,dx,_,rfl,e1,by rw[hK];exact c,by rw[hK];exact hn,?_,?_⟩
     ·have:(Ax.zip vs).length<=2:=by rw[List.length_zip];exact Nat.min_le_left ..
      lia
     ·rw[WM hf hk];exact o2 μ2 _ σ x3 s3 (Bu.mono x3)
  |_=>exact o2.elim
noncomputable def IV(F:zv):M Dv:=λ_ h=>(F [.ref h.length] (h++[.ins []])).bind λd h1=>match d with
 |.non=>.ok (.ref h.length) h1
 |_=>.bad
theorem WN{F:zv}{ps:zu}{fd:ay}{x:Str}{fi:ah}{j kk:Nat}(g:Good X G E kk)(M:Mk X.K G.insC fi)(Fn:Af X.prog X.w X.K X.mg X.base (aS X.prog X.w X.base) j fi fd ps (bA G F))(hj:j+1<=kk)(hg:Gl X x)(hm:X.mg x=some (.ref G.insC))(hb:Binds X.K fd ps [])(Cd:(x==Ey)=false:=by decide):aB X G E (.Call (.Name x p) [] [] pos) (IV F):=λhK=>
 Eg (RP M Fn (g.room.mono hj) hg hm hb .nil g.pas Cd) λσ H Q⟨μ,ρ,h,rs,s,o⟩=>by
  show(λvs H1=>∀x dx,H1 x=none->H1 dx=none->dx≠x->bA G F (.ref x::(vs++[])) (aF (aF H1 dx (.own x)) x (.ins G.insC dx [])) (λv H2=>v=.non/\Q (.ref x) H2) E) [] H;intro x dx hx hd hne;obtain⟨xx,sx⟩:=s.allocN hx hd hne;refine⟨_,h++[.ins []],[.ref h.length],.cons ⟨by simp,by simp⟩ .nil,sx,?_⟩;have o':Out G E μ h.length H ((F [.ref h.length] (h++[.ins []])).bind λd h1=>match d with
   |.non=>.ok (.ref h.length) h1
   |_=>.bad) (Ac G) Q:=o
  cases q:F [.ref h.length] (h++[.ins []])with
  |bad=>rw[q]at o';exact o'.elim
  |ex c h'=>rw[q]at o';exact λμ' H' u x' s' fl=>o' μ' H' u (xx.trans x') s' fl
  |ok d h'=>
   rw[q]at o'
   cases d with
   |non=>
    intro μ' H' v x' s' r';refine⟨r',o' μ' H' _ (xx.trans x') s' ⟨?_,?_⟩⟩
    ·exact ar (by simp) x'.le
    ·rw[x'.mu _ (by simp),if_pos rfl]
   |_=>exact o'.elim
def IW(x:Dv)(h:Hs):Bool:=match x with
 |.ref i=>(eO h i).isSome
 |_=>false
def fB(F:zv)(me:M Dv)(ms:M zw ):M Dv:=λρ h=>(me ρ h).bind λo h1=>if IW o h1=true then(ms ρ h1).bind λds h2=>F (o::ds) h2 else .bad
theorem WO{F:zv}{m:Str}(hmn:m∉Ax){σ:St}{H:Hp}{Q:VK}(t:eI G E (fB F me ms) σ H Q):vH G.insC m (bA G F) [] E (eI G E me) (vT G E ms) σ H Q:=by
 obtain⟨μ,ρ,h,rs,s,o⟩:=t;refine cT rs s o λμ1 x h1 vx H1 x1 Ak s1 r1 o1=>?_
 split at o1
 ·rename_i hi
  cases x with
  |ref i=>obtain⟨xs,q⟩:=lx.mp (show(eO h1 i).isSome=true from hi);obtain⟨dx,vs,e1,r2⟩:=s1.ob i _ (qZ q);have r1':=r1;obtain⟨_,rfl⟩:=r1';refine⟨_,dx,_,rfl,e1,IU hmn vs,kG Ak s1 o1 λμ2 ds h2 us H2 x2 Bu s2 r3 o2=>?_⟩;rw[jz];exact⟨μ2,h2,.ref i::ds,.cons (El x2 _ _ r1) r3,s2,o2⟩
  |_=>cases hi
 ·exact o1.elim
theorem WQ{F:zv}{m:Str}(hmn:m∉Ax){σ:St}{H:Hp}{Q:VK}(t:eI G E (fB F me bV) σ H Q):vH G.insC m (bA G F) [] E (eI G E me) sE σ H Q:=by
 obtain⟨μ,ρ,h,rs,s,o⟩:=t;refine cT rs s o λμ1 x h1 vx H1 x1 Ak s1 r1 o1=>?_
 split at o1
 ·rename_i hi
  cases x with
  |ref i=>obtain⟨xs,q⟩:=lx.mp (show(eO h1 i).isSome=true from hi);obtain⟨dx,vs,e1,r2⟩:=s1.ob i _ (qZ q);have r1':=r1;obtain⟨_,rfl⟩:=r1';exact⟨_,dx,_,rfl,e1,IU hmn vs,μ1,h1,[.ref i],.cons r1 .nil,s1,o1⟩
  |_=>cases hi
 ·exact o1.elim
theorem pP{F:zv}{ps:zu}{fd:ay}{m:Str}{fi:ah}{j kk:Nat}(g:Good X G E kk)(c:Dx G.K G.insC)(hm:Ci G.K G.insC m fi)(Fn:Af X.prog X.w X.K X.mg X.base (aS X.prog X.w X.base) j fi fd ps (bA G F))(hj:j<=kk)(hb:Binds X.K fd ps [])(ho:aB X G E o mo)(ha:dH X G E (e::es) ms)(hmn:m∉Ax:=by decide)(Ck:ao (e::es) X.env=(false,eval e X.env)::ao es X.env:=by rfl)(Bc:(backTo pos (ao es X.env)).any (·.1)=false:=by rfl){pl:Sem Bool}(ht:eval (.Call (.Attribute o m apos) (e::es) [] pos) X.env=(do
   let ov <-eval o X.env
   standAt apos.atName
   let (f,first) <-holding [ov] (getMethod ov m pl)
   callWith pos f first (backTo pos (ao (e::es) X.env)) (backToKw pos (keywordEach [] X.env))):=by rfl):aB X G E (.Call (.Attribute o m apos) (e::es) [] pos) (fB F mo ms):=λhK=>
 Eg (RM (ho hK) (by rw[hK];exact c) (by rw[hK];exact hm) Fn (g.room.mono hj) hb .nil g.pas (ha hK) Ck Bc ht) λσ H Q t=>WO hmn t
theorem WR{F:zv}{ps:zu}{fd:ay}{m:Str}{fi:ah}{j kk:Nat}(g:Good X G E kk)(c:Dx G.K G.insC)(hm:Ci G.K G.insC m fi)(Fn:Af X.prog X.w X.K X.mg X.base (aS X.prog X.w X.base) j fi fd ps (bA G F))(hj:j<=kk)(hb:Binds X.K fd ps [])(ho:aB X G E o mo)(hmn:m∉Ax:=by decide){pl:Sem Bool}(ht:eval (.Call (.Attribute o m apos) [] [] pos) X.env=(do
   let ov <-eval o X.env
   standAt apos.atName
   let (f,first) <-holding [ov] (getMethod ov m pl)
   callWith pos f first (backTo pos (ao [] X.env)) (backToKw pos (keywordEach [] X.env))):=by rfl):aB X G E (.Call (.Attribute o m apos) [] [] pos) (fB F mo bV):=λhK=>
 Eg (RN (ho hK) (by rw[hK];exact c) (by rw[hK];exact hm) Fn (g.room.mono hj) hb .nil g.pas ht) λσ H Q t=>WQ hmn t
theorem WS(ho:aB X G E o mo)(he:aB X G E e me)(hb:attributeBase o "append" X.env (eval o X.env)=eval o X.env:=by rfl)(hs:ao [e] X.env=[(false,eval e X.env)]:=by rfl)(hl:(apos.endLine==pos.line)=true:=by rfl):aB X G E (.Call (.Attribute o "append" apos) [e] [] pos) (ID mo me):=λhK=>
 Eg (SV wy PySem.F.slot_list_append PySem.F.type_list_append S0 (ho hK) (iR (he hK) jJ hs) hb (by rw[hs];rfl) hl hs rfl) λσ H Q⟨μ,ρ,h,rs,s,oo⟩=>cT rs s oo λμ1 x h1 vx H1 x1 Ak s1 r1 o1=>by
  split at o1
  ·rename_i hl;refine⟨VL s1 r1 hl,cT Ak s1 o1 λμ2 d h2 vd H2 x2 Bu s2 r2 o2=>?_⟩
   cases x with
   |ref j=>
    dsimp only[IB]at o2
    cases q:getL h2 j with
    |none=>rw[q]at o2;exact o2.elim
    |some xs=>
     rw[q]at o2;dsimp only at o2
     split at o2
     ·rename_i hz;obtain⟨vs,ea,ra⟩:=s2.ob j _ (eL q);obtain⟨_,rfl⟩:=El x2 _ _ r1;obtain⟨x3,s3⟩:=s2.write (eL q) (ra.append (Ei r2 Eh));exact⟨_,vs,vd,rfl,rfl,ea,by rw[ra.length];exact ar hz (by decide),o2 μ2 _ _ x3 s3 rfl⟩
     ·exact o2.elim
   |_=>exact o2.elim
  ·exact o1.elim
def BI(x:Dv)(h:Hs):Rs Dv:=match x with
 |.ref j=>match getL h j with
  |some xs=>match xs[xs.length-1]? with
   |some d=>.ok d (h.set j (.lst xs.dropLast))
   |none=>.bad
  |none=>.bad
 |_=>.bad
theorem IX{n:Nat}:∀{ds:zw}{vs:Ez},RelDL G μ n H ds vs->RelDL G μ n H ds.dropLast vs.dropLast
 |[],_,h=>by rw[RelDL]at h;subst h;exact Eh
 |[d],_,h=>by rw[RelDL]at h;obtain⟨v,r,rfl,_,h2⟩:=h;rw[RelDL]at h2;subst h2;exact Eh
 |d::d'::ds,_,h=>by rw[RelDL]at h;obtain⟨v,r,rfl,h1,h2⟩:=h;have h3:=IX h2;rw[RelDL]at h2;obtain⟨v',r',rfl,_,_⟩:=h2;exact Ei h1 h3
theorem WT(ho:aB X G E o mo)(hb:attributeBase o "pop" X.env (eval o X.env)=eval o X.env:=by rfl)(hl:(apos.endLine==pos.line)=true:=by rfl):aB X G E (.Call (.Attribute o "pop" apos) [] [] pos) (m1 BI mo):=λhK=>
 Eg (SU wy PySem.F.slot_list_pop PySem.F.type_list_pop S3 (ho hK) hb hl) λσ H Q⟨μ,ρ,h,rs,s,oo⟩=>cT rs s oo λμ1 x h1 vx H1 x1 Ak s1 r1 o1=>by
  cases x with
  |ref j=>
   dsimp only[BI]at o1
   cases q:getL h1 j with
   |none=>rw[q]at o1;exact o1.elim
   |some xs=>
    rw[q]at o1;dsimp only at o1
    cases q2:xs[xs.length-1]? with
    |none=>rw[q2]at o1;exact o1.elim
    |some d=>rw[q2]at o1;dsimp only at o1;obtain⟨vs,ea,ra⟩:=s1.ob j _ (eL q);obtain⟨_,rfl⟩:=r1;obtain⟨w,ew,rw'⟩:=ra.get q2;obtain⟨x3,s3⟩:=s1.write (eL q) (IX ra);rw[<-ra.length]at ew;exact⟨IA ea,_,vs,w,rfl,rfl,ea,ew,o1 μ1 _ _ x3 s3 (El x3 _ _ rw')⟩
  |_=>exact o1.elim
end
theorem BJ{env:Env}{x:Str}:∀{l:List (Str×kq)},l.lookup x=some .free->(l.map λ(n,k)=>if(k==bw&&env.scope.kind==.function&&env.kindOf n==some .cell)then(n,df)else(n,k)).lookup x≠some .local
 |[],h=>by simp at h
 |(n,q)::r,h=>by
  rw[dr]at h;rw[fw]
  cases e:x==n with
  |true=>
   rw[e]at h;have hq:q=.free:=de h;subst hq;dsimp only
   split
   ·rw[dr,e];simp
   ·rw[dr,e];simp
  |false=>
   rw[e]at h;dsimp only
   split
   ·rw[dr,e];exact BJ h
   ·rw[dr,e];exact BJ h
theorem WU{X:Cx}{sc os:dj}{oN N:zu}{cap:List (Option Nat)}(hs:X.env.scope.names=os.names)(hN:X.N=oN)(h1:sc.kind=.function)(h2:∀p∈sc.names,p.2=.local->sc.names.lookup p.1=some .local)(h3:cap.length=N.length)(h4:∀p∈sc.names,p.2=.free->os.names.lookup p.1=some .cell∨os.names.lookup p.1=some .free)(h5:∀p∈sc.names,p.2=.free->(p.1,df)∉sc.names)(h6:∀q∈cap.zip N,∀j∈q.1,oN[j]?=some q.2/\sc.names.lookup q.2=some .free):Av X sc N cap:=by
 refine⟨h1,h2,h3,λx hx=>?_,λx hx=>h5 _ hx rfl,λi j x e1 e2=>?_⟩
 ·have:=h4 _ hx rfl;rw[<-hs]at this;exact this
 ·have hm:(some j,x)∈cap.zip N:=gb (i:=i) (qo.mpr ⟨e1,e2⟩);obtain⟨a,b⟩:=h6 _ hm j rfl;rw[hN];refine⟨a,fh b,?_⟩;exact BJ b
def mK:Dv->Dv->Hs->Rs Dv:=pE λi j=>.int (i-j)
def jS:Dv->Dv->Hs->Rs Dv:=AX pF λi j=>.int (i%j)
def iN:Dv->Dv->Hs->Rs Dv:=pE λi j=>.bl (decide (i<=j))
section
variable{k:Nat}{a b:ba}{ma mb:M Dv}{pos:Pos}
theorem IY(ha:aB X G E a ma)(hb:aB X G E b mb):aB X G E (.BinOp a .Sub b pos) (m2 mK ma mb):=vV QH TN ha hb
theorem BK(ha:aB X G E a ma)(hb:aB X G E b mb):aB X G E (.BinOp a .Mod b pos) (m2 jS ma mb):=vV QI (TQ TR) ha hb
theorem WV(ha:aB X G E a ma):aB X G E (.UnaryOp .USub a pos) (m1 BF ma):=TJ QK WG ha
theorem BL(g:Good X G E k)(ha:aB X G E a ma)(hb:aB X G E b mb):aB X G E (.Compare a [.Eq] [b] pos) (m2 cO ma mb):=sR (HA g.room.units) HC ha hb (sD _)
theorem WW(g:Good X G E k)(ha:aB X G E a ma)(hb:aB X G E b mb):aB X G E (.Compare a [.NotEq] [b] pos) (m2 dU ma mb):=sR (HB g.room.units) HD ha hb (sD _)
theorem mM(g:Good X G E k)(ha:aB X G E a ma)(hb:aB X G E b mb):fK X G E (.Compare a [.Eq] [b] pos) (mB (m2 cO ma mb)):=sT (HA g.room.units) HC ha hb (sD _)
theorem rA(g:Good X G E k)(ha:aB X G E a ma)(hb:aB X G E b mb):fK X G E (.Compare a [.NotEq] [b] pos) (mB (m2 dU ma mb)):=sT (HB g.room.units) HD ha hb (sD _)
variable{c:ba}{mc:M Dv}
theorem WX(ha:aB X G E a ma)(hb:aB X G E b mb)(hc:aB X G E c mc)(hm:lastMarks [.LtE,.LtE] [b,c]=false:=by with_unfolding_all rfl):aB X G E (.Compare a [.LtE,.LtE] [b,c] pos) (jL iN iN ma mb mc):=TF vG vG sW sW ha hb hc hm
theorem WY(ha:aB X G E a ma)(hb:aB X G E b mb)(hc:aB X G E c mc)(hm:lastMarks [.LtE,.LtE] [b,c]=false:=by with_unfolding_all rfl):fK X G E (.Compare a [.LtE,.LtE] [b,c] pos) (mB (jL iN iN ma mb mc)):=TH vG vG sW sW ha hb hc hm
end
noncomputable def wX:Ty->Option Bool
 |.bl=>some true|.int=>some true|.exc _=>none|_=>some false
noncomputable def wY:Ty->Option Bool
 |.bl=>some true|.exc _=>none|_=>some false
noncomputable def pQ:Ty->Option Bool
 |.tup=>some true|.exc _=>none|_=>some false
noncomputable def BM:Ty->Option Bool
 |.lst=>some true|.exc _=>none|_=>some false
noncomputable def nX:Ty->Option Bool
 |.str=>some true|.exc _=>none|_=>some false
section
variable{K:ak}{cl:Nat->ah}
theorem WZ:∀ty bb,wX ty=some bb->cq K (nQ cl ty) (.type "int")=some bb:=by intro ty bb h;cases ty<;>first|(cases h;rfl)|cases h
theorem W0:∀ty bb,wY ty=some bb->cq K (nQ cl ty) (.type "bool")=some bb:=by intro ty bb h;cases ty<;>first|(cases h;rfl)|cases h
theorem W2:∀ty bb,pQ ty=some bb->cq K (nQ cl ty) (.type "tuple")=some bb:=by intro ty bb h;cases ty<;>first|(cases h;rfl)|cases h
theorem W3:∀ty bb,BM ty=some bb->cq K (nQ cl ty) (.type "list")=some bb:=by intro ty bb h;cases ty<;>first|(cases h;rfl)|cases h
theorem W4:∀ty bb,nX ty=some bb->cq K (nQ cl ty) (.type "str")=some bb:=by intro ty bb h;cases ty<;>first|(cases h;rfl)|cases h
end
theorem W5:cx "int"=some (.type "int"):=by decide+kernel
theorem W6:cx "bool"=some (.type "bool"):=by decide+kernel
theorem IZ:cx "str"=some (.type "str"):=by decide+kernel
theorem W7:cx "ValueError"=some (.type "ValueError"):=by decide+kernel
noncomputable def dW(nn:Option Bool)(tbl:List (Nat×Bool)):Ty->Option Bool
 |.exc c=>tbl.lookup c
 |.non=>nn
 |_=>none
section
variable{a:ba}{ma:M Dv}{p q r pos:Pos}
theorem W8(hg:Gl X "isinstance")(hm:X.mg "isinstance"=none)(Dc:Gl X "int")(Cv:X.mg "int"=none)(ha:aB X G E a ma)(he:ao [a,.Name "int" q] X.env=[(false,eval a X.env),(false,eval (.Name "int" q) X.env)]:=by rfl):
  aB X G E (.Call (.Name "isinstance" p) [a,.Name "int" q] [] pos) (m1 (bR wX) ma):=pN hg hm ha (qS Dc Cv W5) (.inl ⟨_,rfl⟩) rfl WZ (λc bb h=>by cases h) he
theorem W9(hg:Gl X "isinstance")(hm:X.mg "isinstance"=none)(Dc:Gl X "bool")(Cv:X.mg "bool"=none)(ha:aB X G E a ma)(he:ao [a,.Name "bool" q] X.env=[(false,eval a X.env),(false,eval (.Name "bool" q) X.env)]:=by rfl):
  aB X G E (.Call (.Name "isinstance" p) [a,.Name "bool" q] [] pos) (m1 (bR wY) ma):=pN hg hm ha (qS Dc Cv W6) (.inl ⟨_,rfl⟩) rfl W0 (λc bb h=>by cases h) he
theorem BN(hg:Gl X "isinstance")(hm:X.mg "isinstance"=none)(Dc:Gl X "tuple")(Cv:X.mg "tuple"=none)(ha:aB X G E a ma)(he:ao [a,.Name "tuple" q] X.env=[(false,eval a X.env),(false,eval (.Name "tuple" q) X.env)]:=by rfl):
  aB X G E (.Call (.Name "isinstance" p) [a,.Name "tuple" q] [] pos) (m1 (bR pQ) ma):=pN hg hm ha (qS Dc Cv HE) (.inl ⟨_,rfl⟩) rfl W2 (λc bb h=>by cases h) he
theorem XA(hg:Gl X "isinstance")(hm:X.mg "isinstance"=none)(Dc:Gl X "list")(Cv:X.mg "list"=none)(ha:aB X G E a ma)(he:ao [a,.Name "list" q] X.env=[(false,eval a X.env),(false,eval (.Name "list" q) X.env)]:=by rfl):
  aB X G E (.Call (.Name "isinstance" p) [a,.Name "list" q] [] pos) (m1 (bR BM) ma):=pN hg hm ha (qS Dc Cv HF) (.inl ⟨_,rfl⟩) rfl W3 (λc bb h=>by cases h) he
theorem XB(hg:Gl X "isinstance")(hm:X.mg "isinstance"=none)(Dc:Gl X "str")(Cv:X.mg "str"=none)(ha:aB X G E a ma)(he:ao [a,.Name "str" q] X.env=[(false,eval a X.env),(false,eval (.Name "str" q) X.env)]:=by rfl):
  aB X G E (.Call (.Name "isinstance" p) [a,.Name "str" q] [] pos) (m1 (bR nX) ma):=pN hg hm ha (qS Dc Cv IZ) (.inl ⟨_,rfl⟩) rfl W4 (λc bb h=>by cases h) he
theorem kN{x:Str}{C:ah}{nn:Option Bool}{tbl:List (Nat×Bool)}(hg:Gl X "isinstance")(hm:X.mg "isinstance"=none)(Dc:Gl X x)(Cv:X.mg x=some (.ref C))(ha:aB X G E a ma)(hn:∀b,nn=some b->cq G.K (.type "NoneType") (.ref C)=some b)(ht:∀c b,tbl.lookup c=some b->cq G.K (.ref (G.cl c)) (.ref C)=some b/\Bv G.K (G.cl c))(hd:(x==Ey)=false:=by decide)(he:ao [a,.Name x q] X.env=[(false,eval a X.env),(false,eval (.Name x q) X.env)]:=by rfl)(he2:ao [.Name x q] X.env=[(false,eval (.Name x q) X.env)]:=by rfl):
  aB X G E (.Call (.Name "isinstance" p) [a,.Name x q] [] pos) (m1 (bR (dW nn tbl)) ma):=
 pN hg hm ha (rX (v:=.ref C) Dc Cv rfl hd) (.inr ⟨_,rfl⟩) rfl (λty bb h=>by
  cases ty with
  |exc c=>exact(ht c bb h).1
  |non=>exact hn bb h
  |_=>cases h) (λc bb h=>(ht c bb h).2) he he2
theorem XC{nn:Option Bool}{tbl:List (Nat×Bool)}(hg:Gl X "isinstance")(hm:X.mg "isinstance"=none)(Dc:Gl X "ValueError")(Cv:X.mg "ValueError"=none)(ha:aB X G E a ma)(hn:∀b,nn=some b->cq G.K (.type "NoneType") (.type "ValueError")=some b)(ht:∀c b,tbl.lookup c=some b->cq G.K (.ref (G.cl c)) (.type "ValueError")=some b/\Bv G.K (G.cl c))(he:ao [a,.Name "ValueError" q] X.env=[(false,eval a X.env),(false,eval (.Name "ValueError" q) X.env)]:=by rfl):
  aB X G E (.Call (.Name "isinstance" p) [a,.Name "ValueError" q] [] pos) (m1 (bR (dW nn tbl)) ma):=
 pN hg hm ha (qS Dc Cv W7) (.inl ⟨_,rfl⟩) rfl (λty bb h=>by
  cases ty with
  |exc c=>exact(ht c bb h).1
  |non=>exact hn bb h
  |_=>cases h) (λc bb h=>(ht c bb h).2) he
end
section
variable{P:bg}{w:bu}{K:ak}{mg:Str->Option af}{base:bx}{f:ah}{G:Cfg}{k:Nat}{N:zu}
theorem XD{x qual:Str}{st:fj}{fd:ay}{ps:zu}{mb:MS}(Fn:Fun K x qual st f fd)(S:Ab N ps (aI st))(hK:K=G.K)(Aw:∀(cdv:af)(A:bq)(outer:List Env)(s:ag)(H:Hp)(E₀ E:XK),fd.code=cdv->Good (eK (aS P w base) P w K mg base N qual (aI st) f cdv A outer s H E₀) G E k->iI (eK (aS P w base) P w K mg base N qual (aI st) f cdv A outer s H E₀) G E (gJ st) mb):
  Af P w K mg base (aS P w base) (k+1) f fd ps (bA G (aT ps.length N.length mb)):=by
 obtain⟨oc,od,kV,doc,pm,an,cdv,ct,osl,rfl,lk,hcd⟩:=Fn.ex;have hlen:∀vs H Q E,bA G (aT ps.length N.length mb) vs H Q E->vs.length=ps.length:=λvs H Q E⟨μ,h,ds,r,sm,o⟩=>by
  rw[r.length];unfold aT at o
  by_cases hd:ds.length=ps.length
  ·exact hd
  ·rw[if_neg hd]at o;exact o.elim
 refine vJ lk hcd S hlen λA outer s H vs Q E hr hsp=>?_;have hl:=hlen _ _ _ _ hsp;obtain⟨μ,h,ds,r,sm,o⟩:=hsp;have o':Out G E μ h.length H (cL (mb (dF N.length ds) h)) (Ac G) Q:=by unfold aT at o;rw[if_pos (by rw[<-r.length];exact hl)]at o;exact o
 refine⟨_,Aw cdv A outer s H E (EB G μ h.length H (mb (dF N.length ds) h)) rfl (wK hr hK (λu H'⟨c,h',μ',er,x,s',fl⟩=>?_) tH) hK,?_⟩
 ·rw[er]at o';exact o' μ' H' u x s' fl
 ·refine⟨μ,dF N.length ds,h,tG r N,sm,?_⟩
  cases q:mb (dF N.length ds) h with
  |bad=>rw[q]at o';exact o'.elim
  |bk ρ h'=>rw[q]at o';exact o'.elim
  |ct ρ h'=>rw[q]at o';exact o'.elim
  |rt d h'=>rw[q]at o';exact o'
  |nx ρ h'=>rw[q]at o';exact λμ' H' σ' x' s' rs'=>o' μ' H' .non x' s' rfl
  |ex c h'=>exact λμ' H' u x' s' fl=>⟨c,h',μ',rfl,x',s',fl⟩
end
noncomputable def jT:Dv->Bool
 |.scr=>false
 |_=>true
def cB(x y:Dv)(h:Hs):Rs Dv:=if jT x=true then qO [] x y h else .bad
def eQ(x:Dv)(h:Hs):Rs Dv:=if jT x=true then lK [] x h else .bad
def wZ(x:Dv)(h:Hs):Rs Dv:=if jT x=true then wA [] x h else .bad
def dM(neg:Bool)(x y:Dv)(h:Hs):Rs Dv:=if jT y=true then lM [] neg x y h else .bad
theorem BO{scr:zr}{x:Dv}{h:Hs}(e:jT x=true):gX [] x h=gX scr x h:=by cases x<;>first|rfl|cases e
section
variable{k:Nat}{a b e:ba}{es:List ba}{ma mb:M Dv}{aU:M zw}{p pos:Pos}
theorem XE:eA G (AE G.K) cB:=by
 intro E μ h H x y vx vy Q s rx ry o;unfold cB at o
 split at o
 ·rename_i hx;refine TX E μ h H x y vx vy Q s rx ry ?_;have e:qO G.scr x y h=qO [] x y h:=by cases x<;>cases y<;>first|rfl|exact absurd hx (by decide)
  rw[e];exact o
 ·exact o.elim
theorem XF:iT G (HI G.K) eQ:=by
 intro E μ h H x vx Q s rx o;unfold eQ at o
 split at o
 ·rename_i hx;refine T4 E μ h H x vx Q s rx ?_;unfold lK at o⊢;rw[<-BO hx];exact o
 ·exact o.elim
theorem XG:iT G (λx H Q=>∃p ys,x=.ref p/\(Bb G.K H p ys∨Ap G.K H p ys)/\∀l,H l=none->Q (.ref l) (aF H l (.lst ys))) wZ:=by
 intro E μ h H x vx Q s rx o;unfold wZ at o
 split at o
 ·rename_i hx;refine UA E μ h H x vx Q s rx ?_;unfold wA at o⊢;rw[<-BO hx];exact o
 ·exact o.elim
theorem BP(neg:Bool):eA G (wO G.K neg) (dM neg):=by
 intro E μ h H x y vx vy Q s rx ry o;unfold dM at o
 split at o
 ·rename_i hx;refine WC neg E μ h H x y vx vy Q s rx ry ?_;unfold lM at o⊢;rw[<-BO hx];exact o
 ·exact o.elim
theorem iO(ha:aB X G E a ma)(hb:aB X G E b mb)(hs:AD b:=by intro _ _;rfl):aB X G E (.Subscript a b pos) (m2 cB ma mb):=λhK=>Eg (GC (by have:=SG (X:=X);rw[hK]at this;exact this) (ha hK) (hb hK) hs) λ_ _ _ t=>vU XE t
theorem pR(hg:Gl X "len")(hm:X.mg "len"=none)(ha:dH X G E (e::es) aU)(he:ao (e::es) X.env=(false,eval e X.env)::ao es X.env:=by rfl)(Bc:(backTo pos (ao es X.env)).any (·.1)=false:=by rfl):aB X G E (.Call (.Name "len" p) (e::es) [] pos) (aE (f1 eQ) aU):=λhK=>
 sY (Am.imp (SK (X:=X)) λxs H Q⟨v,h1,a,ys,h2,h3,h4⟩=>⟨a,ys,by rw[h1,h2],by rw[hK];exact h3,h4⟩) (nL XF) hg hm wd ha (by decide) (by decide) he Bc hK
theorem XH(hg:Gl X "list")(hm:X.mg "list"=none)(ha:dH X G E (e::es) aU)(he:ao (e::es) X.env=(false,eval e X.env)::ao es X.env:=by rfl)(Bc:(backTo pos (ao es X.env)).any (·.1)=false:=by rfl):aB X G E (.Call (.Name "list" p) (e::es) [] pos) (aE (f1 wZ) aU):=λhK=>
 A0 (Am.imp (SN (X:=X)) λxs H Q⟨v,h1,a,ys,h2,h3,h4⟩=>⟨a,ys,by rw[h1,h2],by rw[hK];exact h3,h4⟩) (nL XG) hg hm HF ha (by decide) (by decide) he Bc hK
end
noncomputable def eX:Dv->Option Int
 |.int i=>some i
 |_=>none
theorem mO{G:Cfg}{μ:Nat->ah}{n:Nat}{H:Hp}:∀{xs:zw}{vs:Ez}{ns:zr},RelDL G μ n H xs vs->aW eX xs=some ns->vs=ns.map Ef
 |[],_,ns,r,e=>by cases e;rw[RelDL]at r;subst r;rfl
 |x::xs,_,ns,r,e=>by
  rw[RelDL]at r;obtain⟨v,rr,rfl,r1,r2⟩:=r;unfold aW at e
  cases x with
  |int i=>
   dsimp only[eX]at e
   cases q:aW eX xs with
   |none=>rw[q]at e;cases e
   |some zs=>rw[q]at e;cases e;rw[Ac]at r1;subst r1;rw[mO r2 q];rfl
  |_=>cases e
section
variable{e a b:ba}{es:List ba}{ma mb:M Dv}{aU:M zw}{p pos:Pos}
theorem tN{ns:zr}{its:List af}(rv:Ae (ns.map Ef) its){i:Nat}{v:af}(e:its.toArray[i]?=some v):∃t,v=.int (ns.getD i 0) t:=by
 have hl:=rv.length;rw[cg]at hl;have e':its[i]?=some v:=by simpa using e
 have hi:i<its.length:=(av.mp e').1;have hb:i<ns.length:=by lia
 obtain⟨u,e2,r⟩:=rv.get (i:=i) (x:=Ef ns[i]) (by simp[hb]);rw[e']at e2;cases e2;have hg:ns.getD i 0=ns[i]:=by simp[pq,hb]
 rw[hg];exact r
end
noncomputable def eY(g:Int->Int->Bool)(val:Nat->Int):Nat->Int
 |0=>val 0
 |k+1=>if g (val (k+1)) (eY g val k)then val (k+1)else eY g val k
theorem JA(g:Int->Int->Bool)(val:Nat->Int):∀k,val (argBest (λi j=>g (val i) (val j)) k)=eY g val k
 |0=>rfl
 |k+1=>by
  rw[argBest,eY,<-JA g val k]
  split<;>rfl
def nY(ns:zr):Int:=eY (λa b=>decide (a>b)) (λi=>ns.getD i 0) (ns.length-1)
def fJ(ns:zr):Int:=eY (λa b=>decide (a<b)) (λi=>ns.getD i 0) (ns.length-1)
section
variable{e a b:ba}{es:List ba}{ma mb:M Dv}{aU:M zw}{p pos:Pos}
abbrev JB(f:zr->Int):Ez->Hp->VK->Prop:=λxs H Q=>∃(p:ah)(ns:zr),xs=[.ref p]/\H p=some (.lst (ns.map Ef))/\0<ns.length/\Q (.int (f ns)) H
theorem XI(hc:X.calm=true):Am X (.builtin "min") (JB fJ):=by
 intro pins s σ H xs us Q I rv ⟨p,ns,e,hp,h0,q⟩;subst e;obtain⟨u,rfl,ru⟩:=gI rv;cases ru;obtain⟨its,rits,pl,hz⟩:=I.list (Em hp);have hn:its.toArray.size=ns.length:=by have:=rits.length;simp at this⊢;lia
 have lp:=I.hok.lt hp;have ne:p≠s.heap.objs.size:=aw lp;refine call_min_walk (nu pl.isList ⟨_,_,_,_,_,_,_,rfl,wc (A:=X.A.in1) (show X.A.in1.handled=none from I.ok.hd hc) _ p ne its.toArray,⟨⟨_,ax _ rfl,rfl,rfl⟩,pl.isList.push _⟩,λb hb=>?_,by rw[hn];exact h0,CmpOf.ints_lt (λi=>ns.getD i 0) (λi v ev=>tN rits ev),λv h' tk ev k=>?_⟩)
 ·simp only[dq];simp at hb
  rcases hb with rfl|rfl
  ·exact jf _
  ·exact lg lp
 ·obtain⟨t',rfl⟩:=tN rits ev;refine⟨.int (fJ ns),H,(BA (tk:=tk) I k:Inv X pins σ H {s with heap:=h',toks:=tk}),⟨t',?_⟩,q⟩;rw[hn];rw[JA (λa b=>decide (a<b)) (λi=>ns.getD i 0)];rfl
theorem JC:∀{vs:List af}{ns:zr},Ae (ns.map Ef) vs->kz vs ns
 |[],[],_=>.nil
 |[],n::ns,h=>by cases h
 |v::vs,[],h=>by cases h
 |v::vs,n::ns,h=>by
  cases h with
  |cons h1 h2=>obtain⟨t,rfl⟩:=h1;exact .cons _ _ (JC h2)
def lN(f:zr->Int)(x:Dv)(h:Hs):Rs Dv:=match x with
 |.ref i=>match getL h i with
  |some xs=>match aW eX xs with
   |some ns=>if 0<ns.length then .ok (.int (f ns)) h else .bad
   |none=>.bad
  |none=>.bad
 |_=>.bad
theorem XJ{f:zr->Int}:iT G (λx H Q=>JB f [x] H Q) (lN f):=by
 intro E μ h H x vx Q s r o
 cases x with
 |ref i=>
  dsimp only[lN]at o
  cases q:getL h i with
  |none=>rw[q]at o;exact o.elim
  |some xs=>
   rw[q]at o;dsimp only at o
   cases q2:aW eX xs with
   |none=>rw[q2]at o;exact o.elim
   |some ns=>
    rw[q2]at o;dsimp only at o
    split at o
    ·rename_i h0;obtain⟨vs,e1,r1⟩:=s.ob i _ (eL q);obtain⟨_,rfl⟩:=r;exact⟨_,ns,rfl,by rw[e1,mO r1 q2],h0,o.val s rfl⟩
    ·exact o.elim
 |_=>exact o.elim
theorem XM:cx "sorted"=some (.builtin "sorted"):=by decide+kernel
theorem JD(hc:X.calm=true)(hg:Gl X "min")(hm:X.mg "min"=none)(ha:dH X G E [e] aU)(he:ao [e] X.env=[(false,eval e X.env)]:=by rfl):aB X G E (.Call (.Name "min" p) [e] [] pos) (aE (f1 (lN fJ)) aU):=
 sY (Am.imp (XI hc) λxs H Q⟨v,h1,a,ns,h2,h3⟩=>⟨a,ns,by rw[h1,h2],h3⟩) (nL XJ) hg hm T3 ha (by decide) (by decide) he rfl
end
section
variable{e o a b:ba}{es:List ba}{ma mb mo me:M Dv}{aU:M zw}{p pos np apos cpos:Pos}{y:Str}
def JE(K:ak):R2:=λx y H Q=>∃a b ys,x=.ref a/\y=.ref b/\Ap K H a []/\Ap K H b ys/\Q (.ref b) H
theorem op_catT0:Bi X (binaryOp .Add) (JE X.K):=by
 intro pins s σ H x y v u Q I rx ry ⟨a,b,ys,e1,e2,ha,hb,q⟩;subst e1;subst e2;cases rx;cases ry;obtain⟨its,r1,p1,_⟩:=I.tuple ha;obtain⟨Bz,r2,p2,_⟩:=I.tuple hb;have hn:its=[]:=r1.nil_iff.mpr rfl;subst hn;obtain⟨⟨cls,dd,data,sl⟩,ho,hc,n,hd⟩:=p1;obtain⟨⟨cls2,dd2,data2,sl2⟩,ho2,hc2,n2,hd2⟩:=p2;simp only at hc hd hc2 hd2;subst hc hd hc2 hd2;exact concat_meets ⟨_,ho,rfl⟩ ⟨_,ho2,rfl⟩ xc zj rh qr (qh _ _)
  (tuple_addW0 a b _ _ n n2 dd dd2 sl sl2 rfl) ⟨ho,ho2,⟨.ref b,H,I,rfl,q⟩⟩
def bX(x y:Dv)(h:Hs):Rs Dv:=match x,y with
 |.tup [],.tup ys=>.ok (.tup ys) h
 |x,y=>qM x y h
theorem XN:eA G (λx y H Q=>JE G.K x y H Q∨AY G.K x y H Q) bX:=by
 intro E μ h H x y vx vy Q s rx ry o;unfold bX at o
 split at o
 ·rename_i ys;obtain⟨a,vs,rfl,ea,ra⟩:=rx;obtain⟨b,ws,rfl,eb,rb⟩:=id ry;have:vs=[]:=by rw[RelDL]at ra;exact ra
  subst this;exact .inl ⟨a,b,ws,rfl,rfl,Ek ea,Ek eb,o.val s ry⟩
 ·exact .inr (TV E μ h H _ _ vx vy Q s rx ry o)
theorem mP(ha:aB X G E a ma)(hb:aB X G E b mb):aB X G E (.BinOp a .Add b pos) (m2 bX ma mb):=λhK=>vV (op_catT0.or TU) (by rw[hK];exact XN) ha hb hK
noncomputable def fP(k:Int):zr->Option Nat
 |[]=>none
 |n::ns=>if n=k then some 0 else(fP k ns).map (·+1)
theorem BQ{k:Int}:∀{ns:zr}{j:Nat},fP k ns=some j->ns[j]?=some k/\∀m,m<j->ns[m]?≠some k
 |[],j,h=>by cases h
 |n::ns,j,h=>by
  unfold fP at h
  split at h
  ·rename_i e;cases h;exact⟨by simp[e],λm hm=>by lia⟩
  ·rename_i e
   cases q:fP k ns with
   |none=>rw[q]at h;cases h
   |some i=>
    rw[q]at h;cases h;obtain⟨h1,h2⟩:=BQ q;refine⟨by simpa using h1,λm hm=>?_⟩
    cases m with
    |zero=>simpa using e
    |succ m=>
     have Cv:m<i:=by simpa using hm
     simpa using h2 m Cv
theorem JF:∀{vs:List af}{ns:zr}{i:Nat}{n:Int},kz vs ns->ns[i]?=some n->∃t,vs[i]?=some (.int n t)
 |_,_,0,n,.cons m t h,e=>by simp at e;subst e;exact⟨t,rfl⟩
 |_,_,i+1,n,.cons m t h,e=>by simpa using JF h (by simpa using e)
 |_,_,i,n,.nil,e=>by simp at e
theorem XO(a b:af):argsOk "tuple.index" ⟨[a,b],[]⟩:=by unfold argsOk;kernel_rfl
theorem XQ{prog:bg}{w:bu}{A:bq}{E:af->ag->Prop}{s:ag}{t:ah}{items:Array af}{ns:zr}{k:Int}{u:Tok}{j:Nat}{P:Fin->ag->Prop}(ht:yp s.heap t items)(hi:kz items.toList ns)(hj:ns[j]?=some k)(hno:∀m,m<j->ns[m]?≠some k)(h:P (.done (.ret (.int j s.toks))) {s with toks:=s.toks+1}):wpAny (model prog w) A (ub.«tuple.index» ⟨[.ref t,.int k u],[]⟩) P E s:=by
 show wpAny _ _ (ui (.ref t) >>=_) _ _ s;refine ae (zk ht ?_);refine ae (aj ?_);refine ae (aj ?_);show wpAny _ _ (forIn [:min items.size items.size] (none,()) _ >>=_) _ _ s;rw[yw,Std.Legacy.Range.forIn_eq_forIn_range'];have hsz:items.size=ns.length:=by have:=hi.length;simpa using this
 have hjn:j<ns.length:=(av.mp hj).1;refine ae (wpAny_forIn_list _ (λrest b s'=>b=(none,())/\s'=s/\∃i,i<=j/\rest=List.range' i (items.size-i) 1) _ ?_ ?_ _ _ ⟨rfl,rfl,0,ja _,?_⟩)
 ·rintro x rest b s' ⟨rfl,rfl,i,Br,hr⟩
  have hlt:i<items.size:=by lia
  obtain⟨z,hz⟩:∃z,items.size-i=z+1:=⟨items.size-i-1,by lia⟩
  rw[hz,List.range'_succ]at hr;injection hr with hx C';subst hx;obtain⟨n,hn⟩:∃n,ns[x]?=some n:=⟨ns[x]'(by lia),by simp[show x<ns.length by lia]⟩
  obtain⟨tt,ht2⟩:=JF hi hn;have ht3:items[x]?=some (.int n tt):=by simpa using ht2
  rw[ht3];dsimp only;refine ae (wz ?_)
  by_cases hxj:x=j
  ·subst hxj;have hnk:n=k:=by rw[hj]at hn;cases hn;rfl
   subst hnk;rw[if_pos (by simp)];refine ae (ae (wpAny_mkInt ?_));exact aj (aj (aj h))
  ·have hne:n≠k:=λe=>hno x (by lia) (by rw[hn,e]);rw[if_neg (by simpa using hne)];exact aj ⟨rfl,rfl,x+1,by lia,by rw[C'];congr 1;lia⟩
 ·rintro b s' ⟨rfl,rfl,i,Br,hr⟩
  exfalso
  have hlt:i<items.size:=by lia
  have:=congrArg oj hr;simp at this
  lia
 ·simp[Std.Legacy.Range.size]
theorem XR:nF X "tuple.index" (λx xs H Q=>∃(a:ah)(ns:zr)(k:Int)(j:Nat),x=.ref a/\xs=[.int k]/\H a=some (.tup (ns.map Ef))/\fP k ns=some j/\Q (.int j) H):=by intro pins s σ H x xs v us Q I rx rv ⟨a,ns,k,j,e1,e2,ha,hj,q⟩;subst e1;subst e2;cases rx;obtain⟨u,rfl,ru⟩:=gI rv;obtain⟨t,rfl⟩:=ru;obtain⟨its,rits,p1,_⟩:=I.tuple (Ek ha);obtain⟨h1,h2⟩:=BQ hj;refine gv we p1.typeIs PySem.F.entry_tuple_index (XQ p1 (JC rits) h1 h2 ⟨_,rfl,?_⟩) (XO _ _);exact⟨.int j,H,I.tok _,⟨_,rfl⟩,q⟩
theorem XS{id:String}{name:Str}{r:V->Ez->Hp->VK->Prop}{to:TE}{t:TA}(slot:Slot "tuple" name id)(hty:typeOf (.builtin id)=pure (.type "method_descriptor"))(hm:nF X id r)(ho:PE X o to)(ha:PA X [e] t)(Ce:attributeBase o name X.env (eval o X.env)=eval o X.env)(hfew:((backTo cpos (ao [e] X.env)).all (λx=>!x.1)&&(backToKw cpos (keywordEach [] X.env)).all (λx=>x.1.isSome)
   && decide ([e].length+([]:List vq).length+(if([]:List vq).isEmpty then 0 else 1)<30))=true)(Cc:(apos.endLine==cpos.line)=true)(hs:ao [e] X.env=[(false,eval e X.env)]):
  PE X (.Call (.Attribute o name apos) [e] [] cpos) (λσ H Q=>to σ H λx H1=>(∃a xs,x=.ref a/\H1 a=some (.tup xs))/\t σ H1 λxs H2=>r x xs H2 Q):=by
 intro pins s σ H Q I h;refine uc Ce hfew Cc rfl (aH (ho pins s σ H _ I h) λv s1⟨x,H1,I1,r1,⟨a,ys,ex,ea⟩,q1⟩=>?_);subst ex;cases r1;obtain⟨_,its,rits,ob,g1,g2,g3,n,g4⟩:=(show Ag X.prog X.w H1 s1.heap a (.tup ys) from I1.hok a _ ea)
 refine⟨"tuple",id,PySem.F.plainAttrs_tuple,slot,hty,⟨ob,g1,g2⟩,λb eb=>?_,?_⟩
 ·cases eb;exact⟨ob,g1,g3⟩
 ·have hA:=ha cpos pins s1 σ H1 _ I1 q1;rw[hs]at hA⊢;exact mr (by rfl) (oh (aH hA λus s2⟨vs,H2,I2,r2,q2⟩=>hm pins s2 σ H2 (.ref a) vs (.ref a) us Q I2 rfl r2 q2))
def BR(x i:Dv)(h:Hs):Rs Dv:=match x,i with
 |.tup xs,.int k=>match aW eX xs with
  |some ns=>match fP k ns with
   |some j=>.ok (.int j) h
   |none=>.bad
  |none=>.bad
 |_,_=>.bad
noncomputable def JG(x:Dv):Bool:=match x with
 |.tup _=>true
 |_=>false
def kO(mo me:M Dv):M Dv:=λρ h=>(mo ρ h).bind λx h1=>if JG x=true then(me ρ h1).bind λd h2=>BR x d h2 else .bad
theorem xA(ho:aB X G E (.Name y np) mo)(he:aB X G E e me)(hs:ao [e] X.env=[(false,eval e X.env)]:=by rfl)(hl:(apos.endLine==cpos.line)=true:=by rfl):aB X G E (.Call (.Attribute (.Name y np) "index" apos) [e] [] cpos) (kO mo me):=λhK=>
 Eg (XS we PySem.F.type_tuple_index XR (ho hK) (iR (he hK) jJ hs) rfl (by rw[hs];rfl) hl hs) λσ H Q⟨μ,ρ,h,rs,s,oo⟩=>cT rs s oo λμ1 x h1 vx H1 x1 Ak s1 r1 o1=>by
  split at o1
  ·rename_i hl
   cases x with
   |tup xs=>
    obtain⟨a,vs,rfl,ea,ra⟩:=id r1;refine⟨⟨a,vs,rfl,ea⟩,cT Ak s1 o1 λμ2 d h2 vd H2 x2 Bu s2 r2 o2=>?_⟩
    cases d with
    |int k=>
     dsimp only[BR]at o2
     cases q:aW eX xs with
     |none=>rw[q]at o2;exact o2.elim
     |some ns=>
      rw[q]at o2;dsimp only at o2
      cases q2:fP k ns with
      |none=>rw[q2]at o2;exact o2.elim
      |some j=>rw[q2]at o2;obtain⟨a',Bh,e',ea',ra'⟩:=El x2 _ _ r1;cases e';rw[Ac]at r2;subst r2;exact⟨_,ns,k,j,rfl,rfl,by rw[ea',mO ra' q],q2,o2.val s2 rfl⟩
    |_=>exact o2.elim
   |_=>cases hl
  ·exact o1.elim
end
section
variable{k:Nat}{a b:ba}{ma mb mo:M Dv}{pos:Pos}
theorem XT(g:Good X G E k)(ha:aB X G E a ma)(hb:aB X G E b mb)(hm:lastMarks [.In] [b]=false:=by with_unfolding_all rfl):aB X G E (.Compare a [.In] [b] pos) (m2 (dM false) ma mb):=λhK=>sR (WB g.room.units) (by rw[hK];exact BP false) ha hb hm hK
theorem JH(g:Good X G E k)(ha:aB X G E a ma)(hb:aB X G E b mb)(hm:lastMarks [.NotIn] [b]=false:=by with_unfolding_all rfl):aB X G E (.Compare a [.NotIn] [b] pos) (m2 (dM true) ma mb):=λhK=>sR (IP g.room.units) (by rw[hK];exact BP true) ha hb hm hK
theorem BS(g:Good X G E k)(ha:aB X G E a ma)(hb:aB X G E b mb)(hm:lastMarks [.NotIn] [b]=false:=by with_unfolding_all rfl):fK X G E (.Compare a [.NotIn] [b] pos) (mB (m2 (dM true) ma mb)):=λhK=>sT (IP g.room.units) (by rw[hK];exact BP true) ha hb hm hK
end
theorem JI{H:Hs}{n:Nat}{xs:zw}(e:getL H n=some xs):n<H.length:=(av.mp (eL e)).1
theorem tO{H l:Hs}{n:Nat}{xs:zw}(e:getL H n=some xs):getL (H++l) n=some xs:=by unfold getL;rw[di (JI e),eL e]
structure Fr(S:zt)(H H':Hs):Prop where
 le:H.length<=H'.length
 at_:∀j,j<H.length->j∉S->H'[j]?=H[j]?
theorem Fr.refl{S:zt}{H:Hs}:Fr S H H:=⟨aq _,λ_ _ _=>rfl⟩
theorem Fr.trans{S T:zt}{H H1 H2:Hs}(a:Fr S H H1)(b:Fr T H1 H2)(h:∀j∈T,j∈S∨H.length<=j):Fr S H H2:=⟨cm a.le b.le,λj hj hS=>(b.at_ j (ar hj a.le) λz=>(h j z).elim hS λw=>absurd (ar hj w) (fe _)).trans (a.at_ j hj hS)⟩
theorem Fr.app{S:zt}{H l:Hs}:Fr S H (H++l):=⟨by simp,λj hj _=>di hj⟩
theorem Fr.getL{S:zt}{H H':Hs}{j:Nat}{xs:zw}(a:Fr S H H')(e:getL H j=some xs)(h:j∉S):getL H' j=some xs:=by unfold L2.Mr.getL at e⊢;rw[a.at_ j (JI e) h];exact e
theorem cF{m u:MS}{ρ ρ1:Ev}{h h1:Hs}(e:m ρ h=.nx ρ1 h1):aG m u ρ h=u ρ1 h1:=by unfold aG;rw[e]
theorem XU{mi:M Src}{st:cH}{b:MS}{ρ:Ev}{h h1:Hs}{src:Src}(e:mi ρ h=.ok src h1):kK mi st b ρ h=hO src st b src.n 0 ρ h1:=by unfold kK;rw[e];rfl
theorem BU{c:M Bool}{t u:MS}{ρ:Ev}{h h1:Hs}(e:c ρ h=.ok true h1):cA c t u ρ h=t ρ h1:=by unfold cA;rw[e];rfl
theorem nZ{c:M Bool}{t u:MS}{ρ:Ev}{h h1:Hs}(e:c ρ h=.ok false h1):cA c t u ρ h=u ρ h1:=by unfold cA;rw[e];rfl
theorem XW{src:Src}{sg:cH}{b:MS}{f k:Nat}{ρ ρ1 ρ2:Ev}{H H2:Hs}{d:Dv}(hg:src.get k H=some d)(hs:sg d ρ=some ρ1)(hb:b ρ1 H=.nx ρ2 H2):hO src sg b (f+1) k ρ H=hO src sg b f (k+1) ρ2 H2:=by simp[hO,hg,hs,hb]
theorem JJ{src:Src}{sg:cH}{b:MS}(P:Nat->Ev->Hs->Prop)(step:∀k ρ H,k<src.n->P k ρ H->∃d ρ1 ρ2 H2,src.get k H=some d/\sg d ρ=some ρ1/\b ρ1 H=.nx ρ2 H2/\P (k+1) ρ2 H2)(fin:∀ρ H,P src.n ρ H->src.fin H=true):∀(f k:Nat)(ρ:Ev)(H:Hs),f+k=src.n->P k ρ H->∃ρ' H',hO src sg b f k ρ H=.nx ρ' H'/\P src.n ρ' H'
 |0,k,ρ,H,h,p=>by
  have hk:k=src.n:=by lia
  subst hk;exact⟨ρ,H,by simp[hO,fin ρ H p],p⟩
 |f+1,k,ρ,H,h,p=>by obtain⟨d,ρ1,ρ2,H2,e1,e2,e3,p2⟩:=step k ρ H (by lia) p;rw[XW e1 e2 e3];exact JJ P step fin f (k+1) ρ2 H2 (by lia) p2
theorem JK{mi:M Src}{src:Src}{sg:cH}{b:MS}{ρ:Ev}{H H1:Hs}(hi:mi ρ H=.ok src H1)(P:Nat->Ev->Hs->Prop)(step:∀k ρ H,k<src.n->P k ρ H->∃d ρ1 ρ2 H2,src.get k H=some d/\sg d ρ=some ρ1/\b ρ1 H=.nx ρ2 H2/\P (k+1) ρ2 H2)(fin:∀ρ H,P src.n ρ H->src.fin H=true)(p:P 0 ρ H1):∃ρ' H',kK mi sg b ρ H=.nx ρ' H'/\P src.n ρ' H':=by
 rw[XU hi];exact JJ P step fin src.n 0 ρ H1 (by lia) p
theorem BV(k:Nat)(H:Hs):∀ns:zr,aW (cU (k+1) H) (ns.map Dz)=some (ns.map Ex)
 |[]=>rfl
 |n::ns=>by rw[fw,aW,BV k H ns];rfl
noncomputable def aQ(p:Int×Int):Dv:=.tup [.int p.1,.int p.2]
noncomputable def mQ(p:Int×Int):Dt:=.tup [.int p.1,.int p.2]
theorem JL(k:Nat)(H:Hs)(p:Int×Int):cU (k+2) H (aQ p)=some (mQ p):=rfl
theorem JM(k:Nat)(H:Hs):∀ps:wo,aW (cU (k+2) H) (ps.map aQ)=some (ps.map mQ)
 |[]=>rfl
 |p::ps=>by rw[fw,aW,JM k H ps,JL];rfl
theorem XX(p q:Int×Int):bH (mQ p) (mQ q)=decide (p=q):=by obtain⟨a,b⟩:=p;obtain⟨c,d⟩:=q;simp only[mQ,bH,jK,Bool.and_true];rw[ig];simp
theorem BW(neg:Bool)(H:Hs)(p:Int×Int)(ps:wo):dM neg (aQ p) (.tup (ps.map aQ)) H=.ok (.bl (if neg then !decide (p∈ps)else decide (p∈ps))) H:=by
 have e:(ps.map mQ).any (λt=>bH t (mQ p))=decide (p∈ps):=by
  rw[ig];simp only[ux,nq,vk,XX,decide_eq_true_eq];constructor
  ·rintro ⟨q,hq,rfl⟩;exact hq
  ·intro h;exact⟨p,h,rfl⟩
 have h1:aW (cU cY H) (ps.map aQ)=some (ps.map mQ):=JM 28 H ps;have h2:cU cY H (aQ p)=some (mQ p):=JL 28 H p;show lM [] neg (aQ p) (.tup (ps.map aQ)) H=_;simp only[lM,gX,h1,h2,e]
theorem JN(neg:Bool)(H:Hs)(x:Int)(ns:zr):dM neg (.int x) (.tup (ns.map Dz)) H=.ok (.bl (if neg then !decide (x∈ns)else decide (x∈ns))) H:=by
 have e:(ns.map Ex).any (λt=>bH t (.int x))=decide (x∈ns):=by
  rw[ig];simp only[ux,nq,vk,bH,decide_eq_true_eq,beq_iff_eq];constructor
  ·rintro ⟨q,hq,rfl⟩;exact hq
  ·intro h;exact⟨x,h,rfl⟩
 have h1:aW (cU cY H) (ns.map Dz)=some (ns.map Ex):=BV 29 H ns;have h2:cU cY H (.int x)=some (.int x):=rfl;show lM [] neg (.int x) (.tup (ns.map Dz)) H=_;simp only[lM,gX,h1,h2,e]
section
variable{elt tg iter By An:ba}{ifs A':List ba}{sc:dj}{ps px pos:Pos}{N:zu}{cap:List (Option Nat)}{mi mi':M Src}{st Ca:cH}{test B':M Bool}{me:M Dv}{i:Nat}{x:Str}
theorem XY(hN:X.N.Nodup)(hi':X.N[i]?=some x)(hc:X.calm=true)(C:Av X sc N cap)(hi:iJ X G E tg iter mi)(hg:∀s H ex,gZ (bK X sc N s H ex) G tg st)(Cb:∀s H ex,nO (bK X sc N s H ex) G ifs test)(hel:∀s H ex,aB (bK X sc N s H ex) G E0 elt me)(hx:X.env.scope.names.lookup x=some .local:=by rfl)(Cu:swapsWith (.ListComp elt [⟨tg,iter,ifs,0⟩] sc ps) (some (.Name x px)) pos.line X.env=pure true:=by rfl)(hs:∀x,foldedSetIterable iter X.env x=pure x:=by intro _;rfl):fL X G E (.Assign [.Name x px] (.ListComp elt [⟨tg,iter,ifs,0⟩] sc ps) pos) (aR (bE (bJ mi cap st test (bD me))) (aC i)):=λhK=>
 PS.imp (GZ Cu hN hi' hx hc C rfl (λit D env=>AM elt tg iter ifs sc ps (.ref it) D env) (hi hK) (λs H ex=>hg s H ex hK) (λs H ex=>Cb s H ex hK) (λs H ex D=>De.imp (sM (hel s H ex hK)) λ_ _ _ _ t=>wD t) hs) λD σ H⟨μ,ρ,h,rs,s,o⟩=>wH (wG (gY rs s o λμ1 d h1 v H1 x1 Ak s1 r1 o1=>o1 μ1 H1 _ Ej s1 (Ak.set i r1)))
theorem XZ(hN:X.N.Nodup)(hi1:X.N[i]?=some x)(hc:X.calm=true)(C:Av X sc N cap)(hi:iJ X G E tg iter mi)(hg:∀s H ex,gZ (bK X sc N s H ex) G tg st)(Cb:∀s H ex,nO (bK X sc N s H ex) G ifs test)(hi':∀s H ex,iJ (bK X sc N s H ex) G E0 By An mi')(Dc:∀s H ex,gZ (bK X sc N s H ex) G By Ca)(htt':∀s H ex,nO (bK X sc N s H ex) G A' B')(hel:∀s H ex,aB (bK X sc N s H ex) G E0 elt me)(hx:X.env.scope.names.lookup x=some .local:=by rfl)(Cu:swapsWith (.ListComp elt [⟨tg,iter,ifs,0⟩,⟨By,An,A',0⟩] sc ps) (some (.Name x px)) pos.line X.env=pure true:=by rfl)(hs:∀x,foldedSetIterable iter X.env x=pure x:=by intro _;rfl)(hs':∀s H ex x,foldedSetIterable An (bK X sc N s H ex).env x=pure x:=by intro _ _ _ _;rfl):
  fL X G E (.Assign [.Name x px] (.ListComp elt [⟨tg,iter,ifs,0⟩,⟨By,An,A',0⟩] sc ps) pos) (aR (bE (bJ mi cap st test (gE mi' Ca B' (bD me)))) (aC i)):=λhK=>
 PS.imp (GZ Cu hN hi1 hx hc C rfl (inner:=λD env=>qJ An (.ListComp elt [⟨tg,iter,ifs,0⟩,⟨By,An,A',0⟩] sc ps) 1 D env) (λit D env=>GS elt tg iter By An ifs A' sc ps (.ref it) D env) (hi hK) (λs H ex=>hg s H ex hK) (λs H ex=>Cb s H ex hK)
  (λs H ex D=>De.imp (GW (X:=bK X sc N s H ex) (D:=D) (gens:=[⟨tg,iter,ifs,0⟩,⟨By,An,A',0⟩]) (d:=1) rfl hc rfl (λit=>GU elt tg iter By An ifs A' sc ps (.ref it) D _) (hi' s H ex hK) (Dc s H ex hK) (htt' s H ex hK) (De.imp (sM (hel s H ex hK)) λ_ _ _ _ t=>wD t) (hs' s H ex)) λ_ _ _ _ t=>HK t) hs) λD σ H⟨μ,ρ,h,rs,s,o⟩=>
  wH (wG (gY rs s o λμ1 d h1 v H1 x1 Ak s1 r1 o1=>o1 μ1 H1 _ Ej s1 (Ak.set i r1)))
end
end L2.Mr
open L2.Mr.Fr renaming app->Ec,refl->Es
namespace SoM
open PySem PySem.W PyProof.Rows
variable{n:Nat}{f:Nat->Nat}{s:ag}
noncomputable def mR(n:Nat)(f:Nat->Nat)(i j:Nat)(C:Bool->ag->Prop)(s:ag):Prop:=i<n/\j<n/\C (decide (f i<f j)) s
noncomputable def F(f:Nat->Nat)(p:Array Nat)(k:Nat):Nat:=f (p.getD k 0)
noncomputable def Ent(n:Nat)(p:Array Nat):Prop:=p.size=n/\p.toList.Perm (cf n)
theorem Ent.lt{p:Array Nat}(e:Ent n p)(hn:0<n)(k:Nat):p.getD k 0<n:=by
 by_cases h:k<p.size
 ·have:p.getD k 0=p[k]:=by simp[wg,h]
  rw[this];have hm:p[k]∈p.toList:=by simp
  exact du.mp (e.2.mem_iff.mp hm)
 ·have:p.getD k 0=0:=by simp[wg,h]
  lia
theorem tP{p q:Array Nat}{i j:Nat}(h:p[i]?=q[j]?):F f p i=F f q j:=by unfold F;simp only[Array.getD_eq_getD_getElem?,h]
theorem Ent.mirror{p:Array Nat}(e:Ent n p)(i j d:Nat):Ent n (mirror p i j d):=⟨(mirror_size ..).trans e.1,((wj.mp (mirror_perm p i j d))).trans e.2⟩
theorem Ent.bubble{p:Array Nat}(e:Ent n p)(k d:Nat):Ent n (bubble p k d):=⟨(bubble_size ..).trans e.1,((wj.mp (bubble_perm p k d))).trans e.2⟩
theorem Ent.rev{p:Array Nat}(e:Ent n p)(i j:Nat):Ent n (kas_rev p i j):=e.mirror _ _ _
theorem tQ{p:Array Nat}{i j:Nat}(hj:j<=p.size)(k:Nat):F f (kas_rev p i j) k=if i<=k/\k<j then F f p (i+j-1-k)else F f p k:=by
 have e:=getElem?_mirror_all (i:=i) hj k
 by_cases h:i<=k/\k<j
 ·rw[if_pos h]at e⊢;exact tP e
 ·rw[if_neg h]at e⊢;exact tP e
theorem JO{p:Array Nat}{k d:Nat}(hs:k<p.size)(hd:d<=k)(i:Nat):F f (bubble p k d) i=if i=k-d then F f p k else if k-d<i/\i<=k then F f p (i-1)else F f p i:=by
 have e:=getElem?_bubble hs d hd i
 by_cases h1:i=k-d
 ·rw[if_pos h1]at e⊢;exact tP e
 ·rw[if_neg h1]at e⊢
  by_cases h2:k-d<i/\i<=k
  ·rw[if_pos h2]at e⊢;exact tP e
  ·rw[if_neg h2]at e⊢;exact tP e
def Inc(f:Nat->Nat)(p:Array Nat)(m:Nat):Prop:=∀i j,i<=j->j<m->F f p i<=F f p j
def Dec(f:Nat->Nat)(p:Array Nat)(m:Nat):Prop:=∀i j,i<=j->j<m->F f p j<=F f p i
theorem Inc.succ{p:Array Nat}{m:Nat}(h:Inc f p m)(hm:1<=m)(h1:F f p (m-1)<=F f p m):Inc f p (m+1):=by
 intro i j Br hj
 by_cases q:j=m
 ·subst q
  by_cases r:i=j
  ·subst r;exact aq _
  ·exact cm (h i (j-1) (by lia) (by lia)) h1
 ·exact h i j Br (by lia)
theorem Dec.succ{p:Array Nat}{m:Nat}(h:Dec f p m)(hm:1<=m)(h1:F f p m<=F f p (m-1)):Dec f p (m+1):=by
 intro i j Br hj
 by_cases q:j=m
 ·subst q
  by_cases r:i=j
  ·subst r;exact aq _
  ·exact cm h1 (h i (j-1) (by lia) (by lia))
 ·exact h i j Br (by lia)
theorem BX{p:Array Nat}(e:Ent n p)(hn:0<n){Q:Nat->ag->Prop}:∀(fu m:Nat)(s:ag),1<=m->Inc f p m->
  (∀m',m<=m'->m'<=m+fu->Inc f p m'->(m'=m+fu∨F f p m'<F f p (m'-1))->Q m' s)->(kas_asc p fu m).kasWp (mR n f) Q s
 |0,m,s,h1,hi,h=>h m (aq _) (aq _) hi (.inl rfl)
 |fu+1,m,s,h1,hi,h=>by
  refine⟨e.lt hn _,e.lt hn _,?_⟩
  by_cases c:f (p.getD m 0)<f (p.getD (m-1) 0)
  ·rw[decide_eq_true c];exact h m (aq _) (by lia) hi (.inr c)
  ·rw[decide_eq_false c];refine BX e hn fu (m+1) s (by lia) (hi.succ h1 (Nat.le_of_not_lt c)) λm' a b c d=>h m' (by lia) (by lia) c ?_
   rcases d with d|d
   ·exact .inl (by lia)
   ·exact .inr d
theorem xB(hn:0<n){Q:Array Nat×Nat×Nat->ag->Prop}:∀(fu m q:Nat)(p:Array Nat)(s:ag),Ent n p->q+1<=m->m+fu<=n->Dec f p m->(∀k,m-1-q<=k->k<m->F f p k=F f p (m-1))->
  (∀p' m' q',Ent n p'->q'+1<=m'->m<=m'->m'<=m+fu->Dec f p' m'->(∀k,m'-1-q'<=k->k<m'->F f p' k=F f p' (m'-1))->Q (p',m',q') s)->(kas_desc fu p m q).kasWp (mR n f) Q s
 |0,m,q,p,s,e,h1,h2,hd,he,h=>h p m q e h1 (aq _) (aq _) hd he
 |fu+1,m,q,p,s,e,h1,h2,hd,he,h=>by
  refine⟨e.lt hn _,e.lt hn _,?_⟩
  by_cases c:f (p.getD m 0)<f (p.getD (m-1) 0)
  ·have c':F f p m<F f p (m-1):=c;rw[decide_eq_true c];show KasT.kasWp _ (if true=true then(if q>0 then _ else _)else _) _ _;rw[if_pos rfl]
   by_cases hq:q>0
   ·rw[if_pos hq];have hsz:m<=p.size:=by rw[e.1];lia
    have hF:∀k,F f (kas_rev p (m-(q+1)) m) k=F f p k:=by
     intro k;rw[tQ hsz]
     split
     ·rw[he _ (by lia) (by lia),he k (by lia) (by lia)]
     ·rfl
    have hd':Dec f (kas_rev p (m-(q+1)) m) (m+1):=by intro i j Br hj;rw[hF,hF];exact hd.succ (by lia) (ij c') i j Br hj
    refine xB hn fu (m+1) 0 _ s (e.rev _ _) (by lia) (by lia) hd' ?_ λp' m' q' a b c d=>h p' m' q' a b (by lia) (by lia);intro k k1 k2;have:k=m:=by lia
    subst this;rfl
   ·rw[if_neg hq];refine xB hn fu (m+1) 0 _ s e (by lia) (by lia) (hd.succ (by lia) (ij c')) ?_ λp' m' q' a b c d=>h p' m' q' a b (by lia) (by lia);intro k k1 k2;have:k=m:=by lia
    subst this;rfl
  ·have c':¬F f p m<F f p (m-1):=c;rw[decide_eq_false c];show KasT.kasWp _ (if false=true then _ else KasT.ask _ _ _) _ _;rw[if_neg (by simp)];refine⟨e.lt hn _,e.lt hn _,?_⟩
   by_cases c2:f (p.getD (m-1) 0)<f (p.getD m 0)
   ·rw[decide_eq_true c2];exact h p m q e h1 (aq _) (by lia) hd he
   ·have c2':¬F f p (m-1)<F f p m:=c2;rw[decide_eq_false c2];have eq:F f p m=F f p (m-1):=by lia
    refine xB hn fu (m+1) (q+1) _ s e (by lia) (by lia) (hd.succ (by lia) (by lia)) ?_ λp' m' q' a b c d=>h p' m' q' a b (by lia) (by lia);intro k k1 k2;show F f p k=F f p m
    by_cases r:k=m
    ·subst r;rfl
    ·rw[eq];exact he k (by lia) (by lia)
theorem Dec.rev{p:Array Nat}{m:Nat}(hm:m<=p.size)(h:Dec f p m):Inc f (kas_rev p 0 m) m:=by intro i j Br hj;rw[tQ hm,tQ hm,if_pos ⟨ja _,by lia⟩,if_pos ⟨ja _,hj⟩];exact h _ _ (by lia) (by lia)
theorem JP(hn:0<n){p:Array Nat}{m:Nat}{Q:Nat×Array Nat->ag->Prop}(e:Ent n p)(h1:1<=m)(h2:m<=n)(hd:Dec f p m)(h:∀m' p',Ent n p'->1<=m'->m'<=n->Inc f p' m'->Q (m',p') s):(kas_tail3 m n p).kasWp (mR n f) Q s:=by
 unfold kas_tail3;rw[KasT.kasWp_bind];refine BX (e.rev 0 m) hn (n-m) m s h1 (hd.rev (by rw[e.1];exact h2)) λm' a b c _=>?_;exact h m' _ (e.rev 0 m) (by lia) (by lia) c
theorem JQ(hn:0<n){p:Array Nat}{m:Nat}{Q:Nat×Array Nat->ag->Prop}(e:Ent n p)(h2:m+1<=n)(hd:Dec f p (m+1))(h:∀m' p',Ent n p'->1<=m'->m'<=n->Inc f p' m'->Q (m',p') s):(kas_descPart m n p).kasWp (mR n f) Q s:=by
 unfold kas_descPart;rw[KasT.kasWp_bind];refine xB hn (n-(m+1)) (m+1) 0 p s e (by lia) (by lia) hd (λk k1 k2=>by (have:k=m:=by lia);subst this;rfl) λp' m' q' e' a b c d eq=>?_;show KasT.kasWp _ (if q'>0 then _ else _) _ _
 by_cases hq:q'>0
 ·rw[if_pos hq];have hsz:m'<=p'.size:=by rw[e'.1];lia
  have hF:∀k,F f (kas_rev p' (m'-(q'+1)) m') k=F f p' k:=by
   intro k;rw[tQ hsz]
   split
   ·rw[eq _ (by lia) (by lia),eq k (by lia) (by lia)]
   ·rfl
  refine JP hn (e'.rev _ _) (show 1<=m' by lia) (show m'<=n by lia) ?_ h;intro i j Br hj;rw[hF,hF];exact d i j Br hj
 ·rw[if_neg hq];exact JP hn e' (show 1<=m' by lia) (show m'<=n by lia) d h
theorem X0(hn:1<=n){p:Array Nat}{Q:Nat×Array Nat->ag->Prop}(e:Ent n p)(h:∀m' p',Ent n p'->1<=m'->m'<=n->Inc f p' m'->Q (m',p') s):(kas_count n p).kasWp (mR n f) Q s:=by
 unfold kas_count;rw[KasT.kasWp_bind];refine BX e (by lia) (n-1) 1 s (aq _) (λi j Br hj=>by (have:i=j:=by lia);subst this;exact aq _) λm a b c d=>?_;show KasT.kasWp _ (if(m==n)=true then _ else if m>1 then _ else _) _ _
 by_cases q:m=n
 ·rw[if_pos (beq_iff_eq.mpr q)];exact h m p e (by lia) (by lia) c
 ·rw[if_neg (by intro z;exact q (beq_iff_eq.mp z))];have hlt:F f p m<F f p (m-1):=by
   rcases d with d|d
   ·lia
   ·exact d
  by_cases q1:m>1
  ·rw[if_pos q1];refine⟨e.lt (by lia) _,e.lt (by lia) _,?_⟩
   by_cases c2:f (p.getD 0 0)<f (p.getD (m-1) 0)
   ·rw[decide_eq_true c2];exact h m p e (by lia) (by lia) c
   ·have c2':¬F f p 0<F f p (m-1):=c2;rw[decide_eq_false c2];have hsz:m<=p.size:=by rw[e.1];lia
    have eq:∀k,k<m->F f p k=F f p 0:=by
     intro k hk;have:=c 0 k (by lia) hk;have:=c k (m-1) (by lia) (by lia)
     lia
    have hF:∀k,F f (kas_rev p 0 m) k=F f p k:=by
     intro k;rw[tQ hsz]
     split
     ·rw[eq _ (by lia),eq k (by lia)]
     ·rfl
    refine JQ (by lia) (e.rev _ _) (by lia) ?_ h;intro i j Br hj;rw[hF,hF]
    by_cases r:j=m
    ·subst r
     by_cases r2:i=j
     ·subst r2;exact aq _
     ·have:=eq i (by lia);have:=eq (j-1) (by lia)
      lia
    ·rw[eq i (by lia),eq j (by lia)];exact aq _
  ·rw[if_neg q1];have:m=1:=by lia
   subst this;refine JQ (by lia) e (by lia) ?_ h;intro i j Br hj
   by_cases r:i=j
   ·subst r;exact aq _
   ·have h1:i=0:=by lia
    have h2:j=1:=by lia
    subst h1;subst h2;exact ij hlt
theorem BY{p:Array Nat}(e:Ent n p)(hn:0<n){k:Nat}(hi:Inc f p k){Q:Nat->ag->Prop}:∀(fu l r:Nat)(s:ag),r-l<=fu->l<=r->r<=k->
  (∀i,i<l->F f p i<=F f p k)->(∀i,r<=i->i<k->F f p k<F f p i)->
  (∀l',l'<=k->(∀i,i<l'->F f p i<=F f p k)->(∀i,l'<=i->i<k->F f p k<F f p i)->Q l' s)->(kas_place p k fu l r).kasWp (mR n f) Q s
 |0,l,r,s,h1,h2,h3,ha,hb,h=>by
  have:l=r:=by lia
  subst this;exact h l h3 ha hb
 |fu+1,l,r,s,h1,h2,h3,ha,hb,h=>by
  unfold kas_place
  by_cases q:l>=r
  ·rw[if_pos q];have:l=r:=by lia
   subst this;exact h l h3 ha hb
  ·rw[if_neg q];refine⟨e.lt hn _,e.lt hn _,?_⟩
   by_cases c:f (p.getD k 0)<f (p.getD ((l+r)/2) 0)
   ·have c':F f p k<F f p ((l+r)/2):=c;rw[decide_eq_true c];refine BY e hn hi fu l ((l+r)/2) s (by lia) (by lia) (by lia) ha ?_ h;intro i i1 i2;have:=hi ((l+r)/2) i i1 i2
    lia
   ·have c':¬F f p k<F f p ((l+r)/2):=c;rw[decide_eq_false c];refine BY e hn hi fu ((l+r)/2+1) r s (by lia) (by lia) (by lia) ?_ hb h;intro i i1;have:=hi i ((l+r)/2) (by lia) (by lia)
    lia
theorem JR(hn:0<n){Q:Array Nat->ag->Prop}:∀(fu k:Nat)(p:Array Nat)(s:ag),Ent n p->k+fu<=n->Inc f p k->(∀p',Ent n p'->Inc f p' (k+fu)->Q p' s)->(kas_bin fu p k).kasWp (mR n f) Q s
 |0,k,p,s,e,h1,hi,h=>h p e hi
 |fu+1,k,p,s,e,h1,hi,h=>by
  unfold kas_bin;rw[KasT.kasWp_bind];refine BY e hn hi k 0 k s (by lia) (by lia) (aq _) (λi hi=>absurd hi (by lia)) (λi a b=>absurd b (by lia)) λl hl ha hb=>?_;have hsz:k<p.size:=by rw[e.1];lia
  refine JR hn fu (k+1) _ s (e.bubble _ _) (by lia) ?_ λp' e' i'=>h p' e' (by rw[show k+(fu+1)=k+1+fu by lia];exact i');intro i j Br hj;rw[JO hsz (by lia),JO hsz (by lia)];have hkl:k-(k-l)=l:=by lia
  rw[hkl]
  by_cases i1:i=l
  ·rw[if_pos i1]
   by_cases j1:j=l
   ·rw[if_pos j1];exact aq _
   ·rw[if_neg j1,if_pos (by lia)];exact ij (hb (j-1) (by lia) (by lia))
  ·rw[if_neg i1]
   by_cases i2:l<i/\i<=k
   ·rw[if_pos i2,if_neg (by lia),if_pos (by lia)];exact hi (i-1) (j-1) (by lia) (by lia)
   ·rw[if_neg i2]
    by_cases j1:j=l
    ·rw[if_pos j1];exact ha i (by lia)
    ·rw[if_neg j1]
     by_cases j2:l<j/\j<=k
     ·rw[if_pos j2];exact hi i (j-1) (by lia) (by lia)
     ·rw[if_neg j2];exact hi i j Br (by lia)
theorem X1(hn:1<=n){Q:Array Nat->ag->Prop}(h:∀p,Ent n p->Inc f p n->Q p s):(kas_sort n).kasWp (mR n f) Q s:=by
 unfold kas_sort;rw[KasT.kasWp_bind];refine X0 hn ⟨by simp,by simp⟩ λm p e h1 h2 hi=>?_;show KasT.kasWp _ (if m<n then _ else _) _ _
 by_cases q:m<n
 ·rw[if_pos q];have:max m 1=m:=by lia
  rw[this];refine JR (by lia) (n-m) m p s e (by lia) hi λp' e' i'=>h p' e' ?_;rw[show m+(n-m)=n by lia]at i';exact i'
 ·rw[if_neg q];have:m=n:=by lia
  subst this;exact h p e hi
theorem JS{α:Type}{cmp:Nat->Nat->(Bool->ag->Prop)->ag->Prop}{I:ag->Prop}(hc:∀i j C s,I s->i<n->j<n->(∀s',I s'->C (decide (f i<f j)) s')->cmp i j C s):
  ∀(t:KasT α)(Q:α->Prop)(Q':α->ag->Prop)(s₀ s:ag),t.kasWp (mR n f) (λa _=>Q a) s₀->I s->(∀a s',Q a->I s'->Q' a s')->t.kasWp cmp Q' s
 |.ret a,Q,Q',s₀,s,h,hi,k=>k a s h hi
 |.ask i j c,Q,Q',s₀,s,h,hi,k=>hc i j _ s hi h.1 h.2.1 λs' hi'=>JS hc (c _) Q Q' s₀ s' h.2.2 hi' k
end SoM
namespace L2
structure Ds{α:Type}(lt:α->α->Bool):Prop where
 irr:∀x,lt x x=false
 tr:∀x y z,lt x y=true->lt y z=true->lt x z=true
 tot:∀x y,lt x y=false->lt y x=false->x=y
section
variable{α:Type}{lt:α->α->Bool}
theorem Ds.asy(o:Ds lt){x y:α}(h:lt x y=true):lt y x=false:=by
 cases q:lt y x with
 |false=>rfl
 |true=>have:=o.tr x y x h q;rw[o.irr]at this;cases this
theorem Ds.lt_le(o:Ds lt){x y z:α}(h:lt x y=true)(h2:lt z y=false):lt x z=true:=by
 cases q:lt y z with
 |true=>exact o.tr x y z h q
 |false=>rw[<-o.tot y z q h2];exact h
theorem Ds.le_tr(o:Ds lt){x y z:α}(h:lt y x=false)(h2:lt z y=false):lt z x=false:=by
 cases q:lt z x with
 |false=>rfl
 |true=>have:=o.lt_le q h;rw[h2]at this;cases this
noncomputable def pS(lt:α->α->Bool)(x:α):List α->List α
 |[]=>[x]
 |y::r=>if lt y x then y::pS lt x r else x::y::r
def oA(lt:α->α->Bool):List α->List α
 |[]=>[]
 |x::r=>pS lt x (oA lt r)
theorem BZ(x:α):∀l,(pS lt x l).Perm (x::l)
 |[]=>.refl _
 |y::r=>by
  unfold pS
  split
  ·exact((BZ x r).cons y).trans (List.Perm.swap ..)
  ·exact .refl _
theorem CA:∀l,(oA lt l).Perm l
 |[]=>.refl _
 |x::r=>(BZ x _).trans ((CA r).cons x)
abbrev iW(lt:α->α->Bool)(l:List α):Prop:=l.Pairwise λa b=>lt b a=false
abbrev oB(lt:α->α->Bool)(l:List α):Prop:=l.Pairwise λa b=>lt a b=true
theorem JT(o:Ds lt)(x:α):∀l,iW lt l->iW lt (pS lt x l)
 |[],_=>by simp[pS,iW]
 |y::r,h=>by
  have h1:=je.mp h;unfold pS
  split
  ·rename_i q;refine je.mpr ⟨λz hz=>?_,JT o x r h1.2⟩
   rcases bh.mp ((BZ x r).mem_iff.mp hz)with rfl|hz
   ·exact o.asy q
   ·exact h1.1 z hz
  ·rename_i q;have q':lt y x=false:=by simpa using q
   refine je.mpr ⟨λz hz=>?_,h⟩
   rcases bh.mp hz with rfl|hz
   ·exact q'
   ·exact o.le_tr q' (h1.1 z hz)
theorem JU(o:Ds lt):∀l,iW lt (oA lt l)
 |[]=>wu
 |x::r=>JT o x _ (JU o r)
theorem JV(o:Ds lt):∀{l l':List α},iW lt l->iW lt l'->l.Perm l'->l=l'
 |[],l',_,_,p=>(List.nil_perm.mp p).symm
 |x::r,[],_,_,p=>by simp at p
 |x::r,y::r',h,h',p=>by
  have h1:=je.mp h;have h2:=je.mp h';have e:x=y:=by
   refine o.tot x y ?_ ?_
   ·rcases bh.mp (p.mem_iff.mp (bo ..))with e|e
    ·rw[e];exact o.irr y
    ·exact h2.1 x e
   ·rcases bh.mp (p.mem_iff.mpr (bo ..))with e|e
    ·rw[e];exact o.irr x
    ·exact h1.1 y e
  subst e;rw[JV o h1.2 h2.2 (List.Perm.cons_inv p)]
theorem X2(o:Ds lt){l l':List α}(h:iW lt l')(p:l'.Perm l):l'=oA lt l:=JV o h (JU o l) (p.trans (CA l).symm)
theorem X3(o:Ds lt){l:List α}(h:oB lt l):l.Nodup:=h.imp λ{a b}h e=>by rw[e,o.irr]at h;cases h
noncomputable def rk(lt:α->α->Bool)(ks:List α)(x:α):Nat:=ks.countP λy=>lt y x
theorem CB{p q:α->Bool}:∀(l:List α),(∀y,p y=true->q y=true)->l.countP p<=l.countP q
 |[],_=>aq _
 |y::r,h=>by
  have:=CB r h;rw[rp,rp]
  cases hp:p y with
  |true=>rw[h y hp];simp;lia
  |false=>cases q y<;>simp<;>lia
theorem JW{p q:α->Bool}:∀(l:List α),(∀y,p y=true->q y=true)->∀x,x∈l->q x=true->p x=false->l.countP p<l.countP q
 |[],_,x,hx,_,_=>by simp at hx
 |y::r,h,x,hx,h1,h2=>by
  rw[rp,rp]
  rcases bh.mp hx with rfl|hx
  ·have:=CB r h;rw[h1,h2];simp;lia
  ·have:=JW r h x hx h1 h2
   cases hp:p y with
   |true=>rw[h y hp];simp;lia
   |false=>cases q y<;>simp<;>lia
theorem JX(o:Ds lt){ks:List α}{x z:α}(hx:x∈ks):decide (rk lt ks x<rk lt ks z)=lt x z:=by
 cases q:lt x z with
 |true=>exact decide_eq_true (JW ks (λy h=>o.tr y x z h q) x hx q (o.irr x))
 |false=>exact decide_eq_false (Nat.not_lt.mpr (CB ks λy h=>o.lt_le h q))
theorem X4(o:Ds lt){ks:List α}{x z:α}(hz:z∈ks)(h:rk lt ks x<=rk lt ks z):lt z x=false:=by rw[<-JX o hz];exact decide_eq_false (Nat.not_lt.mpr h)
end
noncomputable def dX:zr->zr->Bool
 |[],[]=>false
 |[],_::_=>true
 |_::_,[]=>false
 |a::x,b::y=>if a==b then dX x y else decide (a<b)
theorem stoL:Ds dX:=by
 refine⟨λx=>?_,λx=>?_,λx=>?_⟩
 ·induction x with
  |nil=>rfl
  |cons a x ih=>simp[dX,ih]
 ·induction x with
  |nil=>
   intro y z h1 h2
   cases z with
   |nil=>cases y with
    |nil=>exact h1
    |cons b y=>cases h2
   |cons c z=>rfl
  |cons a x ih=>
   intro y z h1 h2
   cases y with
   |nil=>cases h1
   |cons b y=>
    cases z with
    |nil=>cases h2
    |cons c z=>
     simp only[dX,beq_iff_eq]at h1 h2⊢
     by_cases e1:a=b<;>by_cases e2:b=c
     ·rw[if_pos e1]at h1;rw[if_pos e2]at h2;rw[if_pos (e1.trans e2)];exact ih y z h1 h2
     ·rw[if_neg e2]at h2;rw[if_neg (by rw[e1];exact e2)];rw[e1];exact h2
     ·rw[if_neg e1]at h1;rw[if_neg (by rw[<-e2];exact e1)];rw[<-e2];exact h1
     ·rw[if_neg e1]at h1;rw[if_neg e2]at h2;simp only[decide_eq_true_eq]at h1 h2;rw[if_neg (by lia)];simp;lia
 ·induction x with
  |nil=>
   intro y h1 h2
   cases y with
   |nil=>rfl
   |cons b y=>cases h1
  |cons a x ih=>
   intro y h1 h2
   cases y with
   |nil=>cases h2
   |cons b y=>
    simp only[dX,beq_iff_eq]at h1 h2
    by_cases e:a=b
    ·subst e;rw[if_pos rfl]at h1 h2;rw[ih y h1 h2]
    ·rw[if_neg e]at h1;rw[if_neg (cp e)]at h2;simp at h1 h2;lia
noncomputable def kP(p q:Int×Int):Bool:=if p.1==q.1 then decide (p.2<q.2)else decide (p.1<q.1)
noncomputable def rB(p:Int×Int):zr:=[p.1,p.2]
theorem xC(p q:Int×Int):dX (rB p) (rB q)=kP p q:=by
 unfold kP rB dX
 split
 ·unfold dX
  split
  ·rename_i h;simp at h;simp[dX,h]
  ·rfl
 ·rfl
theorem X5{p q:Int×Int}(h:rB p=rB q):p=q:=by obtain⟨a,b⟩:=p;obtain⟨c,d⟩:=q;simp[rB]at h;rw[h.1,h.2]
theorem stoP:Ds kP:=⟨λx=>by rw[<-xC];exact stoL.irr _,λx y z h1 h2=>by rw[<-xC]at *;exact stoL.tr _ _ _ h1 h2,λx y h1 h2=>by rw[<-xC]at *;exact X5 (stoL.tot _ _ h1 h2)⟩
end L2
namespace SM
open PySem PySem.SetTable
end SM
namespace SR
variable{prog:bg}{w:bu}{A:bq}{E:af->ag->Prop}{s:ag}
open SM
theorem X6{prog:bg}{w:bu}{h h':bx}{ks:zr}{a:ah}(x:rj (intKind prog w) h ks a)(k:∀o,h.get? a=some o->h'.get? a=some o):rj (intKind prog w) h' ks a:=by obtain⟨o,items,n,ho,r⟩:=x;exact⟨o,items,n,k o ho,r⟩
open PySem.W SoM L2
section
theorem JY{fin:Bool}{Q:Bool->ag->Prop}:∀{kx ky:zr}{vx vy:List af}(i:Nat),ItemsAre (intKind prog w) kx vx->ItemsAre (intKind prog w) ky vy->fin=decide (vx.length<vy.length)->Q (dX kx ky) s->KatLex prog w A true fin Q (vx.zip vy) i s
 |_,_,_,_,i,.nil,.nil,hf,h=>by subst hf;exact kat_nil h
 |_,_,_,_,i,.nil,.cons _ _,hf,h=>by subst hf;refine kat_nil ?_;rw[decide_eq_true (by simp)];exact h
 |_,_,_,_,i,.cons _ _,.nil,hf,h=>by subst hf;refine kat_nil ?_;rw[decide_eq_false (by simp)];exact h
 |_,_,_,_,i,.cons (k:=a) hu hx,.cons (k:=b) hv hy,hf,h=>by
  obtain⟨t,rfl⟩:=ql hu;obtain⟨t',rfl⟩:=ql hv;refine kat_cons (wz (kat_go (λe=>?_) λe=>?_))
  ·refine kat_yes (JY (i+1) hx hy (hf.trans (by simp)) ?_);rw[dX,if_pos e]at h;exact h
  ·have h':Q (decide (a<b)) s:=by rw[dX,if_neg (by rw[e];simp)]at h;exact h
   refine kat_no ?_
   cases q:i==0 with
   |true=>exact oneLt_int h'
   |false=>exact kat_one _ _ (vt h')
theorem X7{x y:ah}{kx ky:zr}{Q:Bool->ag->Prop}(hx:rj (intKind prog w) s.heap kx x)(hy:rj (intKind prog w) s.heap ky y)(h:Q (dX kx ky) s):wpAny (model prog w) A (keyLt' (tuples' true) (.ref x) (.ref y)) Q E s:=by obtain⟨ox,ix,nx,e1,_,d1,i1⟩:=hx;obtain⟨oy,iy,ny,e2,_,d2,i2⟩:=hy;exact kat_lt e1 d1 e2 d2 (JY 0 i1 i2 (by simp) h)
noncomputable def Bo(prog:bg)(w:bu)(h:bx)(n:Nat)(ad:Nat->ah)(ky:Nat->zr):Prop:=∀i,i<n->rj (intKind prog w) h (ky i) (ad i)/\ky i≠[]
noncomputable def cR(n:Nat)(ad:Nat->ah):List af:=(cf n).map λi=>.ref (ad i)
theorem pT(n:Nat)(ad:Nat->ah):(cR n ad).length=n:=by simp[cR]
theorem CC{n:Nat}{ad:Nat->ah}{i:Nat}(h:i<n):(cR n ad).getD i jm=.ref (ad i):=by simp[cR,h]
theorem JZ:∀(l:zt){ad:Nat->ah}{ky:Nat->zr},(∀i∈l,rj (intKind prog w) s.heap (ky i) (ad i)/\ky i≠[])->∃fs:List af,KatTups s.heap (l.map λi=>.ref (ad i)) fs/\fs.length=l.length/\∀v∈fs,∃a t,v=.int a t
 |[],_,_,_=>⟨[],trivial,rfl,by simp⟩
 |i::l,ad,ky,h=>by
  obtain⟨fs,t,hl,hv⟩:=JZ l (ad:=ad) (ky:=ky) λj hj=>h j (az _ hj);obtain⟨⟨o,its,n,e,c,d,r⟩,ne⟩:=h i (bo ..)
  cases q:its.toList with
  |nil=>rw[q]at r;cases hk:ky i with
   |nil=>exact absurd hk ne
   |cons a b=>rw[hk]at r;cases r
  |cons v vs=>
   rw[q]at r
   cases hk:ky i with
   |nil=>exact absurd hk ne
   |cons a b=>
    rw[hk]at r
    cases r with
    |cons hu _=>
     obtain⟨tk,rfl⟩:=ql hu;refine⟨.int a tk::fs,KatTups.cons e c d (by rw[<-nh,q];rfl) t,by simp[hl],λv hv'=>?_⟩
     rcases bh.mp hv' with rfl|hv'
     ·exact⟨_,_,rfl⟩
     ·exact hv v hv'
theorem X8{n:Nat}{ad:Nat->ah}{ky:Nat->zr}{G:Array Nat->ag->Prop}(h2:2<=n)(hk:Bo prog w s.heap n ad ky)(h:∀p,Ent n p->iW dX (p.toList.map ky)->G p s):
  wpAny (model prog w) A (keyKind' (cR n ad).toArray) (λκ s'=>(kas_sort (cR n ad).length).kasWp (kas_ask prog w A κ (cR n ad)) G s') (λ_ _=>False) s:=by
 obtain⟨fs,t,hl,hv⟩:=JZ (prog:=prog) (w:=w) (s:=s) (cf n) (ad:=ad) (ky:=ky) λi hi=>hk i (du.mp hi);refine kat_kind (T:=.type "int") t (by rw[hl,uy];lia) (λv hv'=>?_) (by decide) ?_
 ·obtain⟨a,tk,rfl⟩:=hv v hv';exact .now
 ·rw[pT]
  let ks:=(cf n).map ky
  have mem:∀i,i<n->ky i∈ks:=λi hi=>gu.mpr ⟨i,du.mpr hi,rfl⟩;refine JS (n:=n) (f:=λi=>rk dX ks (ky i)) (I:=λs'=>s'=s) (λi j C s' hs hi hj hC=>?_) (kas_sort n) (λp=>Ent n p/\iW dX (p.toList.map ky)) G s s (X1 (by lia) λp e inc=>⟨e,?_⟩) rfl λp s' hp hs=>by subst hs;exact h p hp.1 hp.2
  ·subst hs;show wpAny (model prog w) A (keyLt' (tuples' true) ((cR n ad).getD i jm) ((cR n ad).getD j jm)) C (λ_ _=>False) s';rw[CC hi,CC hj];refine X7 (hk i hi).1 (hk j hj).1 ?_;have:=hC s' rfl;rwa [JX stoL (mem i hi)]at this
  ·refine xg.mpr λi j hi hj Br=>?_;have hj':j<p.size:=by simpa using hj
   have hi':i<p.size:=by lia
   have z:=inc i j (ij Br) (by rw[<-e.1];exact hj');unfold SoM.F at z;have ei:p.getD i 0=p[i]:=by simp[wg,hi']
   have ej:p.getD j 0=p[j]:=by simp[wg,hj']
   rw[ei,ej]at z;have lt:∀k(hk:k<p.size),p[k]<n:=λk hk=>du.mp (e.2.mem_iff.mp (by simp));have:=X4 stoL (mem _ (lt j hj')) z;simpa using this
end
section
abbrev xD(h h':bx):Prop:=∀b o,h.get? b=some o->h'.get? b=some o
def Bw(n:Nat)(ad:Nat->ah)(ky:Nat->zr)(out:List af):Prop:=∃p:zt,p.Perm (cf n)/\iW dX (p.map ky)/\out=p.map λi=>.ref (ad i)
theorem Bw.len{n:Nat}{ad:Nat->ah}{ky:Nat->zr}{out:List af}(h:Bw n ad ky out):out.length=n:=by obtain⟨p,pp,_,e⟩:=h;rw[e,cg,pp.length_eq,uy]
theorem Bo.keep{h h':bx}{n:Nat}{ad:Nat->ah}{ky:Nat->zr}(k:Bo prog w h n ad ky)(g:∀i,i<n->∀o,h.get? (ad i)=some o->h'.get? (ad i)=some o):Bo prog w h' n ad ky:=λi hi=>⟨X6 (k i hi).1 (g i hi),(k i hi).2⟩
theorem X9{a:ah}{n c:Nat}{ad:Nat->ah}{ky:Nat->zr}{P:Fin->ag->Prop}(ho:s.heap.get? a=some (seqObj "list" (cR n ad).toArray c))(h64:n<64)(hk:Bo prog w s.heap n ad ky)(q:∀h' e out,Bw n ad ky out->h'.get? a=some (seqObj "list" out.toArray e)->(∀b o,b≠a->s.heap.get? b=some o->h'.get? b=some o)->P (.done (.ret .none)) {s with heap:=h'}):
  wpAny (model prog w) A (ub.«list.sort» ⟨[.ref a],[]⟩) P E s:=by
 have la:a<s.heap.objs.size:=au ho;obtain⟨e1,g1⟩:∃e1,(s.heap.update a (sy λ_=>(#[]:Array af))).get? a=some (seqObj "list" #[] e1):=⟨_,get?_update_seq ho λ_=>#[]⟩
 have k1:∀b o,b≠a->s.heap.get? b=some o->(s.heap.update a (sy λ_=>(#[]:Array af))).get? b=some o:=λb o hb e=>by rw[zm _ _ _ _ hb];exact e
 generalize hH1:s.heap.update a (sy λ_=>(#[]:Array af))=H1 at g1 k1;have k3:xD H1 ((H1.push (seqObj "tuple" (cR n ad).toArray 0)).push (seqObj "list" #[] 0)):=λb o e=>ai _ (ai _ e);have ne:∀i,i<n->ad i≠a:=λi hi e=>by obtain⟨⟨o,its,m,e1,c1,_⟩,_⟩:=hk i hi;rw[e,ho]at e1;cases e1;exact absurd (Value.type.inj c1) (by decide)
 have K3:Bo prog w ((H1.push (seqObj "tuple" (cR n ad).toArray 0)).push (seqObj "list" #[] 0)) n ad ky:=hk.keep λi hi o e=>k3 _ o (k1 _ o (ne i hi) e);have g3:=k3 a _ g1;have kk:∀b o,b≠a->s.heap.get? b=some o->((H1.push (seqObj "tuple" (cR n ad).toArray 0)).push (seqObj "list" #[] 0)).get? b=some o:=λb o hb e=>k3 b o (k1 b o hb e);have sl:n<=bj:=by rw[ly];lia
 have fin:∀(out:List af),Bw n ad ky out->wpAny (model prog w) A (do
   let touched:=(<-seqEpoch a) !=e1
   Builtin.List.listUpdate (.ref a) λ_=>out.toArray
   if let some e:=(none:Option af)then rule "list.sort.comparison-raised"; throw e
   if touched then rule "list.sort.modified"; raiseError "ValueError" "list modified during sort"
   ret .none) P E {s with heap:=(H1.push (seqObj "tuple" (cR n ad).toArray 0)).push (seqObj "list" #[] 0)}:=λout Cr=>by
  refine ae (seqEpoch_at g3 rfl ?_);refine ae (listUpdate_at g3 rfl ?_ (ja _) (by rw[bf,Cr.len];lia));simp only[bne_self_eq_false,jd,if_false];exact aj (q _ _ out Cr (get?_update_seq g3 λ_=>out.toArray) λb o hb e=>by rw[zm _ _ _ _ hb];exact kk b o hb e)
 generalize hH3:(H1.push (seqObj "tuple" (cR n ad).toArray 0)).push (seqObj "list" #[] 0)=H3 at k3 K3 g3 kk fin;rw[list_sort_plain];refine ae (listItems_at ho rfl (ae (listUpdate_at ho rfl ?_ (by rw[bf,pT];exact sl) (ja _))));rw[hH1];refine ae (seqEpoch_at g1 rfl (ae (wpAny_newTuple (ae (zo (fg ?_) (ja _))) (by show(cR n ad).length<=_;rw[pT];exact sl))));show wpAny (model prog w) A _ P E {s with heap:=(H1.push (seqObj "tuple" (cR n ad).toArray 0)).push (seqObj "list" #[] 0)};rw[hH3];have hz:(cR n ad).toArray.size=n:=by rw[bf,pT]
 dsimp only
 by_cases h2:n<2
 ·rw[if_pos (by rw[hz];exact h2),if_pos (by rw[hz];exact h2)];refine ae (aj ?_);rw[StateT.run_pure];refine ae (aj ?_);have e:(arrOf (SortSt.mk' general' ((cR n ad).toArray.zip (cR n ad).toArray) #[] 7 none)).map (·.2)=(cR n ad).toArray:=by show(((cR n ad).toArray.zip (cR n ad).toArray)).map (·.2)=_;rw[Array.map_snd_zip (aq _)]
  dsimp only;rw[e];refine fin _ ⟨cf n,.refl _,?_,rfl⟩;refine xg.mpr λi j hi hj Br=>?_;rw[cg,uy]at hj
  lia
 ·have h2':2<=n:=by lia
  rw[if_neg (by rw[hz];exact h2),if_neg (by rw[hz];exact h2)];refine ae (jk (X8 (A:=A) (s:={s with heap:=H3}) (G:=λp s'=>s'={s with heap:=H3}/\Ent n p/\iW dX (p.toList.map ky)) h2' K3 λp e r=>⟨rfl,e,r⟩) (λκ s0 hκ=>?_) λ_ _ x=>x.elim);refine ae (jk (kat_run (ks:=cR n ad) (vs:=cR n ad) (Q:=λCa s'=>∃p:Array Nat,p.size=(cR n ad).length/\arrOf Ca=p.map (kas_item ((cR n ad).toArray.zip (cR n ad).toArray))/\failedOf Ca=none/\s'={s with heap:=H3}/\Ent n p/\iW dX (p.toList.map ky))
   rfl (by rw[pT];exact h2') (by rw[pT];exact h64) (λp Ca s' z1 z2 z3 z4=>⟨p,z1,z2,z3,z4⟩) hκ) ?_ λ_ _ e=>e)
  rintro ⟨⟨⟩,Ca⟩ s' ⟨p,_,z2,z3,rfl,z5,z6⟩
  dsimp only;rw[kat_snds rfl z2,z3];have e:(p.toList.map λi=>(cR n ad).getD i jm)=p.toList.map λi=>.ref (ad i):=zq λi hi=>CC (du.mp (z5.2.mem_iff.mp hi));rw[e];exact fin _ ⟨p.toList,z5.2,z6,rfl⟩
theorem YA{x:af}{n:Nat}{ad:Nat->ah}{ky:Nat->zr}{Q:af->ag->Prop}(h64:n<64)(hk:Bo prog w s.heap n ad ky)(hc:∀(Q':List af->ag->Prop)(E':af->ag->Prop),(∀h' tk,xD s.heap h'->s.heap.objs.size<=h'.objs.size->Q' (cR n ad) {s with heap:=h',toks:=tk})->wpAny (model prog w) A.in1 (collect x) Q' E' s)(q:∀h' tk D e out,Bw n ad ky out->s.heap.objs.size<=D->h'.get? D=some (seqObj "list" out.toArray e)->xD s.heap h'->Q (.ref D) {s with heap:=h',toks:=tk}):
  wpAny (model prog w) A (call (.builtin "sorted") [x]) Q E s:=by
 refine Calls.call_function_entry kind_sorted plain_sorted entry_sorted (args_sorted1 _) ?_;unfold ub.«sorted»;refine ae (m:=checkCount "sorted" 1 1 _) (aj (ae (hc _ _ λh1 tk k1 sz=>ae (zo ?_ (by rw[pT,ly];lia)))));have g:(h1.push (seqObj "list" (cR n ad).toArray 0)).get? h1.objs.size=some (seqObj "list" (cR n ad).toArray 0):=ax _ rfl;have k2:xD s.heap (h1.push (seqObj "list" (cR n ad).toArray 0)):=λb o e=>ai _ (k1 b o e);refine ae (fg (gv slot_list_sort ⟨_,g,rfl⟩ entry_list_sort (X9 (s:={s with heap:=h1.push (seqObj "list" (cR n ad).toArray 0),toks:=tk}) g h64 (hk.keep λi hi o e=>k2 _ o e) λh' e out so ho ke=>⟨_,rfl,?_⟩) (args_list_sort _)));exact aj ⟨_,rfl,q h' tk h1.objs.size e out so sz ho λb o e=>ke b o (aw (ar (au e) sz)) (k2 b o e)⟩
end
noncomputable def bare(w:bu):Obj:={cls:=.type "set",dict:=none,data:=.set #[] 0 (.fresh 0 0 (!w.params.followText "set-order"))}
section
theorem YB(a:af){Q:af->ag->Prop}(q:Q (.ref s.heap.objs.size) {s with heap:=s.heap.push (bare w)}):
  codeAny (model prog w) A (.call (.builtin "set.__new__") ⟨[.type "set",a],[]⟩) (wants Q E) s:=by
 refine pw F.plain_set_new F.entry_set_new (sj (F.newCall_set_1 a) ?_);have self:=sub_set_self;unfold ub.«set.__new__» Builtin.Frozenset.newClass;cases s
 wp_walk
 exact wpAny_askSetting (aj (ae (wpAny_alloc (aj (aj q)))))
theorem YC{v:af}{Q N:af->ag->Prop}(hn:codeAny (model prog w) A.in1 (.call (.builtin "set.__new__") ⟨[.type "set",v],[]⟩) (wants N E) s)(hi:∀x s1,N x s1->s1.TypeIs x "set"/\codeAny (model prog w) A.in1 (.call (.builtin "set.__init__") ⟨[x,v],[]⟩) (wants (λr s2=>r=.none/\Q x s2) E) s1):wpAny (model prog w) A (call (.type "set") [v]) Q E s:=by
 have f:=F.called_set;obtain⟨_,_,fm⟩:=f.mro;have fd:=f.made;have fs:=f.sub;have ft:=f.notType;have fc:=f.canCreate;have fk:=F.typeCall_set_1 v;have fl:=f.init.lookup;have q:(Code.builtin "type.__call__" ⟨[.type "set",v],[]⟩).quiet=true:=Code.quiet_builtin _ (by decide+kernel);refine ua (codeAny_of_tree (aj ⟨q,qj F.entry_type_call ?_⟩));rw[Around.under_plain (weight_type_call_type "set" [v] []) rfl]
 repeat (any_goals (first|assumption|wp_step))
 refine mf hn ?_
 rintro (e|fl1) s1 h1
 ·exact h1
 ·cases fl1<;>try exact h1.elim
  rename_i x;obtain⟨hx,hr⟩:=hi x s1 h1;have fb:=f.init.bind x
  repeat (any_goals (first|assumption|wp_step))
  refine mf hr ?_
  rintro (e|Cz) s2 h2
  ·exact h2
  ·cases Cz<;>try exact h2.elim
   obtain⟨rfl,h3⟩:=h2
   repeat (any_goals (first|assumption|wp_step))
theorem YD{l:ah}{T:String}{it:Obj}{Q:af->ag->Prop}{N:ag->Prop}(hT:s.TypeIs (.ref l) T)(n1:isSubtype (.type T) (.type "set")=pure false)(n2:isSubtype (.type T) (.type "frozenset")=pure false)(n3:(rz T==rz "dict")=false)(hi:∀(B:bq)(Q':af->ag->Prop)(E':af->ag->Prop),Q' (.ref (s.heap.objs.size+1)) {s with heap:=(s.heap.push (bare w)).push it}->wpAny (model prog w) B (pyIter (.ref l)) Q' E' {s with heap:=s.heap.push (bare w)})(run:∀(R:sv->ag->Prop),(((s.heap.push (bare w)).push it).get? s.heap.objs.size=some (bare w))->(∀b o,s.heap.get? b=some o->((s.heap.push (bare w)).push it).get? b=some o)->(∀s',N s'->R (.ok (.ret .none)) s')->
   codeAny (model prog w) A.in1.in1 (.builtin "set.update.loop" ⟨[.ref s.heap.objs.size,.ref (s.heap.objs.size+1)],[]⟩) R {s with heap:=(s.heap.push (bare w)).push it})(q:∀s',N s'->Q (.ref s.heap.objs.size) s'):wpAny (model prog w) A (call (.type "set") [.ref l]) Q E s:=by
 refine YC (N:=λx s1=>x=.ref s.heap.objs.size/\s1={s with heap:=s.heap.push (bare w)}) (YB _ ⟨rfl,rfl⟩) ?_
 rintro x s1 ⟨rfl,rfl⟩
 have up:∀b o,s.heap.get? b=some o->(s.heap.push (bare w)).get? b=some o:=λb o e=>ai _ e;have hb:(s.heap.push (bare w)).get? s.heap.objs.size=some (bare w):=ax _ rfl;have hS:Shared.TypeIs {s with heap:=s.heap.push (bare w)} (.ref s.heap.objs.size) "set":=⟨_,hb,rfl⟩;refine⟨hS,pw F.called_set.init.plain F.entry_set_init (check_set_init_1 hS ?_)⟩;obtain⟨ol,el,cl⟩:=hT;have hl1:Shared.TypeIs {s with heap:=s.heap.push (bare w)} (.ref l) T:=⟨ol,up l ol el,cl⟩
 have run:=λR=>run R (ai _ hb) λb o e=>ai _ (up b o e);unfold ub.«set.__init__» noKeywords Builtin.Frozenset.updateFrom;generalize hPI:pyIter=PI;unfold bare at hb
 wp_walk
 subst hPI;refine hi _ _ _ ?_;refine ae (wpAny_runValue (run _ λs' n=>?_));exact aj (aj ⟨rfl,q s' n⟩)
end
end SR
namespace L2.Mr
open SR
noncomputable def Ao(H:Hp):Ez->y'->Prop
 |[],[]=>True
 |v::vs,k::ks=>(∃b,v=.ref b/\H b=some (.tup (k.map Ef)))/\Ao H vs ks
 |_,_=>False
noncomputable def J0:V->ah
 |.ref b=>b
 |_=>0
def oC(vs:Ez)(i:Nat):ah:=J0 (vs.getD i .non)
section
variable{X:Cx}{pins:List (ah×Obj)}{σ:St}{H H':Hp}{s:ag}
theorem Ao.len:∀{vs:Ez}{ks:y'},Ao H vs ks->vs.length=ks.length
 |[],[],_=>rfl
 |[],_::_,h=>h.elim
 |_::_,[],h=>h.elim
 |v::vs,k::ks,h=>by rw[br,br,Ao.len h.2]
theorem Ao.at_:∀{vs:Ez}{ks:y'}{i:Nat},Ao H vs ks->i<ks.length->vs[i]?=some (.ref (oC vs i))/\H (oC vs i)=some (.tup ((ks.getD i []).map Ef))
 |[],[],_,_,h=>by simp at h
 |[],_::_,_,h,_=>h.elim
 |_::_,[],_,h,_=>h.elim
 |v::vs,k::ks,0,h,_=>by obtain⟨⟨b,rfl,e⟩,_⟩:=h;exact⟨rfl,e⟩
 |v::vs,k::ks,i+1,h,hi=>by
  obtain⟨e1,e2⟩:=Ao.at_ (i:=i) h.2 (by simpa using hi);have ea:oC (v::vs) (i+1)=oC vs i:=by simp[oC]
  exact⟨by rw[ea];simpa using e1,by rw[ea];simpa using e2⟩
theorem J1:∀{k:zr}{its:List af}{prog:bg}{w:bu},Ae (k.map Ef) its->ItemsAre (intKind prog w) k its
 |[],_,_,_,.nil=>.nil
 |n::k,_,_,_,.cons h1 h2=>by obtain⟨t,rfl⟩:=h1;exact .cons (intKind_is _ _ _ _) (J1 h2)
theorem YE(I:Inv X pins σ H s){b:ah}{k:zr}(e:H b=some (.tup (k.map Ef))):rj (intKind X.prog X.w) s.heap k b:=by obtain⟨_,its,r,o,e1,c,_,n,d⟩:=I.hok b _ e;exact⟨o,its.toArray,n,e1,c,d,J1 r⟩
theorem YF(I:Inv X pins σ H s){vs:Ez}{ks:y'}(h:Ao H vs ks)(ne:∀k∈ks,k≠[]):Bo X.prog X.w s.heap ks.length (oC vs) (λi=>ks.getD i []):=λi hi=>by refine⟨YE I (h.at_ hi).2,ne _ ?_⟩;simp[hi]
theorem YG{n:Nat}{ad:Nat->ah}{ky:Nat->zr}{out:List af}(so:Bw n ad ky out)(hH:∀i,i<n->H (ad i)=some (.tup ((ky i).map Ef))):
  ∃(p:zt)(Bh:Ez),p.Perm (cf n)/\iW dX (p.map ky)/\Ae Bh out/\Ao H Bh (p.map ky):=by
 obtain⟨p,pp,r,rfl⟩:=so;refine⟨p,p.map λi=>Eo (ad i),pp,r,?_,?_⟩
 ·clear pp r
  induction p with
  |nil=>exact .nil
  |cons i p ih=>exact .cons rfl ih
 ·have:∀q:zt,(∀i∈q,i<n)->Ao H (q.map λi=>Eo (ad i)) (q.map ky):=λq=>by
   induction q with
   |nil=>intro _;trivial
   |cons i q ih=>exact λh=>⟨⟨_,rfl,hH i (h i (bo ..))⟩,ih λj hj=>h j (az _ hj)⟩
  exact this p λi hi=>du.mp (pp.mem_iff.mp hi)
theorem YH{α:Type}{p:zt}{n:Nat}{l:List α}{d:α}(h:p.Perm (cf n))(hl:l.length=n):(p.map λi=>l.getD i d).Perm l:=by
 refine(h.map _).trans ?_;have:(cf n).map (λi=>l.getD i d)=l:=by
  apply List.ext_getElem (by simp[hl])
  intro i h1 h2;simp[h2]
 rw[this]
end
noncomputable def CD(k:zr):Dv:=.tup (k.map Dz)
section
variable{X:Cx}{G:Cfg}{E:XK}{k:Nat}{e a b:ba}{es:List ba}{ma mb:M Dv}{aU:M zw}{p p2 pos Cj:Pos}
theorem J2{μ:Nat->ah}{n:Nat}{H:Hp}:∀{vs:Ez}{ks:y'},Ao H vs ks->RelDL G μ n H (ks.map CD) vs
 |[],[],_=>Eh
 |[],_::_,h=>h.elim
 |_::_,[],h=>h.elim
 |v::vs,k::ks,h=>by obtain⟨⟨b,rfl,e⟩,h2⟩:=h;refine Ei ?_ (J2 h2);unfold CD;rw[Ac];exact⟨b,_,rfl,e,vX k⟩
noncomputable def J3(ks:y'):Bool:=ks.all λk=>!k.isEmpty
theorem YI{ks:y'}(h:J3 ks=true):∀k∈ks,k≠[]:=λk hk e=>by have:=fv.mp h k hk;rw[e]at this;cases this
theorem YJ:cx "set"=some (.type "set"):=by decide+kernel
end
open PySem.SeqAt PySem.MeetsSeq PySem.MeetsSeq2 PySem.MeetsSeq3
section
variable{X:Cx}{G:Cfg}{E:XK}{k:Nat}{e a b o:ba}{es:List ba}{mo me ma mb:M Dv}{aU:M zw}{p p2 pos Cj apos cpos np:Pos}{y:Str}
theorem YK{prog:bg}{w:bu}{A:bq}{Ee:af->ag->Prop}{s:ag}{t sl:ah}{items:Array af}{vl vu:af}{lo hi:Option Int}{Q:af->ag->Prop}(ht:yp s.heap t items)(hs:s.heap.IsSliceOf sl vl vu .none)(pl:um vl lo)(pu:um vu hi)(h0:HT.sIx items.size 0 lo=0)(h1:HT.sIx items.size items.size hi=items.size)(h:Q (.ref t) s):wpAny (model prog w) A (getItem (.ref t) (.ref sl)) Q Ee s:=by
 obtain⟨os,hos,hcs,hds⟩:=id hs;have hTs:s.TypeIs (.ref sl) "slice":=⟨os,hos,hcs⟩;have tt:=ht.typeIs;obtain⟨ot,et,ct,_⟩:=id ht;unfold getItem
 try with_reducible refine fg ?_
 first|refine ae (aj ?_)|skip
 refine ae (vz tt (by decide) (ae (ib (name:=ik "__getitem__") tt gq (gv gq tt PySem.F.entry_tuple_getitem ?_ (PySem.F.args_tuple_getitem_2 _ _)))));refine ae (m:=slotArgs "__getitem__" 1 ⟨[.ref t,.ref sl],[]⟩) (aj (ae (zk ht (ae (wpAny_typeOf hTs ?_)))));rw[if_pos (by decide)];refine ae (HT.sliceApplied_gen hs pl pu ?_);rw[h0,h1];show wpAny _ _ (if(((0:Nat):Int)==0&&(1:Int)==1&&(items.size-0)==items.size)=true then _ else _) _ _ s;rw[if_pos (by simp)];unfold Builtin.Tuple.tupleIsExact;refine ae (ae (wpAny_typeOf tt (aj ?_)));rw[if_pos (by decide)];refine ae (ud (aj ⟨_,rfl,aj h⟩))
theorem YL:SlR X (λx lo hi H Q=>∃a xs,x=.ref a/\Ap X.K H a xs/\HT.sIx xs.length 0 lo=0/\HT.sIx xs.length xs.length hi=xs.length/\Q (.ref a) H):=by
 intro pins s σ H x v vl vu lo hi sl Q I rx hs pl pu ⟨a,xs,ex,hx,h0,h1,q⟩;subst ex;cases rx;obtain⟨its,r,ht,hz⟩:=I.tuple hx;have hlen:its.toArray.size=xs.length:=by rw[bf];exact r.length.symm
 exact⟨"tuple",_,gq.lookup,ht.typeIs,YK ht hs pl pu (by rw[hlen];exact h0) (by rw[hlen];exact h1) ⟨.ref a,H,I,rfl,q⟩⟩
def xE(x:Dv)(lo hi:Option Int)(h:Hs):Rs Dv:=match x with
 |.ref j=>match getL h j with
  |some xs=>.ok (.ref h.length) (h++[.lst (gM xs lo hi)])
  |none=>.bad
 |.tup xs=>.ok (.tup (gM xs lo hi)) h
 |_=>.bad
theorem YM{xs:zw}{lo hi:Option Int}(h0:HT.sIx xs.length 0 lo=0)(h1:HT.sIx xs.length xs.length hi=xs.length):gM xs lo hi=xs:=by unfold gM;rw[h0,h1];simp
def tR(m:M Dv)(lo hi:MO):M Dv:=λρ h=>(m ρ h).bind λx h1=>(lo ρ h1).bind λl h2=>(hi ρ h2).bind λu h3=>xE x l u h3
theorem YN{lo hi:Option ba}{ml mh:MO}(ho:aB X G E o mo)(hl:qY X G E lo ml)(hh:qY X G E hi mh):aB X G E (.Subscript o (.Slice lo hi none p2) pos) (tR mo ml mh):=λhK=>
 Eg (F8 (SlR.or (SlR.or GH R9) YL) (ho hK) (hl hK) (hh hK)) λσ H Q⟨μ,ρ,h,rs,s,oo⟩=>cT rs s oo λμ1 x h1 vx H1 x1 Ak s1 r1 o1=>by
  refine⟨μ1,ρ,h1,Ak,s1,(o1.bind (R1:=λ_ _ _ a b=>b=a)).mono λl' H2⟨μ2,l,h2,x2,s2,el,o2⟩=>?_⟩;subst el;refine⟨μ2,ρ,h2,Ak.mono x2,s2,(o2.bind (R1:=λ_ _ _ a b=>b=a)).mono λu' H3⟨μ3,u,h3,x3,s3,eu,o3⟩=>?_⟩;subst eu;have r3:=El (x2.trans x3) _ _ r1
  cases x with
  |ref j=>
   dsimp only[xE]at o3
   cases q:getL h3 j with
   |none=>rw[q]at o3;exact o3.elim
   |some xs=>rw[q]at o3;obtain⟨vs,ea,ra⟩:=s3.ob j _ (eL q);obtain⟨_,rfl⟩:=r3;exact .inl (.inl ⟨_,vs,rfl,Em ea,λp hp=>oY s3 (BD ra _ _) hp o3⟩)
  |tup xs=>
   dsimp only[xE]at o3;obtain⟨a,vs,rfl,ea,ra⟩:=r3
   by_cases hw:HT.sIx xs.length 0 l'=0/\HT.sIx xs.length xs.length u'=xs.length
   ·refine .inr ⟨a,vs,rfl,Ek ea,by rw[ra.length];exact hw.1,by rw[ra.length];exact hw.2,o3 μ3 _ _ Ej s3 ?_⟩;rw[YM hw.1 hw.2];exact⟨a,vs,rfl,ea,ra⟩
   ·exact .inl (.inr ⟨a,vs,rfl,Ek ea,by rw[ra.length];exact hw,λp hp=>o3 μ3 _ _ (Ed (cJ hp)) (s3.same (cJ hp)) ⟨p,_,rfl,bP,Eb (Ed (cJ hp)) _ _ (BD ra _ _)⟩⟩)
  |_=>exact o3.elim
def oE(x y:Dv)(h:Hs):Rs Dv:=match x,y with
 |.int i,.int j=>.ok (.bl (decide (i<j))) h
 |.tup xs,.tup ys=>match aW eX xs,aW eX ys with
  |some ns,some ms=>.ok (.bl (HT.lexLt ns ms)) h
  |_,_=>.bad
 |_,_=>.bad
theorem J4:∀x y:zr,HT.lexLt x y=dX x y
 |[],[]=>rfl
 |[],_::_=>rfl
 |_::_,[]=>rfl
 |a::x,b::y=>by
  rw[HT.lexLt_cons,dX,J4 x y]
  by_cases h:a=b<;>simp[h]
theorem YO:eA G (λx y H Q=>(lE λi j=>.bl (decide (i<j))) x y H Q∨GA G.K x y H Q) oE:=by
 intro E μ h H x y vx vy Q s rx ry o;unfold oE at o
 split at o
 ·rename_i i j;exact .inl (sW E μ h H (.int i) (.int j) vx vy Q s rx ry o)
 ·rename_i xs ys
  cases q1:aW eX xs with
  |none=>rw[q1]at o;exact o.elim
  |some ns=>
   cases q2:aW eX ys with
   |none=>rw[q1,q2]at o;exact o.elim
   |some ms=>rw[q1,q2]at o;obtain⟨a,us,rfl,ea,ra⟩:=rx;obtain⟨b,ws,rfl,eb,rb⟩:=ry;exact .inr ⟨a,b,ns,ms,rfl,rfl,Ek (by rw[ea,mO ra q1]),Ek (by rw[eb,mO rb q2]),o.val s rfl⟩
 ·exact o.elim
theorem J5(g:Good X G E k)(ha:aB X G E a ma)(hb:aB X G E b mb):aB X G E (.Compare a [.Lt] [b] pos) (m2 oE ma mb):=λhK=>sR (Bi.or QM (SA (by have:=g.room.un;lia))) (by rw[hK];exact YO) ha hb (sD _) hK
noncomputable def eR(j:Int):zr:=(cf j.toNat).map λk:Nat=>(k:Int)
end
section
variable{X:Cx}{G:Cfg}{E:XK}{k:Nat}{e a b o:ba}{es:List ba}{mo me ma mb:M Dv}{aU:M zw}{p p2 pos Cj apos cpos np:Pos}{y:Str}
theorem sub_tuple:isSubtype (.type "tuple") (.type "set")=pure false/\isSubtype (.type "tuple") (.type "frozenset")=pure false:=by constructor<;>(rw[isSubtype_type];kernel_rfl)
end
noncomputable def oF:M Dv:=λ_ _=>.bad
def xF(f:ba->M Dv):List ba->M zw 
 |[]=>bV
 |e::es=>aN (f e) (xF f es)
def mS(lk:Str->Option Nat):Nat->ba->M Dv
 |0,_=>oF
 |n+1,e=>match e with
  |.Constant c _ _=>match c with
   |.int i=>aK i
   |.bool b=>mC (.bl b)
   |.none=>mC .non
   |.str x=>mC (.str x)
   |_=>oF
  |.Tuple es _ _=>bS (xF (mS lk n) es)
  |.List es _=>bC (xF (mS lk n) es)
  |.Dict [] [] _=>mC .edc
  |.Name x _=>match lk x with
   |some i=>aA i
   |none=>oF
  |.UnaryOp .USub a _=>m1 BF (mS lk n a)
  |_=>oF
noncomputable def J6(e:ba):Prop:=∀es env,ao (e::es) env=(false,eval e env)::ao es env
section
variable{X:Cx}{G:Cfg}{E:XK}{lk:Str->Option Nat}
theorem xG{e:ba}:aB X G E e oF:=λ_ pins s σ H Q _⟨_,_,_,_,_,o⟩=>o.elim
theorem YQ{e:ba}{es:List ba}{ms:M zw}:dH X G E (e::es) (aN oF ms):=λ_ pos pins s σ H Q _⟨_,_,_,_,_,o⟩=>o.elim
theorem CF{f:ba->M Dv}(hf:∀e,aB X G E e (f e)/\(J6 e∨f e=oF)):∀es,dH X G E es (xF f es)
 |[]=>oX
 |e::es=>by
  obtain⟨a,b|b⟩:=hf e
  ·exact kH a (CF hf es) (b es X.env)
  ·show dH X G E (e::es) (aN (f e) _);rw[b];exact YQ
theorem xH(hv:∀x i pos,lk x=some i->aB X G E (.Name x pos) (aA i)):∀n e,aB X G E e (mS lk n e)/\(J6 e∨mS lk n e=oF)
 |0,_=>⟨xG,.inr rfl⟩
 |n+1,e=>by
  unfold mS
  split
  ·split
   ·exact⟨dG,.inl λ_ _=>rfl⟩
   ·exact⟨lI,.inl λ_ _=>rfl⟩
   ·exact⟨G6,.inl λ_ _=>rfl⟩
   ·exact⟨dQ,.inl λ_ _=>rfl⟩
   ·exact⟨xG,.inr rfl⟩
  ·exact⟨iH (CF (xH hv n) _),.inl λ_ _=>rfl⟩
  ·exact⟨oZ (CF (xH hv n) _),.inl λ_ _=>rfl⟩
  ·exact⟨WE,.inl λ_ _=>rfl⟩
  ·rename_i x pos
   split
   ·rename_i i q;exact⟨hv x i pos q,.inl λ_ _=>rfl⟩
   ·exact⟨xG,.inr rfl⟩
  ·exact⟨WV (xH hv n _).1,.inl λ_ _=>rfl⟩
  ·exact⟨xG,.inr rfl⟩
theorem oG(n:Nat){e:ba}{m:M Dv}(h:mS (λ_=>none) n e=m:=by rfl):aB X G E e m:=h▸(xH (λ_ _ _ h=>by cases h) n e).1
end
structure SW(X:Cx)(G:Cfg)(E:XK)(st:fj)(m:MS):Prop where
 ok:fL X G E st m
structure SWs(X:Cx)(G:Cfg)(E:XK)(st:List fj)(m:MS):Prop where
 ok:iI X G E st m
section
variable{X:Cx}{G:Cfg}{E:XK}{st:fj}{rest:List fj}{m u:MS}{pos:Pos}
theorem pU(a:SW X G E st m)(b:SWs X G E rest u):SWs X G E (st::rest) (aG m u):=⟨bG a.ok b.ok⟩
theorem YR(a:SW X G E st m):SWs X G E [st] m:=⟨aX a.ok⟩
theorem YS(n:Nat){i:Nat}{x:Str}{pos':Pos}{e:ba}{me:M Dv}(hN:X.N.Nodup)(hi:X.N[i]?=some x)(hx:kD X.env.scope x)(h:mS (λ_=>none) n e=me:=by rfl)(hs:swapsWith e (some (.Name x pos')) pos.line X.env=pure false:=by rfl)(hf:X.fn x=true∨X.env.scope.names.lookup x=some .local:=by first|exact .inl rfl|exact .inr rfl|assumption):
  SW X G E (.Assign [.Name x pos'] e pos) (aR me (aC i)):=⟨A2 hN hi hx (oG n h) hs hf⟩
theorem rC(n:Nat){i:Nat}{x:Str}{pos' p2 p3:Pos}{e:ba}{me:M Dv}(hN:X.N.Nodup)(hi:X.N[i]?=some x)(hx:kD X.env.scope x)(hv:aB X G E (.Name x p2) (aA i))(h:mS (λ_=>none) n e=me:=by rfl)(hs:swapsWith (.BinOp (.Name x p2) .Add e p3) (some (.Name x pos')) pos.line X.env=pure false:=by rfl)(hf:X.fn x=true∨X.env.scope.names.lookup x=some .local:=by first|exact .inl rfl|exact .inr rfl|assumption):
  SW X G E (.Assign [.Name x pos'] (.BinOp (.Name x p2) .Add e p3) pos) (aR (m2 bX (aA i) me) (aC i)):=⟨A2 hN hi hx (mP hv (oG n h)) hs hf⟩
end
section
variable{P:bg}{w:bu}{K:ak}{mg:Str->Option af}{base:bx}{G:Cfg}{N:zu}{f:ah}{k:Nat}
theorem YT{x qual:Str}{st:fj}{fd:ay}{ps:zu}{mb:MS}(Fn:Fun K x qual st f fd)(S:Ab N ps (aI st))(hK:K=G.K)(Aw:∀(cdv:af)(A:bq)(outer:List Env)(s:ag)(H:Hp)(E₀ E:XK),Good (eK (aS P w base) P w K mg base N qual (aI st) f cdv A outer s H E₀) G E k->SWs (eK (aS P w base) P w K mg base N qual (aI st) f cdv A outer s H E₀) G E (gJ st) mb):
  Af P w K mg base (aS P w base) (k+1) f fd ps (bA G (aT ps.length N.length mb)):=cE Fn S hK λcdv A outer s H E₀ E g=>(Aw cdv A outer s H E₀ E g).ok
end
noncomputable def CG(ns:zr):Nat:=(firstMet (λi=>ns.getD i 0) ns.length).length
section
variable{prog:bg}{w:bu}{A:bq}{E:af->ag->Prop}{s:ag}
theorem YU{l:ah}{T:String}{it:Obj}{n:Nat}{P:Nat->af->Prop}{St:Nat->bx->Prop}{fp wr:List ah}(ky:Nat->Int){Q:af->ag->Prop}(hT:s.TypeIs (.ref l) T)(n1:isSubtype (.type T) (.type "set")=pure false)(n2:isSubtype (.type T) (.type "frozenset")=pure false)(n3:(rz T==rz "dict")=false)(hi:∀(B:bq)(Q':af->ag->Prop)(E':af->ag->Prop),Q' (.ref (s.heap.objs.size+1)) {s with heap:=(s.heap.push (bare w)).push it}->wpAny (model prog w) B (pyIter (.ref l)) Q' E' {s with heap:=s.heap.push (bare w)})(W:Walks prog w A.in1.in1.in1 (s.heap.objs.size+1) fp wr n P St)(hfp:s.heap.objs.size∉fp)(hwr:∀b∈wr,s.heap.objs.size<b)(h0:St 0 ((s.heap.push (bare w)).push it))(hval:∀i v,P i v->∃t,v=.int (ky i) t)(hn:n+1<scanBound)(q:∀(h':bx)(tk:Nat),h'.SetOf (intKind prog w) s.heap.objs.size (λk=>(firstMet ky n).any (·==k)) (firstMet ky n).length->(∀b o,s.heap.get? b=some o->h'.get? b=some o)->Q (.ref s.heap.objs.size) {s with heap:=h',toks:=tk}):
  wpAny (model prog w) A (call (.type "set") [.ref l]) Q E s:=by
 refine YD (N:=λs'=>∃h' tk,s'={s with heap:=h',toks:=tk}/\h'.SetOf (intKind prog w) s.heap.objs.size (λk=>(firstMet ky n).any (·==k)) (firstMet ky n).length/\∀b o,s.heap.get? b=some o->h'.get? b=some o) hT n1 n2 n3 hi (λR hb2 up hR=>?_) λs'⟨h',tk,e,S,k⟩=>by rw[e];exact q h' tk S k
 refine codeAny_set_update_loopS W.toS s.heap.objs.size hfp ky hval hn n 0 _ rfl (ja _) h0 (SetOf_congr ((setObjOf_fresh (knd:=intKind prog w) _).setOf hb2 (by unfold scanBound;lia)) (λ_=>rfl) rfl) λs' hm hS'=>hR s' ⟨s'.heap,s'.toks,(Moved.eq_with hm).trans rfl,hS',λb o e=>?_⟩;have hlt:=au e;exact hm.heap b o (λm=>(bh.mp m).elim (aw hlt) λm=>Nat.lt_asymm hlt (hwr b m)) (up b o e)
end
section
variable{X:Cx}{G:Cfg}{E:XK}{k:Nat}{e:ba}{aU:M zw}{p p2 pos Cj:Pos}
abbrev YV:Ez->Hp->VK->Prop:=λxs H Q=>∃(p:ah)(ns:zr),xs=[.ref p]/\H p=some (.tup (ns.map Ef))/\ns.length<1000/\∀l S,H l=none->Q (.ref l) (aF H l (.set S (CG ns)))
theorem YW(hc:X.calm=true):Am X (.type "set") YV:=by
 intro pins s σ H xs us Q I rv ⟨p,ns,e,hp,hz,q⟩;subst e;obtain⟨u,rfl,ru⟩:=gI rv;cases ru;obtain⟨its,rits,pl,_⟩:=I.tuple (Ek hp);have lp:=I.hok.lt hp;have hn:its.toArray.size=ns.length:=by have:=rits.length;simp at this⊢;lia
 have hI:s.heap.IsTuple p its.toArray:=pl;have hne:p≠s.heap.objs.size+1:=aw (lg lp);have hb:(s.heap.push (bare X.w)).IsTuple p its.toArray:=IsTup.push (items:=its.toArray) hI _;have hs1:(s.heap.push (bare X.w)).objs.size=s.heap.objs.size+1:=size_push' _ _;have W:=Walks.tuple (prog:=X.prog) (w:=X.w) (A:=X.A.in1.in1.in1) (show X.A.in1.in1.in1.handled=none from I.ok.hd hc) (s.heap.objs.size+1) p hne its.toArray;rw[hn]at W;refine YU (T:="tuple") (it:={cls:=.type "tuple_iterator",data:=.fields #[.ref p,.int 0 0]}) (λi=>ns.getD i 0) hI.typeIs sub_tuple.1 sub_tuple.2 (by decide) (λB Q' E' hQ=>?_) W (λm=>?_) (λb hb=>?_) ⟨⟨{cls:=.type "tuple_iterator",data:=.fields #[.ref p,.int 0 0]},?_,rfl,rfl⟩,IsTup.push (items:=its.toArray) hb _⟩ (λi v hv=>tN rits hv) (by unfold scanBound;lia) λh' tk hS kk=>?_
 ·refine rf hb ?_;rw[<-hs1]at hQ;exact hQ
 ·rcases bh.mp m with z|m
  ·exact Nat.succ_ne_self _ z.symm
  ·exact ju lp (dy.mp m)
 ·rw[dy.mp hb];exact jf _
 ·rw[<-hs1];exact ax _ rfl
 ·exact⟨.ref s.heap.objs.size,_,I.laid (t':=tk) (o:=.set _ (CG ns)) kk (aq _) hS,rfl,q _ _ (I.hok.fresh (aq _))⟩
abbrev YX:Ez->Hp->VK->Prop:=λxs H Q=>∃(l:ah)(S:Int->Bool)(n:Nat),xs=[.ref l]/\H l=some (.set S n)/\Q (.int n) H
theorem YY:Am X (.builtin "len") YX:=by intro pins s σ H xs us Q I rv ⟨l,S,n,e,hl,q⟩;subst e;obtain⟨u,rfl,ru⟩:=gI rv;cases ru;obtain⟨o,es,ep,t,ho,hex,hd,_,_,hsz,hf,en⟩:s.heap.SetOf (intKind X.prog X.w) l S n:=I.hok l _ hl;refine call_len_set ho hex hd hf (by unfold scanBound at hsz;lia) ?_;rw[en];exact⟨.int n,H,I.tok _,⟨_,rfl⟩,q⟩
def CH:Dv->Hs->Rs Dv
 |.tup xs,h=>match aW eX xs with
  |some ns=>if ns.length<1000 then .ok (.int (CG ns)) h else .bad
  |none=>.bad
 |_,_=>.bad
theorem YZ(hc:X.calm=true)(hg:Gl X "len")(hm:X.mg "len"=none)(hg2:Gl X "set")(hm2:X.mg "set"=none)(ha:dH X G E [e] aU)(he:ao [e] X.env=[(false,eval e X.env)]:=by rfl)(he2:ao [Expr.Call (.Name "set" p2) [e] [] Cj] X.env=[(false,eval (.Call (.Name "set" p2) [e] [] Cj) X.env)]:=by rfl):
  aB X G E (.Call (.Name "len" p) [.Call (.Name "set" p2) [e] [] Cj] [] pos) (aE (f1 CH) aU):=λhK=>
 Eg (vL YY hg hm wd (iR (F3 (YW hc) hg2 hm2 YJ (ha hK) (by decide) (by decide) he rfl) jJ he2) (by decide) (by decide) he2 rfl) λσ H Q⟨μ,ρ,h,rs,s,o⟩=>by
  refine kG rs s o λμ1 ds h1 vs H1 x1 Ak s1 r1 o1=>?_;unfold f1 at o1
  split at o1
  ·rename_i d;obtain⟨v,rfl,rv⟩:=vZ r1
   cases d with
   |tup xs=>
    dsimp only[CH]at o1
    cases q:aW eX xs with
    |none=>rw[q]at o1;exact o1.elim
    |some ns=>
     rw[q]at o1;dsimp only at o1
     split at o1
     ·rename_i h0;obtain⟨a,vs,rfl,e1,r2⟩:=rv;refine⟨a,ns,rfl,by rw[e1,mO r2 q],h0,λl S hl=>⟨l,S,_,rfl,bP,?_⟩⟩;exact o1 μ1 _ _ (Ed (cJ hl)) (s1.same (cJ hl)) rfl
     ·exact o1.elim
   |_=>exact o1.elim
  ·exact o1.elim
end
abbrev CI(acc:List af)(c:Nat):Obj:={cls:=.type "list",dict:=none,data:=.seq acc.toArray c,slots:=#[]}
theorem Y0(a d:af):argsOk "max" ⟨[a],[("default",d)]⟩:=by unfold argsOk;kernel_rfl
section
variable{prog:bg}{w:bu}{A:bq}{I S:ah}{fp wr:List ah}{n:Nat}{P:Nat->af->Prop}{St:Nat->bx->Prop}{R:sv->ag->Prop}{ky:Nat->Int}{d:af}
abbrev mT:Int->Int->Bool:=λa b=>decide (a>b)
def J7(P:Nat->af->Prop)(ky:Nat->Int)(k:Nat)(acc:List af):Prop:=match k with
 |0=>acc=[]
 |k+1=>∃i v,P i v/\ky i=eY mT ky k/\acc=[v,v]
theorem Y1(W:Walks prog w A.in1 I fp wr n P St)(hc:CmpOf prog w A.in1 .Gt P (λi j=>mT (ky i) (ky j)))(hS:S∉fp):
  ∀(m k:Nat)(s:ag)(acc:List af)(c:Nat),k+m=n->St k s.heap->s.heap.get? S=some (CI acc c)->J7 P ky k acc->
   (∀v h' tk,(n=0/\v=d∨∃i p,P i v/\n=p+1/\ky i=eY mT ky p)->(∀b o,b∉wr->b≠S->s.heap.get? b=some o->h'.get? b=some o)->R (.ok (.ret v)) {s with heap:=h',toks:=tk})->
   codeAny (model prog w) A (.builtin "max.loop" ⟨[.ref I,.none,.ref S],[("default",d)]⟩) R s:=by
 have hw:S∉wr:=λh=>hS (W.sub _ h);have nm:(toString "max"++toString ".loop":String)="max.loop":=by decide
 have oth:∀(h:bx)(f:Array af->Array af)b o,b≠S->h.get? b=some o->(h.update S (sy f)).get? b=some o:=λh f b o hb q=>(mz _ _ (cp hb)).trans q;intro m
 induction m with
 |zero=>
  intro k s acc c e st eS b fin;obtain rfl:k=n:=by lia
  refine qj F.entry_max_loop ?_;rw[nr F.plain_max_loop _];refine ae (m:=seqItems? (.ref S)) (jt eS rfl (ae (yy (W.done s _ _ st λh' tk kk=>?_))))
  cases k with
  |zero=>obtain rfl:acc=[]:=b;exact ae (ud (aj (fin d h' tk (.inl ⟨rfl,rfl⟩) λb o hb _ q=>kk b o hb q)))
  |succ k=>obtain⟨i,v,pv,ev,rfl⟩:=b;have eS':=kk S _ hw eS;refine ae (m:=updateSeq S λ_=>#[]) (yd eS' rfl (ae (pz (aj ?_))) (by show 2<=bj;decide) (by show 0<=bj+1;lia));exact fin v _ tk (.inr ⟨i,k,pv,rfl,ev⟩) λb o hb hs q=>oth _ _ b o hs (kk b o hb q)
 |succ m ih=>
  intro k s acc c e st eS b fin;refine qj F.entry_max_loop ?_;rw[nr F.plain_max_loop _];refine ae (m:=seqItems? (.ref S)) (jt eS rfl (ae (yy (W.item k s _ _ (by lia) st λx h' tk px Ca kk=>?_))));have eS':=kk S _ hw eS;have go:∀(g:bx)(t:Nat)(acc':List af)(c':Nat),g.get? S=some (CI acc' c')->J7 P ky (k+1) acc'->(∀b o,b≠S->h'.get? b=some o->g.get? b=some o)->
    wpAny (model prog w) A.in1 (again (.builtin (toString "max"++toString ".loop") ⟨[.ref I,.none,.ref S],[("default",d)]⟩)) (λf s'=>match f with|.done f=>R (.ok f) s'|.again c'=>c'.quiet=true/\codeAny (model prog w) A c' R s') (λe s'=>R (.error e) s') {s with heap:=g,toks:=t}:=λg t acc' c' eg b' og=>by
   rw[nm];refine aj ⟨plainId_quiet F.plain_max_loop _,ih (k+1) _ acc' c' (by lia) (W.frame _ _ _ Ca λb hb o q=>og b o (λz=>hS (z▸hb)) q) eg b' λv Dr tk'' hv k''=>?_⟩;exact fin v Dr tk'' hv λb o hb hs q=>k'' b o hb hs (og b o hs (kk b o hb q))
  cases k with
  |zero=>obtain rfl:acc=[]:=b;refine ae (m:=updateSeq S λ_=>#[x,x]) (yd eS' rfl ?_ (by show 0<=bj;lia) (by show 2<=bj+1;decide));exact go _ _ [x,x] _ (ni _ eS' rfl) ⟨0,x,px,rfl,rfl⟩ λb o hb q=>oth _ _ b o hb q
  |succ k=>
   obtain⟨i,v,pv,ev,rfl⟩:=b;refine ae (aj (ae (yy (fg (ae (hc (k+1) i x v _ _ _ px pv (ae (fg (gy (ae (pz (aj ?_))))))))))));have best:eY mT ky (k+1)=if mT (ky (k+1)) (ky i)=true then ky (k+1)else ky i:=by rw[eY,<-ev]
   cases hb:mT (ky (k+1)) (ky i)with
   |true=>rw[hb,if_pos rfl]at best;rw[if_pos (show(λi j=>mT (ky i) (ky j)) (k+1) i=true from hb)];refine ae (m:=updateSeq S λ_=>#[x,x]) (yd eS' rfl (ae (pz ?_)) (by show 2<=bj;decide) (by show 2<=bj+1;decide));exact go _ _ [x,x] _ (ni _ eS' rfl) ⟨k+1,x,px,best.symm,rfl⟩ λb o hb q=>oth _ _ b o hb q
   |false=>rw[hb,if_neg (by decide)]at best;rw[if_neg (show ¬(λi j=>mT (ky i) (ky j)) (k+1) i=true from by rw[show(λi j=>mT (ky i) (ky j)) (k+1) i=false from hb];decide)];refine ae (pz ?_);exact go _ _ [v,v] _ eS' ⟨i,v,pv,best.symm,rfl⟩ λb o _ q=>q
end
section
variable{X:Cx}{G:Cfg}{E:XK}{e:ba}{ml:M zw}{p pos kpos:Pos}
theorem Y2(hc:X.calm=true){pins:List (ah×Obj)}{s:ag}{σ:St}{H:Hp}{Q:VK}{q:ah}{ns:zr}{dv:Int}{t0:Tok}(I:Inv X pins σ H s)(hp:H q=some (.lst (ns.map Ef)))(k:Q (.int (if ns=[]then dv else nY ns)) H):
  wpAny (model X.prog X.w) X.A (call (.builtin "max") [.ref q] [("default",.int dv t0)]) (EP X pins σ Q) X.xe s:=by
 obtain⟨its,rits,pl,hz⟩:=I.list (Em hp);have hn:its.toArray.size=ns.length:=by have:=rits.length;simp at this⊢;lia
 have lp:=I.hok.lt hp;have nm:(toString "max"++toString ".loop":String)="max.loop":=by decide
 have hh:X.A.in1.handled=none:=I.ok.hd hc;refine ua (pw F.plain_max F.entry_max ?_);have ck:checkBuiltinCall "max" ⟨[.ref q],[("default",.int dv t0)]⟩=pure ():=by
  have a:=Y0 (.ref q) (.int dv t0);unfold argsOk at a;unfold checkBuiltinCall;rw[F.kind_max]
  revert a
  cases Manifest.signature? "max" with
  |none=>intro _;rfl
  |some sg=>intro a;exact a
 refine sj ck ?_;have bp:tw "max" ["key","default"] 0 ⟨[],[("default",.int dv t0)]⟩=pure [none,some (.int dv t0)]:=by kernel_rfl
 refine ae (m:=tw "max" ["key","default"] 0 ⟨[],[("default",.int dv t0)]⟩) (sj bp (ae (aj (ae (nu pl.isList (ae (dz ?_)))))));rw[nm];have ne1:q≠s.heap.objs.size:=aw lp;have W:=wc (prog:=X.prog) (w:=X.w) (A:=X.A.in1) hh s.heap.objs.size q ne1 its.toArray;rw[hn]at W;generalize hit:({cls:=.type "list_iterator",data:=.fields #[.ref q,.int 0 0]}:Obj)=it;have e1:(s.heap.push it).get? s.heap.objs.size=some it:=ax _ (by rw[<-hit];rfl);have s1:(s.heap.push it).objs.size=s.heap.objs.size+1:=size_push' _ _;have eS:((s.heap.push it).push {cls:=.type "list",dict:=none,data:=.seq ([]:List af).toArray}).get? (s.heap.objs.size+1)=some (CI [] 0):=by rw[<-s1];exact ax _ rfl
 have l1:((s.heap.push it).push {cls:=.type "list",dict:=none,data:=.seq ([]:List af).toArray}).IsList q its.toArray:=(pl.isList.push _).push _;have st:((s.heap.push it).push {cls:=.type "list",dict:=none,data:=.seq ([]:List af).toArray}).get? s.heap.objs.size=some it:=ai _ e1;have kp:∀b o,s.heap.get? b=some o->((s.heap.push it).push {cls:=.type "list",dict:=none,data:=.seq ([]:List af).toArray}).get? b=some o:=λb o e=>ai _ (ai _ e);rw[s1];generalize ((s.heap.push it).push {cls:=.type "list",dict:=none,data:=.seq ([]:List af).toArray})=g at eS l1 st kp;refine aj ⟨plainId_quiet F.plain_max_loop _,Y1 (ky:=λi=>ns.getD i 0) W (CmpOf.ints_gt (λi=>ns.getD i 0) (λi v ev=>tN rits ev)) ?_ ns.length 0 {s with heap:=g} [] 0 (by lia) ⟨⟨it,st,by rw[<-hit],by rw[<-hit];rfl⟩,l1⟩ eS rfl λv h' tk hv kk=>?_⟩
 ·intro m
  rcases bh.mp m with z|z
  ·exact Nat.succ_ne_self _ z
  ·exact ju (lg lp) (dy.mp z)
 ·have I':Inv X pins σ H {s with heap:=h',toks:=tk}:=I.kept (t':=tk) λb o e=>by have lt:=au e;exact kk b o (λm=>aw lt (dy.mp m)) (aw (lg lt)) (kp b o e)
  rcases hv with⟨h0,rfl⟩|⟨i,p,pv,hp1,hb⟩
  ·have:ns=[]:=ye.mp h0;rw[if_pos this]at k;exact⟨.int dv,H,I',⟨t0,rfl⟩,k⟩
  ·have hne:ns≠[]:=λz=>by rw[z]at hp1;cases hp1
   rw[if_neg hne]at k;obtain⟨t',rfl⟩:=tN rits pv;refine⟨.int (nY ns),H,I',⟨t',?_⟩,k⟩;rw[hb,nY,hp1];rfl
def rD(dv:Int)(x:Dv)(h:Hs):Rs Dv:=match x with
 |.ref i=>match getL h i with
  |some xs=>match aW eX xs with
   |some ns=>.ok (.int (if ns=[]then dv else nY ns)) h
   |none=>.bad
  |none=>.bad
 |_=>.bad
theorem Y3{me:M Dv}{dv:Int}{cj:Nat}{cpos:Pos}(hc:X.calm=true)(hg:Gl X "max")(hm:X.mg "max"=none)(he:aB X G E e me)(h1:backTo pos (ao [e] X.env)=(false,eval e X.env)::backTo pos (ao [] X.env):=by rfl)(h2:(backTo pos (ao [e] X.env)).any (·.1)=false:=by rfl):
  aB X G E (.Call (.Name "max" p) [e] [⟨some "default",.Constant (.int dv) cj cpos,kpos⟩] pos) (m1 (rD dv) me):=λhK pins s σ H Q I⟨μ,ρ,h,rs,sm,o⟩=>by
 refine jl (oS I hg hm TZ (callWith_kw ?_ h1 h2));rw[h1];refine zi (aH (he hK pins s σ H _ I ⟨μ,ρ,h,rs,sm,Out.bind (R1:=Ac G) o⟩) λu s1⟨v,H1,I1,r1,μ1,x,h1',x1,sm1,rx,o1⟩=>Calls.spliced_nil (kws_cons (aH (E8 pins s1 σ H1 (λv H=>v=.int dv/\H=H1) I1 ⟨rfl,rfl⟩) λu2 s2⟨v2,H2,I2,r2,e2,e3⟩=>kws_nil ?_)));subst e2 e3;obtain⟨t0,rfl⟩:=r2
 cases x with
 |ref i=>
  dsimp only[rD]at o1
  cases q1:getL h1' i with
  |none=>rw[q1]at o1;exact o1.elim
  |some xs=>
   rw[q1]at o1;dsimp only at o1
   cases q2:aW eX xs with
   |none=>rw[q2]at o1;exact o1.elim
   |some ns=>rw[q2]at o1;obtain⟨vs,ea,ra⟩:=sm1.ob i _ (eL q1);obtain⟨_,rfl⟩:=rx;cases r1;exact Y2 hc I2 (by rw[ea,mO ra q2]) (o1.val sm1 rfl)
 |_=>exact o1.elim
end
end L2.Mr
namespace L2
noncomputable def tS(kx vx:ba)(D:ah)(env:Env):Sem Unit:=do
 let kv <-eval kx env
 let vv <-holding [kv] (eval vx env)
 standAt {kx.pos with endLine:=vx.pos.endLine,endCol:=vx.pos.endCol}
 holding [kv,vv] (dictSet D kv vv)
theorem Y4(kx vx tg iter:ba)(sc:dj)(ps:Pos)(it:af)(D:ah)(env:Env):
  compTurn (.DictComp kx vx [⟨tg,iter,[],0⟩] sc ps) 0 it (.ref D) env=
   iG iter.pos it tg [] env (tS kx vx D env) (.compLoop (.DictComp kx vx [⟨tg,iter,[],0⟩] sc ps) 0 it (.ref D) env):=by rfl
abbrev TD:=St->Hp->(St->Hp->Prop)->Prop
noncomputable def PD(X:Cx)(m:Sem Unit)(t:TD):Prop:=∀(pins:List (ah×Obj))(s:ag)(σ:St)(H:Hp)(K:St->Hp->Prop),Inv X pins σ H s->t σ H K->
 wpAny (model X.prog X.w) X.A m (λ_ s'=>∃σ' H',Inv X pins σ' H' s'/\K σ' H') X.xe s
noncomputable def CJ(J:It)(g:TG)(inner:TD)(K:St->Hp->Prop)(σ:St)(H:Hp):Prop:=
 ∃W:Nat->Nat->St->Hp->Prop,(∃m,W 0 m σ H)/\∀i m σ H,W i m σ H->
  (J.stop i H/\K σ H)∨(J.go i H/\∃N:St->Hp->Prop,(∀σ' H',N σ' H'->∃m',m'<m/\W (i+1) m' σ' H')/\∀x H',J.yld i H x H'->g x σ H' λσ2 H2=>inner σ2 H2 N)
section
variable{X:Cx}{D:ah}
theorem Y5{kx vx tg iter:ba}{sc:dj}{ps:Pos}{it:ah}{g:TG}{ti:TD}{J:It}{fp:List ah}{tn:Nat->bx->Prop}(hx:X.xe=λ_ _=>False)(hc:X.calm=true)(hg:PG X tg g)(hi:PD X (tS kx vx D X.env) ti)(T:Turn X.prog X.w X.K tg J fp it tn){pins:List (ah×Obj)}{s:ag}{σ:St}{H:Hp}{K:St->Hp->Prop}{R:sv->ag->Prop}(I:Inv X pins σ H s)(st:tn 0 s.heap)(hf:∀b∈fp,bQ X pins H b)(h:CJ J g ti K σ H)(hR:∀σ' H' s',Inv X pins σ' H' s'->K σ' H'->R (.ok .next) s'):
  codeAny (model X.prog X.w) X.A (.compLoop (.DictComp kx vx [⟨tg,iter,[],0⟩] sc ps) 0 (.ref it) (.ref D) X.env) R s:=by
 obtain⟨W,⟨m0,w0⟩,turn⟩:=h;have stat:∀{H':Hp},(∀b∈fp,H' b=none)->∀b∈fp,bQ X pins H' b:=λhn b hb=>⟨hn b hb,(hf b hb).2⟩
 refine codeAny_loop rfl (λn s'=>∃i σ' H',Inv X pins σ' H' s'/\tn i s'.heap/\(∀b∈fp,H' b=none)/\W i n σ' H') ?_ m0 ⟨0,σ,H,I,st,λb hb=>(hf b hb).1,w0⟩
 rintro n s3 ⟨i,σ3,H3,I3,st3,fr3,w3⟩
 show wpAny _ X.A ((compTurn (.DictComp kx vx [⟨tg,iter,[],0⟩] sc ps) 0 (.ref it) (.ref D) X.env).onRaise (λx=>do noteFrame x X.env;theTreesLotGoes x)) _ _ s3;rw[Y4];refine pk (jk (Q:=λfin s'=>match fin with|.done f=>R (.ok f) s'|.again c'=>c'=.compLoop (.DictComp kx vx [⟨tg,iter,[],0⟩] sc ps) 0 (.ref it) (.ref D) X.env/\∃m,m<n/\∃i σ' H',Inv X pins σ' H' s'/\tn i s'.heap/\(∀b∈fp,H' b=none)/\W i m σ' H') (E:=λ_ _=>False) ?_ (λ_ _ z=>z) λ_ _ z=>z.elim);unfold iG;refine ae (jn (ae ?_));have xe':∀{α:Type}{m:Sem α}{Q:α->ag->Prop}{s:ag},wpAny (model X.prog X.w) X.A m Q X.xe s->wpAny (model X.prog X.w) X.A m Q (λ_ _=>False) s:=λ{α m Q s}z=>by rw[hx]at z;exact z
 rcases turn i n σ3 H3 w3 with⟨stop,qn⟩|⟨go,N,hN,step⟩
 ·refine aH (T.done X rfl rfl rfl hc i _ s3 σ3 H3 (λ_ _=>False) I3 (stat fr3) st3 stop) λr s4⟨hr,I4⟩=>?_;subst hr;exact aj (hR σ3 H3 s4 I4 qn)
 ·refine aH (T.item X rfl rfl rfl hc i _ s3 σ3 H3 (λ_ _=>False) I3 (stat fr3) st3 go) λr s4⟨u,hr,h4⟩=>?_;subst hr;refine ae (aH h4 λ_ s5⟨x,H5,I5,r5,y5,Dk,fr5⟩=>?_);have I5p:=I5.pinned (stat fr5) (T.obj _ _ Dk);refine ae (xe' (aH (hg _ s5 σ3 H5 x u _ I5p r5 (step x H5 y5)) λ_ s6⟨σ6,H6,I6,q6⟩=>?_));refine ae (wpAny_tests_nil ?_);rw[if_pos rfl];refine ae (xe' (aH (hi _ s6 σ6 H6 N I6 q6) λ_ s8⟨σ8,H8,I8,q8⟩=>?_));obtain⟨m',hm,w8⟩:=hN σ8 H8 q8;refine aj ⟨rfl,m',hm,i+1,σ8,H8,I8.unpinned,T.keep _ _ _ Dk λb hb o e=>(I8.pin (b,o) (bc _ (bc _ (lD hb e)))).1,λb hb=>?_,w8⟩;obtain⟨o,e,d⟩:=T.obj _ _ Dk b hb;exact(I8.pin (b,o) (bc _ (bc _ (lD hb e)))).2.1
theorem Y6{i:Nat}{x:Str}{px pos:Pos}{kx vx tg iter:ba}{sc:dj}{ps:Pos}{wi:TI}{g:TG}{ti:ah->TD}{N:zu}{cap:List (Option Nat)}(Cu:swapsWith (.DictComp kx vx [⟨tg,iter,[],0⟩] sc ps) (some (.Name x px)) pos.line X.env=pure true)(hN:X.N.Nodup)(hi':X.N[i]?=some x)(hx:X.env.scope.names.lookup x=some .local)(hc:X.calm=true)(C:Av X sc N cap)(hb:∀pins σ H s,Inv X pins σ H s->sysModules<s.heap.objs.size)(hi:PI X tg iter wi)(hg:∀s H ex,PG (bK X sc N s H ex) tg g)(Dq:∀s H ex D,PD (bK X sc N s H ex) (tS kx vx D (bK X sc N s H ex).env) (ti D))(hs:∀x,foldedSetIterable iter X.env x=pure x):PS X (.Assign [.Name x px] (.DictComp kx vx [⟨tg,iter,[],0⟩] sc ps) pos)
   (λD σ H=>wi σ H λJ H1=>∀p,H1 p=none->CJ J g (ti p) (λ_ H'=>D.nx (σ.set i (some (.ref p))) H') (oV cap σ) (aF H1 p (.dT []))):=by
 intro pins s σ H D I h;rw[uj _ _ _ _ Cu];have Dh:closureFor sc X.env=pure (cS X.env sc.names []):=sG λx hx=>I.ok.has x (C.free x hx);refine ae (jn (ae ?_));show wpAny _ X.A (do let _ <-comprehension (.DictComp kx vx [⟨tg,iter,[],0⟩] sc ps) sc X.env (firstIterPos [⟨tg,iter,[],0⟩] ps) newDict false (eval iter X.env) (some (assign (.Name x px) X.env))) _ _ s;refine ae (aH (my (use:=some (assign (.Name x px) X.env)) (Q:=λ_ s'=>SP X pins D .next s') (g:=⟨tg,iter,[],0⟩) (gs:=[]) rfl hs Dh C.kind C.nd (aH (hi pins s σ H _ I h) λv s1 h1=>aH h1 λitv s2 h2=>?_)) λ_ s' hq=>aj (aj hq));obtain⟨it,fp,tn,J,H2,e,I2,T,Cp,f2,lp⟩:=h2;subst e;refine dz (AI ?_);dsimp only;have nD:H2 s2.heap.objs.size=none:=I2.hok.fresh (aq _);have I3:Inv X pins σ (aF H2 s2.heap.objs.size (.dT [])) {s2 with heap:=s2.heap.push {cls:=.type "dict",dict:=none,data:=.dict #[]} }:=I2.laid (a:=s2.heap.objs.size) (o:=.dT []) (t':=s2.toks) (λ_ _ q=>ai _ q) (aq _) ⟨ja _,beq_eq_false_iff_ne.mpr (cp (aw (hb _ _ _ _ I2))),[],.nil,_,#[],0,ax _ rfl,⟨rfl,rfl,rfl⟩,rfl,rfl,List.nodup_nil⟩;have eD:∃o,(s2.heap.push {cls:=.type "dict",dict:=none,data:=.dict #[]}).get? s2.heap.objs.size=some o:=⟨_,ax _ rfl⟩
 generalize hs3:({s2 with heap:=s2.heap.push {cls:=.type "dict",dict:=none,data:=.dict #[]} }:ag)=s3 at I3;have kp:∀b o,s2.heap.get? b=some o->s3.heap.get? b=some o:=λb o e=>by rw[<-hs3];exact ai _ e
 have hlt:s2.heap.objs.size<s3.heap.objs.size:=by obtain⟨o,eD⟩:=eD;rw[<-hs3];exact au eD
 have hex:∀b∈fp,bQ X pins (aF H2 s2.heap.objs.size (.dT [])) b/\b<s3.heap.objs.size:=λb hb=>by obtain⟨o,e,_⟩:=T.obj 0 _ Cp b hb;refine⟨⟨?_,(f2 b hb).2⟩,au (kp b o e)⟩;rw[aM (aw (au e))];exact(f2 b hb).1
 have I4:=AK (N:=N) (ex:=fp) I3 C hex;have F4:=AL (N:=N) I3 C hex;have st4:tn 0 (pushCells (s3.heap.push {cls:=.type "dict",data:=.dict #[]}) sc.names):=T.keep 0 _ _ Cp λb hb o e=>kj _ _ _ _ (ai _ (kp b o e));have lp':=lp s2.heap.objs.size nD;have loop:codeAny (model X.prog X.w) X.A (.compLoop (.DictComp kx vx [⟨tg,iter,[],0⟩] sc ps) 0 (.ref it) (.ref s2.heap.objs.size) (bK X sc N s3 (aF H2 s2.heap.objs.size (.dT [])) fp).env) (compPost (model X.prog X.w) X.A X.xe (some (assign (.Name x px) X.env)) (λ_ s'=>SP X pins D .next s') (.ref s2.heap.objs.size) s3.heap.objs.size)
   {s3 with heap:=pushCells (s3.heap.push {cls:=.type "dict",data:=.dict #[]}) sc.names}:=by
  refine Y5 (X:=bK X sc N s3 (aF H2 s2.heap.objs.size (.dT [])) fp) rfl hc (hg _ _ _) (Dq _ _ _ _) T I4 st4 F4 lp' λσ' H' s' I' k=>?_;obtain⟨m,hn,_⟩:=I'.loc;have fC:bQ X pins H' s3.heap.objs.size:=I3.fpOk (aq _) I'.free;have I5:Inv X pins σ H' s':=vR I3 hex I' (tj ..);show wpAny _ X.A (assign (.Name x px) X.env (.ref s2.heap.objs.size)) _ _ s';obtain⟨c0,c1,c2,c3,c4,c5⟩:=fC;refine si (vB (v:=Eo s2.heap.objs.size) I5 hN hi' (.inl hx) rfl (λDg I7⟨a,sb,ha⟩=>?_) (.inr hx));have hCa:s3.heap.objs.size≠a:=by
   rcases ha with z|z
   ·rw[z];exact c1
   ·exact cp (c4 x a z)
  refine⟨m,hn.sameBut sb hCa,λh' hh=>?_⟩;have I8:Inv X pins (σ.set i (some (.ref s2.heap.objs.size))) H' {Dg with heap:=h'}:=I7.turned (t':=Dg.toks) (λb o hb e=>(hh.2 b hb).trans e) c0 c1 c3 c4 c5;exact⟨_,_,I8,k⟩
 subst hs3;exact codeAny_compStart_dict loop (T.self _ 0 _ _ _ st4 loop)
end
end L2
namespace SR
open PySem PySem.Spec PySem.W PyProof.Rows SM
noncomputable def DcO(h:bx)(d:ah)(es:Array tq)(ep:Nat):Prop:=∃o,h.get? d=some o/\o.ExactDict/\o.data=.dict es ep
noncomputable def tT(d:ah)(i n ep:Nat):Obj:={cls:=.type "dict_keyiterator",data:=.fields #[.ref d,rawInt i,rawInt n,rawInt ep]}
section
variable{prog:bg}{w:bu}{A:bq}{E:af->ag->Prop}{s:ag}{d it:ah}{es:Array tq}{ep:Nat}
theorem DcO.at'{h h':bx}(D:DcO h d es ep)(k:∀o,h.get? d=some o->h'.get? d=some o):DcO h' d es ep:=let ⟨o,a,b⟩:=D;⟨o,k o a,b⟩
theorem DcO.ty(D:DcO s.heap d es ep):s.TypeIs (.ref d) "dict":=let ⟨o,a,b,_⟩:=D;⟨o,a,b.1⟩
theorem DcO.lt{h:bx}(D:DcO h d es ep):d<h.objs.size:=let ⟨o,a,_⟩:=D;au a
theorem J8{i:Nat}{Q:Option af->ag->Prop}(hh:A.handled=none)(D:DcO s.heap d es ep)(hit:s.heap.get? it=some (tT d i es.size ep))(go:∀e h',es[i]?=some e->h'.get? it=some (tT d (i+1) es.size ep)->ic it s.heap h'->Q (some e.key) {s with heap:=h'})(no:∀h',es[i]?=none->zf it s.heap h'->Q none {s with heap:=h'}):wpAny (model prog w) A (pyNext (.ref it)) Q E s:=by
 have hT:s.TypeIs (.ref it) "dict_keyiterator":=⟨_,hit,rfl⟩;have hb:(if Builtin.Dict_items.ownsTuple "dict_keyiterator"=true then 2 else 0)=0:=by decide
 have hi:(if((i:Nat):Int)<0 then none else es[((i:Nat):Int).toNat]?)=es[i]?:=by rw[if_neg (by lia),qv]
 obtain⟨o,ho,hc,hd⟩:=D;unfold pyNext;refine ae (zl (ib (name:=ik "__next__") hT F.slot_dict_keyiterator_next (gv F.slot_dict_keyiterator_next hT F.entry_dict_keyiterator_next ?_ (F.args_dict_keyiterator_next_1 _))));refine ae (m:=Builtin.Dict_items.slot0 "__next__" ⟨[.ref it],[]⟩) (aj (ae (ae (ae (qc hT (aj (ae (wpAny_fieldsOf hit rfl ?_))))))));rw[hb];show wpAny _ _ (Builtin.Dict_items.addrOf (.ref d) >>=_) _ _ s;refine ae (aj (ae (wk ho hd ?_)));rw[if_neg (by simp)];refine ae (aj (ae (wpAny_dictEpoch ho hd ?_)));rw[if_neg (by simp)];refine aj ?_;show wpAny _ _ (match (if((i:Nat):Int)<0 then none else es[((i:Nat):Int).toNat]?)with|some e=>_|none=>_) _ _ s;rw[hi]
 cases hx:es[i]? with
 |some e=>
  refine ae (ae (qc hT (aj (ae (wpAny_isOneOf_keyiter hT ?_)))));rw[hb];show wpAny _ _ (setField (.ref it) 1 (rawInt (((i:Nat):Int)+1)) >>=_) _ _ s;refine ae (kg hit (by simp) λh1 g1 b1=>?_);have g2:h1.get? it=some (tT d (i+1) es.size ep):=by rw[g1];rfl
  refine ae (fg (ae (wpAny_isOneOf_keyiter (s:={s with heap:=h1}) ⟨_,g2,rfl⟩ ?_)));show wpAny _ _ (pure e.key) _ _ _;exact aj (aj ⟨_,rfl,aj (go e h1 hx g2 b1)⟩)
 |none=>refine ae (ae (qc hT (aj ?_)));rw[hb];refine ae (m:=setField (.ref it) 0 jm) (kg hit (by simp) λh1 g1 b1=>?_);show wpAny _ _ (newExc (.type "StopIteration") [] >>=_) _ _ _;refine ae ?_;simp only[newExc,newTuple];refine ae (dz ?_ (by size_fits));refine ae (m:=firstArgMember _ _) (sj (a:=jm) (by first|rfl|(simp only[firstArgMember];rfl)) ?_);refine dz ?_ (by size_fits);simp only[raiseNew];refine ae (wpAny_handled ?_);rw[show A.in1.handled=none from hh];refine ae (aj (wpAny_throw ?_));refine ae (wpAny_isInstance (T:="StopIteration") (b:=true) ⟨_,ax _ rfl,rfl⟩ isSubtype_stop ?_);exact aj (no _ hx ((b1.extBut.push _).push _))
end
section
variable{prog:bg}{w:bu}{A:bq}{E:af->ag->Prop}{s:ag}{d it:ah}{es:Array tq}{ep:Nat}
theorem Y7(hh:A.handled=none)(I:ah)(hne:d≠I):
  Walks prog w A I [I,d] [I] es.size (λi v=>∃e,es[i]?=some e/\v=e.key) (λi h=>DcO h d es ep/\h.get? I=some (tT d i es.size ep)) where
 sub:=λb hb=>by rw[dy.mp hb];exact bo ..
 frame:=λi h h'⟨p,q⟩k=>⟨p.at' (k d (by simp)),k I (by simp) _ q⟩
 item:=λi s Q E hi⟨p,q⟩hQ=>J8 hh p q (λe h' hx q' sb=>hQ _ h' s.toks ⟨_,hx,rfl⟩ ⟨p.at' λo e=>(sb.2 d hne).trans e,q'⟩ λb o hb e=>(sb.2 b λz=>hb (by rw[z];exact bo ..)).trans e) λh' hx _=>by rw[qk hi]at hx;cases hx
 done:=λs Q E⟨p,q⟩hQ=>J8 hh p q (λe h' hx _ _=>by rw[yf (aq _)]at hx;cases hx) λh' _ x=>hQ h' s.toks λb o hb e=>x b o (λz=>hb (by rw[z];exact bo ..)) e
 self:=λi s Q E⟨_,q⟩hQ=>wpAny_pyIter_keyiter (d:=d) (i:=i) (n:=es.size) (ep:=ep) ⟨_,q,rfl,rfl⟩ hQ
theorem Y8{Q:af->ag->Prop}(lo:(d==sysModules)=false)(D:DcO s.heap d es ep)(h:Q (.ref s.heap.objs.size) {s with heap:=s.heap.push (tT d 0 es.size ep)}):wpAny (model prog w) A (pyIter (.ref d)) Q E s:=by obtain⟨o,ho,hc,hd⟩:=id D;refine wpAny_pyIter_slot D.ty F.slot_dict_iter (gv F.slot_dict_iter D.ty F.entry_dict_iter ?_ (F.args_dict_iter_1 _));show wpAny _ _ ((Builtin.Dict.notOrdered "__iter__" ⟨[.ref d],[]⟩ >>=_) >>=_) _ _ s;refine ae (ae (wpAny_notOrdered_dict D.ty (aj (ae (m:=Builtin.Dict.addrOf (.ref d)) (aj (ae ?_))))));unfold Builtin.Dict.showsAll;rw[lo,if_neg jc];exact aj (ae (wk ho hd (ae (wpAny_dictEpoch ho hd (ae (dz (aj ⟨_,rfl,"dict_keyiterator",_,⟨_,ax _ rfl,rfl⟩,F.slot_dict_keyiterator_next.lookup,h⟩)))))))
theorem Y9(lo:(d==sysModules)=false):KdlSrc prog w "dict" d d es.size (λi v=>∃e,es[i]?=some e/\v=e.key) (λh=>DcO h d es ep) where
 type:=λ_ hm=>hm.ty
 there:=λ_ hm=>⟨hm.lt,hm.lt⟩
 keep:=λ_ _ hm hk=>hm.at' λo e=>hk d (.inl rfl) o e
 notList:=by decide
 notTuple:=by decide
 hint:=λ_ _ _ _ hm hq=>kdl_hint_dict hm.ty hq
 iter:=λ_ _ hh hm=>⟨_,_,(λ_ _ hq=>Y8 lo hm hq),Y7 (ep:=ep) hh _ (aw hm.lt),⟨hm.at' λo e=>ai _ e,ax _ rfl⟩⟩
theorem ZA{Q:List af->ag->Prop}(hh:A.handled=none)(lo:(d==sysModules)=false)(D:DcO s.heap d es ep)(hn:es.size<=bj)(q:∀(h':bx)(tk:Nat),(∀b o,s.heap.get? b=some o->h'.get? b=some o)->s.heap.objs.size<=h'.objs.size->Q (es.toList.map (·.key)) {s with heap:=h',toks:=tk}):wpAny (model prog w) A (collect (.ref d)) Q E s:=by
 have la:d<s.heap.objs.size:=D.lt;have up1:∀b o,s.heap.get? b=some o->(s.heap.push (seqObj "list" #[] 0)).get? b=some o:=λb o e=>ai _ e;have hS1:(s.heap.push (seqObj "list" #[] 0)).get? s.heap.objs.size=some (seqObj "list" #[] 0):=ax _ rfl;unfold collect;refine ae (wpAny_runValue (qj entry_proto_collect' ?_));rw[nr F.plain_proto_collect _];refine ae (m:=newList []) (zo (aj ⟨Code.quiet_builtin _ (by decide+kernel),qj entry_list_iadd' ?_⟩));rw[nr F.plain_list_iadd _];refine jk (kdl_extend (A:=A) (s:={s with heap:=s.heap.push (seqObj "list" #[] 0)}) (R:=λr s'=>match r with
  |.ok (.ret v)=>wpAny (model prog w) A (match v with
   |.ref a=>do
    let o <-load a
    match o.data with
    |.seq xs _=>pure xs.toList
    |_=>unsupported "internal:collect"
   |_=>unsupported "internal:collect") Q E s'
  |.ok _=>False
  |.error e=>E e s') (Y9 (es:=es) (ep:=ep) lo) hh (D.at' (up1 d)) s.heap.objs.size (ju la) (ju la) (.ref s.heap.objs.size) 0 hS1 (λh' tk acc c ke hS' ia=>?_) hn) (λfin s' z=>by cases fin<;>exact z) λ_ _ z=>z
 show wpAny _ A (load s.heap.objs.size >>=_) _ _ _;refine ae (wpAny_load hS' (aj ?_));have eacc:acc.toList=es.toList.map (·.key):=by
  apply List.ext_getElem?
  intro i;rw[nh,fx,nh]
  cases q:acc[i]? with
  |some v=>obtain⟨x,h1,h2⟩:=ia.2 i v q;rw[h1,h2];rfl
  |none=>have h1:acc.size<=i:=Array.getElem?_eq_none_iff.mp q;rw[yf (by rw[<-ia.1];exact h1)];rfl
 rw[eacc];exact q h' tk (λb o e=>ke b o (aw (au e)) (up1 b o e)) (ij (au hS'))
end
end SR
namespace L2.Mr
open SR
noncomputable def iX(ks:y')(k:zr):y':=if k∈ks then ks else ks++[k]
abbrev KD(H:Hp)(ks:y')(xs:List (List dD×ah×af)):Prop:=Paired (λ(p:List dD×V)(q:List dD×ah×af)=>p.1=q.1/\H q.2.1=some (.tup (p.1.map kV))/\RelV p.2 q.2.2) (fH ks) xs
theorem CK(k:zr):(k.map jg:List dD).map kV=k.map Ef:=by rw[lj];rfl
theorem inl_inj{k j:zr}:(k.map jg:List dD)=j.map jg↔k=j:=⟨λh=>(List.map_inj_right λa b e=>Sum.inl.inj e).mp h,λh=>by rw[h]⟩
theorem KD.at_{H:Hp}{k:zr}:∀{ks:y'}{xs:List (List dD×ah×af)},KD H ks xs->(atKey xs (k.map jg)).isSome=decide (k∈ks)
 |[],_,r=>by cases r;rfl
 |j::ks,_,r=>by
  cases r with
  | @cons p q _ qs h t=>
   have ih:=KD.at_ (k:=k) (ks:=ks) t;have e:q.1=j.map jg:=h.1.symm
   by_cases z:j=k
   ·subst z;simp[atKey,List.find?_cons,e]
   ·have z':¬q.1=k.map jg:=λw=>z (inl_inj.mp (e.symm.trans w));have b:atKey (q::qs) (k.map jg)=atKey qs (k.map jg):=by simp[atKey,List.find?_cons,z']
    rw[b,ih];have z2:¬k=j:=λw=>z w.symm;simp[z2]
theorem KD.repl{H:Hp}{k:List dD}:∀{ks:y'}{xs:List (List dD×ah×af)},KD H ks xs->KD H ks (xs.map (putAt k (.bool true)))
 |[],_,r=>by cases r;exact .nil
 |j::ks,_,r=>by
  cases r with
  | @cons p q _ qs h t=>
   refine .cons ?_ (KD.repl (ks:=ks) t);obtain⟨h1,h2,h3⟩:=h;unfold putAt
   split
   ·exact⟨h1,h2,rfl⟩
   ·exact⟨h1,h2,h3⟩
theorem KD.snoc{H:Hp}{k:zr}{b:ah}(hb:H b=some (.tup (k.map Ef))):∀{ks:y'}{xs:List (List dD×ah×af)},KD H ks xs->KD H (ks++[k]) (xs++[(k.map jg,b,.bool true)])
 |[],_,r=>by cases r;exact .cons ⟨rfl,by rw[CK];exact hb,rfl⟩ .nil
 |j::ks,_,r=>by
  cases r with
  |cons h t=>exact .cons h (KD.snoc hb (ks:=ks) t)
theorem KD.put{H:Hp}{k:zr}{b:ah}{ks:y'}{xs:List (List dD×ah×af)}(r:KD H ks xs)(hb:H b=some (.tup (k.map Ef))):KD H (iX ks k) (storedH xs (k.map jg) b (.bool true)):=by
 unfold iX storedH;rw[r.at_]
 by_cases h:k∈ks
 ·rw[if_pos h,if_pos (by simpa using h)];exact r.repl
 ·rw[if_neg h,if_neg (by simpa using h)];exact r.snoc hb
theorem KD.keeps{H H':Hp}{ks:y'}{xs:List (List dD×ah×af)}(r:KD H ks xs)(ht:∀b ys,H b=some (.tup ys)->H' b=some (.tup ys)):KD H' ks xs:=Paired.mapP r λ_ _ z=>⟨z.1,ht _ _ z.2.1,z.2.2⟩
theorem KD.tups{H:Hp}:∀{ks:y'}{xs:List (List dD×ah×af)},KD H ks xs->Ao H (xs.map λq=>Eo q.2.1) ks
 |[],_,r=>by cases r;trivial
 |j::ks,_,r=>by
  cases r with
  | @cons p q _ qs h t=>refine⟨⟨q.2.1,rfl,?_⟩,KD.tups (ks:=ks) t⟩;have:=h.2.1;rw[<-CK];exact this
theorem KD.len{H:Hp}{ks:y'}{xs:List (List dD×ah×af)}(r:KD H ks xs):xs.length=ks.length:=by have:=r.tups.len;simpa using this
theorem ZC(ks:y')(k:zr):(iX ks k).length<=ks.length+1:=by unfold iX;split<;>simp
section
variable{X:Cx}{pins:List (ah×Obj)}{σ:St}{H:Hp}{s:ag}{a b:ah}{ks:y'}{k:zr}{A:bq}{E:af->ag->Prop}
theorem xI(I:Inv X pins σ H s)(e:H b=some (.tup (k.map Ef))):(tupleKind (lC X.prog X.w)).is s.heap (k.map jg) b:=by
 obtain⟨_,its,r,o,h1,h2,_,n,h3⟩:=(show Ag X.prog X.w H s.heap b (.tup (k.map Ef)) from I.hok b _ e)
 refine⟨o,its.toArray,n,h1,h2,h3,?_⟩;have all:∀{k:zr}{us:List af},Ae (k.map Ef) us->ItemsAre (lC X.prog X.w) (k.map jg) us:=by
  intro k
  induction k with
  |nil=>intro us r;cases r;exact .nil
  |cons i k ih=>
   intro us r
   cases r with
   |cons h t=>obtain⟨tt,rfl⟩:=h;exact .cons (OQ X.prog X.w i tt) (ih t)
 simpa using all r
theorem xJ(I:Inv X pins σ H s)(e:H a=some (.dT (fH ks))):ks.length<=bj/\(a==sysModules)=false/\∃xs,KD H ks xs/\s.heap.DictOfH (tupleKind (lC X.prog X.w)) a xs:=by
 obtain⟨z,y,xs,r,o,es,ep,h1,h2,h3,h4,h5⟩:=(show Ag X.prog X.w H s.heap a (.dT (fH ks)) from I.hok a _ e)
 refine⟨by simpa[fH]using z,y,xs,r,o,es,ep,h1,h2,h3,h4,λx hx=>?_,h5⟩;have all:∀{ks:y'}{m:List (List dD×ah×af)},KD H ks m->∀x∈m,(tupleKind (lC X.prog X.w)).is s.heap x.1 x.2.1:=by
  intro ks
  induction ks with
  |nil=>intro m q x hx;cases q;exact nomatch hx
  |cons j ks ih=>
   intro m q x hx
   cases q with
   | @cons p q _ qs hq t=>
    rcases bh.mp hx with e|hx
    ·subst e;have e1:x.1=j.map jg:=hq.1.symm;rw[e1];exact xI I (by rw[<-CK];exact hq.2.1)
    ·exact ih t x hx
 exact all r x hx
theorem ZD{Q:af->ag->Prop}(hu:A.units+1<cLine)(I:Inv X pins σ H s)(e:H a=some (.dT (fH ks)))(eb:H b=some (.tup (k.map Ef)))(h:∀s',Inv X pins σ H s'->Q (.bool (decide (k∈ks))) s'):
  wpAny (model X.prog X.w) A (compareOp .In (.ref b) (.ref a)) Q E s:=by
 obtain⟨z,hd,xs,rel,dd⟩:=xJ I e;refine wpAny_in_heap (tupleKind_room_in1 hu) (xI I eb) hd dd ?_;rw[rel.at_];exact h _ (I.tok _)
theorem J9{h':bx}{t':Nat}{xs:List (List dD×ah×af)}(I:Inv X pins σ H s)(e:H a=some (.dT (fH ks)))(eb:H b=some (.tup (k.map Ef)))(hl:ks.length<bj)(rel:KD H ks xs)(hd:(a==sysModules)=false)(dd':h'.DictOfH (tupleKind (lC X.prog X.w)) a (storedH xs (k.map jg) b (.bool true)))(hs:ic a s.heap h'):Inv X pins σ (aF H a (.dT (fH (iX ks k)))) {s with heap:=h',toks:=t'}:=by
 obtain⟨q,es,ep,hq,h2,h3,h4,_,h5⟩:=dd';refine I.write (x:=a) (e:=a) (by rw[e];exact True.intro) (.inl rfl) (λb q hb z=>(hs.2 b hb).trans z) ⟨q,hq⟩ ⟨?_,hd,_,(rel.put eb).keeps λc ys ec=>?_,q,es,ep,hq,h2,h3,h4,h5⟩
 ·have:=ZC ks k;show((iX ks k).map _).length<=_;rw[cg];lia
 ·rw[aM (eG ec e (λz=>nomatch z))];exact ec
theorem ZE{Q:Unit->ag->Prop}(hu:A.units+1<cLine)(I:Inv X pins σ H s)(e:H a=some (.dT (fH ks)))(eb:H b=some (.tup (k.map Ef)))(hl:ks.length<bj)(h:∀s',Inv X pins σ (aF H a (.dT (fH (iX ks k)))) s'->Q () s'):
  wpAny (model X.prog X.w) A (setItem (.ref a) (.ref b) (.bool true)) Q E s:=by
 obtain⟨z,hd,xs,rel,dd⟩:=xJ I e;exact wpAny_setItem_heap (hsz:=by rw[rel.len];exact z) (tupleKind_room_in1 hu) (xI I eb) dd λh' dd' hs=>h _ (J9 I e eb hl rel hd dd' hs)
theorem ZF{Q:Unit->ag->Prop}(hu:A.units<cLine)(I:Inv X pins σ H s)(e:H a=some (.dT (fH ks)))(eb:H b=some (.tup (k.map Ef)))(hl:ks.length<bj)(h:∀s',Inv X pins σ (aF H a (.dT (fH (iX ks k)))) s'->Q () s'):
  wpAny (model X.prog X.w) A (dictSet a (.ref b) (.bool true)) Q E s:=by
 obtain⟨z,hd,xs,rel,dd⟩:=xJ I e;exact wpAny_dictSet_heap (hsz:=by rw[rel.len];exact z) (knd:=tupleKind (lC X.prog X.w)) hu (xI I eb) dd λh' dd' hs=>h _ (J9 I e eb hl rel hd dd' hs)
theorem ZG(rm:Aq k' X.A):Am X (.builtin "sorted") (λxs H Q=>∃(a:ah)(ks:y'),xs=[.ref a]/\H a=some (.dT (fH ks))/\(∀k∈ks,k≠[])/\ks.length<64/\∀l Bh,H l=none->Ao H Bh (oA dX ks)->Q (.ref l) (aF H l (.lst Bh))):=by
 intro pins s σ H xs us Q I rv ⟨a,ks,e,ha,ne,h64,q⟩;subst e;obtain⟨u,rfl,ru⟩:=gI rv;cases ru;obtain⟨z,hd,xs,rel,⟨o,es,ep,h1,h2,h3,h4,h5,h6⟩⟩:=xJ I ha;have ht:=rel.tups;have ekey:es.toList.map (·.key)=cR ks.length (oC (xs.map λq=>Eo q.2.1)):=by
  rw[h4,lj]
  apply List.ext_getElem
  ·simp[cR,rel.len]
  ·intro i hi hi';simp[cR,oC,J0,entryOfKey];have:i<xs.length:=by simpa using hi
   simp[this]
 refine YA h64 (YF I ht ne) (λQ' E' hQ=>?_) λh' tk D e out so hD ho k=>?_
 ·rw[<-ekey]at hQ;refine ZA (es:=es) (ep:=ep) rm.hd hd ⟨o,h1,h2,h3⟩ ?_ λh' tk k sz=>hQ h' tk k sz;have:es.size=xs.length:=by rw[<-ou,h4,cg]
  rw[this,rel.len];exact z
 ·obtain⟨pp,Bh,g1,g2,g3,g4⟩:=YG (H:=H) so λi hi=>(ht.at_ hi).2;have e1:pp.map (λi=>ks.getD i [])=oA dX ks:=X2 stoL g2 (YH g1 rfl);rw[e1]at g4;have hl:=g4.len;refine⟨.ref D,_,I.laid (t':=tk) k hD (show Ag X.prog X.w _ _ _ (.lst Bh) from⟨?_,out,e,g3,ho⟩),rfl,q D Bh (I.hok.fresh hD) g4⟩;rw[hl,(CA ks).length_eq,ly];lia
end
section
variable{G:Cfg}{μ:Nat->ah}{h:Hs}{H H':Hp}{p:ah}{n:Nat}
theorem Ai.allocD(s:Ai G μ h H)(hp:H p=none)(ks:y' ⊕ wo):
  Ext μ h.length H (λi=>if i=h.length then p else μ i) (h++[Ob.dct ks]).length (aF H p (dO ks))/\Ai G (λi=>if i=h.length then p else μ i) (h++[.dct ks]) (aF H p (dO ks)):=by
 have hl:(h++[Ob.dct ks]).length=h.length+1:=by simp
 have hq:=s.not hp;have x:Ext μ h.length H (λi=>if i=h.length then p else μ i) (h++[Ob.dct ks]).length (aF H p (dO ks)):=⟨by lia,λi hi=>if_neg (aw hi),λa o _ e=>cJ hp a o e⟩
 refine⟨x,λi j hi hj e=>?_,λi o q=>?_,s.tab.keep λa o _ _ q=>cJ hp a o q⟩
 ·rw[hl]at hi hj
  by_cases h1:i=h.length<;>by_cases h2:j=h.length
  ·lia
  ·rw[if_pos h1,if_neg h2]at e;exact absurd e.symm (hq j (by lia))
  ·rw[if_neg h1,if_pos h2]at e;exact absurd e (hq i (by lia))
  ·rw[if_neg h1,if_neg h2]at e;exact s.inj i j (by lia) (by lia) e
 ·by_cases h1:i<h.length
  ·rw[di h1]at q;have r1:=s.ob i o q;rw[if_neg (aw h1)]
   cases o with
   |lst xs=>obtain⟨ws,e1,r2⟩:=r1;exact⟨ws,cJ hp _ _ e1,Eb x _ _ r2⟩
   |clo k t=>exact r1.clo x
   |dct ks=>exact cJ hp _ _ r1
   |ins xs=>obtain⟨dx,ws,e1,r2⟩:=r1;exact⟨dx,ws,cJ hp _ _ e1,Eb x _ _ r2⟩
  ·rw[gz (by lia)]at q;have h2:i=h.length:=by have:=(av.mp q).1;simp at this;lia
   subst h2;simp at q;subst q;rw[if_pos rfl];exact bP
theorem Ai.writeD{i:Nat}{ks:y' ⊕ wo}(s:Ai G μ h H)(q:h[i]?=some (.dct ks))(ks':y' ⊕ wo):
  Ext μ h.length H μ (h.set i (.dct ks')).length (aF H (μ i) (dO ks'))/\Ai G μ (h.set i (.dct ks')) (aF H (μ i) (dO ks')):=by
 have e0:H (μ i)=some (dO ks):=s.ob i _ q;have hi:i<h.length:=(av.mp q).1;have im:∀a o,(∀d,o≠dO d)->H a=some o->aF H (μ i) (dO ks') a=some o:=λa o m e=>by
  rw[aM];exact e
  rintro rfl;rw[e0]at e;cases e;exact m _ rfl
 have x:Ext μ h.length H μ (h.set i (.dct ks')).length (aF H (μ i) (dO ks')):=⟨by simp,λ_ _=>rfl,λa o m e=>im a o (λd z=>by subst z;rcases sQ d with⟨l,e⟩|⟨l,e,ne⟩<;>rw[e]at m;exact m;exact ne m) e⟩
 refine⟨x,λa b ha hb=>?_,λj o e=>?_,λP lq e=>?_⟩
 ·rw[jq]at ha hb;exact s.inj a b ha hb
 ·by_cases Br:i=j
  ·subst Br;rw[da hi]at e;cases e;exact bP
  ·rw[gg Br]at e;have hj:j<h.length:=(av.mp e).1;have r1:=s.ob j o e;have ne:μ j≠μ i:=λz=>Br (s.inj j i hj hi z).symm
   cases o with
   |lst zs=>obtain⟨ws,e1,r2⟩:=r1;exact⟨ws,by rw[aM ne];exact e1,Eb x _ _ r2⟩
   |clo k t=>exact r1.clo x
   |dct ks=>exact(aM ne).trans r1
   |ins zs=>obtain⟨dx,ws,e1,r2⟩:=r1;exact⟨dx,ws,by rw[aM ne];exact e1,Eb x _ _ r2⟩
 ·obtain⟨ps,h1,h2,h3⟩:=s.tab P lq e;refine⟨ps,im P _ (λd z=>by rcases sQ d with⟨_,e⟩|⟨_,e,_⟩<;>rw[e]at z<;>cases z) h1,h2,λpos cv q=>?_⟩;obtain⟨a,oc,e1,e2,e3⟩:=h3 pos cv q;exact⟨a,oc,e1,im a _ (λd z=>by rcases sQ d with⟨_,e⟩|⟨_,e,_⟩<;>rw[e]at z<;>cases z) e2,e3⟩
end
noncomputable def getD(h:Hs)(i:Nat):Option y':=match h[i]? with
 |some (.dct (.inl ks))=>some ks
 |_=>none
theorem xK{h:Hs}{i:Nat}{ks:y'}(e:getD h i=some ks):h[i]?=some (.dct (.inl ks)):=by
 unfold getD at e
 split at e
 ·rename_i q;rw[q];cases e;rfl
 ·cases e
section
variable{X:Cx}{G:Cfg}{E:XK}{k:Nat}{e a b o i kx vx tg iter:ba}{mo me mi ma mb mk mv:M Dv}{aU:M zw}{pos p px ps:Pos}
def tU(x y:Dv)(h:Hs):Rs Dv:=match x,y with
 |.tup xs,.ref j=>match getD h j,aW eX xs with
  |some ks,some k=>.ok (.bl (decide (k∈ks))) h
  |_,_=>.bad
 |_,_=>.bad
abbrev KA:R2:=λx y H Q=>∃a b ks k,y=.ref a/\x=.ref b/\H a=some (.dT (fH ks))/\H b=some (.tup (k.map Ef))/\Q (.bl (decide (k∈ks))) H
theorem ZH(hu:X.A.units+64<cLine):Bi X (compareOp .In) KA:=by
 intro pins s σ H x y v u Q I r1 r2 ⟨a,b,ks,k,e1,e2,h1,h2,q⟩;subst e1;subst e2
 cases r1;cases r2
 exact ZD (by lia) I h1 h2 λs' I'=>⟨.bl (decide (k∈ks)),H,I',rfl,q⟩
theorem ZI:eA G KA tU:=by
 intro E μ h H x y vx vy Q s rx ry o;unfold tU at o
 split at o
 ·rename_i xs j
  cases q1:getD h j with
  |none=>rw[q1]at o;exact o.elim
  |some ks=>
   cases q2:aW eX xs with
   |none=>rw[q1,q2]at o;exact o.elim
   |some k=>rw[q1,q2]at o;obtain⟨a,us,rfl,ea,ra⟩:=rx;obtain⟨_,rfl⟩:=ry;exact⟨_,a,ks,k,rfl,rfl,s.ob j _ (xK q1),by rw[ea,mO ra q2],o.val s rfl⟩
 ·exact o.elim
theorem KC(g:Good X G E k)(ha:aB X G E a ma)(hb:aB X G E b mb)(hm:behindInMarks .In b=false:=by rfl):fK X G E (.Compare a [.In] [b] pos) (mB (m2 tU ma mb)):=λhK=>sT (ZH (by have:=g.room.un;lia)) ZI ha hb hm hK
def tV(o i d:Dv)(h:Hs):Option Hs:=match o,i,d with
 |.ref j,.tup xs,.bl true=>match getD h j,aW eX xs with
  |some ks,some k=>if ks.length<1000000 then some (h.set j (.dct (.inl (iX ks k))))else none
  |_,_=>none
 |_,_,_=>none
def KG(mo mi me:M Dv):MS:=λρ h=>(me ρ h).thenS λd h1=>(mo ρ h1).thenS λo h2=>(mi ρ h2).thenS λi h3=>match tV o i d h3 with
 |some h4=>.nx ρ h4
 |none=>.bad
theorem KH{μ:Nat->ah}{h h':Hs}{H:Hp}{o i d:Dv}{vo vi v:V}(s:Ai G μ h H)(ro:Ac G μ h.length H o vo)(ri:Ac G μ h.length H i vi)(rd:Ac G μ h.length H d v)(e:tV o i d h=some h'):
  ∃a b ks k,vo=.ref a/\vi=.ref b/\v=.bl true/\H a=some (.dT (fH ks))/\H b=some (.tup (k.map Ef))/\ks.length<bj/\Ext μ h.length H μ h'.length (aF H a (.dT (fH (iX ks k))))/\Ai G μ h' (aF H a (.dT (fH (iX ks k)))):=by
 unfold tV at e
 split at e
 ·rename_i j xs
  cases q1:getD h j with
  |none=>rw[q1]at e;cases e
  |some ks=>
   cases q2:aW eX xs with
   |none=>rw[q1,q2]at e;cases e
   |some k=>
    rw[q1,q2]at e;dsimp only at e
    split at e
    ·rename_i hl;cases e;obtain⟨_,rfl⟩:=ro;obtain⟨b,us,rfl,eb,rb⟩:=ri;rw[Ac]at rd;obtain⟨x4,s4⟩:=s.writeD (xK q1) (.inl (iX ks k));exact⟨_,b,ks,k,rfl,rfl,rd,s.ob j _ (xK q1),by rw[eb,mO rb q2],by rw[ly];lia,x4,s4⟩
    ·cases e
 ·cases e
theorem ZJ(hu:X.A.units+64<cLine):FG X (λo i v H Q=>∃a b ks k,o=.ref a/\i=.ref b/\v=.bl true/\H a=some (.dT (fH ks))/\H b=some (.tup (k.map Ef))/\ks.length<bj/\Q (aF H a (.dT (fH (iX ks k))))):=by
 intro pins s σ H o i v ov iv u Q I ro ri rv ⟨a,b,ks,k,e1,e2,e3,h1,h2,hl,q⟩;subst e1;subst e2;subst e3
 cases ro;cases ri;cases rv
 exact ZE (by lia) I h1 h2 hl λs' I'=>⟨_,I',q⟩
theorem ZK{spos:Pos}(g:Good X G E k)(ho:aB X G E o mo)(hi:aB X G E i mi)(he:aB X G E e me)(ha:∀v,assign (.Subscript o i spos) X.env v=(do
   let ov <-holding [v] (eval o X.env)
   let iv <-holding [v,ov] (eval i X.env)
   standAt spos
   holding [v,ov,iv] (setItem ov iv v)
   release [v,ov,iv] []):=by intro _;rfl)(hs:swapsWithSole [.Subscript o i spos] e pos.line X.env=pure false:=by rfl)(hw:swappedStores [.Subscript o i spos] e X.env=pure none:=by rfl)(h1:(assignEach [.Subscript o i spos] X.env).map (·.2)=[assign (.Subscript o i spos) X.env]:=by rfl):fL X G E (.Assign [.Subscript o i spos] e pos) (KG mo mi me):=λhK=>
 PS.imp (zT (he hK) (PX (ho hK) (hi hK) (ZJ (by have:=g.room.un;lia)) ha) hs hw h1) λD σ H⟨μ,ρ,h,rs,s,oo⟩=>gY rs s oo λμ1 d h1 v H1 x1 Ak s1 r1 o1=>gY Ak s1 o1 λμ2 ob h2 vo H2 x2 Bu s2 r2 o2=>gY Bu s2 o2 λμ3 ix h3 vi H3 x3 Ct s3 r3 o3=>by
  cases q:tV ob ix d h3 with
  |none=>rw[q]at o3;exact o3.elim
  |some h4=>rw[q]at o3;obtain⟨a,b,ks,k,e1,e2,e3,g1,g2,g3,x4,s4⟩:=KH s3 (El x3 _ _ r2) r3 (El (x2.trans x3) _ _ r1) q;exact⟨a,b,ks,k,e1,e2,e3,g1,g2,g3,o3 μ3 _ σ x4 s4 (Ct.mono x4)⟩
def xM(x:Dv)(h:Hs):Rs Dv:=match x with
 |.ref j=>match getD h j with
  |some ks=>if(J3 ks&&decide (ks.length<64))=true then .ok (.ref h.length) (h++[.lst ((oA dX ks).map CD)])else .bad
  |none=>.bad
 |_=>.bad
theorem ZL:iT G (λx H Q=>∃(a:ah)(ks:y'),x=.ref a/\H a=some (.dT (fH ks))/\(∀k∈ks,k≠[])/\ks.length<64/\∀l Bh,H l=none->Ao H Bh (oA dX ks)->Q (.ref l) (aF H l (.lst Bh))) xM:=by
 intro E μ h H x vx Q s r o
 cases x with
 |ref j=>
  dsimp only[xM]at o
  cases q2:getD h j with
  |none=>rw[q2]at o;exact o.elim
  |some ks=>
   rw[q2]at o;dsimp only at o
   split at o
   ·rename_i h0;rw[dh]at h0;obtain⟨_,rfl⟩:=r;exact⟨_,ks,rfl,s.ob j _ (xK q2),YI h0.1,by simpa using h0.2,λl Bh hl ht=>oY s (J2 ht) hl o⟩
   ·exact o.elim
 |_=>exact o.elim
theorem ZM(g:Good X G E k)(hg:Gl X "sorted")(hm:X.mg "sorted"=none)(ha:dH X G E [e] aU)(he:ao [e] X.env=[(false,eval e X.env)]:=by rfl):aB X G E (.Call (.Name "sorted" p) [e] [] pos) (aE (f1 xM) aU):=
 sY (Am.imp (ZG g.room) λxs H Q⟨v,h1,a,ks,h2,h3⟩=>⟨a,ks,by rw[h1,h2],h3⟩) (nL ZL) hg hm XM ha (by decide) (by decide) he rfl
end
def xN(mk mv:M Dv)(j:Nat)(ρ:Ev)(h:Hs):Option Hs:=match mk ρ h with
 |.ok kd h1=>match mv ρ h1 with
  |.ok vd h2=>tV (.ref j) kd vd h2
  |_=>none
 |_=>none
def oH(src:Src)(st:cH)(mk mv:M Dv)(j:Nat):Nat->Nat->Ev->Hs->Option Hs
 |0,_=>λ_ h=>if src.fin h=true then some h else none
 |f+1,k=>λρ h=>match src.get k h with
  |none=>none
  |some d=>match st d ρ with
   |none=>none
   |some ρ1=>match xN mk mv j ρ1 h with
    |some h2=>oH src st mk mv j f (k+1) ρ1 h2
    |none=>none
def KI(mi:M Src)(cap:List (Option Nat))(st:cH)(mk mv:M Dv)(i:Nat):MS:=λρ h=>(mi ρ h).thenS λsrc h1=>match oH src st mk mv h1.length src.n 0 (jP cap ρ) (h1++[.dct (.inl [])])with
 |some h2=>.nx (ρ.set i (some (.ref h1.length))) h2
 |none=>.bad
def CL(G:Cfg)(mk mv:M Dv)(D:ah):TD:=λσ H K=>∃μ ρ h h' j,Ah G μ h.length H ρ σ/\Ai G μ h H/\j<h.length/\μ j=D/\xN mk mv j ρ h=some h'/\
 ∀μ' H',Ext μ h.length H μ' h'.length H'->Ai G μ' h' H'->Ah G μ' h'.length H' ρ σ->K σ H'
section
variable{X Y:Cx}{G:Cfg}{E:XK}{k:Nat}{kx vx tg iter:ba}{mk mv:M Dv}{D:ah}{mi:M Src}{st:cH}{cap:List (Option Nat)}
theorem ZN(hu:Y.A.units+64<cLine)(hk:aB Y G E0 kx mk)(hv:aB Y G E0 vx mv)(hK:Y.K=G.K):PD Y (tS kx vx D Y.env) (CL G mk mv D):=by
 intro pins s σ H K I ⟨μ,ρ,h,h',j,rs,sm,hj,eD,e,kk⟩;unfold xN at e
 cases q:mk ρ h with
 |bad=>rw[q]at e;cases e
 |ex c h1=>rw[q]at e;cases e
 |ok kd h1=>
  rw[q]at e;dsimp only at e
  cases q2:mv ρ h1 with
  |bad=>rw[q2]at e;cases e
  |ex c h2=>rw[q2]at e;cases e
  |ok vd h2=>
   rw[q2]at e;dsimp only at e;unfold tS;refine ae (aH (hk hK pins s σ H (λv H1=>∃μ1,Ext μ h.length H μ1 h1.length H1/\Ai G μ1 h1 H1/\Ac G μ1 h1.length H1 kd v) I ⟨μ,ρ,h,rs,sm,by rw[q];exact λμ1 H1 v x1 s1 r1=>⟨μ1,x1,s1,r1⟩⟩) λu s1⟨v,H1,I1,ru,μ1,x1,sm1,r1⟩=>?_);refine ae (fg (aH (hv hK pins s1 σ H1 (λv H2=>∃μ2,Ext μ1 h1.length H1 μ2 h2.length H2/\Ai G μ2 h2 H2/\Ac G μ2 h2.length H2 vd v) I1 ⟨μ1,ρ,h1,rs.mono x1,sm1,by rw[q2];exact λμ2 H2 v x2 s2 r2=>⟨μ2,x2,s2,r2⟩⟩) λu2 s2⟨v2,H2,I2,ru2,μ2,x2,sm2,r2⟩=>?_));have x12:=x1.trans x2;have ej:μ2 j=D:=(x12.mu j hj).trans eD;obtain⟨a,b,ks,k,e1,e2,e3,g1,g2,g3,x4,s4⟩:=KH (o:=.ref j) (vo:=.ref D) sm2 ⟨ar hj x12.le,by rw[ej]⟩ (El x2 _ _ r1) r2 e;cases e1;subst e2;subst e3
   cases ru;cases ru2
   exact ae (jn (fg (ZF (by lia) I2 g1 g2 g3 λs' I'=>⟨σ,_,I',kk μ2 _ (x12.trans x4) s4 (rs.mono (x12.trans x4))⟩)))
theorem ZO{src:Src}{J:It}{j:Nat}{μ0 μ1:Nat->ah}{n0:Nat}{h1 h':Hs}{H0 H1:Hp}{ρ:Ev}{σ:St}{K:St->Hp->Prop}(ok:Bm G μ0 n0 H0 src J)(x0:Ext μ0 n0 H0 μ1 h1.length H1)(rs:Ah G μ1 h1.length H1 ρ σ)(s1:Ai G μ1 h1 H1)(hj:j<h1.length)(eD:μ1 j=D)(e:oH src st mk mv j src.n 0 ρ h1=some h')(k:∀μ' H' σ',Ext μ1 h1.length H1 μ' h'.length H'->Ai G μ' h' H'->K σ' H'):CJ J (nM G st) (CL G mk mv D) K σ H1:=by
 refine⟨λi m σ H=>∃μ2 ρ2 h2,Ext μ1 h1.length H1 μ2 h2.length H/\Ah G μ2 h2.length H ρ2 σ/\Ai G μ2 h2 H/\i+m=src.n/\oH src st mk mv j m i ρ2 h2=some h',⟨src.n,μ1,ρ,h1,Ej,rs,s1,vb _,e⟩,?_⟩
 rintro i m σ2 H2 ⟨μ2,ρ2,h2,x2,Bu,s2,him,e2⟩
 cases m with
 |zero=>
  unfold oH at e2
  split at e2
  ·rename_i hf;cases e2;exact .inl ⟨(ok i μ2 _ H2 (x0.trans x2) s2).2 (by lia) hf,k μ2 H2 σ2 x2 s2⟩
  ·cases e2
 |succ m=>
  unfold oH at e2
  cases q:src.get i h2 with
  |none=>rw[q]at e2;cases e2
  |some d=>
   rw[q]at e2;dsimp only at e2
   cases q2:st d ρ2 with
   |none=>rw[q2]at e2;cases e2
   |some ρ3=>
    rw[q2]at e2;dsimp only at e2
    cases q3:xN mk mv j ρ3 h2 with
    |none=>rw[q3]at e2;cases e2
    |some h3=>rw[q3]at e2;obtain⟨go,yl⟩:=(ok i μ2 h2 H2 (x0.trans x2) s2).1 (by lia) d q;refine .inr ⟨go,λσ' H'=>∃μ3 ρ4 h4,Ext μ1 h1.length H1 μ3 h4.length H'/\Ah G μ3 h4.length H' ρ4 σ'/\Ai G μ3 h4 H'/\(i+1)+m=src.n/\oH src st mk mv j m (i+1) ρ4 h4=some h',λσ' H' z=>⟨m,jf m,z⟩,λx H' hy=>?_⟩;obtain⟨sm,rx⟩:=yl x H' hy;have xsm:Ext μ2 h2.length H2 μ2 h2.length H':=Ed sm;refine⟨μ2,ρ2,h2.length,d,ρ3,Bu.mono xsm,rx,q2,λσ3 Ct=>⟨μ2,ρ3,h2,h3,j,Ct,s2.same sm,ar hj x2.le,(x2.mu j hj).trans eD,q3,λμ4 H4 x4 s4 rQ=>?_⟩⟩;exact⟨μ4,ρ3,h3,(x2.trans xsm).trans x4,rQ,s4,by lia,e2⟩
theorem ZP{pins:List (ah×Obj)}{σ:St}{H:Hp}{s:ag}(I:Inv X pins σ H s):sysModules<s.heap.objs.size:=Nat.lt_of_le_of_lt (by decide:sysModules<=bz) (I.mod.glob.keeps I.bk).lt
theorem ZQ{i:Nat}{x:Str}{px pos ps:Pos}{sc:dj}{N:zu}(g:Good X G E k)(hN:X.N.Nodup)(hi':X.N[i]?=some x)(C:Av X sc N cap)(hi:iJ X G E tg iter mi)(hg:∀s H ex,gZ (bK X sc N s H ex) G tg st)(hkx:∀s H ex,aB (bK X sc N s H ex) G E0 kx mk)(hvx:∀s H ex,aB (bK X sc N s H ex) G E0 vx mv)(hx:X.env.scope.names.lookup x=some .local:=by rfl)(Cu:swapsWith (.DictComp kx vx [⟨tg,iter,[],0⟩] sc ps) (some (.Name x px)) pos.line X.env=pure true:=by rfl)(hs:∀x,foldedSetIterable iter X.env x=pure x:=by intro _;rfl):fL X G E (.Assign [.Name x px] (.DictComp kx vx [⟨tg,iter,[],0⟩] sc ps) pos) (KI mi cap st mk mv i):=λhK=>
 PS.imp (Y6 (ti:=CL G mk mv) Cu hN hi' hx g.calm C (λpins σ H s I=>ZP I) (hi hK) (λs H ex=>hg s H ex hK) (λs H ex D=>ZN (Y:=bK X sc N s H ex) (by have:=g.room.un;show X.A.units+64<cLine;lia) (hkx s H ex) (hvx s H ex) hK) hs) λD σ H⟨μ,ρ,h,rs,s,o⟩=>by
  refine⟨μ,ρ,h,rs,s,(o.thenS (R:=Bm G)).mono λJ H1⟨μ1,src,h1,x1,s1,ok,o1⟩p hp=>?_⟩
  cases q:oH src st mk mv h1.length src.n 0 (jP cap ρ) (h1++[.dct (.inl [])])with
  |none=>rw[q]at o1;exact o1.elim
  |some h2=>
   rw[q]at o1;obtain⟨x2,s2⟩:=s1.allocD hp (.inl []);have eD:(if h1.length=h1.length then p else μ1 h1.length)=p:=if_pos rfl;refine ZO (j:=h1.length) ok x2 ((A3 (rs.mono x1) cap).mono x2) s2 (by simp) eD q λμ' H' σ' x3 s3=>?_;have x23:=x2.trans x3;refine o1 μ' H' _ x23 s3 ((rs.mono (x1.trans x23)).set i ⟨?_,?_⟩)
   ·exact ar (by simp) x3.le
   ·have:=x3.mu h1.length (by simp);rw[this,eD]
end
section
variable{X:Cx}{G:Cfg}{E:XK}{a b e o:ba}{ma mb me mo:M Dv}{pos p cpos apos:Pos}
def rE:Dv->Dv->Hs->Rs Dv
 |.str x,.str y,h=>lim (x.length+y.length) (.ok (.str (x++y)) h)
 |_,_,_=>.bad
theorem ZR:eA G (λx y H Q=>∃i j,x=.str i/\y=.str j/\i.length+j.length<=bj/\Q (.str (i++j)) H) rE:=by
 intro E μ h H x y vx vy Q s rx ry o
 cases x with
 |str i=>
  cases y with
  |str j=>
   dsimp only[rE]at o;unfold lim at o
   split at o
   ·rename_i hl;exact⟨i,j,rx,ry,nG hl,o.val s rfl⟩
   ·exact o.elim
  |_=>exact o.elim
 |_=>exact o.elim
theorem ZS(ha:aB X G E a ma)(hb:aB X G E b mb):aB X G E (.BinOp a .Add b pos) (m2 rE ma mb):=vV QT ZR ha hb
def xO:Dv->Hs->Rs Dv
 |.str z,h=>lim z.length (.ok (.int z.length) h)
 |_,_=>.bad
theorem ZT:iT G (λx H Q=>∃z,x=.str z/\z.length<=bj/\Q (.int z.length) H) xO:=by
 intro E μ h H d v Q s r1 o
 cases d with
 |str z=>
  dsimp only[xO]at o;unfold lim at o
  split at o
  ·rename_i hl;exact⟨z,r1,nG hl,o.val s rfl⟩
  ·exact o.elim
 |_=>exact o.elim
theorem ZU{es:List ba}{aU:M zw}(hg:Gl X "len")(hm:X.mg "len"=none)(ha:dH X G E (e::es) aU)(he:ao (e::es) X.env=(false,eval e X.env)::ao es X.env:=by rfl)(Bc:(backTo pos (ao es X.env)).any (·.1)=false:=by rfl):aB X G E (.Call (.Name "len" p) (e::es) [] pos) (aE (f1 xO) aU):=λhK=>
 sY (Am.imp (QX (X:=X)) λxs H Q⟨v,h1,z,h2,h3,h4⟩=>⟨v,z.length,h1,by subst h2;exact⟨h3,rfl⟩,h4⟩) (nL ZT) hg hm wd ha (by decide) (by decide) he Bc hK
noncomputable def dP:Dv->Hs->Rs Dv
 |.int i,h=>if i.natAbs.log2<1920 then .ok (.str (ik (toString i))) h else .bad
 |_,_=>.bad
theorem KJ:iT G (λx H Q=>∃i,x=.int i/\i.natAbs.log2<1920/\Q (.str (ik (toString i))) H) dP:=by
 intro E μ h H d v Q s r1 o
 cases d with
 |int i=>
  dsimp only[dP]at o
  split at o
  ·rename_i hl;exact⟨i,r1,hl,o.val s rfl⟩
  ·exact o.elim
 |_=>exact o.elim
theorem xP{es:List ba}{aU:M zw}(hg:Gl X "str")(hm:X.mg "str"=none)(ha:dH X G E (e::es) aU)(he:ao (e::es) X.env=(false,eval e X.env)::ao es X.env:=by rfl)(Bc:(backTo pos (ao es X.env)).any (·.1)=false:=by rfl):aB X G E (.Call (.Name "str" p) (e::es) [] pos) (aE (f1 dP) aU):=λhK=>
 A0 (Am.imp (QV (X:=X)) λxs H Q⟨v,h1,i,h2,h3,h4⟩=>⟨i,by rw[h1,h2],h3,h4⟩) (nL KJ) hg hm IZ ha (by decide) (by decide) he Bc hK
theorem KL{x:Str}{z:Str}{t:Tok}(hg:Gl X x)(hm:X.mg x=some (.str z t))(hd:(x==Ey)=false:=by decide):aB X G E (.Name x pos) (mC (.str z)):=λ_=>Eg (rX (v:=.str z) hg hm ⟨t,rfl⟩ hd) λσ H Q⟨μ,ρ,h,rs,s,o⟩=>o.val s (show Ac G μ _ H (.str z) (.str z) from rfl)
theorem tW(ha:aB X G E a ma):aB X G E (.FormattedValue a (-1) none pos) (m1 dP ma):=λhK pins s σ H Q I⟨μ,ρ,h,rs,sm,o⟩=>by refine FormattedValue_plain (aH (ha hK pins s σ H _ I (cT rs sm o λμ1 d h1 v H1 x1 Ak s1 r1 o1=>(KJ E μ1 h1 H1 d v Q s1 r1 o1:∃i,v=.int i/\_/\_))) λu s1⟨v,H1,I1,r1,i,hv,hl,q⟩=>?_);subst hv;obtain⟨t,rfl⟩:=r1;exact formatField_int_small hl ⟨.str _,H1,I1.tok _,⟨_,rfl⟩,q⟩
def gO:List (M Dv)->Str->M Dv
 |[],acc=>λρ h=>lim acc.length (.ok (.str acc) h)
 |m::ms,acc=>λρ h=>(m ρ h).bind λd h1=>match d with
  |.str z=>if acc.length+z.length<=1000000 then gO ms (acc++z) ρ h1 else .bad
  |_=>.bad
noncomputable def PJ(X:Cx)(es:List ba)(acc:Str)(t:TE):Prop:=∀(pins:List (ah×Obj))(s:ag)(σ:St)(H:Hp)(Q:VK),Inv X pins σ H s->t σ H Q->wpAny (model X.prog X.w) X.A (joinParts acc (evalEach es X.env)) (EP X pins σ Q) X.xe s
def xQ(X:Cx)(G:Cfg)(E:XK)(es:List ba)(ms:List (M Dv)):Prop:=X.K=G.K->∀acc,PJ X es acc (eI G E (gO ms acc))
theorem CM:xQ X G E [] []:=λhK acc pins s σ H Q I⟨μ,ρ,h,rs,sm,o⟩=>by
 unfold gO lim at o
 split at o
 ·rename_i hl;exact joinParts_nilE (joinParts_nil ⟨.str acc,H,I.tok _,⟨_,rfl⟩,o.val sm rfl⟩ (nG hl))
 ·exact o.elim
theorem mU{es:List ba}{ms:List (M Dv)}(ha:aB X G E a ma)(hs:xQ X G E es ms)(he:evalEach (a::es) X.env=eval a X.env::evalEach es X.env:=by rfl):xQ X G E (a::es) (ma::ms):=λhK acc pins s σ H Q I⟨μ,ρ,h,rs,sm,o⟩=>by
 rw[he,joinParts.eq_2];refine ae (aH (ha hK pins s σ H (λv H1=>∃z,v=.str z/\acc.length+z.length<=bj/\eI G E (gO ms (acc++z)) σ H1 Q) I (cT rs sm o λμ1 d h1 v H1 x1 Ak s1 r1 o1=>?_)) λu s1⟨v,H1,I1,r1,z,hv,hl,q⟩=>?_)
 ·cases d with
  |str z=>
   dsimp only at o1
   split at o1
   ·rename_i hl;exact⟨z,r1,nG hl,μ1,ρ,h1,Ak,s1,o1⟩
   ·exact o1.elim
  |_=>exact o1.elim
 ·subst hv;obtain⟨t,rfl⟩:=r1;refine ae (show wpAny _ _ (pure (some z)) _ _ _ from aj ?_);have hn:¬(acc.length+z.length>bj):=by lia
  simp only[hn,if_false];exact hs hK (acc++z) pins s1 σ H1 Q I1 q
theorem CN{b:ba}{es:List ba}{ms:List (M Dv)}(h:xQ X G E (a::b::es) ms)(he:evalEach (a::b::es) X.env=eval a X.env::eval b X.env::evalEach es X.env:=by rfl):aB X G E (.JoinedStr (a::b::es) pos) (gO ms jo):=λhK pins s σ H Q I t=>by have z:=h hK jo pins s σ H Q I t;rw[he]at z;exact JoinedStr_many z
theorem CO{id:String}{name:Str}{r:V->Ez->Hp->VK->Prop}{to:TE}{t:TA}(slot:Slot "str" name id)(hty:typeOf (.builtin id)=pure (.type "method_descriptor"))(hm:nF X id r)(ho:PE X o to)(ha:PA X [e] t)(Ce:attributeBase o name X.env (eval o X.env)=eval o X.env)(hfew:((backTo cpos (ao [e] X.env)).all (λx=>!x.1)&&(backToKw cpos (keywordEach [] X.env)).all (λx=>x.1.isSome)
   && decide ([e].length+([]:List vq).length+(if([]:List vq).isEmpty then 0 else 1)<30))=true)(Cc:(apos.endLine==cpos.line)=true)(hs:ao [e] X.env=[(false,eval e X.env)]):
  PE X (.Call (.Attribute o name apos) [e] [] cpos) (λσ H Q=>to σ H λx H1=>(∃z,x=.str z)/\t σ H1 λxs H2=>r x xs H2 Q):=by
 intro pins s σ H Q I h;refine uc Ce hfew Cc rfl (aH (ho pins s σ H _ I h) λv s1⟨x,H1,I1,r1,⟨z,ex⟩,q1⟩=>?_);subst ex;obtain⟨tk,rfl⟩:=r1;refine⟨"str",id,PySem.F.plainAttrs_str,slot,hty,typeIs_str s1 z tk,(λb eb=>by cases eb),?_⟩;have hA:=ha cpos pins s1 σ H1 _ I1 q1;rw[hs]at hA⊢;exact mr (by rfl) (oh (aH hA λus s2⟨vs,H2,I2,r2,q2⟩=>hm pins s2 σ H2 (.str z) vs (.str z tk) us Q I2 ⟨tk,rfl⟩ r2 q2))
theorem KN:∀{ys:zu}{us:List af},Ae (ys.map Et) us->StrsAre us ys
 |[],_,h=>by cases h;exact .nil
 |y::ys,_,h=>by
  cases h with
  |cons r rs=>obtain⟨t,rfl⟩:=r;exact .cons y t (KN rs)
theorem ZV:nF X "str.join" (λx xs H Q=>∃z a ys,x=.str z/\xs=[.ref a]/\H a=some (.lst (ys.map Et))/\(ys.map λx=>x.length).sum+ys.length*z.length<=16777216/\Q (.str (oq z ys)) H):=by intro pins s σ H x xs v us Q I rx rv ⟨z,a,ys,e1,e2,ha,hl,q⟩;subst e1;subst e2;obtain⟨t,rfl⟩:=rx;obtain⟨u,rfl,ru⟩:=gI rv;cases ru;obtain⟨its,r,pl,hz⟩:=I.list (Em ha);exact join_list pl.isList (by simpa using KN r) hl λt'' k=>⟨.str _,H,I.tok _,⟨_,rfl⟩,q⟩
noncomputable def oI:Dv->Option Str
 |.str z=>some z
 |_=>none
noncomputable def ZW(x:Dv):Bool:=match x with
 |.str _=>true
 |_=>false
def lO(x y:Dv)(h:Hs):Rs Dv:=match x,y with
 |.str z,.ref i=>match getL h i with
  |some ds=>match aW oI ds with
   |some ys=>if(ys.map λx=>x.length).sum+ys.length*z.length<=16777216 then .ok (.str (oq z ys)) h else .bad
   |none=>.bad
  |none=>.bad
 |_,_=>.bad
def hW(f:Dv->Dv->Hs->Rs Dv)(mo me:M Dv):M Dv:=λρ h=>(mo ρ h).bind λx h1=>if ZW x=true then(me ρ h1).bind λd h2=>f x d h2 else .bad
theorem KO{μ:Nat->ah}{n:Nat}{H:Hp}:∀{ds:zw}{vs:Ez}{ys:zu},RelDL G μ n H ds vs->aW oI ds=some ys->vs=ys.map Et
 |[],_,ys,h,q=>by rw[RelDL]at h;subst h;cases q;rfl
 |d::ds,_,ys,h,q=>by
  rw[RelDL]at h;obtain⟨v,r,rfl,h1,h2⟩:=h
  cases d with
  |str z=>
   simp only[aW,oI]at q
   cases q2:aW oI ds with
   |none=>rw[q2]at q;cases q
   |some zs=>rw[q2]at q;cases q;rw[Ac]at h1;subst h1;rw[KO h2 q2];rfl
  |_=>simp[aW,oI]at q
theorem CP(ho:aB X G E o mo)(he:aB X G E e me)(hb:attributeBase o "join" X.env (eval o X.env)=eval o X.env:=by rfl)(hs:ao [e] X.env=[(false,eval e X.env)]:=by rfl)(hl:(apos.endLine==cpos.line)=true:=by rfl):aB X G E (.Call (.Attribute o "join" apos) [e] [] cpos) (hW lO mo me):=λhK=>
 Eg (CO PySem.F.slot_str_join PySem.F.type_str_join ZV (ho hK) (iR (he hK) jJ hs) hb (by rw[hs];rfl) hl hs) λσ H Q⟨μ,ρ,h,rs,s,oo⟩=>cT rs s oo λμ1 x h1 vx H1 x1 Ak s1 r1 o1=>by
  split at o1
  ·rename_i hl
   cases x with
   |str z=>
    rw[Ac]at r1;subst r1;refine⟨⟨z,rfl⟩,cT Ak s1 o1 λμ2 d h2 vd H2 x2 Bu s2 r2 o2=>?_⟩
    cases d with
    |ref i=>
     dsimp only[lO]at o2
     cases g:getL h2 i with
     |none=>rw[g]at o2;exact o2.elim
     |some ds=>
      rw[g]at o2;dsimp only at o2
      cases q:aW oI ds with
      |none=>rw[q]at o2;exact o2.elim
      |some ys=>
       rw[q]at o2;dsimp only at o2
       split at o2
       ·rename_i hl2;obtain⟨vs,e1,r3⟩:=s2.ob i _ (eL g);obtain⟨_,rfl⟩:=r2;rw[KO r3 q]at e1;exact⟨z,_,ys,rfl,rfl,e1,hl2,o2.val s2 rfl⟩
       ·exact o2.elim
    |_=>exact o2.elim
   |_=>cases hl
  ·exact o1.elim
end
section
variable{X:Cx}{G:Cfg}{E:XK}{a b c e o:ba}{ma mb me mo:M Dv}{mt:M Bool}{pos p2:Pos}
noncomputable def CQ(neg:Bool)(x y:Dv)(h:Hs):Rs Dv:=match x,y with
 |.str i,.str j=>.ok (.bl (if neg then !(!(ie j i 0 j.length 1).isEmpty)else !(ie j i 0 j.length 1).isEmpty)) h
 |_,_=>.bad
theorem ZX:eA G (λx y H Q=>∃i j,x=.str i/\y=.str j/\Q (.bl (!(!(ie j i 0 j.length 1).isEmpty))) H) (CQ true):=by
 intro E μ h H x y vx vy Q s rx ry o
 cases x with
 |str i=>
  cases y with
  |str j=>exact⟨i,j,rx,ry,o.val s rfl⟩
  |_=>exact o.elim
 |_=>exact o.elim
theorem ZY(ha:aB X G E a ma)(hb:aB X G E b mb)(hm:behindInMarks .NotIn b=false:=by rfl):fK X G E (.Compare a [.NotIn] [b] pos) (mB (m2 (CQ true) ma mb)):=sT QN ZX ha hb hm
end
section
variable{X:Cx}{G:Cfg}{E:XK}{e o:ba}{me mo:M Dv}{cpos apos:Pos}
noncomputable def xR(h:bx)(L:ah):List (ah×Obj):=(cf h.objs.size).filterMap λb=>if b=L then none else(h.get? b).map λo=>(b,o)
theorem xS{h:bx}{L b:ah}{o:Obj}(hb:b≠L)(e:h.get? b=some o):(b,o)∈xR h L:=ko.mpr ⟨b,du.mpr (au e),by rw[if_neg hb,e];rfl⟩
theorem xT{h:bx}{L:ah}{p:ah×Obj}(hp:p∈xR h L):h.get? p.1=some p.2/\p.1≠L:=by
 obtain⟨b,_,q⟩:=ko.mp hp
 by_cases c:b=L
 ·rw[if_pos c]at q;cases q
 ·rw[if_neg c]at q
  cases g:h.get? b with
  |none=>rw[g]at q;cases q
  |some o=>rw[g]at q;cases q;exact⟨g,c⟩
theorem KQ:∀(l:List (Str×Tok)),Ae ((l.map (·.1)).map Et) (strValues l)
 |[]=>.nil
 |p::l=>.cons ⟨p.2,rfl⟩ (KQ l)
theorem ZZ{pins:List (ah×Obj)}{σ:St}{H:Hp}{s:ag}{h':bx}{a:ah}{ob:HO}{t':Nat}(I:Inv X pins σ H s)(k:∀b u,b≠X.env.locals->s.heap.get? b=some u->h'.get? b=some u)(ns:∀m,s.heap.Ns X.env.locals m->h'.Ns X.env.locals m)(hp:s.heap.objs.size<=a)(new:Ag X.prog X.w (aF H a ob) h' a ob):Inv X pins σ (aF H a ob) {s with heap:=h',toks:=t'}:=by
 have hn:=I.hok.fresh hp;have ht:∃o',h'.get? X.env.locals=some o':=by obtain⟨m,hm,_⟩:=I.loc;obtain⟨o,_,_,e,_⟩:=ns m hm;exact⟨o,e⟩
 have nl:∀b u,H b=some u->b≠X.env.locals:=λb u e z=>by rw[z,I.free]at e;cases e
 refine I.step (g':=s.gens) (d':=s.drawn) (ch:=[]) (λ_ z=>nomatch z) (λb o hL _ _ e _=>k b o hL e) (λb o hL _ _ e _=>⟨o.slots,k b o hL e⟩)
  (λb o _ e n=>by rw[aM (aw (ar (au e) hp))];exact n)
  (λb o _ e=>by
   by_cases c:b=X.env.locals
   ·rw[c];exact ht
   ·exact⟨o,k b o c e⟩)
  (λb xs q=>by rw[aM (bY q hn)];exact q) (λb o u q=>by rw[aM (bY q hn)];exact q) (λb ps q=>⟨#[],by rw[aM (bY q hn),q];simp⟩) ns (λb u e=>?_) I.bare
 by_cases hb:b=a
 ·subst hb;rw[bP]at e;cases e;exact new
 ·rw[aM hb]at e;refine(I.hok b u e).stay (λc v hc q=>k c v ?_ q) (λc q=>by rw[aM (bY q hn)];exact q) λc xs q=>by rw[aM (bY q hn)];exact q
  rcases hc with z|z
  ·rw[z];exact nl b u e
  ·exact nl c _ z
theorem Z0:nF X "str.split" (λx xs H Q=>∃z y,x=.str z/\xs=[.str y]/\(y.length==0)=false/\z.length+2<=bj/\(lr z y).length<=bj/\∀p,H p=none->Q (.ref p) (aF H p (.lst ((lr z y).map Et)))):=by
 intro pins s σ H x xs v us Q I rx rv ⟨z,y,e1,e2,hy,hz,hl,q⟩;subst e1;subst e2;obtain⟨t,rfl⟩:=rx;obtain⟨u,rfl,ru⟩:=gI rv;obtain⟨t',rfl⟩:=ru;obtain⟨m,hm,_⟩:=id I.loc;have fr:yg {} X.env.locals s.heap m:=⟨hm,λb o e=>by simp[yh]at e,ja _⟩
 have nw:xi {} X.env.locals s.heap (xR s.heap X.env.locals):=λp hp=>⟨(xT hp).1,(xT hp).2,by simp[yh]⟩
 refine PyProof.Rows.splitN1A fr nw hy (λl h' k hs _ _ _ fr' nw'=>?_) hz;have keep:∀b o,b≠X.env.locals->s.heap.get? b=some o->h'.get? b=some o:=λb o hb e=>(nw' (b,o) (az _ (xS hb e))).1;have ns:∀m',s.heap.Ns X.env.locals m'->h'.Ns X.env.locals m':=λm' Cv=>by
  have:m'=m:=by
   obtain⟨o1,es1,ep1,g1,d1,_,f1⟩:=hm;obtain⟨o2,es2,ep2,g2,d2,_,f2⟩:=Cv;rw[g1]at g2;cases g2;rw[d1]at d2;cases d2
   funext n
   rw[<-f1 n,<-f2 n]
  rw[this];exact fr'.ns
 have new:h'.get? s.heap.objs.size=some {cls:=.type "list",data:=.seq (strValues l).toArray}:=(nw' _ (bo ..)).1;have hv:=KQ l;rw[hs]at hv;exact⟨.ref s.heap.objs.size,_,ZZ (ob:=.lst ((lr z y).map Et)) I (t':=k) keep ns (aq _) ⟨by rw[cg];exact hl,strValues l,_,hv,new⟩,rfl,q _ (I.hok.fresh (aq _))⟩
noncomputable def pV(x y:Dv)(h:Hs):Rs Dv:=match x,y with
 |.str z,.str w=>if(w.length==0)=false/\z.length<=1000000/\(lr z w).length<=1000000 then .ok (.ref h.length) (h++[.lst ((lr z w).map Dy)])else .bad
 |_,_=>.bad
theorem KR{μ:Nat->ah}{n:Nat}{H:Hp}:∀(ys:zu),RelDL G μ n H (ys.map Dy) (ys.map Et)
 |[]=>Eh
 |y::ys=>Ei rfl (KR ys)
theorem Z1(ho:aB X G E o mo)(he:aB X G E e me)(hb:attributeBase o "split" X.env (eval o X.env)=eval o X.env:=by rfl)(hs:ao [e] X.env=[(false,eval e X.env)]:=by rfl)(hl:(apos.endLine==cpos.line)=true:=by rfl):aB X G E (.Call (.Attribute o "split" apos) [e] [] cpos) (hW pV mo me):=λhK=>
 Eg (CO PySem.F.slot_str_split PySem.F.type_str_split Z0 (ho hK) (iR (he hK) jJ hs) hb (by rw[hs];rfl) hl hs) λσ H Q⟨μ,ρ,h,rs,s,oo⟩=>cT rs s oo λμ1 x h1 vx H1 x1 Ak s1 r1 o1=>by
  split at o1
  ·rename_i hl
   cases x with
   |str z=>
    rw[Ac]at r1;subst r1;refine⟨⟨z,rfl⟩,cT Ak s1 o1 λμ2 d h2 vd H2 x2 Bu s2 r2 o2=>?_⟩
    cases d with
    |str w=>
     rw[Ac]at r2;subst r2;dsimp only[pV]at o2
     split at o2
     ·rename_i hc;have hz:bj=16777216:=rfl;exact⟨z,w,rfl,rfl,hc.1,by lia,by lia,λp hp=>oY s2 (KR _) hp o2⟩
     ·exact o2.elim
    |_=>exact o2.elim
   |_=>cases hl
  ·exact o1.elim
end
section
variable{X:Cx}{G:Cfg}{E:XK}{e tg:ba}{es:List ba}{me:M Dv}{pos tpos:Pos}{t:TG}{u:jI}
theorem Z2{x1:Pos}(h1:PG X tg t)(h2:PGs X es u)(hs:(assignEach (.Starred tg x1::es) X.env).map (·.2)=assign tg X.env::(assignEach es X.env).map (·.2):=by rfl):PGs X (.Starred tg x1::es) (FH t u):=by
 intro pins s σ H vs us Q I r h;obtain⟨v,vr,e1,h⟩:=h;subst e1
 cases r with
 |cons r rr=>rw[hs];refine assignInOrder_cons (aH (h1 pins s σ H _ _ _ I r h) λ_ s1⟨σ1,H1,I1,q1⟩=>?_);exact h2 pins s1 σ1 H1 _ _ Q I1 rr q1
theorem Z3{pins:List (ah×Obj)}{σ:St}{H:Hp}{s:ag}{h':bx}{a:ah}{ob:HO}{t':Nat}(I:Inv X pins σ H s)(k:∀b u,b≠X.env.locals->s.heap.get? b=some u->h'.get? b=some u)(ns:∀m,s.heap.Ns X.env.locals m->h'.Ns X.env.locals m)(hp:s.heap.get? a=none)(hn:H a=none)(new:Ag X.prog X.w (aF H a ob) h' a ob):Inv X pins σ (aF H a ob) {s with heap:=h',toks:=t'}:=by
 have ht:∃o',h'.get? X.env.locals=some o':=by obtain⟨m,hm,_⟩:=I.loc;obtain⟨o,_,_,e,_⟩:=ns m hm;exact⟨o,e⟩
 have nl:∀b u,H b=some u->b≠X.env.locals:=λb u e z=>by rw[z,I.free]at e;cases e
 have na:∀b o,s.heap.get? b=some o->b≠a:=λb o e z=>by rw[z,hp]at e;cases e
 refine I.step (g':=s.gens) (d':=s.drawn) (ch:=[]) (λ_ z=>nomatch z) (λb o hL _ _ e _=>k b o hL e) (λb o hL _ _ e _=>⟨o.slots,k b o hL e⟩)
  (λb o _ e n=>by rw[aM (na b o e)];exact n)
  (λb o _ e=>by
   by_cases c:b=X.env.locals
   ·rw[c];exact ht
   ·exact⟨o,k b o c e⟩)
  (λb xs q=>by rw[aM (bY q hn)];exact q) (λb o u q=>by rw[aM (bY q hn)];exact q) (λb ps q=>⟨#[],by rw[aM (bY q hn),q];simp⟩) ns (λb u e=>?_) I.bare
 by_cases hb:b=a
 ·subst hb;rw[bP]at e;cases e;exact new
 ·rw[aM hb]at e;refine(I.hok b u e).stay (λc v hc q=>k c v ?_ q) (λc q=>by rw[aM (bY q hn)];exact q) λc xs q=>by rw[aM (bY q hn)];exact q
  rcases hc with z|z
  ·rw[z];exact nl b u e
  ·exact nl c _ z
theorem Z4{pins:List (ah×Obj)}{σ:St}{H:Hp}{s:ag}{a:ah}{x:V}{xs:Ez}{Q:Unit->ag->Prop}{targets:List (Bool×(af->Sem Unit))}(I:Inv X pins σ H s)(hh:X.A.handled=none)(hq:Bb X.K H a (x::xs))(hl:xs.length<=1000)(hn:targets.length=2)(Ck:targets.findIdx? (·.1)=some 1)(h:∀p u s',H p=none->Inv X pins σ (aF H p (.lst xs)) s'->RelV x u->wpAny (model X.prog X.w) X.A (assignInOrder (targets.map (·.2)) [u,.ref p]) Q X.xe s'):wpAny (model X.prog X.w) X.A (unpack (.ref a) targets) Q X.xe s:=by
 obtain⟨its,rv,pl,hz⟩:=I.list hq
 cases rv with
 | @cons _ u _ us ru rr=>
  obtain⟨m,hm,_⟩:=id I.loc;have fr:yg {} X.env.locals s.heap m:=⟨hm,λb o e=>by simp[yh]at e,ja _⟩
  have nw:xi {} X.env.locals s.heap (xR s.heap X.env.locals):=λp hp=>⟨(xT hp).1,(xT hp).2,by simp[yh]⟩
  have hsz:(u::us).toArray.size=xs.length+1:=by rw[bf,br,rr.length]
  unfold unpack;rw[hn,Ck];refine ae (fg (PySem.W.kun_starL (first:=[u]) (mids:=us) (lasts:=[]) fr nw pl.isList hh (by decide) (by rw[hsz];lia) (by rw[hsz];lia) rfl ?_ ?_ λD h' tk fr' nw' hD=>?_))
  ·rw[hsz];show us.take (xs.length+1+1-2)=us;exact List.take_of_length_le (by have:=rr.length;lia)
  ·rw[hsz];show us.drop (xs.length+1+1-2)=[];exact yo (by have:=rr.length;lia)
  have keep:∀b o,b≠X.env.locals->s.heap.get? b=some o->h'.get? b=some o:=λb o hb e=>(nw' (b,o) (az _ (xS hb e))).1;have ns:∀m',s.heap.Ns X.env.locals m'->h'.Ns X.env.locals m':=λm' Cv=>by
   have:m'=m:=by
    obtain⟨o1,es1,ep1,g1,d1,_,f1⟩:=hm;obtain⟨o2,es2,ep2,g2,d2,_,f2⟩:=Cv;rw[g1]at g2;cases g2;rw[d1]at d2;cases d2
    funext n
    rw[<-f1 n,<-f2 n]
   rw[this];exact fr'.ns
  have Bk:=nw' _ (bo ..);have new:h'.get? D=some {cls:=.type "list",data:=.seq (List.toArray us) 0}:=Bk.1;have hn:H D=none:=by
   cases q:H D with
   |none=>rfl
   |some ob=>
    exfalso
    obtain⟨o,e⟩:=pL (I.hok D ob q);exact fe _ (hD _ (xS Bk.2.1 e))
  have hg:s.heap.get? D=none:=by
   cases q:s.heap.get? D with
   |none=>rfl
   |some o=>exact absurd (hD _ (xS Bk.2.1 q)) (fe _)
  have I2:=Z3 (ob:=.lst xs) I (t':=tk) keep ns hg hn (⟨by rw[ly];lia,us,0,rr,new⟩:Ag X.prog X.w (aF H D (.lst xs)) h' D (.lst xs));exact h D u _ hn I2 ru
end
section
variable{X:Cx}{G:Cfg}{E:XK}{e:ba}{es:List ba}{me:M Dv}{pos tpos:Pos}
def Z5(K:ak)(t:jI):TG:=λv σ H Q=>∃a x xs,v=.ref a/\Bb K H a (x::xs)/\xs.length<=1000/\∀p,H p=none->t [x,.ref p] σ (aF H p (.lst xs)) Q
theorem Z6{k:Nat}{t:jI}(hc:X.calm=true)(h:PGs X es t)(hn:(assignEach es X.env).length=2)(Ck:(assignEach es X.env).findIdx? (·.1)=some 1):PG X (.Tuple es k pos) (Z5 X.K t):=by intro pins s σ H v u Q I r ⟨a,x,xs,e1,hq,hl,hw⟩;subst e1;cases r;rw[assign_Tuple];exact ae (jn (Z4 I (I.ok.hd hc) hq hl hn Ck λp u s' hp I' ru=>h pins s' σ _ _ _ Q I' (.cons ru (.cons (show RelV (.ref p) (.ref p) from rfl) .nil)) (hw p hp)))
def xU(me:M Dv)(t:jO):MS:=λρ h=>(me ρ h).thenS λd h1=>match d with
 |.ref p=>match getL h1 p with
  |some (x::xs)=>if xs.length<=1000 then match t [x,.ref h1.length] ρ with
   |some ρ'=>.nx ρ' (h1++[.lst xs])
   |none=>.bad
   else .bad
  |_=>.bad
 |_=>.bad
theorem Z7{tg:ba}{tgs:List ba}{s:cH}{t:jO}{x1:Pos}(h1:gZ X G tg s)(h2:pH X G tgs t)(hs:(assignEach (.Starred tg x1::tgs) X.env).map (·.2)=assign tg X.env::(assignEach tgs X.env).map (·.2):=by rfl):pH X G (.Starred tg x1::tgs) (aV s t):=λhK=>
 PGs.imp (Z2 (h1 hK) (h2 hK) hs) λvs σ H Q⟨μ,ρ,h,ds,ρ',rs,r,e,k⟩=>by
  cases ds with
  |nil=>cases e
  |cons d ds=>
   rw[RelDL]at r;obtain⟨v,rr,rfl,r1,r2⟩:=r;unfold aV at e;dsimp only at e
   cases q:s d ρ with
   |none=>rw[q]at e;cases e
   |some ρ1=>rw[q]at e;exact⟨v,rr,rfl,μ,ρ,h,d,ρ1,rs,r1,q,λσ1 Ak=>⟨μ,ρ1,h,ds,ρ',Ak,r2,e,k⟩⟩
theorem Z8{k:Nat}{t:jO}(hc:X.calm=true)(he:aB X G E e me)(hg:pH X G es t)(hn:(assignEach es X.env).length=2:=by rfl)(Ck:(assignEach es X.env).findIdx? (·.1)=some 1:=by rfl)(hs:swapsWithSole [.Tuple es k tpos] e pos.line X.env=pure false:=by rfl)(hw:swappedStores [.Tuple es k tpos] e X.env=pure none:=by rfl)(h1:(assignEach [.Tuple es k tpos] X.env).map (·.2)=[assign (.Tuple es k tpos) X.env]:=by rfl):fL X G E (.Assign [.Tuple es k tpos] e pos) (xU me t):=λhK=>
 PS.imp (zT (he hK) (Z6 hc (hg hK) hn Ck) hs hw h1) λD σ H⟨μ,ρ,h,rs,s,o⟩=>gY rs s o λμ1 d h1 v H1 x1 Ak s1 r1 o1=>by
  cases d with
  |ref p=>
   dsimp only at o1
   cases q:getL h1 p with
   |none=>rw[q]at o1;exact o1.elim
   |some xs=>
    rw[q]at o1
    cases xs with
    |nil=>exact o1.elim
    |cons x xs=>
     dsimp only at o1
     split at o1
     ·rename_i hl
      cases q2:t [x,.ref h1.length] ρ with
      |none=>rw[q2]at o1;exact o1.elim
      |some ρ'=>rw[q2]at o1;obtain⟨vs,ea,ra⟩:=s1.ob p _ (eL q);obtain⟨_,rfl⟩:=r1;rw[RelDL]at ra;obtain⟨w,ws,rfl,rw1,rws⟩:=ra;refine⟨_,w,ws,rfl,Em ea,by rw[rws.length];exact hl,λa ha=>?_⟩;obtain⟨x2,s2⟩:=s1.alloc ha rws;refine⟨_,ρ,(h1++[Ea xs]).length,[x,.ref h1.length],ρ',Ak.mono x2,.cons (El x2 _ _ rw1) (.cons ⟨by simp,by simp⟩ .nil),q2,λσ' rs'=>?_⟩;exact o1 _ _ σ' x2 s2 rs'
     ·exact o1.elim
  |_=>exact o1.elim
end
theorem Z9{env:Env}:∀(l:List (Str×kq))(acc:List (Str×ah)),(∀y cc,(y,cc)∈acc->env.cells.lookup y=some cc)->(∀y,(y,bw)∈l->∃c,env.cells.lookup y=some c)->∀y cc,(y,cc)∈cS env l acc->env.cells.lookup y=some cc:=by
 intro l
 induction l with
 |nil=>exact λacc h1 _=>h1
 |cons a l ih=>
  obtain⟨y0,k0⟩:=a;intro acc h1 h2;rw[cS];refine ih _ (λy cc hm2=>?_) λy hy=>h2 y (az _ hy)
  cases hk0:k0==bw with
  |true=>
   rw[hk0,if_pos rfl]at hm2
   rcases bh.mp hm2 with z|z
   ·cases z;have ek:k0=.free:=by cases k0<;>first|rfl|cases hk0
    subst ek;obtain⟨c3,h3⟩:=h2 y0 (bo ..);rw[h3];rfl
   ·exact h1 _ _ z
  |false=>rw[hk0,if_neg (by simp)]at hm2;exact h1 _ _ hm2
section
variable{X:Cx}{G:Cfg}{k:Nat}{p:Str}{params:ji}{body:ba}{scope:dj}{Nl:zu}{me:M Dv}{caps:zt}{pins:List (ah×Obj)}{σ:St}{H:Hp}{s:ag}
theorem a9{A:bq}{cs:List ah}(hfn:∀y,X.fn y=true)(hA:A.frames=some X.stack)(I:Inv X pins σ H s)(memc:∀b∈cs,∃y,X.env.cells.lookup y=some b):Co X.prog X.w X.K X.mg (iM X.base s.heap cs) A X.stack s H:=by
 have kb:∀b u,X.base.get? b=some u->(iM X.base s.heap cs).get? b=some u:=λb u e=>wN (I.bk _ _ e) (.inl ⟨u,e⟩);have M0:=I.ok.mod;have nsk:∀{a:ah}{m:Str->Option af},X.base.Ns a m->(iM X.base s.heap cs).Ns a m:=λhn=>hn.keeps kb;have hM:Mod X.K X.mg (iM X.base s.heap cs):=⟨M0.kin.keeps kb,nsk M0.glob,(let ⟨mb,a,b⟩:=M0.blt;⟨mb,nsk a,b⟩),M0.nolimit.keeps kb⟩
 have hbs:∀b u,(iM X.base s.heap cs).get? b=some u->s.heap.get? b=some u/\H b=none:=λb u e=>by
  obtain⟨g1,g2⟩:=IL e;refine⟨g1,?_⟩
  rcases g2 with⟨u',g2⟩|g2
  ·exact(I.bs _ _ g2).2
  ·obtain⟨y,hy⟩:=memc b g2;exact I.freeC y b hy
 have nbf:∀b∈cN X.stack,(iM X.base s.heap cs).get? b=none:=λb hb=>by
  cases qq:(iM X.base s.heap cs).get? b with
  |none=>rfl
  |some u=>
   exfalso
   obtain⟨g1,g2⟩:=IL qq
   rcases g2 with⟨u',g2⟩|g2
   ·have:=(I.stack.mem hb).1;rw[this]at g2;cases g2
   ·obtain⟨y,hy⟩:=memc b g2
    rcases bh.mp (I.stkSub b hb)with z|z
    ·exact I.cne y b hy z
    ·have fm:∀z∈X.fs,z<X.s₀.heap.objs.size:=λz hz=>by obtain⟨_,o2,h2,_⟩:=I.ok.funs.mem hz;exact au h2
     exact absurd (ar (fm b z) (I.ok.cab y b (hfn y) hy)) (fe _)
 have hfun:s.heap.FunFrames (iM X.base s.heap cs) X.stack:=by
  have all:∀(l:List Env),(∀b∈cN l,b∈cN X.stack)->s.heap.FunFrames X.base l->s.heap.FunFrames (iM X.base s.heap cs) l:=by
   intro l
   induction l with
   |nil=>intro _ _;trivial
   |cons env r ih=>
    intro hs hl;obtain⟨hk',⟨L,o',hf',hn',Cr,hd'⟩,hr'⟩:=hl;have hL:L∈cN (env::r):=by unfold cN;rw[iz,hf'];exact bo
    exact⟨hk',⟨L,o',hf',nbf L (hs L hL),Cr,hd'⟩,ih (λb hb=>hs b (by unfold cN;rw[iz,hf'];exact az _ hb)) hr'⟩
  exact all X.stack (λ_ hb=>hb) I.stack
 exact⟨hA,hM,hbs,nc (yb _ _),hfun,I.stkFree,I.hok,I.bare⟩
theorem b9{H0:Hp}{f c':ah}{pm ctv:af}{oc:Obj}{cl:List (Str×ah)}{μ:Nat->ah}{n:Nat}{ρ:Ev}{ds:zw}(Cm:∀y∈Nl,scope.names.lookup y=some .free)(hal:∀x∈scope.names,x.2=.free->x.1∈Nl)(Bx:∀y∈Nl,X.env.scope.names.lookup y=some .cell)(hlen:caps.length=Nl.length)(hcap:∀z∈caps.zip Nl,X.N[z.1]?=some z.2)(I:Inv X pins σ H0 s)(rs:Ah G μ n H ρ σ)(hcd:nV caps ρ=some ds)(hcs:cS X.env scope.names []=cl)(e1:H f=some (.frz (jy "<lambda>" G.lq params body scope cl pm c' ctv) (.own 0)))(e2:H c'=some (.frz oc (.own 0)))(e3:Cs G.lq oc):
  (∀b∈cl.map (·.2),∃y,X.env.cells.lookup y=some b)/\Df G (iM X.base s.heap (cl.map (·.2))) H μ n Nl params body scope f c' cl ds/\∀y cc,cl.lookup y=some cc->y∈Nl:=by
 obtain⟨hdl,hdg⟩:=IK hcd;have hfree:∀y,(y,bw)∈scope.names->X.env.kindOf y=some .cell∨X.env.kindOf y=some .free:=λy hy=>.inl (Bx y (hal _ hy rfl));have hfc:∀y,(y,bw)∈scope.names->∃c,X.env.cells.lookup y=some c:=λy hy=>I.ok.has y (hfree y hy);have look:∀y cc,cl.lookup y=some cc->(y,bw)∈scope.names/\X.env.cells.lookup y=some cc:=λy cc e=>WA hfc (by rw[hcs];exact e);have memL:∀y cc,cl.lookup y=some cc->cc∈cl.map (·.2):=λy cc e=>gu.mpr ⟨(y,cc),fh e,rfl⟩;refine⟨λb hb=>?_,⟨⟨pm,ctv,e1⟩,⟨oc,e2,e3⟩,λy z cc a b=>I.ok.inj y z cc (look y cc a).2 (look z cc b).2,hdl.trans hlen,λi y hy=>?_,λy cc e=>?_,λi y cc d hy hd e=>?_⟩,λy cc e=>hal _ (look y cc e).1 rfl⟩
 ·obtain⟨⟨y,cc⟩,hm1,rfl⟩:=gu.mp hb;exact⟨y,Z9 scope.names [] (λ_ _ z=>by cases z) hfc y cc (by rw[hcs];exact hm1)⟩
 ·have hf1:=Cm y (gb hy);have:=sH (env:=X.env) (x:=y) scope.names [] (.inl (fh hf1));rw[hcs]at this;exact⟨_,this⟩
 ·obtain⟨v0,ob,ho1,hd1⟩:=I.cell y cc (look y cc e).2;exact⟨ob,v0,wN ho1 (.inr (memL y cc e)),hd1⟩
 ·obtain⟨jj,hjj,hρ⟩:=hdg i d hd;obtain⟨v,hv,rd⟩:=rs.at_ jj d hρ;have hNj:X.N[jj]?=some y:=hcap (jj,y) (gb (i:=i) (qo.mpr ⟨hjj,hy⟩));have hyk:=Bx y (gb hy);obtain⟨m,hn,hl⟩:=I.loc;obtain⟨u,ru,lk⟩:=hl jj y v hNj hv (.inr (.inl hyk))
  rcases lk with⟨kl,_⟩|⟨_,c4,ec4,ob,ho1,hd1⟩
  ·have kl':X.env.scope.names.lookup y=some .local:=kl;rw[hyk]at kl';cases kl'
  ·rw[(look y cc e).2]at ec4;cases ec4;exact⟨ob,u,v,wN ho1 (.inr (memL y cc e)),hd1,ru,rd⟩
end
section
variable{X:Cx}{G:Cfg}{E:XK}{k:Nat}{q x:Str}{p pos lpos:Pos}{params:ji}{body:ba}{scope:dj}{c P fr:ah}{fdr:ay}{Nl:zu}{me:M Dv}{n ncl j:Nat}{mb:MS}{caps:zt}{os:dj}{oN:zu}
theorem c6(g:Good X G E k)(hj:j<=k)(hfn:∀y,X.fn y=true)(F:∀base,(∀b o,X.base.get? b=some o->base.get? b=some o)->Af X.prog X.w X.K X.mg base (aS X.prog X.w base) j fr fdr [x] (BC G base Nl params body scope me n ncl mb))(hg:Gl X q)(hm:X.mg q=some (.ref fr))(hk:iu X.K (.ref fr)=true)(hb:Binds X.K fdr [x] [])(hdef:defaultsOf params X.env=([],[]))(hq:X.env.qual++"<lambda>"=G.lq)(hP:G.tabs P=some G.lq)(hcode:X.env.code=.ref c)(hC:mn X.base c P)(hB:lL X.mg X.base)(LS:Bg Nl scope)(hs:X.env.scope.names=os.names)(hN:X.N=oN)(Bx:∀y∈Nl,os.names.lookup y=some .cell)(Dh:caps.length=Nl.length)(hcap:∀z∈caps.zip Nl,oN[z.1]?=some z.2)(Cd:(q==Ey)=false:=by decide)(he:ao [.Lambda params body scope lpos] X.env=[(false,eval (.Lambda params body scope lpos) X.env)]:=by rfl):
  aB X G E (.Call (.Name q p) [.Lambda params body scope lpos] [] pos) (mI caps n ncl mb me):=by
 intro hK pins s σ H Q I ⟨μ,ρ,h,rs,sm,o⟩;rw[<-hs]at Bx;rw[<-hN]at hcap;unfold mI at o
 cases hcd:nV caps ρ with
 |none=>rw[hcd]at o;exact o.elim
 |some ds=>
 rw[hcd]at o;have hfree:∀y,(y,bw)∈scope.names->X.env.kindOf y=some .cell∨X.env.kindOf y=some .free:=λy hy=>.inl (Bx y (LS.all _ hy rfl));refine jl (qH I hg hm ?_ Cd);refine pd (h₀:=X.base) I.ok.mod.kin hk (aH (iR (V9 (G:=G) (lpos:=lpos) (body:=body) hdef hq hP hcode hC hB hfree) jJ he pos pins s σ H
  (λvs H1=>∃f c' pm ctv oc,vs=[.ref f]/\IJ H H1/\Cf G H1/\H1 f=some (.frz (jy "<lambda>" G.lq params body scope (cS X.env scope.names []) pm c' ctv) (.own 0))/\H1 c'=some (.frz oc (.own 0))/\Cs G.lq oc) I
  ⟨sm.tab,λf c' pm ctv oc H1 _ st tb e1 e2 e3=>⟨f,c',pm,ctv,oc,rfl,st,tb,e1,e2,e3⟩⟩) λus s1⟨vs,H1,I1,r,f,c',pm,ctv,oc,ev,st,tb,e1,e2,e3⟩=>⟨I1.kIn,?_⟩) he rfl
 subst ev;generalize hcs:cS X.env scope.names []=cl at *;have xt:Ext μ h.length H μ h.length H1:=⟨aq _,λ_ _=>rfl,λa u im z=>st a u (λps w=>by subst w;exact im) z⟩
 have sm1:Ai G μ h H1:=⟨sm.inj,λi ob z=>by
  have r0:=sm.ob i ob z
  cases ob with
  |lst xs=>obtain⟨vs,z1,z2⟩:=r0;exact⟨vs,st _ _ (λ_ w=>by cases w) z1,Eb xt _ _ z2⟩
  |clo k t=>exact r0.clo xt
  |dct ks=>exact st _ _ (λ_ w=>by rcases sQ ks with⟨_,e⟩|⟨_,e,_⟩<;>rw[e]at w<;>cases w) r0
  |ins xs=>obtain⟨dx,vs,z1,z2⟩:=r0;exact⟨dx,vs,st _ _ (λ_ w=>by cases w) z1,Eb xt _ _ z2⟩,tb⟩
 obtain⟨memc,L,hall⟩:=b9 LS.fr LS.all Bx Dh hcap I1 (rs.mono xt) hcd hcs e1 e2 e3;have e0:=a9 hfn I1.ok.frames I1 memc;have kb:∀b u,X.base.get? b=some u->(iM X.base s1.heap (cl.map (·.2))).get? b=some u:=λb u e=>wN (I1.bk _ _ e) (.inl ⟨u,e⟩);have hlen:(us++([]:List af)).length=[x].length:=by rw[jz,<-r.length];rfl
 have hbt:=hb s1 us I1.kIn hlen;rw[jz]at hbt;refine ua (mf ((F _ kb).run X.A X.stack s1 H1 ⟨us,[]⟩ us [.ref f] Q E (g.room.mono hj) e0 hbt r ⟨f,c',cl,ds,μ,h,rfl,L,hall,sm1,o.ext xt⟩) λrr s' hq'=>?_)
 cases rr with
 |ok fl=>
  cases fl with
  |ret u=>exact I1.after hq'
  |next=>exact gh hq'
  |brk=>exact gh hq'
  |cont=>exact gh hq'
 |error ev=>
  obtain⟨e,C,H',eu,os,bare,un,hok,fl,hE⟩:=hq';refine g.pas pins σ H1 s1 ev s' I1 ⟨e,C,H',eu,os,bare,un,hok,?_,hE⟩;obtain⟨T,a0,w1,w2,w3,w4⟩:=fl;refine⟨T,a0,w1,w2,?_,w4⟩
  cases qq:X.base.get? e with
  |none=>rfl
  |some u=>have:=kb e u qq;rw[w3]at this;cases this
end
open PySem.SeqAt PySem.MeetsSeq PySem.MeetsSeq2 PySem.MeetsSeq3
end L2.Mr
namespace L2
theorem Inv.reXe{X:Cx}{pins:List (ah×Obj)}{σ:St}{H:Hp}{s:ag}(z:af->ag->Prop)(I:Inv X pins σ H s):Inv {X with xe:=z} pins σ H s:=⟨⟨I.ok.mod,I.ok.kind,I.ok.glob,I.ok.blt,I.ok.above,I.ok.inj,I.ok.has,I.ok.cab,I.ok.hd,I.ok.frames,I.ok.stk,I.ok.exf,I.ok.bs,I.ok.bsz,I.ok.noex,I.ok.exfs,I.ok.funs,I.ok.frf⟩,I.os,I.bare,I.base,I.loc,I.cell,I.free,I.freeC,I.pin,I.hok,I.len⟩
def Ent(X:Cx)(s:ag)(H:Hp)(ex:List ah):Prop:=∃pins σ,Inv X pins σ H s/\∀b∈ex,bQ X pins H b/\b<s.heap.objs.size
noncomputable def c7(X:Cx)(C:ah):af->ag->Prop:=λx s'=>∃m,s'.heap.Ns C m/\∀h',ic C s'.heap h'->∀cenv:Env,cenv.locals=C->wpAny (model X.prog X.w) X.A (passOn "comprehension.variables-let-go" x cenv:Sem af) (λ_ _=>False) X.xe {s' with heap:=h'}
def KS(X:Cx)(s:ag)(H:Hp)(ex:List ah):af->ag->Prop:=λe s'=>Ent X s H ex->notedBy (model X.prog X.w) X.A X.env (c7 X s.heap.objs.size) e s'
def jU(X:Cx)(scope:dj)(N:zu)(s:ag)(H:Hp)(ex:List ah):Cx:={bK X scope N s H ex with xe:=KS X s H ex}
section
variable{X:Cx}{D:ah}
theorem c8{elt:ba}{gens:List jx}{sc:dj}{ps:Pos}{d:Nat}{it:ah}{tg:ba}{ifs:List ba}{p:Pos}{inner:Sem Unit}{g:TG}{tt:TT}{ti:TC}{J:It}{fp:List ah}{tn:Nat->bx->Prop}{R:sv->ag->Prop}(hE:∀e s',X.xe e s'->notedBy (model X.prog X.w) X.A X.env (λe s'=>R (.error e) s') e s')(hc:X.calm=true)(ht:compTurn (.ListComp elt gens sc ps) d (.ref it) (.ref D) X.env=iG p (.ref it) tg ifs X.env inner (.compLoop (.ListComp elt gens sc ps) d (.ref it) (.ref D) X.env))(hg:PG X tg g)(Cb:Dj X ifs tt)(hi:De X D inner ti)(T:Turn X.prog X.w X.K tg J fp it tn){pins:List (ah×Obj)}{s:ag}{σ:St}{H:Hp}{xs:Ez}{K:St->Hp->Ez->Prop}(I:Inv X pins σ H s)(a:AccAt s D xs)(f:bQ X pins H D)(st:tn 0 s.heap)(hf:∀b∈fp,bQ X pins H b)(hD:D∉fp)(h:oW J g tt ti K σ H xs)(hR:∀σ' H' xs' s',Inv X pins σ' H' s'->AccAt s' D xs'->H' D=none->K σ' H' xs'->R (.ok .next) s'):
  codeAny (model X.prog X.w) X.A (.compLoop (.ListComp elt gens sc ps) d (.ref it) (.ref D) X.env) R s:=by
 obtain⟨W,⟨m0,w0⟩,turn⟩:=h;have stat:∀{H':Hp},(∀b∈fp,H' b=none)->∀b∈fp,bQ X pins H' b:=λhn b hb=>⟨hn b hb,(hf b hb).2⟩
 have statD:∀{H':Hp},H' D=none->bQ X pins H' D:=λhn=>⟨hn,f.2⟩
 refine codeAny_loop rfl (λn s'=>∃i σ' H' xs',Inv X pins σ' H' s'/\AccAt s' D xs'/\H' D=none/\tn i s'.heap/\(∀b∈fp,H' b=none)/\W i n σ' H' xs') ?_ m0 ⟨0,σ,H,xs,I,a,f.1,st,λb hb=>(hf b hb).1,w0⟩
 rintro n s3 ⟨i,σ3,H3,xs3,I3,a3,n3,st3,fr3,w3⟩
 show wpAny _ X.A ((compTurn (.ListComp elt gens sc ps) d (.ref it) (.ref D) X.env).onRaise (λx=>do noteFrame x X.env;theTreesLotGoes x)) _ _ s3;rw[ht];refine wpAny_noted (jk (Q:=λfin s'=>match fin with|.done f=>R (.ok f) s'|.again c'=>c'=.compLoop (.ListComp elt gens sc ps) d (.ref it) (.ref D) X.env/\∃m,m<n/\∃i σ' H' xs',Inv X pins σ' H' s'/\AccAt s' D xs'/\H' D=none/\tn i s'.heap/\(∀b∈fp,H' b=none)/\W i m σ' H' xs') (E:=X.xe) ?_ (λ_ _ z=>z) λe s' z=>hE e s' z);unfold iG;refine ae (jn (ae ?_));have I3':=I3.pinD a3 (statD n3);have fr3':∀b∈fp,bQ X (pins++fS [D] s3.heap) H3 b:=λb hb=>by
  obtain⟨g0,g1,g2,g3,g4,g5⟩:=stat fr3 b hb;refine⟨g0,g1,g2,g3,g4,λp hp=>?_⟩
  rcases cz.mp hp with z|z
  ·exact g5 p (cu _ z)
  ·rcases cz.mp z with z|z
   ·exact g5 p (bc _ z)
   ·have:=(sA z).1;have e:p.1=D:=by simpa using this
    rw[e];rintro rfl;exact hD hb
 rcases turn i n σ3 H3 xs3 w3 with⟨stop,qn⟩|⟨go,N,hN,step⟩
 ·refine aH (T.done X rfl rfl rfl hc i _ s3 σ3 H3 X.xe I3' fr3' st3 stop) λr s4⟨hr,I4⟩=>?_;subst hr;obtain⟨a4,n4⟩:=Eu a3 I4;exact aj (hR σ3 H3 xs3 s4 I4.unpinned a4 n4 qn)
 ·refine aH (T.item X rfl rfl rfl hc i _ s3 σ3 H3 X.xe I3' fr3' st3 go) λr s4⟨u,hr,h4⟩=>?_;subst hr;refine ae (aH h4 λ_ s5⟨x,H5,I5,r5,y5,Dk,fr5⟩=>?_);obtain⟨a5,n5⟩:=Eu a3 I5;have I5u:=I5.unpinned;have I5p:=I5u.pinned (stat fr5) (T.obj _ _ Dk);have fD5:bQ X (pins++fS fp s5.heap) H5 D:=by
   obtain⟨g0,g1,g2,g3,g4,g5⟩:=statD n5;refine⟨g0,g1,g2,g3,g4,λp hp=>?_⟩
   rcases cz.mp hp with z|z
   ·exact g5 p (cu _ z)
   ·rcases cz.mp z with z|z
    ·exact g5 p (bc _ z)
    ·rintro rfl;exact hD (sA z).1
  have I5':=I5p.pinD a5 fD5;refine ae (aH (hg _ s5 σ3 H5 x u _ I5' r5 (step x H5 y5)) λ_ s6⟨σ6,H6,I6,q6⟩=>?_);obtain⟨a6,n6⟩:=Eu a5 I6;have pin':∀{s σ H},Inv X (pins++fS fp s5.heap) σ H s->tn (i+1) s.heap/\∀b∈fp,H b=none:=λ{s σ H}J=>by refine⟨T.keep _ _ _ Dk λb hb o e=>(J.pin (b,o) (bc _ (bc _ (lD hb e)))).1,λb hb=>?_⟩;obtain⟨o,e,d⟩:=T.obj _ _ Dk b hb;exact(J.pin (b,o) (bc _ (bc _ (lD hb e)))).2.1
  have fD6:bQ X (pins++fS fp s5.heap) H6 D:=⟨n6,fD5.2⟩
  have I6u:=I6.unpinned;have I6p:=I6u.pinD a6 fD6;refine ae (aH (Cb _ s6 σ6 H6 _ I6p q6) λb s7⟨H7,I7,q7⟩=>?_);obtain⟨a7,n7⟩:=Eu a6 I7;have I7u:=I7.unpinned;have fin:∀{s8 σ8 H8 xs8},Inv X (pins++fS fp s5.heap) σ8 H8 s8->AccAt s8 D xs8->H8 D=none->N σ8 H8 xs8->
    ∃m,m<n/\∃i σ' H' xs',Inv X pins σ' H' s8/\AccAt s8 D xs'/\H' D=none/\tn i s8.heap/\(∀b∈fp,H' b=none)/\W i m σ' H' xs':=λ{s8 σ8 H8 xs8}J a8 n8 q8=>by
   obtain⟨m',hm,w8⟩:=hN σ8 H8 xs8 q8;obtain⟨t8,fr8⟩:=pin' J;exact⟨m',hm,i+1,σ8,H8,xs8,J.unpinned,a8,n8,t8,fr8,w8⟩
  cases b with
  |true=>
   rw[if_pos rfl]at q7⊢;have fD7:bQ X (pins++fS fp s5.heap) H7 D:=⟨n7,fD5.2⟩
   refine ae (aH (hi _ s7 σ6 H7 xs3 N I7u a7 fD7 q7) λ_ s8⟨σ8,H8,xs8,I8,a8,n8,q8⟩=>?_);exact aj ⟨rfl,fin I8 a8 n8 q8⟩
  |false=>rw[if_neg jc]at q7⊢;exact aj ⟨rfl,fin I7u a7 n7 q7⟩
end
end L2
namespace L2.Mr
noncomputable def kQ(T:ah)(h:bx):Prop:=∃oT ts,h.get? T=some oT/\oT.data=.fields ts/\3<ts.size
theorem CS{P:bg}{w:bu}{H:Hp}{h:bx}{T:ah}(x:kQ T h):Ag P w H h T (.ext (kQ T)):=⟨x,(let ⟨oe,_,he,_⟩:=x;⟨oe,he⟩),λ_ _⟨oe,vs,he,r⟩k=>⟨oe,vs,k oe he,r⟩⟩
section
variable{M:xq}{A:bq}{E:af->ag->Prop}{s:ag}{base:bx}{env:Env}{outer:List Env}{L e T:ah}{C a0:af}{Q:Unit->ag->Prop}
theorem c9(Cm:A.frames=some (env::outer))(hl:s.heap.FunFrames base (env::outer))(hf:env.frame=some L)(hx:cG C e T a0 s.heap)(ht:cW T s.heap)(hne:T≠e)(k:∀h' T',s.heap.objs.size<=T'->(∀b o,b≠e->b≠T->b∉cN (env::outer)->s.heap.get? b=some o->h'.get? b=some o)->(∀b o,b≠e->b≠T->s.heap.get? b=some o->∃sl,h'.get? b=some {o with slots:=sl})->
   cG C e T' a0 h'->cW T h'->kQ T' h'->Q () {s with heap:=h'}):wpAny M A (noteFrame (.ref e) env) Q E s:=by
 obtain⟨oe,vs,he,rfl,hd,h0,h1,hdn⟩:=hx;obtain⟨oT,ts,hT,hdT,h3⟩:=ht;have l3:3<ts.size:=(fq.mp h3).1;have l1:1<vs.size:=(fq.mp h1).1;have nT:=tF hl hT hdT;have ne:=tF hl he hd;unfold noteFrame;rw[hf];refine ae (dg he hd h1 ?_);rw[if_pos (by simp)];refine ae (dg hT hdT h3 ?_);rw[if_neg (by simp[rawInt])];refine ae (pK hT hdT l3 λg o' sb gT _ _ dT=>?_);have hl':g.FunFrames base (env::outer):=hl.of_keeps λb o q nf=>⟨o,sb.extBut _ _ (λz=>by subst z;rw[hT]at q;cases q;exact nf ts hdT) q,rfl⟩
 refine ae (wpAny_frameOf_fun (s:={s with heap:=g}) Cm hl' hf λg1 so=>ae (wpAny_entryPlaceOf λpl Bc=>ae (HM Bc λob ts' dt hts nf=>?_)));have he':g.get? e=some oe:=sb.extBut _ _ (cp hne) he;have e1:g1.get? e=some oe:=(so.2.1 e ne).trans he';have lt:e<g1.objs.size:=au e1;refine pK (s:={s with heap:=g1.push ob}) (ai _ e1) hd l1 λg2 oe2 sb2 ge c2 dn2 d2=>?_;have gT':g2.get? g1.objs.size=some ob:=sb2.extBut _ _ (ju lt) (ax _ nf);have kp:∀b o,b≠e->g1.get? b=some o->g2.get? b=some o:=λb o hb q=>sb2.extBut _ _ hb (ai _ q);refine k g2 g1.objs.size (by rw[<-sb.1];exact nc so.1.symm) (λb o n1 n2 n3 q=>kp b o n1 ((so.2.1 b n3).trans (sb.extBut _ _ n2 q))) (λb o n1 n2 q=>?_) ⟨oe2,_,ge,c2,d2,?_,?_,dn2.trans hdn⟩ ⟨_,_,kp T _ hne ((so.2.1 T nT).trans gT),dT,?_⟩ ⟨ob,ts',gT',dt,hts⟩
 ·obtain⟨sl,q'⟩:=so.2.2 b o (sb.extBut _ _ n2 q);exact⟨sl,kp b _ n1 q'⟩
 ·rw[uw (by decide)];exact h0
 ·rw[cy l1]
 ·rw[cy l3]
theorem d4(Cm:A.frames=some (env::outer))(hl:s.heap.FunFrames base (env::outer))(hf:env.frame=some L)(hx:cG C e T a0 s.heap)(ht:kQ T s.heap)(hne:T≠e)(k1:∀h',ic T s.heap h'->cW T h'->Q () {s with heap:=h'})(k:∀h' T',s.heap.objs.size<=T'->(∀b o,b≠e->b≠T->b∉cN (env::outer)->s.heap.get? b=some o->h'.get? b=some o)->(∀b o,b≠e->b≠T->s.heap.get? b=some o->∃sl,h'.get? b=some {o with slots:=sl})->
   cG C e T' a0 h'->cW T h'->cW T' h'->Q () {s with heap:=h'}):
  wpAny M A (noteFrame (.ref e) env) (λ_ s'=>wpAny M A (setFlight (.ref e) none) Q E s') E s:=by
 obtain⟨oe,vs,he,rfl,hd,h0,h1,hdn⟩:=hx;obtain⟨oT,ts,hT,hdT,l3⟩:=ht;have nT:=tF hl hT hdT;unfold noteFrame;rw[hf];refine ae (dg he hd h1 ?_);rw[if_pos (by simp)];refine ae (dg hT hdT (qk l3) ?_)
 by_cases hv:(ts[3]==rawInt L)=true
 ·rw[if_pos hv];exact aj (A4 he hd h1 hT hdT l3 k1)
 ·rw[if_neg hv];refine ae (pK hT hdT l3 λg o' sb gT _ _ dT=>?_);have hl':g.FunFrames base (env::outer):=hl.of_keeps λb o q nf=>⟨o,sb.extBut _ _ (λz=>by subst z;rw[hT]at q;cases q;exact nf ts hdT) q,rfl⟩
  refine A5 (s:={s with heap:=g}) Cm hl' hf (sb.extBut _ _ (cp hne) he) hd hdn (fq.mp h1).1 h0 λh' T' c x=>?_;refine k h' T' (by rw[<-sb.1];exact c.new) (λb o n1 n2 n3 q=>c.keep b o n1 n3 (sb.extBut _ _ n2 q)) (λb o n1 n2 q=>c.slot b o n1 (sb.extBut _ _ n2 q)) x ⟨_,_,c.keep T _ hne nT gT,dT,?_⟩ c.tb;rw[cy l3]
end
theorem KU{P:bg}{w:bu}{fs:List ah}{h h':bx}{H:Hp}{e T T':ah}{ψ0 ψ ψe ψ':bx->Prop}(hok:Az P w H h)(hfree:∀b∈fs,H b=none)(he:H e=some (.ext ψ0))(hT:H T=some (.ext ψ))(Bk:h.objs.size<=T')(keep:∀b o,b≠e->b≠T->b∉fs->h.get? b=some o->h'.get? b=some o)(slot:∀b o,b≠e->b≠T->h.get? b=some o->∃sl,h'.get? b=some {o with slots:=sl})(oke:∀H',Ag P w H' h' e (.ext ψe))(okT:∀H',Ag P w H' h' T (.ext ψ))(okT':∀H',Ag P w H' h' T' (.ext ψ')):
  Un fs [] H (aF (aF H e (.ext ψe)) T' (.ext ψ')) h h'/\Az P w (aF (aF H e (.ext ψe)) T' (.ext ψ')) h'/\mF e H (aF (aF H e (.ext ψe)) T' (.ext ψ'))/\T'≠e/\H T'=none:=by
 have nT':H T'=none:=hok.fresh Bk;have eT':T'≠e:=(bY he nT').symm;have sx:mF e H (aF (aF H e (.ext ψe)) T' (.ext ψ')):=λb o Di q=>by rw[aM (bY q nT'),aM Di];exact q
 refine⟨⟨λb o q n hb _=>keep b o (bY he n).symm (bY hT n).symm hb q,λb o q n _ _=>slot b o (bY he n).symm (bY hT n).symm q,λb o q n _=>?_,λb o q _=>?_,λb xs q=>?_,λb o u q=>?_,λb ps q=>?_⟩,?_,sx,eT',nT'⟩
 ·rw[aM (aw (ar (au q) Bk)),aM (bY he n).symm];exact n
 ·by_cases h1:b=e
  ·subst h1;exact pL (oke H)
  ·by_cases h2:b=T
   ·subst h2;exact pL (okT H)
   ·obtain⟨sl,z⟩:=slot b o h1 h2 q;exact⟨_,z⟩
 ·exact sx b _ (eG q he (by intro z;cases z)) q
 ·exact sx b _ (eG q he (by intro z;cases z)) q
 ·exact⟨#[],by rw[sx b _ (eG q he (by intro z;cases z)) q];simp⟩
 ·intro a o q
  by_cases h1:a=T'
  ·subst h1;rw[bP]at q;cases q;exact okT' _
  ·rw[aM h1]at q
   by_cases h2:a=e
   ·subst h2;rw[bP]at q;cases q;exact oke _
   ·rw[aM h2]at q
    by_cases h3:a=T
    ·subst h3;rw[hT]at q;cases q;exact okT _
    ·have nf:a∉fs:=λz=>by rw[hfree a z]at q;cases q
     refine(hok a o q).stay (λb u hb z=>?_) (λb z=>sx b _ (eG z he (by intro y;cases y)) z) λb xs z=>sx b _ (eG z he (by intro y;cases y)) z
     rcases hb with rfl|hb
     ·exact keep b u h2 h3 nf z
     ·exact keep b u (eG hb he (by intro y;cases y)) (eG hb hT (by intro y;cases y)) (λy=>by rw[hfree b y]at hb;cases hb) z
theorem KW{P:bg}{w:bu}{fs:List ah}{h h':bx}{H:Hp}{T:ah}{ψ ψ':bx->Prop}(hok:Az P w H h)(hT:H T=some (.ext ψ))(sb:ic T h h')(okT:∀H',Ag P w H' h' T (.ext ψ')):
  Un fs [] H (aF H T (.ext ψ')) h h'/\Az P w (aF H T (.ext ψ')) h':=by
 have sx:∀b o,b≠T->H b=some o->aF H T (.ext ψ') b=some o:=λb o hb q=>by rw[aM hb];exact q
 refine⟨⟨λb o q n _ _=>sb.extBut b o (bY hT n).symm q,λb o q n _ _=>⟨o.slots,sb.extBut b o (bY hT n).symm q⟩,λb o q n _=>?_,λb o q _=>?_,λb xs q=>?_,λb o u q=>?_,λb ps q=>?_⟩,?_⟩
 ·rw[aM (bY hT n).symm];exact n
 ·by_cases h1:b=T
  ·subst h1;exact pL (okT H)
  ·exact⟨o,sb.extBut b o h1 q⟩
 ·exact sx b _ (eG q hT (by intro z;cases z)) q
 ·exact sx b _ (eG q hT (by intro z;cases z)) q
 ·exact⟨#[],by rw[sx b _ (eG q hT (by intro z;cases z)) q];simp⟩
 ·intro a o q
  by_cases h1:a=T
  ·subst h1;rw[bP]at q;cases q;exact okT _
  ·rw[aM h1]at q;refine(hok a o q).stay (λb u hb z=>?_) (λb z=>sx b _ (eG z hT (by intro y;cases y)) z) λb xs z=>sx b _ (eG z hT (by intro y;cases y)) z
   rcases hb with rfl|hb
   ·exact sb.extBut _ _ h1 z
   ·exact sb.extBut _ _ (eG hb hT (by intro y;cases y)) z
def CT(base:bx)(H0 H:Hp)(C:af)(e:ah):Prop:=∃T a0 T',H0 e=some (.ext (cG C e T a0))/\(∃h,cG C e T a0 h)/\H e=some (.ext (cG C e T' a0))/\H T'=some (.ext (kQ T'))/\H0 T'=none/\base.get? e=none/\T'≠e/\mF e H0 H
section
variable{P:bg}{w:bu}{M:xq}{A:bq}{E:af->ag->Prop}{s:ag}{H H0:Hp}{base:bx}{env:Env}{outer:List Env}{L e:ah}{C:af}{Q:Unit->ag->Prop}
theorem d6(Cm:A.frames=some (env::outer))(hl:s.heap.FunFrames base (env::outer))(hf:env.frame=some L)(hok:Az P w H s.heap)(hfree:∀b∈cN (env::outer),H b=none)(fl:Fly base H C e)(k:∀h' H',Un (cN (env::outer)) [] H H' s.heap h'->Az P w H' h'->CT base H H' C e->Q () {s with heap:=h'}):wpAny M A (noteFrame (.ref e) env) Q E s:=by
 obtain⟨T,a0,he,hT,hb,hne⟩:=fl;have xe:cG C e T a0 s.heap:=(show Ag P w H s.heap e _ from hok e _ he).1;have xt:cW T s.heap:=(show Ag P w H s.heap T _ from hok T _ hT).1;refine c9 Cm hl hf xe xt hne λh' T' Bk keep slot x' t0 t'=>?_;obtain⟨un,hok',sx,eT',nT'⟩:=KU (ψe:=cG C e T' a0) (ψ':=kQ T') hok hfree he hT Bk keep slot (λ_=>wI x') (λ_=>pM t0) (λ_=>CS t');exact k h' _ un hok' ⟨T,a0,T',he,⟨_,xe⟩,by rw[aM (cp eT'),bP],bP,nT',hb,eT',sx⟩
theorem d7(Cm:A.frames=some (env::outer))(hl:s.heap.FunFrames base (env::outer))(hf:env.frame=some L)(hok:Az P w H s.heap)(hfree:∀b∈cN (env::outer),H b=none)(fl:CT base H0 H C e)(k:∀h' H',Un (cN (env::outer)) [] H H' s.heap h'->Az P w H' h'->Fly base H' C e->mF e H0 H'->Q () {s with heap:=h'}):
  wpAny M A (noteFrame (.ref e) env) (λ_ s'=>wpAny M A (setFlight (.ref e) none) Q E s') E s:=by
 obtain⟨T0,a0,T,h0,x0,he,hT,n0,hb,hne,sx0⟩:=fl;have xe:cG C e T a0 s.heap:=(show Ag P w H s.heap e _ from hok e _ he).1;have xt:kQ T s.heap:=(show Ag P w H s.heap T _ from hok T _ hT).1;refine d4 Cm hl hf xe xt hne (λh' sb t'=>?_) λh' T' Bk keep slot x' t0 t'=>?_
 ·obtain⟨un,hok'⟩:=KW (fs:=cN (env::outer)) (ψ':=cW T) hok hT sb (λ_=>pM t');exact k h' _ un hok' ⟨T,a0,by rw[aM (cp hne)];exact he,bP,hb,hne⟩ λb o Di q=>by rw[aM (bY q n0)];exact sx0 b o Di q
 ·obtain⟨un,hok',sx,eT',nT'⟩:=KU (ψe:=cG C e T' a0) (ψ':=cW T') hok hfree he hT Bk keep slot (λ_=>wI x') (λ_=>CS (let ⟨a,b,c,d,f⟩:=t0;⟨a,b,c,d,(fq.mp f).1⟩)) (λ_=>pM t');exact k h' _ un hok' ⟨T',a0,by rw[aM (cp eT'),bP],bP,hb,eT'⟩ λb o Di q=>sx b o Di (sx0 b o Di q)
end
def CU(X:Cx)(E:XK):Prop:=∀(pins:List (ah×Obj))(σ:St)(H0 H:Hp)(s:ag)(e:ah)(C:af),Inv X pins σ H s->CT X.base H0 H C e->E (.ref e) none H0->X.xe (.ref e) s
section
variable{P:bg}{w:bu}{K:ak}{mg:Str->Option af}{base:bx}{N:zu}{qual:Str}{scope:dj}{f:ah}{cdv:af}{A:bq}{outer:List Env}{s0:ag}{H0:Hp}{E0:XK}{G:Cfg}{E:XK}{k:Nat}
theorem d8(hE:∀u H',E u none H'->E0 u none H')(hF:wJ E):CU (eK (aS P w base) P w K mg base N qual scope f cdv A outer s0 H0 E0) E:=by intro pins σ Hb H s e C I fb he;refine ae (d7 (P:=P) (w:=w) (H:=H) (base:=base) I.ok.frames I.stack rfl I.hok I.stkFree fb λDr H'' un2 Bq Cz sx=>?_);have I2:=I.call (h':=Dr) (g':=s.gens) (d':=s.drawn) (t':=s.toks) un2 Bq I.bare (λb z=>absurd z (by simp));obtain⟨T,a0,T1,h1,x1,_⟩:=id fb;obtain⟨T2,a2,h3,_⟩:=id Cz;exact⟨e,C,H'',rfl,I2.os,I2.bare,I2.base,Bq,Cz,hE _ _ (hF e Hb H'' sx ⟨C,T,a0,T2,a2,h1,x1,h3⟩ he)⟩
theorem d9{X:Cx}{sc:dj}{N':zu}{s:ag}{H:Hp}{ex:List ah}(hs:X.stack=X.env::X.outer)(hf:X.env.frame=some X.env.locals)(pc:CU X E):lF (aS X.prog X.w X.base) (jU X sc N' s H ex) E:=by
 intro pins σ1 H1 s1 u s' I1 ⟨e,C,H',eu,os,bare,un,hok,fl,he⟩ ⟨pins0,σ0,I0,hex⟩;subst eu;have I':=I1.call' os un hok bare (λb z=>absurd z (by simp));have fr:X.A.frames=some (X.env::X.outer):=by rw[<-hs];exact I0.ok.frames
 have stk:s'.heap.FunFrames X.base (X.env::X.outer):=by rw[<-hs];exact I'.stack
 refine d6 (P:=X.prog) (w:=X.w) (base:=X.base) fr stk hf hok (by rw[<-hs];exact I'.stkFree) fl λDr H'' un2 Bq fb=>?_;have I2:Inv (jU X sc N' s H ex) pins σ1 H'' {s' with heap:=Dr}:=I'.call (h':=Dr) (g':=s'.gens) (d':=s'.drawn) (t':=s'.toks) (by rw[show(jU X sc N' s H ex).stack=X.stack from rfl,hs];exact un2) Bq I'.bare (λb z=>absurd z (by simp));have I2b:Inv (bK X sc N' s H ex) [] σ1 H'' {s' with heap:=Dr}:=Inv.reXe (X:=jU X sc N' s H ex) (λ_ _=>False) (I2.pins_of λ_ z=>nomatch z);obtain⟨m,hn,_⟩:=I2b.loc;refine⟨m,hn,λh3 hh cenv _=>?_⟩;have I3:=vR (I0.pins_of (pins':=[]) λ_ z=>nomatch z) (λb hb=>⟨(let ⟨f0,f1,f2,f3,f4,f5⟩:=(hex b hb).1;⟨f0,f1,f2,f3,f4,λp hp=>f5 p (by simp at hp;exact cu _ hp)⟩),(hex b hb).2⟩) I2b hh;obtain⟨T,a0,T',g1,g2,g3,g4,g5,g6,g7,g8⟩:=id fb;have xe:cG C e T' a0 h3:=(show Ag X.prog X.w H'' h3 e _ from I3.hok e _ g3).1;have xt:kQ T' h3:=(show Ag X.prog X.w H'' h3 T' _ from I3.hok T' _ g4).1;obtain⟨oe,vs,xh,rfl,hd,h0,h1,hdn⟩:=xe;obtain⟨oT,ts,hT,hdT,l3⟩:=xt;unfold PySem.passOn;refine ae (dg (s:={s' with heap:=h3}) xh hd h1 ?_);rw[if_neg (by simp)];refine ae (ae (dg (s:={s' with heap:=h3}) xh hd h1 ?_));rw[if_pos (by simp)];refine pK (s:={s' with heap:=h3}) hT hdT l3 λh4 oT4 sb gT _ _ dT=>?_;have ok4:kQ T' h4:=⟨oT4,_,gT,dT,by simpa using l3⟩
 obtain⟨un4,hok4⟩:=KW (fs:=cN X.stack) (ψ':=kQ T') I3.hok g4 sb (λ_=>CS ok4);have e4:aF H'' T' (.ext (kQ T'))=H'':=funext λb=>by
  by_cases hb:b=T'
  ·subst hb;rw[bP,g4]
  ·rw[aM hb]
 rw[e4]at un4 hok4;have I4:=I3.call (h':=h4) (g':=s'.gens) (d':=s'.drawn) (t':=s'.toks) un4 hok4 I'.bare (λb z=>absurd z (by simp));exact wpAny_throw (pc [] σ0 H' H'' _ e _ I4 fb he)
theorem e7{X:Cx}{F:zv}{ps:zu}{fd:ay}{x:Str}{p pos:Pos}{e:ba}{es:List ba}{ms:M zw}{j:Nat}(hr:Aq k X.A)(hp:lF (aS X.prog X.w X.base) X E)(Fn:Af X.prog X.w X.K X.mg X.base (aS X.prog X.w X.base) j f fd ps (bA G F))(hj:j<=k)(hg:Gl X x)(hm:X.mg x=some (.ref f))(hk:iu X.K (.ref f)=true)(hb:Binds X.K fd ps [])(ha:dH X G E (e::es) ms)(Cd:(x==Ey)=false:=by decide)(he:ao (e::es) X.env=(false,eval e X.env)::ao es X.env:=by rfl)(Bc:(backTo pos (ao es X.env)).any (·.1)=false:=by rfl):
  aB X G E (.Call (.Name x p) (e::es) [] pos) (aE F ms):=λhK=>
 Eg (FX Fn (hr.mono hj) hg hm hk hb .nil hp (ha hK) Cd he Bc) λσ H Q⟨μ,ρ,h,rs,s,o⟩=>kG rs s o λμ1 ds1 h1 vs H1 x1 Ak s1 r1 o1=>by rw[jz];exact⟨μ1,h1,ds1,r1,s1,o1⟩
end
noncomputable def kR(src:Src)(st:cH)(test:M Bool)(me:M Dv):Nat->Nat->Ev->Hs->zw->Rs zw 
 |0,_=>λρ h acc=>if src.fin h=true then .ok acc h else .bad
 |f+1,k=>λρ h acc=>match src.get k h with
  |none=>.bad
  |some d=>match st d ρ with
   |none=>.bad
   |some ρ1=>(test ρ1 h).bind λb h2=>if b=true then(me ρ1 h2).bind λd h3=>if acc.length<1000000 then kR src st test me f (k+1) ρ1 h3 (acc++[d])else .bad else kR src st test me f (k+1) ρ1 h2 acc
def rF(mi:M Src)(cap:List (Option Nat))(st:cH)(test:M Bool)(me:M Dv):M zw:=λρ h=>(mi ρ h).bind λsrc h1=>kR src st test me src.n 0 (jP cap ρ) h1 []
theorem Out.at{α β:Type}{G:Cfg}{E:XK}{μ:Nat->ah}{n:Nat}{H H':Hp}{r:Rs α}{R:(Nat->ah)->Nat->Hp->α->β->Prop}{Q:β->Hp->Prop}(o:Out G E μ n H r R Q)(x:Ext μ n H μ n H'):Out G E μ n H' r R Q:=by
 cases r with
 |bad=>exact o
 |ex c h'=>exact λμ' H1 u x1=>o μ' H1 u (x.trans x1)
 |ok d h'=>exact λμ' H1 u x1=>o μ' H1 u (x.trans x1)
section
variable{G:Cfg}
theorem e8{E:XK}{src:Src}{st:cH}{test:M Bool}{me:M Dv}{J:It}{μ1:Nat->ah}{h1:Hs}{H1:Hp}{ρ:Ev}{σ:St}{xs:zw}{vs:Ez}{Q:VK}(ok:Bm G μ1 h1.length H1 src J)(rs:Ah G μ1 h1.length H1 ρ σ)(s1:Ai G μ1 h1 H1)(r:RelDL G μ1 h1.length H1 xs vs)(o:Out G E μ1 h1.length H1 (kR src st test me src.n 0 ρ h1 xs) (RL G) Q):
  oW J (nM G st) (fU G E test) (sL (eI G E me)) (λ_ H' vs=>∀p,H' p=none->Q (.ref p) (aF H' p (.lst vs))) σ H1 vs:=by
 refine⟨λi m σ H vs=>∃μ2 ρ2 h2 xs2,Ext μ1 h1.length H1 μ2 h2.length H/\Ah G μ2 h2.length H ρ2 σ/\Ai G μ2 h2 H/\RelDL G μ2 h2.length H xs2 vs/\i+m=src.n/\Out G E μ2 h2.length H (kR src st test me m i ρ2 h2 xs2) (RL G) Q,⟨src.n,μ1,ρ,h1,xs,Ej,rs,s1,r,vb _,o⟩,?_⟩
 rintro i m σ2 H2 vs2 ⟨μ2,ρ2,h2,xs2,x2,Bu,s2,r2,him,o2⟩
 cases m with
 |zero=>
  unfold kR at o2
  split at o2
  ·rename_i hf;exact .inl ⟨(ok i μ2 _ H2 x2 s2).2 (by lia) hf,λp hp=>o2 μ2 _ _ (Ed (cJ hp)) (s2.same (cJ hp)) ⟨p,vs2,rfl,bP,s2.not hp,Eb (Ed (cJ hp)) _ _ r2⟩⟩
  ·exact o2.elim
 |succ m=>
  unfold kR at o2
  cases q:src.get i h2 with
  |none=>rw[q]at o2;exact o2.elim
  |some d=>
   rw[q]at o2;dsimp only at o2
   cases q2:st d ρ2 with
   |none=>rw[q2]at o2;exact o2.elim
   |some ρ3=>
    rw[q2]at o2;dsimp only at o2;obtain⟨go,yl⟩:=(ok i μ2 h2 H2 x2 s2).1 (by lia) d q;refine .inr ⟨go,λσ' H' Bh=>∃μ3 ρ4 h4 xs4,Ext μ1 h1.length H1 μ3 h4.length H'/\Ah G μ3 h4.length H' ρ4 σ'/\Ai G μ3 h4 H'/\RelDL G μ3 h4.length H' xs4 Bh/\(i+1)+m=src.n/\Out G E μ3 h4.length H' (kR src st test me m (i+1) ρ4 h4 xs4) (RL G) Q,
     λσ' H' Bh z=>⟨m,jf m,z⟩,λx H' hy=>?_⟩
    obtain⟨sm,rx⟩:=yl x H' hy;have xsm:Ext μ2 h2.length H2 μ2 h2.length H':=Ed sm;refine⟨μ2,ρ2,h2.length,d,ρ3,Bu.mono xsm,rx,q2,λσ3 Ct=>⟨μ2,ρ3,h2,Ct,s2.same sm,((o2.at xsm).bind (R1:=RB)).mono λb H4⟨μ4,b',h4,x4,s4,rb,o4⟩=>?_⟩⟩;have eb:b=b':=rb;subst eb
    cases b with
    |false=>rw[if_neg (by decide)]at o4⊢;exact⟨μ4,ρ3,h4,xs2,(x2.trans xsm).trans x4,Ct.mono x4,s4,Eb (xsm.trans x4) _ _ r2,by lia,o4⟩
    |true=>
     rw[if_pos rfl]at o4⊢;refine⟨μ4,ρ3,h4,Ct.mono x4,s4,(o4.bind (R1:=Ac G)).mono λv H5⟨μ5,d5,h5,x5,s5,r5,o5⟩=>?_⟩
     split at o5
     ·rename_i hl;refine⟨?_,μ5,ρ3,h5,xs2++[d5],((x2.trans xsm).trans x4).trans x5,(Ct.mono x4).mono x5,s5,(Eb ((xsm.trans x4).trans x5) _ _ r2).append (Ei r5 Eh),by lia,o5⟩;rw[r2.length];exact ar hl (by decide)
     ·exact o5.elim
theorem f6{E:XK}{mi:M Src}{cap:List (Option Nat)}{st:cH}{test:M Bool}{me:M Dv}{σ:St}{H:Hp}{Q:VK}(t:tE G E (rF mi cap st test me) σ H Q):sN (wC G E mi) cap (nM G st) (fU G E test) (sL (eI G E me)) σ H Q:=by obtain⟨μ,ρ,h,rs,s,o⟩:=t;exact⟨μ,ρ,h,rs,s,(o.bind (R1:=Bm G)).mono λJ H1⟨μ1,src,h1,x1,s1,ok,o1⟩=>e8 ok (A3 (rs.mono x1) cap) s1 Eh o1⟩
end
section
variable{X:Cx}{G:Cfg}{E:XK}{elt tg iter:ba}{ifs:List ba}{sc:dj}{ps pos:Pos}{mi:M Src}{st:cH}{test:M Bool}{me:M Dv}{N:zu}{cap:List (Option Nat)}
def KY(X:Cx)(G:Cfg)(E:XK)(ifs:List ba)(m:M Bool):Prop:=X.K=G.K->Dj X ifs (fU G E m)
theorem f7{Y:Cx}:KY Y G E [] bN:=λ_=>Dj.imp GQ λσ H Q⟨μ,ρ,h,rs,s,o⟩=>o.val s rfl
end
section
variable{P:bg}{w:bu}{K:ak}{mg:Str->Option af}{base:bx}{N:zu}{qual:Str}{f:ah}{G:Cfg}{k:Nat}
theorem h8{x qual:Str}{st:fj}{fd:ay}{ps:zu}{mb:MS}(Fn:Fun K x qual st f fd)(S:Ab N ps (aI st))(hK:K=G.K)(Aw:∀(cdv:af)(A:bq)(outer:List Env)(s:ag)(H:Hp)(E₀ E:XK),Good (eK (aS P w base) P w K mg base N qual (aI st) f cdv A outer s H E₀) G E k->CU (eK (aS P w base) P w K mg base N qual (aI st) f cdv A outer s H E₀) E->iI (eK (aS P w base) P w K mg base N qual (aI st) f cdv A outer s H E₀) G E (gJ st) mb):
  Af P w K mg base (aS P w base) (k+1) f fd ps (bA G (aT ps.length N.length mb)):=by
 obtain⟨oc,od,kV,doc,pm,an,cdv,ct,osl,rfl,lk,hcd⟩:=Fn.ex;have hlen:∀vs H Q E,bA G (aT ps.length N.length mb) vs H Q E->vs.length=ps.length:=λvs H Q E⟨μ,h,ds,r,sm,o⟩=>by
  rw[r.length];unfold aT at o
  by_cases hd:ds.length=ps.length
  ·exact hd
  ·rw[if_neg hd]at o;exact o.elim
 refine vJ lk hcd S hlen λA outer s H vs Q E hr hsp=>?_;have hl:=hlen _ _ _ _ hsp;obtain⟨μ,h,ds,r,sm,o⟩:=hsp;have o':Out G E μ h.length H (cL (mb (dF N.length ds) h)) (Ac G) Q:=by unfold aT at o;rw[if_pos (by rw[<-r.length];exact hl)]at o;exact o
 have hEB:∀u H',EB G μ h.length H (mb (dF N.length ds) h) u none H'->E u none H':=λu H'⟨c,h',μ',er,x,s',fl⟩=>by rw[er]at o';exact o' μ' H' u x s' fl
 refine⟨_,Aw cdv A outer s H E (EB G μ h.length H (mb (dF N.length ds) h)) (wK hr hK hEB tH) (d8 hEB tH) hK,?_⟩;refine⟨μ,dF N.length ds,h,tG r N,sm,?_⟩
 cases q:mb (dF N.length ds) h with
 |bad=>rw[q]at o';exact o'.elim
 |bk ρ h'=>rw[q]at o';exact o'.elim
 |ct ρ h'=>rw[q]at o';exact o'.elim
 |rt d h'=>rw[q]at o';exact o'
 |nx ρ h'=>rw[q]at o';exact λμ' H' σ' x' s' rs'=>o' μ' H' .non x' s' rfl
 |ex c h'=>exact λμ' H' u x' s' fl=>⟨c,h',μ',rfl,x',s',fl⟩
end
section
variable{X:Cx}{G:Cfg}{E:XK}{a b:ba}{rest:List ba}{ma mb:M Dv}{pos:Pos}
theorem h9{ta tb:TE}(ha:PE X a ta)(hb:PE X (.BoolOp .Or (b::rest) pos) tb):PE X (.BoolOp .Or (a::b::rest) pos) (λσ H Q=>ta σ H λx H'=>∃k,zY X.K x H' k/\if k=true then Q x H' else tb σ H' Q):=by
 intro pins s σ H Q I h;refine BoolOp_or (aH (ha pins s σ H _ I h) λv s1⟨x,H1,I1,r1,q1⟩=>?_);refine jk (FQ pins s1 σ H1 x v (λk H'=>if k=true then Q x H' else tb σ H' Q) I1 r1 q1) (λk s2⟨H2,I2,q2⟩=>?_) λ_ _ z=>z
 cases k with
 |false=>exact hb pins s2 σ H2 Q I2 q2
 |true=>exact⟨x,H2,I2,r1,q2⟩
end
open PySem.W SoM SR
end L2.Mr
namespace SR
open SM
end SR
namespace L2.Mr
open SR
open PyProof.Rows.KTD
noncomputable def Cw(K:ak)(q:ah)(D:List (Str×ah)):Prop:=(q==sysModules)=false/\∃(o:Obj)(es:Array tq)(ep:Nat),K.lookup q=some o/\o.ExactDict/\o.data=.dict es ep/\Rows (λ(f:ah)v=>v=.ref f) es.toList D
section
variable{X:Cx}{pins:List (ah×Obj)}{σ:St}{H:Hp}{s:ag}{q:ah}{D:List (Str×ah)}{k:Str}{tk:Tok}{A:bq}{E:af->ag->Prop}
theorem Cw.typ(T:Cw X.K q D)(I:Inv X pins σ H s):s.TypeIs (.ref q) "dict":=by obtain⟨_,o,es,ep,lk,ex,_⟩:=T;exact⟨o,I.kIn q o lk,ex.1⟩
theorem KZ{Q:Option af->ag->Prop}(T:Cw X.K q D)(I:Inv X pins σ H s)(h:∀n,Q ((datumAt k D).map gw) {s with toks:=n}):wpAny (model X.prog X.w) A (dictGet q (.str k tk)) Q E s:=by
 obtain⟨_,o,es,ep,lk,ex,hd,hr⟩:=T;have ho:=I.kIn q o lk;have all:(es.all λe=>isExactStrKey e.key)=true:=by obtain⟨l⟩:=es;simpa using hr.exact
 have val:(es.toList.find? λe=>e.key.isStr k).map (·.val)=(datumAt k D).map gw:=by
  cases c:datumAt k D with
  |none=>exact hr.find_none c
  |some f=>obtain⟨v,e,rfl⟩:=hr.find_some c;exact e
 unfold dictGet;refine fg (ae (wpAny_pyHash_str (ae (kt_dictFind_strs (s:={s with toks:=s.toks+1}) ho hd all ?_))))
 cases hi:es.findIdx? (λe=>e.key.isStr k)with
 |none=>
  have:es.toList.find? (λe=>e.key.isStr k)=none:=by rw[List.find?_eq_none];intro e he;have:=Array.findIdx?_eq_none_iff.mp hi e (by simpa using he);simpa using this
  rw[this]at val;have h':=h (s.toks+1);rw[<-val]at h';exact aj h'
 |some i=>
  obtain⟨hlt,hp,hb⟩:=Array.findIdx?_eq_some_iff_getElem.mp hi;have:es.toList.find? (λe=>e.key.isStr k)=some es[i]:=by rw[List.find?_eq_some_iff_getElem];exact⟨hp,i,by simpa using hlt,by simp,λj hj=>by simpa using hb j hj⟩
  rw[this]at val;have h':=h (s.toks+1);rw[<-val]at h';refine ae (wk (s:={s with toks:=s.toks+1}) ho hd (aj ?_));rw[qk hlt];exact h'
theorem i0(T:Cw X.K q D):Bi X (compareOp .In) (λx y H Q=>∃k,x=.str k/\y=.ref q/\Q (.bl (datumAt k D).isSome) H):=by
 intro pins s σ H x y v u Q I r1 r2 ⟨k,e1,e2,hq⟩;subst e1;subst e2;obtain⟨t,rfl⟩:=r1;cases r2;have ty:=T.typ I;show wpAny _ _ (contains (.ref q) (.str k t) >>=λb=>pure (ue b)) _ _ s;refine ae ?_;unfold contains;refine fg (ae (wpAny_specialOf ty vg.lookup ?_));rw[show(some (qt "dict.__contains__")==some jm)=false from rfl];refine ae (wpAny_callSpecialUnlessNone?_slot (name:=ik "__contains__") ty vg (gv vg ty entry_dict_contains ?_ (args_dict_contains _ _)));show wpAny _ _ (dictGet q (.str k t) >>=_) _ _ s;refine ae (KZ T I λn=>?_)
 cases c:datumAt k D with
 |some f=>rw[c]at hq;exact aj ⟨_,rfl,gy (aj ⟨.bl true,H,I.tok _,rfl,hq⟩)⟩
 |none=>rw[c]at hq;exact ae (wpAny_pendingKey_other T.1 (aj ⟨_,rfl,gy (aj ⟨.bl false,H,I.tok _,rfl,hq⟩)⟩))
theorem i5(T:Cw X.K q D):IxR X (λx y H Q=>∃k f,x=.ref q/\y=.str k/\datumAt k D=some f/\Q (.ref f) H):=by intro value slice pins s σ H x y v u Q I rx ry ⟨k,f,e1,e2,hf,hq⟩ hs;subst e1;subst e2;cases rx;obtain⟨t,rfl⟩:=ry;have ty:=T.typ I;refine tail_any ty wm.lookup ?_ hs;unfold getItem;refine fg (ae (vz ty (by decide) ?_));refine ae (ib (name:=ik "__getitem__") ty wm (gv wm ty entry_dict_getitem ?_ (args_dict_getitem _ _)));show wpAny _ _ (dictGet q (.str k t) >>=_) _ _ s;refine ae (KZ T I λn=>?_);rw[hf];exact aj ⟨_,rfl,aj ⟨.ref f,H,I.tok _,rfl,hq⟩⟩
end
section
variable{X:Cx}{G:Cfg}{E:XK}{q:ah}{D:List (Str×ah)}{a e:ba}{ma me mw:M Dv}{x y z:Str}{p pos p1 p2 p3 p4 p5 p6 p7 p8:Pos}{ks:zu}
noncomputable def tX(ks:zu)(x:Dv)(h:Hs):Rs Dv:=match x with
 |.str k=>.ok (.bl (decide (k∈ks))) h
 |_=>.bad
theorem K0{k:Str}:∀{D:List (Str×ah)},(datumAt k D).isSome=decide (k∈D.map Prod.fst)
 |[]=>rfl
 |(x,d)::D=>by
  have ih:=K0 (k:=k) (D:=D)
  by_cases c:k=x
  ·subst c;simp[datumAt]
  ·have:datumAt k ((x,d)::D)=datumAt k D:=by simp[datumAt,c]
   rw[this,ih];simp[c]
theorem i7(T:Cw X.K q D)(hks:D.map Prod.fst=ks)(ha:aB X G E a ma)(hg:Gl X x)(hm:X.mg x=some (.ref q))(hd:(x==Ey)=false:=by decide)(hb:behindInMarks .In (.Name x p)=false:=by rfl):fK X G E (.Compare a [.In] [.Name x p] pos) (mB (m1 (tX ks) ma)):=λhK=>
 PT.imp (FO (i0 T) (ha hK) (rX (v:=.ref q) hg hm rfl hd) hb) λσ H Q t=>by
  obtain⟨μ,ρ,h,rs,s,o⟩:=AW t;refine cT rs s o λμ1 d h1 v H1 x1 Ak s1 r1 o1=>?_
  cases d with
  |str k=>rw[Ac]at r1;subst r1;have o2:Out G E μ1 h1.length H1 (.ok (.bl (decide (k∈ks))) h1) (Ac G) _:=o1;exact⟨k,rfl,rfl,by rw[K0,hks];exact o2.val s1 rfl⟩
  |_=>exact o1.elim
def tY(Fs:List (Str×(zv)))(j:Nat)(mw me:M Dv):MS:=λρ h=>match ρ[j]? with
 |some none=>(mw ρ h).thenS λk h1=>match k with
  |.str z=>match Fs.lookup z with
   |some F=>(me ρ h1).thenS λd h2=>(F [d] h2).thenS λr h3=>.rt r h3
   |none=>.bad
  |_=>.bad
 |_=>.bad
def i8(X:Cx)(CX:iS)(j i:Nat)(E:XK)(t:TA):TE:=λσ H Q=>∃(f:ah)(fd:ay)(ps:zu)(sp:Sp),σ[i]?=some (some (.ref f))/\iu X.K (.ref f)=true/\Binds X.K fd ps []/\Af X.prog X.w X.K X.mg X.base CX j f fd ps sp/\t σ H λvs H1=>sp vs H1 Q E
theorem i9{CX:iS}{j i:Nat}{t:TA}{es:List ba}(hv:PE X (.Name y p) (vC i))(hr:Aq j X.A)(hx:lF CX X E)(ha:PA X (e::es) t)(he:ao (e::es) X.env=(false,eval e X.env)::ao es X.env:=by rfl)(Bc:(backTo pos (ao es X.env)).any (·.1)=false:=by rfl):
  PE X (.Call (.Name y p) (e::es) [] pos) (i8 X CX j i E t):=by
 intro pins s σ H Q I ⟨f,fd,ps,sp,e1,hk,hb,Fn,h⟩;refine jl (aH (hv pins s σ H (λv H'=>v=.ref f/\H'=H) I ⟨_,e1,rfl,rfl⟩) λu s1⟨v,H',I1,r,e2,e3⟩=>?_);subst e2;subst e3;cases r;refine pd (h₀:=X.base) I1.ok.mod.kin hk (aH (ha pos pins s1 σ _ _ I1 h) λus s2⟨vs,H1,I2,r,q⟩=>⟨I2.kIn,?_⟩) he Bc;exact vI Fn hr hb .nil hx I2 r (by rw[jz];exact q)
theorem j0{kk j jj:Nat}{Fs:List (Str×(zv))}(g:Good X G E kk)(T:Cw X.K q D)(hjj:jj<=kk)(hN:X.N.Nodup)(hi:X.N[j]?=some y)(hy:kD X.env.scope y)(hf:X.fn y=true∨X.env.scope.names.lookup y=some .local)(hv:PE X (.Name y p6) (vC j))(hg:Gl X x)(hm:X.mg x=some (.ref q))(hw:aB X G E a mw)(hpx:AD a)(he:aB X G E e me)(hF:∀z F,Fs.lookup z=some F->∃(f:ah)(fd:ay)(ps:zu),datumAt z D=some f/\iu X.K (.ref f)=true/\Binds X.K fd ps []/\Af X.prog X.w X.K X.mg X.base (aS X.prog X.w X.base) jj f fd ps (bA G F))(hd:(x==Ey)=false:=by decide)(Cu:swapsWith (.Subscript (.Name x p2) a p4) (some (.Name y p1)) p5.line X.env=pure false:=by rfl)(Ck:ao [e] X.env=[(false,eval e X.env)]:=by rfl):
  iI X G E [.Assign [.Name y p1] (.Subscript (.Name x p2) a p4) p5,.Return (some (.Call (.Name y p6) [e] [] p7)) p8] (tY Fs j mw me):=λhK=>
 Du.imp (FE (vE hN hi hy (GC (i5 T) (rX (v:=.ref q) hg hm rfl hd) (hw hK) hpx) Cu hf) (zR (FF (i9 hv (g.room.mono hjj) g.pas (iR (he hK) jJ Ck) Ck rfl)))) λD' σ H⟨μ,ρ,h,rs,s,o⟩=>by
  unfold tY at o
  cases c:ρ[j]? with
  |none=>rw[c]at o;exact o.elim
  |some c'=>
   cases c' with
   |some d=>rw[c]at o;exact o.elim
   |none=>
    rw[c]at o;dsimp only at o;refine gY rs s o λμ1 k h1 v H1 x1 Ak s1 r1 o1=>?_
    cases k with
    |str z=>
     rw[Ac]at r1;subst r1;dsimp only at o1
     cases c2:Fs.lookup z with
     |none=>rw[c2]at o1;exact o1.elim
     |some F=>
      rw[c2]at o1;dsimp only at o1;obtain⟨f,fd,ps,e1,e2,e3,e4⟩:=hF z F c2;have hj:j<σ.length:=by rw[<-rs.len];exact(av.mp c).1
      have Bu:Ah G μ1 h1.length H1 ρ (σ.set j (some (.ref f))):=⟨by rw[jq];exact Ak.len,λi d ed=>by
       have ne:j≠i:=λz=>by subst z;rw[c]at ed;cases ed
       rw[gg ne];exact Ak.at_ i d ed⟩
      refine⟨z,f,rfl,rfl,e1,f,fd,ps,bA G F,da hj,e2,e3,e4,?_⟩;refine gY Bu s1 o1 λμ2 d h2 w H2 x2 Ct s2 r2 o2=>?_;refine⟨μ2,h2,[d],.cons r2 .nil,s2,?_⟩
      cases c3:F [d] h2 with
      |bad=>rw[c3]at o2;exact o2.elim
      |ex c' h'=>rw[c3]at o2;exact o2
      |ok r h'=>rw[c3]at o2;exact o2
    |_=>exact o1.elim
end
section
variable{X:Cx}{G:Cfg}{E:XK}{e o:ba}{me mo:M Dv}{cpos apos:Pos}
theorem j3:nF X "str.index" (λx xs H Q=>∃(z y:Str)(i:Nat)(r:zt),x=.str z/\xs=[.str y]/\ie z y 0 z.length 1=i::r/\Q (.int i) H):=by intro pins s σ H x xs v us Q I rx rv ⟨z,y,i,r,e1,e2,ho,q⟩;subst e1;subst e2;obtain⟨t,rfl⟩:=rx;obtain⟨u,rfl,ru⟩:=gI rv;obtain⟨t',rfl⟩:=ru;exact SC.index ho ⟨.int i,H,I.tok _,⟨_,rfl⟩,q⟩
noncomputable def CV(x y:Dv)(h:Hs):Rs Dv:=match x,y with
 |.str z,.str w=>match ie z w 0 z.length 1 with
  |i::_=>.ok (.int (i:Nat)) h
  |[]=>.bad
 |_,_=>.bad
theorem j4(ho:aB X G E o mo)(he:aB X G E e me)(hb:attributeBase o "index" X.env (eval o X.env)=eval o X.env:=by rfl)(hs:ao [e] X.env=[(false,eval e X.env)]:=by rfl)(hl:(apos.endLine==cpos.line)=true:=by rfl):aB X G E (.Call (.Attribute o "index" apos) [e] [] cpos) (hW CV mo me):=λhK=>
 Eg (CO PySem.F.slot_str_index PySem.F.type_str_index j3 (ho hK) (iR (he hK) jJ hs) hb (by rw[hs];rfl) hl hs) λσ H Q⟨μ,ρ,h,rs,s,oo⟩=>cT rs s oo λμ1 x h1 vx H1 x1 Ak s1 r1 o1=>by
  split at o1
  ·rename_i hl
   cases x with
   |str z=>
    rw[Ac]at r1;subst r1;refine⟨⟨z,rfl⟩,cT Ak s1 o1 λμ2 d h2 vd H2 x2 Bu s2 r2 o2=>?_⟩
    cases d with
    |str w=>
     rw[Ac]at r2;subst r2;dsimp only[CV]at o2
     cases q:ie z w 0 z.length 1 with
     |nil=>rw[q]at o2;exact o2.elim
     |cons i r=>rw[q]at o2;exact⟨z,w,i,r,rfl,rfl,q,o2.val s2 rfl⟩
    |_=>exact o2.elim
   |_=>cases hl
  ·exact o1.elim
end
section
variable{X:Cx}{G:Cfg}{E:XK}{a b o:ba}{rest:List ba}{ma mb mo:M Dv}{pos p2:Pos}
noncomputable def CW(m u:M Dv):M Dv:=λρ h=>(m ρ h).bind λd h1=>match d with
 |.str z=>if z.length<=1000000 then(if(z.length:Int) !=0 then .ok (.str z) h1 else u ρ h1)else .bad
 |_=>.bad
theorem j5(ha:aB X G E a ma)(hb:aB X G E (.BoolOp .Or (b::rest) pos) mb):aB X G E (.BoolOp .Or (a::b::rest) pos) (CW ma mb):=λhK=>
 Eg (h9 (ha hK) (hb hK)) λσ H Q⟨μ,ρ,h,rs,s,o⟩=>
  cT rs s o λμ1 x h1 vx H1 x1 Ak s1 r1 o1=>by
   cases x with
   |str z=>
    dsimp only at o1;rw[Ac]at r1;subst r1
    split at o1
    ·rename_i hl;refine⟨((z.length:Int) !=0),⟨cm hl (by decide),rfl⟩,?_⟩
     split at o1
     ·rename_i hz;rw[hz];exact AG (o1.val s1 rfl)
     ·rename_i hz;rw[Bool.not_eq_true]at hz;rw[hz];exact AF ⟨μ1,ρ,h1,Ak,s1,o1⟩
    ·exact o1.elim
   |_=>exact o1.elim
theorem K1{G:Cf0}{μ:Nat->ah}{n:Nat}{H:Hp}:∀(ns:zr),RelDL G μ n H (ns.map Dz) (ns.map Ef)
 |[]=>Eh
 |x::ns=>Ei rfl (K1 ns)
def K2(scr:zr)(x:Dv)(lo hi:Option Int)(h:Hs):Rs Dv:=match x with
 |.scr=>.ok (.ref h.length) (h++[.lst (gM (scr.map Dz) lo hi)])
 |_=>.bad
def oJ(scr:zr)(m:M Dv)(lo hi:MO):M Dv:=λρ h=>(m ρ h).bind λx h1=>(lo ρ h1).bind λl h2=>(hi ρ h2).bind λu h3=>K2 scr x l u h3
theorem K4{lo hi:Option ba}{ml mh:MO}(ho:aB X G E o mo)(hl:qY X G E lo ml)(hh:qY X G E hi mh):aB X G E (.Subscript o (.Slice lo hi none p2) pos) (oJ G.scr mo ml mh):=λhK=>
 Eg (F8 GH (ho hK) (hl hK) (hh hK)) λσ H Q⟨μ,ρ,h,rs,s,oo⟩=>cT rs s oo λμ1 x h1 vx H1 x1 Ak s1 r1 o1=>by
  refine⟨μ1,ρ,h1,Ak,s1,(o1.bind (R1:=λ_ _ _ a b=>b=a)).mono λl' H2⟨μ2,l,h2,x2,s2,el,o2⟩=>?_⟩;subst el;refine⟨μ2,ρ,h2,Ak.mono x2,s2,(o2.bind (R1:=λ_ _ _ a b=>b=a)).mono λu' H3⟨μ3,u,h3,x3,s3,eu,o3⟩=>?_⟩;subst eu;have r3:=El (x2.trans x3) _ _ r1
  cases x with
  |scr=>
   dsimp only[K2]at o3;obtain⟨rfl,fz⟩:=r3;have hq:Bb X.K H3 G.sa (G.scr.map Ef):=by rw[hK];exact fz.sq
   exact⟨_,_,rfl,hq,λp hp=>oY s3 (BD (K1 G.scr) _ _) hp o3⟩
  |_=>exact o3.elim
end
open PySem.Calls
structure FdM(K:ak)(x qual:Str)(ps:zu)(st:fj)(f:ah)(fd:ay):Prop where
 F:Fun K x qual st f fd
 B:Binds K fd ps []
end L2.Mr
namespace L2
open PySem PySem.Spec PySem.Calls PyProof.Rows
section
variable{X:Cx}
theorem j6{i:Nat}{x:Str}{px pos:Pos}{elt:ba}{sc:dj}{ps:Pos}{tg iter:ba}{ifs:List ba}{wi:TI}{g:TG}{tt:TT}{te:TE}{N:zu}{cap:List (Option Nat)}(Cu:swapsWith (.ListComp elt [⟨tg,iter,ifs,0⟩] sc ps) (some (.Name x px)) pos.line X.env=pure true)(hN:X.N.Nodup)(hi':X.N[i]?=some x)(hx:X.env.scope.names.lookup x=some .local)(hc:X.calm=true)(C:Av X sc N cap)(hi:PI X tg iter wi)(hg:∀s H ex,PG (jU X sc N s H ex) tg g)(Cb:∀s H ex,Dj (jU X sc N s H ex) ifs tt)(hel:∀s H ex,PE (jU X sc N s H ex) elt te)(hs:∀x,foldedSetIterable iter X.env x=pure x):PS X (.Assign [.Name x px] (.ListComp elt [⟨tg,iter,ifs,0⟩] sc ps) pos) (rY (sN wi cap g tt (sL te)) (vD i)):=by
 intro pins s σ H D I h;rw[uj _ _ _ _ Cu];have Dh:closureFor sc X.env=pure (cS X.env sc.names []):=sG λx hx=>I.ok.has x (C.free x hx);refine ae (jn (ae ?_));show wpAny _ X.A (do let _ <-comprehension (.ListComp elt [⟨tg,iter,ifs,0⟩] sc ps) sc X.env (firstIterPos [⟨tg,iter,ifs,0⟩] ps) (newList []) (firstAsync [⟨tg,iter,ifs,0⟩]) (firstIter [⟨tg,iter,ifs,0⟩] X.env) (some (assign (.Name x px) X.env))) _ _ s;refine ae (aH (my (use:=some (assign (.Name x px) X.env)) (Q:=λ_ s'=>SP X pins D .next s') (g:=⟨tg,iter,ifs,0⟩) (gs:=[]) rfl hs Dh C.kind C.nd (aH (hi pins s σ H _ I h) λv s1 h1=>aH h1 λitv s2 h2=>?_)) λ_ s' hq=>aj (aj hq));obtain⟨it,fp,tn,J,H2,e,I2,T,Cp,f2,lp⟩:=h2;subst e;refine dz (AI ?_);dsimp only;generalize hs3:({s2 with heap:=s2.heap.push {cls:=.type "list",dict:=none,data:=.seq ([]:List af).toArray} }:ag)=s3;have kp:∀b o,s2.heap.get? b=some o->s3.heap.get? b=some o:=λb o e=>by rw[<-hs3];exact ai _ e
 have I3:Inv X pins σ H2 s3:=by rw[<-hs3];exact I2.kept (t':=s2.toks) λb o e=>ai _ e
 have eD:s3.heap.get? s2.heap.objs.size=some {cls:=.type "list",data:=.seq ([]:List af).toArray 0}:=by rw[<-hs3];exact ax _ rfl
 have nD:H2 s2.heap.objs.size=none:=I2.hok.fresh (aq _);have fD:bQ X pins H2 s2.heap.objs.size:=I2.fpOk (aq _) nD;have hlt:s2.heap.objs.size<s3.heap.objs.size:=au eD;have hex:∀b∈s2.heap.objs.size::fp,bQ X pins H2 b/\b<s3.heap.objs.size:=λb hb=>by
  rcases bh.mp hb with rfl|hb
  ·exact⟨fD,hlt⟩
  ·obtain⟨o,e,_⟩:=T.obj 0 _ Cp b hb;exact⟨f2 b hb,au (kp b o e)⟩
 have hDfp:s2.heap.objs.size∉fp:=λz=>by obtain⟨o,e,_⟩:=T.obj 0 _ Cp _ z;exact fe _ (au e)
 have I4:=(AK (N:=N) (ex:=s2.heap.objs.size::fp) I3 C hex).reXe (KS X s3 H2 (s2.heap.objs.size::fp));have F4:=AL (N:=N) I3 C hex;have st4:tn 0 (pushCells (s3.heap.push {cls:=.type "dict",data:=.dict #[]}) sc.names):=T.keep 0 _ _ Cp λb hb o e=>kj _ _ _ _ (ai _ (kp b o e));have a4:AccAt {s3 with heap:=pushCells (s3.heap.push {cls:=.type "dict",data:=.dict #[]}) sc.names} s2.heap.objs.size []:=⟨ja _,[],0,.nil,kj _ _ _ _ (ai _ eD)⟩
 have loop:codeAny (model X.prog X.w) X.A (.compLoop (.ListComp elt [⟨tg,iter,ifs,0⟩] sc ps) 0 (.ref it) (.ref s2.heap.objs.size) (jU X sc N s3 H2 (s2.heap.objs.size::fp)).env) (compPost (model X.prog X.w) X.A X.xe (some (assign (.Name x px) X.env)) (λ_ s'=>SP X pins D .next s') (.ref s2.heap.objs.size) s3.heap.objs.size)
   {s3 with heap:=pushCells (s3.heap.push {cls:=.type "dict",data:=.dict #[]}) sc.names}:=by
  refine c8 (X:=jU X sc N s3 H2 (s2.heap.objs.size::fp)) (λe s' z=>?_) hc (AM elt tg iter ifs sc ps (.ref it) _ _) (hg _ _ _) (Cb _ _ _) (sM (hel _ _ _)) T I4 a4 (F4 _ (bo ..)) st4 (λb hb=>F4 b (az _ hb)) hDfp lp λσ' H' xs' s' I' a' n' k'=>?_
  ·exact z ⟨pins,σ,I3,hex⟩
  ·have I'':Inv (bK X sc N s3 H2 (s2.heap.objs.size::fp)) pins σ' H' s':=I'.reXe _;obtain⟨m,hn,_⟩:=I''.loc;have f:bQ X pins H' s2.heap.objs.size:=⟨n',fD.2⟩
   have fC:bQ X pins H' s3.heap.objs.size:=I3.fpOk (aq _) I''.free;have I5:Inv X pins σ H' s':=vR I3 hex I'' (tj ..);obtain⟨hz,its,n,r,eD⟩:=a';have I6:Inv X pins σ (aF H' s2.heap.objs.size (.lst xs')) s':=I5.adopt f (cm I2.sz (aq _)) ⟨hz,its,n,r,eD⟩;show wpAny _ X.A (assign (.Name x px) X.env (.ref s2.heap.objs.size)) _ _ s';obtain⟨c0,c1,c2,c3,c4,c5⟩:=fC;have nC:aF H' s2.heap.objs.size (.lst xs') s3.heap.objs.size=none:=by rw[aM (cp (aw hlt))];exact c0
   refine si (vB (v:=Eo s2.heap.objs.size) I6 hN hi' (.inl hx) rfl (λDg I7⟨a,sb,ha⟩=>?_) (.inr hx));have hCa:s3.heap.objs.size≠a:=by
    rcases ha with z|z
    ·rw[z];exact c1
    ·exact cp (c4 x a z)
   refine⟨m,hn.sameBut sb hCa,λh' hh=>?_⟩;have I8:Inv X pins (σ.set i (some (.ref s2.heap.objs.size))) (aF H' s2.heap.objs.size (.lst xs')) {Dg with heap:=h'}:=I7.turned (t':=Dg.toks) (λb o hb e=>(hh.2 b hb).trans e) nC c1 c3 c4 c5;exact⟨_,_,I8,k' s2.heap.objs.size f.1⟩
 subst hs3;exact AN rfl loop (T.self _ 0 _ _ _ st4 loop)
end
end L2
namespace L2.Mr
section
variable{X:Cx}{G:Cfg}{E:XK}{elt tg iter:ba}{ifs:List ba}{sc:dj}{ps px pos:Pos}{N:zu}{cap:List (Option Nat)}{mi:M Src}{st:cH}{test:M Bool}{me:M Dv}{i:Nat}{x:Str}
theorem j7(hN:X.N.Nodup)(hi':X.N[i]?=some x)(hc:X.calm=true)(C:Av X sc N cap)(hi:iJ X G E tg iter mi)(hg:∀s H ex,gZ (jU X sc N s H ex) G tg st)(Cb:∀s H ex,KY (jU X sc N s H ex) G E ifs test)(hel:∀s H ex,aB (jU X sc N s H ex) G E elt me)(hx:X.env.scope.names.lookup x=some .local:=by rfl)(Cu:swapsWith (.ListComp elt [⟨tg,iter,ifs,0⟩] sc ps) (some (.Name x px)) pos.line X.env=pure true:=by rfl)(hs:∀x,foldedSetIterable iter X.env x=pure x:=by intro _;rfl):fL X G E (.Assign [.Name x px] (.ListComp elt [⟨tg,iter,ifs,0⟩] sc ps) pos) (aR (bE (rF mi cap st test me)) (aC i)):=λhK=>
 PS.imp (j6 Cu hN hi' hx hc C (hi hK) (λs H ex=>hg s H ex hK) (λs H ex=>Cb s H ex hK) (λs H ex=>hel s H ex hK) hs) λD σ H⟨μ,ρ,h,rs,s,o⟩=>f6 (wG (gY rs s o λμ1 d h1 v H1 x1 Ak s1 r1 o1=>o1 μ1 H1 _ Ej s1 (Ak.set i r1)))
end
open PySem.Calls PyProof.Rows.KTD PySem.W
theorem K5:∀{es:List tq}{D:List (Str×ah)},qF es D=true->Rows (λ(f:ah)v=>v=.ref f) es D
 |[],[],_=>.nil
 |⟨_,.str x _,.ref f⟩::es,(y,g)::D,h=>by simp only[qF,dh,decide_eq_true_eq]at h;obtain⟨⟨rfl,rfl⟩,h⟩:=h;exact .cons rfl rfl (K5 h)
 |[],_::_,h=>by cases h
 |⟨_,k,v⟩::es,[],h=>by cases k<;>cases v<;>simp[qF]at h
 |⟨_,.str _ _,.none⟩::_,_::_,h=>by simp[qF]at h
theorem j8{K:Frag}{q:ah}{D:List (Str×ah)}(h:zO K q D=true):Cw K q D:=by
 unfold zO at h;obtain⟨h1,h2⟩:=zg.mp h;refine⟨by simpa using h1,?_⟩
 split at h2
 ·rename_i n es ep sl e;simp only[dh,decide_eq_true_eq]at h2;obtain⟨rfl,h3,h4⟩:=h2;exact⟨_,es,ep,e,⟨rfl,rfl,by simpa using h3⟩,rfl,K5 h4⟩
 ·cases h2
theorem xV{K:Frag}{f c:ah}{st:fj}{n q:Str}{ps:zu}(h:bM K f=some (fnOf n q (lG st) (gJ st) (aI st) .none .none .none .none none (.ref c) .none))(hc:codeIn K (.ref c) q=true)(hk:keepIn K (.ref f)=true)(hb:∀(kV doc pm:af)(an:Option ah)(cdv ct:af)(us:List af),us.length=ps.length->bindArgs (fnOf n q (lG st) (gJ st) (aI st) .none kV doc pm an cdv ct) ⟨us,[]⟩=pure (ps.zip us)):
  ∃fd:ay,FdM K n q ps st f fd/\fd.code=.ref c:=by
 obtain⟨oc,od,kV,dc,pm,an,ct,sl,e⟩:=E5 h;exact⟨_,⟨vM e hc hk,(vM e hc hk).binds hb⟩,rfl⟩
end L2.Mr
namespace L2.Mr.Com
def K6:MS:=(aL (eV (m1 (bR wX) (aA 0)) (m1 sU (m1 (bR wY) (aA 0)))))
def xW:zv:=aT 1 1 (K6)
def CY:MS:=(aL (eV (aE xW (aD (aA 0))) (jL iN iN (aA 1) (aA 0) (aA 2))))
def pW:zv:=aT 3 3 (CY)
def K7:MS:=(aL (mL jQ (bJ (aU qW (bB (aA 0) (tR (aA 0) (gN (aK 1)) nW))) [none,none] (cQ 2 (aV (aC 0) (aV (aC 1) cP))) bN (bD (m2 oE (aA 0) (aA 1))))))
def xX:zv:=aT 1 1 (K7)
def K8:MS:=(aL (aE pW (gB (aA 1) (aK 0) (m2 mK (aA 0) (aK 1)))))
def rG:zv:=aT 2 2 (K8)
def K9:MS:=(aL (eV (m1 (bR pQ) (aA 1)) (mL jQ (bJ (aY eW (aA 1)) [none,some 0] (aC 0) bN (bD (aE rG (bB (aA 1) (aA 0))))))))
def rH:zv:=aT 2 2 (K9)
def CZ:MS:=(aL (eV (aE rH (bB (aA 0) (aA 1))) (m2 cO (aE (f1 eQ) (aD (aA 1))) (aK 2))))
def pX:zv:=aT 2 2 (CZ)
def LA:MS:=(aL (mL jQ (bJ (aY eW (aA 1)) [none,some 0] (aC 0) bN (bD (aE pX (bB (aA 1) (aA 0)))))))
def xY:zv:=aT 2 2 (LA)
def LB:MS:=(aL (mL qT (bJ (aY eW (aA 0)) [none,none] (cQ 2 (aV (aC 0) (aV (aC 1) cP))) bN (bD (m2 cO (aA 0) (aA 1))))))
def xZ:zv:=aT 1 1 (LB)
def LC:MS:=(aL (mL jQ (bJ (aY eW (aA 0)) [none,none,none,none,some 0] (cQ 2 (aV (aC 0) (aV (aC 1) cP))) bN (gE (aY eW (aA 4)) (cQ 2 (aV (aC 2) (aV (aC 3) cP))) (mB (m2 cO (aA 1) (aA 2))) (bD (m2 (dM false) (bS (bB (aA 0) (aA 3))) (aA 4)))))))
def yA:zv:=aT 1 1 (LC)
def LD:MS:=(aG (cA (lJ (dI (bZ (m1 (bR pQ) (aA 0)))) (mB (m2 dU (aE (f1 eQ) (aD (aA 0))) (aK 2)))) (aL (mC (.bl false))) cK) (aG (aR (aA 0) (cQ 2 (aV (aC 1) (aV (aC 2) cP)))) (aG (cA (lJ (dI (bZ (aE pW (gB (aA 1) (aK 1) (aK 6))))) (dI (bZ (m1 (bR pQ) (aA 2))))) (aL (mC (.bl false))) cK) (aG (cA (lJ (dI (bZ (aE xY (bB (aA 1) (aA 2))))) (dI (bZ (aE xX (aD (aA 2)))))) (aL (mC (.bl false))) cK) (aL (eV (m1 sU (aE xZ (aD (aA 2)))) (aE yA (aD (aA 2)))))))))
def mV:zv:=aT 1 3 (LD)
end L2.Mr.Com
namespace L2.Mr.K05
open L2.Mr.Com
def mb_ql:MS:=(cA (dI (bZ (aE mV (aD (aA 0))))) (gL 0 (aD (mC (.str "this is no order")))) cK)
def cX:zv:=aT 1 1 (mb_ql)
def fW:MS:=(aG (aR (m2 cB (aA 0) (aK 1)) (aC 3)) (aL (eV (m2 dU (aA 1) (aA 2)) (eV (m2 (dM true) (bS (bB (aA 1) (aA 2))) (aA 3)) (m2 (dM true) (bS (bB (aA 2) (aA 1))) (aA 3))))))
def fF:zv:=aT 3 4 (fW)
def hX:MS:=(aG (dR (aE cX (aD (aA 0)))) (aG (aR (m2 cB (aA 0) (aK 0)) (aC 1)) (aL (bE (bJ (aU fN (aD (aA 1))) [none,none,some 0,some 1] (aC 0) bN (gE (aU pI (bB (m2 bX (aA 0) (aK 1)) (aA 3))) (aC 1) (bZ (aE fF (gB (aA 2) (aA 0) (aA 1)))) (bD (bS (bB (aA 0) (aA 1))))))))))
def eE:zv:=aT 1 2 (hX)
def kS:MS:=(aG (dR (aE cX (aD (aA 0)))) (aG (aR (aA 0) (cQ 2 (aV (aC 2) (aV (aC 3) cP)))) (aG (cA (lJ (dI (bZ (aE rH (bB (aA 2) (aA 1))))) (lJ (mB (m2 dU (aE (f1 eQ) (aD (aA 1))) (aA 2))) (mB (m2 dU (aE (f1 CH) (aD (aA 1))) (aA 2))))) (aL (mC (.bl false))) cK) (aL (mL jQ (bJ (aY eW (aA 3)) [none,none,some 1] (cQ 2 (aV (aC 0) (aV (aC 1) cP))) bN (bD (m2 oE (kO (aA 2) (aA 0)) (kO (aA 2) (aA 1))))))))))
def jV:zv:=aT 2 4 (kS)
def kT:MS:=(cA (dI (bZ (aE jV (bB (aA 0) (aA 1))))) (gL 5 (aD (mC (.str "this is no row of the order")))) cK)
def jW:zv:=aT 2 2 (kT)
def hY:MS:=(aL (aE (f1 pG) (aD (m2 mK (kO (aA 0) (m2 cB (aA 1) (aK 0))) (kO (aA 0) (m2 cB (aA 1) (aK 1)))))))
def gQ:zv:=aT 2 2 (hY)
def hZ:MS:=(aL (m1 (rD 0) (bE (bJ (aY bW (aA 1)) [none,some 0] (aC 0) bN (bD (aE gQ (bB (aA 1) (aA 0))))))))
def gF:zv:=aT 2 2 (hZ)
def kU:MS:=(aG (dR (aE jW (bB (aA 0) (aA 1)))) (aL (aE gF (bB (aA 1) (aE eE (aD (aA 0)))))))
def iY:zv:=aT 2 2 (kU)
end L2.Mr.K05
namespace L2.Mr.Sam
open L2.Mr.Com
end L2.Mr.Sam
namespace L2.Mr.K04
open L2.Mr.Com
open L2.Mr.Sam
def mb_ql:MS:=L2.Mr.K05.mb_ql
def cX:zv:=aT 1 1 (mb_ql)
def iA:MS:=(aG (aR (aA 0) (cQ 2 (aV (aC 2) (aV (aC 3) cP)))) (aG (aR (bE (bJ (aY eW (aA 3)) [none,none,some 1] (cQ 2 (aV (aC 0) (aV (aC 1) cP))) (mB (m2 (dM true) (aA 0) (aA 2))) (bD (aA 1)))) (aC 4)) (aL (bE (bJ (aU fN (aD (aA 2))) [none,some 1,some 4] (aC 0) (dS (mB (m2 (dM true) (aA 0) (aA 1))) (mB (m2 (dM true) (aA 0) (aA 2)))) (bD (aA 0)))))))
def gG:zv:=aT 2 5 (iA)
def iB:MS:=(aG (dR (aE cX (aD (aA 0)))) (aG (aR (bC (aD (bS bV))) (aC 1)) (aG (kK (aU fN (aD (m2 cB (aA 0) (aK 0)))) (aC 2) (aR (bE (bJ (aY bW (aA 1)) [none,none,some 0] (aC 0) bN (gE (aY bW (aE gG (bB (aA 2) (aA 0)))) (aC 1) bN (bD (m2 bX (aA 0) (bS (aD (aA 1)))))))) (aC 1))) (aL (aA 1)))))
def fX:zv:=aT 1 3 (iB)
end L2.Mr.K04
namespace L2.Mr.K02
open L2.Mr.Com
def kW:MS:=(cA (dI (bZ (aE pW (gB (aA 0) (aA 1) (aA 2))))) (A8 1 [1,2]) cK)
def jX:zv:=aT 3 3 (kW)
def kX:MS:=(aG (KI (aY bW (aA 1)) [none] (aC 0) (aA 0) (mC (.bl true)) 2) (aG (kK (aU fN (aD (aA 0))) (aC 3) (kK (aU fN (aD (aA 0))) (aC 4) (kK (aU fN (aD (aA 0))) (aC 5) (cA (dS (mB (m2 tU (bS (bB (aA 4) (aA 3))) (aA 2))) (mB (m2 tU (bS (bB (aA 3) (aA 5))) (aA 2)))) (KG (aA 2) (bS (bB (aA 4) (aA 5))) (mC (.bl true))) cK)))) (aL (aE (f1 xM) (aD (aA 2))))))
def jY:zv:=aT 2 6 (kX)
end L2.Mr.K02
namespace L2.Mr.K90
open L2.Mr.Com
def mb_ql:MS:=(cA (dI (bZ (aE mV (aD (aA 0))))) (gL 0 (aD (mC (.str "this is no order")))) cK)
def cX:zv:=aT 1 1 (mb_ql)
def iZ:MS:=(aG (dR (aE cX (aD (aA 0)))) (aG (aR (aA 0) (cQ 2 (aV (aC 1) (aV (aC 2) cP)))) (aL (m2 rE (gO [(m1 dP (aA 1)),(mC (.str ":"))] jo) (hW lO (mC (.str "")) (bE (bJ (aY eW (aA 2)) [none,none] (cQ 2 (aV (aC 0) (aV (aC 1) cP))) bN (bD (gO [(mC (.str " ")),(m1 dP (aA 0)),(mC (.str "<")),(m1 dP (aA 1))] jo)))))))))
def jA:zv:=aT 1 3 (iZ)
end L2.Mr.K90
namespace L2.Mr.K06
open L2.Mr.Com
open L2.Mr.Sam
def mb_ql:MS:=(cA (dI (bZ (aE mV (aD (aA 0))))) (gL 0 (aD (mC (.str "this is no order")))) cK)
def cX:zv:=aT 1 1 (mb_ql)
def fW:MS:=(aG (aR (m2 cB (aA 0) (aK 1)) (aC 3)) (aL (eV (m2 dU (aA 1) (aA 2)) (eV (m2 (dM true) (bS (bB (aA 1) (aA 2))) (aA 3)) (m2 (dM true) (bS (bB (aA 2) (aA 1))) (aA 3))))))
def fF:zv:=aT 3 4 (fW)
def hX:MS:=(aG (dR (aE cX (aD (aA 0)))) (aG (aR (m2 cB (aA 0) (aK 0)) (aC 1)) (aL (bE (bJ (aU fN (aD (aA 1))) [none,none,some 0,some 1] (aC 0) bN (gE (aU pI (bB (m2 bX (aA 0) (aK 1)) (aA 3))) (aC 1) (bZ (aE fF (gB (aA 2) (aA 0) (aA 1)))) (bD (bS (bB (aA 0) (aA 1))))))))))
def eE:zv:=aT 1 2 (hX)
def iA:MS:=(aG (aR (aA 0) (cQ 2 (aV (aC 2) (aV (aC 3) cP)))) (aG (aR (bE (bJ (aY eW (aA 3)) [none,none,some 1] (cQ 2 (aV (aC 0) (aV (aC 1) cP))) (mB (m2 (dM true) (aA 0) (aA 2))) (bD (aA 1)))) (aC 4)) (aL (bE (bJ (aU fN (aD (aA 2))) [none,some 1,some 4] (aC 0) (dS (mB (m2 (dM true) (aA 0) (aA 1))) (mB (m2 (dM true) (aA 0) (aA 2)))) (bD (aA 0)))))))
def gG:zv:=aT 2 5 (iA)
def iB:MS:=(aG (dR (aE cX (aD (aA 0)))) (aG (aR (bC (aD (bS bV))) (aC 1)) (aG (kK (aU fN (aD (m2 cB (aA 0) (aK 0)))) (aC 2) (aR (bE (bJ (aY bW (aA 1)) [none,none,some 0] (aC 0) bN (gE (aY bW (aE gG (bB (aA 2) (aA 0)))) (aC 1) bN (bD (m2 bX (aA 0) (bS (aD (aA 1)))))))) (aC 1))) (aL (aA 1)))))
def fX:zv:=aT 1 3 (iB)
def hY:MS:=(aL (aE (f1 pG) (aD (m2 mK (kO (aA 0) (m2 cB (aA 1) (aK 0))) (kO (aA 0) (m2 cB (aA 1) (aK 1)))))))
def gQ:zv:=aT 2 2 (hY)
def hZ:MS:=(aL (m1 (rD 0) (bE (bJ (aY bW (aA 1)) [none,some 0] (aC 0) bN (bD (aE gQ (bB (aA 1) (aA 0))))))))
def gF:zv:=aT 2 2 (hZ)
def jB:MS:=(aG (aR (aE eE (aD (aA 0))) (aC 1)) (aL (bE (bJ (aY bW (aE fX (aD (aA 0)))) [none,some 1] (aC 0) bN (bD (bS (bB (aA 0) (aE gF (bB (aA 0) (aA 1))))))))))
def fQ:zv:=aT 1 2 (jB)
def kY:MS:=(aL (aE (f1 (lN fJ)) (aD (bE (bJ (aY bW (aE fQ (aD (aA 0)))) [none,none] (cQ 2 (aV (aC 0) (aV (aC 1) cP))) bN (bD (aA 1)))))))
def jC:zv:=aT 1 1 (kY)
def jD:MS:=(aG (aR (aE fQ (aD (aA 0))) (aC 1)) (aG (aR (aE (f1 (lN fJ)) (aD (bE (bJ (aY bW (aA 1)) [none,none] (cQ 2 (aV (aC 0) (aV (aC 1) cP))) bN (bD (aA 1)))))) (aC 2)) (aL (bE (bJ (aY bW (aA 1)) [none,none,some 2] (cQ 2 (aV (aC 0) (aV (aC 1) cP))) (mB (m2 cO (aA 1) (aA 2))) (bD (aA 0)))))))
def fG:zv:=aT 1 3 (jD)
def kZ:MS:=(aL (m2 cB (aE fG (aD (aA 0))) (aK 0)))
def gR:zv:=aT 1 1 (kZ)
end L2.Mr.K06
namespace L2.Mr.K82
open L2.Mr.Com
def mb_ql:MS:=(cA (dI (bZ (aE mV (aD (aA 0))))) (gL 0 (aD (mC (.str "this is no order")))) cK)
def cX:zv:=aT 1 1 (mb_ql)
def lA:MS:=(aG (dR (aE cX (aD (aA 0)))) (cA (dI (bZ (aE rG (bB (m2 cB (aA 0) (aK 0)) (aA 1))))) (gL 4 (aD (mC (.str "this is no thing of the order")))) cK))
def jE:zv:=aT 2 2 (lA)
end L2.Mr.K82
namespace L2.Mr.K93
open L2.Mr.Com
open L2.Mr.K02 (jX kW jY kX)
open L2.Mr.K05 (cX mb_ql fF fW eE hX jV kS jW kT gQ hY gF hZ iY kU)
open L2.Mr.K82 (jE lA)
open L2.Mr.K04 (gG iA)
open L2.Mr.K06 (fX iB fQ jB jC kY fG jD gR kZ)
open L2.Mr.K90 (jA iZ)
noncomputable def tblV:List (Nat×Bool):=[(0,true),(1,true),(2,true),(3,true),(4,true),(5,true),(9,true),(10,true)]
noncomputable def tbl0:List (Nat×Bool):=[(0,true),(1,false),(2,false),(3,false),(4,false),(5,false),(9,false),(10,false)]
noncomputable def tbl1:List (Nat×Bool):=[(0,false),(1,true),(2,false),(3,false),(4,false),(5,false),(9,false),(10,false)]
noncomputable def tbl2:List (Nat×Bool):=[(0,false),(1,false),(2,true),(3,false),(4,false),(5,false),(9,false),(10,false)]
noncomputable def tbl3:List (Nat×Bool):=[(0,false),(1,false),(2,false),(3,true),(4,false),(5,false),(9,false),(10,false)]
noncomputable def tbl4:List (Nat×Bool):=[(0,false),(1,false),(2,false),(3,false),(4,true),(5,false),(9,false),(10,false)]
noncomputable def tbl5:List (Nat×Bool):=[(0,false),(1,false),(2,false),(3,false),(4,false),(5,true),(9,false),(10,false)]
noncomputable def tbl6:List (Nat×Bool):=[(0,false),(1,false),(2,false),(3,false),(4,false),(5,false),(9,false),(10,false)]
noncomputable def tbl7:List (Nat×Bool):=[(0,false),(1,false),(2,false),(3,false),(4,false),(5,false),(9,false),(10,false)]
noncomputable def tbl8:List (Nat×Bool):=[(0,false),(1,false),(2,false),(3,false),(4,false),(5,false),(9,false),(10,false)]
noncomputable def tbl9:List (Nat×Bool):=[(0,false),(1,false),(2,false),(3,false),(4,false),(5,false),(9,true),(10,false)]
noncomputable def tbl10:List (Nat×Bool):=[(0,false),(1,false),(2,false),(3,false),(4,false),(5,false),(9,false),(10,true)]
def j9:MS:=(aL (mL jQ (bJ (aY bW (aA 1)) [none,some 0] (aC 0) bN (bD (aE pX (bB (aA 1) (aA 0)))))))
def LF:zv:=aT 2 2 (j9)
def k4:MS:=(aL (mL qT (bJ (aY bW (aA 0)) [none,none] (cQ 2 (aV (aC 0) (aV (aC 1) cP))) bN (bD (m2 cO (aA 0) (aA 1))))))
def LG:zv:=aT 1 1 (k4)
def k6:MS:=(aG (dR (aE jX (gB (aA 0) (aK 1) (aK 6)))) (aG (cA (lJ (dI (bZ (m1 (bR BM) (aA 1)))) (dI (bZ (aE LF (bB (aA 0) (aA 1)))))) (gL 2 (aD (mC (.str "this is no list of tuples of two things")))) cK) (aG (aR (aE jY (bB (aA 0) (aA 1))) (aC 2)) (aG (cA (bZ (aE LG (aD (aA 2)))) (gL 3 (aD (mC (.str "the pairs lead from a thing to itself")))) cK) (aL (bS (bB (aA 0) (aE (f1 qP) (aD (aA 2))))))))))
def LH:zv:=aT 2 3 (k6)
def k7:MS:=(aL (aE jA (aD (aA 0))))
def yB:zv:=aT 1 1 (k7)
def k8:MS:=(aL (CW (hW lO (mC (.str " ")) (bE (bJ (aY bW (aE eE (aD (aA 0)))) [none,none] (cQ 2 (aV (aC 0) (aV (aC 1) cP))) bN (bD (gO [(m1 dP (aA 0)),(mC (.str "-")),(m1 dP (aA 1))] jo))))) (mC (.str "none"))))
def yC:zv:=aT 1 1 (k8)
def k9:MS:=(aL (aE (f1 dP) (aD (aE jC (aD (aA 0))))))
def yD:zv:=aT 1 1 (k9)
def l4:MS:=(aL (hW lO (mC (.str " ")) (bE (bJ (aY eW (aE gR (aD (aA 0)))) [none] (aC 0) bN (bD (aE (f1 dP) (aD (aA 0))))))))
def yE:zv:=aT 1 1 (l4)
def l5:MS:=(aL (aE (f1 dP) (aD (aE (f1 eQ) (aD (aE fG (aD (aA 0))))))))
def yF:zv:=aT 1 1 (l5)
def l6:MS:=(aG (cA (lJ (mB (m2 dU (aE (f1 xO) (aD (aA 0))) (aK 1))) (mB (m2 (CQ true) (aA 0) (mC (.str "0123456789"))))) (gL 9 (aD (mC (.str "this is no single figure")))) cK) (aL (hW CV (mC (.str "0123456789")) (aA 0))))
def lQ:zv:=aT 1 1 (l6)
def l7:MS:=(aG (dR (aE jE (bB (aA 0) (aA 1)))) (aG (dR (aE jE (bB (aA 0) (aA 2)))) (aG (aR (aA 0) (cQ 2 (aV (aC 3) (aV (aC 4) cP)))) (aL (aE LH (bB (aA 3) (m2 bX (aE (f1 wZ) (aD (aA 4))) (bC (aD (bS (bB (aA 1) (aA 2))))))))))))
def DA:zv:=aT 3 5 (l7)
def l8:MS:=(aG (tM 0 (aA 0) (bS (bB (aK 1) (bS bV)))) (tM 1 (aA 0) (bC bV)))
def LI:zv:=aT 1 1 (l8)
def l9:MS:=(aG (dR (ID (m1 (hV 1) (aA 0)) (m1 (hV 0) (aA 0)))) (aG (tM 0 (aA 0) (aA 1)) (aL (mC (.str "ok")))))
def tZ:zv:=aT 2 2 (l9)
def m3:MS:=(aG (cA (dI (bZ (m1 (hV 1) (aA 0)))) (gL 10 (aD (mC (.str "no deed stands")))) cK) (aG (tM 0 (aA 0) (m1 BI (m1 (hV 1) (aA 0)))) (aL (mC (.str "ok")))))
def DB:zv:=aT 1 1 (m3)
noncomputable def rJ:zu:=["order","loose","least","best","many"]
def Au:List (Str×(zv)):=[("order",yB),("loose",yC),("least",yD),("best",yE),("many",yF)]
def uA:MS:=(aG (cA (dI (bZ (m1 (bR nX) (aA 1)))) (gL 9 (aD (mC (.str "a line is a text")))) cK) (aG (xU (hW pV (aA 1) (mC (.str " "))) (aV (aC 2) (aV (aC 3) cP))) (aG (aR (bE (rF (aY bW (aA 3)) [none] (aC 0) bN (aE lQ (aD (aA 0))))) (aC 4)) (aG (cA (dS (mB (m1 (tX rJ) (aA 2))) (dI (bZ (aA 4)))) (tY Au 5 (aA 2) (m1 (hV 0) (aA 0))) cK) (aG (cA (dS (mB (m2 cO (aA 2) (mC (.str "span")))) (bZ (aA 4))) (aL (aE (f1 dP) (aD (aE iY (bB (m1 (hV 0) (aA 0)) (aE (f1 qP) (aD (aA 4)))))))) cK) (aG (cA (dS (mB (m2 cO (aA 2) (mC (.str "things")))) (dS (mB (m2 cO (aE (f1 eQ) (aD (aA 4))) (aK 1))) (mB (jL iN iN (aK 1) (m2 cB (aA 4) (aK 0)) (aK 6))))) (aL (fB tZ (aA 0) (aD (bS (bB (m2 cB (aA 4) (aK 0)) (bS bV)))))) cK) (aG (cA (dS (mB (m2 cO (aA 2) (mC (.str "ahead")))) (mB (m2 cO (aE (f1 eQ) (aD (aA 4))) (aK 2)))) (aL (fB tZ (aA 0) (aD (aE DA (gB (m1 (hV 0) (aA 0)) (m2 cB (aA 4) (aK 0)) (m2 cB (aA 4) (aK 1))))))) cK) (aG (cA (dS (mB (m2 cO (aA 2) (mC (.str "back")))) (dI (bZ (aA 4)))) (aL (fB DB (aA 0) bV)) cK) (gL 9 (aD (mC (.str "a desk knows no such line"))))))))))))
def fY:zv:=aT 2 6 (uA)
def jZ:MS:=(aG (aR (bC (gB (m1 (bR (dW none tbl0)) (aA 1)) (m1 (bR (dW none tbl1)) (aA 1)) (m1 (bR (dW none tbl2)) (aA 1)))) (aC 3)) (aG (aR (m2 bX (aA 3) (bC (gB (m1 (bR (dW none tbl3)) (aA 1)) (m1 (bR (dW none tbl4)) (aA 1)) (m1 (bR (dW none tbl5)) (aA 1))))) (aC 3)) (aG (aR (m2 bX (aA 3) (bC (gB (m1 (bR (dW none tbl6)) (aA 1)) (m1 (bR (dW none tbl7)) (aA 1)) (m1 (bR (dW none tbl8)) (aA 1))))) (aC 3)) (aG (aR (m2 bX (aA 3) (bC (bB (m1 (bR (dW none tbl9)) (aA 1)) (m1 (bR (dW none tbl10)) (aA 1))))) (aC 3)) (aG (cA (dI (bZ (m1 (bR (dW none tblV)) (aA 1)))) (aL (mC .non)) cK) (aL (bE (bJ (aU fN (aD (aK 11))) [none,some 3] (aC 0) (bZ (m2 cB (aA 1) (aA 0))) (bD (aA 0))))))))))
def DC:MS:=(aG (aR (bC (aN (mC (.str "")) (aN (mC (.str " ")) (aN (mC (.str "things")) (aN (mC (.str "things ")) (aN (mC (.str "things 0")) (aN (mC (.str "things 7")) (gK (mC (.str "things 10")) (mC (.str "things 03")) (mC (.str "things -1")) (mC (.str "things x")))))))))) (aC 1)) (aG (aR (m2 bX (aA 1) (bC (aN (mC (.str "things 3 3")) (aN (mC (.str "things  3")) (aN (mC (.str " things 3")) (aN (mC (.str "Things 3")) (gK (mC (.str "thing 3")) (mC (.str "ahead")) (mC (.str "ahead ")) (mC (.str "ahead 0"))))))))) (aC 1)) (aG (aR (m2 bX (aA 1) (bC (aN (mC (.str "ahead 0 ")) (aN (mC (.str "ahead 0 1 2")) (aN (mC (.str "ahead 0  1")) (gK (mC (.str "ahead x 1")) (mC (.str "ahead 0 x")) (mC (.str "ahead 00 1")) (mC (.str "ahead 0 -1")))))))) (aC 1)) (aG (aR (m2 bX (aA 1) (bC (aN (mC (.str "ahead 0<1")) (aN (mC (.str "aheads 0 1")) (aN (mC (.str "back ")) (aN (mC (.str "back 1")) (aN (mC (.str "Back")) (gK (mC (.str "order ")) (mC (.str "order 1")) (mC (.str "orders")) (mC (.str "loose 0")))))))))) (aC 1)) (aG (aR (m2 bX (aA 1) (bC (aN (mC (.str "least ")) (aN (mC (.str "least 2")) (aN (mC (.str "best 0")) (aN (mC (.str "bests")) (aN (mC (.str "many ")) (aN (mC (.str "many 1")) (gK (mC (.str "span")) (mC (.str "span ")) (mC (.str "span 0 ")) (mC (.str "span x"))))))))))) (aC 1)) (aG (aR (m2 bX (aA 1) (bC (aN (mC (.str "span 01")) (aN (mC (.str "span 0,1")) (gK (mC (.str "spans 0")) (mC (.str "none")) (mC (.str "0")) (mC (.str "1:"))))))) (aC 1)) (aG (aR (m2 bX (aA 1) (bC (aN (mC .non) (aN (aK 7) (aN (mC (.bl true)) (aN (bS (aD (mC (.str "order")))) (gK (bC (aD (mC (.str "order")))) (mC .edc) (mC (.str "order\n")) (bS (bB (aK 1) (bS bV)))))))))) (aC 1)) (aL (m2 cB (aA 1) (m2 jS (aA 0) (aE (f1 eQ) (aD (aA 1)))))))))))))
def uB:zv:=aT 1 2 (DC)
def rK:M Dv:=(fB fY (aA 1) (aD (aA 0)))
def LJ:MS:=(aR (IV LI) (aC 1))
def LK(scr:zr):MS:=(cA (mB (m2 cO (m2 jS (m2 cB (m2 bX (oJ scr (aA 0) nW (gN (aK 1))) (bC (aD (aK 0)))) (aK 0)) (aK 2)) (aK 1))) (aG (dR (fB fY (aA 1) (aD (mC (.str "things 3"))))) (dR (fB fY (aA 1) (aD (mC (.str "ahead 0 2")))))) cK)
def LL:MS:=(aR (bC (aN (mC (.str "order")) (gK (mC (.str "loose")) (mC (.str "least")) (mC (.str "best")) (mC (.str "many"))))) (aC 2))
def LM:MS:=(aR (bE (bJ (aY bW (aA 2)) [none,some 1] (aC 0) bN (bD (fB fY (aA 1) (aD (aA 0)))))) (aC 3))
def yG:MS:=(aG (aR (aE uB (aD (m2 jS (aA 4) (aK 2147483647)))) (aC 5)) (aG (cA (mB (m2 dU (mI [5,1] 4 11 jZ rK) (bC (aD (aK 9))))) (aL (mC (.bl false))) cK) (cA (mB (m2 dU (bE (bJ (aY bW (aA 2)) [none,some 1] (aC 0) bN (bD (fB fY (aA 1) (aD (aA 0)))))) (aA 3))) (aL (mC (.bl false))) cK)))
def LN(scr:zr):MS:=(kK (aY bW (m2 bX (oJ scr (aA 0) (gN (aK 1)) (gN (aK 31))) (bC (aD (aK 5))))) (aC 4) (yG))
def m4:MS:=(aL (mC (.bl true)))
def yH(scr:zr):MS:=(aG (LJ) (aG (LK scr) (aG (LL) (aG (LM) (aG (LN scr) (m4))))))
def yI(scr:zr):zv:=aT 1 6 (yH scr)
end L2.Mr.K93
namespace L2.Mr
section
variable{X:Cx}{G:Cfg}{E:XK}{e:ba}{me:M Dv}{pos pos':Pos}{i:Nat}{x:Str}
theorem bI(hN:X.N.Nodup)(hi:X.N[i]?=some x:=by rfl)(hx:kD X.env.scope x:=by first|exact .inl rfl|exact .inr rfl)(hf:X.fn x=true∨X.env.scope.names.lookup x=some .local:=by first|exact .inl rfl|exact .inr rfl|assumption):gZ X G (.Name x pos) (aC i):=UC hN hi hx hf
theorem iD(hN:X.N.Nodup)(he:aB X G E e me)(hi:X.N[i]?=some x:=by rfl)(hx:kD X.env.scope x:=by first|exact .inl rfl|exact .inr rfl)(hs:swapsWith e (some (.Name x pos')) pos.line X.env=pure false:=by rfl)(hf:X.fn x=true∨X.env.scope.names.lookup x=some .local:=by first|exact .inl rfl|exact .inr rfl|assumption):fL X G E (.Assign [.Name x pos'] e pos) (aR me (aC i)):=A2 hN hi hx he hs hf
theorem eF{sc os:dj}{oN N:zu}{cap:List (Option Nat)}(hs:X.env.scope.names=os.names:=by rfl)(hN:X.N=oN:=by rfl)(h1:sc.kind=.function:=by rfl)(h2:∀p∈sc.names,p.2=.local->sc.names.lookup p.1=some .local:=by decide+kernel)(h3:cap.length=N.length:=by rfl)(h4:∀p∈sc.names,p.2=.free->os.names.lookup p.1=some .cell∨os.names.lookup p.1=some .free:=by decide+kernel)(h5:∀p∈sc.names,p.2=.free->(p.1,df)∉sc.names:=by decide+kernel)(h6:∀q∈cap.zip N,∀j∈q.1,oN[j]?=some q.2/\sc.names.lookup q.2=some .free:=by decide+kernel):Av X sc N cap:=WU hs hN h1 h2 h3 h4 h5 h6
end
theorem cC{N P:zu}{sc:dj}(h1:sc.kind=.function:=by rfl)(h2:sc.isCoroutine=false:=by rfl)(h3:sc.isGenerator=false:=by rfl)(h4:N.Nodup:=by decide+kernel)(h5:N.take P.length=P:=by rfl)(h6:∀x∈P,sc.names.lookup x=some .local∨sc.names.lookup x=some .cell:=by decide+kernel)(h7:∀y∈sc.names,y.2≠.free:=by decide+kernel):Ab N P sc:=⟨h1,h2,h3,h4,h5,h6,h7⟩
open PySem.W in
theorem cM{F:List (Frag->Bool)}{K:Frag}{l m:List (Option ay)}(hf:l=m)(hc:F.all (λf=>f K)=true)(f:ah)(st:fj)(n:Str)(c:ah)(ps:zu)(i j k:Nat)(hb:∀(kV doc pm:af)(an:Option ah)(cdv ct:af)(us:List af),us.length=ps.length->bindArgs (fnOf n n (lG st) (gJ st) (aI st) .none kV doc pm an cdv ct) ⟨us,[]⟩=pure (ps.zip us))(h1:l[i]?=some (bM K f):=by rfl)(h2:m[i]?=some (some (fnOf n n (lG st) (gJ st) (aI st) .none .none .none .none none (.ref c) .none)):=by rfl)(h3:F[j]?=some (codeIn · (.ref c) n):=by rfl)(h4:F[k]?=some (keepIn · (.ref f)):=by rfl):
  ∃fd:ay,Fun K n n st f fd/\Binds K fd ps []/\fd.code=.ref c/\∀us:List af,us.length=ps.length->bindArgs fd ⟨us,[]⟩=pure (ps.zip us):=WI (rS hf i h1 h2) (cZ hc j h3) (cZ hc k h4) hb
structure Fd(K:ak)(mg:Str->Option af)(x:Str)(ps:zu)(st:fj)(f:ah)(fd:ay):Prop where
 F:Fun K x x st f fd
 B:Binds K fd ps []
 m:mg x=some (.ref f)
theorem bT{k:Nat}{f:ah}{X:Cx}{G:Cfg}{E:XK}{F:zv}{ps:zu}{st:fj}{fd:ay}{x:Str}{p pos:Pos}{e:ba}{es:List ba}{ms:M zw}{j:Nat}(g:Good X G E k)(Fn:Af X.prog X.w X.K X.mg X.base (aS X.prog X.w X.base) j f fd ps (bA G F))(D:Fd X.K X.mg x ps st f fd)(ha:dH X G E (e::es) ms)(hj:j<=k:=by decide)(hg:Gl X x:=by exact rfl)(Cd:(x==Ey)=false:=by decide)(he:ao (e::es) X.env=(false,eval e X.env)::ao es X.env:=by rfl)(Bc:(backTo pos (ao es X.env)).any (·.1)=false:=by rfl):
  aB X G E (.Call (.Name x p) (e::es) [] pos) (aE F ms):=UN g Fn hj hg D.m D.F.kp D.B ha Cd he Bc
theorem sV{X:Cx}{G:Cfg}{E:XK}{x:Str}{pos:Pos}{i:Nat}(hi:X.N[i]?=some x:=by rfl)(hv:oR X.env.scope x:=by first|exact .inl rfl|exact .inr (.inl rfl)|exact .inr (.inr rfl))(hd1:(x==Ey)=false:=by decide)(hd2:(x==("__classdict__":Str))=false:=by decide):aB X G E (.Name x pos) (aA i):=gW i hi hv hd1 hd2
end L2.Mr
namespace L2.Mr.K93
open L2.Mr.Com
open L2.Mr.K02 (jX kW jY kX)
open L2.Mr.K05 (cX mb_ql fF fW eE hX jV kS jW kT gQ hY gF hZ iY kU)
open L2.Mr.K82 (jE lA)
open L2.Mr.K04 (gG iA)
open L2.Mr.K06 (fX iB fQ jB jC kY fG jD gR kZ)
open L2.Mr.K90 (jA iZ)
noncomputable def cD(i:Nat):fj:=aa.main.body.getD i (.Pass ⟨0,0,0,0⟩)
abbrev DD:fj:=cD 14
abbrev DE:fj:=cD 15
abbrev DF:fj:=cD 16
abbrev yJ:fj:=cD 17
abbrev DG:fj:=cD 20
abbrev yK:fj:=cD 21
abbrev DH:fj:=cD 22
abbrev uC:fj:=cD 23
abbrev uD:fj:=cD 24
abbrev yL:fj:=cD 25
abbrev DI:fj:=cD 26
abbrev DJ:fj:=cD 27
abbrev DK:fj:=cD 28
abbrev yM:fj:=cD 29
abbrev DL:fj:=cD 30
abbrev DM:fj:=cD 31
abbrev yN:fj:=cD 32
abbrev yO:fj:=cD 34
abbrev DN:fj:=cD 35
abbrev uE:fj:=cD 36
abbrev yP:fj:=cD 37
abbrev DO:fj:=cD 38
abbrev yQ:fj:=cD 39
abbrev DP:fj:=cD 40
abbrev yR:fj:=cD 42
abbrev yS:fj:=cD 43
abbrev uF:fj:=cD 44
abbrev DQ:fj:=cD 45
abbrev yT:fj:=cD 48
abbrev DR:fj:=cD 50
abbrev yU:fj:=cD 51
abbrev DS:fj:=cD 52
abbrev yV:fj:=cD 53
abbrev DT:fj:=cD 54
abbrev DU:fj:=cD 56
abbrev DV:fj:=cD 57
abbrev DW:fj:=rT (cD 58) 0
abbrev DX:fj:=rT (cD 58) 2
abbrev DY:fj:=rT (cD 58) 3
abbrev yW:fj:=rT (cD 58) 1
abbrev pY:fj:=cD 60
abbrev DZ:fj:=cD 61
abbrev rL:fj:=cD 62
set_option genInjectivity false in
structure Ad where
 f_q2:ah
 fd_q2:ay
 f_qj:ah
 fd_qj:ay
 f_qe:ah
 fd_qe:ay
 f_qt:ah
 fd_qt:ay
 f_q1:ah
 fd_q1:ay
 f_qh:ah
 fd_qh:ay
 f_q8:ah
 fd_q8:ay
 f_qq:ah
 fd_qq:ay
 f_qs:ah
 fd_qs:ay
 f_qf:ah
 fd_qf:ay
 f_q0:ah
 fd_q0:ay
 f_ql:ah
 fd_ql:ay
 f_qm:ah
 fd_qm:ay
 f_qa:ah
 fd_qa:ay
 f_q5:ah
 fd_q5:ay
 f_qp:ah
 fd_qp:ay
 f_qg:ah
 fd_qg:ay
 f_qA:ah
 fd_qA:ay
 f_q4:ah
 fd_q4:ay
 f_q3:ah
 fd_q3:ay
 f_qz:ah
 fd_qz:ay
 f_qB:ah
 fd_qB:ay
 f_qc:ah
 fd_qc:ay
 f_q9:ah
 fd_q9:ay
 f_qb:ah
 fd_qb:ay
 f_qk:ah
 fd_qk:ay
 f_qr:ah
 fd_qr:ay
 f_qi:ah
 fd_qi:ay
 f_qn:ah
 fd_qn:ay
 f_qx:ah
 fd_qx:ay
 f_qw:ah
 fd_qw:ay
 f_qv:ah
 fd_qv:ay
 f_q6:ah
 fd_q6:ay
 f_q7:ah
 fd_q7:ay
 f_qu:ah
 fd_qu:ay
 f_qo:ah
 fd_qo:ay
 f_Desk_init:ah
 fd_Desk_init:ay
 f_Desk_change_to:ah
 fd_Desk_change_to:ay
 f_Desk_undo:ah
 fd_Desk_undo:ay
 f_Desk_say:ah
 fd_Desk_say:ay
 f_qd:ah
 fd_qd:ay
 f_qy:ah
 fd_qy:ay
 f_qC:ah
 fd_qC:ay
 c_NoOrder:ah
 c_NoNumber:ah
 c_NoPairs:ah
 c_Round:ah
 c_NoThing:ah
 c_NoRow:ah
 c_TooMany:ah
 c_TooFew:ah
 c_NoText:ah
 c_NoLine:ah
 c_NoDeed:ah
 t_MOST_THINGS:Tok
 t_FIGURES:Tok
 dC:ah
 q_QUESTIONS:ah
 NE:ah
 cc_law:ah
 P_law:ah
structure Tx(K:ak)(mg:Str->Option af)(G:Cf0)(A:Ad):Prop where
 hK:K=G.K
 d_is_whole:Fd K mg "is_whole" ["thing"] DD A.f_q2 A.fd_q2
 d_is_between:Fd K mg "is_between" ["thing","low","high"] DE A.f_qj A.fd_qj
 d_need_between:Fd K mg "need_between" ["thing","low","high"] DF A.f_qe A.fd_qe
 d_is_rising:Fd K mg "is_rising" ["parts"] yJ A.f_qt A.fd_qt
 d_is_thing:Fd K mg "is_thing" ["many","thing"] DG A.f_q1 A.fd_q1
 d_are_things:Fd K mg "are_things" ["many","thing"] yK A.f_qh A.fd_qh
 d_is_pair:Fd K mg "is_pair" ["many","thing"] DH A.f_q8 A.fd_q8
 d_are_pairs:Fd K mg "are_pairs" ["many","things"] uC A.f_qq A.fd_qq
 d_has_alike:Fd K mg "has_alike" ["pairs"] uD A.f_qs A.fd_qs
 d_is_complete:Fd K mg "is_complete" ["pairs"] yL A.f_qf A.fd_qf
 d_is_order:Fd K mg "is_order" ["thing"] DI A.f_q0 A.fd_q0
 d_need_order:Fd K mg "need_order" ["order"] DJ A.f_ql A.fd_ql
 d_need_thing:Fd K mg "need_thing" ["order","thing"] DK A.f_qm A.fd_qm
 d_with_all_that_follows:Fd K mg "with_all_that_follows" ["many","pairs"] yM A.f_qa A.fd_qa
 d_order_of:Fd K mg "order_of" ["many","pairs"] DL A.f_q5 A.fd_q5
 d_are_loose:Fd K mg "are_loose" ["order","one","other"] DM A.f_qp A.fd_qp
 d_loose_pairs:Fd K mg "loose_pairs" ["order"] yN A.f_qg A.fd_qg
 d_is_row:Fd K mg "is_row" ["order","thing"] yO A.f_qA A.fd_qA
 d_need_row:Fd K mg "need_row" ["order","row"] DN A.f_q4 A.fd_q4
 d_may_come:Fd K mg "may_come" ["order","begun"] uE A.f_q3 A.fd_q3
 d_all_rows:Fd K mg "all_rows" ["order"] yP A.f_qz A.fd_qz
 d_apart:Fd K mg "apart" ["row","pair"] DO A.f_qB A.fd_qB
 d_greatest_apart:Fd K mg "greatest_apart" ["row","pairs"] yQ A.f_qc A.fd_qc
 d_span_of:Fd K mg "span_of" ["order","row"] DP A.f_q9 A.fd_q9
 d_rows_with_spans:Fd K mg "rows_with_spans" ["order"] yR A.f_qb A.fd_qb
 d_least_span:Fd K mg "least_span" ["order"] yS A.f_qk A.fd_qk
 d_best_rows:Fd K mg "best_rows" ["order"] uF A.f_qr A.fd_qr
 d_first_best:Fd K mg "first_best" ["order"] DQ A.f_qi A.fd_qi
 d_order_text:Fd K mg "order_text" ["order"] yT A.f_qn A.fd_qn
 d_say_order:Fd K mg "say_order" ["order"] DR A.f_qx A.fd_qx
 d_say_loose:Fd K mg "say_loose" ["order"] yU A.f_qw A.fd_qw
 d_say_least:Fd K mg "say_least" ["order"] DS A.f_qv A.fd_qv
 d_say_best:Fd K mg "say_best" ["order"] yV A.f_q6 A.fd_q6
 d_say_many:Fd K mg "say_many" ["order"] DT A.f_q7 A.fd_q7
 d_number_of:Fd K mg "number_of" ["word"] DU A.f_qu A.fd_qu
 d_with_ahead:Fd K mg "with_ahead" ["order","a","b"] DV A.f_qo A.fd_qo
 d_Desk_init:FdM K "__init__" "Desk.__init__" ["self"] DW A.f_Desk_init A.fd_Desk_init
 d_Desk_change_to:FdM K "change_to" "Desk.change_to" ["self","order"] DX A.f_Desk_change_to A.fd_Desk_change_to
 d_Desk_undo:FdM K "undo" "Desk.undo" ["self"] DY A.f_Desk_undo A.fd_Desk_undo
 d_Desk_say:FdM K "say" "Desk.say" ["self","line"] yW A.f_Desk_say A.fd_Desk_say
 d__law_refused:Fd K mg "_law_refused" ["_law_call"] pY A.f_qd A.fd_qd
 d__law_bad:Fd K mg "_law_bad" ["_law_k"] DZ A.f_qy A.fd_qy
 d_law:Fd K mg "law" ["_law_script"] rL A.f_qC A.fd_qC
 z_ValueError:mg "ValueError"=none
 z_abs:mg "abs"=none
 z_all:mg "all"=none
 z_any:mg "any"=none
 z_bool:mg "bool"=none
 z_int:mg "int"=none
 z_isinstance:mg "isinstance"=none
 z_len:mg "len"=none
 z_list:mg "list"=none
 z_max:mg "max"=none
 z_min:mg "min"=none
 z_range:mg "range"=none
 z_set:mg "set"=none
 z_sorted:mg "sorted"=none
 z_str:mg "str"=none
 z_tuple:mg "tuple"=none
 z_zip:mg "zip"=none
 c_MOST_THINGS:mg "MOST_THINGS"=some (.int 6 A.t_MOST_THINGS)
 c_FIGURES:mg "FIGURES"=some (.str "0123456789" A.t_FIGURES)
 n_NoOrder:mg "NoOrder"=some (.ref A.c_NoOrder)
 n_NoNumber:mg "NoNumber"=some (.ref A.c_NoNumber)
 n_NoPairs:mg "NoPairs"=some (.ref A.c_NoPairs)
 n_Round:mg "Round"=some (.ref A.c_Round)
 n_NoThing:mg "NoThing"=some (.ref A.c_NoThing)
 n_NoRow:mg "NoRow"=some (.ref A.c_NoRow)
 n_TooMany:mg "TooMany"=some (.ref A.c_TooMany)
 n_TooFew:mg "TooFew"=some (.ref A.c_TooFew)
 n_NoText:mg "NoText"=some (.ref A.c_NoText)
 n_NoLine:mg "NoLine"=some (.ref A.c_NoLine)
 n_NoDeed:mg "NoDeed"=some (.ref A.c_NoDeed)
 ns_NoOrder:jr K bz "NoOrder"=some (some (.ref A.c_NoOrder))
 x_NoOrder:jb K A.c_NoOrder kL "ValueError.__new__"=true
 ce_NoOrder:A.c_NoOrder=G.cl 0
 ns_NoNumber:jr K bz "NoNumber"=some (some (.ref A.c_NoNumber))
 x_NoNumber:jb K A.c_NoNumber kL "ValueError.__new__"=true
 ce_NoNumber:A.c_NoNumber=G.cl 1
 ns_NoPairs:jr K bz "NoPairs"=some (some (.ref A.c_NoPairs))
 x_NoPairs:jb K A.c_NoPairs kL "ValueError.__new__"=true
 ce_NoPairs:A.c_NoPairs=G.cl 2
 ns_Round:jr K bz "Round"=some (some (.ref A.c_Round))
 x_Round:jb K A.c_Round kL "ValueError.__new__"=true
 ce_Round:A.c_Round=G.cl 3
 ns_NoThing:jr K bz "NoThing"=some (some (.ref A.c_NoThing))
 x_NoThing:jb K A.c_NoThing kL "ValueError.__new__"=true
 ce_NoThing:A.c_NoThing=G.cl 4
 ns_NoRow:jr K bz "NoRow"=some (some (.ref A.c_NoRow))
 x_NoRow:jb K A.c_NoRow kL "ValueError.__new__"=true
 ce_NoRow:A.c_NoRow=G.cl 5
 ns_NoLine:jr K bz "NoLine"=some (some (.ref A.c_NoLine))
 x_NoLine:jb K A.c_NoLine kL "ValueError.__new__"=true
 ce_NoLine:A.c_NoLine=G.cl 9
 ns_NoDeed:jr K bz "NoDeed"=some (some (.ref A.c_NoDeed))
 x_NoDeed:jb K A.c_NoDeed kL "ValueError.__new__"=true
 ce_NoDeed:A.c_NoDeed=G.cl 10
 ktV:∀c b,tblV.lookup c=some b->cq G.K (.ref (G.cl c)) (.type "ValueError")=some b/\Bv G.K (G.cl c)
 kt0:∀c b,tbl0.lookup c=some b->cq G.K (.ref (G.cl c)) (.ref A.c_NoOrder)=some b/\Bv G.K (G.cl c)
 kt1:∀c b,tbl1.lookup c=some b->cq G.K (.ref (G.cl c)) (.ref A.c_NoNumber)=some b/\Bv G.K (G.cl c)
 kt2:∀c b,tbl2.lookup c=some b->cq G.K (.ref (G.cl c)) (.ref A.c_NoPairs)=some b/\Bv G.K (G.cl c)
 kt3:∀c b,tbl3.lookup c=some b->cq G.K (.ref (G.cl c)) (.ref A.c_Round)=some b/\Bv G.K (G.cl c)
 kt4:∀c b,tbl4.lookup c=some b->cq G.K (.ref (G.cl c)) (.ref A.c_NoThing)=some b/\Bv G.K (G.cl c)
 kt5:∀c b,tbl5.lookup c=some b->cq G.K (.ref (G.cl c)) (.ref A.c_NoRow)=some b/\Bv G.K (G.cl c)
 kt6:∀c b,tbl6.lookup c=some b->cq G.K (.ref (G.cl c)) (.ref A.c_TooMany)=some b/\Bv G.K (G.cl c)
 kt7:∀c b,tbl7.lookup c=some b->cq G.K (.ref (G.cl c)) (.ref A.c_TooFew)=some b/\Bv G.K (G.cl c)
 kt8:∀c b,tbl8.lookup c=some b->cq G.K (.ref (G.cl c)) (.ref A.c_NoText)=some b/\Bv G.K (G.cl c)
 kt9:∀c b,tbl9.lookup c=some b->cq G.K (.ref (G.cl c)) (.ref A.c_NoLine)=some b/\Bv G.K (G.cl c)
 kt10:∀c b,tbl10.lookup c=some b->cq G.K (.ref (G.cl c)) (.ref A.c_NoDeed)=some b/\Bv G.K (G.cl c)
 n_NearError:mg "NearError"=some (.ref A.NE)
 e1:kh K (.ref A.NE) (.type "BaseException")=some true
 e2:kh K (.type "type") (.type "tuple")=some false
 e3:vf K (.ref A.NE) (.ref A.NE)=some true
 e4:∀c,c<11->kh K (.ref (G.cl c)) (.ref A.NE)=some true
 iC:G.insC=A.dC
 dcl:Dx K A.dC
 dm:mg "Desk"=some (.ref A.dC)
 dk:Mk K A.dC A.f_Desk_init
 dn0:Ay K A.dC "order"
 dn1:Ay K A.dC "earlier"
 dm_Desk_change_to:Ci K A.dC "change_to" A.f_Desk_change_to
 dm_Desk_undo:Ci K A.dC "undo" A.f_Desk_undo
 dm_Desk_say:Ci K A.dC "say" A.f_Desk_say
 qt_QUESTIONS:Cw K A.q_QUESTIONS [("order",A.f_qx),("loose",A.f_qw),("least",A.f_qv),("best",A.f_q6),("many",A.f_q7)]
 qm_QUESTIONS:mg "QUESTIONS"=some (.ref A.q_QUESTIONS)
 code_law:A.fd_qC.code=.ref A.cc_law
structure Tz(base:bx)(mg:Str->Option af)(tabs:ah->Option Str)(A:Ad):Prop where
 P_law:tabs A.P_law=some ((("law":Str)++".<locals>.")++"<lambda>")
 C_law:mn base A.cc_law A.P_law
 B:lL mg base
theorem m5:(["thing"]:zu).Nodup:=by decide+kernel
theorem LO:(["one","other"]:zu).Nodup:=by decide+kernel
theorem m6:(["part","many"]:zu).Nodup:=by decide+kernel
theorem LP:(["thing","many"]:zu).Nodup:=by decide+kernel
theorem oK:(["a","b"]:zu).Nodup:=by decide+kernel
theorem yX:(["a","b","middle","c","pairs"]:zu).Nodup:=by decide+kernel
theorem LQ:(["thing","many","pairs"]:zu).Nodup:=by decide+kernel
theorem yY:(["many","pairs","found","middle","a","b"]:zu).Nodup:=by decide+kernel
theorem m7:(["pair"]:zu).Nodup:=by decide+kernel
theorem m8:(["many","pairs","found"]:zu).Nodup:=by decide+kernel
theorem m9:(["order","one","other","pairs"]:zu).Nodup:=by decide+kernel
theorem n9:(["order","many"]:zu).Nodup:=by decide+kernel
theorem LR:(["a","b","order","many"]:zu).Nodup:=by decide+kernel
theorem LU:(["order","thing","many","pairs"]:zu).Nodup:=by decide+kernel
theorem LV:(["a","b","thing"]:zu).Nodup:=by decide+kernel
theorem EA:(["order","begun","many","pairs","waiting"]:zu).Nodup:=by decide+kernel
theorem LW:(["a","b","begun"]:zu).Nodup:=by decide+kernel
theorem o6:(["thing","begun","waiting"]:zu).Nodup:=by decide+kernel
theorem EC:(["order","rows","place"]:zu).Nodup:=by decide+kernel
theorem LX:(["begun","thing","order"]:zu).Nodup:=by decide+kernel
theorem o7:(["row","pairs"]:zu).Nodup:=by decide+kernel
theorem o8:(["pair","row"]:zu).Nodup:=by decide+kernel
theorem o9:(["order","pairs"]:zu).Nodup:=by decide+kernel
theorem yZ:(["row","span"]:zu).Nodup:=by decide+kernel
theorem LY:(["order","found","least"]:zu).Nodup:=by decide+kernel
theorem LZ:(["row","span","least"]:zu).Nodup:=by decide+kernel
theorem L0:(["order","many","pairs"]:zu).Nodup:=by decide+kernel
theorem L6:(["order","a","b","many","pairs"]:zu).Nodup:=by decide+kernel
abbrev Aa:List PySem.Str:=["self","line","word","rest","numbers","question"]
theorem zA:(Aa:zu).Nodup:=by decide+kernel
theorem p0:(["figure"]:zu).Nodup:=by decide+kernel
theorem zB:(["_law_call","_law_error","e","_law_marks"]:zu).Nodup:=by decide+kernel
theorem p9:(["_law_k","_law_marks"]:zu).Nodup:=by decide+kernel
theorem pZ:(["_law_k","_law_some"]:zu).Nodup:=by decide+kernel
abbrev zy:List PySem.Str:=["_law_script","_law_desk","_law_words","_law_told","_law_cell","_law_line"]
theorem uG:(zy:zu).Nodup:=by decide+kernel
theorem L7:(["_law_word","_law_desk"]:zu).Nodup:=by decide+kernel
section
variable{P:bg}{w:bu}{K:ak}{mg:Str->Option af}{base:bx}{G:Cfg}{A:Ad}
theorem Tx.cl(T:Tx K mg G A):Dx G.K G.insC:=by rw[<-T.hK,T.iC];exact T.dcl
theorem Tx.na0(T:Tx K mg G A):Ay G.K G.insC "order":=by rw[<-T.hK,T.iC];exact T.dn0
theorem Tx.na1(T:Tx K mg G A):Ay G.K G.insC "earlier":=by rw[<-T.hK,T.iC];exact T.dn1
theorem Tx.dmk(T:Tx K mg G A):Mk K G.insC A.f_Desk_init:=by rw[T.iC];exact T.dk
theorem Tx.dcm(T:Tx K mg G A):mg "Desk"=some (.ref G.insC):=by rw[T.iC];exact T.dm
theorem Tx.me_Desk_change_to(T:Tx K mg G A):Ci G.K G.insC "change_to" A.f_Desk_change_to:=by rw[<-T.hK,T.iC];exact T.dm_Desk_change_to
theorem Tx.me_Desk_undo(T:Tx K mg G A):Ci G.K G.insC "undo" A.f_Desk_undo:=by rw[<-T.hK,T.iC];exact T.dm_Desk_undo
theorem Tx.me_Desk_say(T:Tx K mg G A):Ci G.K G.insC "say" A.f_Desk_say:=by rw[<-T.hK,T.iC];exact T.dm_Desk_say
theorem Tx.at{q:Str}(T:Tx K mg G A):Tx K mg (G.at q).toCf0 A:={T with}
theorem q9:Ab ["thing"] ["thing"] (aI DD):=cC
theorem r9(T:Tx K mg G A):Af P w K mg base (aS P w base) 1 A.f_q2 A.fd_q2 ["thing"] (bA G xW):=cE (k:=0) T.d_is_whole.F q9 T.hK λ_ _ _ _ _ _ _ g=>(aX (bO (pD (W8 rfl T.z_isinstance rfl T.z_int sV) (pC (G8 (W9 rfl T.z_isinstance rfl T.z_bool sV))))))
theorem t6:Ab ["thing","low","high"] ["thing","low","high"] (aI DE):=cC
theorem ED(T:Tx K mg G A):Af P w K mg base (aS P w base) 2 A.f_qj A.fd_qj ["thing","low","high"] (bA G pW):=cE (k:=1) T.d_is_between.F t6 T.hK λ_ _ _ _ _ _ _ g=>(aX (bO (pD (bT g (r9 T) T.d_is_whole (aZ sV)) (pC (WX sV sV sV)))))
theorem t7:Ab ["thing","low","high"] ["thing","low","high"] (aI DF):=cC
theorem t9(T:Tx K mg G A):Af P w K mg base (aS P w base) 3 A.f_qe A.fd_qe ["thing","low","high"] (bA G jX):=cE (k:=2) T.d_need_between.F t7 T.hK λ_ _ _ _ _ _ _ g=>(aX (eN (gC (fA (bT g (ED T) T.d_is_between (mD sV sV sV)))) (aX (UR (slots:=[1,2]) g rfl T.n_NoNumber T.ns_NoNumber T.x_NoNumber T.ce_NoNumber (Cg.cons (HR (by decide)) (Cg.cons (HU (qG (i:=1) rfl (by first|exact vj rfl|exact zd (vj rfl)))) (Cg.cons (HR (by decide)) (Cg.cons (HU (qG (i:=2) rfl (by first|exact vj rfl|exact zd (vj rfl)))) Cg.nil)))) (λσ hh=>⟨trivial,hh 1 (by decide),trivial,hh 2 (by decide),trivial⟩))) eM))
theorem u0:Ab ["parts"] ["parts"] (aI yJ):=cC
theorem u5(T:Tx K mg G A):Af P w K mg base (aS P w base) 1 A.f_qt A.fd_qt ["parts"] (bA G xX):=cE (k:=0) T.d_is_rising.F u0 T.hK λ_ _ _ _ _ _ _ g=>(aX (bO (qU g.calm rfl T.z_all (fO g.calm (eF (N:=["one","other"]) (os:=(aI yJ)) (oN:=["parts"])) (VY rfl T.z_zip (dE sV (YN sV (wR dG) IT))) (λ_ _ _=>(gD (dJ g).calm (cV (bI LO) (cV (bI LO) fV)))) (λ_ _ _=>fI) (λ_ _ _=>(J5 (dJ g) sV sV))))))
theorem u6:Ab ["many","thing"] ["many","thing"] (aI DG):=cC
theorem L8(T:Tx K mg G A):Af P w K mg base (aS P w base) 3 A.f_q1 A.fd_q1 ["many","thing"] (bA G rG):=cE (k:=2) T.d_is_thing.F u6 T.hK λ_ _ _ _ _ _ _ g=>(aX (bO (bT g (ED T) T.d_is_between (mD sV dG (IY sV dG)))))
theorem u7:Ab ["many","thing"] ["many","thing"] (aI yK):=cC
theorem L9(T:Tx K mg G A):Af P w K mg base (aS P w base) 4 A.f_qh A.fd_qh ["many","thing"] (bA G rH):=cE (k:=3) T.d_are_things.F u7 T.hK λ_ _ _ _ _ _ _ g=>(aX (bO (pD (BN rfl T.z_isinstance rfl T.z_tuple sV) (pC (qU g.calm rfl T.z_all (fO g.calm (eF (N:=["part","many"]) (os:=(aI yK)) (oN:=["many","thing"])) (mE sV) (λ_ _ _=>(bI m6)) (λ_ _ _=>fI) (λ_ _ _=>(bT (dJ g) (L8 T) T.d_is_thing (dE sV sV)))))))))
theorem u9:Ab ["many","thing"] ["many","thing"] (aI DH):=cC
theorem MA(T:Tx K mg G A):Af P w K mg base (aS P w base) 5 A.f_q8 A.fd_q8 ["many","thing"] (bA G pX):=cE (k:=4) T.d_is_pair.F u9 T.hK λ_ _ _ _ _ _ _ g=>(aX (bO (pD (bT g (L9 T) T.d_are_things (dE sV sV)) (pC (BL g (pR rfl T.z_len (aZ sV)) dG)))))
theorem MB:Ab ["many","things"] ["many","things"] (aI uC):=cC
theorem v5(T:Tx K mg G A):Af P w K mg base (aS P w base) 6 A.f_qq A.fd_qq ["many","things"] (bA G xY):=cE (k:=5) T.d_are_pairs.F MB T.hK λ_ _ _ _ _ _ _ g=>(aX (bO (qU g.calm rfl T.z_all (fO g.calm (eF (N:=["thing","many"]) (os:=(aI uC)) (oN:=["many","things"])) (mE sV) (λ_ _ _=>(bI LP)) (λ_ _ _=>fI) (λ_ _ _=>(bT (dJ g) (MA T) T.d_is_pair (dE sV sV)))))))
theorem v7(T:Tx K mg G A):Af P w K mg base (aS P w base) 6 A.f_qq A.fd_qq ["many","things"] (bA G LF):=cE (k:=5) T.d_are_pairs.F MB T.hK λ_ _ _ _ _ _ _ g=>(aX (bO (qU g.calm rfl T.z_all (fO g.calm (eF (N:=["thing","many"]) (os:=(aI uC)) (oN:=["many","things"])) (hJ sV) (λ_ _ _=>(bI LP)) (λ_ _ _=>fI) (λ_ _ _=>(bT (dJ g) (MA T) T.d_is_pair (dE sV sV)))))))
theorem MD:Ab ["pairs"] ["pairs"] (aI uD):=cC
theorem v8(T:Tx K mg G A):Af P w K mg base (aS P w base) 1 A.f_qs A.fd_qs ["pairs"] (bA G xZ):=cE (k:=0) T.d_has_alike.F MD T.hK λ_ _ _ _ _ _ _ g=>(aX (bO (HZ g.calm rfl T.z_any (fO g.calm (eF (N:=["a","b"]) (os:=(aI uD)) (oN:=["pairs"])) (mE sV) (λ_ _ _=>(gD (dJ g).calm (cV (bI oK) (cV (bI oK) fV)))) (λ_ _ _=>fI) (λ_ _ _=>(BL (dJ g) sV sV))))))
theorem v9(T:Tx K mg G A):Af P w K mg base (aS P w base) 1 A.f_qs A.fd_qs ["pairs"] (bA G LG):=cE (k:=0) T.d_has_alike.F MD T.hK λ_ _ _ _ _ _ _ g=>(aX (bO (HZ g.calm rfl T.z_any (fO g.calm (eF (N:=["a","b"]) (os:=(aI uD)) (oN:=["pairs"])) (hJ sV) (λ_ _ _=>(gD (dJ g).calm (cV (bI oK) (cV (bI oK) fV)))) (λ_ _ _=>fI) (λ_ _ _=>(BL (dJ g) sV sV))))))
theorem w9:Ab ["pairs"] ["pairs"] (aI yL):=cC
theorem x8(T:Tx K mg G A):Af P w K mg base (aS P w base) 1 A.f_qf A.fd_qf ["pairs"] (bA G yA):=cE (k:=0) T.d_is_complete.F w9 T.hK λ_ _ _ _ _ _ _ g=>(aX (bO (qU g.calm rfl T.z_all (HL g.calm (eF (N:=["a","b","middle","c","pairs"]) (os:=(aI yL)) (oN:=["pairs"])) (mE sV) (λ_ _ _=>(gD (dJ g).calm (cV (bI yX) (cV (bI yX) fV)))) (λ_ _ _=>fI) (λ_ _ _=>(mE sV)) (λ_ _ _=>(gD (dJ g).calm (cV (bI yX) (cV (bI yX) fV)))) (λ_ _ _=>(qR (mM (dJ g) sV sV))) (λ_ _ _=>(XT (dJ g) (iH (dE sV sV)) sV))))))
theorem x9:Ab ["thing","many","pairs"] ["thing"] (aI DI):=cC
theorem z0(T:Tx K mg G A):Af P w K mg base (aS P w base) 7 A.f_q0 A.fd_q0 ["thing"] (bA G mV):=cE (k:=6) T.d_is_order.F x9 T.hK λ_ _ _ _ _ _ _ g=>(bG (eN (Er (pB (gC (fA (BN rfl T.z_isinstance rfl T.z_tuple sV))) (qK (rA g (pR rfl T.z_len (aZ sV)) dG)))) (aX (bO lI)) eM) (bG (sZ sV (gD g.calm (cV (bI LQ) (cV (bI LQ) fV)))) (bG (eN (Er (pB (gC (fA (bT g (ED T) T.d_is_between (mD sV dG (BE rfl T.c_MOST_THINGS))))) (qK (gC (fA (BN rfl T.z_isinstance rfl T.z_tuple sV)))))) (aX (bO lI)) eM) (bG (eN (Er (pB (gC (fA (bT g (v5 T) T.d_are_pairs (dE sV sV)))) (qK (gC (fA (bT g (u5 T) T.d_is_rising (aZ sV))))))) (aX (bO lI)) eM) (aX (bO (pD (G8 (bT g (v8 T) T.d_has_alike (aZ sV))) (pC (bT g (x8 T) T.d_is_complete (aZ sV))))))))))
theorem z9:Ab ["order"] ["order"] (aI DJ):=cC
theorem uH(T:Tx K mg G A):Af P w K mg base (aS P w base) 8 A.f_ql A.fd_ql ["order"] (bA G cX):=cE (k:=7) T.d_need_order.F z9 T.hK λ_ _ _ _ _ _ _ g=>(aX (eN (gC (fA (bT g (z0 T) T.d_is_order (aZ sV)))) (aX (mG g rfl T.n_NoOrder T.ns_NoOrder T.x_NoOrder T.ce_NoOrder (aZ dQ))) eM))
theorem z00:Ab ["order","thing"] ["order","thing"] (aI DK):=cC
theorem ME(T:Tx K mg G A):Af P w K mg base (aS P w base) 9 A.f_qm A.fd_qm ["order","thing"] (bA G jE):=cE (k:=8) T.d_need_thing.F z00 T.hK λ_ _ _ _ _ _ _ g=>(bG (jN (bT g (uH T) T.d_need_order (aZ sV))) (aX (eN (gC (fA (bT g (L8 T) T.d_is_thing (dE (iO sV dG) sV)))) (aX (mG g rfl T.n_NoThing T.ns_NoThing T.x_NoThing T.ce_NoThing (aZ dQ))) eM)))
theorem z01:Ab ["many","pairs","found","middle","a","b"] ["many","pairs"] (aI yM):=cC
theorem z02(T:Tx K mg G A):Af P w K mg base (aS P w base) 1 A.f_qa A.fd_qa ["many","pairs"] (bA G jY):=cE (k:=0) T.d_with_all_that_follows.F z01 T.hK λ_ _ _ _ _ _ _ g=>(bG (ZQ (i:=2) g yY rfl (eF (N:=["pair"]) (os:=(aI yM)) (oN:=["many","pairs","found","middle","a","b"])) (hJ sV) (λ_ _ _=>(bI m7)) (λ_ _ _=>sV) (λ_ _ _=>lI)) (bG (tB g.own g.calm (pJ rfl T.z_range (aZ sV)) (bI yY) (aX (tB g.own g.calm (pJ rfl T.z_range (aZ sV)) (bI yY) (aX (tB g.own g.calm (pJ rfl T.z_range (aZ sV)) (bI yY) (aX (eN (Er (nJ (KC g (iH (dE sV sV)) sV) (pA (KC g (iH (dE sV sV)) sV)))) (aX (ZK g sV (iH (dE sV sV)) lI)) eM))))))) (aX (bO (ZM g rfl T.z_sorted (aZ sV))))))
theorem z03:Ab ["many","pairs","found"] ["many","pairs"] (aI DL):=cC
theorem z04(T:Tx K mg G A):Af P w K mg base (aS P w base) 7 A.f_q5 A.fd_q5 ["many","pairs"] (bA G LH):=cE (k:=6) T.d_order_of.F z03 T.hK λ_ _ _ _ _ _ _ g=>(bG (jN (bT g (t9 T) T.d_need_between (mD sV dG (BE rfl T.c_MOST_THINGS)))) (bG (eN (Er (pB (gC (fA (XA rfl T.z_isinstance rfl T.z_list sV))) (qK (gC (fA (bT g (v7 T) T.d_are_pairs (dE sV sV))))))) (aX (mG g rfl T.n_NoPairs T.ns_NoPairs T.x_NoPairs T.ce_NoPairs (aZ dQ))) eM) (bG (iD m8 (bT g (z02 T) T.d_with_all_that_follows (dE sV sV))) (bG (eN (fA (bT g (v9 T) T.d_has_alike (aZ sV))) (aX (mG g rfl T.n_Round T.ns_Round T.x_Round T.ce_Round (aZ dQ))) eM) (aX (bO (iH (dE sV (HJ rfl T.z_tuple (aZ sV))))))))))
theorem z05:Ab ["order","one","other","pairs"] ["order","one","other"] (aI DM):=cC
theorem z06(T:Tx K mg G A):Af P w K mg base (aS P w base) 1 A.f_qp A.fd_qp ["order","one","other"] (bA G fF):=cE (k:=0) T.d_are_loose.F z05 T.hK λ_ _ _ _ _ _ _ g=>(bG (iD m9 (iO sV dG)) (aX (bO (pD (WW g sV sV) (pD (JH g (iH (dE sV sV)) sV) (pC (JH g (iH (dE sV sV)) sV)))))))
theorem z07:Ab ["order","many"] ["order"] (aI yN):=cC
theorem EE(T:Tx K mg G A):Af P w K mg base (aS P w base) 9 A.f_qg A.fd_qg ["order"] (bA G eE):=cE (k:=8) T.d_loose_pairs.F z07 T.hK λ_ _ _ _ _ _ _ g=>(bG (jN (bT g (uH T) T.d_need_order (aZ sV))) (bG (iD n9 (iO sV dG)) (aX (bO (iU (HL g.calm (eF (N:=["a","b","order","many"]) (os:=(aI yN)) (oN:=["order","many"])) (pJ rfl T.z_range (aZ sV)) (λ_ _ _=>(bI LR)) (λ_ _ _=>fI) (λ_ _ _=>(UG rfl T.z_range (dE (mP sV dG) sV))) (λ_ _ _=>(bI LR)) (λ_ _ _=>(qR (fA (bT (dJ g) (z06 T) T.d_are_loose (mD sV sV sV))))) (λ_ _ _=>(iH (dE sV sV)))))))))
theorem z08:Ab ["order","thing","many","pairs"] ["order","thing"] (aI yO):=cC
theorem z09(T:Tx K mg G A):Af P w K mg base (aS P w base) 9 A.f_qA A.fd_qA ["order","thing"] (bA G jV):=cE (k:=8) T.d_is_row.F z08 T.hK λ_ _ _ _ _ _ _ g=>(bG (jN (bT g (uH T) T.d_need_order (aZ sV))) (bG (sZ sV (gD g.calm (cV (bI LU) (cV (bI LU) fV)))) (bG (eN (Er (pB (gC (fA (bT g (L9 T) T.d_are_things (dE sV sV)))) (pB (rA g (pR rfl T.z_len (aZ sV)) sV) (qK (rA g (YZ g.calm rfl T.z_len rfl T.z_set (aZ sV)) sV))))) (aX (bO lI)) eM) (aX (bO (qU g.calm rfl T.z_all (fO g.calm (eF (N:=["a","b","thing"]) (os:=(aI yO)) (oN:=["order","thing","many","pairs"])) (mE sV) (λ_ _ _=>(gD (dJ g).calm (cV (bI LV) (cV (bI LV) fV)))) (λ_ _ _=>fI) (λ_ _ _=>(J5 (dJ g) (xA sV sV) (xA sV sV))))))))))
theorem z0a:Ab ["order","row"] ["order","row"] (aI DN):=cC
theorem z0b(T:Tx K mg G A):Af P w K mg base (aS P w base) 10 A.f_q4 A.fd_q4 ["order","row"] (bA G jW):=cE (k:=9) T.d_need_row.F z0a T.hK λ_ _ _ _ _ _ _ g=>(aX (eN (gC (fA (bT g (z09 T) T.d_is_row (dE sV sV)))) (aX (mG g rfl T.n_NoRow T.ns_NoRow T.x_NoRow T.ce_NoRow (aZ dQ))) eM))
theorem z0c:Ab ["order","begun","many","pairs","waiting"] ["order","begun"] (aI uE):=cC
theorem z0d(T:Tx K mg G A):Af P w K mg base (aS P w base) 1 A.f_q3 A.fd_q3 ["order","begun"] (bA G gG):=cE (k:=0) T.d_may_come.F z0c T.hK λ_ _ _ _ _ _ _ g=>(bG (sZ sV (gD g.calm (cV (bI EA) (cV (bI EA) fV)))) (bG (iD EA (iU (fO g.calm (eF (N:=["a","b","begun"]) (os:=(aI uE)) (oN:=["order","begun","many","pairs","waiting"])) (mE sV) (λ_ _ _=>(gD (dJ g).calm (cV (bI LW) (cV (bI LW) fV)))) (λ_ _ _=>(qR (BS (dJ g) sV sV))) (λ_ _ _=>sV)))) (aX (bO (iU (fO g.calm (eF (N:=["thing","begun","waiting"]) (os:=(aI uE)) (oN:=["order","begun","many","pairs","waiting"])) (pJ rfl T.z_range (aZ sV)) (λ_ _ _=>(bI o6)) (λ_ _ _=>(qR (Er (nJ (BS (dJ g) sV sV) (pA (BS (dJ g) sV sV)))))) (λ_ _ _=>sV)))))))
theorem z0e:Ab ["order","rows","place"] ["order"] (aI yP):=cC
theorem z0f(T:Tx K mg G A):Af P w K mg base (aS P w base) 9 A.f_qz A.fd_qz ["order"] (bA G fX):=cE (k:=8) T.d_all_rows.F z0e T.hK λ_ _ _ _ _ _ _ g=>(bG (jN (bT g (uH T) T.d_need_order (aZ sV))) (bG (iD EC (oG 3)) (bG (tB g.own g.calm (pJ rfl T.z_range (aZ (iO sV dG))) (bI EC) (aX (XZ (i:=1) EC rfl g.calm (eF (N:=["begun","thing","order"]) (os:=(aI yP)) (oN:=["order","rows","place"])) (hJ sV) (λ_ _ _=>(bI LX)) (λ_ _ _=>fI) (λ_ _ _=>(hJ (bT (dJ g) (z0d T) T.d_may_come (dE sV sV)))) (λ_ _ _=>(bI LX)) (λ_ _ _=>fI) (λ_ _ _=>(mP sV (iH (aZ sV))))))) (aX (bO sV)))))
theorem z0g:Ab ["row","pair"] ["row","pair"] (aI DO):=cC
theorem z0h(T:Tx K mg G A):Af P w K mg base (aS P w base) 1 A.f_qB A.fd_qB ["row","pair"] (bA G gQ):=cE (k:=0) T.d_apart.F z0g T.hK λ_ _ _ _ _ _ _ g=>(aX (bO (T6 rfl T.z_abs (aZ (IY (xA sV (iO sV dG)) (xA sV (iO sV dG)))))))
theorem z0i:Ab ["row","pairs"] ["row","pairs"] (aI yQ):=cC
theorem MF(T:Tx K mg G A):Af P w K mg base (aS P w base) 2 A.f_qc A.fd_qc ["row","pairs"] (bA G gF):=cE (k:=1) T.d_greatest_apart.F z0i T.hK λ_ _ _ _ _ _ _ g=>(aX (bO (Y3 g.calm rfl T.z_max (iU (fO g.calm (eF (N:=["pair","row"]) (os:=(aI yQ)) (oN:=["row","pairs"])) (hJ sV) (λ_ _ _=>(bI o8)) (λ_ _ _=>fI) (λ_ _ _=>(bT (dJ g) (z0h T) T.d_apart (dE sV sV))))))))
theorem z0j:Ab ["order","row"] ["order","row"] (aI DP):=cC
theorem z0k(T:Tx K mg G A):Af P w K mg base (aS P w base) 11 A.f_q9 A.fd_q9 ["order","row"] (bA G iY):=cE (k:=10) T.d_span_of.F z0j T.hK λ_ _ _ _ _ _ _ g=>(bG (jN (bT g (z0b T) T.d_need_row (dE sV sV))) (aX (bO (bT g (MF T) T.d_greatest_apart (dE sV (bT g (EE T) T.d_loose_pairs (aZ sV)))))))
theorem z0l:Ab ["order","pairs"] ["order"] (aI yR):=cC
theorem MG(T:Tx K mg G A):Af P w K mg base (aS P w base) 10 A.f_qb A.fd_qb ["order"] (bA G fQ):=cE (k:=9) T.d_rows_with_spans.F z0l T.hK λ_ _ _ _ _ _ _ g=>(bG (iD o9 (bT g (EE T) T.d_loose_pairs (aZ sV))) (aX (bO (iU (fO g.calm (eF (N:=["row","pairs"]) (os:=(aI yR)) (oN:=["order","pairs"])) (hJ (bT g (z0f T) T.d_all_rows (aZ sV))) (λ_ _ _=>(bI o7)) (λ_ _ _=>fI) (λ_ _ _=>(iH (dE sV (bT (dJ g) (MF T) T.d_greatest_apart (dE sV sV))))))))))
theorem z0m:Ab ["order"] ["order"] (aI yS):=cC
theorem z0n(T:Tx K mg G A):Af P w K mg base (aS P w base) 11 A.f_qk A.fd_qk ["order"] (bA G jC):=cE (k:=10) T.d_least_span.F z0m T.hK λ_ _ _ _ _ _ _ g=>(aX (bO (JD g.calm rfl T.z_min (aZ (iU (fO g.calm (eF (N:=["row","span"]) (os:=(aI yS)) (oN:=["order"])) (hJ (bT g (MG T) T.d_rows_with_spans (aZ sV))) (λ_ _ _=>(gD (dJ g).calm (cV (bI yZ) (cV (bI yZ) fV)))) (λ_ _ _=>fI) (λ_ _ _=>sV)))))))
theorem z0o:Ab ["order","found","least"] ["order"] (aI uF):=cC
theorem MH(T:Tx K mg G A):Af P w K mg base (aS P w base) 11 A.f_qr A.fd_qr ["order"] (bA G fG):=cE (k:=10) T.d_best_rows.F z0o T.hK λ_ _ _ _ _ _ _ g=>(bG (iD LY (bT g (MG T) T.d_rows_with_spans (aZ sV))) (bG (iD LY (JD g.calm rfl T.z_min (aZ (iU (fO g.calm (eF (N:=["row","span"]) (os:=(aI uF)) (oN:=["order","found","least"])) (hJ sV) (λ_ _ _=>(gD (dJ g).calm (cV (bI yZ) (cV (bI yZ) fV)))) (λ_ _ _=>fI) (λ_ _ _=>sV)))))) (aX (bO (iU (fO g.calm (eF (N:=["row","span","least"]) (os:=(aI uF)) (oN:=["order","found","least"])) (hJ sV) (λ_ _ _=>(gD (dJ g).calm (cV (bI LZ) (cV (bI LZ) fV)))) (λ_ _ _=>(qR (mM (dJ g) sV sV))) (λ_ _ _=>sV)))))))
theorem z0p:Ab ["order"] ["order"] (aI DQ):=cC
theorem z0q(T:Tx K mg G A):Af P w K mg base (aS P w base) 12 A.f_qi A.fd_qi ["order"] (bA G gR):=cE (k:=11) T.d_first_best.F z0p T.hK λ_ _ _ _ _ _ _ g=>(aX (bO (iO (bT g (MH T) T.d_best_rows (aZ sV)) dG)))
theorem z0r:Ab ["order","many","pairs"] ["order"] (aI yT):=cC
theorem z0s(T:Tx K mg G A):Af P w K mg base (aS P w base) 9 A.f_qn A.fd_qn ["order"] (bA G jA):=cE (k:=8) T.d_order_text.F z0r T.hK λ_ _ _ _ _ _ _ g=>(bG (jN (bT g (uH T) T.d_need_order (aZ sV))) (bG (sZ sV (gD g.calm (cV (bI L0) (cV (bI L0) fV)))) (aX (bO (ZS (CN (mU (tW sV) (mU dQ CM))) (CP dQ (iU (fO g.calm (eF (N:=["a","b"]) (os:=(aI yT)) (oN:=["order","many","pairs"])) (mE sV) (λ_ _ _=>(gD (dJ g).calm (cV (bI oK) (cV (bI oK) fV)))) (λ_ _ _=>fI) (λ_ _ _=>(CN (mU dQ (mU (tW sV) (mU dQ (mU (tW sV) CM))))))))))))))
theorem z0t:Ab ["order"] ["order"] (aI DR):=cC
theorem z0u(T:Tx K mg G A):Af P w K mg base (aS P w base) 10 A.f_qx A.fd_qx ["order"] (bA G yB):=cE (k:=9) T.d_say_order.F z0t T.hK λ_ _ _ _ _ _ _ g=>(aX (bO (bT g (z0s T) T.d_order_text (aZ sV))))
theorem z0v:Ab ["order"] ["order"] (aI yU):=cC
theorem z0w(T:Tx K mg G A):Af P w K mg base (aS P w base) 10 A.f_qw A.fd_qw ["order"] (bA G yC):=cE (k:=9) T.d_say_loose.F z0v T.hK λ_ _ _ _ _ _ _ g=>(aX (bO (j5 (CP dQ (iU (fO g.calm (eF (N:=["a","b"]) (os:=(aI yU)) (oN:=["order"])) (hJ (bT g (EE T) T.d_loose_pairs (aZ sV))) (λ_ _ _=>(gD (dJ g).calm (cV (bI oK) (cV (bI oK) fV)))) (λ_ _ _=>fI) (λ_ _ _=>(CN (mU (tW sV) (mU dQ (mU (tW sV) CM)))))))) (pC dQ))))
theorem z0x:Ab ["order"] ["order"] (aI DS):=cC
theorem z0y(T:Tx K mg G A):Af P w K mg base (aS P w base) 12 A.f_qv A.fd_qv ["order"] (bA G yD):=cE (k:=11) T.d_say_least.F z0x T.hK λ_ _ _ _ _ _ _ g=>(aX (bO (xP rfl T.z_str (aZ (bT g (z0n T) T.d_least_span (aZ sV))))))
theorem z0z:Ab ["order"] ["order"] (aI yV):=cC
theorem z10(T:Tx K mg G A):Af P w K mg base (aS P w base) 13 A.f_q6 A.fd_q6 ["order"] (bA G yE):=cE (k:=12) T.d_say_best.F z0z T.hK λ_ _ _ _ _ _ _ g=>(aX (bO (CP dQ (iU (fO g.calm (eF (N:=["thing"]) (os:=(aI yV)) (oN:=["order"])) (mE (bT g (z0q T) T.d_first_best (aZ sV))) (λ_ _ _=>(bI m5)) (λ_ _ _=>fI) (λ_ _ _=>(xP rfl T.z_str (aZ sV))))))))
theorem z11:Ab ["order"] ["order"] (aI DT):=cC
theorem z12(T:Tx K mg G A):Af P w K mg base (aS P w base) 12 A.f_q7 A.fd_q7 ["order"] (bA G yF):=cE (k:=11) T.d_say_many.F z11 T.hK λ_ _ _ _ _ _ _ g=>(aX (bO (xP rfl T.z_str (aZ (pR rfl T.z_len (aZ (bT g (MH T) T.d_best_rows (aZ sV))))))))
theorem z13:Ab ["word"] ["word"] (aI DU):=cC
theorem z14(T:Tx K mg G A):Af P w K mg base (aS P w base) 1 A.f_qu A.fd_qu ["word"] (bA G lQ):=cE (k:=0) T.d_number_of.F z13 T.hK λ_ _ _ _ _ _ _ g=>(bG (eN (Er (pB (rA g (ZU rfl T.z_len (aZ sV)) dG) (qK (ZY sV (KL rfl T.c_FIGURES))))) (aX (mG g rfl T.n_NoLine T.ns_NoLine T.x_NoLine T.ce_NoLine (aZ dQ))) eM) (aX (bO (j4 (KL rfl T.c_FIGURES) sV))))
theorem z15:Ab ["order","a","b","many","pairs"] ["order","a","b"] (aI DV):=cC
theorem z16(T:Tx K mg G A):Af P w K mg base (aS P w base) 10 A.f_qo A.fd_qo ["order","a","b"] (bA G DA):=cE (k:=9) T.d_with_ahead.F z15 T.hK λ_ _ _ _ _ _ _ g=>(bG (jN (bT g (ME T) T.d_need_thing (dE sV sV))) (bG (jN (bT g (ME T) T.d_need_thing (dE sV sV))) (bG (sZ sV (gD g.calm (cV (bI L6) (cV (bI L6) fV)))) (aX (bO (bT g (z04 T) T.d_order_of (dE sV (mP (XH rfl T.z_list (aZ sV)) (oZ (aZ (iH (dE sV sV))))))))))))
theorem z17:Ab ["self"] ["self"] (aI DW):=cC
theorem z18(T:Tx K mg G A):Af P w K mg base (aS P w base) 1 A.f_Desk_init A.fd_Desk_init ["self"] (bA G LI):=cE (k:=0) T.d_Desk_init.F z17 T.hK λ_ _ _ _ _ _ _ g=>(bG (wW T.cl T.na0 sV (oG 3)) (aX (wW T.cl T.na1 sV (oZ oX))))
theorem z19:Ab ["self","order"] ["self","order"] (aI DX):=cC
theorem MI(T:Tx K mg G A):Af P w K mg base (aS P w base) 1 A.f_Desk_change_to A.fd_Desk_change_to ["self","order"] (bA G tZ):=cE (k:=0) T.d_Desk_change_to.F z19 T.hK λ_ _ _ _ _ _ _ g=>(bG (jN (WS (pO T.cl T.na1 sV) (pO T.cl T.na0 sV))) (bG (wW T.cl T.na0 sV sV) (aX (bO dQ))))
theorem z1a:Ab ["self"] ["self"] (aI DY):=cC
theorem z1b(T:Tx K mg G A):Af P w K mg base (aS P w base) 1 A.f_Desk_undo A.fd_Desk_undo ["self"] (bA G DB):=cE (k:=0) T.d_Desk_undo.F z1a T.hK λ_ _ _ _ _ _ _ g=>(bG (eN (gC (fA (pO T.cl T.na1 sV))) (aX (mG g rfl T.n_NoDeed T.ns_NoDeed T.x_NoDeed T.ce_NoDeed (aZ dQ))) eM) (bG (wW T.cl T.na0 sV (WT (pO T.cl T.na1 sV))) (aX (bO dQ))))
theorem z1c(T:Tx K mg G A):∀z F,Au.lookup z=some F->∃(f:ah)(fd:ay)(ps:zu),cw z [("order",A.f_qx),("loose",A.f_qw),("least",A.f_qv),("best",A.f_q6),("many",A.f_q7)]=some f/\iu K (.ref f)=true/\Binds K fd ps []/\Af P w K mg base (aS P w base) 13 f fd ps (bA G F):=by
 intro z F h;unfold Au at h;rw[dr]at h
 by_cases c:z=("order":Str)
 ·subst c;rw[beq_self_eq_true]at h;cases h;exact⟨A.f_qx,A.fd_qx,["order"],by simp[cw],T.d_say_order.F.kp,T.d_say_order.B,(z0u T).mono (by decide)⟩
 rw[beq_false_of_ne c]at h;simp only[cw,decide_eq_false c,jd,if_false];rw[dr]at h
 by_cases c:z=("loose":Str)
 ·subst c;rw[beq_self_eq_true]at h;cases h;exact⟨A.f_qw,A.fd_qw,["order"],by simp[cw],T.d_say_loose.F.kp,T.d_say_loose.B,(z0w T).mono (by decide)⟩
 rw[beq_false_of_ne c]at h;simp only[cw,decide_eq_false c,jd,if_false];rw[dr]at h
 by_cases c:z=("least":Str)
 ·subst c;rw[beq_self_eq_true]at h;cases h;exact⟨A.f_qv,A.fd_qv,["order"],by simp[cw],T.d_say_least.F.kp,T.d_say_least.B,(z0y T).mono (by decide)⟩
 rw[beq_false_of_ne c]at h;simp only[cw,decide_eq_false c,jd,if_false];rw[dr]at h
 by_cases c:z=("best":Str)
 ·subst c;rw[beq_self_eq_true]at h;cases h;exact⟨A.f_q6,A.fd_q6,["order"],by simp[cw],T.d_say_best.F.kp,T.d_say_best.B,(z10 T).mono (by decide)⟩
 rw[beq_false_of_ne c]at h;simp only[cw,decide_eq_false c,jd,if_false];rw[dr]at h
 by_cases c:z=("many":Str)
 ·subst c;rw[beq_self_eq_true]at h;cases h;exact⟨A.f_q7,A.fd_q7,["order"],by simp[cw],T.d_say_many.F.kp,T.d_say_many.B,(z12 T).mono (by decide)⟩
 rw[beq_false_of_ne c]at h;simp only[cw,decide_eq_false c,jd,if_false];cases h
theorem z1d:Ab Aa ["self","line"] (aI yW):=cC
theorem uI(T:Tx K mg G A):Af P w K mg base (aS P w base) 14 A.f_Desk_say A.fd_Desk_say ["self","line"] (bA G fY):=h8 (k:=13) T.d_Desk_say.F z1d T.hK λcdv Ar outer s H E₀ E g p=>(bG (eN (gC (fA (XB rfl T.z_isinstance rfl T.z_str sV))) (aX (mG g rfl T.n_NoLine T.ns_NoLine T.x_NoLine T.ce_NoLine (aZ dQ))) eM) (bG (Z8 g.calm (Z1 sV dQ) (cV (bI zA) (Z7 (bI zA) fV))) (bG (j7 (i:=4) zA rfl g.calm (eF (N:=["figure"]) (os:=(aI yW)) (oN:=Aa)) (hJ sV) (λ_ _ _=>(bI p0)) (λ_ _ _=>f7) (λ_ _ _=>(e7 g.room (d9 rfl rfl p) (z14 T) (by decide) rfl T.d_number_of.m T.d_number_of.F.kp T.d_number_of.B (aZ sV)))) (bG (eN (Er (nJ (i7 T.qt_QUESTIONS rfl sV rfl T.qm_QUESTIONS) (pA (gC (fA sV))))) (j0 g T.qt_QUESTIONS (by decide) zA rfl (by first|exact .inl rfl|exact .inr rfl) (by first|exact .inl rfl|exact .inr rfl) (qG (i:=5) rfl (by first|exact vj rfl|exact zd (vj rfl))) rfl T.qm_QUESTIONS sV (λ_ _=>rfl) (pO T.cl T.na0 sV) (z1c T)) eM) (bG (eN (Er (nJ (mM g sV dQ) (pA (fA sV)))) (aX (bO (xP rfl T.z_str (aZ (bT g (z0k T) T.d_span_of (dE (pO T.cl T.na0 sV) (HJ rfl T.z_tuple (aZ sV)))))))) eM) (bG (eN (Er (nJ (mM g sV dQ) (nJ (mM g (pR rfl T.z_len (aZ sV)) dG) (pA (WY dG (iO sV dG) (BE rfl T.c_MOST_THINGS)))))) (aX (bO (pP g T.cl T.me_Desk_change_to (MI T) (by decide) T.d_Desk_change_to.B sV (aZ (iH (dE (iO sV dG) (iH oX))))))) eM) (bG (eN (Er (nJ (mM g sV dQ) (pA (mM g (pR rfl T.z_len (aZ sV)) dG)))) (aX (bO (pP g T.cl T.me_Desk_change_to (MI T) (by decide) T.d_Desk_change_to.B sV (aZ (bT g (z16 T) T.d_with_ahead (mD (pO T.cl T.na0 sV) (iO sV dG) (iO sV dG))))))) eM) (bG (eN (Er (nJ (mM g sV dQ) (pA (gC (fA sV))))) (aX (bO (WR g T.cl T.me_Desk_undo (z1b T) (by decide) T.d_Desk_undo.B sV))) eM) (aX (mG g rfl T.n_NoLine T.ns_NoLine T.x_NoLine T.ce_NoLine (aZ dQ)))))))))))
theorem z1e:Ab ["_law_call","_law_error","e","_law_marks"] ["_law_call"] (aI pY):=cC
theorem z1f{k:Nat}(T:Tx K mg G A)(cdv:af)(Ar:bq)(outer:List Env)(s:ag)(H:Hp)(E₀ E:XK)(g:Good (eK (aS P w base) P w K mg base ["_law_call","_law_error","e","_law_marks"] "_law_refused" (aI pY) A.f_qd cdv Ar outer s H E₀) G E k):iI (eK (aS P w base) P w K mg base ["_law_call","_law_error","e","_law_marks"] "_law_refused" (aI pY) A.f_qd cdv Ar outer s H E₀) G E ((gJ pY).drop 2) jZ:=(bG (iD zB (oZ (mD (kN rfl T.z_isinstance rfl T.n_NoOrder sV (λ_ h=>by cases h) T.kt0) (kN rfl T.z_isinstance rfl T.n_NoNumber sV (λ_ h=>by cases h) T.kt1) (kN rfl T.z_isinstance rfl T.n_NoPairs sV (λ_ h=>by cases h) T.kt2)))) (bG (iD zB (mP sV (oZ (mD (kN rfl T.z_isinstance rfl T.n_Round sV (λ_ h=>by cases h) T.kt3) (kN rfl T.z_isinstance rfl T.n_NoThing sV (λ_ h=>by cases h) T.kt4) (kN rfl T.z_isinstance rfl T.n_NoRow sV (λ_ h=>by cases h) T.kt5))))) (bG (iD zB (mP sV (oZ (mD (kN rfl T.z_isinstance rfl T.n_TooMany sV (λ_ h=>by cases h) T.kt6) (kN rfl T.z_isinstance rfl T.n_TooFew sV (λ_ h=>by cases h) T.kt7) (kN rfl T.z_isinstance rfl T.n_NoText sV (λ_ h=>by cases h) T.kt8))))) (bG (iD zB (mP sV (oZ (dE (kN rfl T.z_isinstance rfl T.n_NoLine sV (λ_ h=>by cases h) T.kt9) (kN rfl T.z_isinstance rfl T.n_NoDeed sV (λ_ h=>by cases h) T.kt10))))) (bG (eN (gC (fA (XC rfl T.z_isinstance rfl T.z_ValueError sV (λ_ h=>by cases h) T.ktV))) (aX (bO G6)) eM) (aX (bO (iU (fO g.calm (eF (N:=["_law_k","_law_marks"]) (os:=(aI pY)) (oN:=["_law_call","_law_error","e","_law_marks"])) (pJ rfl T.z_range (aZ dG)) (λ_ _ _=>(bI p9)) (λ_ _ _=>(qR (fA (iO sV sV)))) (λ_ _ _=>sV))))))))))
theorem z1g{k:Nat}{Nl:zu}{params:ji}{body:ba}{scope:dj}{me:M Dv}(T:Tx K mg G A)(LS:Bg Nl scope)(hb:∀(cl:List (Str×ah))(pm cdv ct:af),bindArgs (pf "<lambda>" G.lq params body scope cl pm cdv ct) ⟨[],[]⟩=pure [])(Aw:∀(f:ah)(cdv:af)(cl:List (Str×ah))(A:bq)(outer:List Env)(s:ag)(H:Hp)(E₀ E:XK),Good (iV P w K mg base Nl G.lq scope f cdv cl A outer s H E₀) G E k->aB (iV P w K mg base Nl G.lq scope f cdv cl A outer s H E₀) G E body me):
  Af P w K mg base (aS P w base) (k+2) A.f_qd A.fd_qd ["_law_call"] (BC G base Nl params body scope me 4 11 jZ):=
 V6 T.d__law_refused.F z1e T.hK rfl rfl rfl rfl rfl rfl rfl (by decide) (by decide) (by decide) (by decide) (by decide) (λ_ _=>rfl) (λ_ _=>rfl) (λ_ _=>rfl) rfl T.n_NearError T.e1 T.e2 T.e3 T.e4 LS hb Aw (z1f T)
theorem z1h:Ab ["_law_k","_law_some"] ["_law_k"] (aI DZ):=cC
theorem z1i(T:Tx K mg G A):Af P w K mg base (aS P w base) 1 A.f_qy A.fd_qy ["_law_k"] (bA G uB):=YT (k:=0) T.d__law_bad.F z1h T.hK λ_ _ _ _ _ _ _ g=>(pU (YS 2 (i:=1) pZ rfl (by first|exact .inl rfl|exact .inr rfl)) (pU (rC 2 (i:=1) pZ rfl (by first|exact .inl rfl|exact .inr rfl) sV) (pU (rC 2 (i:=1) pZ rfl (by first|exact .inl rfl|exact .inr rfl) sV) (pU (rC 2 (i:=1) pZ rfl (by first|exact .inl rfl|exact .inr rfl) sV) (pU (rC 2 (i:=1) pZ rfl (by first|exact .inl rfl|exact .inr rfl) sV) (pU (rC 2 (i:=1) pZ rfl (by first|exact .inl rfl|exact .inr rfl) sV) (pU (rC 4 (i:=1) pZ rfl (by first|exact .inl rfl|exact .inr rfl) sV) (YR (SW.mk (bO (iO sV (BK sV (pR rfl T.z_len (aZ sV))))))))))))))
theorem z1j:Ab zy ["_law_script"] (aI rL):=cC
theorem z1k(T:Tx K mg G A)(hT:∀μ n H k t a,True->G.clo μ n H k t a)(hq:((("law":Str)++".<locals>.")++"<lambda>")=G.lq)(Z:Tz base mg G.tabs A):Af P w K mg base (aS P w base) 18 A.f_qC A.fd_qC ["_law_script"] (bA G (yI G.scr)):=XD (k:=17) (N:=zy) (mb:=yH G.scr) T.d_law.F z1j T.hK λcdv Ar outer s H E₀ E hcd g=>(bG (iD (i:=1) uG (WN g T.dmk (z18 T) (by decide) rfl T.dcm T.d_Desk_init.B)) (bG (eN (mM g (BK (iO (mP (K4 (gW 0) IT (wR dG)) (oG 2)) dG) dG) dG) (bG (jN (pP g T.cl T.me_Desk_say (uI T) (by decide) T.d_Desk_say.B (gW 1) (aZ dQ))) (aX (jN (pP g T.cl T.me_Desk_say (uI T) (by decide) T.d_Desk_say.B (gW 1) (aZ dQ))))) eM) (bG (iD (i:=2) uG (oG 2)) (bG (XY (i:=3) uG rfl g.calm (eF (N:=["_law_word","_law_desk"]) (cap:=[none,some 1]) (os:=(aI rL)) (oN:=zy)) (hJ (gW 2)) (λ_ _ _=>(bI (i:=0) L7)) (λ_ _ _=>fI) (λ_ _ _=>(pP (dJ g) T.cl T.me_Desk_say (uI T) (by decide) T.d_Desk_say.B (gW 1) (aZ (gW 0))))) (bG (tB g.own g.calm (hJ (mP (K4 (gW 0) (wR dG) (wR dG)) (oG 2))) (bI (i:=4) uG) (bG (iD (i:=5) uG (bT g (z1i T) T.d__law_bad (aZ (BK (gW 4) dG)))) (bG (eN (rA g (c6 (Nl:=["_law_line","_law_desk"]) (caps:=[5,1]) (me:=rK) (os:=aI rL) (oN:=zy) g (j:=14+2) (by decide) (λ_=>rfl) (λbase kb=>z1g (k:=14) T ⟨rfl,rfl,rfl,by decide+kernel,by decide+kernel,by decide+kernel⟩ (λ_ _ _ _=>rfl) (λ_ _ _ _ _ _ _ _ _ g=>(pP g T.cl T.me_Desk_say (uI T) (by decide) T.d_Desk_say.B (gW 1) (aZ (gW 0))))) rfl T.d__law_refused.m T.d__law_refused.F.kp T.d__law_refused.B rfl hq (Z.P_law.trans (congrArg some hq)) (hcd.symm.trans T.code_law) Z.C_law Z.B ⟨rfl,rfl,rfl,by decide+kernel,by decide+kernel,by decide+kernel⟩ rfl rfl (by decide+kernel) rfl (by decide+kernel)) (oG 2)) (aX (bO lI)) eM) (aX (eN (rA g (iU (fO g.calm (eF (N:=["_law_word","_law_desk"]) (cap:=[none,some 1]) (os:=(aI rL)) (oN:=zy)) (hJ (gW 2)) (λ_ _ _=>(bI (i:=0) L7)) (λ_ _ _=>fI) (λ_ _ _=>(pP (dJ g) T.cl T.me_Desk_say (uI T) (by decide) T.d_Desk_say.B (gW 1) (aZ (gW 0)))))) (gW 3)) (aX (bO lI)) eM))))) (aX (bO lI)))))))
theorem z1l(T:Tx K mg G A)(hT:∀μ n H k t a,True->G.clo μ n H k t a)(Z:Tz base mg G.tabs A):Af P w K mg base (aS P w base) 18 A.f_qC A.fd_qC ["_law_script"] (bA G (yI G.scr)):=Af.imp (z1k (G:=G.at ((("law":Str)++".<locals>.")++"<lambda>")) T.at hT rfl Z) λ_ _ _ _ h=>WJ h
end
end L2.Mr.K93
namespace L2.Mr
theorem uJ{α:Type}{src:Src}{sg:cH}{t:M Bool}{m:MC}(xs:List α)(out:α->zw)(S:Ev->Hs->Prop)(fin:∀ρ h,S ρ h->src.fin h=true)(step:∀k(hk:k<xs.length)ρ h,S ρ h->∃d ρ1,src.get k h=some d/\sg d ρ=some ρ1/\
   ((∃h2,t ρ1 h=.ok false h2/\out xs[k]=[]/\S ρ1 h2)∨∃h2,t ρ1 h=.ok true h2/\∀acc:zw,acc.length+(out xs[k]).length<=900000->∃ρ3 h3,m ρ1 h2 acc=.ok (ρ3,acc++out xs[k]) h3/\S ρ3 h3)):
  ∀(f k:Nat)(ρ:Ev)(h:Hs)(acc:zw),f+k=xs.length->S ρ h->acc.length+((xs.drop k).flatMap out).length<=900000->∃ρ' h',iK src sg t m f k ρ h acc=.ok (ρ',acc++(xs.drop k).flatMap out) h'/\S ρ' h'
 |0,k,ρ,h,acc,e,s,hl=>by have:xs.drop k=[]:=yo (by lia);exact⟨ρ,h,by simp[iK,fin ρ h s,this],s⟩
 |f+1,k,ρ,h,acc,e,s,hl=>by
  have hk:k<xs.length:=by lia
  obtain⟨d,ρ1,e1,e2,e3⟩:=step k hk ρ h s;rw[xj hk,iw]at hl⊢;rw[dw]at hl
  rcases e3 with⟨h2,e3,e4,s2⟩|⟨h2,e3,e4⟩
  ·obtain⟨ρ',h',e5,s5⟩:=uJ xs out S fin step f (k+1) ρ1 h2 acc (by lia) s2 (by lia);exact⟨ρ',h',by simp[iK,e1,e2,e3,e4,e5],s5⟩
  ·obtain⟨ρ3,h3,e6,s3⟩:=e4 acc (by lia);obtain⟨ρ',h',e5,s5⟩:=uJ xs out S fin step f (k+1) ρ3 h3 (acc++out xs[k]) (by lia) s3 (by rw[dw];lia);exact⟨ρ',h',by simp[iK,e1,e2,e3,e6,e5],s5⟩
theorem uK{α:Type}{mi:M Src}{cap:List (Option Nat)}{src:Src}{sg:cH}{t:M Bool}{m:MC}{ρ:Ev}{H H1:Hs}(xs:List α)(out:α->zw)(S:Ev->Hs->Prop)(hi:mi ρ H=.ok src H1)(hn:src.n=xs.length)(s0:S (jP cap ρ) H1)(fin:∀ρ h,S ρ h->src.fin h=true)(step:∀k(hk:k<xs.length)ρ h,S ρ h->∃d ρ1,src.get k h=some d/\sg d ρ=some ρ1/\
   ((∃h2,t ρ1 h=.ok false h2/\out xs[k]=[]/\S ρ1 h2)∨∃h2,t ρ1 h=.ok true h2/\∀acc:zw,acc.length+(out xs[k]).length<=900000->∃ρ3 h3,m ρ1 h2 acc=.ok (ρ3,acc++out xs[k]) h3/\S ρ3 h3))(hl:(xs.flatMap out).length<=900000):∃ρ' H',bJ mi cap sg t m ρ H=.ok (xs.flatMap out) H'/\S ρ' H':=by
 obtain⟨ρ',h',e,s⟩:=uJ xs out S fin step xs.length 0 (jP cap ρ) H1 [] (by lia) s0 (by simpa using hl);refine⟨ρ',h',?_,s⟩;unfold bJ;rw[hi,Rs.bind_ok,hn,e];simp
theorem uL{e:M Dv}{ρ:Ev}{h h1:Hs}{d:Dv}{acc:zw}(he:e ρ h=.ok d h1)(hl:acc.length+[d].length<=900000):bD e ρ h acc=.ok (ρ,acc++[d]) h1:=by
 have:acc.length<1000000:=by simp at hl;lia
 simp[bD,he,this]
theorem jF{α:Type}{mi:M Src}{cap:List (Option Nat)}{src:Src}{sg:cH}{t:M Bool}{e:M Dv}{ρ:Ev}{H H1:Hs}(xs:List α)(g:α->zx)(S:Ev->Prop)(hi:mi ρ H=.ok src H1)(hn:src.n=xs.length)(s0:S (jP cap ρ))(fin:src.fin H1=true)(step:∀k(hk:k<xs.length)ρ,S ρ->∃d ρ1,src.get k H1=some d/\sg d ρ=some ρ1/\S ρ1/\match g xs[k]with
   |none=>t ρ1 H1=.ok false H1
   |some v=>t ρ1 H1=.ok true H1/\e ρ1 H1=.ok v H1)(hl:xs.length<=900000):bJ mi cap sg t (bD e) ρ H=.ok (xs.filterMap g) H1:=by
 have fm:∀l:List α,l.flatMap (λx=>(g x).toList)=l.filterMap g:=λl=>by
  induction l with
  |nil=>rfl
  |cons x l ih=>rw[iw,ih,iz];cases g x<;>rfl
 have len:(xs.filterMap g).length<=xs.length:=xw g xs;obtain⟨ρ',H',h,_,rfl⟩:=uK (mi:=mi) (cap:=cap) (src:=src) (sg:=sg) (t:=t) (m:=bD e) (ρ:=ρ) (H:=H) (H1:=H1) xs (λx=>(g x).toList) (λρ h=>S ρ/\h=H1) hi hn ⟨s0,rfl⟩ (λρ h s=>by rw[s.2];exact fin)
  (λk hk ρ h⟨s,e1⟩=>by
   subst e1;obtain⟨d,ρ1,e1,e2,s1,e3⟩:=step k hk ρ s;refine⟨d,ρ1,e1,e2,?_⟩
   cases q:g xs[k]with
   |none=>rw[q]at e3;exact .inl ⟨h,e3,rfl,s1,rfl⟩
   |some v=>rw[q]at e3;exact .inr ⟨h,e3.1,λacc hl=>⟨ρ1,h,uL e3.2 hl,s1,rfl⟩⟩) (by rw[fm];lia)
 rw[h,fm]
theorem MJ{α β:Type}{mi mj:M Src}{cap:List (Option Nat)}{src:Src}{sg sg2:cH}{t2:M Bool}{e:M Dv}{ρ:Ev}{H H1:Hs}(xs:List α)(ys:α->List β)(g:α->β->zx)(S:Ev->Prop)(hi:mi ρ H=.ok src H1)(hn:src.n=xs.length)(s0:S (jP cap ρ))(fin:src.fin H1=true)(step:∀k(hk:k<xs.length)ρ,S ρ->∃(d:Dv)(ρ1:Ev)(src2:Src)(S2:Ev->Prop),src.get k H1=some d/\sg d ρ=some ρ1/\S2 ρ1/\(∀ρ,S2 ρ->S ρ)/\mj ρ1 H1=.ok src2 H1/\src2.n=(ys xs[k]).length/\src2.fin H1=true/\
   ∀j(hj:j<(ys xs[k]).length)ρ,S2 ρ->∃d ρ2,src2.get j H1=some d/\sg2 d ρ=some ρ2/\S2 ρ2/\match g xs[k] (ys xs[k])[j]with
    |none=>t2 ρ2 H1=.ok false H1
    |some v=>t2 ρ2 H1=.ok true H1/\e ρ2 H1=.ok v H1)(hl:(xs.flatMap λx=>(ys x).filterMap (g x)).length<=900000):bJ mi cap sg bN (gE mj sg2 t2 (bD e)) ρ H=.ok (xs.flatMap λx=>(ys x).filterMap (g x)) H1:=by
 have fm:∀(x:α)(l:List β),l.flatMap (λy=>(g x y).toList)=l.filterMap (g x):=λx l=>by
  induction l with
  |nil=>rfl
  |cons y l ih=>rw[iw,ih,iz];cases g x y<;>rfl
 obtain⟨ρ',H',h,_,rfl⟩:=uK (mi:=mi) (cap:=cap) (src:=src) (sg:=sg) (t:=bN) (m:=gE mj sg2 t2 (bD e)) (ρ:=ρ) (H:=H) (H1:=H1) xs (λx=>(ys x).filterMap (g x)) (λρ h=>S ρ/\h=H1) hi hn ⟨s0,rfl⟩ (λρ h s=>by rw[s.2];exact fin)
  (λk hk ρ h⟨s,e1⟩=>by
   subst e1;obtain⟨d,ρ1,src2,S2,e1,e2,s1,sS,e3,e4,e5,e6⟩:=step k hk ρ s;refine⟨d,ρ1,e1,e2,.inr ⟨h,rfl,λacc hl=>?_⟩⟩;obtain⟨ρ3,h3,r,s3,rfl⟩:=uJ (src:=src2) (sg:=sg2) (t:=t2) (m:=bD e) (ys xs[k]) (λy=>(g xs[k] y).toList) (λρ hh=>S2 ρ/\hh=h) (λρ hh s=>by rw[s.2];exact e5)
    (λj hj ρ hh⟨s,e1⟩=>by
     subst e1;obtain⟨d,ρ2,z1,z2,z3,z4⟩:=e6 j hj ρ s;refine⟨d,ρ2,z1,z2,?_⟩
     cases q:g xs[k] (ys xs[k])[j]with
     |none=>rw[q]at z4;exact .inl ⟨hh,z4,rfl,z3,rfl⟩
     |some v=>rw[q]at z4;exact .inr ⟨hh,z4.1,λacc hl=>⟨ρ2,hh,uL z4.2 hl,z3,rfl⟩⟩) (ys xs[k]).length 0 ρ1 h acc (by lia) ⟨s1,rfl⟩ (by rw[qd,fm];exact hl)
   refine⟨ρ3,h3,?_,sS ρ3 s3,rfl⟩;unfold gE;rw[e3];dsimp only;rw[e4,r,qd,fm]) hl
 exact h
theorem zC:∀bs:List Bool,aW nS (bs.map Ep)=some bs
 |[]=>rfl
 |b::bs=>by rw[fw,aW,zC bs];rfl
end L2.Mr
namespace L2.Mr.Com
def aJ(n:Nat)(ps:wo):Dv:=.tup [.int n,.tup (ps.map aQ)]
theorem z1m{n:Nat}{ps:wo}(H:Hs):cB (aJ n ps) (.int 1) H=.ok (.tup (ps.map aQ)) H:=rfl
theorem EF{α:Type}{ml:M zw}{ρ:Ev}{H H1:Hs}{xs:List α}{f:α->Bool}(h:ml ρ H=.ok (xs.filterMap λx=>some (.bl (f x))) H1):mL jQ ml ρ H=.ok (.bl (xs.all f)) H1:=by
 have e:(xs.filterMap λx=>some (Ep (f x)))=(xs.map f).map Ep:=by simp
 unfold mL;rw[h,Rs.bind_ok,e];unfold jQ;rw[zC];simp[List.all_map]
theorem z1n{α:Type}{ml:M zw}{ρ:Ev}{H H1:Hs}{xs:List α}{f:α->Bool}(h:ml ρ H=.ok (xs.filterMap λx=>some (.bl (f x))) H1):mL qT ml ρ H=.ok (.bl (xs.any f)) H1:=by
 have e:(xs.filterMap λx=>some (Ep (f x)))=(xs.map f).map Ep:=by simp
 unfold mL;rw[h,Rs.bind_ok,e];unfold qT;rw[zC];simp[ux]
section
variable{H:Hs}{n x:Int}{ps:wo}
theorem MK:xW [.int x] H=.ok (.bl true) H:=by simp[xW,K6,aT,dF,aL,eV,m1,aA,bR,mH,wX,wY,sU,cL]
theorem ML{lo hi:Int}:pW [.int x,.int lo,.int hi] H=.ok (.bl (decide (lo<=x)&&decide (x<=hi))) H:=by
 by_cases h:lo<=x
 ·simp[pW,CY,aT,dF,aL,eV,aE,aN,aA,bV,MK,jL,iN,pE,h,cL]
 ·simp[pW,CY,aT,dF,aL,eV,aE,aN,aA,bV,MK,jL,iN,pE,h,cL]
def eC(n x:Int):Bool:=decide (0<=x)&&decide (x<=n-1)
theorem z1o:rG [.int n,.int x] H=.ok (.bl (eC n x)) H:=by simp[rG,K8,aT,dF,aL,aE,aN,aA,bV,mC,m2,mK,pE,ML,cL,eC]
theorem z1p{xs:zr}(hl:xs.length<=1000):rH [.int n,.tup (xs.map Dz)] H=.ok (.bl (xs.all (eC n))) H:=by have h:bJ (aY eW (aA 1)) [none,some 0] (aC 0) bN (bD (aE rG (bB (aA 1) (aA 0)))) [some (.int n),some (.tup (xs.map Dz))] H=.ok (xs.filterMap λx=>some (.bl (eC n x))) H:=jF xs (λx=>some (.bl (eC n x))) (λρ=>∃a,ρ=[a,some (.int n)]) rfl (by simp[eB]) ⟨_,rfl⟩ rfl (λk hk ρ⟨a,e⟩=>by subst e;exact⟨.int xs[k],_,by simp[eB,hk],rfl,⟨_,rfl⟩,rfl,by simp[aE,aN,aA,bV,z1o]⟩) (by lia);simp[rH,K9,aT,dF,aL,eV,m1,bR,aA,mH,pQ,EF h,cL]
def lR(n:Int)(p:Int×Int):Bool:=eC n p.1&&eC n p.2
theorem z1q(p:Int×Int):pX [.int n,aQ p] H=.ok (.bl (lR n p)) H:=by
 have h:rH [.int n,aQ p] H=.ok (.bl (lR n p)) H:=by have:=z1p (H:=H) (n:=n) (xs:=[p.1,p.2]) (by simp);simpa[aQ,lR]using this
 have hlen:f1 eQ [aQ p] H=.ok (.int 2) H:=rfl
 cases q:lR n p with
 |false=>simp[pX,CZ,aT,dF,aL,eV,aE,aN,aA,bV,h,q,cL]
 |true=>simp[pX,CZ,aT,dF,aL,eV,aE,aN,aA,bV,h,q,cL,m2,hlen,mC,cO,cY,cU,bH]
theorem z1r(hl:ps.length<=1000):xY [.int n,.tup (ps.map aQ)] H=.ok (.bl (ps.all (lR n))) H:=by have h:bJ (aY eW (aA 1)) [none,some 0] (aC 0) bN (bD (aE pX (bB (aA 1) (aA 0)))) [some (.int n),some (.tup (ps.map aQ))] H=.ok (ps.filterMap λp=>some (.bl (lR n p))) H:=jF ps (λp=>some (.bl (lR n p))) (λρ=>∃a,ρ=[a,some (.int n)]) rfl (by simp[eB]) ⟨_,rfl⟩ rfl (λk hk ρ⟨a,e⟩=>by subst e;exact⟨aQ ps[k],_,by simp[eB,hk],rfl,⟨_,rfl⟩,rfl,by simp[aE,aN,aA,bV,z1q]⟩) (by lia);simp[xY,LA,aT,dF,aL,EF h,cL]
theorem z1s(hl:ps.length<=1000):xZ [.tup (ps.map aQ)] H=.ok (.bl (ps.any λp=>decide (p.1=p.2))) H:=by have h:bJ (aY eW (aA 0)) [none,none] (cQ 2 (aV (aC 0) (aV (aC 1) cP))) bN (bD (m2 cO (aA 0) (aA 1))) [some (.tup (ps.map aQ))] H=.ok (ps.filterMap λp=>some (.bl (decide (p.1=p.2)))) H:=jF ps (λp=>some (.bl (decide (p.1=p.2)))) (λρ=>∃a b,ρ=[a,b]) rfl (by simp[eB]) ⟨_,_,rfl⟩ rfl (λk hk ρ⟨a,b,e⟩=>by subst e;refine⟨aQ ps[k],[some (.int ps[k].1),some (.int ps[k].2)],by simp[eB,hk],rfl,⟨_,_,rfl⟩,rfl,?_⟩;simp[m2,aA,cO,cY,cU,bH];rw[ig];simp) (by lia);simp[xZ,LB,aT,dF,aL,z1n h,cL]
theorem z1t(p q:Int×Int):oE (aQ p) (aQ q) H=.ok (.bl (kP p q)) H:=by simp only[oE,aQ,aW,eX,J4];rw[<-xC];rfl
def lS(ps:wo):Bool:=(ps.zip (ps.drop 1)).all λq=>kP q.1 q.2
theorem Cq:∀{ps:wo},lS ps=true↔oB kP ps
 |[]=>by simp[lS,oB]
 |[p]=>by simp[lS,oB]
 |p::q::r=>by
  have ih:=Cq (ps:=q::r);have e:lS (p::q::r)=(kP p q&&lS (q::r)):=by simp[lS]
  rw[e,dh,ih];constructor
  ·rintro ⟨h1,h2⟩
   refine je.mpr ⟨λz hz=>?_,h2⟩
   rcases bh.mp hz with rfl|hz
   ·exact h1
   ·exact stoP.tr _ _ _ h1 ((je.mp h2).1 z hz)
  ·intro h;have:=je.mp h;exact⟨this.1 q (by simp),this.2⟩
theorem z1u(ds:zw):gM ds (some 1) none=ds.drop 1:=by
 unfold gM;rw[show HT.sIx ds.length 0 (some 1)=min 1 ds.length from HT.sIx_nat ds.length 0 1,HT.sIx_none]
 cases ds with
 |nil=>rfl
 |cons a r=>simp
theorem z1v(hl:ps.length<=1000):xX [.tup (ps.map aQ)] H=.ok (.bl (lS ps)) H:=by
 have hi:aU qW (bB (aA 0) (tR (aA 0) (gN (aK 1)) nW)) [some (.tup (ps.map aQ))] H=.ok (qV (ps.map aQ) ((ps.drop 1).map aQ)) H:=by simp[aU,aN,aA,tR,gN,mC,IS,nW,xE,bV,qW,z1u,List.map_drop]
 have hz:((ps.map aQ).zip ((ps.drop 1).map aQ)).map (λq=>Ew [q.1,q.2])=(ps.zip (ps.drop 1)).map λq=>Ew [aQ q.1,aQ q.2]:=by rw[List.zip_map,lj];rfl
 have h:bJ (aU qW (bB (aA 0) (tR (aA 0) (gN (aK 1)) nW))) [none,none] (cQ 2 (aV (aC 0) (aV (aC 1) cP))) bN (bD (m2 oE (aA 0) (aA 1))) [some (.tup (ps.map aQ))] H=.ok ((ps.zip (ps.drop 1)).filterMap λq=>some (.bl (kP q.1 q.2))) H:=
  jF (ps.zip (ps.drop 1)) (λq=>some (.bl (kP q.1 q.2))) (λρ=>∃a b,ρ=[a,b]) hi (by simp[qV,eB]) ⟨_,_,rfl⟩ rfl (λk hk ρ⟨a,b,e⟩=>by
   subst e;refine⟨.tup [aQ (ps.zip (ps.drop 1))[k].1,aQ (ps.zip (ps.drop 1))[k].2],[some (aQ (ps.zip (ps.drop 1))[k].1),some (aQ (ps.zip (ps.drop 1))[k].2)],?_,rfl,⟨_,_,rfl⟩,rfl,?_⟩
   ·show(((ps.map aQ).zip ((ps.drop 1).map aQ)).map (λq=>Ew [q.1,q.2]))[k]?=_;rw[hz,fx,cn hk];rfl
   ·simp only[m2,aA];exact z1t _ _) (by rw[List.length_zip];lia)
 simp[xX,K7,aT,dF,aL,EF h,cL,lS]
noncomputable def uM(ps:wo):Bool:=ps.all λp=>ps.all λq=>!decide (p.2=q.1)||decide ((p.1,q.2)∈ps)
theorem z1w(hl:ps.length<=900):yA [.tup (ps.map aQ)] H=.ok (.bl (uM ps)) H:=by
 let g:Int×Int->Int×Int->zx:=λp q=>if p.2=q.1 then some (.bl (decide ((p.1,q.2)∈ps)))else none
 have h:bJ (aY eW (aA 0)) [none,none,none,none,some 0] (cQ 2 (aV (aC 0) (aV (aC 1) cP))) bN (gE (aY eW (aA 4)) (cQ 2 (aV (aC 2) (aV (aC 3) cP))) (mB (m2 cO (aA 1) (aA 2))) (bD (m2 (dM false) (bS (bB (aA 0) (aA 3))) (aA 4)))) [some (.tup (ps.map aQ))] H=.ok (ps.flatMap λp=>ps.filterMap (g p)) H:=
  MJ ps (λ_=>ps) g (λρ=>∃a b c d,ρ=[a,b,c,d,some (.tup (ps.map aQ))]) rfl (by simp[eB]) ⟨_,_,_,_,rfl⟩ rfl (λk hk ρ⟨a,b,c,d,e⟩=>by
   subst e;refine⟨aQ ps[k],[some (.int ps[k].1),some (.int ps[k].2),c,d,some (.tup (ps.map aQ))],eB (ps.map aQ),λρ=>∃c d,ρ=[some (.int ps[k].1),some (.int ps[k].2),c,d,some (.tup (ps.map aQ))],by simp[eB,hk],rfl,⟨_,_,rfl⟩,λρ⟨c,d,e⟩=>⟨_,_,_,_,e⟩,rfl,by simp[eB],rfl,λj hj ρ⟨c,d,e⟩=>?_⟩;subst e;refine⟨aQ ps[j],[some (.int ps[k].1),some (.int ps[k].2),some (.int ps[j].1),some (.int ps[j].2),some (.tup (ps.map aQ))],by simp[eB,hj],rfl,⟨_,_,rfl⟩,?_⟩;have te:mB (m2 cO (aA 1) (aA 2)) [some (.int ps[k].1),some (.int ps[k].2),some (.int ps[j].1),some (.int ps[j].2),some (.tup (ps.map aQ))] H=.ok (decide (ps[k].2=ps[j].1)) H:=by simp[mB,m2,aA,cO,cY,cU,bH,nI];rw[ig];simp
   by_cases c1:ps[k].2=ps[j].1
   ·rw[decide_eq_true c1]at te;have hg:g ps[k] ps[j]=some (.bl (decide ((ps[k].1,ps[j].2)∈ps))):=if_pos c1;rw[hg];refine⟨te,?_⟩;have hx:bS (bB (aA 0) (aA 3)) [some (.int ps[k].1),some (.int ps[k].2),some (.int ps[j].1),some (.int ps[j].2),some (.tup (ps.map aQ))] H=.ok (aQ (ps[k].1,ps[j].2)) H:=rfl;unfold m2;rw[hx,Rs.bind_ok];show(En (Ew (ps.map aQ)) H).bind _=_;rw[Rs.bind_ok,BW];rfl
   ·rw[decide_eq_false c1]at te;have hg:g ps[k] ps[j]=none:=if_neg c1;rw[hg];exact te) (by
   have:∀l:wo,(l.flatMap λp=>ps.filterMap (g p)).length<=l.length*ps.length:=λl=>by
    induction l with
    |nil=>simp
    |cons p l ih=>
     rw[iw,dw,br,Nat.succ_mul];have:=xw (g p) ps
     lia
   have h2:=this ps;have h3:ps.length*ps.length<=900*900:=xk hl hl
   lia)
 have hb:(ps.flatMap λp=>ps.filterMap (g p))=(ps.flatMap λp=>ps.filterMap λq=>if p.2=q.1 then some (decide ((p.1,q.2)∈ps))else none).map Ep:=by
  rw[List.map_flatMap]
  congr 1
  funext p
  rw[List.map_filterMap]
  congr 1
  funext q
  show(if p.2=q.1 then some (Ep (decide ((p.1,q.2)∈ps)))else none)=_
  split<;>rfl
 have hall:mL jQ (bJ (aY eW (aA 0)) [none,none,none,none,some 0] (cQ 2 (aV (aC 0) (aV (aC 1) cP))) bN (gE (aY eW (aA 4)) (cQ 2 (aV (aC 2) (aV (aC 3) cP))) (mB (m2 cO (aA 1) (aA 2))) (bD (m2 (dM false) (bS (bB (aA 0) (aA 3))) (aA 4))))) [some (.tup (ps.map aQ))] H=.ok (.bl (uM ps)) H:=by
  unfold mL;rw[h,Rs.bind_ok,hb];unfold jQ;rw[zC];dsimp only
  congr 2
  rw[ig];unfold uM;simp only[fv,nt,ko,id];constructor
  ·intro h p hp q hq
   by_cases c:p.2=q.1
   ·have:=h (decide ((p.1,q.2)∈ps)) ⟨p,hp,q,hq,if_pos c⟩;simp[c,this]
   ·simp[c]
  ·rintro h b ⟨p,hp,q,hq,e⟩
   have:=h p hp q hq
   by_cases c:p.2=q.1
   ·rw[if_pos c]at e;cases e;simpa[c]using this
   ·rw[if_neg c]at e;cases e
 simp[yA,LC,aT,dF,aL,hall,cL]
def zD(n:Int)(ps:wo):Bool:=decide (1<=n)&&decide (n<=6)&&ps.all (lR n)&&lS ps&&!(ps.any λp=>decide (p.1=p.2))&&uM ps
theorem z1x{n:Int}(hl:ps.length<=900):mV [.tup [.int n,.tup (ps.map aQ)]] H=.ok (.bl (zD n ps)) H:=by
 have b:=ML (H:=H) (x:=n) (lo:=1) (hi:=6);have p1:=z1r (H:=H) (n:=n) (ps:=ps) (by lia);have p2:=z1v (H:=H) (ps:=ps) (by lia);have p3:=z1s (H:=H) (ps:=ps) (by lia);have p4:=z1w (H:=H) (ps:=ps) hl;have hlen:f1 eQ [.tup [.int n,.tup (ps.map aQ)]] H=.ok (.int 2) H:=rfl;unfold zD;generalize (decide (1<=n)&&decide (n<=6))=c0 at b⊢;generalize ps.all (lR n)=c1 at p1⊢;generalize lS ps=c2 at p2⊢;generalize (ps.any λp=>decide (p.1=p.2))=c3 at p3⊢;generalize uM ps=c4 at p4⊢
 cases c0<;>cases c1<;>cases c2<;>cases c3<;>cases c4<;>
  simp[mV,LD,aT,dF,aG,cA,lJ,dI,bZ,m1,bR,aA,mH,pQ,nK,mB,m2,aE,aN,bV,hlen,mC,dU,cY,cU,bH,nI,cK,aR,cQ,aV,aC,cP,b,p1,p2,p3,p4,aL,eV,sU,cL]
end
structure Al(n:Nat)(ps:wo):Prop where
 n1:1<=n
 n6:n<=6
 rng:∀p∈ps,0<=p.1/\p.1<n/\0<=p.2/\p.2<n
 rise:oB kP ps
 irr:∀p∈ps,p.1≠p.2
 tr:∀p∈ps,∀q∈ps,p.2=q.1->(p.1,q.2)∈ps
section
variable{n:Nat}{ps:wo}{H:Hs}
noncomputable def EG(n:Nat):wo:=(cf n).flatMap λa:Nat=>(cf n).map λb:Nat=>((a:Int),(b:Int))
theorem z1y(n:Nat):(EG n).length=n*n:=by
 unfold EG;have:∀l:zt,(l.flatMap λa:Nat=>(cf n).map λb:Nat=>((a:Int),(b:Int))).length=l.length*n:=λl=>by
  induction l with
  |nil=>simp
  |cons a l ih=>rw[iw,dw,ih,br,Nat.succ_mul];simp;lia
 rw[this];simp
theorem z1z{p:Int×Int}(h:0<=p.1/\p.1<n/\0<=p.2/\p.2<n):p∈EG n:=by obtain⟨a,b⟩:=p;simp only at h;refine nt.mpr ⟨a.toNat,du.mpr (by lia),gu.mpr ⟨b.toNat,du.mpr (by lia),?_⟩⟩;simp;lia
theorem z20(hr:oB kP ps)(hp:∀p∈ps,0<=p.1/\p.1<n/\0<=p.2/\p.2<n):ps.length<=n*n:=by rw[<-z1y n];exact(X3 stoP hr).length_le_of_subset λp h=>z1z (hp p h)
theorem Al.len(o:Al n ps):ps.length<=36:=by
 have h1:=z20 o.rise o.rng;have h2:n*n<=6*6:=xk o.n6 o.n6
 lia
theorem Al.b(o:Al n ps):zD n ps=true:=by
 have h1:=o.n1;have h6:=o.n6;unfold zD;simp only[dh,decide_eq_true_eq,qu];refine⟨⟨⟨⟨⟨by lia,by lia⟩,?_⟩,Cq.mpr o.rise⟩,?_⟩,?_⟩
 ·refine fv.mpr λp hp=>?_;have:=o.rng p hp;simp[lR,eC];lia
 ·refine List.any_eq_false.mpr λp hp=>?_;simpa using o.irr p hp
 ·refine fv.mpr λp hp=>fv.mpr λq hq=>?_
  by_cases c:p.2=q.1
  ·simp[c,o.tr p hp q hq c]
  ·simp[c]
theorem z21(o:Al n ps):mV [aJ n ps] H=.ok (.bl true) H:=by have:=z1x (H:=H) (n:=(n:Int)) (ps:=ps) (by have:=o.len;lia);rw[o.b]at this;exact this
end
end L2.Mr.Com
namespace L2.Mr.Cod
open L2.Mr.Com
def mb_ql:MS:=(cA (dI (bZ (aE mV (aD (aA 0))))) (gL 0 (aD (mC (.str "this is no order")))) cK)
def cX:zv:=aT 1 1 (mb_ql)
def fW:MS:=(aG (aR (m2 cB (aA 0) (aK 1)) (aC 3)) (aL (eV (m2 dU (aA 1) (aA 2)) (eV (m2 (dM true) (bS (bB (aA 1) (aA 2))) (aA 3)) (m2 (dM true) (bS (bB (aA 2) (aA 1))) (aA 3))))))
def fF:zv:=aT 3 4 (fW)
open L2.Mr.Com
end L2.Mr.Cod
namespace L2.Mr.K01
open L2.Mr.Com
end L2.Mr.K01
namespace L2.Mr.Com
theorem MM{ρ:Ev}{H H1 H2:Hs}{st i j:Nat}{ml:M Dv}(hv:aA st ρ H=.ok (.ref i) H)(e1:ml ρ H=.ok (.ref j) H1)(e2:bX (.ref i) (.ref j) H1=.ok (.ref H1.length) H2):m2 bX (aA st) ml ρ H=.ok (.ref H1.length) H2:=by unfold m2;rw[hv,Rs.bind_ok,e1,Rs.bind_ok,e2]
end L2.Mr.Com
namespace L2.Mr.Cod
open L2.Mr.Com
section
variable{H:Hs}
theorem eU{i j:Nat}{xs ys:zw}(e1:getL H i=some xs)(e2:getL H j=some ys)(hl:xs.length+ys.length<=500):bX (.ref i) (.ref j) H=.ok (.ref H.length) (H++[.lst (xs++ys)]):=by simp[bX,qM,e1,e2,lim];lia
theorem dN{i j:Nat}{ds:zw}(e:getL H i=some ds)(hj:j<ds.length):cB (.ref i) (.int j) H=.ok ds[j] H:=by
 have h1:oU ds.length (j:Int)=some j:=by unfold oU;rw[if_pos (by lia),if_pos (by lia)];simp
 have h2:kE ds (j:Int)=some ds[j]:=by unfold kE;rw[h1];simp[hj]
 simp only[cB,jT,qO,e,qN,h2,if_true]
theorem last_get{x:zw}:getL (H++[.lst x]) H.length=some x:=by simp[getL]
end
end L2.Mr.Cod
namespace L2.Mr
noncomputable def z22(x:Int)(P:Int->Prop):Prop:=P x/\∀y,P y->y<=x
theorem MN{f:Nat->Int}:∀k,(∃i,i<=k/\eY (λa b=>decide (a>b)) f k=f i)/\∀i,i<=k->f i<=eY (λa b=>decide (a>b)) f k
 |0=>⟨⟨0,aq _,rfl⟩,λi hi=>by
  have:i=0:=by lia
  subst this;exact vm _⟩
 |k+1=>by
  obtain⟨⟨i,hi,e⟩,h⟩:=MN (f:=f) k;have he:eY (λa b=>decide (a>b)) f (k+1)=if decide (f (k+1)>eY (λa b=>decide (a>b)) f k)then f (k+1)else eY (λa b=>decide (a>b)) f k:=rfl
  generalize eY (λa b=>decide (a>b)) f k=z at e h he;rw[he]
  by_cases c:f (k+1)>z
  ·rw[if_pos (decide_eq_true c)];refine⟨⟨k+1,aq _,rfl⟩,λj hj=>?_⟩
   by_cases q:j=k+1
   ·subst q;exact vm _
   ·have:=h j (by lia);lia
  ·rw[if_neg (by simpa using c)];refine⟨⟨i,by lia,e⟩,λj hj=>?_⟩
   by_cases q:j=k+1
   ·subst q;lia
   ·exact h j (by lia)
theorem MP{f:Nat->Int}:∀k,(∃i,i<=k/\eY (λa b=>decide (a<b)) f k=f i)/\∀i,i<=k->eY (λa b=>decide (a<b)) f k<=f i
 |0=>⟨⟨0,aq _,rfl⟩,λi hi=>by
  have:i=0:=by lia
  subst this;exact vm _⟩
 |k+1=>by
  obtain⟨⟨i,hi,e⟩,h⟩:=MP (f:=f) k;have he:eY (λa b=>decide (a<b)) f (k+1)=if decide (f (k+1)<eY (λa b=>decide (a<b)) f k)then f (k+1)else eY (λa b=>decide (a<b)) f k:=rfl
  generalize eY (λa b=>decide (a<b)) f k=z at e h he;rw[he]
  by_cases c:f (k+1)<z
  ·rw[if_pos (decide_eq_true c)];refine⟨⟨k+1,aq _,rfl⟩,λj hj=>?_⟩
   by_cases q:j=k+1
   ·subst q;exact vm _
   ·have:=h j (by lia);lia
  ·rw[if_neg (by simpa using c)];refine⟨⟨i,by lia,e⟩,λj hj=>?_⟩
   by_cases q:j=k+1
   ·subst q;lia
   ·exact h j (by lia)
theorem maxI_is{ns:zr}(h:ns≠[]):z22 (nY ns) (·∈ns):=by
 have hl:0<ns.length:=pj.mpr h;obtain⟨⟨i,hi,e⟩,hx⟩:=MN (f:=λi=>ns.getD i 0) (ns.length-1);refine⟨?_,λy hy=>?_⟩
 ·show nY ns∈ns;unfold nY;rw[e];have:i<ns.length:=by lia
  simp[this]
 ·obtain⟨k,hk,rfl⟩:=lh.mp hy;have:=hx k (by lia);have e2:ns.getD k 0=ns[k]:=by simp[hk]
  rw[e2]at this;exact this
theorem minI_is{ns:zr}(h:ns≠[]):fJ ns∈ns/\∀y∈ns,fJ ns<=y:=by
 have hl:0<ns.length:=pj.mpr h;obtain⟨⟨i,hi,e⟩,hx⟩:=MP (f:=λi=>ns.getD i 0) (ns.length-1);refine⟨?_,λy hy=>?_⟩
 ·unfold fJ;rw[e];have:i<ns.length:=by lia
  simp[this]
 ·obtain⟨k,hk,rfl⟩:=lh.mp hy;have:=hx k (by lia);have e2:ns.getD k 0=ns[k]:=by simp[hk]
  rw[e2]at this;exact this
end L2.Mr
namespace L2.Mr.Cod
open L2.Mr.Com
noncomputable def iE(ps:wo)(a:Nat):Nat->wo
 |0=>[]
 |k+1=>iE ps a k++if((a:Int),(a:Int)+1+(k:Int))∈ps∨((a:Int)+1+(k:Int),(a:Int))∈ps then[]else[((a:Int),(a:Int)+1+(k:Int))]
def fR(n:Nat)(ps:wo):Nat->wo
 |0=>[]
 |k+1=>fR n ps k++iE ps k (n-(k+1))
def loose(n:Nat)(ps:wo):wo:=fR n ps n
theorem looseB_len(ps:wo)(a:Nat):∀k,(iE ps a k).length<=k
 |0=>aq _
 |k+1=>by
  have:=looseB_len ps a k;unfold iE
  split<;>simp<;>lia
noncomputable def Lse(ps:wo)(a b:Int):Prop:=a≠b/\(a,b)∉ps/\(b,a)∉ps
instance (ps:wo) (a b:Int):Decidable (Lse ps a b):=by unfold Lse;infer_instance
theorem Bt{ps:wo}{a:Nat}{q:Int×Int}:∀{k:Nat},q∈iE ps a k↔∃j,j<k/\q=((a:Int),(a:Int)+1+(j:Int))/\q∉ps/\(q.2,q.1)∉ps
 |0=>by simp[iE]
 |k+1=>by
  unfold iE;rw[cz,Bt (k:=k)];constructor
  ·rintro (⟨j,hj,h⟩|h)
   ·exact⟨j,by lia,h⟩
   ·split at h
    ·simp at h
    ·rename_i c;rw[dy]at h;subst h;exact⟨k,by lia,rfl,λz=>c (.inl z),λz=>c (.inr z)⟩
  ·rintro ⟨j,hj,h,h1,h2⟩
   by_cases q:j=k
   ·subst q;right;subst h;rw[if_neg (λz=>z.elim h1 h2)];simp
   ·exact .inl ⟨j,by lia,h,h1,h2⟩
theorem MQ{n:Nat}{ps:wo}{q:Int×Int}:∀{k:Nat},q∈fR n ps k↔∃a,a<k/\q∈iE ps a (n-(a+1))
 |0=>by simp[fR]
 |k+1=>by
  unfold fR;rw[cz,MQ (k:=k)];constructor
  ·rintro (⟨a,ha,h⟩|h)
   ·exact⟨a,by lia,h⟩
   ·exact⟨k,by lia,h⟩
  ·rintro ⟨a,ha,h⟩
   by_cases q:a=k
   ·subst q;exact .inr h
   ·exact .inl ⟨a,by lia,h⟩
theorem mem_loose{n:Nat}{ps:wo}{q:Int×Int}:q∈loose n ps↔0<=q.1/\q.1<q.2/\q.2<n/\Lse ps q.1 q.2:=by
 unfold loose;rw[MQ];constructor
 ·rintro ⟨a,ha,h⟩
  obtain⟨j,hj,rfl,h1,h2⟩:=Bt.mp h;exact⟨by lia,by simp only;lia,by simp only;lia,by simp only[ne_eq];lia,h1,h2⟩
 ·rintro ⟨h0,h1,h2,_,h3,h4⟩
  refine⟨q.1.toNat,by lia,Bt.mpr ⟨(q.2-q.1-1).toNat,by lia,?_,h3,h4⟩⟩
  apply Prod.ext<;>simp only<;>lia
section
variable{n:Nat}{ps:wo}{r:Int}{H:Hs}
theorem loose_is{a b:Int}:fF [aJ n ps,.int a,.int b] H=.ok (.bl (decide (Lse ps a b))) H:=by
 have h1:=z1m (n:=n) (ps:=ps) H;have t1:=BW true H (a,b) ps;have t2:=BW true H (b,a) ps;simp only[aQ,if_true]at t1 t2;have hne:dU (.int a) (.int b) H=.ok (.bl (!(a==b))) H:=by simp[dU,cY,cU,bH]
 generalize aJ n ps=d at h1;simp only[Lse]
 by_cases c0:a=b
 ·subst c0;simp[fF,fW,aT,dF,aG,aR,m2,aA,mC,h1,aC,aL,eV,hne,cL]
 ·have c0':(a==b)=false:=by simpa using c0
  by_cases c1:(a,b)∈ps
  ·simp[fF,fW,aT,dF,aG,aR,m2,aA,mC,h1,aC,aL,eV,hne,c0',bS,aN,bV,lim,t1,c1,cL]
  ·simp[fF,fW,aT,dF,aG,aR,m2,aA,mC,h1,aC,aL,eV,hne,c0',c0,bS,aN,bV,lim,t1,c1,t2,cL]
end
section
variable{n:Nat}{ps:wo}{r:Int}{H:Hs}{i j:Nat}{fs:zr}{nd:List (Int×Int×Int)}{d:Dv}
theorem need_ok(o:Al n ps):cX [aJ n ps] H=.ok .non H:=by simp[cX,mb_ql,aT,dF,cA,dI,bZ,aE,aN,aA,bV,z21 o,nK,cK,cL]
end
end L2.Mr.Cod
namespace L2.Mr.Com
end L2.Mr.Com
namespace L2.Mr.Gen
open L2.Mr.Com
theorem z23(xs ys:zw)(hl:xs.length+ys.length<=1000){H:Hs}:bX (.tup xs) (.tup ys) H=.ok (.tup (xs++ys)) H:=by
 cases xs with
 |nil=>rfl
 |cons x xs=>
  have:(x::xs).length+ys.length<=1000000:=by lia
  have:xs.length+1+ys.length<=1000000:=by simp at this;lia
  simp[bX,qM,lim,this]
theorem z24(ds:zw)(k:Nat):gM ds none (some (k:Int))=ds.take k:=by unfold gM;rw[HT.sIx_none,HT.sIx_nat];simp
section
variable{H:Hs}{xs:zr}
theorem EH(ns:zr):aW eX (ns.map Dz)=some ns:=by
 induction ns with
 |nil=>rfl
 |cons x xs ih=>simp[aW,eX,ih]
theorem EI{m:M Dv}{ρ:Ev}{H:Hs}{L:Int}(e:m ρ H=.ok (.int L) H)(h0:0<=L)(h1:L<=1000):aU fN (aD m) ρ H=.ok (hG 0 L) H:=by
 have hr:kJ L=true:=by simp[kJ];lia
 simp[aU,aN,e,bV,fN,hr]
theorem EJ{α:Type}(p:α->Bool)(f:α->Dv)(l:List α):(l.filterMap λq=>if p q then some (f q)else none)=(l.filter p).map f:=by
 induction l with
 |nil=>rfl
 |cons k l ih=>
  rw[iz,ll]
  cases c:p k with
  |true=>simp only[if_true,fw];rw[ih]
  |false=>simp only[jd,if_false];exact ih
theorem z25(neg:Bool)(x:Int){i:Nat}(e:getL H i=some (xs.map Dz)):dM neg (.int x) (.ref i) H=.ok (.bl (if neg then !decide (x∈xs)else decide (x∈xs))) H:=by
 have e':(xs.map Ex).any (λt=>bH t (.int x))=decide (x∈xs):=by
  rw[ig];simp only[ux,nq,vk,decide_eq_true_eq];constructor
  ·rintro ⟨q,hq,h⟩
   have:q=x:=by simpa[bH]using h
   rw[<-this];exact hq
  ·intro h;exact⟨x,h,by simp[bH]⟩
 have h1:aW (cU cY H) (xs.map Dz)=some (xs.map Ex):=BV 29 H xs;have h2:cU cY H (.int x)=some (.int x):=rfl;show lM [] neg (.int x) (.ref i) H=_;simp only[lM,gX,e,h1,h2,e']
theorem rM{m:M Dv}{ρ ρ1:Ev}{i:Nat}{H H':Hs}{v:Dv}(e:m ρ H=.ok v H')(hs:aC i v ρ=some ρ1):aR m (aC i) ρ H=.nx ρ1 H':=by simp[aR,e,hs]
theorem MR{m:M zw}{ρ:Ev}{i:Nat}{H H':Hs}{ds:zw}{ρ1:Ev}(e:m ρ H=.ok ds H')(hs:aC i (.ref H'.length) ρ=some ρ1):aR (bE m) (aC i) ρ H=.nx ρ1 (H'++[.lst ds]):=by
 have ea:bE m ρ H=.ok (.ref H'.length) (H'++[.lst ds]):=by unfold bE;rw[e];rfl
 exact rM ea hs
theorem jG{f:Dv->Dv->Hs->Rs Dv}{ma mb:M Dv}{ρ:Ev}{H H1 H2 H3:Hs}{x y z:Dv}(ha:ma ρ H=.ok x H1)(hb:mb ρ H1=.ok y H2)(hf:f x y H2=.ok z H3):m2 f ma mb ρ H=.ok z H3:=by unfold m2;rw[ha,Rs.bind_ok,hb,Rs.bind_ok,hf]
end
end L2.Mr.Gen
namespace L2.Mr.K05
open L2.Mr.Com L2.Mr.Gen
theorem need_ok{n:Nat}{ps:wo}{H:Hs}(o:Al n ps):cX [aJ n ps] H=.ok .non H:=Cod.need_ok o
theorem loose_is{n:Nat}{ps:wo}{H:Hs}{a b:Int}:fF [aJ n ps,.int a,.int b] H=.ok (.bl (decide (Cod.Lse ps a b))) H:=Cod.loose_is
def ix(ns:zr)(k:Int):Nat:=(fP k ns).getD 0
theorem EK{k:Int}:∀{ns:zr},k∈ns->fP k ns=some (ix ns k)
 |[],h=>nomatch h
 |n::ns,h=>by
  unfold ix fP
  by_cases c:n=k
  ·rw[if_pos c];rfl
  ·rw[if_neg c];have hm:k∈ns:=(bh.mp h).elim (λz=>absurd z.symm c) id;rw[EK hm];rfl
theorem lT{k:Int}{ns:zr}(h:k∈ns):ix ns k<ns.length:=(av.mp (BQ (EK h)).1).1
theorem lU{ns ms:zr}{k:Int}(h:k∈ns):ix (ns++ms) k=ix ns k:=by
 have key:∀{ns:zr},k∈ns->fP k (ns++ms)=fP k ns:=by
  intro ns
  induction ns with
  |nil=>intro h;cases h
  |cons x xs ih=>
   intro h;show fP k (x::(xs++ms))=_;unfold fP
   by_cases c:x=k
   ·rw[if_pos c,if_pos c]
   ·rw[if_neg c,if_neg c,ih ((bh.mp h).elim (λz=>absurd z.symm c) id)]
 unfold ix;rw[key h]
theorem uN{ns:zr}{k:Int}(h:k∉ns):ix (ns++[k]) k=ns.length:=by
 have key:∀{ns:zr},k∉ns->fP k (ns++[k])=some ns.length:=by
  intro ns
  induction ns with
  |nil=>intro _;show fP k [k]=some 0;unfold fP;rw[if_pos rfl]
  |cons x xs ih=>intro h;show fP k (x::(xs++[k]))=_;unfold fP;rw[if_neg (λz=>h (by rw[z];exact bo ..)),ih (λz=>h (az _ z))];rfl
 unfold ix;rw[key h];rfl
section
variable{n:Nat}{ps:wo}{H:Hs}{ns:zr}{ρ:Ev}
theorem uO{a:Nat}{me:M Dv}{k:Int}(h1:aA a ρ=λH=>.ok (.tup (ns.map Dz)) H)(h2:me ρ H=.ok (.int k) H)(hk:k∈ns):kO (aA a) me ρ H=.ok (.int (ix ns k)) H:=by simp[kO,h1,JG,h2,BR,EH,EK hk]
theorem Bj{x:Int}:x∈eR n↔0<=x/\x<n:=by
 unfold eR;rw[gu];constructor
 ·rintro ⟨k,hk,rfl⟩
  have:=du.mp hk
  lia
 ·intro h;exact⟨x.toNat,du.mpr (by lia),by lia⟩
theorem rng_up:(eR n).Pairwise (·<·):=by unfold eR;exact List.pairwise_map.mpr ((List.pairwise_lt_range).imp λh=>by lia)
theorem rN:(eR n).Nodup:=rng_up.imp λh=>by lia
theorem oM(hr:∀x∈ns,0<=x/\x<n)(nd:ns.Nodup)(hl:ns.length=n){x:Int}(h0:0<=x)(h1:x<n):x∈ns:=by
 by_cases c:x∈ns
 ·exact c
 ·exfalso
  have nd':(x::ns).Nodup:=ow.mpr ⟨c,nd⟩;have:=nd'.length_le_of_subset (l₂:=eR n) λy hy=>by
   rcases bh.mp hy with rfl|hy
   ·exact Bj.mpr ⟨h0,h1⟩
   ·exact Bj.mpr (hr y hy)
  simp[eR]at this
  lia
end
open L2.Mr.Cod (loose fR iE mem_loose Lse)
section
variable{n:Nat}{ps:wo}{H:Hs}{ns:zr}
def lV(ps:wo)(a j:Nat):zx:=if decide (Lse ps a ((a:Int)+1+j))then some (aQ ((a:Int),(a:Int)+1+j))else none
theorem MT(a:Nat):∀k,(cf k).filterMap (lV ps a)=(iE ps a k).map aQ
 |0=>rfl
 |k+1=>by
  rw[List.range_succ,List.filterMap_append,MT a k,iE,td]
  congr 1
  show(List.filterMap (lV ps a) [k])=_;have ne:(a:Int)≠(a:Int)+1+k:=by lia
  by_cases c1:((a:Int),(a:Int)+1+(k:Int))∈ps
  ·simp[lV,Lse,c1]
  ·by_cases c2:((a:Int)+1+(k:Int),(a:Int))∈ps
   ·simp[lV,Lse,c1,c2]
   ·have:Lse ps a ((a:Int)+1+k):=⟨ne,c1,c2⟩
    simp[lV,this,c1,c2]
theorem MU:∀k,(cf k).flatMap (λa=>(cf (n-(a+1))).filterMap (lV ps a))=(fR n ps k).map aQ
 |0=>rfl
 |k+1=>by rw[List.range_succ,List.flatMap_append,MU k,fR,td];simp[MT]
theorem loose_len(hn:n<=6):(loose n ps).length<=36:=by
 have hB:∀k,(fR n ps k).length<=k*6:=by
  intro k
  induction k with
  |zero=>exact aq _
  |succ k ih=>
   rw[fR,dw];have:=Cod.looseB_len ps k (n-(k+1))
   lia
 have:=hB n;unfold loose
 lia
def EM:M zw:=bJ (aU fN (aD (aA 1))) [none,none,some 0,some 1] (aC 0) bN (gE (aU pI (bB (m2 bX (aA 0) (aK 1)) (aA 3))) (aC 1) (bZ (aE fF (gB (aA 2) (aA 0) (aA 1)))) (bD (bS (bB (aA 0) (aA 1)))))
theorem z26:hX=aG (dR (aE cX (aD (aA 0)))) (aG (aR (m2 cB (aA 0) (aK 0)) (aC 1)) (aL (bE EM))):=rfl
theorem z27{F:zv}{a b c:Dv}{ρ:Ev}{v:Bool}(ha:aA 2 ρ=λH=>.ok a H)(hb:aA 0 ρ=λH=>.ok b H)(hc:aA 1 ρ=λH=>.ok c H)(e:F [a,b,c] H=.ok (.bl v) H):bZ (aE F (gB (aA 2) (aA 0) (aA 1))) ρ H=.ok v H:=by simp[bZ,aE,aN,ha,hb,hc,bV,e,nK]
theorem z28{ma mb:M Dv}{ρ:Ev}{A B:Int}(ea:ma ρ H=.ok (.int A) H)(eb:mb ρ H=.ok (.int B) H)(a0:0<=A)(a1:A<=1000)(b0:0<=B)(b1:B<=1000):aU pI (bB ma mb) ρ H=.ok (hG A B) H:=by
 have h1:kJ A=true:=by simp[kJ];lia
 have h2:kJ B=true:=by simp[kJ];lia
 simp[aU,aN,ea,eb,bV,pI,h1,h2]
theorem z29(hn:n<=6):EM [some (aJ n ps),some (.int n)] H=.ok ((loose n ps).map aQ) H:=by
 have hr:=MU (n:=n) (ps:=ps) n;have hlen:((cf n).flatMap (λa=>(cf (n-(a+1))).filterMap (lV ps a))).length<=900000:=by
  rw[hr,cg];have:=loose_len (ps:=ps) hn;unfold loose at this
  lia
 have w:EM [some (aJ n ps),some (.int n)] H=.ok ((cf n).flatMap (λa=>(cf (n-(a+1))).filterMap (lV ps a))) H:=
  MJ (cf n) (λa=>cf (n-(a+1))) (lV ps) (λρ=>∃x y,ρ=[x,y,some (aJ n ps),some (.int n)]) (src:=hG 0 n) (EI rfl (by lia) (by lia)) (by simp[hG]) ⟨_,_,rfl⟩ rfl (λk hk ρ⟨x,y,e⟩=>by
   subst e;have hk':k<n:=by simpa using hk
   have gk:(cf n)[k]=k:=qe ..;have h00:(0+(k:Int))=(k:Int):=by lia
   refine⟨.int (0+k),[some (.int (0+k)),y,some (aJ n ps),some (.int n)],hG ((k:Int)+1) n,λρ=>∃y,ρ=[some (.int (k:Int)),y,some (aJ n ps),some (.int n)],rfl,rfl,⟨y,by rw[h00]⟩,λρ⟨y,e⟩=>⟨_,y,e⟩,?_,?_,rfl,?_⟩
   ·rw[h00];exact z28 (A:=(k:Int)+1) (B:=(n:Int)) rfl rfl (by lia) (by lia) (by lia) (by lia)
   ·rw[gk];simp[hG];lia
   ·intro j hj ρ ⟨y,e⟩;subst e;have gj:(cf (n-((cf n)[k]+1)))[j]=j:=qe ..;refine⟨.int ((k:Int)+1+j),[some (.int (k:Int)),some (.int ((k:Int)+1+j)),some (aJ n ps),some (.int n)],rfl,rfl,⟨_,rfl⟩,?_⟩;have t:=z27 (ρ:=[some (.int (k:Int)),some (.int ((k:Int)+1+j)),some (aJ n ps),some (.int n)]) rfl rfl rfl (loose_is (n:=n) (ps:=ps) (H:=H) (a:=(k:Int)) (b:=(k:Int)+1+j));rw[gj,gk];unfold lV
    cases c:decide (Lse ps (k:Int) ((k:Int)+1+j))with
    |true=>rw[c]at t;exact⟨t,rfl⟩
    |false=>rw[c]at t;exact t) hlen
 rw[hr]at w;exact w
theorem lpairs_ok(o:Al n ps):eE [aJ n ps] H=.ok (.ref H.length) (H++[.lst ((loose n ps).map aQ)]):=by
 have hn:=need_ok (H:=H) o;have w1:dR (aE cX (aD (aA 0))) [some (aJ n ps),none] H=.nx [some (aJ n ps),none] H:=by generalize aJ n ps=z at hn;simp[dR,aE,aN,aA,bV,hn]
 have w2:aR (m2 cB (aA 0) (aK 0)) (aC 1) [some (aJ n ps),none] H=.nx [some (aJ n ps),some (.int n)] H:=rfl;show cL (hX [some (aJ n ps),none] H)=_;rw[z26,cF w1,cF w2];unfold aL bE;rw[z29 o.n6];rfl
def fZ(ns:zr)(q:Int×Int):Int:=if(ix ns q.1:Int)-ix ns q.2<0 then -((ix ns q.1:Int)-ix ns q.2)else(ix ns q.1:Int)-ix ns q.2
theorem zE(q:Int×Int):0<=fZ ns q:=by unfold fZ;split<;>lia
theorem z2a{ma mb:M Dv}{ρ:Ev}{A B:Int}(ea:ma ρ H=.ok (.int A) H)(eb:mb ρ H=.ok (.int B) H):aE (f1 pG) (aD (m2 mK ma mb)) ρ H=.ok (.int (if A-B<0 then -(A-B)else A-B)) H:=by have hs:mK (.int A) (.int B) H=.ok (.int (A-B)) H:=rfl;have e:=jG ea eb hs;generalize A-B=C at e;generalize m2 mK ma mb=M at e;simp[aE,aN,e,bV,f1,pG]
theorem z2b{a:Nat}{m0 m1:M Dv}{ρ:Ev}{q:Int×Int}(h1:aA a ρ=λH=>.ok (.tup (ns.map Dz)) H)(e0:m0 ρ H=.ok (.int q.1) H)(e1:m1 ρ H=.ok (.int q.2) H)(k0:q.1∈ns)(k1:q.2∈ns):aE (f1 pG) (aD (m2 mK (kO (aA a) m0) (kO (aA a) m1))) ρ H=.ok (.int (fZ ns q)) H:=z2a (uO h1 e0 k0) (uO h1 e1 k1)
theorem z2c{q:Int×Int}(k0:q.1∈ns)(k1:q.2∈ns):gQ [.tup (ns.map Dz),aQ q] H=.ok (.int (fZ ns q)) H:=by have e:=z2b (H:=H) (ns:=ns) (a:=0) (m0:=m2 cB (aA 1) (aK 0)) (m1:=m2 cB (aA 1) (aK 1)) (ρ:=[some (.tup (ns.map Dz)),some (aQ q)]) (q:=q) rfl rfl rfl k0 k1;show cL (hY [some (.tup (ns.map Dz)),some (aQ q)] H)=_;unfold hY aL;rw[e];rfl
def dY(n:Nat)(ps:wo)(ns:zr):Int:=if(loose n ps).map (fZ ns)=[]then 0 else nY ((loose n ps).map (fZ ns))
def uP:M zw:=bJ (aY bW (aA 1)) [none,some 0] (aC 0) bN (bD (aE gQ (bB (aA 1) (aA 0))))
theorem z2d:hZ=aL (m1 (rD 0) (bE uP)):=rfl
theorem z2e{F:zv}{a b v:Dv}{x y:Nat}{ρ:Ev}(ha:aA x ρ=λH=>.ok a H)(hb:aA y ρ=λH=>.ok b H)(e:F [a,b] H=.ok v H):aE F (bB (aA x) (aA y)) ρ H=.ok v H:=by simp[aE,aN,ha,hb,bV,e]
theorem z2f{i:Nat}(g:getL H i=some ((loose n ps).map aQ))(hn:n<=6)(hm:∀x:Int,0<=x->x<n->x∈ns):uP [some (.tup (ns.map Dz)),some (.ref i)] H=.ok (((loose n ps).map (fZ ns)).map Dz) H:=by have w:uP [some (.tup (ns.map Dz)),some (.ref i)] H=.ok ((loose n ps).filterMap λq=>some (.int (fZ ns q))) H:=jF (loose n ps) (λq=>some (.int (fZ ns q))) (λρ=>∃a,ρ=[a,some (.tup (ns.map Dz))]) (src:=bU i ((loose n ps).map aQ).length) (by simp[aY,aA,bW,g]) (by simp[bU]) ⟨_,rfl⟩ (by simp[bU,g]) (λk hk ρ⟨a,e⟩=>by subst e;refine⟨aQ (loose n ps)[k],[some (aQ (loose n ps)[k]),some (.tup (ns.map Dz))],by simp[bU,g,hk],rfl,⟨_,rfl⟩,rfl,?_⟩;have r:=mem_loose.mp (gn hk);exact z2e rfl rfl (z2c (hm _ r.1 (by lia)) (hm _ (by lia) (by lia)))) (by have:=loose_len (ps:=ps) hn;lia);rw[w,lj];simp[yz]
theorem ga_ok{i:Nat}(g:getL H i=some ((loose n ps).map aQ))(hn:n<=6)(hm:∀x:Int,0<=x->x<n->x∈ns):∃H',gF [.tup (ns.map Dz),.ref i] H=.ok (.int (dY n ps ns)) H'/\Fr [] H H':=by
 have e:=z2f (H:=H) g hn hm;have ea:bE uP [some (.tup (ns.map Dz)),some (.ref i)] H=.ok (.ref H.length) (H++[.lst (((loose n ps).map (fZ ns)).map Dz)]):=by unfold bE;rw[e];rfl
 have g2:getL (H++[Ea (((loose n ps).map (fZ ns)).map Dz)]) H.length=some (((loose n ps).map (fZ ns)).map Dz):=Cod.last_get;have f:Fr [] H (H++[Ea (((loose n ps).map (fZ ns)).map Dz)]):=Ec;unfold dY;generalize (loose n ps).map (fZ ns)=L at ea g2 f;generalize H++[Ea (L.map Dz)]=H1 at ea g2 f;refine⟨H1,?_,f⟩;show cL (hZ [some (.tup (ns.map Dz)),some (.ref i)] H)=_;rw[z2d];generalize bE uP=M at ea;generalize ns.map Dz=ys at ea;simp[aL,m1,ea,rD,g2,EH,cL]
end
section
variable{n:Nat}{ps:wo}{H:Hs}{ns:zr}
theorem eq_int(a b:Int):cO (.int a) (.int b) H=.ok (.bl (decide (a=b))) H:=by
 have:(a==b)=decide (a=b):=by rw[ig];simp
 simp[cO,cY,cU,bH,this]
end
theorem MV{α:Type}{p q:α->Bool}:∀{l:List α},(∀x∈l,p x=true->q x=true)->(∃a∈l,q a=true/\p a=false)->(l.filter p).length<(l.filter q).length
 |[],_,⟨_,h,_⟩=>nomatch h
 |x::l,h,⟨a,ha,hq,hp⟩=>by
  have le:(l.filter p).length<=(l.filter q).length:=by
   clear hq hp ha
   have h':∀x∈l,p x=true->q x=true:=λy hy=>h y (az _ hy)
   clear h
   induction l with
   |nil=>exact aq _
   |cons y l ih=>
    have i:=ih λz hz=>h' z (az _ hz);have hy:=h' y (bo ..);rw[ll,ll]
    cases c:p y with
    |true=>rw[hy c];simpa using i
    |false=>
     cases c2:q y with
     |true=>simp;lia
     |false=>simpa using i
  rw[ll,ll]
  rcases bh.mp ha with rfl|ha
  ·rw[hq,hp];simp;lia
  ·have i:=MV (l:=l) (λy hy=>h y (az _ hy)) ⟨a,ha,hq,hp⟩;have hx:=h x (bo ..)
   cases c:p x with
   |true=>rw[hx c];simpa using i
   |false=>
    cases c2:q x with
    |true=>simp;lia
    |false=>simpa using i
section
variable{n st:Nat}{ps:wo}{H:Hs}{xs:zr}
theorem EN(o:Al n ps){left:zr}:∀(m:Nat)(x:Int),x∈left->(left.filter λa=>decide ((a,x)∈ps)).length<=m->∃z∈left,∀a∈left,(a,z)∉ps
 |m,x,hx,hm=>by
  by_cases c:∃a∈left,(a,x)∈ps
  ·obtain⟨a,ha,hp⟩:=c;have lt:=MV (l:=left) (p:=λb=>decide ((b,a)∈ps)) (q:=λb=>decide ((b,x)∈ps)) (λb _ hb=>by simp only[decide_eq_true_eq]at hb⊢;exact o.tr _ hb _ hp rfl) ⟨a,ha,by simpa using hp,by simp;exact λz=>o.irr _ z rfl⟩
   match m,hm with
   |0,hm=>lia
   |m+1,hm=>exact EN o m a ha (by lia)
  ·exact⟨x,hx,λa ha hp=>c ⟨a,ha,hp⟩⟩
def gH(n:Nat)(xs:zr):zr:=(eR n).filter λx=>!decide (x∈xs)
end
open L2.Mr.Cod (last_get eU dN)
end L2.Mr.K05
namespace L2.Mr.Sam
open L2.Mr.Gen
open L2.Mr.Com
end L2.Mr.Sam
namespace L2.Mr.K04
open L2.Mr.Gen
open L2.Mr.Com
open L2.Mr.Sam
open L2.Mr.Cod (last_get eU dN)
open L2.Mr.K05 (ix gH lU uN lT Bj rN oM uO)
abbrev bF(r:zr):Dv:=.tup (r.map Dz)
def ext(n:Nat)(rs:y'):y':=rs.flatMap λr=>(gH n r).map λx=>r++[x]
def gS(n:Nat):Nat->y'
 |0=>[[]]
 |k+1=>ext n (gS n k)
noncomputable def wt(ps:wo)(r:zr):zr:=(ps.filter λq=>!decide (q.1∈r)).map λq=>q.2
def gA(n:Nat)(ps:wo)(r:zr):zr:=(eR n).filter λx=>!decide (x∈r)&&!decide (x∈wt ps r)
def mW(n:Nat)(ps:wo)(rs:y'):y':=rs.flatMap λr=>(gA n ps r).map λx=>r++[x]
def rws(n:Nat)(ps:wo):Nat->y'
 |0=>[[]]
 |k+1=>mW n ps (rws n ps k)
def iP(ps:wo)(r:zr):Bool:=ps.all λq=>!decide (q.2∈r)||(decide (q.1∈r)&&decide (ix r q.1<ix r q.2))
section
variable{n:Nat}{ps:wo}{r:zr}
theorem Bp:iP ps r=true↔∀q∈ps,q.2∈r->q.1∈r/\ix r q.1<ix r q.2:=by
 unfold iP;rw[fv];refine forall_congr' λq=>forall_congr' λ_=>?_
 by_cases h:q.2∈r<;>simp[h]
theorem Dn{x:Int}:x∈wt ps r↔∃q∈ps,q.1∉r/\q.2=x:=by simp only[wt,gu,gm,qu,decide_eq_false_iff_not,and_assoc]
theorem MW(o:Al n ps){x:Int}(hx:x∉r):iP ps (r++[x])=(iP ps r&&!decide (x∈wt ps r)):=by
 rw[ig,dh,Bp,Bp,qu,decide_eq_false_iff_not,Dn];constructor
 ·intro h;refine⟨λq hq h2=>?_,?_⟩
  ·obtain⟨a,b⟩:=h q hq (cu _ h2);rw[lU h2]at b;have l2:=lT h2
   rcases cz.mp a with a|a
   ·rw[lU a]at b;exact⟨a,b⟩
   ·simp only[dy]at a;rw[a,uN hx]at b;lia
  ·rintro ⟨q,hq,h1,h2⟩
   obtain⟨a,_⟩:=h q hq (by rw[h2];simp)
   rcases cz.mp a with a|a
   ·exact h1 a
   ·simp only[dy]at a;exact o.irr q hq (a.trans h2.symm)
 ·rintro ⟨h,hw⟩ q hq h2
  rcases cz.mp h2 with h2|h2
  ·obtain⟨a,b⟩:=h q hq h2;exact⟨cu _ a,by rw[lU a,lU h2];exact b⟩
  ·simp only[dy]at h2;have a:q.1∈r:=Classical.byContradiction λh1=>hw ⟨q,hq,h1,h2⟩;exact⟨cu _ a,by rw[lU a,h2,uN hx];exact lT a⟩
theorem z2g(o:Al n ps):((gH n r).map λx=>r++[x]).filter (iP ps)=if iP ps r then(gA n ps r).map λx=>r++[x]else[]:=by
 rw[List.filter_map];unfold gH gA;rw[List.filter_filter]
 cases c:iP ps r with
 |true=>
  rw[if_pos rfl]
  congr 1
  refine List.filter_congr λx _=>?_
  by_cases hx:x∈r
  ·simp[hx]
  ·simp[hx,MW o hx,c]
 |false=>
  rw[if_neg (by decide)];have:((eR n).filter λx=>(iP ps∘λx=>r++[x]) x&&!decide (x∈r))=[]:=List.filter_eq_nil_iff.mpr λx _=>by
   by_cases hx:x∈r
   ·simp[hx]
   ·simp[hx,MW o hx,c]
  rw[this];rfl
theorem z2h(o:Al n ps)(rs:y'):(ext n rs).filter (iP ps)=mW n ps (rs.filter (iP ps)):=by
 induction rs with
 |nil=>rfl
 |cons r rs ih=>
  have h1:ext n (r::rs)=((gH n r).map λx=>r++[x])++ext n rs:=rfl;rw[h1,List.filter_append,ih,z2g o,ll]
  cases iP ps r with
  |true=>rfl
  |false=>rfl
theorem qA(o:Al n ps):∀k,rws n ps k=(gS n k).filter (iP ps)
 |0=>by
  have:iP ps []=true:=Bp.mpr λq _ h=>by simp at h
  simp[rws,gS,this]
 |k+1=>by show mW n ps (rws n ps k)=(ext n (gS n k)).filter (iP ps);rw[qA o k,z2h o]
theorem Bf{x:Int}:x∈gH n r↔(0<=x/\x<n)/\x∉r:=by unfold gH;rw[gm,Bj];simp
theorem rO:∀k,∀r∈gS n k,r.length=k/\r.Nodup/\∀x∈r,0<=x/\x<n
 |0,r,h=>by simp[gS]at h;subst h;simp
 |k+1,r,h=>by
  simp only[gS,ext,nt,gu]at h;obtain⟨s,hs,x,hx,rfl⟩:=h;obtain⟨a,b,c⟩:=rO k s hs;rw[Bf]at hx;refine⟨by simp[a],?_,λy hy=>?_⟩
  ·rw[List.nodup_append];exact⟨b,by simp,λu hu v hv=>by simp only[dy]at hv;subst hv;intro e;exact hx.2 (e▸hu)⟩
  ·rcases cz.mp hy with hy|hy
   ·exact c y hy
   ·simp only[dy]at hy;subst hy;exact hx.1
theorem z2i(hn:n<=6):(gH n r).length<=6:=by
 have:=tm (λx=>!decide (x∈r)) (eR n);simp[eR]at this;unfold gH;simp[eR]
 lia
theorem z2j(hn:n<=6)(rs:y'):(ext n rs).length<=rs.length*6:=by
 induction rs with
 |nil=>simp[ext]
 |cons r rs ih=>
  have h1:ext n (r::rs)=((gH n r).map λx=>r++[x])++ext n rs:=rfl;have:=z2i (n:=n) (r:=r) hn;rw[h1,dw,cg,br]
  lia
theorem MX(hn:n<=6):∀k,(gS n k).length<=6^k
 |0=>by simp[gS]
 |k+1=>by have h1:=z2j hn (gS n k);have h2:=MX hn k;show(ext n (gS n k)).length<=_;rw[Nat.pow_succ];lia
theorem z2k(hn:n<=6){k:Nat}(hk:k<=n):(gS n k).length<=46656:=cm (MX hn k) (show 6^k<=6^6 from Nat.pow_le_pow_right (by decide) (by lia))
theorem oO(o:Al n ps){k:Nat}(hk:k<=n):(rws n ps k).length<=46656:=by rw[qA o];exact cm (tm _ _) (z2k o.n6 hk)
theorem zF(o:Al n ps){k:Nat}(h:r∈rws n ps k):r.length=k:=by rw[qA o]at h;exact(rO k r (gm.mp h).1).1
end
abbrev zG:M zw:=bJ (aY eW (aA 3)) [none,none,some 1] (cQ 2 (aV (aC 0) (aV (aC 1) cP))) (mB (m2 (dM true) (aA 0) (aA 2))) (bD (aA 1))
abbrev EO:M zw:=bJ (aU fN (aD (aA 2))) [none,some 1,some 4] (aC 0) (dS (mB (m2 (dM true) (aA 0) (aA 1))) (mB (m2 (dM true) (aA 0) (aA 2)))) (bD (aA 0))
theorem z2l:iA=aG (aR (aA 0) (cQ 2 (aV (aC 2) (aV (aC 3) cP)))) (aG (aR (bE zG) (aC 4)) (aL (bE EO))):=rfl
section
variable{n st:Nat}{ps:wo}{H:Hs}{ρ:Ev}{r:zr}
theorem z2m(o:Al n ps){x0 x2 x4:zx}:zG [x0,some (bF r),x2,some (.tup (ps.map aQ)),x4] H=.ok ((wt ps r).map Dz) H:=by
 have w:zG [x0,some (bF r),x2,some (.tup (ps.map aQ)),x4] H=.ok (ps.filterMap λq=>if !decide (q.1∈r)then some ((λq:Int×Int=>Dz q.2) q)else none) H:=
  jF ps _ (λρ=>∃a b,ρ=[a,b,some (bF r)]) (src:=eB (ps.map aQ)) rfl (by simp[eB]) ⟨_,_,rfl⟩ rfl (λk hk ρ⟨a,b,e⟩=>by
   subst e;refine⟨aQ ps[k],[some (.int ps[k].1),some (.int ps[k].2),some (bF r)],by simp[eB,hk],rfl,⟨_,_,rfl⟩,?_⟩;have t2:dM true (.int ps[k].1) (bF r) H=.ok (.bl (!decide (ps[k].1∈r))) H:=JN true H ps[k].1 r;generalize bF r=ys at t2⊢
   cases c2:!decide (ps[k].1∈r)with
   |true=>rw[c2]at t2;simp[mB,m2,aA,t2,nI]
   |false=>rw[c2]at t2;simp[mB,m2,aA,t2,nI]) (by have:=o.len;lia)
 have:=w.trans (congrArg (λl=>En l _) (EJ _ _ _));unfold wt;rw[lj];exact this
theorem z2n(hn:n<=6){x0 x3:zx}{i:Nat}{ws:zr}(g:getL H i=some (ws.map Dz)):EO [x0,some (bF r),some (.int n),x3,some (.ref i)] H=.ok (((eR n).filter λx=>!decide (x∈r)&&!decide (x∈ws)).map Dz) H:=by
 have w:EO [x0,some (bF r),some (.int n),x3,some (.ref i)] H=.ok ((eR n).filterMap λx=>if(!decide (x∈r)&&!decide (x∈ws))then some (Dz x)else none) H:=
  jF (eR n) _ (λρ=>∃a,ρ=[a,some (bF r),some (.ref i)]) (src:=hG 0 n) (EI (m:=aA 2) rfl (by lia) (by lia)) (by simp[hG,eR]) ⟨_,rfl⟩ rfl (λk hk ρ⟨a,e1⟩=>by
   subst e1;have gk:(eR n)[k]=(k:Int):=by simp[eR]
   refine⟨.int (0+k),[some (.int (0+k)),some (bF r),some (.ref i)],rfl,rfl,⟨_,rfl⟩,?_⟩;have h00:(0+(k:Int))=(k:Int):=by lia
   rw[gk,h00];have t1:dM true (.int k) (bF r) H=.ok (.bl (!decide ((k:Int)∈r))) H:=JN true H (k:Int) r;have t2:dM true (.int k) (.ref i) H=.ok (.bl (!decide ((k:Int)∈ws))) H:=z25 true (k:Int) g;generalize bF r=ys at t1⊢
   cases c1:!decide ((k:Int)∈r)with
   |false=>rw[c1]at t1;simp[dS,mB,m2,aA,t1,nI]
   |true=>
    rw[c1]at t1
    cases c2:!decide ((k:Int)∈ws)with
    |true=>rw[c2]at t2;simp[dS,mB,m2,aA,t1,t2,nI]
    |false=>rw[c2]at t2;simp[dS,mB,m2,aA,t1,t2,nI]) (by simp[eR];lia)
 exact w.trans (congrArg (λl=>En l _) (EJ _ _ _))
theorem qB{C:M zw}{xs:zw}{H1:Hs}(e:C ρ H=.ok xs H1):bE C ρ H=.ok (.ref H1.length) (H1++[.lst xs]):=by unfold bE;rw[e];rfl
theorem qC{C:M zw}{xs:zw}{H1:Hs}(e:C ρ H=.ok xs H1):cL (aL (bE C) ρ H)=.ok (.ref H1.length) (H1++[.lst xs]):=by unfold aL;rw[qB e];rfl
theorem z2o(o:Al n ps):∃i H',gG [aJ n ps,bF r] H=.ok (.ref i) H'/\getL H' i=some ((gA n ps r).map Dz)/\Fr [] H H':=by
 have e1:=z2m (H:=H) (r:=r) (x0:=some (aJ n ps)) (x2:=some (.int n)) (x4:=none) o;obtain⟨H1,hH1⟩:∃H1,H1=H++[Ea ((wt ps r).map Dz)]:=⟨_,rfl⟩
 have g1:getL H1 H.length=some ((wt ps r).map Dz):=by rw[hH1];exact last_get
 have f1:Fr [] H H1:=by rw[hH1];exact Ec
 have e2:=z2n (n:=n) (r:=r) (x0:=some (aJ n ps)) (x3:=some (.tup (ps.map aQ))) o.n6 g1;rw[show((eR n).filter λx=>!decide (x∈r)&&!decide (x∈wt ps r))=gA n ps r from rfl]at e2;refine⟨H1.length,H1++[Ea ((gA n ps r).map Dz)],?_,last_get,f1.trans (T:=[]) Ec (by simp)⟩;have w1:aR (aA 0) (cQ 2 (aV (aC 2) (aV (aC 3) cP))) [some (aJ n ps),some (bF r),none,none,none] H=.nx [some (aJ n ps),some (bF r),some (.int n),some (.tup (ps.map aQ)),none] H:=rfl;have w2:aR (bE zG) (aC 4) [some (aJ n ps),some (bF r),some (.int n),some (.tup (ps.map aQ)),none] H=.nx [some (aJ n ps),some (bF r),some (.int n),some (.tup (ps.map aQ)),some (.ref H.length)] H1:=by rw[hH1];exact MR e1 rfl
 show cL (iA [some (aJ n ps),some (bF r),none,none,none] H)=_;rw[z2l,cF w1,cF w2];exact qC e2
abbrev zH:MC:=gE (aY bW (aE gG (bB (aA 2) (aA 0)))) (aC 1) bN (bD (m2 bX (aA 0) (bS (aD (aA 1)))))
abbrev ER:M zw:=bJ (aY bW (aA 1)) [none,none,some 0] (aC 0) bN zH
theorem z2p:iB=aG (dR (aE cX (aD (aA 0)))) (aG (aR (bC (aD (bS bV))) (aC 1)) (aG (kK (aU fN (aD (m2 cB (aA 0) (aK 0)))) (aC 2) (aR (bE ER) (aC 1))) (aL (aA 1)))):=rfl
theorem z2q{i j:Nat}{x:Int}(hr:r.length<=100)(h0:aA i ρ=λH=>.ok (bF r) H)(h1:aA j ρ=λH=>.ok (.int x) H):m2 bX (aA i) (bS (aD (aA j))) ρ H=.ok (bF (r++[x])) H:=by
 have e2:bS (aD (aA j)) ρ H=.ok (.tup [.int x]) H:=by simp[bS,aN,h1,bV,lim]
 have a:=z23 (r.map Dz) [.int x] (by simp;lia) (H:=H);have e3:=jG (ma:=aA i) (H1:=H) (x:=bF r) (by rw[h0]) e2 a;have hc:r.map Dz++[.int x]=(r++[x]).map Dz:=by simp
 rw[hc]at e3;exact e3
theorem z2r{F:zv}{a b:Dv}{x y i:Nat}{H1:Hs}{xs:zw}(ha:aA x ρ=λH=>.ok a H)(hb:aA y ρ=λH=>.ok b H)(e:F [a,b] H=.ok (.ref i) H1)(g:getL H1 i=some xs):aY bW (aE F (bB (aA x) (aA y))) ρ H=.ok (bU i xs.length) H1:=by simp[aY,aE,aN,ha,hb,bV,e,bW,g]
theorem z2s(o:Al n ps)(hr:r.length<=100){b:zx}{acc:zw}(hl:acc.length+((gA n ps r).map λx=>bF (r++[x])).length<=900000):∃b' H',zH [some (bF r),b,some (aJ n ps)] H acc=.ok ([some (bF r),b',some (aJ n ps)],acc++(gA n ps r).map λx=>bF (r++[x])) H'/\Fr [] H H':=by
 obtain⟨i,H1,e1,g1,f1⟩:=z2o (H:=H) (r:=r) o;have fm:∀l:zr,(l.flatMap λx=>[bF (r++[x])])=l.map λx=>bF (r++[x]):=λl=>by
  induction l with
  |nil=>rfl
  |cons x l ih=>rw[iw,ih];rfl
 have es:=z2r (F:=gG) (ρ:=[some (bF r),b,some (aJ n ps)]) (x:=2) (y:=0) rfl rfl e1 g1;obtain⟨ρ',H',e,⟨b',eb⟩,eh⟩:=uJ (src:=bU i ((gA n ps r).map Dz).length) (sg:=aC 1) (t:=bN) (m:=bD (m2 bX (aA 0) (bS (aD (aA 1))))) (gA n ps r) (λx=>[bF (r++[x])]) (λρ h=>(∃b,ρ=[some (bF r),b,some (aJ n ps)])/\h=H1)
  (λρ h s=>by rw[s.2];simp[bU,g1])
  (λk hk ρ h⟨⟨b,e⟩,eh⟩=>by subst e;subst eh;refine⟨.int (gA n ps r)[k],[some (bF r),some (.int (gA n ps r)[k]),some (aJ n ps)],by simp[bU,g1,hk],rfl,.inr ⟨_,rfl,λacc hl=>⟨_,_,uL (z2q (i:=0) (j:=1) hr rfl rfl) hl,⟨_,rfl⟩,rfl⟩⟩⟩)
  (gA n ps r).length 0 [some (bF r),b,some (aJ n ps)] H1 acc (by lia) ⟨⟨_,rfl⟩,rfl⟩ (by rw[qd,fm];exact hl)
 subst eb;subst eh;rw[qd,fm]at e;refine⟨b',H',?_,f1⟩;unfold zH gE;rw[es];dsimp only;rw[cg]at e⊢;exact e
theorem MY(rs:y'):(rs.flatMap λr=>(gA n ps r).map λx=>bF (r++[x]))=(mW n ps rs).map bF:=by
 induction rs with
 |nil=>rfl
 |cons r rs ih=>have h1:mW n ps (r::rs)=((gA n ps r).map λx=>r++[x])++mW n ps rs:=rfl;rw[iw,ih,h1,td,lj];rfl
theorem z2t(o:Al n ps){x2:zx}{i:Nat}{rs:y'}(g:getL H i=some (rs.map bF))(hr:∀r∈rs,r.length<=100)(hl:(mW n ps rs).length<=900000):∃H',ER [some (aJ n ps),some (.ref i),x2] H=.ok ((mW n ps rs).map bF) H'/\Fr [] H H':=by
 obtain⟨ρ',H',h,_,f⟩:=uK (mi:=aY bW (aA 1)) (cap:=[none,none,some 0]) (src:=bU i (rs.map bF).length) (sg:=aC 0) (t:=bN) (m:=zH) (ρ:=[some (aJ n ps),some (.ref i),x2]) (H:=H) (H1:=H) rs (λr=>(gA n ps r).map λx=>bF (r++[x])) (λρ Hx=>(∃a b,ρ=[a,b,some (aJ n ps)])/\Fr [] H Hx) (by simp[aY,aA,bW,g]) (by simp[bU]) ⟨⟨_,_,rfl⟩,Es⟩ (λρ Hx s=>by have gx:=s.2.getL g (by simp);simp[bU,gx])
  (λk hk ρ Hx⟨⟨a,b,e⟩,f⟩=>by subst e;have gx:=f.getL g (by simp);refine⟨bF rs[k],[some (bF rs[k]),b,some (aJ n ps)],by simp[bU,gx,hk],rfl,.inr ⟨Hx,rfl,λacc hl=>?_⟩⟩;obtain⟨b',Hy,ea,fa⟩:=z2s (H:=Hx) (b:=b) o (hr _ (gn hk)) hl;exact⟨_,Hy,ea,⟨_,_,rfl⟩,f.trans fa (by simp)⟩) (by rw[MY,cg];exact hl)
 exact⟨H',by rw[<-MY];exact h,f⟩
theorem all_ok(o:Al n ps):∃i H',fX [aJ n ps] H=.ok (.ref i) H'/\getL H' i=some ((rws n ps n).map bF)/\Fr [] H H'/\H.length<=i:=by
 have n6:=o.n6;have w0:dR (aE cX (aD (aA 0))) [some (aJ n ps),none,none] H=.nx [some (aJ n ps),none,none] H:=by have e:cX [aJ n ps] H=.ok .non H:=Cod.need_ok o;generalize cX=F at e;generalize aJ n ps=z at e;simp[dR,aE,aN,aA,bV,e]
 have w1:aR (bC (aD (bS bV))) (aC 1) [some (aJ n ps),none,none] H=.nx [some (aJ n ps),some (.ref H.length),none] (H++[.lst [bF []]]):=rfl;have hi:aU fN (aD (m2 cB (aA 0) (aK 0))) [some (aJ n ps),some (.ref H.length),none] (H++[.lst [bF []]])=.ok (hG 0 n) (H++[.lst [bF []]]):=EI (L:=n) rfl (by lia) (by lia);have hN:(hG 0 (n:Int)).n=n:=by simp[hG]
 obtain⟨ρ',H',h1,i,y2,h2,h3,h4,h5⟩:=JK (b:=aR (bE ER) (aC 1)) (sg:=aC 2) hi
  (λk ρ H'=>∃(i:Nat)(y2:zx),ρ=[some (aJ n ps),some (.ref i),y2]/\getL H' i=some ((rws n ps k).map bF)/\Fr [] H H'/\H.length<=i)
  (λk ρ H' hk⟨i,y2,e1,e2,e3,e4⟩=>by subst e1;rw[hN]at hk;have hl:(rws n ps (k+1)).length<=46656:=oO o (by lia);obtain⟨H2,b1,b2⟩:=z2t (H:=H') (x2:=some (.int (0+(k:Int)))) o e2 (λr hr=>by rw[zF o hr];lia) (show(rws n ps (k+1)).length<=900000 by lia);have f:=e3.trans b2 (T:=[]) (by simp);exact⟨.int (0+(k:Int)),[some (aJ n ps),some (.ref i),some (.int (0+(k:Int)))],_,_,rfl,rfl,MR b1 rfl,H2.length,_,rfl,last_get,f.trans (T:=[]) Ec (by simp),f.le⟩) (λ_ _ _=>rfl) ⟨H.length,none,rfl,last_get,Ec,aq _⟩
 rw[hN]at h3;refine⟨i,H',?_,h3,h4,h5⟩;show cL (iB [some (aJ n ps),none,none] H)=_;rw[z2p,cF w0,cF w1,cF h1,h2];rfl
end
open L2.Mr.Cod (last_get dN)
end L2.Mr.K04
namespace L2.Mr.Gen
end L2.Mr.Gen
namespace L2.Mr.K06
open L2.Mr.Gen
open L2.Mr.Com
open L2.Mr.Sam
open L2.Mr.Cod (last_get dN loose mem_loose)
open L2.Mr.K04 (bF rws gS qA zF oO rO gA wt mW Dn Bf qB qC)
open L2.Mr.K05 (ix lT gH Bj rN oM dY fZ zE EN loose_len)
section
variable{n:Nat}{ps:wo}{r:zr}
theorem z2u(o:Al n ps){k:Nat}(hr:r∈rws n ps k)(hk:k<n):gA n ps r≠[]:=by
 have hl:=zF o hr;have ex:∃x,x∈gH n r:=by
  by_cases c:∃x,x∈gH n r
  ·exact c
  ·exfalso
   have sub:∀x∈eR n,x∈r:=λx hx=>by
    by_cases d:x∈r
    ·exact d
    ·exact absurd ⟨x,gm.mpr ⟨hx,by simpa using d⟩⟩ c
   have:=(rN (n:=n)).length_le_of_subset sub;simp[eR]at this
   lia
 obtain⟨x0,hx0⟩:=ex;obtain⟨z,hz,hmin⟩:=EN o (left:=gH n r) _ x0 hx0 (aq _);have hz':=Bf.mp hz;refine uk (a:=z) (gm.mpr ⟨Bj.mpr hz'.1,?_⟩);have hw:z∉wt ps r:=λh=>by obtain⟨q,hq,h1,h2⟩:=Dn.mp h;have rg:=o.rng q hq;exact hmin q.1 (Bf.mpr ⟨⟨rg.1,rg.2.1⟩,h1⟩) (by rw[<-h2];exact hq)
 simp[hz'.2,hw]
theorem MZ(o:Al n ps):∀k,k<=n->rws n ps k≠[]
 |0,_=>by simp[rws]
 |k+1,h=>by obtain⟨r,hr⟩:=xl _ (MZ o k (by lia));obtain⟨x,hx⟩:=xl _ (z2u o hr (by lia));exact uk (nt.mpr ⟨r,hr,gu.mpr ⟨x,hx,rfl⟩⟩)
theorem ES(o:Al n ps)(hr:r∈rws n ps n):∀x:Int,0<=x->x<n->x∈r:=λx h0 h1=>by rw[qA o]at hr;obtain⟨a,b,c⟩:=rO n r (gm.mp hr).1;exact oM c b a h0 h1
theorem sp_bnd(o:Al n ps)(hr:r∈rws n ps n):0<=dY n ps r/\dY n ps r<=6:=by
 have hm:=ES o hr;have hl:=zF o hr;have n6:=o.n6;unfold dY
 split
 ·lia
 ·rename_i h;obtain⟨q,hq,e⟩:=gu.mp (L2.Mr.maxI_is h).1;have rg:=mem_loose.mp hq;have i1:=lT (hm q.1 (by lia) (by lia));have i2:=lT (hm q.2 (by lia) (by lia));have a0:=zE (ns:=r) q;rw[<-e];refine⟨a0,?_⟩;unfold fZ
  split<;>lia
def sps(n:Nat)(ps:wo):zr:=(rws n ps n).map (dY n ps)
def bst(n:Nat)(ps:wo):y':=(rws n ps n).filter λr=>decide (dY n ps r=fJ (sps n ps))
theorem sps_ne(o:Al n ps):sps n ps≠[]:=by have:=MZ o n (aq n);simpa[sps]using this
theorem bst_ne(o:Al n ps):bst n ps≠[]:=by obtain⟨r,hr,e⟩:=gu.mp (L2.Mr.minI_is (sps_ne o)).1;exact uk (gm.mpr ⟨hr,by simpa using e⟩)
theorem bst_len(o:Al n ps):(bst n ps).length<=46656:=cm (tm _ _) (oO o (aq n))
end
open L2.Mr.Cod (last_get dN loose)
open L2.Mr.K04 (bF rws oO qB qC)
open L2.Mr.K05 (dY)
section
variable{n:Nat}{ps:wo}{r:zr}{H:Hs}{ρ:Ev}
theorem lW{F:zv}{a v:Dv}{x:Nat}{H':Hs}(ha:aA x ρ=λH=>.ok a H)(e:F [a] H=.ok v H'):aE F (aD (aA x)) ρ H=.ok v H':=by simp[aE,aN,ha,bV,e]
theorem ET{F:zv}{m:M Dv}{a v:Dv}{H1 H':Hs}(ha:m ρ H=.ok a H1)(e:F [a] H1=.ok v H'):aE F (aD m) ρ H=.ok v H':=by simp[aE,aN,ha,bV,e]
theorem M1{F:zv}{a:Dv}{x i:Nat}{H1:Hs}{xs:zw}(ha:aA x ρ=λH=>.ok a H)(e:F [a] H=.ok (.ref i) H1)(g:getL H1 i=some xs):aY bW (aE F (aD (aA x))) ρ H=.ok (bU i xs.length) H1:=by simp[aY,aE,aN,ha,bV,e,bW,g]
theorem M3{x i:Nat}{xs:zw}(ha:aA x ρ=λH=>.ok (.ref i) H)(g:getL H i=some xs):aY bW (aA x) ρ H=.ok (bU i xs.length) H:=by simp[aY,ha,bW,g]
theorem all_ok(o:Al n ps):∃i H',fX [aJ n ps] H=.ok (.ref i) H'/\getL H' i=some ((rws n ps n).map bF)/\Fr [] H H'/\H.length<=i:=K04.all_ok o
theorem lpairs_ok(o:Al n ps):eE [aJ n ps] H=.ok (.ref H.length) (H++[.lst ((loose n ps).map aQ)]):=K05.lpairs_ok o
theorem ga_ok{i:Nat}(g:getL H i=some ((loose n ps).map aQ))(hn:n<=6)(hm:∀x:Int,0<=x->x<n->x∈r):∃H',gF [bF r,.ref i] H=.ok (.int (dY n ps r)) H'/\Fr [] H H':=K05.ga_ok g hn hm
abbrev mX(n:Nat)(ps:wo)(r:zr):Dv:=.tup [bF r,.int (dY n ps r)]
abbrev EU:M Dv:=bS (bB (aA 0) (aE gF (bB (aA 0) (aA 1))))
abbrev rwC:M zw:=bJ (aY bW (aE fX (aD (aA 0)))) [none,some 1] (aC 0) bN (bD EU)
theorem z2v:jB=aG (aR (aE eE (aD (aA 0))) (aC 1)) (aL (bE rwC)):=rfl
theorem M4{α:Type}(f:α->Dv)(l:List α):(l.flatMap λx=>[f x])=l.map f:=by
 induction l with
 |nil=>rfl
 |cons x l ih=>rw[iw,ih];rfl
theorem M5(o:Al n ps):∃i H',fQ [aJ n ps] H=.ok (.ref i) H'/\getL H' i=some ((rws n ps n).map (mX n ps))/\Fr [] H H'/\H.length<=i:=by
 have e1:=lpairs_ok (H:=H) o;obtain⟨H1,hH1⟩:∃H1,H1=H++[Ea ((loose n ps).map aQ)]:=⟨_,rfl⟩
 have f1':Fr [] H H1:=by rw[hH1];exact Ec
 have g1:getL H1 H.length=some ((loose n ps).map aQ):=by rw[hH1];exact last_get
 rw[<-hH1]at e1;have w1:aR (aE eE (aD (aA 0))) (aC 1) [some (aJ n ps),none] H=.nx [some (aJ n ps),some (.ref H.length)] H1:=rM (lW (F:=eE) rfl e1) rfl;obtain⟨i,H2,e2,g2,f2,l2⟩:=all_ok (H:=H1) o;have hl:=oO o (aq n);have hf:=λr(h:r∈rws n ps n)=>ES o h;have es:=M1 (F:=fX) (ρ:=[some (aJ n ps),some (.ref H.length)]) (x:=0) rfl e2 g2;have gp:=f2.getL g1 (by simp);obtain⟨p,hp⟩:∃p,p=H.length:=⟨_,rfl⟩
 rw[<-hp]at w1 gp es;generalize rws n ps n=R at g2 hl hf es;obtain⟨ρ',H3,h,_,f3⟩:=uK (mi:=aY bW (aE fX (aD (aA 0)))) (cap:=[none,some 1]) (src:=bU i (R.map bF).length) (sg:=aC 0) (t:=bN) (m:=bD EU) (ρ:=[some (aJ n ps),some (.ref p)]) (H:=H1) (H1:=H2) R (λr=>[mX n ps r]) (λρ Hx=>(∃a,ρ=[a,some (.ref p)])/\Fr [] H2 Hx) es (by simp[bU]) ⟨⟨_,rfl⟩,Es⟩ (λρ Hx s=>by have gx:=s.2.getL g2 (by simp);simp[bU,gx])
  (λk hk ρ Hx⟨⟨a,e⟩,f⟩=>by subst e;have gx:=f.getL g2 (by simp);obtain⟨Hy,ey,fy⟩:=ga_ok (r:=R[k]) (f.getL gp (by simp)) o.n6 (hf _ (gn hk));refine⟨bF R[k],[some (bF R[k]),some (.ref p)],by simp[bU,gx,hk],rfl,.inr ⟨Hx,rfl,λacc hl=>⟨_,Hy,uL ?_ hl,⟨_,rfl⟩,f.trans fy (by simp)⟩⟩⟩;simp[EU,bS,aN,aA,aE,bV,ey,lim]) (by rw[M4,cg];lia)
 rw[M4]at h;refine⟨H3.length,H3++[.lst (R.map (mX n ps))],?_,last_get,((f1'.trans f2 (by simp)).trans f3 (by simp)).trans (T:=[]) Ec (by simp),((f1'.trans f2 (by simp)).trans (T:=[]) f3 (by simp)).le⟩;show cL (jB [some (aJ n ps),none] H)=_;rw[z2v,cF w1];exact qC h
abbrev uQ(mi:M Src):M zw:=bJ mi [none,none] (cQ 2 (aV (aC 0) (aV (aC 1) cP))) bN (bD (aA 1))
theorem M6{mi:M Src}{i:Nat}{R:y'}{H1:Hs}(hi:mi ρ H=.ok (bU i (R.map (mX n ps)).length) H1)(g:getL H1 i=some (R.map (mX n ps)))(hl:R.length<=46656):uQ mi ρ H=.ok ((R.map (dY n ps)).map Dz) H1:=by have w:uQ mi ρ H=.ok (R.filterMap λr=>some (.int (dY n ps r))) H1:=jF R (λr=>some (.int (dY n ps r))) (λρ=>∃a b,ρ=[a,b]) hi (by simp[bU]) ⟨_,_,rfl⟩ (by simp[bU,g]) (λk hk ρ⟨a,b,e⟩=>by subst e;exact⟨mX n ps R[k],[some (bF R[k]),some (.int (dY n ps R[k]))],by simp[bU,g,hk],rfl,⟨_,_,rfl⟩,rfl,rfl⟩) (by lia);rw[w,lj];simp[yz]
theorem M7{f:zr->Int}{i:Nat}{L:zr}(g:getL H i=some (L.map Dz))(h:L≠[]):f1 (lN f) [.ref i] H=.ok (.int (f L)) H:=by have hp:=pj.mpr h;simp[f1,lN,g,EH,hp]
theorem least_ok(o:Al n ps):∃H',jC [aJ n ps] H=.ok (.int (fJ (sps n ps))) H'/\Fr [] H H':=by obtain⟨i,H1,e1,g1,f1',_⟩:=M5 (H:=H) o;have hs:=qB (M6 (M1 (F:=fQ) (ρ:=[some (aJ n ps)]) (x:=0) rfl e1 g1) g1 (oO o (aq n)));have gl:=last_get (H:=H1) (x:=(sps n ps).map Dz);refine⟨H1++[.lst ((sps n ps).map Dz)],?_,f1'.trans (T:=[]) Ec (by simp)⟩;show cL (aL (aE (f1 (lN fJ)) (aD (bE (uQ (aY bW (aE fQ (aD (aA 0)))))))) [some (aJ n ps)] H)=_;unfold aL;rw[ET hs (M7 gl (sps_ne o))];rfl
abbrev EV:M zw:=bJ (aY bW (aA 1)) [none,none,some 2] (cQ 2 (aV (aC 0) (aV (aC 1) cP))) (mB (m2 cO (aA 1) (aA 2))) (bD (aA 0))
theorem z2w:jD=aG (aR (aE fQ (aD (aA 0))) (aC 1)) (aG (aR (aE (f1 (lN fJ)) (aD (bE (uQ (aY bW (aA 1)))))) (aC 2)) (aL (bE EV))):=rfl
theorem z2x{i:Nat}{R:y'}{m:Int}{x0:zx}(g:getL H i=some (R.map (mX n ps)))(hl:R.length<=46656):EV [x0,some (.ref i),some (.int m)] H=.ok ((R.filter λr=>decide (dY n ps r=m)).map bF) H:=by
 have w:EV [x0,some (.ref i),some (.int m)] H=.ok (R.filterMap λr=>if decide (dY n ps r=m)then some (bF r)else none) H:=
  jF R _ (λρ=>∃a b,ρ=[a,b,some (.int m)]) (src:=bU i (R.map (mX n ps)).length) (M3 (x:=1) rfl g) (by simp[bU]) ⟨_,_,rfl⟩ (by simp[bU,g]) (λk hk ρ⟨a,b,e⟩=>by
   subst e;refine⟨mX n ps R[k],[some (bF R[k]),some (.int (dY n ps R[k])),some (.int m)],by simp[bU,g,hk],rfl,⟨_,_,rfl⟩,?_⟩;have t:mB (m2 cO (aA 1) (aA 2)) [some (bF R[k]),some (.int (dY n ps R[k])),some (.int m)] H=.ok (decide (dY n ps R[k]=m)) H:=by unfold mB;rw[jG (ma:=aA 1) (mb:=aA 2) rfl rfl (K05.eq_int _ _)];rfl
   cases c:decide (dY n ps R[k]=m)with
   |true=>rw[c]at t;exact⟨t,rfl⟩
   |false=>rw[c]at t;exact t) (by lia)
 exact w.trans (congrArg (λl=>En l _) (EJ _ _ _))
theorem best_ok(o:Al n ps):∃i H',fG [aJ n ps] H=.ok (.ref i) H'/\getL H' i=some ((bst n ps).map bF)/\Fr [] H H'/\H.length<=i:=by obtain⟨i,H1,e1,g1,f1',l1⟩:=M5 (H:=H) o;have hl:=oO o (aq n);have w1:aR (aE fQ (aD (aA 0))) (aC 1) [some (aJ n ps),none,none] H=.nx [some (aJ n ps),some (.ref i),none] H1:=rM (lW (F:=fQ) rfl e1) rfl;have hs:=qB (M6 (M3 (ρ:=[some (aJ n ps),some (.ref i),none]) (x:=1) rfl g1) g1 hl);have gl:=last_get (H:=H1) (x:=(sps n ps).map Dz);have g2:=tO (l:=[Ea ((sps n ps).map Dz)]) g1;have f2:Fr [] H (H1++[Ea ((sps n ps).map Dz)]):=f1'.trans (T:=[]) Ec (by simp);have w2:aR (aE (f1 (lN fJ)) (aD (bE (uQ (aY bW (aA 1)))))) (aC 2) [some (aJ n ps),some (.ref i),none] H1=.nx [some (aJ n ps),some (.ref i),some (.int (fJ (sps n ps)))] (H1++[.lst ((sps n ps).map Dz)]):=rM (ET hs (M7 gl (sps_ne o))) rfl;have e3:=z2x (x0:=some (aJ n ps)) (m:=fJ (sps n ps)) g2 hl;refine⟨_,_,?_,last_get (H:=H1++[Ea ((sps n ps).map Dz)]),f2.trans (T:=[]) Ec (by simp),f2.le⟩;show cL (jD [some (aJ n ps),none,none] H)=_;rw[z2w,cF w1,cF w2];exact qC e3
theorem first_ok(o:Al n ps)(hb:0<(bst n ps).length):∃H',gR [aJ n ps] H=.ok (bF (bst n ps)[0]) H'/\Fr [] H H':=by obtain⟨i,H1,e1,g1,f1',l1⟩:=best_ok (H:=H) o;refine⟨H1,?_,f1'⟩;show cL (aL (m2 cB (aE fG (aD (aA 0))) (aK 0)) [some (aJ n ps)] H)=_;have x:=dN (j:=0) g1 (by simpa using hb);rw[List.getElem_map]at x;unfold aL;rw[jG (mb:=aK 0) (lW (F:=fG) (x:=0) rfl e1) rfl x];rfl
end
open L2.Mr.K04 (bF rws oO qB qC)
end L2.Mr.K06
namespace L2.Mr.Sp
open L2.Mr.Com
open L2.Mr.Cod (loose mem_loose Lse)
open L2.Mr.K04 (rws gS ext qA rO Bp Bf)
open L2.Mr.K05 (ix lT lU gH Bj rN oM dY fZ zE)
open L2.Mr.K06 (sps sps_ne bst ES)
section
variable{n m:Nat}{ps qs:wo}{r l:zr}
theorem M8:∀(k:Nat)(r:zr),r.length=k->(∀x∈r,0<=x/\x<n)->r.Nodup->r∈gS n k
 |0,r,h,_,_=>by rw[ye.mp h];simp[gS]
 |k+1,r,h,hr,nd=>by
  have hne:r≠[]:=by rintro rfl;simp at h
  have e:=List.dropLast_concat_getLast hne;have nd':=nd;rw[<-e]at nd';have nd2:=List.nodup_append.mp nd';have hl:r.dropLast.length=k:=by simp[h]
  have:=M8 k r.dropLast hl (λx hx=>hr x (by rw[<-e];exact cu _ hx)) nd2.1;rw[<-e];refine nt.mpr ⟨r.dropLast,this,gu.mpr ⟨r.getLast hne,Bf.mpr ⟨hr _ (List.getLast_mem hne),λz=>?_⟩,rfl⟩⟩;exact nd2.2.2 _ z _ (by simp) rfl
structure RowL(n:Nat)(ps:wo)(r:zr):Prop where
 rng:∀x∈r,0<=x/\x<n
 nd:r.Nodup
 len:r.length=n
 up:∀q∈ps,ix r q.1<ix r q.2
theorem RowL.mem(h:RowL n ps r){x:Int}(h0:0<=x)(h1:x<n):x∈r:=oM h.rng h.nd h.len h0 h1
theorem z2y(o:Al n ps):r∈rws n ps n↔RowL n ps r:=by
 rw[qA o,gm];constructor
 ·rintro ⟨h,k⟩
  obtain⟨a,b,c⟩:=rO n r h;refine⟨c,b,a,λq hq=>?_⟩;have g:=o.rng q hq;exact(Bp.mp k q hq (oM c b a g.2.2.1 g.2.2.2)).2
 ·intro h;refine⟨M8 n r h.len h.rng h.nd,Bp.mpr λq hq _=>?_⟩;have g:=o.rng q hq;exact⟨h.mem g.1 g.2.1,h.up q hq⟩
abbrev z2z(n:Nat)(ps:wo):Int:=fJ (sps n ps)
end
end L2.Mr.Sp
namespace L2.Mr.K03
open L2.Mr.Com
open L2.Mr.Sam
open L2.Mr.Gen
open L2.Mr.Cod (loose fR iE mem_loose Lse last_get eU dN)
end L2.Mr.K03
namespace L2.Mr.K81
open L2.Mr.Com
end L2.Mr.K81
namespace L2.Mr.Sp
open L2.Mr.Com
open L2.Mr.Cod (loose mem_loose Lse)
open L2.Mr.K05 (ix lT lU dY fZ zE)
open L2.Mr.K06 (sps sps_ne bst)
section
variable{n m:Nat}{ps qs:wo}{r:zr}{a b x:Int}
theorem bst_row(o:Al n ps)(h:r∈bst n ps):RowL n ps r/\dY n ps r=z2z n ps:=by obtain⟨h1,h2⟩:=gm.mp h;exact⟨(z2y o).mp h1,by simpa using h2⟩
end
end L2.Mr.Sp
namespace L2.Mr.Com
end L2.Mr.Com
namespace L2.Mr.K82
open L2.Mr.Gen
open L2.Mr.Com
open L2.Mr.Cod (last_get dN loose)
open L2.Mr.K04 (bF qB qC)
open L2.Mr.K05 (dY)
open L2.Mr.K06 (sps bst lW ET)
open L2.Mr.Sp
end L2.Mr.K82
namespace L2.Mr.K90
open L2.Mr.Com L2.Mr.Gen
open L2.Mr.Cod (last_get eU dN)
noncomputable def S(l:zt):Str:=⟨l.toArray⟩
theorem M9(l m:zt):S l++S m=S (l++m):=by show(⟨l.toArray++m.toArray⟩:Str)=⟨(l++m).toArray⟩;simp
theorem qD(l:zt):(S l).length=l.length:=by show l.toArray.size=_;simp
theorem S_emp:jo=S []:=rfl
theorem z30{k:Int}(h0:0<=k)(h1:k<10):ik (toString k)=S [48+k.toNat]:=by
 have h:∀k:Fin 10,ik (toString ((k.val:Nat):Int))=S [48+k.val]:=by decide+kernel
 have:=h ⟨k.toNat,by lia⟩;have e:((k.toNat:Nat):Int)=k:=by lia
 rw[<-e];exact this
theorem NA(g:zt):∀(xs:List zt)(acc:zt),List.foldl (λ(acc:Array Nat)(p:Str)=>acc++(S g).cps++p.cps) acc.toArray (xs.map S)=(acc++xs.flatMap λp=>g++p).toArray
 |[],acc=>by simp
 |x::xs,acc=>by
  have ih:=NA g xs (acc++g++x);rw[fw,List.foldl_cons];have e:acc.toArray++(S g).cps++(S x).cps=(acc++g++x).toArray:=by simp[S]
  rw[e,ih];simp
theorem z31(g x:zt)(xs:List zt):oq (S g) ((x::xs).map S)=S (x++xs.flatMap λp=>g++p):=by have:=NA g xs x;show(⟨_⟩:Str)=⟨_⟩;exact congrArg Str.mk this
noncomputable def gU(q:Int×Int):zt:=[48+q.1.toNat,60,48+q.2.toNat]
def tx(n:Nat)(ps:wo):zt:=[48+n,58]++ps.flatMap λq=>32::gU q
theorem z32(ps:wo):(ps.flatMap λq=>32::gU q).length=4*ps.length:=by
 induction ps with
 |nil=>rfl
 |cons q ps ih=>rw[iw,dw,ih];simp[gU];lia
open L2.Mr.Cod (last_get eU dN)
theorem z33:(":":Str)=S [58]:=by decide+kernel
theorem c_sp:(" ":Str)=S [32]:=by decide+kernel
theorem z34:("<":Str)=S [60]:=by decide+kernel
theorem z35:("":Str)=S []:=by decide+kernel
section
variable{n:Nat}{ps:wo}{H:Hs}{ρ:Ev}
theorem rP{k:Int}(h0:0<=k)(h1:k<10):dP (.int k) H=.ok (.str (S [48+k.toNat])) H:=by
 have h:∀k:Fin 10,(k.val).log2<1920:=by decide+kernel
 have hl:k.natAbs.log2<1920:=by have:=h ⟨k.natAbs,by lia⟩;exact this
 show(if k.natAbs.log2<1920 then _ else _)=_;rw[if_pos hl,z30 h0 h1]
theorem mJ_cons{m:M Dv}{ms:List (M Dv)}{l z:zt}(e:m ρ H=.ok (.str (S z)) H)(hl:l.length+z.length<=1000):gO (m::ms) (S l) ρ H=gO ms (S (l++z)) ρ H:=by
 have h2:(S l).length+(S z).length<=1000000:=by rw[qD,qD];lia
 show(m ρ H).bind _=_;rw[e,Rs.bind_ok];show(if(S l).length+(S z).length<=1000000 then _ else _)=_;rw[if_pos h2,M9]
theorem mJ_nil{l:zt}(hl:l.length<=1000):gO [] (S l) ρ H=.ok (.str (S l)) H:=by
 have h2:(S l).length<=1000000:=by rw[qD];lia
 show lim (S l).length _=_;unfold lim;rw[if_pos h2]
theorem fmt_V{m:M Dv}{k:Int}(e:m ρ H=.ok (.int k) H)(h0:0<=k)(h1:k<10):m1 dP m ρ H=.ok (.str (S [48+k.toNat])) H:=by unfold m1;rw[e,Rs.bind_ok,rP h0 h1]
theorem z36{l m:zt}(hl:l.length+m.length<=1000):rE (.str (S l)) (.str (S m)) H=.ok (.str (S (l++m))) H:=by
 have h2:(S l).length+(S m).length<=1000000:=by rw[qD,qD];lia
 show lim ((S l).length+(S m).length) _=_;unfold lim;rw[if_pos h2,M9]
theorem z37(xs:List zt):aW oI (xs.map λl=>Dy (S l))=some (xs.map S):=by
 induction xs with
 |nil=>rfl
 |cons x xs ih=>simp only[fw,aW,oI,ih]
theorem joinD_S{g:zt}{i:Nat}{xs:List zt}(e:getL H i=some (xs.map λl=>Dy (S l)))(hs:(xs.map oj).sum+xs.length*g.length<=16777216):lO (.str (S g)) (.ref i) H=.ok (.str (oq (S g) (xs.map S))) H:=by
 have h2:((xs.map S).map λx=>x.length).sum+(xs.map S).length*(S g).length<=16777216:=by
  have:(xs.map S).map (λx=>x.length)=xs.map oj:=by rw[lj];exact zq λx _=>qD x
  rw[this,cg,qD];exact hs
 simp only[lO,e,z37,h2,if_true]
theorem z38(xs:List zt):oq (S []) (xs.map S)=S xs.flatten:=by
 cases xs with
 |nil=>rfl
 |cons x xs=>rw[z31];simp[List.flatMap,List.flatten_cons]
theorem stM{f:Dv->Dv->Hs->Rs Dv}{mo me:M Dv}{z:Str}{y v:Dv}{H1 H2 H3:Hs}(e1:mo ρ H=.ok (.str z) H1)(e2:me ρ H1=.ok y H2)(e3:f (.str z) y H2=.ok v H3):hW f mo me ρ H=.ok v H3:=by unfold hW;rw[e1,Rs.bind_ok];show(me ρ H1).bind _=_;rw[e2,Rs.bind_ok,e3]
theorem NB(c:Nat):∀(xs:List zt),(∀x∈xs,x.length<=c)->(xs.map oj).sum<=xs.length*c
 |[],_=>by simp
 |x::xs,h=>by have:=NB c xs λy hy=>h y (az _ hy);have hx:=h x (bo ..);rw[fw,List.sum_cons,br,Nat.add_mul];lia
def EW:M Dv:=gO [(m1 dP (aA 1)),(mC (.str ":"))] jo
def uR:M zw:=bJ (aY eW (aA 2)) [none,none] (cQ 2 (aV (aC 0) (aV (aC 1) cP))) bN (bD (gO [(mC (.str " ")),(m1 dP (aA 0)),(mC (.str "<")),(m1 dP (aA 1))] jo))
theorem z39:iZ=aG (dR (aE cX (aD (aA 0)))) (aG (aR (aA 0) (cQ 2 (aV (aC 1) (aV (aC 2) cP)))) (aL (m2 rE EW (hW lO (mC (.str "")) (bE uR))))):=rfl
theorem z3a(h1:aA 1 ρ=λH=>.ok (.int n) H)(hn:n<=6):EW ρ H=.ok (.str (S [48+n,58])) H:=by
 have e1:=fmt_V (ρ:=ρ) (H:=H) (m:=aA 1) (k:=(n:Int)) (by rw[h1]) (by lia) (by lia);have e2:mC (.str ":") ρ H=.ok (.str (S [58])) H:=by rw[z33];rfl
 unfold EW;rw[S_emp,mJ_cons e1 (by simp),mJ_cons e2 (by simp),mJ_nil (by simp)];simp
theorem z3b{q:Int×Int}(r:0<=q.1/\q.1<n/\0<=q.2/\q.2<n)(hn:n<=6):gO [(mC (.str " ")),(m1 dP (aA 0)),(mC (.str "<")),(m1 dP (aA 1))] jo [some (.int q.1),some (.int q.2)] H=.ok (.str (S (32::gU q))) H:=by
 have e0:mC (.str " ") [some (.int q.1),some (.int q.2)] H=.ok (.str (S [32])) H:=by rw[c_sp];rfl
 have e1:=fmt_V (ρ:=[some (.int q.1),some (.int q.2)]) (H:=H) (m:=aA 0) (k:=q.1) rfl (by lia) (by lia);have e2:mC (.str "<") [some (.int q.1),some (.int q.2)] H=.ok (.str (S [60])) H:=by rw[z34];rfl
 have e3:=fmt_V (ρ:=[some (.int q.1),some (.int q.2)]) (H:=H) (m:=aA 1) (k:=q.2) rfl (by lia) (by lia);rw[S_emp,mJ_cons e0 (by simp),mJ_cons e1 (by simp),mJ_cons e2 (by simp),mJ_cons e3 (by simp),mJ_nil (by simp)];simp[gU]
theorem z3c(o:Al n ps){x0 x1:zx}:uR [x0,x1,some (.tup (ps.map aQ))] H=.ok ((ps.map λq=>32::gU q).map λl=>Dy (S l)) H:=by have w:uR [x0,x1,some (.tup (ps.map aQ))] H=.ok (ps.filterMap λq=>some (Dy (S (32::gU q)))) H:=jF ps _ (λρ=>∃a b,ρ=[a,b]) (src:=eB (ps.map aQ)) rfl (by simp[eB]) ⟨_,_,rfl⟩ rfl (λk hk ρ⟨a,b,e⟩=>by subst e;exact⟨aQ ps[k],[some (.int ps[k].1),some (.int ps[k].2)],by simp[eB,hk],rfl,⟨_,_,rfl⟩,rfl,z3b (o.rng _ (gn hk)) o.n6⟩) (by have:=o.len;lia);rw[w];simp[sk]
end
open L2.Mr.Cod (last_get eU dN)
theorem need_ok{n:Nat}{ps:wo}{H:Hs}(o:Al n ps):cX [aJ n ps] H=.ok .non H:=Cod.need_ok o
section
variable{n:Nat}{ps:wo}{H:Hs}{ρ:Ev}
theorem z3d{F:zv}{a v:Dv}(ha:aA 0 ρ=λH=>.ok a H)(e:F [a] H=.ok v H):dR (aE F (aD (aA 0))) ρ H=.nx ρ H:=by simp[dR,aE,aN,ha,bV,e]
theorem z3e(o:Al n ps)(f:Int×Int->zt)(hf:∀q,(f q).length<=4):((ps.map f).map oj).sum<=144:=by
 have h:=NB 4 (ps.map f) λx hx=>by obtain⟨q,_,rfl⟩:=gu.mp hx;exact hf q
 have:=o.len;rw[cg]at h;lia
theorem z3f(o:Al n ps){x0 x1:zx}:∃H',hW lO (mC (.str "")) (bE uR) [x0,x1,some (.tup (ps.map aQ))] H=.ok (.str (S (ps.flatMap λq=>32::gU q))) H'/\Fr [] H H':=by
 have e:=z3c (H:=H) (x0:=x0) (x1:=x1) o;have ea:bE uR [x0,x1,some (.tup (ps.map aQ))] H=.ok (.ref H.length) (H++[.lst ((ps.map λq=>32::gU q).map λl=>Dy (S l))]):=by unfold bE;rw[e];rfl
 have g:getL (H++[Ea ((ps.map λq=>32::gU q).map λl=>Dy (S l))]) H.length=some ((ps.map λq=>32::gU q).map λl=>Dy (S l)):=last_get;have f:Fr [] H (H++[Ea ((ps.map λq=>32::gU q).map λl=>Dy (S l))]):=Ec;generalize H++[Ea ((ps.map λq=>32::gU q).map λl=>Dy (S l))]=H1 at ea g f;have e0:mC (.str "") [x0,x1,some (.tup (ps.map aQ))] H=.ok (.str (S [])) H:=by rw[z35];rfl
 have hs:=z3e o (λq=>32::gU q) (λq=>by simp[gU]);have ej:=joinD_S (g:=[]) g (by rw[kr,Nat.mul_zero];lia);rw[z38]at ej;refine⟨H1,?_,f⟩;have:=stM e0 ea ej;rw[this];rfl
theorem otext_ok(o:Al n ps):∃H',jA [aJ n ps] H=.ok (.str (S (tx n ps))) H'/\Fr [] H H':=by
 have w1:dR (aE cX (aD (aA 0))) [some (aJ n ps),none,none] H=.nx [some (aJ n ps),none,none] H:=z3d rfl (need_ok o);have w2:aR (aA 0) (cQ 2 (aV (aC 1) (aV (aC 2) cP))) [some (aJ n ps),none,none] H=.nx [some (aJ n ps),some (.int n),some (.tup (ps.map aQ))] H:=rfl;have e1:=z3a (H:=H) (n:=n) (ρ:=[some (aJ n ps),some (.int n),some (.tup (ps.map aQ))]) rfl o.n6;obtain⟨H',e2,f⟩:=z3f (H:=H) (x0:=some (aJ n ps)) (x1:=some (.int n)) o;have hl:(ps.flatMap λq=>32::gU q).length<=144:=by rw[z32];have:=o.len;lia
 have e3:=jG e1 e2 (z36 (H:=H') (by simp only[br,kr];lia));refine⟨H',?_,f⟩;show cL (iZ [some (aJ n ps),none,none] H)=_;rw[z39,cF w1,cF w2];unfold aL;rw[e3];rfl
end
end L2.Mr.K90
namespace L2.Mr.K93
open L2.Mr.Com L2.Mr.Gen
open L2.Mr.Cod (last_get eU dN)
noncomputable def rq(a b c:Nat):zw:=[.bl (a==c),.bl (a+1==c),.bl (a+2==c)].take b
def Ak:M zw:=(gB (m1 (bR (dW none tbl0)) (aA 1)) (m1 (bR (dW none tbl1)) (aA 1)) (m1 (bR (dW none tbl2)) (aA 1)))
def Bu:M zw:=(gB (m1 (bR (dW none tbl3)) (aA 1)) (m1 (bR (dW none tbl4)) (aA 1)) (m1 (bR (dW none tbl5)) (aA 1)))
def Ct:M zw:=(gB (m1 (bR (dW none tbl6)) (aA 1)) (m1 (bR (dW none tbl7)) (aA 1)) (m1 (bR (dW none tbl8)) (aA 1)))
def rQ:M zw:=(bB (m1 (bR (dW none tbl9)) (aA 1)) (m1 (bR (dW none tbl10)) (aA 1)))
def zI:M zw:=bJ (aU fN (aD (aK 11))) [none,some 3] (aC 0) (bZ (m2 cB (aA 1) (aA 0))) (bD (aA 0))
def NC:MS:=cA (dI (bZ (m1 (bR (dW none tblV)) (aA 1)))) (aL (mC .non)) cK
theorem z3g:jZ=aG (aR (bC Ak) (aC 3)) (aG (aR (m2 bX (aA 3) (bC Bu)) (aC 3)) (aG (aR (m2 bX (aA 3) (bC Ct)) (aC 3)) (aG (aR (m2 bX (aA 3) (bC rQ)) (aC 3)) (aG NC (aL (bE zI)))))):=rfl
section
variable{c:Nat}(hc:c=9) {H:Hs}{x0 x2 x3:zx}
include hc
theorem z3h:bC Ak [x0,some (.exc c),x2,x3] H=.ok (.ref H.length) (H++[.lst (rq 0 3 c)]):=by subst hc;rfl
theorem z3i:bC Bu [x0,some (.exc c),x2,x3] H=.ok (.ref H.length) (H++[.lst (rq 3 3 c)]):=by subst hc;rfl
theorem z3j:bC Ct [x0,some (.exc c),x2,x3] H=.ok (.ref H.length) (H++[.lst (rq 6 3 c)]):=by subst hc;rfl
theorem z3k:bC rQ [x0,some (.exc c),x2,x3] H=.ok (.ref H.length) (H++[.lst (rq 9 2 c)]):=by subst hc;rfl
theorem z3l:NC [x0,some (.exc c),x2,x3] H=.nx [x0,some (.exc c),x2,x3] H:=by subst hc;rfl
theorem z3m{i:Nat}(e:getL H i=some ((cf 11).map λk=>Ep (k==c))):zI [x0,some (.exc c),x2,some (.ref i)] H=.ok [.int c] H:=by
 have h:zI [x0,some (.exc c),x2,some (.ref i)] H=.ok ((cf 11).filterMap λk=>if k==c then some (.int k)else none) H:=
  jF (cf 11) (λk=>if k==c then some (.int (k:Nat))else none) (λρ=>∃a,ρ=[a,some (.ref i)]) (src:=hG 0 11) rfl rfl ⟨_,rfl⟩ rfl (λk hk ρ⟨a,e'⟩=>by
   subst e';have hk':k<11:=by simpa using hk
   refine⟨.int (0+k),[some (.int (0+k)),some (.ref i)],rfl,rfl,⟨_,rfl⟩,?_⟩;have ht:=dN (H:=H) (j:=k) e (by simpa using hk');rw[List.getElem_map,qe]at ht;have h0:(0+(k:Int))=(k:Int):=by lia
   rw[h0,qe]
   cases q:k==c with
   |true=>simp[bZ,m2,aA,ht,q,nK]
   |false=>simp[bZ,m2,aA,ht,q,nK]) (by simp)
 rw[h];subst hc;rfl
theorem z3n:∃i H',tK 4 11 jZ (.ex c H)=.ok (.ref i) H'/\getL H' i=some [.int c]/\Fr [] H H':=by
 obtain⟨H1,hH1⟩:∃H1,H1=H++[Ea (rq 0 3 c)]:=⟨_,rfl⟩
 have g1:getL H1 H.length=some (rq 0 3 c):=by rw[hH1];exact last_get
 have f1:Fr [] H H1:=by rw[hH1];exact Ec
 have w1:∀x0 x2 x3,aR (bC Ak) (aC 3) [x0,some (.exc c),x2,x3] H=.nx [x0,some (.exc c),x2,some (.ref H.length)] H1:=λx0 x2 x3=>by unfold aR;rw[z3h hc,hH1];rfl
 have step:∀(G0:Hs)(i:Nat)(xs ys:zw)(m:M zw ),getL G0 i=some xs->(∀x0 x2 x3(G:Hs),bC m [x0,some (.exc c),x2,x3] G=.ok (.ref G.length) (G++[.lst ys]))->xs.length+ys.length<=500->
   ∃G' j,(∀x0 x2,aR (m2 bX (aA 3) (bC m)) (aC 3) [x0,some (.exc c),x2,some (.ref i)] G0=.nx [x0,some (.exc c),x2,some (.ref j)] G')/\getL G' j=some (xs++ys)/\Fr [] G0 G':=by
  intro G0 i xs ys m e hm hl;refine⟨_,_,λx0 x2=>?_,last_get (H:=G0++[.lst ys]) (x:=xs++ys),Fr.trans (T:=[]) Ec Ec (by simp)⟩;have a:=eU (H:=G0++[.lst ys]) (tO e) (last_get (H:=G0) (x:=ys)) hl;unfold aR;rw[MM rfl (hm _ _ _ _) a];rfl
 obtain⟨H2,i2,w2,g2,f2⟩:=step H1 H.length (rq 0 3 c) (rq 3 3 c) Bu g1 (λ_ _ _ _=>z3i hc) (by simp[rq]);obtain⟨H3,i3,w3,g3,f3⟩:=step H2 i2 _ (rq 6 3 c) Ct g2 (λ_ _ _ _=>z3j hc) (by simp[rq]);obtain⟨H4,i4,w4,g4,f4⟩:=step H3 i3 _ (rq 9 2 c) rQ g3 (λ_ _ _ _=>z3k hc) (by simp[rq]);have g5':getL H4 i4=some ((cf 11).map λk=>Ep (k==c)):=by rw[g4];rfl
 refine⟨H4.length,H4++[.lst [.int c]],?_,last_get,((f1.trans f2 (by simp)).trans f3 (by simp)).trans (T:=[]) (f4.trans (T:=[]) Ec (by simp)) (by simp)⟩;have hlt:c<11:=by lia
 show(if c<11 then tJ (jZ (nU 4 (.exc c)) H)else .bad)=_;rw[if_pos hlt,z3g];show tJ (aG _ _ [none,some (.exc c),none,none] H)=_;rw[cF (w1 _ _ _),cF (w2 _ _),cF (w3 _ _),cF (w4 _ _),cF (z3l hc)];have hr:bE zI [none,some (.exc c),none,some (.ref i4)] H4=.ok (.ref H4.length) (H4++[.lst [.int c]]):=by unfold bE;rw[z3m hc g5'];rfl
 unfold aL;rw[hr];rfl
theorem z3o{caps:zt}{vs:zw}{me:M Dv}{ρ:Ev}{H0:Hs}(hρ:nV caps ρ=some vs)(hm:me (vs.map some) H0=.ex c H)(f0:Fr [] H0 H):
  ∃H',mB (m2 dU (mI caps 4 11 jZ me) (bC (aD (aK c)))) ρ H0=.ok false H'/\Fr [] H0 H':=by
 obtain⟨i,H1,e1,g1,f1⟩:=z3n hc (H:=H);refine⟨H1++[.lst [.int c]],?_,f0.trans (f1.trans (T:=[]) Ec (by simp)) (by simp)⟩;have a:mI caps 4 11 jZ me ρ H0=.ok (.ref i) H1:=by unfold mI;rw[hρ];show tK 4 11 jZ (me (vs.map some) H0)=_;rw[hm,e1]
 have b:bC (aD (aK c)) ρ H1=.ok (.ref H1.length) (H1++[.lst [.int c]]):=rfl;have d:dU (.ref i) (.ref H1.length) (H1++[.lst [.int c]])=.ok (.bl false) (H1++[.lst [.int c]]):=by have q1:=tO (l:=[.lst [.int c]]) g1;have q2:=last_get (H:=H1) (x:=[.int c]);simp[dU,cY,cU,q1,q2,aW,bH,jK]
 unfold mB m2;rw[a,Rs.bind_ok,b,Rs.bind_ok,d];rfl
end
open L2.Mr.K02 (jX kW jY kX)
open L2.Mr.K05 (cX mb_ql fF fW eE hX jV kS jW kT gQ hY gF hZ iY kU)
open L2.Mr.K82 (jE lA)
open L2.Mr.K04 (gG iA)
open L2.Mr.K06 (fX iB fQ jB jC kY fG jD gR kZ)
open L2.Mr.K90 (jA iZ)
def y1:MS:=(cA (dI (bZ (m1 (bR nX) (aA 1)))) (gL 9 (aD (mC (.str "a line is a text")))) cK)
def y2:MS:=(xU (hW pV (aA 1) (mC (.str " "))) (aV (aC 2) (aV (aC 3) cP)))
def y3:MS:=(aR (bE (rF (aY bW (aA 3)) [none] (aC 0) bN (aE lQ (aD (aA 0))))) (aC 4))
def y4:MS:=(cA (dS (mB (m1 (tX rJ) (aA 2))) (dI (bZ (aA 4)))) (tY Au 5 (aA 2) (m1 (hV 0) (aA 0))) cK)
def y5:MS:=(cA (dS (mB (m2 cO (aA 2) (mC (.str "span")))) (bZ (aA 4))) (aL (aE (f1 dP) (aD (aE iY (bB (m1 (hV 0) (aA 0)) (aE (f1 qP) (aD (aA 4)))))))) cK)
def y6:MS:=(cA (dS (mB (m2 cO (aA 2) (mC (.str "things")))) (dS (mB (m2 cO (aE (f1 eQ) (aD (aA 4))) (aK 1))) (mB (jL iN iN (aK 1) (m2 cB (aA 4) (aK 0)) (aK 6))))) (aL (fB tZ (aA 0) (aD (bS (bB (m2 cB (aA 4) (aK 0)) (bS bV)))))) cK)
def y7:MS:=(cA (dS (mB (m2 cO (aA 2) (mC (.str "ahead")))) (mB (m2 cO (aE (f1 eQ) (aD (aA 4))) (aK 2)))) (aL (fB tZ (aA 0) (aD (aE DA (gB (m1 (hV 0) (aA 0)) (m2 cB (aA 4) (aK 0)) (m2 cB (aA 4) (aK 1))))))) cK)
def y8:MS:=(cA (dS (mB (m2 cO (aA 2) (mC (.str "back")))) (dI (bZ (aA 4)))) (aL (fB DB (aA 0) bV)) cK)
def y9:MS:=(gL 9 (aD (mC (.str "a desk knows no such line"))))
theorem EX:uA=(aG y1 (aG y2 (aG y3 (aG y4 (aG y5 (aG y6 (aG y7 (aG y8 y9)))))))):=rfl
abbrev EY:MS:=(aG y4 (aG y5 (aG y6 (aG y7 (aG y8 y9)))))
section
variable{H H3:Hs}{d j:Nat}{z w:Str}{ws:zu}{ns:zr}{x0 x1 x3:zx}
theorem ND:y1 [some (.ref d),some (.str z),none,none,none,none] H=.nx [some (.ref d),some (.str z),none,none,none,none] H:=rfl
theorem NF(hs:lr z " "=w::ws)(hz:z.length<=1000000)(hl:ws.length<=1000):y2 [some (.ref d),some (.str z),none,none,none,none] H=.nx [some (.ref d),some (.str z),some (.str w),some (.ref (H++[Ea ((w::ws).map Dy)]).length),none,none] ((H++[.lst ((w::ws).map Dy)])++[.lst (ws.map Dy)]):=by
 have e:hW pV (aA 1) (mC (.str " ")) [some (.ref d),some (.str z),none,none,none,none] H=.ok (.ref H.length) (H++[.lst ((w::ws).map Dy)]):=by show pV (.str z) (.str " ") H=_;simp only[pV];rw[if_pos ⟨by decide,hz,by rw[hs];simp;lia⟩,hs]
 have g:getL (H++[Ea ((w::ws).map Dy)]) H.length=some ((w::ws).map Dy):=last_get;unfold y2 xU;rw[e];generalize H++[Ea ((w::ws).map Dy)]=H1 at g⊢;show(match getL H1 H.length with
  |some (x::xs)=>_
  |_=>_)=_
 rw[g];simp only[fw,cg];rw[if_pos hl];rfl
def kA(w:Str):Option Int:=match lQ [.str w] []with
 |.ok (.int k) _=>some k
 |_=>none
def zJ(w:Str):Prop:=∀H:Hs,lQ [.str w] H=match kA w with
 |some k=>.ok (.int k) H
 |none=>.ex 9 H
theorem NG{i:Nat}(g:getL H i=some (ws.map Dy))(hw:ws.length<=1000)(hn:∀w∈ws,zJ w):∀f k a acc,f+k=ws.length->acc.length<=k->
  kR (bU i ws.length) (aC 0) bN (aE lQ (aD (aA 0))) f k [a] H acc=match aW kA (ws.drop k)with
   |some ns=>.ok (acc++ns.map Dz) H
   |none=>.ex 9 H
 |0,k,a,acc,h,hl=>by rw[List.drop_of_length_le (by lia)];simp[kR,bU,g,aW]
 |f+1,k,a,acc,h,hl=>by
  have hk:k<ws.length:=by lia
  rw[xj hk];have hd:(bU i ws.length).get k H=some (.str ws[k]):=by simp[bU,g,hk]
  have e:=hn ws[k] (gn hk) H;unfold kR;rw[hd];simp only[aW];show(aE lQ (aD (aA 0)) [some (.str ws[k])] H).bind _=_;have e2:aE lQ (aD (aA 0)) [some (.str ws[k])] H=lQ [.str ws[k]] H:=rfl;rw[e2,e]
  cases q:kA ws[k]with
  |none=>rfl
  |some v=>
   dsimp only;rw[Rs.bind_ok,if_pos (by lia),show[a].set 0 (some (Dy ws[k]))=[some (.str ws[k])] from rfl,NG g hw hn f (k+1) _ _ (by lia) (by simp;lia)]
   cases aW kA (ws.drop (k+1))with
   |none=>rfl
   |some ns=>simp
end
section
variable{H H2 H3:Hs}{d i j:Nat}{z w:Str}{ws:zu}{ns:zr}{x0 x1 x2 x3 x5:zx}
theorem NH(g:getL H2 i=some (ws.map Dy))(hl:ws.length<=1000)(hn:∀w∈ws,zJ w):y3 [x0,x1,x2,some (.ref i),none,none] H2=match aW kA ws with
  |some ns=>.nx [x0,x1,x2,some (.ref i),some (.ref H2.length),none] (H2++[.lst (ns.map Dz)])
  |none=>.ex 9 H2:=by
 have e:rF (aY bW (aA 3)) [none] (aC 0) bN (aE lQ (aD (aA 0))) [x0,x1,x2,some (.ref i),none,none] H2=match aW kA ws with
   |some ns=>.ok (ns.map Dz) H2
   |none=>.ex 9 H2:=by
  have e1:(aY bW (aA 3)) [x0,x1,x2,some (.ref i),none,none] H2=.ok (bU i ws.length) H2:=by
   show(match getL H2 i with
    |some xs=>En (bU i xs.length) H2
    |none=>.bad)=_
   rw[g];simp
  unfold rF;rw[e1,Rs.bind_ok];have:=NG g hl hn ws.length 0 none [] (by lia) (by simp);simp only[qd,List.nil_append]at this;exact this
 have lm:∀ns,aW kA ws=some ns->ns.length<=1000:=by
  intro ns h;have:∀(l:zu)(ns:zr),aW kA l=some ns->ns.length=l.length:=by
   intro l
   induction l with
   |nil=>intro ns h;cases h;rfl
   |cons x xs ih=>
    intro ns h;simp only[aW]at h
    split at h
    ·cases h
    ·split at h
     ·cases h
     ·rename_i q;cases h;simp[ih _ q]
  rw[this ws ns h];exact hl
 unfold y3 aR bE;rw[e]
 cases q:aW kA ws with
 |none=>rfl
 |some ns=>dsimp only;rw[Rs.bind_ok];rfl
end
section
variable{H H2 H3:Hs}{d i j:Nat}{z w:Str}{ws:zu}{ns:zr}{x0 x1 x2 x3 x5:zx}{ρ:Ev}
theorem qE{t u:M Bool}{a b:Bool}(e1:t ρ H=.ok a H)(e2:a=true->u ρ H=.ok b H):dS t u ρ H=.ok (a&&b) H:=by
 unfold dS;rw[e1,Rs.bind_ok]
 cases a with
 |true=>rw[if_pos rfl,e2 rfl];rfl
 |false=>rfl
theorem zK{x:Nat}{b:Str}(h:aA x ρ=λH=>.ok (.str w) H):mB (m2 cO (aA x) (mC (.str b))) ρ H=.ok (w==b) H:=by unfold mB m2;rw[h];rfl
theorem NI(g:getL H j=some (ns.map Dz))(h:aA 4 ρ=λH=>.ok (.ref j) H):bZ (aA 4) ρ H=.ok (!ns.isEmpty) H:=by
 unfold bZ;rw[h];show(match getL H j with
  |some xs=>En (!xs.isEmpty) H
  |none=>.bad)=_
 rw[g]
 cases ns<;>rfl
theorem EZ(g:getL H j=some (ns.map Dz))(h:aA 4 ρ=λH=>.ok (.ref j) H):dI (bZ (aA 4)) ρ H=.ok ns.isEmpty H:=by unfold dI;rw[NI g h,Rs.bind_ok,Bool.not_not]
theorem NJ{k:Int}(g:getL H j=some (ns.map Dz))(h:aA 4 ρ=λH=>.ok (.ref j) H):mB (m2 cO (aE (f1 eQ) (aD (aA 4))) (aK k)) ρ H=.ok ((ns.length:Int)==k) H:=by
 have e:aE (f1 eQ) (aD (aA 4)) ρ H=.ok (.int ns.length) H:=by show(((aA 4 ρ H).bind _).bind _)=_;rw[h];show(if jT (.ref j)=true then lK [] (.ref j) H else .bad)=_;rw[if_pos (show jT (Dv.ref j)=true from rfl)];unfold lK;have:gX [] (.ref j) H=some (ns.map Dz):=g;rw[this];simp
 unfold mB m2;rw[e];rfl
noncomputable def zL:zr->Bool
 |[k]=>decide (1<=k)&&decide (k<=6)
 |_=>false
theorem z3p(g:getL H j=some (ns.map Dz))(h:aA 4 ρ=λH=>.ok (.ref j) H):dS (mB (m2 cO (aE (f1 eQ) (aD (aA 4))) (aK 1))) (mB (jL iN iN (aK 1) (m2 cB (aA 4) (aK 0)) (aK 6))) ρ H=.ok (zL ns) H:=by
 have e1:=NJ (k:=1) g h
 match ns,g with
 |[],g=>unfold dS;rw[e1];rfl
 |k::l::ns,g=>
  unfold dS;rw[e1,Rs.bind_ok,if_neg]
  ·rfl
  ·have:((k::l::ns).length:Int)≠1:=by simp only[br];lia
   simpa using this
 |[k],g=>
  have e2:m2 cB (aA 4) (aK 0) ρ H=.ok (.int k) H:=by unfold m2;rw[h];exact dN (j:=0) g (by simp)
  refine(qE (b:=zL [k]) e1 λ_=>?_).trans rfl;unfold mB jL;show((m2 cB (aA 4) (aK 0) ρ H).bind _).bind _=_;rw[e2,Rs.bind_ok];show((En (Ep (decide ((1:Int)<=k))) H).bind _).bind _=_;rw[Rs.bind_ok];rw[show zL [k]=(decide ((1:Int)<=k)&&decide (k<=(6:Int))) from rfl]
  cases decide ((1:Int)<=k)<;>rfl
def E1(w:Str)(ns:zr):Bool:=!(decide (w∈rJ)&&ns.isEmpty)&&(!(w==("span":Str)&&!ns.isEmpty)&&(!(w==("things":Str)&&zL ns)&&(!(w==("ahead":Str)&&((ns.length:Int)==2))&&!(w==("back":Str)&&ns.isEmpty))))
theorem z3q(g:getL H j=some (ns.map Dz))(hb:E1 w ns=true):EY [x0,x1,some (.str w),x3,some (.ref j),x5] H=.ex 9 H:=by simp only[E1,dh,qu]at hb;obtain⟨b4,b5,b6,b7,b8⟩:=hb;have v:aA 4 [x0,x1,some (.str w),x3,some (.ref j),x5]=λH=>.ok (.ref j) H:=rfl;have u:aA 2 [x0,x1,some (.str w),x3,some (.ref j),x5]=λH=>.ok (.str w) H:=rfl;have n4:y4 [x0,x1,some (.str w),x3,some (.ref j),x5] H=.nx [x0,x1,some (.str w),x3,some (.ref j),x5] H:=nZ ((qE rfl λ_=>EZ g v).trans (by rw[b4]));have n5:y5 [x0,x1,some (.str w),x3,some (.ref j),x5] H=.nx [x0,x1,some (.str w),x3,some (.ref j),x5] H:=nZ ((qE (zK u) λ_=>NI g v).trans (by rw[b5]));have n6:y6 [x0,x1,some (.str w),x3,some (.ref j),x5] H=.nx [x0,x1,some (.str w),x3,some (.ref j),x5] H:=nZ ((qE (zK u) λ_=>z3p g v).trans (by rw[b6]));have n7:y7 [x0,x1,some (.str w),x3,some (.ref j),x5] H=.nx [x0,x1,some (.str w),x3,some (.ref j),x5] H:=nZ ((qE (zK u) λ_=>NJ g v).trans (by rw[b7]));have n8:y8 [x0,x1,some (.str w),x3,some (.ref j),x5] H=.nx [x0,x1,some (.str w),x3,some (.ref j),x5] H:=nZ ((qE (zK u) λ_=>EZ g v).trans (by rw[b8]));unfold EY;rw[cF n4,cF n5,cF n6,cF n7,cF n8];rfl
def E2(z:Str):Bool:=match lr z " " with
 |w::ws=>decide (z.length<=1000000)&&(decide (ws.length<=1000)&&match aW kA ws with
  |some ns=>E1 w ns
  |none=>true)
 |[]=>false
noncomputable def E3(z:Str):zu:=(lr z " ").tail
theorem NK{a b:MS}{c:Nat}{H':Hs}(h:a ρ H=.ex c H'):aG a b ρ H=.ex c H':=by unfold aG;rw[h]
theorem z3r(hb:E2 z=true)(hn:∀w∈E3 z,zJ w):∃H',fY [.ref d,.str z] H=.ex 9 H'/\Fr [] H H':=by
 unfold E2 at hb;unfold E3 at hn
 cases hs:lr z " " with
 |nil=>rw[hs]at hb;cases hb
 |cons w ws=>
  rw[hs]at hb hn;simp only[dh,decide_eq_true_eq,List.tail_cons]at hb hn;obtain⟨hz,hl,hb⟩:=hb;show ∃H',cL (uA [some (.ref d),some (.str z),none,none,none,none] H)=.ex 9 H'/\_;rw[EX,cF ND,cF (NF hs hz hl)];have f1:Fr [] H (H++[Ea ((w::ws).map Dy)]):=Ec;generalize H++[Ea ((w::ws).map Dy)]=H1 at f1⊢;have f2:Fr [] H1 (H1++[Ea (ws.map Dy)]):=Ec;have g2:getL (H1++[Ea (ws.map Dy)]) H1.length=some (ws.map Dy):=last_get;generalize H1++[Ea (ws.map Dy)]=H2 at f2 g2⊢;have e3:=NH (x0:=some (.ref d)) (x1:=some (.str z)) (x2:=some (.str w)) g2 hl hn
  cases q:aW kA ws with
  |none=>rw[q]at e3;rw[NK e3];exact⟨H2,rfl,f1.trans f2 (by simp)⟩
  |some ns=>rw[q]at e3 hb;rw[cF e3];have f3:Fr [] H2 (H2++[Ea (ns.map Dz)]):=Ec;have g3:getL (H2++[Ea (ns.map Dz)]) H2.length=some (ns.map Dz):=last_get;generalize H2++[Ea (ns.map Dz)]=H3 at f3 g3⊢;have e:=z3q (x0:=some (.ref d)) (x1:=some (.str z)) (x3:=some (.ref H1.length)) (x5:=none) g3 hb;exact⟨H3,by show cL (EY _ H3)=_;rw[e];rfl,(f1.trans f2 (by simp)).trans f3 (by simp)⟩
end
def NL:M zw:=(aN (mC (.str "")) (aN (mC (.str " ")) (aN (mC (.str "things")) (aN (mC (.str "things ")) (aN (mC (.str "things 0")) (aN (mC (.str "things 7")) (gK (mC (.str "things 10")) (mC (.str "things 03")) (mC (.str "things -1")) (mC (.str "things x")))))))))
def NM:M zw:=(aN (mC (.str "things 3 3")) (aN (mC (.str "things  3")) (aN (mC (.str " things 3")) (aN (mC (.str "Things 3")) (gK (mC (.str "thing 3")) (mC (.str "ahead")) (mC (.str "ahead ")) (mC (.str "ahead 0")))))))
def NN:M zw:=(aN (mC (.str "ahead 0 ")) (aN (mC (.str "ahead 0 1 2")) (aN (mC (.str "ahead 0  1")) (gK (mC (.str "ahead x 1")) (mC (.str "ahead 0 x")) (mC (.str "ahead 00 1")) (mC (.str "ahead 0 -1"))))))
def NO:M zw:=(aN (mC (.str "ahead 0<1")) (aN (mC (.str "aheads 0 1")) (aN (mC (.str "back ")) (aN (mC (.str "back 1")) (aN (mC (.str "Back")) (gK (mC (.str "order ")) (mC (.str "order 1")) (mC (.str "orders")) (mC (.str "loose 0"))))))))
def NP:M zw:=(aN (mC (.str "least ")) (aN (mC (.str "least 2")) (aN (mC (.str "best 0")) (aN (mC (.str "bests")) (aN (mC (.str "many ")) (aN (mC (.str "many 1")) (gK (mC (.str "span")) (mC (.str "span ")) (mC (.str "span 0 ")) (mC (.str "span x")))))))))
def NQ:M zw:=(aN (mC (.str "span 01")) (aN (mC (.str "span 0,1")) (gK (mC (.str "spans 0")) (mC (.str "none")) (mC (.str "0")) (mC (.str "1:")))))
def NR:M zw:=(aN (mC .non) (aN (aK 7) (aN (mC (.bl true)) (aN (bS (aD (mC (.str "order")))) (gK (bC (aD (mC (.str "order")))) (mC .edc) (mC (.str "order\n")) (bS (bB (aK 1) (bS bV))))))))
theorem z3s:DC=(aG (aR (bC NL) (aC 1)) (aG (aR (m2 bX (aA 1) (bC NM)) (aC 1)) (aG (aR (m2 bX (aA 1) (bC NN)) (aC 1)) (aG (aR (m2 bX (aA 1) (bC NO)) (aC 1)) (aG (aR (m2 bX (aA 1) (bC NP)) (aC 1)) (aG (aR (m2 bX (aA 1) (bC NQ)) (aC 1)) (aG (aR (m2 bX (aA 1) (bC NR)) (aC 1)) (aL (m2 cB (aA 1) (m2 jS (aA 0) (aE (f1 eQ) (aD (aA 1))))))))))))):=rfl
noncomputable def tl1:zu:=[""," ","things","things ","things 0","things 7","things 10","things 03","things -1","things x"]
noncomputable def tl2:zu:=["things 3 3","things  3"," things 3","Things 3","thing 3","ahead","ahead ","ahead 0"]
noncomputable def tl3:zu:=["ahead 0 ","ahead 0 1 2","ahead 0  1","ahead x 1","ahead 0 x","ahead 00 1","ahead 0 -1"]
def tl4:zu:=["ahead 0<1","aheads 0 1","back ","back 1","Back","order ","order 1","orders","loose 0"]
noncomputable def tl5:zu:=["least ","least 2","best 0","bests","many ","many 1","span","span ","span 0 ","span x"]
noncomputable def tl6:zu:=["span 01","span 0,1","spans 0","none","0","1:"]
def badT:zu:=tl1++tl2++tl3++tl4++tl5++tl6++(["order\n"]:zu)
noncomputable def E4:zu:=["","0","7","10","03","-1","x","3","1","2","00","0<1","01","0,1","things"]
theorem z3t:∀w∈E4,zJ w:=by
 intro w h;unfold E4 at h
 repeat' (first|exact absurd h List.not_mem_nil|(rcases bh.mp h with rfl|h;exact λH=>by kernel_rfl))
theorem z3u:(badT.all λz=>E2 z&&(E3 z).all λw=>decide (w∈E4))=true:=by decide+kernel
theorem NS{H:Hs}{d:Nat}{z:Str}(h:z∈badT):∃H',fY [.ref d,.str z] H=.ex 9 H'/\Fr [] H H':=by have e:=fv.mp z3u z h;obtain⟨e1,e2⟩:=zg.mp e;exact z3r e1 λw hw=>z3t w (of_decide_eq_true (fv.mp e2 w hw))
theorem z3v{H:Hs}{d:Nat}{x:Dv}(h:bR nX x H=.ok (.bl false) H):fY [.ref d,x] H=.ex 9 H:=by
 show cL (uA [some (.ref d),some x,none,none,none,none] H)=_;have e:y1 [some (.ref d),some x,none,none,none,none] H=.ex 9 H:=by unfold y1;refine(BU ?_).trans rfl;unfold dI bZ m1;show(((bR nX x H).bind nK).bind _)=_;rw[h];rfl
 rw[EX,NK e];rfl
section
variable{H H':Hs}{i j:Nat}{x0:zx}{xs ys:zw}{ms:M zw}
theorem NT(g:getL H i=some xs)(e:bC ms [x0,some (.ref i)] H=.ok (.ref j) H')(g':getL H' j=some ys)(f:Fr [] H H')(hl:xs.length+ys.length<=500):
  aR (m2 bX (aA 1) (bC ms)) (aC 1) [x0,some (.ref i)] H=.nx [x0,some (.ref H'.length)] (H'++[.lst (xs++ys)]):=by
 have a:=eU (f.getL g (by simp)) g' hl;unfold aR;rw[MM rfl e a];rfl
theorem uS{l:zu}(e:∀(ρ:Ev)(G:Hs),bC ms ρ G=.ok (.ref G.length) (G++[.lst (l.map Dy)]))(g:getL H i=some xs)(hl:xs.length+l.length<=500):
  ∃H1,aR (m2 bX (aA 1) (bC ms)) (aC 1) [x0,some (.ref i)] H=.nx [x0,some (.ref (H++[Ea (l.map Dy)]).length)] H1/\getL H1 (H++[Ea (l.map Dy)]).length=some (xs++l.map Dy)/\Fr [] H H1:=
 ⟨_,NT g (e _ _) last_get Ec (by simpa using hl),last_get,Fr.trans (T:=[]) Ec Ec (by simp)⟩
theorem z3w(ρ:Ev)(G:Hs):bC NM ρ G=.ok (.ref G.length) (G++[.lst (tl2.map Dy)]):=rfl
theorem z3x(ρ:Ev)(G:Hs):bC NN ρ G=.ok (.ref G.length) (G++[.lst (tl3.map Dy)]):=rfl
theorem z3y(ρ:Ev)(G:Hs):bC NO ρ G=.ok (.ref G.length) (G++[.lst (tl4.map Dy)]):=rfl
theorem z3z(ρ:Ev)(G:Hs):bC NP ρ G=.ok (.ref G.length) (G++[.lst (tl5.map Dy)]):=rfl
theorem z40(ρ:Ev)(G:Hs):bC NQ ρ G=.ok (.ref G.length) (G++[.lst (tl6.map Dy)]):=rfl
noncomputable def iQ(r:Nat):zw:=[.non,.int 7,.bl true,.tup [.str "order"],.ref r,.edc,.str "order\n",.tup [.int 1,.tup []]]
theorem z41(ρ:Ev)(G:Hs):bC NR ρ G=.ok (.ref (G++[Ea [.str "order"]]).length) ((G++[.lst [.str "order"]])++[.lst (iQ G.length)]):=rfl
theorem z42{r:Nat}{x:Dv}(g:getL H r=some [.str "order"])(h:x∈iQ r):x=.str "order\n" ∨ bR nX x H=.ok (.bl false) H:=by
 have e:bR nX (.ref r) H=.ok (.bl false) H:=by unfold bR mH;dsimp only;rw[g];rfl
 unfold iQ at h
 repeat' (first|exact absurd h List.not_mem_nil|(rcases bh.mp h with rfl|h;first|exact .inr rfl|exact .inr e|exact .inl rfl))
theorem z43(k:Nat):∃x H',uB [.int k] H=.ok x H'/\Fr [] H H'/\∀d,∃H'',fY [.ref d,x] H'=.ex 9 H''/\Fr [] H' H'':=by
 show ∃x H',cL (DC [some (.int k),none] H)=.ok x H'/\_;have w1:aR (bC NL) (aC 1) [some (.int k),none] H=.nx [some (.int k),some (.ref H.length)] (H++[.lst (tl1.map Dy)]):=rfl;have g1:getL (H++[Ea (tl1.map Dy)]) H.length=some (tl1.map Dy):=last_get;have r1:Fr [] H (H++[Ea (tl1.map Dy)]):=Ec;generalize H++[Ea (tl1.map Dy)]=H1 at w1 g1 r1;obtain⟨H2,w2,g2,r2⟩:=uS (x0:=some (.int k)) z3w g1 (by decide);obtain⟨H3,w3,g3,r3⟩:=uS (x0:=some (.int k)) z3x g2 (by decide);obtain⟨H4,w4,g4,r4⟩:=uS (x0:=some (.int k)) z3y g3 (by decide);obtain⟨H5,w5,g5,r5⟩:=uS (x0:=some (.int k)) z3z g4 (by decide);obtain⟨H6,w6,g6,r6⟩:=uS (x0:=some (.int k)) z40 g5 (by decide);generalize (H5++[Ea (tl6.map Dy)]).length=i6 at w6 g6;have r0:Fr [] H H6:=((((r1.trans r2 (by simp)).trans r3 (by simp)).trans r4 (by simp)).trans r5 (by simp)).trans r6 (by simp);have r7:Fr [] H6 ((H6++[Ea [.str "order"]])++[.lst (iQ H6.length)]):=Fr.trans (T:=[]) Ec Ec (by simp);have w7:=NT (x0:=some (.int k)) g6 (z41 _ _) last_get r7 (Nat.le_of_ble_eq_true rfl);have gr:getL ((H6++[Ea [.str "order"]])++[.lst (iQ H6.length)]) H6.length=some [.str "order"]:=tO last_get;generalize (H6++[Ea [.str "order"]])++[Ea (iQ H6.length)]=H7 at r7 w7 gr;generalize H6.length=r at w7 gr;have g8:getL (H7++[Ea (tl1.map Dy++tl2.map Dy++tl3.map Dy++tl4.map Dy++tl5.map Dy++tl6.map Dy++iQ r)]) H7.length=some (tl1.map Dy++tl2.map Dy++tl3.map Dy++tl4.map Dy++tl5.map Dy++tl6.map Dy++iQ r):=last_get;have gr8:=tO (l:=[Ea (tl1.map Dy++tl2.map Dy++tl3.map Dy++tl4.map Dy++tl5.map Dy++tl6.map Dy++iQ r)]) gr;have r8:Fr [] H7 (H7++[Ea (tl1.map Dy++tl2.map Dy++tl3.map Dy++tl4.map Dy++tl5.map Dy++tl6.map Dy++iQ r)]):=Ec;have hm:∀x∈tl1.map Dy++tl2.map Dy++tl3.map Dy++tl4.map Dy++tl5.map Dy++tl6.map Dy++iQ r,(∃z∈badT,x=.str z)∨x∈iQ r:=by
  intro x hx
  rcases cz.mp hx with h|h
  ·refine .inl ?_;simp only[<-td]at h;obtain⟨z,hz,rfl⟩:=gu.mp h;exact⟨z,cu _ hz,rfl⟩
  ·exact .inr h
 have hn:(tl1.map Dy++tl2.map Dy++tl3.map Dy++tl4.map Dy++tl5.map Dy++tl6.map Dy++iQ r).length=58:=rfl;generalize tl1.map Dy++tl2.map Dy++tl3.map Dy++tl4.map Dy++tl5.map Dy++tl6.map Dy++iQ r=ds at w7 g8 gr8 r8 hm hn;generalize H7++[Ea ds]=H8 at w7 g8 gr8 r8;have hk:k%58<ds.length:=by rw[hn];lia
 refine⟨ds[k%58],H8,?_,(r0.trans r7 (by simp)).trans r8 (by simp),λd=>?_⟩
 ·rw[z3s,cF w1,cF w2,cF w3,cF w4,cF w5,cF w6,cF w7];have e1:aE (f1 eQ) (aD (aA 1)) [some (.int k),some (.ref H7.length)] H8=.ok (.int 58) H8:=by show(if jT (.ref H7.length)=true then lK [] (.ref H7.length) H8 else .bad)=_;rw[if_pos (show jT (.ref H7.length)=true from rfl)];unfold lK;rw[show gX [] (.ref H7.length) H8=some ds from g8];show En (Dz ds.length) H8=_;rw[hn];rfl
  have e2:m2 jS (aA 0) (aE (f1 eQ) (aD (aA 1))) [some (.int k),some (.ref H7.length)] H8=.ok (.int ((k%58:Nat):Int)) H8:=by
   refine jG (H1:=H8) rfl e1 ?_;have:(k:Int)%58=((k%58:Nat):Int):=by lia
   show(if pF (k:Int) 58=true then En (Dz ((k:Int)%58)) H8 else .bad)=_;rw[if_pos (show pF (k:Int) 58=true from rfl),this]
  have e3:=dN (j:=k%58) g8 hk;unfold aL;rw[jG (H1:=H8) (x:=.ref H7.length) rfl e2 e3];rfl
 ·rcases hm _ (gn hk)with⟨z,hz,e⟩|ho
  ·rw[e];exact NS hz
  ·rcases z42 gr8 ho with e|e
   ·rw[e];exact NS (bc _ (bo ..))
   ·exact⟨H8,z3v e,Es⟩
end
open L2.Mr.K90 (S tx rP)
def rR(F:zv)(n:Nat)(ps:wo)(t:Str):Prop:=∀H:Hs,∃H',F [aJ n ps] H=.ok (.str t) H'/\Fr [] H H'
structure Sd(n:Nat)(ps:wo):Prop where
 o:Al n ps
 sp:0<=fJ (K06.sps n ps)/\fJ (K06.sps n ps)<10
 bl:0<(K06.bst n ps).length
 r:∀h:0<(K06.bst n ps).length,(K06.bst n ps)[0].length<=100/\∀k∈(K06.bst n ps)[0],0<=k/\k<10
 lz:(Cod.loose n ps).length<=100/\∀q∈Cod.loose n ps,(0<=q.1/\q.1<10)/\0<=q.2/\q.2<10
noncomputable def str(k:Int):Str:=ik (toString k)
theorem z44{k:Nat}(h:k<=1000000):k.log2<1920:=by
 by_cases h0:k=0
 ·subst h0;decide
 ·have:=(Nat.log2_lt (k:=64) h0).mpr (by lia);lia
section
variable{n:Nat}{ps:wo}{H:Hs}{ρ:Ev}
theorem lW{F:zv}{a v:Dv}{x:Nat}{H':Hs}(ha:aA x ρ=λH=>.ok a H)(e:F [a] H=.ok v H'):aE F (aD (aA x)) ρ H=.ok v H':=by show(((aA x ρ H).bind _).bind _)=_;rw[ha];exact e
theorem uT{m:M Dv}{v:Dv}{H':Hs}(e:m ρ H=.ok v H'):cL (aL m ρ H)=.ok v H':=by unfold aL;rw[e];rfl
theorem NU{m:M Dv}{k:Int}{H':Hs}(e:m ρ H=.ok (.int k) H')(h0:0<=k)(h1:k<10):aE (f1 dP) (aD m) ρ H=.ok (.str (S [48+k.toNat])) H':=by show(((m ρ H).bind _).bind _)=_;rw[e,Rs.bind_ok];exact rP h0 h1
theorem z45(d:Sd n ps):rR yB n ps (S (tx n ps)):=λH=>by obtain⟨H',e,f⟩:=K90.otext_ok (H:=H) d.o;exact⟨H',uT (ρ:=[some (aJ n ps)]) (lW rfl e),f⟩
theorem z46(d:Sd n ps):rR yD n ps (S [48+(fJ (K06.sps n ps)).toNat]):=λH=>by obtain⟨H',e,f⟩:=K06.least_ok (H:=H) d.o;exact⟨H',uT (ρ:=[some (aJ n ps)]) (NU (lW rfl e) d.sp.1 d.sp.2),f⟩
theorem z47(d:Sd n ps):rR yF n ps (str (K06.bst n ps).length):=λH=>by
 obtain⟨i,H',e,g,f,_⟩:=K06.best_ok (H:=H) d.o;have e2:aE (f1 eQ) (aD (aE fG (aD (aA 0)))) [some (aJ n ps)] H=.ok (.int (K06.bst n ps).length) H':=by have e1:aE fG (aD (aA 0)) [some (aJ n ps)] H=.ok (.ref i) H':=lW rfl e;show((aE fG (aD (aA 0)) [some (aJ n ps)] H).bind _).bind _=_;rw[e1,Rs.bind_ok];show(if jT (.ref i)=true then lK [] (.ref i) H' else .bad)=_;rw[if_pos (show jT (.ref i)=true from rfl)];unfold lK;rw[show gX [] (.ref i) H'=some _ from g];simp
 have e3:aE (f1 dP) (aD (aE (f1 eQ) (aD (aE fG (aD (aA 0)))))) [some (aJ n ps)] H=.ok (.str (str (K06.bst n ps).length)) H':=by show((aE (f1 eQ) (aD (aE fG (aD (aA 0)))) [some (aJ n ps)] H).bind _).bind _=_;rw[e2,Rs.bind_ok];show(if((K06.bst n ps).length:Int).natAbs.log2<1920 then _ else _)=_;rw[if_pos (z44 (by have:=K06.bst_len d.o;lia))];rfl
 exact⟨H',uT (ρ:=[some (aJ n ps)]) e3,f⟩
theorem NV{α:Type}(f:α->zt)(c:Nat)(hf:∀x,(f x).length=c):∀l:List α,((l.map f).map oj).sum=l.length*c
 |[]=>by simp
 |x::l=>by have:=NV f c hf l;rw[fw,fw,List.sum_cons,hf,this,br,Nat.add_mul];lia
theorem NW{α:Type}{f:α->zt}{c:Nat}(hf:∀x,(f x).length=c)(hc:c<=10){l:List α}(hl:l.length<=1000){m:M zw}{H1:Hs}(e:m ρ H=.ok ((l.map f).map λx=>Dy (S x)) H1):∃H2,hW lO (mC (.str " ")) (bE m) ρ H=.ok (.str (oq (S [32]) ((l.map f).map S))) H2/\Fr [] H1 H2:=by
 refine⟨H1++[.lst ((l.map f).map λx=>Dy (S x))],?_,Ec⟩;have ea:bE m ρ H=.ok (.ref H1.length) (H1++[.lst ((l.map f).map λx=>Dy (S x))]):=by unfold bE;rw[e];rfl
 have g:getL (H1++[Ea ((l.map f).map λx=>Dy (S x))]) H1.length=some ((l.map f).map λx=>Dy (S x)):=last_get;have e0:mC (.str " ") ρ H=.ok (.str (S [32])) H:=by rw[K90.c_sp];rfl
 refine K90.stM e0 ea (K90.joinD_S g ?_);rw[NV f c hf,cg];have:l.length*c<=1000*10:=xk hl hc;simp only[br,kr];lia
theorem z48(d:Sd n ps):rR yE n ps (oq (S [32]) (((K06.bst n ps)[0]'d.bl|>.map λk=>[48+k.toNat]).map S)):=λH=>by
 obtain⟨H',e,f⟩:=K06.first_ok (H:=H) d.o d.bl;obtain⟨rl,rk⟩:=d.r d.bl;generalize (K06.bst n ps)[0]'d.bl=r at e rl rk;have e1:(aY eW (aE gR (aD (aA 0)))) [some (aJ n ps)] H=.ok (eB (r.map Dz)) H':=by unfold aY;rw[lW (F:=gR) rfl e];rfl
 have e2:bJ (aY eW (aE gR (aD (aA 0)))) [none] (aC 0) bN (bD (aE (f1 dP) (aD (aA 0)))) [some (aJ n ps)] H=.ok (r.filterMap λk=>some (Dy (S [48+k.toNat]))) H':=jF r _ (λρ=>∃a,ρ=[a]) e1 (by simp[eB]) ⟨_,rfl⟩ rfl (λk hk ρ⟨a,e⟩=>by subst e;have hr:=rk r[k] (gn hk);exact⟨.int r[k],[some (.int r[k])],by simp[eB,hk],rfl,⟨_,rfl⟩,rfl,NU rfl hr.1 hr.2⟩) (by lia);have e3:(r.filterMap λk=>some (Dy (S [48+k.toNat])))=(r.map λk=>[48+k.toNat]).map λx=>Dy (S x):=by simp[sk]
 rw[e3]at e2;obtain⟨H2,e4,f4⟩:=NW (f:=λk:Int=>[48+k.toNat]) (c:=1) (λ_=>rfl) (by decide) (by lia) e2;exact⟨H2,uT (ρ:=[some (aJ n ps)]) e4,f.trans f4 (by simp)⟩
theorem z49:("-":Str)=S [45]:=by decide+kernel
noncomputable def oP(q:Int×Int):zt:=[48+q.1.toNat,45,48+q.2.toNat]
theorem z4a{q:Int×Int}(r1:0<=q.1/\q.1<10)(r2:0<=q.2/\q.2<10):gO [(m1 dP (aA 0)),(mC (.str "-")),(m1 dP (aA 1))] jo [some (.int q.1),some (.int q.2)] H=.ok (.str (S (oP q))) H:=by
 have e1:=K90.fmt_V (ρ:=[some (.int q.1),some (.int q.2)]) (H:=H) (m:=aA 0) (k:=q.1) rfl r1.1 r1.2;have e2:mC (.str "-") [some (.int q.1),some (.int q.2)] H=.ok (.str (S [45])) H:=by rw[z49];rfl
 have e3:=K90.fmt_V (ρ:=[some (.int q.1),some (.int q.2)]) (H:=H) (m:=aA 1) (k:=q.2) rfl r2.1 r2.2;rw[K90.S_emp,K90.mJ_cons e1 (by simp),K90.mJ_cons e2 (by simp),K90.mJ_cons e3 (by simp),K90.mJ_nil (by simp)];simp[oP]
def kB(n:Nat)(ps:wo):Str:=oq (S [32]) (((Cod.loose n ps).map oP).map S)
def fR(n:Nat)(ps:wo):Str:=if((kB n ps).length:Int) !=0 then kB n ps else "none"
theorem z4b(d:Sd n ps)(hz:(kB n ps).length<=1000000):rR yC n ps (fR n ps):=λH=>by
 have e:eE [aJ n ps] H=_:=K05.lpairs_ok (H:=H) d.o;obtain⟨rl,rk⟩:=d.lz;have g:getL (H++[Ea ((Cod.loose n ps).map aQ)]) H.length=some ((Cod.loose n ps).map aQ):=last_get;have f:Fr [] H (H++[Ea ((Cod.loose n ps).map aQ)]):=Ec;have e':eE [aJ n ps] H=.ok (.ref H.length) (H++[.lst ((Cod.loose n ps).map aQ)]):=e
 clear e
 have hA:fR n ps=if((kB n ps).length:Int) !=0 then kB n ps else "none":=rfl
 have hT:kB n ps=oq (S [32]) (((Cod.loose n ps).map oP).map S):=rfl;generalize fR n ps=A at hA;generalize kB n ps=T at hA hT hz;generalize Cod.loose n ps=l at e' rl rk g f hT;generalize H++[Ea (l.map aQ)]=H' at e' g f;have e1:(aY bW (aE eE (aD (aA 0)))) [some (aJ n ps)] H=.ok (bU H.length l.length) H':=by
  unfold aY;rw[lW (F:=eE) rfl e',Rs.bind_ok];show(match getL H' H.length with
   |some xs=>En (bU H.length xs.length) H'
   |none=>.bad)=_
  rw[g];simp
 have e2:bJ (aY bW (aE eE (aD (aA 0)))) [none,none] (cQ 2 (aV (aC 0) (aV (aC 1) cP))) bN (bD (gO [(m1 dP (aA 0)),(mC (.str "-")),(m1 dP (aA 1))] jo)) [some (aJ n ps)] H=.ok (l.filterMap λq=>some (Dy (S (oP q)))) H':=jF l _ (λρ=>∃a b,ρ=[a,b]) e1 rfl ⟨_,_,rfl⟩ (by simp[bU,g]) (λk hk ρ⟨a,b,e⟩=>by subst e;have hr:=rk l[k] (gn hk);exact⟨aQ l[k],[some (.int l[k].1),some (.int l[k].2)],by simp[bU,g,hk],rfl,⟨_,_,rfl⟩,rfl,z4a hr.1 hr.2⟩) (by lia);have e3:(l.filterMap λq=>some (Dy (S (oP q))))=(l.map oP).map λx=>Dy (S x):=by simp[sk]
 rw[e3]at e2;obtain⟨H2,e4,f4⟩:=NW (f:=oP) (c:=3) (λ_=>rfl) (by decide) (by lia) e2;refine⟨H2,uT (ρ:=[some (aJ n ps)]) ?_,f.trans f4 (by simp)⟩;unfold CW;rw[e4,Rs.bind_ok,<-hT];show(if T.length<=1000000 then _ else _)=_;rw[if_pos hz,hA]
 split<;>rfl
theorem NX(o:Al n ps):Sd n ps:=by
 have hn:=o.n6;have hb:=K06.bst_ne o;refine⟨o,?_,pj.mpr hb,λh=>?_,by have:=K05.loose_len (n:=n) (ps:=ps) hn;lia,λq hq=>?_⟩
 ·obtain⟨r,hr,e⟩:=gu.mp (L2.Mr.minI_is (K06.sps_ne o)).1;have:=K06.sp_bnd o hr;rw[<-e];lia
 ·have:=(L2.Mr.Sp.bst_row o (gn h)).1;have hl:=this.len;exact⟨by rw[hl];lia,λk hk=>by have:=this.rng k hk;lia⟩
 ·have:=L2.Mr.Cod.mem_loose.mp hq;lia
end
section
variable{n:Nat}{ps:wo}{H H':Hs}{ρ:Ev}{d:Nat}{w t:Str}{rs:zw}
theorem oQ{S:zt}{j:Nat}{xs:zw}(a:Fr S H H')(e:eO H j=some xs)(h:j∉S):eO H' j=some xs:=by have e1:=qZ e;have hl:j<H.length:=(av.mp e1).1;have e2:=a.at_ j hl h;unfold eO;rw[e2,e1]
theorem z4c(g:eO H d=some (aJ n ps::rs)):hV 0 (.ref d) H=.ok (aJ n ps) H:=by
 show(match eO H d with
  |some xs=>match xs[0]? with
   |some d=>En d H
   |none=>.bad
  |none=>.bad)=_
 rw[g];rfl
theorem uU(hs:lr w " "=[w])(hz:w.length<=1000000)(hq:w∈rJ){F:zv}(hF:Au.lookup w=some F)(dt:rR F n ps t)(g:eO H d=some (aJ n ps::rs)):
  ∃H',fY [.ref d,.str w] H=.ok (.str t) H'/\Fr [] H H':=by
 show ∃H',cL (uA [some (.ref d),some (.str w),none,none,none,none] H)=.ok (.str t) H'/\_;rw[EX,cF ND,cF (NF hs hz (by simp))];have f1:Fr [] H (H++[Ea ([w].map Dy)]):=Ec;generalize H++[Ea ([w].map Dy)]=H1 at f1⊢;have f2:Fr [] H1 (H1++[Ea (([]:zu).map Dy)]):=Ec;have g2:getL (H1++[Ea (([]:zu).map Dy)]) H1.length=some (([]:zu).map Dy):=last_get;generalize H1++[Ea (([]:zu).map Dy)]=H2 at f2 g2⊢;have e3:=NH (x0:=some (.ref d)) (x1:=some (.str w)) (x2:=some (.str w)) g2 (by simp) (λ_ h=>nomatch h);rw[show aW kA []=some [] from rfl]at e3;rw[cF e3];have f3:Fr [] H2 (H2++[Ea (([]:zr).map Dz)]):=Ec;have g3:getL (H2++[Ea (([]:zr).map Dz)]) H2.length=some (([]:zr).map Dz):=last_get;generalize H2++[Ea (([]:zr).map Dz)]=H3 at f3 g3⊢;have f:Fr [] H H3:=(f1.trans f2 (by simp)).trans f3 (by simp);obtain⟨H4,e4,f4⟩:=dt H3;refine⟨H4,?_,f.trans f4 (by simp)⟩;have a4:y4 [some (.ref d),some (.str w),some (.str w),some (.ref H1.length),some (.ref H2.length),none] H3=.rt (.str t) H4:=by unfold y4;rw[BU (h1:=H3) ((qE (a:=decide (w∈rJ)) rfl λ_=>EZ g3 rfl).trans (by rw[decide_eq_true hq];rfl))];unfold tY;show((aA 2 [some (.ref d),some (.str w),some (.str w),some (.ref H1.length),some (.ref H2.length),none] H3).thenS _)=_;rw[show aA 2 [some (.ref d),some (.str w),some (.str w),some (.ref H1.length),some (.ref H2.length),none] H3=.ok (.str w) H3 from rfl,Rs.thenS_ok];dsimp only;rw[hF];show((m1 (hV 0) (aA 0) [some (.ref d),some (.str w),some (.str w),some (.ref H1.length),some (.ref H2.length),none] H3).thenS _)=_;rw[show m1 (hV 0) (aA 0) [some (.ref d),some (.str w),some (.str w),some (.ref H1.length),some (.ref H2.length),none] H3=.ok (aJ n ps) H3 from z4c (oQ f g (by simp)),Rs.thenS_ok,e4,Rs.thenS_ok]
 unfold aG;rw[a4];rfl
def qs:zu:=["order","loose","least","best","many"]
theorem iF:∀w∈qs,lr w " "=[w]/\w.length<=1000000/\w∈rJ:=by decide+kernel
theorem hd0{l:y'}(h:0<l.length):l[0]=l.headD []:=by
 cases l with
 |nil=>cases h
 |cons x xs=>rfl
def eZ(n:Nat)(ps:wo):List (Str×Str):=[("order",S (tx n ps)),("loose",fR n ps),("least",S [48+(fJ (K06.sps n ps)).toNat]),("best",oq (S [32]) ((((K06.bst n ps).headD []).map λk=>[48+k.toNat]).map S)),("many",str (K06.bst n ps).length)]
theorem z4d(s:Sd n ps)(hz:(kB n ps).length<=1000000)(g:eO H d=some (aJ n ps::rs)):∀p∈eZ n ps,∃H',fY [.ref d,.str p.1] H=.ok (.str p.2) H'/\Fr [] H H':=by
 have hb:(K06.bst n ps)[0]'s.bl=(K06.bst n ps).headD []:=hd0 _;intro p hp;unfold eZ at hp
 rcases bh.mp hp with rfl|hp
 ·exact uU (w:="order") (iF _ (by simp[qs])).1 (iF _ (by simp[qs])).2.1 (iF _ (by simp[qs])).2.2 (F:=yB) rfl (z45 s) g
 rcases bh.mp hp with rfl|hp
 ·exact uU (w:="loose") (iF _ (by simp[qs])).1 (iF _ (by simp[qs])).2.1 (iF _ (by simp[qs])).2.2 (F:=yC) rfl (z4b s hz) g
 rcases bh.mp hp with rfl|hp
 ·exact uU (w:="least") (iF _ (by simp[qs])).1 (iF _ (by simp[qs])).2.1 (iF _ (by simp[qs])).2.2 (F:=yD) rfl (z46 s) g
 rcases bh.mp hp with rfl|hp
 ·exact uU (w:="best") (iF _ (by simp[qs])).1 (iF _ (by simp[qs])).2.1 (iF _ (by simp[qs])).2.2 (F:=yE) rfl (by rw[<-hb];exact z48 s) g
 rcases bh.mp hp with rfl|hp
 ·exact uU (w:="many") (iF _ (by simp[qs])).1 (iF _ (by simp[qs])).2.1 (iF _ (by simp[qs])).2.2 (F:=yF) rfl (z47 s) g
 cases hp
end
section
variable{n:Nat}{ps:wo}{H H' H0:Hs}{ρ:Ev}{d i j:Nat}{x:Dv}{rs:zw}
theorem NY{y:Nat}(g:eO H d=some rs)(h1:aA 1 ρ=λH=>.ok (.ref d) H)(h0:aA y ρ=λH=>.ok x H):fB fY (aA 1) (aD (aA y)) ρ H=fY [.ref d,x] H:=by
 unfold fB;rw[h1,Rs.bind_ok];have:IW (.ref d) H=true:=by show(eO H d).isSome=true;rw[g];rfl
 rw[if_pos this];show(((aA y ρ H).bind _).bind _)=_;rw[h0];rfl
def uV:M zw:=bJ (aY bW (aA 2)) [none,some 1] (aC 0) bN (bD (fB fY (aA 1) (aD (aA 0))))
theorem NZ(s:Sd n ps)(hz:(kB n ps).length<=1000000)(g:eO H d=some (aJ n ps::rs))(gi:getL H i=some ((eZ n ps).map λp=>Dy p.1)){x0 x3 x4 x5:zx}:
  ∃j H',bE uV [x0,some (.ref d),some (.ref i),x3,x4,x5] H=.ok (.ref j) H'/\getL H' j=some ((eZ n ps).map λp=>Dy p.2)/\Fr [] H H':=by
 have hi:(aY bW (aA 2)) [x0,some (.ref d),some (.ref i),x3,x4,x5] H=.ok (bU i (eZ n ps).length) H:=by
  show(match getL H i with
   |some xs=>En (bU i xs.length) H
   |none=>.bad)=_
  rw[gi];simp
 obtain⟨ρ',H1,e,⟨_,f⟩⟩:=uK (cap:=[none,some 1]) (sg:=aC 0) (t:=bN) (m:=bD (fB fY (aA 1) (aD (aA 0)))) (eZ n ps) (λp=>[Dy p.2]) (λρ h=>(∃a,ρ=[a,some (.ref d)])/\Fr [] H h) hi rfl ⟨⟨_,rfl⟩,Es⟩
  (λρ h⟨_,f⟩=>by simp[bU,f.getL gi (by simp)])
  (λk hk ρ h⟨⟨a,e⟩,f⟩=>by subst e;refine⟨.str (eZ n ps)[k].1,[some (.str (eZ n ps)[k].1),some (.ref d)],by simp[bU,f.getL gi (by simp),hk],rfl,.inr ⟨h,rfl,λacc ha=>?_⟩⟩;obtain⟨h3,e3,f3⟩:=z4d s hz (oQ f g (by simp)) _ (gn hk);exact⟨_,h3,uL ((NY (oQ f g (by simp)) rfl rfl).trans e3) ha,⟨_,rfl⟩,f.trans f3 (by simp)⟩) (by simp[eZ])
 have e2:((eZ n ps).flatMap λp=>[Dy p.2])=(eZ n ps).map λp=>Dy p.2:=by simp[eZ]
 rw[e2]at e;refine⟨H1.length,H1++[.lst ((eZ n ps).map λp=>Dy p.2)],?_,last_get,f.trans (T:=[]) Ec (by simp)⟩;show((uV [x0,some (.ref d),some (.ref i),x3,x4,x5] H).bind _)=_;rw[show uV [x0,some (.ref d),some (.ref i),x3,x4,x5] H=_ from e];rfl
theorem z4e{a b c u v:Str}(gi:getL H i=some [.str a,.str b,.str c,.str u,.str v])(gj:getL H j=some [.str a,.str b,.str c,.str u,.str v]):dU (.ref i) (.ref j) H=.ok (.bl false) H:=by simp[dU,cY,cU,gi,gj,aW,bH,jK]
theorem z4f:yG=aG (aR (aE uB (aD (m2 jS (aA 4) (aK 2147483647)))) (aC 5)) (aG (cA (mB (m2 dU (mI [5,1] 4 11 jZ rK) (bC (aD (aK 9))))) (aL (mC (.bl false))) cK) (cA (mB (m2 dU (bE uV) (aA 3))) (aL (mC (.bl false))) cK)):=rfl
theorem z4g(s:Sd n ps)(hz:(kB n ps).length<=1000000)(g:eO H d=some (aJ n ps::rs))(gi:getL H i=some ((eZ n ps).map λp=>Dy p.1))(gj:getL H j=some ((eZ n ps).map λp=>Dy p.2)){x0 x5:zx}{c:Int}:
  ∃x5' H',yG [x0,some (.ref d),some (.ref i),some (.ref j),some (.int c),x5] H=.nx [x0,some (.ref d),some (.ref i),some (.ref j),some (.int c),x5'] H'/\Fr [] H H':=by
 obtain⟨k,hk⟩:∃k:Nat,c%2147483647=k:=⟨(c%2147483647).toNat,by lia⟩
 obtain⟨x,H1,e1,f1,hx⟩:=z43 (H:=H) k;obtain⟨H2,e2,f2⟩:=hx d;have m1':m2 jS (aA 4) (aK 2147483647) [x0,some (.ref d),some (.ref i),some (.ref j),some (.int c),x5] H=.ok (.int k) H:=by show(if pF c 2147483647=true then En (Dz (c%2147483647)) H else .bad)=_;rw[if_pos (show pF c 2147483647=true from rfl),hk]
 have w1:aR (aE uB (aD (m2 jS (aA 4) (aK 2147483647)))) (aC 5) [x0,some (.ref d),some (.ref i),some (.ref j),some (.int c),x5] H=.nx [x0,some (.ref d),some (.ref i),some (.ref j),some (.int c),some x] H1:=by refine rM (v:=x) ?_ rfl;show(((m2 jS (aA 4) (aK 2147483647) _ H).bind _).bind _)=_;rw[m1',Rs.bind_ok];exact e1
 obtain⟨H3,t3,f3⟩:=z3o (c:=9) rfl (caps:=[5,1]) (vs:=[x,.ref d]) (me:=rK) (ρ:=[x0,some (.ref d),some (.ref i),some (.ref j),some (.int c),some x]) (H0:=H1) (H:=H2) rfl ((NY (oQ f1 g (by simp)) rfl rfl).trans e2) f2;have t3':mB (m2 dU (mI [5,1] 4 11 jZ rK) (bC (aD (aK 9)))) [x0,some (.ref d),some (.ref i),some (.ref j),some (.int c),some x] H1=.ok false H3:=t3;have w2:cA (mB (m2 dU (mI [5,1] 4 11 jZ rK) (bC (aD (aK 9))))) (aL (mC (.bl false))) cK [x0,some (.ref d),some (.ref i),some (.ref j),some (.int c),some x] H1=.nx [x0,some (.ref d),some (.ref i),some (.ref j),some (.int c),some x] H3:=(nZ t3').trans rfl;have f03:Fr [] H H3:=f1.trans f3 (by simp);obtain⟨j',H4,e4,g4,f4⟩:=NZ s hz (oQ f03 g (by simp)) (f03.getL gi (by simp)) (x0:=x0) (x3:=some (.ref j)) (x4:=some (.int c)) (x5:=some x);have t4:mB (m2 dU (bE uV) (aA 3)) [x0,some (.ref d),some (.ref i),some (.ref j),some (.int c),some x] H3=.ok false H4:=by unfold mB;rw[jG e4 rfl (z4e g4 ((f03.trans f4 (by simp)).getL gj (by simp)))];rfl
 refine⟨some x,H4,?_,f03.trans f4 (by simp)⟩;rw[z4f,cF w1,cF w2];exact(nZ t4).trans rfl
theorem z4h:Sd 1 []:=NX ⟨by lia,by lia,by simp,by simp[oB],by simp,by simp⟩
theorem z4i:Al 3 [(0,2)]:=⟨by lia,by lia,by simp,by simp[oB],by simp,by simp⟩
theorem z4j:Sd 3 [(0,2)]:=NX z4i
end
section
variable{n:Nat}{ps:wo}{H H' H0:Hs}{ρ:Ev}{d i j:Nat}{x:Dv}{rs:zw}
theorem N0(scr:zr)(lo hi:Option Int):∃cs:zr,gM (scr.map Dz) lo hi=cs.map Dz:=⟨_,by unfold gM;rw[<-List.map_drop,<-List.map_take]⟩
theorem z4k(ds:zw):(gM ds (some ((1:Nat):Int)) (some ((31:Nat):Int))).length<=30:=by unfold gM;rw[HT.sIx_nat,HT.sIx_nat,nj];lia
theorem z4l(ds:zw):(gM ds none (some ((1:Nat):Int))).length<=1:=by rw[z24,nj];lia
theorem z4m(scr:zr){x1 x2 x3 x4 x5:zx}:∃(cs:zr)(l:Nat)(H':Hs),(m2 bX (oJ scr (aA 0) (gN (aK 1)) (gN (aK 31))) (bC (aD (aK 5)))) [some .scr,x1,x2,x3,x4,x5] H=.ok (.ref l) H'/\getL H' l=some (cs.map Dz)/\cs.length<=31/\Fr [] H H':=by
 obtain⟨cs,hc⟩:=N0 scr (some ((1:Nat):Int)) (some ((31:Nat):Int));have hl:=z4k (scr.map Dz);rw[hc,cg]at hl;have e1:oJ scr (aA 0) (gN (aK 1)) (gN (aK 31)) [some .scr,x1,x2,x3,x4,x5] H=.ok (.ref H.length) (H++[.lst (cs.map Dz)]):=by rw[<-hc];rfl
 have g1:getL (H++[Ea (cs.map Dz)]) H.length=some (cs.map Dz):=last_get;have f1:Fr [] H (H++[Ea (cs.map Dz)]):=Ec;generalize H++[Ea (cs.map Dz)]=H1 at e1 g1 f1;have e2:bC (aD (aK 5)) [some .scr,x1,x2,x3,x4,x5] H1=.ok (.ref H1.length) (H1++[.lst [.int 5]]):=rfl;have g2:getL (H1++[Ea [.int 5]]) H1.length=some [.int 5]:=last_get;have f2:Fr [] H1 (H1++[Ea [.int 5]]):=Ec;generalize H1++[Ea [.int 5]]=H2 at e2 g2 f2;have e3:=eU (f2.getL g1 (by simp)) g2 (by simp;lia);refine⟨cs++[5],H2.length,_,jG e1 e2 e3,?_,by simp;lia,(f1.trans f2 (by simp)).trans (T:=[]) Ec (by simp)⟩;rw[last_get];simp
theorem wF(scr:zr)(s:Sd n ps)(hz:(kB n ps).length<=1000000)(g:eO H d=some (aJ n ps::rs))(gi:getL H i=some ((eZ n ps).map λp=>Dy p.1))(gj:getL H j=some ((eZ n ps).map λp=>Dy p.2)){x4 x5:zx}:
  ∃ρ' H',LN scr [some .scr,some (.ref d),some (.ref i),some (.ref j),x4,x5] H=.nx ρ' H':=by
 obtain⟨cs,l,H1,e1,g1,hl,f1⟩:=z4m (H:=H) scr (x1:=some (.ref d)) (x2:=some (.ref i)) (x3:=some (.ref j)) (x4:=x4) (x5:=x5);have hi:(aY bW (m2 bX (oJ scr (aA 0) (gN (aK 1)) (gN (aK 31))) (bC (aD (aK 5))))) [some .scr,some (.ref d),some (.ref i),some (.ref j),x4,x5] H=.ok (bU l cs.length) H1:=by
  unfold aY;rw[e1,Rs.bind_ok];show(match getL H1 l with
   |some xs=>En (bU l xs.length) H1
   |none=>.bad)=_
  rw[g1];simp
 obtain⟨ρ',H',e,_⟩:=JK (sg:=aC 4) (b:=yG) hi (λ_ ρ h=>(∃a b,ρ=[some .scr,some (.ref d),some (.ref i),some (.ref j),a,b])/\Fr [] H1 h)
  (λk ρ h hk⟨⟨a,b,e⟩,f⟩=>by subst e;have hk':k<cs.length:=hk;have f0:Fr [] H h:=f1.trans f (by simp);obtain⟨x5',H2,e2,f2⟩:=z4g s hz (oQ f0 g (by simp)) (f0.getL gi (by simp)) (f0.getL gj (by simp)) (x0:=some .scr) (x5:=b) (c:=cs[k]);exact⟨.int cs[k],[some .scr,some (.ref d),some (.ref i),some (.ref j),some (.int cs[k]),b],_,H2,by simp[bU,f.getL g1 (by simp),hk'],rfl,e2,⟨_,_,rfl⟩,f.trans f2 (by simp)⟩)
  (λρ h⟨_,f⟩=>by simp[bU,f.getL g1 (by simp)]) ⟨⟨_,_,rfl⟩,Es⟩
 exact⟨ρ',H',e⟩
noncomputable def jH:Hs:=[.ins [.tup [.int 1,.tup []],.ref 1],.lst []]
theorem s0(scr:zr):LJ [some .scr,none,none,none,none,none] []=.nx [some .scr,some (.ref 0),none,none,none,none] jH:=rfl
theorem s1(scr:zr):∃(b:Bool)(p q r:Ob),mB (m2 cO (m2 jS (m2 cB (m2 bX (oJ scr (aA 0) nW (gN (aK 1))) (bC (aD (aK 0)))) (aK 0)) (aK 2)) (aK 1)) [some .scr,some (.ref 0),none,none,none,none] jH=.ok b (jH++[p,q,r]):=by
 obtain⟨cs,hc⟩:=N0 scr none (some ((1:Nat):Int));have hl:=z4l (scr.map Dz);rw[hc,cg]at hl;have e1:oJ scr (aA 0) nW (gN (aK 1)) [some .scr,some (.ref 0),none,none,none,none] jH=.ok (.ref 2) (jH++[.lst (cs.map Dz)]):=by rw[<-hc];rfl
 have e2:bC (aD (aK 0)) [some .scr,some (.ref 0),none,none,none,none] (jH++[.lst (cs.map Dz)])=.ok (.ref 3) (jH++[.lst (cs.map Dz),.lst [.int 0]]):=rfl;have e3:bX (.ref 2) (.ref 3) (jH++[.lst (cs.map Dz),.lst [.int 0]])=.ok (.ref 4) (jH++[.lst (cs.map Dz),.lst [.int 0],.lst (cs.map Dz++[.int 0])]):=eU (i:=2) (j:=3) (xs:=cs.map Dz) (ys:=[.int 0]) rfl rfl (by simp;lia);have hp:∃(c:Int),(cs.map Dz++[Dz 0])[0]?=some (.int c):=by
  cases cs with
  |nil=>exact⟨0,rfl⟩
  |cons c cs=>exact⟨c,rfl⟩
 obtain⟨c,hp⟩:=hp;obtain⟨h0,hp⟩:=av.mp hp;have e4:=dN (H:=jH++[.lst (cs.map Dz),.lst [.int 0],.lst (cs.map Dz++[.int 0])]) (i:=4) (j:=0) (ds:=cs.map Dz++[Dz 0]) rfl h0;rw[hp]at e4;refine⟨c%2==1,.lst (cs.map Dz),.lst [.int 0],.lst (cs.map Dz++[.int 0]),?_⟩;unfold mB;rw[jG (jG (jG (jG e1 e2 e3) rfl e4) rfl (show jS (.int c) (.int 2) _=.ok (.int (c%2)) _ from rfl)) rfl (show cO (.int (c%2)) (.int 1) _=.ok (.bl (c%2==1)) _ from rfl)];rfl
def go:MS:=aG (dR (fB fY (aA 1) (aD (mC (.str "things 3"))))) (dR (fB fY (aA 1) (aD (mC (.str "ahead 0 2")))))
theorem z4n(p q r:Ob):(match go [some .scr,some (.ref 0),none,none,none,none] (jH++[p,q,r])with
  |.nx ρ H=>some (ρ,eO H 0)
  |_=>none)=some ([some .scr,some (.ref 0),none,none,none,none],some [aJ 3 [(0,2)],.ref 1]):=by kernel_rfl
theorem tG(scr:zr):∃n ps H,Sd n ps/\(kB n ps).length<=1000000/\LK scr [some .scr,some (.ref 0),none,none,none,none] jH=.nx [some .scr,some (.ref 0),none,none,none,none] H/\eO H 0=some (aJ n ps::[.ref 1]):=by
 obtain⟨b,p,q,r,e⟩:=s1 scr
 cases b with
 |false=>exact⟨1,[],_,z4h,by decide+kernel,nZ e,rfl⟩
 |true=>
  have h:=z4n p q r
  cases hg:go [some .scr,some (.ref 0),none,none,none,none] (jH++[p,q,r])with
  |nx ρ H=>rw[hg]at h;simp only[xm,Prod.mk.injEq]at h;obtain⟨rfl,h2⟩:=h;exact⟨3,[(0,2)],H,z4j,by decide+kernel,(BU e).trans hg,h2⟩
  |_=>rw[hg]at h;cases h
theorem z4o(scr:zr):∃hh,yI scr [.scr] []=.ok (.bl true) hh:=by obtain⟨n,ps,H,s,hz,e1,g⟩:=tG scr;have e2:LL [some .scr,some (.ref 0),none,none,none,none] H=.nx [some .scr,some (.ref 0),some (.ref H.length),none,none,none] (H++[.lst ((eZ n ps).map λp=>Dy p.1)]):=rfl;have g2:getL (H++[Ea ((eZ n ps).map λp=>Dy p.1)]) H.length=some ((eZ n ps).map λp=>Dy p.1):=last_get;have f2:Fr [] H (H++[Ea ((eZ n ps).map λp=>Dy p.1)]):=Ec;generalize H++[Ea ((eZ n ps).map λp=>Dy p.1)]=H2 at e2 g2 f2;generalize H.length=i at e2 g2;have gd:=oQ f2 g (by simp);obtain⟨j,H3,e3,g3,f3⟩:=NZ s hz gd g2 (x0:=some .scr) (x3:=none) (x4:=none) (x5:=none);have w3:LM [some .scr,some (.ref 0),some (.ref i),none,none,none] H2=.nx [some .scr,some (.ref 0),some (.ref i),some (.ref j),none,none] H3:=rM e3 rfl;obtain⟨ρ4,H4,e4⟩:=wF scr s hz (oQ f3 gd (by simp)) (f3.getL g2 (by simp)) g3 (x4:=none) (x5:=none);refine⟨H4,?_⟩;show cL (yH scr [some .scr,none,none,none,none,none] [])=_;unfold yH;rw[cF (s0 scr),cF e1,cF e2,cF w3,cF e4];rfl
end
open PySem.Calls PySem.W
theorem mk_of{l:OpenLaw}{w:bu}{K:Frag}{h:bx}{mg:Str->Option af}{fa:ah}(hob:ob K=obE)(hnt:noTabs K=true)(X:K.In h)(G:h.Ns bz mg)(hfa:mg "law"=some (.ref fa)):
  ∃(fd:ay)(c P:ah),(∀(s:ag)(u:af),vp s fd ⟨[u],[]⟩ [("_law_script",u)])/\tabIn K "law"=some (c,P)/\noTabs K=true/\
   ∀(base:bx)(a:ah)(ns:zr),ns.length<=63->K.In base->base.Ns bz mg->CodeHd base c P->lL mg base->Lawful l.prog w K mg base 18 fa fd "_law_script" [P] a ns:=by
 have hc:obF.all (λf=>f K)=true:=congrArg Prod.fst hob;have hf:rV K=rW:=congrArg jh hob;have e:=hfa.symm.trans (mg_of X G (v:=.ref 435) (dB hc 38));cases e;refine(λ(z:∀R:Prop,(_->R)->R)=>z _ id) λR hR=>?_;obtain⟨g0,U0,B0,C0,D0⟩:=cM hf hc 166 DD "is_whole" 165 ["thing"] 0 70 113 λ_ _ _ _ _ _=>eJ λ_=>rfl;obtain⟨g1,U1,B1,C1,D1⟩:=cM hf hc 173 DE "is_between" 172 ["thing","low","high"] 1 71 114 λ_ _ _ _ _ _=>wU λ_ _ _=>rfl;obtain⟨g2,U2,B2,C2,D2⟩:=cM hf hc 180 DF "need_between" 179 ["thing","low","high"] 2 72 115 λ_ _ _ _ _ _=>wU λ_ _ _=>rfl;obtain⟨g3,U3,B3,C3,D3⟩:=cM hf hc 185 yJ "is_rising" 184 ["parts"] 3 73 116 λ_ _ _ _ _ _=>eJ λ_=>rfl;obtain⟨g4,U4,B4,C4,D4⟩:=cM hf hc 192 DG "is_thing" 191 ["many","thing"] 4 74 117 λ_ _ _ _ _ _=>hU λ_ _=>rfl;obtain⟨g5,U5,B5,C5,D5⟩:=cM hf hc 197 yK "are_things" 196 ["many","thing"] 5 75 118 λ_ _ _ _ _ _=>hU λ_ _=>rfl;obtain⟨g6,U6,B6,C6,D6⟩:=cM hf hc 204 DH "is_pair" 203 ["many","thing"] 6 76 119 λ_ _ _ _ _ _=>hU λ_ _=>rfl;obtain⟨g7,U7,B7,C7,D7⟩:=cM hf hc 209 uC "are_pairs" 208 ["many","things"] 7 77 120 λ_ _ _ _ _ _=>hU λ_ _=>rfl;obtain⟨g8,U8,B8,C8,D8⟩:=cM hf hc 214 uD "has_alike" 213 ["pairs"] 8 78 121 λ_ _ _ _ _ _=>eJ λ_=>rfl;obtain⟨g9,U9,B9,C9,D9⟩:=cM hf hc 219 yL "is_complete" 218 ["pairs"] 9 79 122 λ_ _ _ _ _ _=>eJ λ_=>rfl;obtain⟨g10,U10,B10,C10,D10⟩:=cM hf hc 226 DI "is_order" 225 ["thing"] 10 80 123 λ_ _ _ _ _ _=>eJ λ_=>rfl;obtain⟨g11,U11,B11,C11,D11⟩:=cM hf hc 233 DJ "need_order" 232 ["order"] 11 81 124 λ_ _ _ _ _ _=>eJ λ_=>rfl;obtain⟨g12,U12,B12,C12,D12⟩:=cM hf hc 240 DK "need_thing" 239 ["order","thing"] 12 82 125 λ_ _ _ _ _ _=>hU λ_ _=>rfl;obtain⟨g13,U13,B13,C13,D13⟩:=cM hf hc 245 yM "with_all_that_follows" 244 ["many","pairs"] 13 83 126 λ_ _ _ _ _ _=>hU λ_ _=>rfl;obtain⟨g14,U14,B14,C14,D14⟩:=cM hf hc 252 DL "order_of" 251 ["many","pairs"] 14 84 127 λ_ _ _ _ _ _=>hU λ_ _=>rfl;obtain⟨g15,U15,B15,C15,D15⟩:=cM hf hc 259 DM "are_loose" 258 ["order","one","other"] 15 85 128 λ_ _ _ _ _ _=>wU λ_ _ _=>rfl;obtain⟨g16,U16,B16,C16,D16⟩:=cM hf hc 264 yN "loose_pairs" 263 ["order"] 16 86 129 λ_ _ _ _ _ _=>eJ λ_=>rfl;obtain⟨g17,U17,B17,C17,D17⟩:=cM hf hc 269 yO "is_row" 268 ["order","thing"] 17 87 130 λ_ _ _ _ _ _=>hU λ_ _=>rfl;obtain⟨g18,U18,B18,C18,D18⟩:=cM hf hc 276 DN "need_row" 275 ["order","row"] 18 88 131 λ_ _ _ _ _ _=>hU λ_ _=>rfl;obtain⟨g19,U19,B19,C19,D19⟩:=cM hf hc 281 uE "may_come" 280 ["order","begun"] 19 89 132 λ_ _ _ _ _ _=>hU λ_ _=>rfl;obtain⟨g20,U20,B20,C20,D20⟩:=cM hf hc 286 yP "all_rows" 285 ["order"] 20 90 133 λ_ _ _ _ _ _=>eJ λ_=>rfl;obtain⟨g21,U21,B21,C21,D21⟩:=cM hf hc 293 DO "apart" 292 ["row","pair"] 21 91 134 λ_ _ _ _ _ _=>hU λ_ _=>rfl;obtain⟨g22,U22,B22,C22,D22⟩:=cM hf hc 298 yQ "greatest_apart" 297 ["row","pairs"] 22 92 135 λ_ _ _ _ _ _=>hU λ_ _=>rfl;obtain⟨g23,U23,B23,C23,D23⟩:=cM hf hc 305 DP "span_of" 304 ["order","row"] 23 93 136 λ_ _ _ _ _ _=>hU λ_ _=>rfl;obtain⟨g24,U24,B24,C24,D24⟩:=cM hf hc 310 yR "rows_with_spans" 309 ["order"] 24 94 137 λ_ _ _ _ _ _=>eJ λ_=>rfl;obtain⟨g25,U25,B25,C25,D25⟩:=cM hf hc 315 yS "least_span" 314 ["order"] 25 95 138 λ_ _ _ _ _ _=>eJ λ_=>rfl;obtain⟨g26,U26,B26,C26,D26⟩:=cM hf hc 320 uF "best_rows" 319 ["order"] 26 96 139 λ_ _ _ _ _ _=>eJ λ_=>rfl;obtain⟨g27,U27,B27,C27,D27⟩:=cM hf hc 327 DQ "first_best" 326 ["order"] 27 97 140 λ_ _ _ _ _ _=>eJ λ_=>rfl;obtain⟨g28,U28,B28,C28,D28⟩:=cM hf hc 332 yT "order_text" 331 ["order"] 28 98 141 λ_ _ _ _ _ _=>eJ λ_=>rfl;obtain⟨g29,U29,B29,C29,D29⟩:=cM hf hc 339 DR "say_order" 338 ["order"] 29 99 142 λ_ _ _ _ _ _=>eJ λ_=>rfl;obtain⟨g30,U30,B30,C30,D30⟩:=cM hf hc 344 yU "say_loose" 343 ["order"] 30 100 143 λ_ _ _ _ _ _=>eJ λ_=>rfl;obtain⟨g31,U31,B31,C31,D31⟩:=cM hf hc 351 DS "say_least" 350 ["order"] 31 101 144 λ_ _ _ _ _ _=>eJ λ_=>rfl;obtain⟨g32,U32,B32,C32,D32⟩:=cM hf hc 356 yV "say_best" 355 ["order"] 32 102 145 λ_ _ _ _ _ _=>eJ λ_=>rfl;obtain⟨g33,U33,B33,C33,D33⟩:=cM hf hc 363 DT "say_many" 362 ["order"] 33 103 146 λ_ _ _ _ _ _=>eJ λ_=>rfl;obtain⟨g34,U34,B34,C34,D34⟩:=cM hf hc 371 DU "number_of" 370 ["word"] 34 104 147 λ_ _ _ _ _ _=>eJ λ_=>rfl;obtain⟨g35,U35,B35,C35,D35⟩:=cM hf hc 378 DV "with_ahead" 377 ["order","a","b"] 35 105 148 λ_ _ _ _ _ _=>wU λ_ _ _=>rfl;obtain⟨g36,U36,C36⟩:=xV (st:=DW) (n:="__init__") (q:="Desk.__init__") (c:=391) (ps:=["self"]) (rS hf 36 (a:=bM K 392) rfl rfl) (cZ hc 106 rfl) (cZ hc 149 rfl) λ_ _ _ _ _ _=>eJ λ_=>rfl;obtain⟨g37,U37,C37⟩:=xV (st:=DX) (n:="change_to") (q:="Desk.change_to") (c:=403) (ps:=["self","order"]) (rS hf 37 (a:=bM K 404) rfl rfl) (cZ hc 107 rfl) (cZ hc 150 rfl) λ_ _ _ _ _ _=>hU λ_ _=>rfl;obtain⟨g38,U38,C38⟩:=xV (st:=DY) (n:="undo") (q:="Desk.undo") (c:=410) (ps:=["self"]) (rS hf 38 (a:=bM K 411) rfl rfl) (cZ hc 108 rfl) (cZ hc 151 rfl) λ_ _ _ _ _ _=>eJ λ_=>rfl;obtain⟨g39,U39,C39⟩:=xV (st:=yW) (n:="say") (q:="Desk.say") (c:=396) (ps:=["self","line"]) (rS hf 39 (a:=bM K 397) rfl rfl) (cZ hc 109 rfl) (cZ hc 152 rfl) λ_ _ _ _ _ _=>hU λ_ _=>rfl;obtain⟨g40,U40,B40,C40,D40⟩:=cM hf hc 423 pY "_law_refused" 422 ["_law_call"] 40 110 153 λ_ _ _ _ _ _=>eJ λ_=>rfl;obtain⟨g41,U41,B41,C41,D41⟩:=cM hf hc 430 DZ "_law_bad" 429 ["_law_k"] 41 111 154 λ_ _ _ _ _ _=>eJ λ_=>rfl;obtain⟨g42,U42,B42,C42,D42⟩:=cM hf hc 435 rL "law" 434 ["_law_script"] 42 112 155 λ_ _ _ _ _ _=>eJ λ_=>rfl;obtain⟨t_FIGURES,c_FIGURES⟩:=N4 (n:="FIGURES") (v:="0123456789") (cZ hc 157 rfl);obtain⟨t_MOST_THINGS,c_MOST_THINGS⟩:=N2 (n:="MOST_THINGS") (v:=6) (cZ hc 156 rfl);have ex_NoOrder:Bv K 37:=⟨dB hc 266,dB hc 267,dB hc 268,dB hc 269,dB hc 270,dB hc 271,mZ (cZ hc 272 rfl)⟩
 have ex_NoNumber:Bv K 49:=⟨dB hc 273,dB hc 274,dB hc 275,dB hc 276,dB hc 277,dB hc 278,mZ (cZ hc 279 rfl)⟩
 have ex_NoPairs:Bv K 61:=⟨dB hc 280,dB hc 281,dB hc 282,dB hc 283,dB hc 284,dB hc 285,mZ (cZ hc 286 rfl)⟩
 have ex_Round:Bv K 73:=⟨dB hc 287,dB hc 288,dB hc 289,dB hc 290,dB hc 291,dB hc 292,mZ (cZ hc 293 rfl)⟩
 have ex_NoThing:Bv K 85:=⟨dB hc 294,dB hc 295,dB hc 296,dB hc 297,dB hc 298,dB hc 299,mZ (cZ hc 300 rfl)⟩
 have ex_NoRow:Bv K 97:=⟨dB hc 301,dB hc 302,dB hc 303,dB hc 304,dB hc 305,dB hc 306,mZ (cZ hc 307 rfl)⟩
 have ex_NoLine:Bv K 145:=⟨dB hc 308,dB hc 309,dB hc 310,dB hc 311,dB hc 312,dB hc 313,mZ (cZ hc 314 rfl)⟩
 have ex_NoDeed:Bv K 157:=⟨dB hc 315,dB hc 316,dB hc 317,dB hc 318,dB hc 319,dB hc 320,mZ (cZ hc 321 rfl)⟩
 refine hR ⟨g42,434,432,λs v=>.of_eq (D42 [v] rfl),dB hc 158,hnt,λbase a ns hlen _ _ hC hB=>⟨?_⟩⟩;obtain⟨hh,hl⟩:=z4o ns;refine⟨{K:=K,cl:=λc=>match c with|0=>37|1=>49|2=>61|3=>73|4=>85|5=>97|6=>109|7=>121|8=>133|9=>145|10=>157|_=>24,scr:=ns,sa:=a,tabs:=λb=>if b=432 then some ((("law":Str)++".<locals>.")++"<lambda>")else none,lq:=(("law":Str)++".<locals>.")++"<lambda>",insC:=414},yI ns,hh,rfl,rfl,rfl,WK,hl,?_⟩;refine z1l (A:=⟨166,g0,173,g1,180,g2,185,g3,192,g4,197,g5,204,g6,209,g7,214,g8,219,g9,226,g10,233,g11,240,g12,245,g13,252,g14,259,g15,264,g16,269,g17,276,g18,281,g19,286,g20,293,g21,298,g22,305,g23,310,g24,315,g25,320,g26,327,g27,332,g28,339,g29,344,g30,351,g31,356,g32,363,g33,371,g34,378,g35,392,g36,404,g37,411,g38,397,g39,423,g40,430,g41,435,g42,37,49,61,73,85,97,109,121,133,145,157,t_MOST_THINGS,t_FIGURES,414,364,24,434,432⟩) ?_ (λ_ _ _ _ _ _ _=>trivial) ⟨rfl,hC,hB⟩;exact⟨rfl,⟨U0,B0,bL X G hc 0⟩,⟨U1,B1,bL X G hc 1⟩,⟨U2,B2,bL X G hc 2⟩,⟨U3,B3,bL X G hc 3⟩,⟨U4,B4,bL X G hc 4⟩,⟨U5,B5,bL X G hc 5⟩,⟨U6,B6,bL X G hc 6⟩,⟨U7,B7,bL X G hc 7⟩,⟨U8,B8,bL X G hc 8⟩,⟨U9,B9,bL X G hc 9⟩,⟨U10,B10,bL X G hc 10⟩,⟨U11,B11,bL X G hc 11⟩,⟨U12,B12,bL X G hc 12⟩,⟨U13,B13,bL X G hc 13⟩,⟨U14,B14,bL X G hc 14⟩,⟨U15,B15,bL X G hc 15⟩,⟨U16,B16,bL X G hc 16⟩,⟨U17,B17,bL X G hc 17⟩,⟨U18,B18,bL X G hc 18⟩,⟨U19,B19,bL X G hc 19⟩,⟨U20,B20,bL X G hc 20⟩,⟨U21,B21,bL X G hc 21⟩,⟨U22,B22,bL X G hc 22⟩,⟨U23,B23,bL X G hc 23⟩,⟨U24,B24,bL X G hc 24⟩,⟨U25,B25,bL X G hc 25⟩,⟨U26,B26,bL X G hc 26⟩,⟨U27,B27,bL X G hc 27⟩,⟨U28,B28,bL X G hc 28⟩,⟨U29,B29,bL X G hc 29⟩,⟨U30,B30,bL X G hc 30⟩,⟨U31,B31,bL X G hc 31⟩,⟨U32,B32,bL X G hc 32⟩,⟨U33,B33,bL X G hc 33⟩,⟨U34,B34,bL X G hc 34⟩,⟨U35,B35,bL X G hc 35⟩,U36,U37,U38,U39,⟨U40,B40,bL X G hc 36⟩,⟨U41,B41,bL X G hc 37⟩,⟨U42,B42,bL X G hc 38⟩,mg_none_of X G (dB hc 53),mg_none_of X G (dB hc 54),mg_none_of X G (dB hc 55),mg_none_of X G (dB hc 56),mg_none_of X G (dB hc 57),mg_none_of X G (dB hc 58),mg_none_of X G (dB hc 59),mg_none_of X G (dB hc 60),mg_none_of X G (dB hc 61),mg_none_of X G (dB hc 62),mg_none_of X G (dB hc 63),mg_none_of X G (dB hc 64),mg_none_of X G (dB hc 65),mg_none_of X G (dB hc 66),mg_none_of X G (dB hc 67),mg_none_of X G (dB hc 68),mg_none_of X G (dB hc 69),mg_of X G c_MOST_THINGS,mg_of X G c_FIGURES,bL X G hc 39,bL X G hc 40,bL X G hc 41,bL X G hc 42,bL X G hc 43,bL X G hc 44,bL X G hc 45,bL X G hc 46,bL X G hc 47,bL X G hc 48,bL X G hc 49,dB hc 39,cZ hc 159 rfl,rfl,dB hc 40,cZ hc 160 rfl,rfl,dB hc 41,cZ hc 161 rfl,rfl,dB hc 42,cZ hc 162 rfl,rfl,dB hc 43,cZ hc 163 rfl,rfl,dB hc 44,cZ hc 164 rfl,rfl,dB hc 48,cZ hc 165 rfl,rfl,dB hc 49,cZ hc 166 rfl,rfl,aO ⟨dB hc 322,ex_NoOrder⟩ (aO ⟨dB hc 323,ex_NoNumber⟩ (aO ⟨dB hc 324,ex_NoPairs⟩ (aO ⟨dB hc 325,ex_Round⟩ (aO ⟨dB hc 326,ex_NoThing⟩ (aO ⟨dB hc 327,ex_NoRow⟩ (aO ⟨dB hc 328,ex_NoLine⟩ (aO ⟨dB hc 329,ex_NoDeed⟩ jR))))))),aO ⟨dB hc 178,ex_NoOrder⟩ (aO ⟨dB hc 189,ex_NoNumber⟩ (aO ⟨dB hc 200,ex_NoPairs⟩ (aO ⟨dB hc 211,ex_Round⟩ (aO ⟨dB hc 222,ex_NoThing⟩ (aO ⟨dB hc 233,ex_NoRow⟩ (aO ⟨dB hc 244,ex_NoLine⟩ (aO ⟨dB hc 255,ex_NoDeed⟩ jR))))))),aO ⟨dB hc 179,ex_NoOrder⟩ (aO ⟨dB hc 190,ex_NoNumber⟩ (aO ⟨dB hc 201,ex_NoPairs⟩ (aO ⟨dB hc 212,ex_Round⟩ (aO ⟨dB hc 223,ex_NoThing⟩ (aO ⟨dB hc 234,ex_NoRow⟩ (aO ⟨dB hc 245,ex_NoLine⟩ (aO ⟨dB hc 256,ex_NoDeed⟩ jR))))))),aO ⟨dB hc 180,ex_NoOrder⟩ (aO ⟨dB hc 191,ex_NoNumber⟩ (aO ⟨dB hc 202,ex_NoPairs⟩ (aO ⟨dB hc 213,ex_Round⟩ (aO ⟨dB hc 224,ex_NoThing⟩ (aO ⟨dB hc 235,ex_NoRow⟩ (aO ⟨dB hc 246,ex_NoLine⟩ (aO ⟨dB hc 257,ex_NoDeed⟩ jR))))))),aO ⟨dB hc 181,ex_NoOrder⟩ (aO ⟨dB hc 192,ex_NoNumber⟩ (aO ⟨dB hc 203,ex_NoPairs⟩ (aO ⟨dB hc 214,ex_Round⟩ (aO ⟨dB hc 225,ex_NoThing⟩ (aO ⟨dB hc 236,ex_NoRow⟩ (aO ⟨dB hc 247,ex_NoLine⟩ (aO ⟨dB hc 258,ex_NoDeed⟩ jR))))))),aO ⟨dB hc 182,ex_NoOrder⟩ (aO ⟨dB hc 193,ex_NoNumber⟩ (aO ⟨dB hc 204,ex_NoPairs⟩ (aO ⟨dB hc 215,ex_Round⟩ (aO ⟨dB hc 226,ex_NoThing⟩ (aO ⟨dB hc 237,ex_NoRow⟩ (aO ⟨dB hc 248,ex_NoLine⟩ (aO ⟨dB hc 259,ex_NoDeed⟩ jR))))))),aO ⟨dB hc 183,ex_NoOrder⟩ (aO ⟨dB hc 194,ex_NoNumber⟩ (aO ⟨dB hc 205,ex_NoPairs⟩ (aO ⟨dB hc 216,ex_Round⟩ (aO ⟨dB hc 227,ex_NoThing⟩ (aO ⟨dB hc 238,ex_NoRow⟩ (aO ⟨dB hc 249,ex_NoLine⟩ (aO ⟨dB hc 260,ex_NoDeed⟩ jR))))))),aO ⟨dB hc 184,ex_NoOrder⟩ (aO ⟨dB hc 195,ex_NoNumber⟩ (aO ⟨dB hc 206,ex_NoPairs⟩ (aO ⟨dB hc 217,ex_Round⟩ (aO ⟨dB hc 228,ex_NoThing⟩ (aO ⟨dB hc 239,ex_NoRow⟩ (aO ⟨dB hc 250,ex_NoLine⟩ (aO ⟨dB hc 261,ex_NoDeed⟩ jR))))))),aO ⟨dB hc 185,ex_NoOrder⟩ (aO ⟨dB hc 196,ex_NoNumber⟩ (aO ⟨dB hc 207,ex_NoPairs⟩ (aO ⟨dB hc 218,ex_Round⟩ (aO ⟨dB hc 229,ex_NoThing⟩ (aO ⟨dB hc 240,ex_NoRow⟩ (aO ⟨dB hc 251,ex_NoLine⟩ (aO ⟨dB hc 262,ex_NoDeed⟩ jR))))))),aO ⟨dB hc 186,ex_NoOrder⟩ (aO ⟨dB hc 197,ex_NoNumber⟩ (aO ⟨dB hc 208,ex_NoPairs⟩ (aO ⟨dB hc 219,ex_Round⟩ (aO ⟨dB hc 230,ex_NoThing⟩ (aO ⟨dB hc 241,ex_NoRow⟩ (aO ⟨dB hc 252,ex_NoLine⟩ (aO ⟨dB hc 263,ex_NoDeed⟩ jR))))))),aO ⟨dB hc 187,ex_NoOrder⟩ (aO ⟨dB hc 198,ex_NoNumber⟩ (aO ⟨dB hc 209,ex_NoPairs⟩ (aO ⟨dB hc 220,ex_Round⟩ (aO ⟨dB hc 231,ex_NoThing⟩ (aO ⟨dB hc 242,ex_NoRow⟩ (aO ⟨dB hc 253,ex_NoLine⟩ (aO ⟨dB hc 264,ex_NoDeed⟩ jR))))))),aO ⟨dB hc 188,ex_NoOrder⟩ (aO ⟨dB hc 199,ex_NoNumber⟩ (aO ⟨dB hc 210,ex_NoPairs⟩ (aO ⟨dB hc 221,ex_Round⟩ (aO ⟨dB hc 232,ex_NoThing⟩ (aO ⟨dB hc 243,ex_NoRow⟩ (aO ⟨dB hc 254,ex_NoLine⟩ (aO ⟨dB hc 265,ex_NoDeed⟩ jR))))))),bL X G hc 50,dB hc 330,dB hc 331,dB hc 332,kM (dB hc 167) (kM (dB hc 168) (kM (dB hc 169) (kM (dB hc 170) (kM (dB hc 171) (kM (dB hc 172) (kM (dB hc 173) (kM (dB hc 174) (kM (dB hc 175) (kM (dB hc 176) (kM (dB hc 177) WH)))))))))),rfl,⟨dB hc 333,dB hc 334,dB hc 335,dB hc 336⟩,bL X G hc 51,⟨dB hc 337,dB hc 338,dB hc 339,dB hc 340⟩,dB hc 341,dB hc 342,⟨dB hc 343,dB hc 344,cZ hc 150 rfl⟩,⟨dB hc 345,dB hc 346,cZ hc 151 rfl⟩,⟨dB hc 347,dB hc 348,cZ hc 152 rfl⟩,j8 (cZ hc 349 rfl),bL X G hc 52,C42⟩
end L2.Mr.K93
open PySem PySem.W PyProof.Rows
set_option maxRecDepth 100000 in
set_option maxHeartbeats 0 in
theorem PySem.Challenge.cw_nearorders_k93_lines_that_are_none_holds : PySem.Challenge.rw_nearorders_k93_lines_that_are_none.Holds := by
  w_on
  refine holds_law L2.Mr.K93.ws fun said=> ?_
  refine holds_open (XP:=XL L2.Mr.K93.vw []) (YP:=L2.Mr.Ys L2.Mr.K93.ob L2.Mr.K93.obE) L2.Mr.K93.left L2.Mr.ys_of L2.Mr.ys_keeps (fun s e=> xl_of s (Bool.and_eq_true_iff.mp e).1) XL.keeps (by rfl) (by rfl) (by rfl) (fun s e=> recFacts_of (Bool.and_eq_true_iff.mp e).2) (by rfl) (by first| assumption| decide+kernel) (by decide+kernel) ⟨rfl,rfl,rfl,rfl,rfl,by decide+kernel⟩ ?hw ?hc
  case hw=> w_witness2
  case hc=> exact L2.Mr.walkK2 (l:=PySem.Challenge.rw_nearorders_k93_lines_that_are_none) (n:=63) (k:=18) (x:="_law_script") "law" rfl (by decide) rfl ⟨rfl,by decide,by decide⟩ ⟨_,rfl,rfl⟩ (fun K w mg fa h hob hnt X G hmg=> L2.Mr.K93.mk_of hob hnt X G hmg)