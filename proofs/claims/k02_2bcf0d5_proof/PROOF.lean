import PyProof.Rows.All
import Wide.All
import OpenK.AllK
import Wide.FinOn
import Lean
import PyProof.EqAt
import PyProof.EqKinds
import PyProof.TupleCall
import PyProof.NeKinds
import PyProof.StationsW
import PyProof.ExcClass3
import PyProof.ExcBaseAll.ValueError
import PyProof.ExcArgsOwn
import KE.KIsAll
import PyProof.ZipIter
import PyProof.RulesAs
import KE.KLam
import PyProof.NsDelKeeps
import PyProof.Rows.Range3
import PyProof.SumWalkG
import PyProof.EnumMake
import PyProof.EnumFor
import PyProof.WalkInts
import PyProof.Rows.SortWalk
import KE.KSortAsk
import PySem.SetOps
import KE.KSortTup
import PyProof.Rows.SetFrom
import PyProof.SetRoads
import PyProof.Rows.CallKwBuiltin
import PyProof.EnumIter
import PyProof.DictCompW
import KE.KDictList
import PySem.Challenge.RW_nearorders_k02_orders_made
abbrev xq:=List (Int×Int)
abbrev xr:=List (List Int)
abbrev xu:=List Int
abbrev xv:=List Nat
abbrev xw:=List PySem.Str
set_option genSizeOf false
set_option compiler.extract_closed false
noncomputable section
open Array renaming getElem?_eq_some_iff->df,getElem?_eq_getElem->ey,getElem?_toList->gz,getElem?_setIfInBounds_self_of_lt->ie,length_toList->iw,getD->jk,getElem?_eq_none->jl,perm_iff_toList_perm->ui,getElem?_eq_none_iff->um,getElem?_replicate->v8,mem_toList_iff->wt,forIn_toList->xk
open Bool renaming false_eq_true->bz,and_eq_true->dh,false_ne_true->gu,eq_iff_iff->jr,not_true->nq,and_false->ow
open Classical renaming em->p9
open False renaming elim->gk
open ForInStep renaming yield->pd
open Int renaming toNat_natCast->di
open List renaming size_toArray->au,getElem?_eq_some_iff->ay,mem_cons_of_mem->az,mem_cons->ba,mem_cons_self->bc,length_map->bf,getElem?_eq_getElem->bh,mem_range->bq,mem_append_right->br,forall_mem_cons->bw,range->bx,filterMap_cons->cj,mem_of_getElem?->cm,length_cons->cn,mem_map->cw,getElem?_set_self->cx,mem_singleton->cy,length_append->de,pairwise_cons->dj,getElem?_append_left->dk,getElem?_set_ne->dw,map_cons->dy,getElem?_map->dz,mem_append->fg,getElem?_append_right->fh,getElem_mem->gh,pairwise_iff_getElem->gj,lookup_cons->gv,replicate->gw,length_set->gy,all_eq_true->ic,length_take->jc,getElem_of_mem->jg,nodup_cons->jo,map_append->js,perm_ext_iff_of_nodup->kg,append_nil->kr,mem_filterMap->kz,take_of_length_le->md,length_range->mf,ext_getElem?->mj,length_drop->mz,mem_append_left->nr,mem_filter->o6,length_nil->o7,forIn_cons->o9,map_map->om,getElem?_zip_eq_some->p6,flatMap_cons->pb,getElem?_replicate->pj,getD->pq,getElem?_cons_succ->pv,countP_cons->pw,drop_of_length_le->qf,foldl_cons->qj,getElem?_eq_none->ql,length->qr,mem_of_mem_drop->qt,map_take->rf,map_drop->rg,pairwise_map->sj,append_assoc->sk,eraseIdx_eq_take_drop_succ->tj,nodup_range->tm,ext_getElem->tx,getElem_map->u0,not_mem_nil->u5,of_mem_zip->ud,nodup_iff_pairwise_ne->uv,length_eraseIdx_of_lt->uw,drop_eq_getElem_cons->v9,getElem?_take_of_lt->vc,length_eq_zero_iff->vk,range_succ_eq_map->vq,all_map->vt,length_singleton->wg,take_append_drop->wq,getElem?_toArray->wz,mem_iff_getElem->xa,mem_of_mem_take->xc,replicate_succ->xl,forall_mem_nil->xm
open List.Pairwise renaming nil->nt,imp_of_mem->sh
open List.Perm renaming refl->sy,swap->t9,append_left->ux
open List.cons renaming injEq->xb
open Nat renaming le_refl->ak,lt_of_lt_of_le->aq,ne_of_lt->aw,le_trans->da,le_of_lt->fv,lt_irrefl->fy,ne_of_gt->ig,lt_or_ge->ij,zero_le->iq,lt_succ_self->jh,lt_succ_of_lt->jw,mul_le_mul->kh,le_of_eq->oq,le_add_right->q5,succ_ne_self->q9,zero_add->qg,le_succ->ue,lt_trans->wj
open Ne renaming symm->cu
open Option renaming isSome_iff_exists->ur
open Option.some renaming inj->cq,injEq->va
open Or renaming inl->x8
open Prod renaming fst->ed,snd->oz
open PyProof.Rows renaming slot_tuple_getitem->fz,IntsAre->km,callWith_type1->mr,AllBare->qc,get?_update_seq->qz,listUpdate_at->tu,lt_int->ug,size_push'->wy
open PySem renaming wpAny_bind->aa,Value->ae,Shared->af,Addr->ah,wpAny_pure->ai,starEach->ax,Program->bg,Expr->bj,sizeLine->bo,Around->bp,World->cf,FuncData->cg,Heap->ck,mainGlobals->cp,bootBuiltins->dm,wpAny_newObj_type->du,wpAny_holding->dv,mem_of_lookup->ff,wpAny_callSpecial?_slot->fj,wpAny_call_entry->fq,wpAny_field->fw,IsTupleKey->gb,wpAny_setField_rec->gi,Scope->gn,SetTable->gp,sizeLine_eq->gr,wpAny_seqItems->iz,Stmt->ja,wpAny_setState_of->jb,wpAny_mono->je,NameKind->jm,wpAny_passesOwn->jx,codeAny_builtin->jz,Arguments->ka,wpAny_truthy_bool->kj,wpAny_askSetting->ku,wpAny_standAt->lh,wpAny_execs_nil->ll,Builtin->lr,pushCells_keeps->ly,wpAny_Call_Name_kw->mn,wpAny_pyIter_list->n9,codeAny_mono->nc,IsPair->nj,wpAny_execs_cons->og,Comprehension->oi,wpAny_onRaise->oj,wpAny_typeNameOfWhole_keyiter->ou,wpAny_typeOf->p8,wpAny_pyIter_tuple->pg,wpAny_attempt->qh,wpAny_forIn_list->qo,wpAny_isInstance->qp,wpAny_rule->qu,IsPart->rp,codeAny_call_builtin->sd,wpAny_updateSeq_pair->sf,TriplesOk->si,wpAny_setEntries_of->td,wpAny_newList->tw,Result->u6,call_meets->u9,wpAny_pyIter_slot->uk,PassesOwn->uy,noFill_tuple_add->v5,Model->vb,wpAny_of_eq->ve,IsZip->vf,wpAny_specialOf->vj,BindsTo->vn,wpAny_call->wb,wpAny_setField->wm,isSubtype_stop->wo,wpAny_fieldsOf->wu,wpAny_runValue->wx,seq_tuple_add->xh,call->xi,wpAny_comprehension_free->xj
open PySem.Around renaming under_plainId->jd,frames_deeper->vp
open PySem.Builtin.List renaming listTooLong->o8,listExtendWith->rh,listFitsIndex->rn,listSameRef->sr,listTouch->tq
open PySem.Builtin.Slice renaming slicePlaces->jq,sliceAdjust->nh,sliceApplied->r9
open PySem.Builtin.SmallTypes renaming nextOf->fe,ownedTupleIsFree->p4,stopIteration->pf
open PySem.Builtin.Tuple renaming tupleExact->ju
open PySem.Calls renaming Name_function_global->uf,evalArgs_plain->wd
open PySem.Challenge renaming pw_nearorders_k02_orders_made->ag
open PySem.Code renaming quiet_builtin->rj
open PySem.EntryCells renaming newEntry->v7
open PySem.F renaming plainAttrs_list->kq,args_tuple_add_2->p0,entry_tuple_add->p7,slot_tuple_add->ph,excBase_ValueError->ua,slot_list_insert->uq
open PySem.Heap renaming get?_push_of_some->aj,lt_size->ao,get?_push_size->av,size_push->fi,SameBut->gg,get?_update_ne->kn,get?_update_other->lx,get?_update_self->my,ExtBut->ub
open PySem.Heap.SameBut renaming update->mq,refl->qk
open PySem.IsL renaming update->we
open PySem.NameKind renaming free->bu,cell->dg
open PySem.Obj renaming mapSeq->ni,data_mapFields->rz,isFreed_of_fields->x9
open PySem.PassesOwn renaming leaving->vz
open PySem.SeqAt renaming EqAt->jy,RcAt->pz
open PySem.SetTable renaming insertAt->ik,turns->qd,below->qe,sizeAbove->w9
open PySem.Shared renaming TypeIs->qv
open PySem.Str renaming ofString->jn
open PySem.Value renaming ref->gm,none->ib,isInt_shape->lg,builtin->qw,bool->xf,type->xg
open PySem.W renaming Frag->ar,kitOne->cz,subIn->jf,kla_obj->ji,keepIn->jt,CodeHd->jv,envX->lb,excIn->mw,fnOf->nu,nsIn->nv,kla_fn->oh,tabObj->qi,methodObj->r8,codeIn->u7,kitCls->uc,cellsFrom_some->uz,hideAll_size->vg,hideAll_none->vh,hideAll_get->vm,of_hideAll->wa,callWith_K->wc
open PySem.Walks renaming list->uh
open PySem.pickOrder renaming go->uj
open Sum renaming inl->iu,inr->sv
set_option Elab.async false
set_option linter.all false
set_option maxRecDepth 100000
set_option maxHeartbeats 4000000
namespace L2.Mr
open PySem PySem.Spec PySem.Calls PyProof.Rows PySem.W
def J1 (o:Obj):Bool:=match o.cls,o.data with
 | .none,.fields _=>false
 |_,_=>true
def kT (h:ck):List ah->Frag
 | []=>[]
 |a::as=>match h.get? a with
  |some o=>match J1 o with
   |true=>(a,o)::kT h as
   |false=>kT h as
  |none=>kT h as
def oS (h:ck):Frag:=kT h (bx h.objs.size)
theorem rK (h:ck):∀as,(kT h as).In h
 | [],_,_,e=>nomatch e
 |a::as,b,o,e=>by
  unfold kT at e
  split at e
  ·rename_i o' q
   split at e
   ·rw[gv]at e
    cases z:b==a with
    |true=>rw[z]at e;cases e;rw[eq_of_beq z];exact q
    |false=>rw[z]at e;exact rK h as b o e
   ·exact rK h as b o e
  ·exact rK h as b o e
theorem rL (h:ck):∀as,noTabs (kT h as)=true
 | []=>rfl
 |a::as=>by
  unfold kT
  split
  ·split
   ·rename_i q;show(_&&_)=true;rw[dh];refine⟨?_,rL h as⟩;exact q
   ·exact rL h as
  ·exact rL h as
def dC (K:Frag) (f:ah):Option cg:=match K.lookup f with
 |some o=>match o.data with
  | .func fd=>some { fd with kwdefaults:=.none,doc:=.none,pyModule:=.none,annotations:=none,closureTuple:=.none }
  |_=>none
 |none=>none
theorem J2 {K:Frag}{f:ah}{n q:Str}{A:ka}{B:List ja}{S:gn}{dV cd:ae}(h:dC K f=some (fnOf n q A B S dV .none .none .none none cd .none)):
  ∃(oc:ae) (od:Option ah) (kV dc pm:ae) (an:Option ah) (ct:ae) (sl:Array (Option ae)),K.lookup f=some ⟨oc,od,.func (fnOf n q A B S dV kV dc pm an cd ct),sl⟩:=by
 unfold dC at h
 split at h
 ·rename_i o e
  split at h
  ·rename_i fd q;obtain⟨oc,od,dt,sl⟩:=o;cases fd;simp only[va,FuncData.mk.injEq]at h;obtain⟨rfl,rfl,rfl,rfl,rfl,rfl,rfl,rfl,_,_,_,_,rfl,_,rfl⟩:=h;simp only at q;subst q;exact⟨_,_,_,_,_,_,_,_,e⟩
  ·cases h
 ·cases h
theorem jF {F:List (Frag->Bool)}{K:Frag}(h:F.all (λf=>f K)=true) (i:Nat) {f:Frag->Bool}(e:F[i]?=some f):f K=true:=ic.mp h f (cm e)
theorem J3 {l m:List (Option cg)}(h:l=m) (i:Nat) {a b:Option cg}(e:l[i]?=some a) (e':m[i]?=some b):a=b:=by subst h;rw[e]at e';exact cq e'
def oU (K:Frag) (q:ah):Bool:=match K.lookup q with
 |some ⟨_,_,.cls _,_⟩=>true
 |_=>false
theorem vP {K:Frag}{q:ah}(h:oU K q=true):∃lo ld lc ls,K.lookup q=some ⟨lo,ld,.cls lc,ls⟩:=by
 unfold oU at h
 split at h
 ·exact⟨_,_,_,_,by assumption⟩
 ·cases h
def vQ (K:Frag) (n:Str) (v:Int):Bool:=match nsIn K cp n with
 |some (some (.int i _))=>i==v
 |_=>false
theorem J4 {K:Frag}{n:Str}{v:Int}(h:vQ K n v=true):∃t,nsIn K cp n=some (some (.int v t)):=by
 unfold vQ at h
 split at h
 ·rename_i i t e;rw[eq_of_beq h]at e;exact⟨t,e⟩
 ·cases h
theorem vR (p:bg) (w:cf) (N:Nat) {α:Type}(f:af->α):(openEnds treeTable p w N).map f=(((Fast.tw10274390034422433532 Fast.tw14364793385576792824 (opening p) w N (PySem.start (opening p)).1 (PySem.start (opening p)).2).bind (Fast.tw14289696077712309145 p)).bind λs₀=>match s₀.heap.isNs cp&&s₀.gens.size==0 with
 |true=>(Fast.tw14082659384304107361 Fast.tw14364793385576792824 p w s₀.heap.objs.size (s₀.heap.nsMap cp "__annotations__") N s₀ (topStub p)).bind λs₁=>match staticsOk (importedModules p.main.body) s₀.heap s₁.heap&&namesBound p s₁.heap&&gensDone s₁&&laidKept s₀.heap s₁.heap with
   |true=>some s₁
   |false=>none
 |false=>none).map f:=by
 rw[<-Fast.te10274390034422433532,<-Fast.te14364793385576792824,<-Fast.te14289696077712309145,<-Fast.te14082659384304107361];rfl
abbrev vS:List ae:=[.type "ValueError",.type "Exception",.type "BaseException",.type "object"]
def J5 (s:ja) (cd:ah):Option cg:=match s with
 | .FunctionDef n a b _ _ _ sc _ _ _=>some (fnOf n n a b sc .none .none .none .none none (.ref cd) .none)
 |_=>none
def fE (p:bg) (i:Nat) (cd:ah):Option cg:=J5 (p.main.body.getD i (.Pass ⟨0,0,0,0⟩)) cd
def nR (K:Frag) (n:Str) (a:ah):Bool:=decide (nsIn K cp n=some (some (.ref a)))
def nN (K:Frag) (n:Str):Bool:=decide (nsIn K cp n=some none)
def sI (K:Frag) (a b:ae) (v:Bool):Bool:=decide (subIn K a b=some v)
def kI (K:Frag) (a b:ah) (v:Bool):Bool:=decide (kitOne K (.ref a) (.ref b)=some v)
theorem dA {F:List (Frag->Bool)}{K:Frag}(h:F.all (λf=>f K)=true) (i:Nat) {g:Frag->Prop}[∀K,Decidable (g K)] (e:F[i]?=some (λK=>decide (g K))):g K:=of_decide_eq_true (jF h i e)
end L2.Mr
namespace L2.Mr.K02
open PySem PySem.Spec PySem.Calls PySem.W PyProof.Rows L2.Mr
def vw:bg:={ ag with main:={ ag.main with body:=List.filterMap (λi=>ag.main.body[i]?) [1,2,3,4,5,6,7,8,9,10,11,12,14,15,16,18,19,20,21,22,23,24,25,27,28,29,30,31,32,33,34,35] } }
def Xw:af->Bool:=λs=>xlAt vw [] s&&recOk (RowW.records (OpenRow.toRowW PySem.Challenge.rw_nearorders_k02_orders_made.row)) s
def obF:List (Frag->Bool):=[(nR · "is_whole" 166),(nR · "is_between" 173),(nR · "need_between" 180),(nR · "is_thing" 187),(nR · "are_things" 192),(nR · "is_pair" 199),(nR · "are_pairs" 204),(nR · "has_alike" 209),(nR · "with_all_that_follows" 214),(nR · "order_of" 221),(nR · "_law_cell_at" 228),(nR · "_law_state" 235),(nR · "_law_take" 242),(nR · "_law_mixed_row" 249),(nR · "_law_closed" 254),(nR · "_law_same" 259),(nR · "_law_refused" 264),(nR · "_law_pairs" 271),(nR · "law" 276),(nR · "NoOrder" 37),(nR · "NoNumber" 49),(nR · "NoPairs" 61),(nR · "Round" 73),(nR · "NoThing" 85),(nR · "NoRow" 97),(nR · "TooMany" 109),(nR · "TooFew" 121),(nR · "NoText" 133),(nR · "NoLine" 145),(nR · "NoDeed" 157),(nR · "NearError" 24),(nN · "ValueError"),(nN · "all"),(nN · "any"),(nN · "bool"),(nN · "int"),(nN · "isinstance"),(nN · "len"),(nN · "list"),(nN · "max"),(nN · "min"),(nN · "range"),(nN · "set"),(nN · "sorted"),(nN · "tuple"),(nN · "zip"),(codeIn · (.ref 165) "is_whole"),(codeIn · (.ref 172) "is_between"),(codeIn · (.ref 179) "need_between"),(codeIn · (.ref 186) "is_thing"),(codeIn · (.ref 191) "are_things"),(codeIn · (.ref 198) "is_pair"),(codeIn · (.ref 203) "are_pairs"),(codeIn · (.ref 208) "has_alike"),(codeIn · (.ref 213) "with_all_that_follows"),(codeIn · (.ref 220) "order_of"),(codeIn · (.ref 227) "_law_cell_at"),(codeIn · (.ref 234) "_law_state"),(codeIn · (.ref 241) "_law_take"),(codeIn · (.ref 248) "_law_mixed_row"),(codeIn · (.ref 253) "_law_closed"),(codeIn · (.ref 258) "_law_same"),(codeIn · (.ref 263) "_law_refused"),(codeIn · (.ref 270) "_law_pairs"),(codeIn · (.ref 275) "law"),(keepIn · (.ref 166)),(keepIn · (.ref 173)),(keepIn · (.ref 180)),(keepIn · (.ref 187)),(keepIn · (.ref 192)),(keepIn · (.ref 199)),(keepIn · (.ref 204)),(keepIn · (.ref 209)),(keepIn · (.ref 214)),(keepIn · (.ref 221)),(keepIn · (.ref 228)),(keepIn · (.ref 235)),(keepIn · (.ref 242)),(keepIn · (.ref 249)),(keepIn · (.ref 254)),(keepIn · (.ref 259)),(keepIn · (.ref 264)),(keepIn · (.ref 271)),(keepIn · (.ref 276)),(vQ · "MOST_THINGS" 6),λK=>decide (tabIn K "law" = some (275,273)),(excIn · 49 vS "ValueError.__new__"),(excIn · 61 vS "ValueError.__new__"),(excIn · 73 vS "ValueError.__new__"),(sI · (.ref 37) (.ref 24) true),(sI · (.ref 49) (.ref 24) true),(sI · (.ref 61) (.ref 24) true),(sI · (.ref 73) (.ref 24) true),(sI · (.ref 85) (.ref 24) true),(sI · (.ref 97) (.ref 24) true),(sI · (.ref 109) (.ref 24) true),(sI · (.ref 121) (.ref 24) true),(sI · (.ref 133) (.ref 24) true),(sI · (.ref 145) (.ref 24) true),(sI · (.ref 157) (.ref 24) true),(kI · 49 37 false),(kI · 49 49 true),(kI · 49 61 false),(kI · 49 73 false),(kI · 49 85 false),(kI · 49 97 false),(kI · 49 109 false),(kI · 49 121 false),(kI · 49 133 false),(kI · 49 145 false),(kI · 49 157 false),(kI · 61 37 false),(kI · 61 49 false),(kI · 61 61 true),(kI · 61 73 false),(kI · 61 85 false),(kI · 61 97 false),(kI · 61 109 false),(kI · 61 121 false),(kI · 61 133 false),(kI · 61 145 false),(kI · 61 157 false),(kI · 73 37 false),(kI · 73 49 false),(kI · 73 61 false),(kI · 73 73 true),(kI · 73 85 false),(kI · 73 97 false),(kI · 73 109 false),(kI · 73 121 false),(kI · 73 133 false),(kI · 73 145 false),(kI · 73 157 false),λK=>decide (findIn K (.ref 49) "__getattribute__" = some (some (.builtin "BaseException.__getattribute__"))),λK=>decide (findIn K (.ref 49) "__getattr__" = some none),λK=>decide (findIn K (.ref 49) "__class__" = some (some (.builtin "object.__class__"))),λK=>decide (mroIn K 49 (.type "object")=some true),(sI · (.ref 49) (.type "BaseException") true),λK=>decide (kitCls K (.ref 49) (.ref 49)=some true),(oU · 49),λK=>decide (findIn K (.ref 61) "__getattribute__" = some (some (.builtin "BaseException.__getattribute__"))),λK=>decide (findIn K (.ref 61) "__getattr__" = some none),λK=>decide (findIn K (.ref 61) "__class__" = some (some (.builtin "object.__class__"))),λK=>decide (mroIn K 61 (.type "object")=some true),(sI · (.ref 61) (.type "BaseException") true),λK=>decide (kitCls K (.ref 61) (.ref 61)=some true),(oU · 61),λK=>decide (findIn K (.ref 73) "__getattribute__" = some (some (.builtin "BaseException.__getattribute__"))),λK=>decide (findIn K (.ref 73) "__getattr__" = some none),λK=>decide (findIn K (.ref 73) "__class__" = some (some (.builtin "object.__class__"))),λK=>decide (mroIn K 73 (.type "object")=some true),(sI · (.ref 73) (.type "BaseException") true),λK=>decide (kitCls K (.ref 73) (.ref 73)=some true),(oU · 73),λK=>decide (kitOne K (.ref 49) (.type "ValueError")=some true),λK=>decide (kitOne K (.ref 61) (.type "ValueError")=some true),λK=>decide (kitOne K (.ref 73) (.type "ValueError")=some true),(sI · (.ref 24) (.type "BaseException") true),(sI · (.type "type") (.type "tuple") false),λK=>decide (kitCls K (.ref 24) (.ref 24)=some true)]
def vT (K:Frag):List (Option cg):=[dC K 166,dC K 173,dC K 180,dC K 187,dC K 192,dC K 199,dC K 204,dC K 209,dC K 214,dC K 221,dC K 228,dC K 235,dC K 242,dC K 249,dC K 254,dC K 259,dC K 264,dC K 271,dC K 276]
def vU:List (Option cg):=[fE ag 14 165,fE ag 15 172,fE ag 16 179,fE ag 19 186,fE ag 20 191,fE ag 21 198,fE ag 22 203,fE ag 23 208,fE ag 24 213,fE ag 25 220,fE ag 27 227,fE ag 28 234,fE ag 29 241,fE ag 30 248,fE ag 31 253,fE ag 32 258,fE ag 33 263,fE ag 34 270,fE ag 35 275]
def ob (K:Frag):Bool×List (Option cg):=(obF.all (λf=>f K),vT K)
abbrev obE:Bool×List (Option cg):=(true,vU)
theorem A8 {α β γ:Type}{o:Option α}{f:α->β}{g:α->γ}{a:β}{b:γ}(h1:o.map f=some a) (h2:o.map g=some b):o.map (λs=>(f s,g s))=some (a,b):=by
 cases o with
 |none=>cases h1
 |some s=>cases h1;cases h2;rfl
theorem J6 (w:cf):(openEnds treeTable ag w 8000).map (λs=>openSeen vw [] (importedModules (ag).main.body) Xw true s)=some (openGood vw []):=by rw[vR,Fast.te4187177175401517315];kernel_rfl
theorem J7 (w:cf):(openEnds treeTable ag w 8000).map (λs=>obF.all (λf=>f (oS s.heap)))=some true:=by rw[vR];kernel_rfl
theorem J8 (w:cf):(openEnds treeTable ag w 8000).map (λs=>vT (oS s.heap))=some vU:=by rw[vR];kernel_rfl
theorem left:LeftO ag vw [] Xw (λs=>ob (oS s.heap)) (λ_=>obE) 8000:=λw=>A8 (J6 w) (A8 (J7 w) (J8 w))
end L2.Mr.K02
namespace L2
open PySem PySem.Spec PyProof.Rows
abbrev cB:=Sum Int Str
def rM:cB->ae->Bool
 | .inl k,v=>Value.isInt k v
 | .inr x,v=>Value.isStrOf x v
def J9 (w:cf):cB->Int
 | .inl k=>hashInt k
 | .inr x=>hashStr w x
theorem jZ:∀{k:cB}{v:ae},rM k v=true->(∃i t,k=iu i/\v=Value.int i t)∨(∃x t,k=sv x/\v=Value.str x t)
 | .inl i,v,h=>by obtain⟨t,e⟩:=lg (k:=i) (v:=v) h;exact .inl ⟨i,t,rfl,e⟩
 | .inr x,v,h=>by obtain⟨t,e⟩:=Value.isStrOf_shape (x:=x) (v:=v) h;exact .inr ⟨x,t,rfl,e⟩
theorem KC (i:Int) (t:Tok):rM (.inl i) (.int i t)=true:=by simp[rM,Value.isInt]
theorem KG (a b:Int):decide ((iu a:cB)=iu b)=(a==b):=by
 by_cases e:a=b
 ·subst e;simp
 ·have h:¬ (iu a:cB)=iu b:=λq=>e (Sum.inl.inj q);rw[decide_eq_false h];exact(beq_eq_false_iff_ne.mpr e).symm
theorem KH (a b:Str):decide ((sv a:cB)=sv b)=decide (a=b):=by
 by_cases e:a=b
 ·subst e;simp
 ·have h:¬ (sv a:cB)=sv b:=λq=>e (Sum.inr.inj q);rw[decide_eq_false h,decide_eq_false e]
theorem KI (a:Int) (b:Str):decide ((iu a:cB)=sv b)=false:=decide_eq_false (λq=>nomatch q)
theorem KJ (a:Str) (b:Int):decide ((sv a:cB)=iu b)=false:=decide_eq_false (λq=>nomatch q)
def jG (prog:bg) (w:cf):PySem.KeyKind prog w cB where
 is:=rM
 hash:=J9 w
 inj:=λv a b ha hb=>by
  rcases jZ ha with⟨i,t,rfl,rfl⟩|⟨x,t,rfl,rfl⟩
  ·rcases jZ hb with⟨j,u,rfl,e⟩|⟨y,u,rfl,e⟩
   ·injection e with e1 _;rw[e1]
   ·exact nomatch e
  ·rcases jZ hb with⟨j,u,rfl,e⟩|⟨y,u,rfl,e⟩
   ·exact nomatch e
   ·injection e with e1 _;rw[e1]
 byValue:=λk v h=>by rcases jZ h with⟨i,t,rfl,rfl⟩|⟨x,t,rfl,rfl⟩ <;> rfl
 pyHash:=λhv h=>by
  rcases jZ hv with⟨i,t,rfl,rfl⟩|⟨x,t,rfl,rfl⟩
  ·exact wpAny_pyHash_int h
  ·exact wpAny_pyHash_str h
 eqBool:=λhu hv h=>by
  rcases jZ hu with⟨i,t,rfl,rfl⟩|⟨x,t,rfl,rfl⟩
  ·rcases jZ hv with⟨j,u,rfl,rfl⟩|⟨y,u,rfl,rfl⟩
   ·rw[KG]at h;exact wpAny_eqBool_int h
   ·rw[KI]at h;exact SeqAt.EqAt.int_str i t y u _ _ _ _ h
  ·rcases jZ hv with⟨j,u,rfl,rfl⟩|⟨y,u,rfl,rfl⟩
   ·rw[KJ]at h;exact SeqAt.EqAt.str_int x t j u _ _ _ _ h
   ·rw[KH]at h;exact wpAny_eqBool_str h
 «strs»:=λk x t v h=>by
  rcases jZ h with⟨i,u,rfl,e⟩|⟨y,u,rfl,e⟩
  ·exact nomatch e
  ·injection e with e1 _;subst e1
   cases v <;> rfl
theorem KL (prog:bg) (w:cf) (i:Int) (t:Tok):(jG prog w).is (.inl i) (.int i t)=true:=KC i t
inductive V where
 |non|bl (b:Bool)|int (i:Int)|str (x:Str)|byt (b:Array UInt8)|flt (b:UInt64)|ref (a:ah)|ty (n:String)
 deriving DecidableEq
def RelV:V->ae->Prop
 | .non,u=>u=ib
 | .bl b,u=>u=xf b
 | .int i,u=>∃t,u=Value.int i t
 | .str x,u=>∃t,u=Value.str x t
 | .byt b,u=>∃t,u=Value.bytes b t
 | .flt b,u=>∃t,u=Value.float b t
 | .ref a,u=>u=gm a
 | .ty n,u=>u=xg n
abbrev yg:List V->List ae->Prop:=Paired RelV
theorem yg.length {xs:List V}{us:List ae}(r:yg xs us):xs.length=us.length:=Paired.length r
theorem yg.get:∀{xs:List V}{us:List ae}{i:Nat}{x:V},yg xs us->xs[i]?=some x->∃u,us[i]?=some u/\RelV x u
 |_,_,_,_,.nil,e=>by simp at e
 |_,_,0,_,.cons r _,e=>by simp at e;subst e;exact⟨_,rfl,r⟩
 |_,_,i+1,x,.cons _ t,e=>by obtain⟨u,h1,h2⟩:=yg.get (i:=i) (x:=x) t (by simpa using e);exact⟨u,by simpa using h1,h2⟩
theorem yg.set {x:V}{u:ae}(r:RelV x u):∀{xs:List V}{us:List ae}(i:Nat),yg xs us->yg (xs.set i x) (us.set i u)
 |_,_,_,.nil=>.nil
 |_,_,0,.cons _ t=>.cons r t
 |_,_,i+1,.cons q t=>.cons q (yg.set r i t)
theorem yg.append:∀{xs ys:List V}{us ws:List ae},yg xs us->yg ys ws->yg (xs++ys) (us++ws)
 |_,_,_,_,.nil,s=>s
 |_,_,_,_,.cons r t,s=>.cons r (yg.append t s)
theorem yg.take:∀{xs:List V}{us:List ae}(n:Nat),yg xs us->yg (xs.take n) (us.take n)
 |_,_,0,_=>.nil
 |_,_,_+1,.nil=>.nil
 |_,_,n+1,.cons r t=>.cons r (yg.take n t)
theorem yg.drop:∀{xs:List V}{us:List ae}(n:Nat),yg xs us->yg (xs.drop n) (us.drop n)
 |_,_,0,r=>r
 |_,_,_+1,.nil=>.nil
 |_,_,n+1,.cons _ t=>yg.drop n t
def A9:Option V->Option ae->Prop
 |some v,some u=>RelV v u
 |none,none=>True
 |_,_=>False
def KV {κ:Type}:List (κ×V)->List (κ×ae)->Prop:=Paired λ(p:κ×V) (q:κ×ae)=>p.1=q.1/\RelV p.2 q.2
def kV:cB->V
 | .inl i=>.int i
 | .inr x=>.str x
inductive HO where
 |lst (xs:List V)
 |tup (xs:List V)
 |dK (kvs:List (cB×V))|dT (kvs:List (List cB×V))
 |set (S:Int->Bool) (n:Nat)
 |ins (C dx:ah) (fs:List (Str×V))
 |own (x:ah)
 |xd (fs:List (Str×V))
 |met (f x:ah)
 |rng (lo hi:Int)
 |frz (o:Obj) (u:HO)
 |tbl (ps:Array ae)
 |ext (φ:ck->Prop)
abbrev Hp:=ah->Option HO
def aJ (H:Hp) (a:ah) (o:HO):Hp:=λb=>if b=a then some o else H b
theorem bO {H:Hp}{a:ah}{o:HO}:aJ H a o a=some o:=by unfold aJ;rw[if_pos rfl]
theorem aT {H:Hp}{a b:ah}{o:HO}(h:b≠a):aJ H a o b=H b:=by unfold aJ;rw[if_neg h]
theorem jH {H:Hp}{a b:ah}{o u:HO}(h:H a=some o) (h':H b=some u) (d:o≠u):a≠b:=by intro e;subst e;rw[h]at h';exact d (cq h')
theorem dJ {H:Hp}{a b:ah}{o:HO}(h:H a=some o) (h':H b=none):a≠b:=by intro e;subst e;rw[h]at h';cases h'
def yy (h:ck) (a:ah) (items:Array ae):Prop:=∃o,h.get? a=some o/\o.cls=.type "tuple"/\o.dict=none/\∃n,o.data=.seq items n
theorem yy.tup {h:ck}{a:ah}{items:Array ae}(x:yy h a items):IsTup h a items:=let ⟨o,e,c,_,d⟩:=x;⟨o,e,c,d⟩
theorem yy.lt {h:ck}{a:ah}{items:Array ae}(x:yy h a items):a<h.objs.size:=let ⟨_,e,_⟩:=x;ao e
theorem yy.new (h:ck) (items:Array ae):yy (h.push { cls:=.type "tuple",data:=.seq items }) h.objs.size items:=⟨_,av _ rfl,rfl,rfl,_,rfl⟩
section
variable(P:bg) (w:cf)
def yi (H:Hp) (h:ck) (a:ah):HO->Prop
 | .lst xs=>xs.length<=bo/\∃(its:List ae) (n:Nat),yg xs its/\h.get? a=some { cls:=.type "list",data:=.seq its.toArray n }
 | .tup xs=>xs.length<=bo/\∃its:List ae,yg xs its/\yy h a its.toArray
 | .dK kvs=>kvs.length<=bo/\(a==sysModules)=false/\∃vs,KV kvs vs/\h.DictOf (jG P w) a vs
 | .dT kvs=>kvs.length<=bo/\(a==sysModules)=false/\∃xs:List (List cB×ah×ae),
   Paired (λ(p:List cB×V) (q:List cB×ah×ae)=>p.1=q.1/\H q.2.1=some (.tup (p.1.map kV))/\RelV p.2 q.2.2) kvs xs /\
   ∃o es ep,h.get? a=some o/\o.ExactDict/\o.data=.dict es ep/\es.toList=xs.map (entryOfKey (tupleKind (jG P w)))/\(xs.map (·.1)).Nodup
 | .set S n=>h.SetOf (intKind P w) a S n
 | .ins C dx fs=>H dx=some (.own a)/\fs.length<=1000/\dx≠a/\h.get? a=some (PySem.W.instObj C dx) /\
   ∃mA,h.Ns1 dx mA/\(∀f,A9 (fs.lookup f) (mA f))/\PySem.Within mA (fs.map (·.1))
 | .own _=>∃o,h.get? a=some o
 | .xd fs=>∃mA,h.Ns1 a mA/\∀f,A9 (fs.lookup f) (mA f)
 | .rng lo hi=>∃t u v,h.get? a=some { cls:=.type "range",data:=.fields #[.int lo t,.int hi u,.int 1 v] }
 | .frz o u=>h.get? a=some o/\yi H h a u
 | .tbl ps=>h.get? a=some { cls:=.none,data:=.fields ps }
 | .met f x=>h.get? a=some (r8 (.ref f) (.ref x))
 | .ext φ=>φ h/\(∃o,h.get? a=some o)/\∀h1 h2:ck,φ h1->(∀o,h1.get? a=some o->h2.get? a=some o)->φ h2
def zd (H:Hp) (h:ck):Prop:=∀a o,H a=some o->yi P w H h a o
end
section
variable{P:bg}{w:cf}{H H':Hp}{h h':ck}{a:ah}{o:HO}
theorem yi.lt (x:yi P w H h a o):a<h.objs.size:=by
 cases o with
 |lst xs=>obtain⟨_,_,_,_,e⟩:=x;exact ao e
 |tup xs=>obtain⟨_,_,_,p⟩:=x;exact p.lt
 |dK kvs=>obtain⟨_,_,_,_,o,_,_,e,_⟩:=x;exact ao e
 |dT kvs=>obtain⟨_,_,_,_,o,_,_,e,_⟩:=x;exact ao e
 |set S n=>obtain⟨o,_,_,_,e,_⟩:=x;exact ao e
 |ins C dx fs=>obtain⟨_,_,_,e,_⟩:=x;exact ao e
 |own y=>obtain⟨_,e⟩:=x;exact ao e
 |xd fs=>obtain⟨_,⟨_,_,_,e,_⟩,_⟩:=x;exact ao e
 |rng lo hi=>obtain⟨_,_,_,e⟩:=x;exact ao e
 |frz ob u=>obtain⟨e,_⟩:=x;exact ao e
 |tbl ps=>exact ao (show h.get? a=some _ from x)
 |met f y=>exact ao (show h.get? a=some _ from x)
 |ext φ=>obtain⟨_,⟨_,e⟩,_⟩:=x;exact ao e
theorem Paired.mapP {α β:Type}{F G:α->β->Prop}:∀{l₁:List α}{l₂:List β},Paired F l₁ l₂->(∀a b,F a b->G a b)->Paired G l₁ l₂
 |_,_,.nil,_=>.nil
 |_,_,.cons r t,f=>.cons (f _ _ r) (Paired.mapP t f)
theorem yi.stay (x:yi P w H h a o) (k:∀b u,(b=a∨H b=some (.own a))->h.get? b=some u->h'.get? b=some u)
  (ho:∀b,H b=some (.own a)->H' b=some (.own a)) (ht:∀b xs,H b=some (.tup xs)->H' b=some (.tup xs)):yi P w H' h' a o:=by
 induction o with
 |lst xs=>obtain⟨z,its,n,r,e⟩:=x;exact⟨z,its,n,r,k _ _ (.inl rfl) e⟩
 |tup xs=>obtain⟨z,its,r,ob,e,c⟩:=x;exact⟨z,its,r,ob,k _ _ (.inl rfl) e,c⟩
 |dK kvs=>obtain⟨z,y,vs,r,ob,es,ep,e,c⟩:=x;exact⟨z,y,vs,r,ob,es,ep,k _ _ (.inl rfl) e,c⟩
 |dT kvs=>obtain⟨z,y,xs,r,ob,es,ep,e,c⟩:=x;exact⟨z,y,xs,Paired.mapP r λp q z=>⟨z.1,ht _ _ z.2.1,z.2.2⟩,ob,es,ep,k _ _ (.inl rfl) e,c⟩
 |set S n=>obtain⟨ob,es,ep,t,e,c⟩:=x;exact⟨ob,es,ep,t,k _ _ (.inl rfl) e,c⟩
 |ins C dx fs=>obtain⟨d,z,ne,e,mA,⟨od,es,ep,e2,c⟩,r⟩:=x;exact⟨ho _ d,z,ne,k _ _ (.inl rfl) e,mA,⟨od,es,ep,k _ _ (.inr d) e2,c⟩,r⟩
 |own y=>obtain⟨ob,e⟩:=x;exact⟨ob,k _ _ (.inl rfl) e⟩
 |xd fs=>obtain⟨mA,⟨od,es,ep,e,c⟩,r⟩:=x;exact⟨mA,⟨od,es,ep,k _ _ (.inl rfl) e,c⟩,r⟩
 |rng lo hi=>obtain⟨t,u,v,e⟩:=x;exact⟨t,u,v,k _ _ (.inl rfl) e⟩
 |frz ob u ih=>obtain⟨e,q⟩:=x;exact⟨k _ _ (.inl rfl) e,ih q⟩
 |tbl ps=>have e:h.get? a=some { cls:=.none,data:=.fields ps }:=x;show h'.get? a=some { cls:=.none,data:=.fields ps };exact k a _ (.inl rfl) e
 |met f y=>have e:h.get? a=some (r8 (.ref f) (.ref y)):=x;show h'.get? a=some (r8 (.ref f) (.ref y));exact k a _ (.inl rfl) e
 |ext φ=>obtain⟨p,⟨o,e⟩,st⟩:=x;exact⟨st _ _ p λo q=>k _ _ (.inl rfl) q,⟨o,k _ _ (.inl rfl) e⟩,st⟩
theorem zd.lt (x:zd P w H h) (e:H a=some o):a<h.objs.size:=(x a o e).lt
theorem zd.fresh (x:zd P w H h) (e:h.objs.size<=a):H a=none:=by
 cases q:H a with
 |none=>rfl
 |some u=>exact absurd (aq (x.lt q) e) (fy _)
theorem zd.kept (x:zd P w H h) (k:∀b u,h.get? b=some u->h'.get? b=some u):zd P w H h':=λa o e=>(x a o e).stay (λb u _ q=>k b u q) (λ_ q=>q) λ_ _ q=>q
theorem zd.laid (x:zd P w H h) (k:∀b u,h.get? b=some u->h'.get? b=some u) (hp:h.objs.size<=a) (new:yi P w (aJ H a o) h' a o):zd P w (aJ H a o) h':=λb u e=>by
 have hn:=x.fresh hp
 by_cases hb:b=a
 ·subst hb;rw[bO]at e;cases e;exact new
 ·rw[aT hb]at e;exact(x b u e).stay (λc v _ q=>k c v q) (λc q=>by rw[aT (dJ q hn)];exact q) λc xs q=>by rw[aT (dJ q hn)];exact q
end
def Rd (H:Hp) (a:ah) (u:HO):Prop:=H a=some u∨∃o,H a=some (.frz o u)
theorem Rd.ok {P:bg}{w:cf}{H:Hp}{h:ck}{a:ah}{u:HO}(r:Rd H a u) (x:zd P w H h):yi P w H h a u:=by
 rcases r with r|⟨o,r⟩
 ·exact x a u r
 ·obtain⟨_,q⟩:=x a _ r;exact q
def rN:Option HO->Prop
 |some (.lst _)=>True
 |some (.dK _)=>True
 |some (.dT _)=>True
 |some (.set _ _)=>True
 |some (.ins _ _ _)=>True
 |some (.ext _)=>True
 |_=>False
section
variable{P:bg}{w:cf}{H:Hp}{h h':ck}{x e:ah}{o':HO}
theorem zd.write (ok:zd P w H h) (mu:rN (H x)) (he:e=x∨H e=some (.own x)) (k:∀b u,b≠e->h.get? b=some u->h'.get? b=some u) (heo:∃u,h'.get? e=some u)
  (new:yi P w (aJ H x o') h' x o'):zd P w (aJ H x o') h':=λb u q=>by
 have nown:∀c y,H c=some (.own y)->c≠x:=λc y r z=>by subst z;rw[r]at mu;exact mu
 have ntup:∀c xs,H c=some (.tup xs)->c≠x:=λc xs r z=>by subst z;rw[r]at mu;exact mu
 by_cases hb:b=x
 ·subst hb;rw[bO]at q;cases q;exact new
 ·rw[aT hb]at q
  by_cases hbe:b=e
  ·have q':H b=some (.own x):=by
    rcases he with z|z
    ·exact absurd (hbe.trans z) hb
    ·rw[hbe];exact z
   rw[q]at q';cases q';obtain⟨v,hv⟩:=heo;exact⟨v,by rw[hbe];exact hv⟩
  ·refine(ok b u q).stay (λc v hc r=>k c v ?_ r) (λc r=>by rw[aT (nown c b r)];exact r) λc xs r=>by rw[aT (ntup c xs r)];exact r
   rcases hc with rfl|hc
   ·exact hbe
   ·rintro rfl
    rcases he with z|z
    ·exact nown c b hc z
    ·rw[hc]at z;cases z;exact hb rfl
end
structure Un (fs ex:List ah) (H H':Hp) (h h':ck):Prop where
 keep:∀b o,h.get? b=some o->H b=none->b∉fs->b∉ex->h'.get? b=some o
 slot:∀b o,h.get? b=some o->H b=none->b∈fs->b∉ex->∃sl,h'.get? b=some { o with slots:=sl }
 free:∀b o,h.get? b=some o->H b=none->b∉ex->H' b=none
 there:∀b o,h.get? b=some o->b∉ex->∃o',h'.get? b=some o'
 tups:∀b xs,H b=some (.tup xs)->H' b=some (.tup xs)
 frzs:∀b o u,H b=some (.frz o u)->H' b=some (.frz o u)
 tbls:∀b ps,H b=some (.tbl ps)->∃more,H' b=some (.tbl (ps++more))
section
variable{fs fs' ex ex':List ah}{H H1 H2:Hp}{h h1 h2 h':ck}{a x e:ah}{o:HO}
theorem Un.any (u:Un fs ex H H1 h h1) {b:ah}{ob:Obj}(q:h.get? b=some ob) (n:H b=none) (hx:b∉ex):∃sl,h1.get? b=some { ob with slots:=sl }:=by
 by_cases hb:b∈fs
 ·exact u.slot b ob q n hb hx
 ·exact⟨ob.slots,u.keep b ob q n hb hx⟩
theorem Un.kept (k:∀b u,h.get? b=some u->h'.get? b=some u):Un fs ex H H h h':=⟨λb ob q _ _ _=>k b ob q,λb ob q _ _ _=>⟨ob.slots,k b ob q⟩,λ_ _ _ n _=>n,λb ob q _=>⟨ob,k b ob q⟩,λ_ _ q=>q,λ_ _ _ q=>q,λ_ ps q=>⟨#[],by rw[q];simp⟩⟩
theorem Un.refl:Un fs ex H H h h:=Un.kept λ_ _ q=>q
theorem Un.laid (k:∀b u,h.get? b=some u->h'.get? b=some u) (hp:h.objs.size<=a) (hn:H a=none):Un fs ex H (aJ H a o) h h' where
 keep:=λb u q _ _ _=>k b u q
 slot:=λb u q _ _ _=>⟨u.slots,k b u q⟩
 free:=λb u q n _=>by rw[aT (aw (aq (ao q) hp))];exact n
 there:=λb u q _=>⟨u,k b u q⟩
 tups:=λb xs q=>by rw[aT (dJ q hn)];exact q
 frzs:=λb u xs q=>by rw[aT (dJ q hn)];exact q
 tbls:=λb ps q=>⟨#[],by rw[aT (dJ q hn),q];simp⟩
theorem Un.write (mu:rN (H x)) (he:e=x∨H e=some (.own x)) (k:∀b u,b≠e->h.get? b=some u->h'.get? b=some u) (heo:∃u,h'.get? e=some u):Un fs ex H (aJ H x o) h h':=by
 have hx:∀b,H b=none->b≠x:=λb n z=>by subst z;rw[n]at mu;exact mu
 have hb:∀b,H b=none->b≠e:=λb n z=>by
  subst z
  rcases he with r|r
  ·exact hx b n r
  ·rw[n]at r;cases r
 have hm:∀b u,H b=some u->¬ rN (some u)->b≠x:=λb u q nm z=>by subst z;rw[q]at mu;exact nm mu
 refine⟨λb u q n _ _=>k b u (hb b n) q,λb u q n _ _=>⟨u.slots,k b u (hb b n) q⟩,λb u q n _=>by rw[aT (hx b n)];exact n,λb u q _=>?_,
  λb xs q=>by rw[aT (hm b _ q λz=>z)];exact q,λb u xs q=>by rw[aT (hm b _ q λz=>z)];exact q,λb ps q=>⟨#[],by rw[aT (hm b _ q λz=>z),q];simp⟩⟩
 by_cases hbe:b=e
 ·subst hbe;exact heo
 ·exact⟨u,k b u hbe q⟩
end
def rO (h:ck) (H:Hp):List ah:=(bx h.objs.size).filter λa=>(H a).isSome
def iL (h:ck) (H:Hp):ck:=PySem.W.hideAll h (rO h H)
theorem KN (h:ck) (H:Hp):(iL h H).objs.size=h.objs.size:=vg _ _
theorem KO {h:ck}{H:Hp}{b:ah}{o:Obj}(e:h.get? b=some o) (n:H b=none):(iL h H).get? b=some o:=vm _ e λhm=>by have q:(H b).isSome=true:=(o6.mp hm).2;rw[n]at q;simp at q
theorem KQ {h:ck}{H:Hp}{b:ah}{o:Obj}(e:(iL h H).get? b=some o):h.get? b=some o/\H b=none:=by
 have e':h.get? b=some o:=wa (rO h H) e;refine⟨e', ?_⟩
 cases q:H b with
 |none=>rfl
 |some x=>have hm:b∈rO h H:=o6.mpr ⟨bq.mpr (ao e'),by simp[q]⟩;have z:(iL h H).get? b=none:=vh (rO h H) hm;rw[z]at e;cases e
structure Mod (K:ar) (mg:Str->Option ae) (base:ck):Prop where
 kin:K.In base
 glob:base.Ns cp mg
 blt:∃mb,base.Ns builtinsNs mb/\∀x:Str,x ≠ "__name__"->mb x=dm x
 nolimit:base.NoLimit
structure Cx where
 prog:bg
 w:cf
 K:ar
 mg:Str->Option ae
 base:ck
 A:bp
 N:xw
 s₀:af
 H₀:Hp
 env:Env
 outer:List Env
 stack:List Env
 ex:List ah
 fn:Str->Bool
 calm:Bool
 pn:List (ah×Obj)
 xe:ae->af->Prop
def cG (l:List Env):List ah:=l.filterMap (·.frame)
abbrev Cx.fs (X:Cx):List ah:=cG X.outer
def mZ (sc:gn) (x:Str):Prop:=sc.names.lookup x=some .local∨sc.names.lookup x=some .cell∨sc.names.lookup x=some .free
def kU (sc:gn) (x:Str):Prop:=sc.names.lookup x=some .local∨sc.names.lookup x=some .cell
def BA (env:Env) (h:ck) (m:Str->Option ae) (x:Str) (u:ae):Prop:=(env.kindOf x=some .local/\m x=some u)∨((env.kindOf x=some .cell∨env.kindOf x=some .free)/\∃c,env.cells.lookup x=some c/\h.IsCell c (some u))
structure Cx.Ok (X:Cx):Prop where
 mod:Mod X.K X.mg X.base
 kind:X.env.scope.kind=.function
 glob:X.env.globals=cp
 blt:X.env.builtins=builtinsNs
 above:X.s₀.heap.objs.size<=X.env.locals
 inj:∀x y c,X.env.cells.lookup x=some c->X.env.cells.lookup y=some c->x=y
 has:∀x,(X.env.kindOf x=some .cell∨X.env.kindOf x=some .free)->∃c,X.env.cells.lookup x=some c
 cab:∀x c,X.fn x=true->X.env.cells.lookup x=some c->X.s₀.heap.objs.size<=c
 hd:X.calm=true->X.A.handled=none
 frames:X.A.frames=some X.stack
 stk:X.stack=X.outer∨(X.stack=X.env::X.outer/\X.env.frame=some X.env.locals)
 exf:∀b∈X.ex,b≠X.env.locals/\∀x c,X.env.cells.lookup x=some c->c≠b
 bs:∀b o,X.base.get? b=some o->X.s₀.heap.get? b=some o/\X.H₀ b=none
 bsz:X.base.objs.size<=X.s₀.heap.objs.size
 noex:∀b o,X.base.get? b=some o->b∉X.ex
 exfs:∀b∈X.ex,b∉X.fs
 funs:X.s₀.heap.FunFrames X.base X.outer
 frf:∀b∈X.fs,X.H₀ b=none
structure Inv (X:Cx) (pins:List (ah×Obj)) (σ:List (Option V)) (H:Hp) (s:af):Prop where
 ok:X.Ok
 os:s.os=X.s₀.os
 bare:qc s.gens
 base:Un X.fs X.ex X.H₀ H X.s₀.heap s.heap
 loc:∃m,s.heap.Ns X.env.locals m/\∀(i:Nat) (x:Str) (v:V),X.N[i]?=some x->σ[i]?=some (some v)->mZ X.env.scope x->∃u,RelV v u/\BA X.env s.heap m x u
 cell:∀x c,X.env.cells.lookup x=some c->∃v,s.heap.IsCell c v
 free:H X.env.locals=none
 freeC:∀x c,X.env.cells.lookup x=some c->H c=none
 pin:∀p∈X.pn++pins,s.heap.get? p.1=some p.2/\H p.1=none/\p.1≠X.env.locals/\p.1∉X.fs/\∀v,p.2.data≠.cell v
 hok:zd X.prog X.w H s.heap
 len:σ.length=X.N.length
section
variable{X:Cx}{pins:List (ah×Obj)}{σ:List (Option V)}{H H':Hp}{s:af}{h':ck}
theorem Cx.Ok.nofr (ok:X.Ok) {b:ah}{o:Obj}(e:X.base.get? b=some o):b∉X.fs:=λhb=>by have:=(ok.funs.mem hb).1;rw[e]at this;cases this
theorem Inv.bs (I:Inv X pins σ H s):∀b o,X.base.get? b=some o->s.heap.get? b=some o/\H b=none:=λb o e=>⟨I.base.keep b o (I.ok.bs b o e).1 (I.ok.bs b o e).2 (I.ok.nofr e) (I.ok.noex b o e),I.base.free b o (I.ok.bs b o e).1 (I.ok.bs b o e).2 (I.ok.noex b o e)⟩
theorem Inv.bk (I:Inv X pins σ H s):∀b o,X.base.get? b=some o->s.heap.get? b=some o:=λb o e=>(I.bs b o e).1
theorem Inv.mod (I:Inv X pins σ H s):Mod X.K X.mg X.base:=I.ok.mod
theorem Inv.kIn (I:Inv X pins σ H s):X.K.In s.heap:=I.ok.mod.kin.keeps I.bk
theorem Inv.lt (I:Inv X pins σ H s):X.env.locals<s.heap.objs.size:=let ⟨_,hn,_⟩:=I.loc;hn.lt
theorem Inv.sz (I:Inv X pins σ H s):X.s₀.heap.objs.size<=s.heap.objs.size:=da I.ok.above (fv I.lt)
theorem Inv.nofs (I:Inv X pins σ H s) {a:ah}(h:s.heap.objs.size<=a):a∉X.fs:=λhb=>by obtain⟨_,o,ho,_⟩:=I.ok.funs.mem hb;exact absurd (aq (ao ho) (da I.sz h)) (fy _)
theorem Inv.cne (I:Inv X pins σ H s):∀x c,X.env.cells.lookup x=some c->c≠X.env.locals:=λx c e z=>by obtain⟨v,o,ho,hd⟩:=I.cell x c e;obtain⟨m,⟨o',es,ep,Ba,As,_⟩,_⟩:=I.loc;rw[z,Ba]at ho;cases ho;rw[As]at hd;cases hd
theorem Inv.funs (I:Inv X pins σ H s):s.heap.FunFrames X.base X.outer:=by
 have all:∀(l:List Env),(∀b∈cG l,b∈X.fs)->X.s₀.heap.FunFrames X.base l->s.heap.FunFrames X.base l:=by
  intro l
  induction l with
  |nil=>intro _ _;trivial
  |cons env r ih=>intro hs hl;obtain⟨hk,⟨L,o,hf,hn,ho,hd⟩,hr⟩:=hl;have hL:L∈X.fs:=hs L (by unfold cG;rw[cj,hf];exact bc);obtain⟨sl,e⟩:=I.base.slot L o ho (I.ok.frf L hL) hL λz=>I.ok.exfs L z hL;exact⟨hk,⟨L,_,hf,hn,e,hd⟩,ih (λb hb=>hs b (by unfold cG;rw[cj,hf];exact az _ hb)) hr⟩
 exact all X.outer (λ_ hb=>hb) I.ok.funs
theorem Inv.stack (I:Inv X pins σ H s):s.heap.FunFrames X.base X.stack:=by
 rcases I.ok.stk with e|⟨e,hf⟩
 ·rw[e];exact I.funs
 ·rw[e];obtain⟨m,hn,_⟩:=I.loc;refine .cons (by rw[I.ok.kind];decide) hf hn ?_ I.funs;exact Heap.get?_none_of_le (da I.ok.bsz I.ok.above)
theorem Inv.stkSub (I:Inv X pins σ H s):∀b∈cG X.stack,b∈X.env.locals::X.fs:=λb hb=>by
 rcases I.ok.stk with e|⟨e,hf⟩
 ·rw[e]at hb;exact az _ hb
 ·rw[e]at hb;unfold cG at hb;rw[cj,hf]at hb;exact hb
theorem Inv.stkFree (I:Inv X pins σ H s):∀b∈cG X.stack,H b=none:=λb hb=>by
 rcases ba.mp (I.stkSub b hb)with e|hb
 ·rw[e];exact I.free
 ·obtain⟨_,o,ho,_⟩:=I.ok.funs.mem hb;exact I.base.free b o ho (I.ok.frf b hb) λz=>I.ok.exfs b z hb
theorem Inv.step {g':Array GenState}{t':Nat}{d':Drawn}{ch:List ah}(I:Inv X pins σ H s)
  (Au:∀b∈ch,(b∈X.ex∨X.s₀.heap.objs.size<=b)/\b≠X.env.locals/\(∀x c,X.env.cells.lookup x=some c->c≠b)/\∀p∈X.pn++pins,p.1≠b)
  (keep:∀b o,b≠X.env.locals->b∉X.fs->b∉ch->s.heap.get? b=some o->H b=none->h'.get? b=some o)
  (slot:∀b o,b≠X.env.locals->b∈X.fs->b∉ch->s.heap.get? b=some o->H b=none->∃sl,h'.get? b=some { o with slots:=sl }) (free:∀b o,b∉ch->s.heap.get? b=some o->H b=none->H' b=none)
  (there:∀b o,b∉ch->s.heap.get? b=some o->∃o',h'.get? b=some o')
  (tups:∀b xs,H b=some (.tup xs)->H' b=some (.tup xs)) (frzs:∀b o u,H b=some (.frz o u)->H' b=some (.frz o u)) (tbls:∀b ps,H b=some (.tbl ps)->∃more,H' b=some (.tbl (ps++more)))
  (ns:∀m,s.heap.Ns X.env.locals m->h'.Ns X.env.locals m) (hok:zd X.prog X.w H' h') (hg:qc g'):
  Inv X pins σ H' { s with heap:=h',gens:=g',drawn:=d',toks:=t' }:=by
 have neL:∀b o,X.s₀.heap.get? b=some o->b≠X.env.locals:=λb o e=>aw (aq (ao e) I.ok.above);have neC:∀b o,X.s₀.heap.get? b=some o->b∉X.ex->b∉ch:=λb o e hx hb=>by
  rcases(Au b hb).1 with z|z
  ·exact hx z
  ·exact absurd (aq (ao e) z) (fy _)
 have cellK:∀x c,X.env.cells.lookup x=some c->∀v,s.heap.IsCell c v->h'.IsCell c v:=λx c e v ⟨o,ho,hd⟩=>by
  have nch:c∉ch:=λz=>(Au c z).2.2.1 x c e rfl
  by_cases hc:c∈X.fs
  ·obtain⟨sl,q⟩:=slot c o (I.cne x c e) hc nch ho (I.freeC x c e);exact⟨_,q,hd⟩
  ·exact⟨o,keep c o (I.cne x c e) hc nch ho (I.freeC x c e),hd⟩
 refine⟨I.ok,I.os,hg,⟨λb o e n hb hx=>?_,λb o e n hb hx=>?_,λb o e n hx=>?_,λb o e hx=>?_,λb xs e=>tups b xs (I.base.tups b xs e),λb o xs e=>frzs b o xs (I.base.frzs b o xs e),λb ps e=>?_⟩, ?_,λx c e=>?_, ?_,λx c e=>?_,λp hp=>?_,hok,I.len⟩
 ·exact keep b o (neL b o e) hb (neC b o e hx) (I.base.keep b o e n hb hx) (I.base.free b o e n hx)
 ·obtain⟨sl,e1⟩:=I.base.slot b o e n hb hx;obtain⟨sl',e2⟩:=slot b _ (neL b o e) hb (neC b o e hx) e1 (I.base.free b o e n hx);exact⟨sl',e2⟩
 ·obtain⟨o',e1⟩:=I.base.there b o e hx;exact free b o' (neC b o e hx) e1 (I.base.free b o e n hx)
 ·obtain⟨o',e1⟩:=I.base.there b o e hx;exact there b o' (neC b o e hx) e1
 ·obtain⟨m1,e1⟩:=I.base.tbls b ps e;obtain⟨m2,e2⟩:=tbls b _ e1;exact⟨m1++m2,by rw[e2,Array.append_assoc]⟩
 ·obtain⟨m,hn,hl⟩:=I.loc;refine⟨m,ns m hn,λi x v e1 e2 e3=>?_⟩;obtain⟨u,r,l⟩:=hl i x v e1 e2 e3;refine⟨u,r, ?_⟩
  rcases l with l|⟨k,c,e,z⟩
  ·exact .inl l
  ·exact .inr ⟨k,c,e,cellK x c e _ z⟩
 ·obtain⟨v,z⟩:=I.cell x c e;exact⟨v,cellK x c e v z⟩
 ·obtain⟨m,⟨o,_,_,ho,_⟩,_⟩:=I.loc;exact free _ o (λz=>(Au _ z).2.1 rfl) ho I.free
 ·obtain⟨v,o,ho,hd⟩:=I.cell x c e;exact free c o (λz=>(Au c z).2.2.1 x c e rfl) ho (I.freeC x c e)
 ·obtain⟨e,n,ne,nf,d⟩:=I.pin p hp;have nch:p.1∉ch:=λz=>(Au p.1 z).2.2.2 p hp rfl;exact⟨keep p.1 p.2 ne nf nch e n,free p.1 p.2 nch e n,ne,nf,d⟩
theorem Inv.un {t':Nat}(I:Inv X pins σ H s) (u:Un X.fs [] H H' s.heap h') (hok:zd X.prog X.w H' h'):Inv X pins σ H' { s with heap:=h',toks:=t' }:=by obtain⟨m,⟨o,es,ep,ho,r⟩,_⟩:=id I.loc;obtain⟨sl,hL⟩:=u.any ho I.free (by simp);exact I.step (g':=s.gens) (d':=s.drawn) (ch:=[]) (λ_ z=>nomatch z) (λb o _ hb _ e n=>u.keep b o e n hb (by simp)) (λb o _ hb _ e n=>u.slot b o e n hb (by simp)) (λb o _ e n=>u.free b o e n (by simp)) (λb o _ e=>u.there b o e (by simp)) u.tups u.frzs u.tbls (λm' hm=>by obtain⟨o',es',ep',Ba,r'⟩:=hm;rw[ho]at Ba;cases Ba;exact⟨_,es',ep',hL,r'⟩) hok I.bare
theorem Inv.call {g':Array GenState}{t':Nat}{d':Drawn}{ch:List ah}(I:Inv X pins σ H s) (u:Un (cG X.stack) ch H H' s.heap h') (hok:zd X.prog X.w H' h') (hg:qc g')
  (Au:∀b∈ch,(b∈X.ex∨X.s₀.heap.objs.size<=b)/\b≠X.env.locals/\(∀x c,X.env.cells.lookup x=some c->c≠b)/\∀p∈X.pn++pins,p.1≠b):
  Inv X pins σ H' { s with heap:=h',gens:=g',drawn:=d',toks:=t' }:=by
 obtain⟨m,⟨o,es,ep,ho,r⟩,_⟩:=id I.loc;obtain⟨sl,hL⟩:=u.any ho I.free λz=>(Au _ z).2.1 rfl;exact I.step (ch:=ch) Au (λb o hL hb hc e n=>u.keep b o e n (λz=>(ba.mp (I.stkSub b z)).elim hL hb) hc) (λb o _ _ hc e n=>u.any e n hc) (λb o hc e n=>u.free b o e n hc) (λb o hc e=>u.there b o e hc) u.tups u.frzs u.tbls (λm' hm=>by obtain⟨o',es',ep',Ba,r'⟩:=hm;rw[ho]at Ba;cases Ba;exact⟨_,es',ep',hL,r'⟩) hok hg
theorem Inv.turned {t':Nat}{it:ah}(I:Inv X pins σ H s) (k:∀b o,b≠it->s.heap.get? b=some o->h'.get? b=some o) (hn:H it=none) (hL:it≠X.env.locals)
  (h1:it∈X.ex∨X.s₀.heap.objs.size<=it) (h2:∀x c,X.env.cells.lookup x=some c->c≠it) (h3:∀p∈X.pn++pins,p.1≠it):Inv X pins σ H { s with heap:=h',toks:=t' }:=by
 have nit:∀b u,H b=some u->b≠it:=λb u e z=>by rw[z,hn]at e;cases e
 refine I.step (g':=s.gens) (d':=s.drawn) (ch:=[it]) (λb hb=>?_) (λb o _ _ hc e _=>k b o (λz=>hc (by simp[z])) e) (λb o _ _ hc e _=>⟨o.slots,k b o (λz=>hc (by simp[z])) e⟩) (λ_ _ _ _ n=>n)
  (λb o hc e=>⟨o,k b o (λz=>hc (by simp[z])) e⟩) (λ_ _ e=>e) (λ_ _ _ e=>e) (λb ps e=>⟨#[],by rw[e];simp⟩) (λm hm=>?_) (λb u e=>?_) I.bare
 ·have e:b=it:=by simpa using hb
  subst e;exact⟨h1,hL,h2,h3⟩
 ·obtain⟨o,es,ep,ho,r⟩:=hm;exact⟨o,es,ep,k _ o (cu hL) ho,r⟩
 ·refine(I.hok b u e).stay (λc v hc q=>k c v ?_ q) (λ_ q=>q) λ_ _ q=>q
  rcases hc with z|z
  ·rw[z];exact nit b u e
  ·exact nit c _ z
theorem Inv.tok (I:Inv X pins σ H s) (t:Nat):Inv X pins σ H { s with toks:=t }:=I.un (h':=s.heap) (t':=t) Un.refl I.hok
theorem Inv.kept {t':Nat}(I:Inv X pins σ H s) (k:∀b u,s.heap.get? b=some u->h'.get? b=some u):Inv X pins σ H { s with heap:=h',toks:=t' }:=I.un (Un.kept k) (I.hok.kept k)
theorem Inv.laid {a:ah}{o:HO}{t':Nat}(I:Inv X pins σ H s) (k:∀b u,s.heap.get? b=some u->h'.get? b=some u) (hp:s.heap.objs.size<=a) (new:yi X.prog X.w (aJ H a o) h' a o):
  Inv X pins σ (aJ H a o) { s with heap:=h',toks:=t' }:=I.un (Un.laid k hp (I.hok.fresh hp)) (I.hok.laid k hp new)
theorem Inv.write {x e:ah}{o:HO}{t':Nat}(I:Inv X pins σ H s) (mu:rN (H x)) (he:e=x∨H e=some (.own x)) (k:∀b u,b≠e->s.heap.get? b=some u->h'.get? b=some u) (heo:∃u,h'.get? e=some u)
  (new:yi X.prog X.w (aJ H x o) h' x o):Inv X pins σ (aJ H x o) { s with heap:=h',toks:=t' }:=I.un (Un.write mu he k heo) (I.hok.write mu he k heo new)
theorem Inv.pins_of {pins':List (ah×Obj)}(I:Inv X pins σ H s) (h:∀p∈pins',s.heap.get? p.1=some p.2/\H p.1=none/\p.1≠X.env.locals/\p.1∉X.fs/\∀v,p.2.data≠.cell v):Inv X pins' σ H s:=⟨I.ok,I.os,I.bare,I.base,I.loc,I.cell,I.free,I.freeC,λp hp=>(fg.mp hp).elim (λz=>I.pin p (nr _ z)) (h p),I.hok,I.len⟩
theorem vV {N:xw}(hN:N.Nodup) {i j:Nat}{x:Str}(a:N[i]?=some x) (b:N[j]?=some x):i=j:=by obtain⟨h1,e1⟩:=ay.mp a;obtain⟨h2,e2⟩:=ay.mp b;exact(List.getElem_inj hN).mp (e1.trans e2.symm)
theorem BB {M:vb}{A:bp}{E:ae->af->Prop}{i:Nat}{x:Str}{v:V}{u:ae}{Q:Unit->af->Prop}(I:Inv X pins σ H s) (hN:X.N.Nodup) (hi:X.N[i]?=some x) (hx:kU X.env.scope x) (r:RelV v u)
  (h:∀s',Inv X pins (σ.set i (some v)) H s'->(∃a,gg a s.heap s'.heap/\(a=X.env.locals∨X.env.cells.lookup x=some a))->Q () s') (hf:X.fn x=true∨X.env.scope.names.lookup x=some .local:=by first|exact .inl rfl|exact .inr rfl|assumption):wpAny M A (storeName X.env x u) Q E s:=by
 obtain⟨m,hn,hl⟩:=id I.loc;have hcls:(X.env.scope.kind==.class||(X.env.scope.kind==.module&&X.env.locals != X.env.globals))=false:=by rw[I.ok.kind];rfl
 have hiσ:i<σ.length:=by rw[I.len];exact(ay.mp hi).1
 have cne:=I.cne;have tracked:∀{a:ah}{h':ck},(∃o,s.heap.get? a=some o/\H a=none)->gg a s.heap h'->zd X.prog X.w H h':=λ{a h'} ha hs b ob e=>by
  obtain⟨_,_,hfree⟩:=ha;refine(I.hok b ob e).stay (λc w' hc q=>(hs.2 c ?_).trans q) (λ_ q=>q) λ_ _ q=>q
  rintro rfl
  rcases hc with rfl|hc
  ·rw[hfree]at e;cases e
  ·rw[hfree]at hc;cases hc
 rcases hx with hk|hk
 ·refine wpAny_storeName_local hk hn (λh' hn' hs=>?_) hcls;obtain⟨oL,_,_,hoL,_⟩:=id hn;refine h _ ⟨I.ok,I.os,I.bare,⟨λb o e n hb hx=>?_,λb o e n hb hx=>?_,I.base.free,λb o e hx=>?_,I.base.tups,I.base.frzs,I.base.tbls⟩,⟨_,hn',λj y v' e1 e2 e3=>?_⟩,λy c e=>?_,I.free,I.freeC,λp hp=>?_,tracked ⟨oL,hoL,I.free⟩ hs,by simpa using I.len⟩ ⟨_,hs,.inl rfl⟩
  ·exact(hs.2 b (aw (aq (ao e) I.ok.above))).trans (I.base.keep b o e n hb hx)
  ·obtain⟨sl,e1⟩:=I.base.slot b o e n hb hx;exact⟨sl,(hs.2 b (aw (aq (ao e) I.ok.above))).trans e1⟩
  ·obtain⟨o',e1⟩:=I.base.there b o e hx;exact⟨o',(hs.2 b (aw (aq (ao e) I.ok.above))).trans e1⟩
  ·by_cases hj:j=i
   ·subst hj;rw[hi]at e1;cases e1;rw[cx hiσ]at e2;cases e2;exact⟨u,r,.inl ⟨hk,by simp⟩⟩
   ·rw[dw (cu hj)]at e2;obtain⟨u',r',q⟩:=hl j y v' e1 e2 e3;refine⟨u',r', ?_⟩
    rcases q with⟨k,e⟩|⟨k,c,e,z⟩
    ·refine .inl ⟨k, ?_⟩;have:y≠x:=λe=>hj (vV hN e1 (e▸hi));simp[this,e]
    ·exact .inr ⟨k,c,e,z.sameBut hs (cne y c e)⟩
  ·obtain⟨w',z⟩:=I.cell y c e;exact⟨w',z.sameBut hs (cne y c e)⟩
  ·obtain⟨e,n,ne,nf,d⟩:=I.pin p hp;exact⟨(hs.2 p.1 ne).trans e,n,ne,nf,d⟩
 ·have hfn:X.fn x=true:=by
   rcases hf with z|z
   ·exact z
   ·rw[z]at hk;cases hk
  obtain⟨c,hc⟩:=I.ok.has x (.inl hk);obtain⟨w',z⟩:=I.cell x c hc;refine wpAny_storeName_cell I.ok.kind hk hc z (λh' hc' hs=>?_);obtain⟨oc,hoc,hocd⟩:=id z;refine h { s with heap:=h' } ⟨I.ok,I.os,I.bare,⟨λb o e n hb hx=>?_,λb o e n hb hx=>?_,I.base.free,λb o e hx=>?_,I.base.tups,I.base.frzs,I.base.tbls⟩,⟨m,hn.sameBut hs (cu (cne x c hc)),λj y v' e1 e2 e3=>?_⟩,λy c' e=>?_,I.free,I.freeC,λp hp=>?_,tracked ⟨oc,hoc,I.freeC x c hc⟩ hs,by simpa using I.len⟩ ⟨c,hs,.inr hc⟩
  ·exact(hs.2 b (aw (aq (ao e) (I.ok.cab x c hfn hc)))).trans (I.base.keep b o e n hb hx)
  ·obtain⟨sl,e1⟩:=I.base.slot b o e n hb hx;exact⟨sl,(hs.2 b (aw (aq (ao e) (I.ok.cab x c hfn hc)))).trans e1⟩
  ·obtain⟨o',e1⟩:=I.base.there b o e hx;exact⟨o',(hs.2 b (aw (aq (ao e) (I.ok.cab x c hfn hc)))).trans e1⟩
  ·by_cases hj:j=i
   ·subst hj;rw[hi]at e1;cases e1;rw[cx hiσ]at e2;cases e2;exact⟨u,r,.inr ⟨.inl hk,c,hc,hc'⟩⟩
   ·rw[dw (cu hj)]at e2;obtain⟨u',r',q⟩:=hl j y v' e1 e2 e3;refine⟨u',r', ?_⟩
    rcases q with q|⟨k,c',e,z'⟩
    ·exact .inl q
    ·refine .inr ⟨k,c',e,z'.sameBut hs ?_⟩
     rintro rfl
     exact hj (vV hN e1 (I.ok.inj _ _ _ e hc▸hi))
  ·by_cases hcc:c'=c
   ·subst hcc;exact⟨_,hc'⟩
   ·obtain⟨w2,z2⟩:=I.cell y c' e;exact⟨w2,z2.sameBut hs hcc⟩
  ·obtain⟨e,n,ne,nf,d⟩:=I.pin p hp;refine⟨(hs.2 p.1 ?_).trans e,n,ne,nf,d⟩;intro q;rw[q,hoc]at e;have q':oc=p.2:=cq e;exact d w' (by rw[<-q'];exact hocd)
theorem vW {M:vb}{A:bp}{E:ae->af->Prop}{i:Nat}{x:Str}{v:V}{u:ae}{Q:Unit->af->Prop}(I:Inv X pins σ H s) (hN:X.N.Nodup) (hi:X.N[i]?=some x) (hx:kU X.env.scope x) (r:RelV v u)
  (h:∀s',Inv X pins (σ.set i (some v)) H s'->Q () s') (hf:X.fn x=true∨X.env.scope.names.lookup x=some .local:=by first|exact .inl rfl|exact .inr rfl|assumption):wpAny M A (storeName X.env x u) Q E s:=
 BB I hN hi hx r (λs' I' _=>h s' I') hf
theorem Inv.call' {s':af}{ch:List ah}(I:Inv X pins σ H s) (ho:s'.os=s.os) (u:Un (cG X.stack) ch H H' s.heap s'.heap) (hok:zd X.prog X.w H' s'.heap) (hg:qc s'.gens)
  (Au:∀b∈ch,(b∈X.ex∨X.s₀.heap.objs.size<=b)/\b≠X.env.locals/\(∀x c,X.env.cells.lookup x=some c->c≠b)/\∀p∈X.pn++pins,p.1≠b):Inv X pins σ H' s':=by
 obtain⟨h',g',d',t',o'⟩:=s';have e:o'=s.os:=ho;subst e;exact I.call (g':=g') (t':=t') (d':=d') u hok hg Au
end
abbrev XK:=ae->Option ah->Hp->Prop
abbrev St:=List (Option V)
abbrev VK:=V->Hp->Prop
abbrev TE:=St->Hp->VK->Prop
abbrev TT:=St->Hp->(Bool->Hp->Prop)->Prop
abbrev TA:=St->Hp->(List V->Hp->Prop)->Prop
structure Ends where
 nx:St->Hp->Prop
 rt:VK
 bk:St->Hp->Prop:=λ_ _=>False
 ct:St->Hp->Prop:=λ_ _=>False
abbrev TS:=Ends->St->Hp->Prop
def EP (X:Cx) (pins:List (ah×Obj)) (σ:St) (Q:VK) (u:ae) (s':af):Prop:=∃v H',Inv X pins σ H' s'/\RelV v u/\Q v H'
def TP (X:Cx) (pins:List (ah×Obj)) (σ:St) (Q:Bool->Hp->Prop) (b:Bool) (s':af):Prop:=∃H',Inv X pins σ H' s'/\Q b H'
def AP (X:Cx) (pins:List (ah×Obj)) (σ:St) (Q:List V->Hp->Prop) (us:List ae) (s':af):Prop:=∃vs H',Inv X pins σ H' s'/\yg vs us/\Q vs H'
def SP (X:Cx) (pins:List (ah×Obj)) (D:Ends) (f:Flow) (s':af):Prop:=
 match f with
 | .next=>∃σ' H',Inv X pins σ' H' s'/\D.nx σ' H'
 | .brk=>∃σ' H',Inv X pins σ' H' s'/\D.bk σ' H'
 | .cont=>∃σ' H',Inv X pins σ' H' s'/\D.ct σ' H'
 | .ret u=>∃v σ' H',Inv X pins σ' H' s'/\RelV v u/\D.rt v H'
def PE (X:Cx) (e:bj) (t:TE):Prop:=∀(pins:List (ah×Obj)) (s:af) (σ:St) (H:Hp) (Q:VK),Inv X pins σ H s->t σ H Q->wpAny (model X.prog X.w) X.A (eval e X.env) (EP X pins σ Q) X.xe s
def PT (X:Cx) (e:bj) (t:TT):Prop:=∀(pins:List (ah×Obj)) (s:af) (σ:St) (H:Hp) (Q:Bool->Hp->Prop),Inv X pins σ H s->t σ H Q->wpAny (model X.prog X.w) X.A (isTrue e X.env (eval e X.env)) (TP X pins σ Q) X.xe s
def PW (X:Cx) (e:bj) (t:TT):Prop:=∀(whole:Sem ae) (pins:List (ah×Obj)) (s:af) (σ:St) (H:Hp) (Q:Bool->Hp->Prop),Inv X pins σ H s->t σ H Q->wpAny (model X.prog X.w) X.A (isTrue e X.env whole) (TP X pins σ Q) X.xe s
theorem PW.pt {X:Cx}{e:bj}{t:TT}(h:PW X e t):PT X e t:=h _
def PA (X:Cx) (es:List bj) (t:TA):Prop:=∀(pos:Pos) (pins:List (ah×Obj)) (s:af) (σ:St) (H:Hp) (Q:List V->Hp->Prop),Inv X pins σ H s->t σ H Q->wpAny (model X.prog X.w) X.A (spliced (backTo pos (ax es X.env))) (AP X pins σ Q) X.xe s
def PS (X:Cx) (st:ja) (t:TS):Prop:=∀(pins:List (ah×Obj)) (s:af) (σ:St) (H:Hp) (D:Ends),Inv X pins σ H s->t D σ H->wpAny (model X.prog X.w) X.A (exec st X.env) (SP X pins D) X.xe s
def Bi (X:Cx) (st:List ja) (t:TS):Prop:=∀(pins:List (ah×Obj)) (s:af) (σ:St) (H:Hp) (D:Ends),Inv X pins σ H s->t D σ H->wpAny (model X.prog X.w) X.A (execs st X.env) (SP X pins D) X.xe s
theorem aM {α:Type}{t:Sem α}{Q Q':α->af->Prop}{M:vb}{A:bp}{E:ae->af->Prop}{s:af}(h:wpAny M A t Q E s) (hQ:∀a s,Q a s->Q' a s):wpAny M A t Q' E s:=je h hQ λ_ _ x=>x
section
variable{X:Cx}
def BC (i:Nat):TE:=λσ H Q=>∃v,σ[i]?=some (some v)/\Q v H
def tC (v:V):TE:=λ_ H Q=>Q v H
theorem oV {i:Nat}{x:Str}{pos:Pos}(hN:X.N[i]?=some x) (hv:mZ X.env.scope x) (hd:(x==("__debug__" : Str))=false:=by decide) (hcd:(x==("__classdict__" : Str))=false:=by decide):PE X (.Name x pos) (BC i):=by
 intro pins s σ H Q I h;obtain⟨v,e,h⟩:=h;obtain⟨m,hn,hl⟩:=I.loc;obtain⟨u,r,l⟩:=hl i x v hN e hv;have fin:EP X pins σ Q u s:=⟨v,H,I,r,h⟩
 rcases l with⟨hk,hm⟩|⟨hk,c,hc,hcell⟩
 ·exact wpAny_Name (wpAny_loadName_local I.ok.kind hk hn hm fin) hd
 ·rcases hk with hk|hk
  ·exact wpAny_Name (wpAny_loadName_cell I.ok.kind hk hc hcell fin) hd
  ·exact wpAny_Name (wpAny_loadName_free I.ok.kind hk hc hcell fin hcd) hd
theorem KR {i j pos}:PE X (.Constant (.int i) j pos) (tC (.int i)):=λ_ _ _ H _ I h=>wpAny_Constant_int ⟨.int i,H,I.tok _,⟨_,rfl⟩,h⟩
theorem KS {b j pos}:PE X (.Constant (.bool b) j pos) (tC (.bl b)):=λ_ _ _ H _ I h=>Constant_bool ⟨.bl b,H,I,rfl,h⟩
theorem BD {j pos}:PE X (.Constant .none j pos) (tC .non):=λ_ _ _ H _ I h=>Constant_none ⟨.non,H,I,rfl,h⟩
theorem BE {x j pos}:PE X (.Constant (.str x) j pos) (tC (.str x)):=λ_ _ _ H _ I h=>Calls.Constant_str ⟨.str x,H,I.tok _,⟨_,rfl⟩,h⟩
def Gl (X:Cx) (x:Str):Prop:=X.env.kindOf x=some .globalImplicit
theorem oW {E:ae->af->Prop}{pins:List (ah×Obj)}{s:af}{σ:St}{H:Hp}{x:Str}{u:ae}{pos:Pos}{Q:ae->af->Prop}(I:Inv X pins σ H s) (hg:Gl X x) (hm:X.mg x=some u) (h:Q u s)
  (hd:(x==("__debug__" : Str))=false:=by decide):wpAny (model X.prog X.w) X.A (eval (.Name x pos) X.env) Q E s:=
 uf I.ok.kind hg (Calls.loadGlobal_global (by rw[I.ok.glob];exact I.mod.glob.keeps I.bk) hm h) hd
theorem oX {E:ae->af->Prop}{pins:List (ah×Obj)}{s:af}{σ:St}{H:Hp}{x:Str}{u:ae}{pos:Pos}{Q:ae->af->Prop}(I:Inv X pins σ H s) (hg:Gl X x) (hm:X.mg x=none) (hv:dm x=some u) (h:Q u s)
  (hn:x ≠ "__name__" := by decide) (hd:(x==("__debug__" : Str))=false:=by decide):wpAny (model X.prog X.w) X.A (eval (.Name x pos) X.env) Q E s:=by
 obtain⟨mb,h1,h2⟩:=I.mod.blt;exact uf I.ok.kind hg (Calls.loadGlobal_builtin (by rw[I.ok.glob];exact I.mod.glob.keeps I.bk) hm (by rw[I.ok.blt];exact h1.keeps I.bk) ((h2 x hn).trans hv) h) hd
theorem BF {x:Str}{v:V}{u:ae}{pos:Pos}(hg:Gl X x) (hm:X.mg x=some u) (r:RelV v u) (hd:(x==("__debug__" : Str))=false:=by decide):PE X (.Name x pos) (tC v):=λ_ _ _ H _ I h=>oW I hg hm ⟨v,H,I,r,h⟩ hd
variable{a b:bj}{ta tb:TE}{pos:Pos}
def tB (t:TE):TT:=λσ H Q=>t σ H λx H1=>∃c,x=.bl c/\Q c H1
variable{tA fO:TT}{rest:List bj}
def BG (t u:TT):TT:=λσ H Q=>t σ H λc H1=>if c=true then u σ H1 Q else Q false H1
def BH (t u:TT):TT:=λσ H Q=>t σ H λc H1=>if c=true then Q true H1 else u σ H1 Q
def KU (t:TT):TT:=λσ H Q=>t σ H λc H1=>Q (!c) H1
theorem KW (ha:PT X a tA):PW X (.BoolOp .And [a] pos) tA:=by
 intro wh pins s σ H Q I h;refine isTrue_and (aM (ha pins s σ H Q I h) λc s1 e=>?_)
 cases c with
 |true=>exact isTrue_and_nil e
 |false=>exact e
theorem KY (ha:PT X a tA):PW X (.BoolOp .Or [a] pos) tA:=by
 intro wh pins s σ H Q I h;refine isTrue_or (aM (ha pins s σ H Q I h) λc s1 e=>?_)
 cases c with
 |false=>exact isTrue_or_nil e
 |true=>exact e
theorem KZ (ha:PT X a tA) (hb:PW X (.BoolOp .And (b::rest) pos) fO):PW X (.BoolOp .And (a::b::rest) pos) (BG tA fO):=by
 intro wh pins s σ H Q I h;refine isTrue_and (aM (ha pins s σ H _ I h) λc s1 ⟨H1,I1,q1⟩=>?_)
 cases c with
 |true=>exact hb wh pins s1 σ H1 Q I1 q1
 |false=>exact⟨H1,I1,q1⟩
theorem K0 (ha:PT X a tA) (hb:PW X (.BoolOp .Or (b::rest) pos) fO):PW X (.BoolOp .Or (a::b::rest) pos) (BH tA fO):=by
 intro wh pins s σ H Q I h;refine isTrue_or (aM (ha pins s σ H _ I h) λc s1 ⟨H1,I1,q1⟩=>?_)
 cases c with
 |true=>exact⟨H1,I1,q1⟩
 |false=>exact hb wh pins s1 σ H1 Q I1 q1
theorem K1 (ha:PT X a tA):PT X (.UnaryOp .Not a pos) (KU tA):=by intro pins s σ H Q I h;exact isTrue_not (ha pins s σ H (λc H1=>Q (!c) H1) I h)
def K2 (ta tb:TE):TE:=λσ H Q=>ta σ H λx H1=>∃c,x=.bl c/\if c=true then tb σ H1 Q else Q (.bl false) H1
def LA (ta:TE):TE:=λσ H Q=>ta σ H λx H1=>∃c,x=.bl c/\Q (.bl (!c)) H1
theorem LB {op} {t:TE}(h:PE X a t):PE X (.BoolOp op [a] pos) t:=λpins s σ H Q I hw=>BoolOp_one (h pins s σ H Q I hw)
theorem LC (ha:PE X a ta) (hb:PE X (.BoolOp .And (b::rest) pos) tb):PE X (.BoolOp .And (a::b::rest) pos) (K2 ta tb):=by
 intro pins s σ H Q I h;refine BoolOp_and (aM (ha pins s σ H _ I h) λv s1 ⟨x,H1,I1,r1,q1⟩=>?_);obtain⟨c,rfl,q1⟩:=q1;cases r1;refine kj ?_
 cases c with
 |true=>exact hb pins s1 σ H1 Q I1 q1
 |false=>exact⟨.bl false,H1,I1,rfl,q1⟩
theorem LD (ha:PE X a ta):PE X (.UnaryOp .Not a pos) (LA ta):=by intro pins s σ H Q I h;refine UnaryOp_ (aM (ha pins s σ H _ I h) λv s1 ⟨x,H1,I1,r1,q1⟩=>?_);obtain⟨c,rfl,q1⟩:=q1;cases r1;exact not_of (kj ⟨.bl (!c),H1,I1,rfl,q1⟩)
end
def y9 (K:ar) (H:Hp) (a:ah) (xs:List V):Prop:=
 Rd H a (.lst xs) ∨
  ∃(o:Obj) (its:Array ae) (n:Nat),K.lookup a=some o/\o.cls=.type "list"/\o.dict=none/\o.data=.seq its n/\its.size<=bo/\yg xs its.toList
def yt (K:ar) (H:Hp) (a:ah) (xs:List V):Prop:=
 Rd H a (.tup xs) ∨
  ∃(o:Obj) (its:Array ae) (n:Nat),K.lookup a=some o/\o.cls=.type "tuple"/\o.data=.seq its n/\its.size<=bo/\yg xs its.toList
def LF:ae->Option V
 | .none=>some .non
 | .bool b=>some (.bl b)
 | .int i _=>some (.int i)
 | .str x _=>some (.str x)
 | .bytes b _=>some (.byt b)
 | .float b _=>some (.flt b)
 | .ref a=>some (.ref a)
 | .type n=>some (.ty n)
 |_=>none
theorem RelV.abs {x:V}{u:ae}(r:RelV x u):LF u=some x:=by
 cases x with
 |non=>cases r;rfl
 |bl _=>cases r;rfl
 |int _=>obtain⟨t,rfl⟩:=r;rfl
 |str _=>obtain⟨t,rfl⟩:=r;rfl
 |byt _=>obtain⟨t,rfl⟩:=r;rfl
 |flt _=>obtain⟨t,rfl⟩:=r;rfl
 |ref _=>cases r;rfl
 |ty _=>cases r;rfl
theorem RelV.inj {x y:V}{u:ae}(r:RelV x u) (q:RelV y u):x=y:=cq (r.abs.symm.trans q.abs)
theorem yg.inj:∀{xs ys:List V}{us:List ae},yg xs us->yg ys us->xs=ys
 |_,_,_,.nil,.nil=>rfl
 |_,_,_,.cons r t,.cons r' t'=>by rw[r.inj r',yg.inj t t']
section
variable{X:Cx}{pins:List (ah×Obj)}{σ:St}{H:Hp}{s:af}{a:ah}{xs ys:List V}
theorem y9.of {K:ar}(h:H a=some (.lst xs)):y9 K H a xs:=.inl (.inl h)
theorem yt.of {K:ar}(h:H a=some (.tup xs)):yt K H a xs:=.inl (.inl h)
theorem Inv.list (I:Inv X pins σ H s) (h:y9 X.K H a xs):∃its:List ae,yg xs its/\PlainL s.heap a its.toArray/\xs.length<=bo:=by
 rcases h with h|⟨o,its,n,hk,hc,hd,hs,hz,r⟩
 ·obtain⟨z,its,n,r,e⟩:=h.ok I.hok;exact⟨its,r,⟨_,n,e,rfl,rfl,rfl⟩,z⟩
 ·refine⟨its.toList,r,⟨o,n,I.kIn a o hk,hc,hd,by simpa using hs⟩, ?_⟩;have e:=r.length;simp only[iw]at e;omega
theorem Inv.tuple (I:Inv X pins σ H s) (h:yt X.K H a xs):∃its:List ae,yg xs its/\IsTup s.heap a its.toArray/\xs.length<=bo:=by
 rcases h with h|⟨o,its,n,hk,hc,hs,hz,r⟩
 ·obtain⟨z,its,r,p⟩:=h.ok I.hok;exact⟨its,r,p.tup,z⟩
 ·refine⟨its.toList,r,⟨o,I.kIn a o hk,hc,n,by simpa using hs⟩, ?_⟩;have e:=r.length;simp only[iw]at e;omega
theorem Inv.list_inj (I:Inv X pins σ H s) (h:y9 X.K H a xs) (h':y9 X.K H a ys):xs=ys:=by
 obtain⟨its,r,⟨o,n,e,_,_,d⟩,_⟩:=I.list h;obtain⟨its',r',⟨o',n',e',_,_,d'⟩,_⟩:=I.list h';rw[e]at e';cases e';rw[d]at d';injection d' with d1 _;have:its=its':=by simpa using congrArg Array.toList d1
 subst this;exact r.inj r'
theorem Inv.tuple_inj (I:Inv X pins σ H s) (h:yt X.K H a xs) (h':yt X.K H a ys):xs=ys:=by
 obtain⟨its,r,⟨o,e,_,n,d⟩,_⟩:=I.tuple h;obtain⟨its',r',⟨o',e',_,n',d'⟩,_⟩:=I.tuple h';rw[e]at e';cases e';rw[d]at d';injection d' with d1 _;have:its=its':=by simpa using congrArg Array.toList d1
 subst this;exact r.inj r'
end
abbrev Cx.wish (X:Cx) (E:ae->af->Prop):Cx:={ X with xe:=E }
abbrev Cx.nox (X:Cx):Cx:=X.wish λ_ _=>False
theorem Cx.Ok.wish {X:Cx}(ok:X.Ok) (E:ae->af->Prop):(X.wish E).Ok:=⟨ok.mod,ok.kind,ok.glob,ok.blt,ok.above,ok.inj,ok.has,ok.cab,ok.hd,ok.frames,ok.stk,ok.exf,ok.bs,ok.bsz,ok.noex,ok.exfs,ok.funs,ok.frf⟩
theorem Cx.Ok.unwish {X:Cx}{E:ae->af->Prop}(ok:(X.wish E).Ok):X.Ok:=⟨ok.mod,ok.kind,ok.glob,ok.blt,ok.above,ok.inj,ok.has,ok.cab,ok.hd,ok.frames,ok.stk,ok.exf,ok.bs,ok.bsz,ok.noex,ok.exfs,ok.funs,ok.frf⟩
section
variable{X:Cx}{pins:List (ah×Obj)}{σ:St}{H:Hp}{s:af}{E:ae->af->Prop}
theorem Inv.wish (I:Inv X pins σ H s) (E:ae->af->Prop):Inv (X.wish E) pins σ H s:=⟨I.ok.wish E,I.os,I.bare,I.base,I.loc,I.cell,I.free,I.freeC,I.pin,I.hok,I.len⟩
theorem Inv.unwish (I:Inv (X.wish E) pins σ H s):Inv X pins σ H s:=⟨I.ok.unwish,I.os,I.bare,I.base,I.loc,I.cell,I.free,I.freeC,I.pin,I.hok,I.len⟩
end
section
variable{X:Cx}{st:ja}{rest:List ja}{t u:TS}{e:bj}{te:TE}{pos:Pos}
def LG:TS:=λD σ H=>D.nx σ H
def LH (t u:TS):TS:=λD σ H=>t { D with nx:=u D } σ H
theorem LI:Bi X [] LG:=λ_ _ σ H _ I h=>ll ⟨σ,H,I,h⟩
theorem LJ (h1:PS X st t) (h2:Bi X rest u):Bi X (st::rest) (LH t u):=by
 intro pins s σ H D I h;refine og (aM (h1 pins s σ H { D with nx:=u D } I h) λf s1 q=>?_)
 cases f with
 |next=>obtain⟨σ',H',I',q⟩:=q;exact h2 pins s1 σ' H' D I' q
 |ret v=>exact q
 |brk=>exact q
 |cont=>exact q
theorem BI (h1:PS X st t):Bi X [st] t:=by
 intro pins s σ H D I h;refine og (aM (h1 pins s σ H D I h) λf s1 q=>?_)
 cases f with
 |next=>exact ll q
 |ret v=>exact q
 |brk=>exact q
 |cont=>exact q
theorem Inv.quiet {pins:List (ah×Obj)}{σ:St}{H:Hp}{s:af}(I:Inv X pins σ H s):interactive X.env=false:=by simp[interactive,I.ok.kind]
def LK (te:TE):TS:=λD σ H=>te σ H λ_ H1=>D.nx σ H1
theorem LL (he:PE X e te) (hs:swapsWith e none pos.line X.env=pure false:=by rfl):PS X (.Expr e pos) (LK te):=by intro pins s σ H D I h;exact wpAny_Expr_any (aM (he pins s σ H _ I h) λv s1 ⟨x,H1,I1,r1,q1⟩=>⟨σ,H1,I1,q1⟩) I.quiet hs
def LM (te:TE):TS:=λD σ H=>te σ H D.rt
theorem LN (he:PE X e te):PS X (.Return (some e) pos) (LM te):=by intro pins s σ H D I h;exact wpAny_Return_some (aM (he pins s σ H _ I h) λv s1 ⟨x,H1,I1,r1,q1⟩=>⟨x,σ,H1,I1,r1,q1⟩)
def LO (c:TT) (t u:TS):TS:=λD σ H=>c σ H λb H1=>if b=true then t D σ H1 else u D σ H1
theorem LP {c:bj}{a b:List ja}{tc:TT}(hc:PT X c tc) (ha:Bi X a t) (hb:Bi X b u):PS X (.If c a b pos) (LO tc t u):=by
 intro pins s σ H D I h;refine wpAny_If (aM (hc pins s σ H _ I h) λd s1 ⟨H1,I1,q1⟩=>?_)
 cases d with
 |true=>exact ha pins s1 σ H1 D I1 q1
 |false=>exact hb pins s1 σ H1 D I1 q1
end
abbrev TG:=V->St->Hp->(St->Hp->Prop)->Prop
abbrev iM:=List V->St->Hp->(St->Hp->Prop)->Prop
def PG (X:Cx) (target:bj) (t:TG):Prop:=
 ∀(pins:List (ah×Obj)) (s:af) (σ:St) (H:Hp) (v:V) (u:ae) (Q:St->Hp->Prop),Inv X pins σ H s->RelV v u->t v σ H Q->
  wpAny (model X.prog X.w) X.A (assign target X.env u) (λ_ s'=>∃σ' H',Inv X pins σ' H' s'/\Q σ' H') X.xe s
def PGs (X:Cx) (ts:List bj) (t:iM):Prop:=
 ∀(pins:List (ah×Obj)) (s:af) (σ:St) (H:Hp) (vs:List V) (us:List ae) (Q:St->Hp->Prop),Inv X pins σ H s->yg vs us->t vs σ H Q->
  wpAny (model X.prog X.w) X.A (assignInOrder ((assignEach ts X.env).map (·.2)) us) (λ_ s'=>∃σ' H',Inv X pins σ' H' s'/\Q σ' H') X.xe s
abbrev vX:=V->V->V->Hp->(Hp->Prop)->Prop
def vY (X:Cx) (t:vX):Prop:=
 ∀(pins:List (ah×Obj)) (s:af) (σ:St) (H:Hp) (o i v:V) (ov iv u:ae) (Q:Hp->Prop),Inv X pins σ H s->RelV o ov->RelV i iv->RelV v u->t o i v H Q->
  wpAny (model X.prog X.w) X.A (setItem ov iv u) (λ_ s'=>∃H',Inv X pins σ H' s'/\Q H') X.xe s
section
variable{X:Cx}{pos:Pos}
def BJ (i:Nat):TG:=λv σ H Q=>Q (σ.set i (some v)) H
theorem LQ {i:Nat}{x:Str}(hN:X.N.Nodup) (hi:X.N[i]?=some x) (hx:kU X.env.scope x) (hf:X.fn x=true∨X.env.scope.names.lookup x=some .local:=by first|exact .inl rfl|exact .inr rfl|assumption):PG X (.Name x pos) (BJ i):=by intro pins s σ H v u Q I r h;exact wpAny_assign_Name (vW I hN hi hx r (λs' I'=>⟨_,H,I',h⟩) hf)
def LR:iM:=λvs σ H Q=>vs=[]/\Q σ H
def LU (t:TG) (u:iM):iM:=λvs σ H Q=>∃v r,vs=v::r/\t v σ H λσ' H'=>u r σ' H' Q
theorem LV:PGs X [] LR:=by intro pins s σ H vs us Q I r h;obtain⟨e,h⟩:=h;subst e;cases r;exact assignInOrder_nil ⟨σ,H,I,h⟩
theorem LW {e:bj}{es:List bj}{t:TG}{u:iM}(h1:PG X e t) (h2:PGs X es u)
  (hs:(assignEach (e::es) X.env).map (·.2)=assign e X.env::(assignEach es X.env).map (·.2):=by rfl):PGs X (e::es) (LU t u):=by
 intro pins s σ H vs us Q I r h;obtain⟨v,vr,e1,h⟩:=h;subst e1
 cases r with
 |cons r rr=>rw[hs];refine assignInOrder_cons (aM (h1 pins s σ H _ _ _ I r h) λ_ s1 ⟨σ1,H1,I1,q1⟩=>?_);exact h2 pins s1 σ1 H1 _ _ Q I1 rr q1
def LX (K:ar) (n:Nat) (t:iM):TG:=λv σ H Q=>∃a xs,v=.ref a/\yt K H a xs/\xs.length=n/\t xs σ H Q
theorem LY {es:List bj}{k:Nat}{t:iM}{n:Nat}(hc:X.calm=true) (h:PGs X es t)
  (hn:(assignEach es X.env).length=n:=by rfl) (Am:(assignEach es X.env).findIdx? (·.1)=none:=by rfl):PG X (.Tuple es k pos) (LX X.K n t):=by
 intro pins s σ H v u Q I r hw;obtain⟨a,xs,e1,hq,hl,hw⟩:=hw;subst e1;cases r;obtain⟨its,rv,ht,hz⟩:=I.tuple hq;refine assign_Tuple_tuple (I.ok.hd hc) ht (by simp[hn,<-hl,rv.length]) Am λh' hx=>?_;have I1:Inv X pins σ H { s with heap:=h' }:=I.kept (t':=s.toks) λb o e=>hx b o (aw (ao e)) e;exact h pins _ σ H xs _ Q I1 (by simpa using rv) hw
def LZ (to ti:TE) (t:vX):TG:=λv σ H Q=>to σ H λo H1=>ti σ H1 λi H2=>t o i v H2 λH3=>Q σ H3
theorem BK {o i:bj}{to ti:TE}{t:vX}(ho:PE X o to) (hi:PE X i ti) (hs:vY X t)
  (ha:∀v,assign (.Subscript o i pos) X.env v=(do
   let ov <-holding [v] (eval o X.env)
   let iv <-holding [v,ov] (eval i X.env)
   standAt pos
   holding [v,ov,iv] (setItem ov iv v)
   release [v,ov,iv] []):=by intro _;rfl):PG X (.Subscript o i pos) (LZ to ti t):=by
 intro pins s σ H v u Q I r h;rw[ha];refine aa (dv (aM (ho pins s σ H _ I h) λov s1 ⟨x,H1,I1,r1,q1⟩=>?_));refine aa (dv (aM (hi pins s1 σ H1 _ I1 q1) λiv s2 ⟨y,H2,I2,r2,q2⟩=>?_));refine aa (lh (aa (dv (aM (hs pins s2 σ H2 x y v ov iv u _ I2 r1 r2 r q2) λ_ s3 ⟨H3,I3,q3⟩=>?_))));exact wpAny_release ⟨σ,H3,I3,q3⟩
def vZ (te:TE) (g:TG):TS:=λD σ H=>te σ H λx H1=>g x σ H1 D.nx
theorem rP {tg e:bj}{te:TE}{g:TG}(he:PE X e te) (hg:PG X tg g) (hs:swapsWithSole [tg] e pos.line X.env=pure false:=by rfl) (hw:swappedStores [tg] e X.env=pure none:=by rfl)
  (h1:(assignEach [tg] X.env).map (·.2)=[assign tg X.env]:=by rfl):PS X (.Assign [tg] e pos) (vZ te g):=by
 intro pins s σ H D I h;refine wpAny_Assign_stores (aM (he pins s σ H _ I h) λv s1 ⟨x,H1,I1,r1,q1⟩=>?_) hs hw;rw[h1];exact aM (hg pins s1 σ H1 x v _ I1 r1 q1) λ_ s2 q=>q
theorem wC {i:Nat}{x:Str}{e:bj}{te:TE}{pos':Pos}(hN:X.N.Nodup) (hi:X.N[i]?=some x) (hx:kU X.env.scope x) (he:PE X e te) (hs:swapsWith e (some (.Name x pos')) pos.line X.env=pure false:=by rfl) (hf:X.fn x=true∨X.env.scope.names.lookup x=some .local:=by first|exact .inl rfl|exact .inr rfl|assumption):
  PS X (.Assign [.Name x pos'] e pos) (vZ te (BJ i)):=by
 intro pins s σ H D I h;refine wpAny_Assign_Name (aM (he pins s σ H _ I h) λv s1 ⟨y,H1,I1,r1,q1⟩=>?_) hs;exact vW I1 hN hi hx r1 (λs2 I2=>⟨_,H1,I2,q1⟩) hf
end
section
variable{X:Cx}{pos:Pos}
def L0 (c:TT) (tb:TS):TS:=λD σ H=>∃W:Nat->St->Hp->Prop,(∃m,W m σ H)/\∀m σ H,W m σ H->
 c σ H λb H1=>if b=true then ∃N:St->Hp->Prop,(∀σ' H',N σ' H'->∃m',m'<m/\W m' σ' H')/\tb { D with nx:=N,ct:=N,bk:=D.nx } σ H1 else D.nx σ H1
theorem L6 {c:bj}{body:List ja}{tc:TT}{tb:TS}(hp:uy (model X.prog X.w) X.A X.env X.xe) (hc:PT X c tc) (hb:Bi X body tb):PS X (.While c body [] pos) (L0 tc tb):=by
 intro pins s σ H D I h;obtain⟨W,⟨m0,w0⟩,turn⟩:=h;refine wpAny_While (codeAny_whileLoop (λn s'=>∃σ' H',Inv X pins σ' H' s'/\W n σ' H') ?_ m0 ⟨σ,H,I,w0⟩)
 rintro n s1 ⟨σ1,H1,I1,w1⟩
 refine jx hp (aM (hc pins s1 σ1 H1 _ I1 (turn n σ1 H1 w1)) λb s2 ⟨H2,I2,q2⟩=>?_)
 cases b with
 |true=>
  obtain⟨N,hN,q2⟩:=q2;rw[if_pos rfl];refine jx hp (aM (hb pins s2 σ1 H2 _ I2 q2) λf s3 q3=>?_)
  cases f with
  |next=>obtain⟨σ3,H3,I3,n3⟩:=q3;obtain⟨m',hm,w3⟩:=hN σ3 H3 n3;exact⟨m',hm,σ3,H3,I3,w3⟩
  |cont=>obtain⟨σ3,H3,I3,n3⟩:=q3;obtain⟨m',hm,w3⟩:=hN σ3 H3 n3;exact⟨m',hm,σ3,H3,I3,w3⟩
  |brk=>exact q3
  |ret v=>exact q3
 |false=>rw[if_neg gu];exact ll ⟨σ1,H2,I2,q2⟩
end
structure It where
 go:Nat->Hp->Prop
 yld:Nat->Hp->V->Hp->Prop
 stop:Nat->Hp->Prop
def bU (X:Cx) (pins:List (ah×Obj)) (H:Hp) (b:ah):Prop:=H b=none/\b≠X.env.locals/\b∉X.fs/\(b∈X.ex∨X.s₀.heap.objs.size<=b)/\(∀x c,X.env.cells.lookup x=some c->c≠b)/\∀p∈X.pn++pins,p.1≠b
theorem Inv.fpOk {X:Cx}{pins:List (ah×Obj)}{σ:St}{H H':Hp}{s:af}{b:ah}(I:Inv X pins σ H s) (hb:s.heap.objs.size<=b) (hn:H' b=none):bU X pins H' b:=by
 refine⟨hn,ig (aq I.lt hb),I.nofs hb,.inr (da I.sz hb),λx c e z=>?_,λp hp z=>?_⟩
 ·obtain⟨v,q⟩:=I.cell x c e;exact absurd (aq q.lt (by rw[z];exact hb)) (fy _)
 ·exact absurd (aq (ao (I.pin p hp).1) (by rw[z];exact hb)) (fy _)
structure Turn (P:bg) (w:cf) (K:ar) (tg:bj) (J:It) (fp:List ah) (it:ah) (tn:Nat->ck->Prop):Prop where
 mem:it∈fp
 obj:∀i h,tn i h->∀b∈fp,∃o,h.get? b=some o/\∀v,o.data≠.cell v
 keep:∀i h h',tn i h->(∀b∈fp,∀o,h.get? b=some o->h'.get? b=some o)->tn i h'
 item:∀(X:Cx),X.prog=P->X.w=w->X.K=K->X.calm=true->∀(i:Nat) (pins:List (ah×Obj)) (s:af) (σ:St) (H:Hp) (E:ae->af->Prop),Inv X pins σ H s->(∀b∈fp,bU X pins H b)->tn i s.heap->J.go i H->
  wpAny (model P w) X.A (pyNext (.ref it)) (λr s1=>∃u,r=some u /\
   wpAny (model P w) X.A (letOwnedTupleGo tg (.ref it) u) (λ_ s2=>∃x H',Inv X pins σ H' s2/\RelV x u/\J.yld i H x H'/\tn (i+1) s2.heap/\∀b∈fp,H' b=none) E s1) E s
 done:∀(X:Cx),X.prog=P->X.w=w->X.K=K->X.calm=true->∀(i:Nat) (pins:List (ah×Obj)) (s:af) (σ:St) (H:Hp) (E:ae->af->Prop),Inv X pins σ H s->(∀b∈fp,bU X pins H b)->tn i s.heap->J.stop i H->
  wpAny (model P w) X.A (pyNext (.ref it)) (λr s1=>r=none/\Inv X pins σ H s1) E s
 self:∀(A:bp) (i:Nat) (s:af) (Q:ae->af->Prop) (E:ae->af->Prop),tn i s.heap->Q (.ref it) s->wpAny (model P w) A (pyIter (.ref it)) Q E s
abbrev TI:=St->Hp->(It->Hp->Prop)->Prop
def BL (X:Cx) (pins:List (ah×Obj)) (σ:St) (tg:bj) (R:It->Hp->Prop) (itv:ae) (s2:af):Prop:=∃(it:ah) (fp:List ah) (tn:Nat->ck->Prop) (J:It) (H':Hp),itv=.ref it/\Inv X pins σ H' s2/\Turn X.prog X.w X.K tg J fp it tn/\tn 0 s2.heap/\(∀b∈fp,bU X pins H' b)/\R J H'
def PI (X:Cx) (tg iter:bj) (wi:TI):Prop:=
 ∀(pins:List (ah×Obj)) (s:af) (σ:St) (H:Hp) (R:It->Hp->Prop),Inv X pins σ H s->wi σ H R->
  wpAny (model X.prog X.w) X.A (eval iter X.env) (λv s1=>wpAny (model X.prog X.w) X.A (pyIter v) (BL X pins σ tg R) X.xe s1) X.xe s
theorem wD {M:vb}{A:bp}{E:ae->af->Prop}{s:af}{tg:bj}{it:ah}{u:ae}{o:Obj}{n:String}{vs:Array ae}{Q:Unit->af->Prop}(ho:s.heap.get? it=some o) (hc:o.cls=.type n) (hd:o.data=.fields vs)
  (hn:["enumerate","zip","dict_itemiterator","dict_reverseitemiterator","odict_iterator","itertools.zip_longest","itertools.pairwise"].contains n=false) (hQ:Q () s):wpAny M A (letOwnedTupleGo tg (.ref it) u) Q E s:=by
 unfold letOwnedTupleGo
 cases tg <;> first
  |exact ai hQ
  |(cases u <;> first
    |exact ai hQ
    |(refine aa (wpAny_load ho ?_);rw[hc,hd];show wpAny M A (if(["enumerate","zip","dict_itemiterator","dict_reverseitemiterator","odict_iterator","itertools.zip_longest","itertools.pairwise"].contains n&&vs[0]?==some (rawInt _))=true then _ else _) Q E s;rw[if_neg (by intro h;rw[hn,Bool.false_and]at h;cases h)];exact ai hQ))
def BM (K:ar) (a:ah):It:=⟨λi H=>∃xs x,y9 K H a xs/\xs[i]?=some x,λi H x H'=>H'=H/\∀xs,y9 K H a xs->xs[i]?=some x,λi H=>∃xs,y9 K H a xs/\xs.length<=i⟩
def wF (K:ar) (a:ah):It:=⟨λi H=>∃xs x,yt K H a xs/\xs[i]?=some x,λi H x H'=>H'=H/\∀xs,yt K H a xs->xs[i]?=some x,λi H=>∃xs,yt K H a xs/\xs.length<=i⟩
def rQ (lo:Int) (n:Nat):It:=⟨λi _=>i<n,λi H x H'=>H'=H/\x=.int (lo+i),λi _=>n<=i⟩
theorem L7 {P:bg}{w:cf}{K:ar}{tg:bj}(a it:ah):Turn P w K tg (BM K a) [it] it (λi h=>h.IsListIter it a i) where
 mem:=by simp
 obj:=λi h st b hb=>by
  have e:b=it:=by simpa using hb
  subst e;obtain⟨o,e,c,d⟩:=st;exact⟨o,e,λv z=>by rw[d]at z;cases z⟩
 keep:=λi h h' st k=>st.at λo e=>k it (by simp) o e
 item:=by intro X hP hw hK hc i pins s σ H E I hf st hg;subst hP hw hK;obtain⟨xs,x,hq,hx⟩:=hg;obtain⟨its,rv,p,hz⟩:=I.list hq;obtain⟨u,hu,ru⟩:=rv.get hx;obtain⟨f0,f1,f2,f3,f4,f5⟩:=hf it (by simp);refine wpAny_pyNext_list_item st p.isList (x:=u) (by simpa using hu) λh' Ay sb=>?_;have I1:Inv X pins σ H { s with heap:=h' }:=I.turned (t':=s.toks) (λb o hb e=>(sb.2 b hb).trans e) f0 f1 f3 f4 f5;obtain⟨o,e,c,d⟩:=id Ay;exact⟨u,rfl,wD (s:={ s with heap:=h' }) e c d (by decide) ⟨x,H,I1,ru,⟨rfl,λys hy=>by rw[I.list_inj hy hq];exact hx⟩,Ay,λb hb=>(hf b hb).1⟩⟩
 done:=by intro X hP hw hK hc i pins s σ H E I hf st hg;subst hP hw hK;obtain⟨xs,hq,hx⟩:=hg;obtain⟨its,rv,p,hz⟩:=I.list hq;obtain⟨f0,f1,f2,f3,f4,f5⟩:=hf it (by simp);have hl:=rv.length;exact wpAny_pyNext_list_end (I.ok.hd hc) st p.isList (by simp;omega) λh' eb=>⟨rfl,I.turned (t':=s.toks) (λb o hb e=>eb b o hb e) f0 f1 f3 f4 f5⟩
 self:=λ_ _ _ _ _ st h=>wpAny_pyIter_listiter st h
theorem L8 {P:bg}{w:cf}{K:ar}{tg:bj}(a it:ah):Turn P w K tg (wF K a) [it] it (λi h=>h.IsTupleIter it a i) where
 mem:=by simp
 obj:=λi h st b hb=>by
  have e:b=it:=by simpa using hb
  subst e;obtain⟨o,e,c,d⟩:=st;exact⟨o,e,λv z=>by rw[d]at z;cases z⟩
 keep:=λi h h' st k=>st.at λo e=>k it (by simp) o e
 item:=by intro X hP hw hK hc i pins s σ H E I hf st hg;subst hP hw hK;obtain⟨xs,x,hq,hx⟩:=hg;obtain⟨its,rv,p,hz⟩:=I.tuple hq;obtain⟨u,hu,ru⟩:=rv.get hx;obtain⟨f0,f1,f2,f3,f4,f5⟩:=hf it (by simp);refine wpAny_pyNext_tuple_item st (show s.heap.IsTuple a its.toArray from p) (x:=u) (by simpa using hu) λh' Ay sb=>?_;have I1:Inv X pins σ H { s with heap:=h' }:=I.turned (t':=s.toks) (λb o hb e=>(sb.2 b hb).trans e) f0 f1 f3 f4 f5;obtain⟨o,e,c,d⟩:=id Ay;exact⟨u,rfl,wD (s:={ s with heap:=h' }) e c d (by decide) ⟨x,H,I1,ru,⟨rfl,λys hy=>by rw[I.tuple_inj hy hq];exact hx⟩,Ay,λb hb=>(hf b hb).1⟩⟩
 done:=by intro X hP hw hK hc i pins s σ H E I hf st hg;subst hP hw hK;obtain⟨xs,hq,hx⟩:=hg;obtain⟨its,rv,p,hz⟩:=I.tuple hq;obtain⟨f0,f1,f2,f3,f4,f5⟩:=hf it (by simp);have hl:=rv.length;exact wpAny_pyNext_tuple_end (I.ok.hd hc) st (show s.heap.IsTuple a its.toArray from p) (by simp;omega) λh' eb=>⟨rfl,I.turned (t':=s.toks) (λb o hb e=>eb b o hb e) f0 f1 f3 f4 f5⟩
 self:=λ_ _ _ _ _ st h=>wpAny_pyIter_tupleiter st h
theorem L9 {P:bg}{w:cf}{K:ar}{tg:bj}(it:ah) (lo:Int) (n:Nat):Turn P w K tg (rQ lo n) [it] it (λi h=>IsRangeIter h it (lo+(i:Nat)*1) ((n:Int) - (i:Nat)) 1) where
 mem:=by simp
 obj:=λi h st b hb=>by
  have e:b=it:=by simpa using hb
  subst e;exact⟨_,st,λv z=>by
   have z':Data.fields _=Data.cell v:=z
   cases z'⟩
 keep:=λi h h' st k=>k it (by simp) _ st
 item:=by intro X hP hw hK hc i pins s σ H E I hf st hg;subst hP hw hK;obtain⟨f0,f1,f2,f3,f4,f5⟩:=hf it (by simp);have W:=Walks.range (prog:=X.prog) (w:=X.w) (I.ok.hd hc) it lo 1 n;refine W.item i s _ _ hg st λv h' tk hv Ay kk=>?_;obtain⟨t,rfl⟩:=hv;have I1:Inv X pins σ H { s with heap:=h',toks:=tk }:=I.turned (λb o hb e=>kk b o (by simpa using hb) e) f0 f1 f3 f4 f5;refine⟨_,rfl,wD (s:={ s with heap:=h',toks:=tk }) (n := "range_iterator") Ay rfl rfl (by decide) ⟨.int (lo+i),H,I1,⟨t, ?_⟩,⟨rfl,rfl⟩,Ay,λb hb=>(hf b hb).1⟩⟩;rw[Int.mul_one]
 done:=by intro X hP hw hK hc i pins s σ H E I hf st hg;subst hP hw hK;obtain⟨f0,f1,f2,f3,f4,f5⟩:=hf it (by simp);exact wpAny_pyNext_range_end (I.ok.hd hc) st (by have:n<=i:=hg;omega) λh' eb=>⟨rfl,I.turned (t':=s.toks) (λb o hb e=>eb b o hb e) f0 f1 f3 f4 f5⟩
 self:=λ_ _ _ _ _ st h=>wpAny_pyIter_rangeiter st h
section
variable{X:Cx}{tg:bj}
def MA (K:ar) (tl:TE):TI:=λσ H R=>tl σ H λx H1=>∃a,x=.ref a/\(∃xs,y9 K H1 a xs)/\R (BM K a) H1
def MB (K:ar) (tl:TE):TI:=λσ H R=>tl σ H λx H1=>∃a,x=.ref a/\(∃xs,yt K H1 a xs)/\R (wF K a) H1
theorem MD {l:bj}{tl:TE}(hl:PE X l tl):PI X tg l (MA X.K tl):=by
 intro pins s σ H R I h;refine aM (hl pins s σ H _ I h) λv s1 ⟨x,H1,I1,r1,q1⟩=>?_;obtain⟨a,e,⟨xs,hq⟩,q⟩:=q1;subst e;cases r1;obtain⟨its,rv,p,hz⟩:=I1.list hq;refine n9 p.isList ?_;refine⟨s1.heap.objs.size,[s1.heap.objs.size],_,_,H1,rfl,I1.kept (t':=s1.toks) λb o e=>aj _ e,L7 a _,⟨_,av _ rfl,rfl,rfl⟩,λb hb=>?_,q⟩;have e:b=s1.heap.objs.size:=by simpa using hb
 subst e;exact I1.fpOk (ak _) (I1.hok.fresh (ak _))
theorem ME {l:bj}{tl:TE}(hl:PE X l tl):PI X tg l (MB X.K tl):=by
 intro pins s σ H R I h;refine aM (hl pins s σ H _ I h) λv s1 ⟨x,H1,I1,r1,q1⟩=>?_;obtain⟨a,e,⟨xs,hq⟩,q⟩:=q1;subst e;cases r1;obtain⟨its,rv,p,hz⟩:=I1.tuple hq;refine pg (show s1.heap.IsTuple a its.toArray from p) ?_;refine⟨s1.heap.objs.size,[s1.heap.objs.size],_,_,H1,rfl,I1.kept (t':=s1.toks) λb o e=>aj _ e,L8 a _,⟨_,av _ rfl,rfl,rfl⟩,λb hb=>?_,q⟩;have e:b=s1.heap.objs.size:=by simpa using hb
 subst e;exact I1.fpOk (ak _) (I1.hok.fresh (ak _))
theorem MF {pins:List (ah×Obj)}{σ:St}{H:Hp}{s:af}{R:It->Hp->Prop}{E:ae->af->Prop}{lo hi:Int}{t u v:Tok}{tk:Nat}(I:Inv X pins σ H s) (h1 : -(2 ^ 62)<=lo) (h2:lo<2 ^ 62) (h3 : -(2 ^ 62)<=hi) (h4:hi<2 ^ 62)
  (q:R (rQ lo (hi - lo).toNat) H):wpAny (model X.prog X.w) X.A (pyIter (.ref s.heap.objs.size)) (BL X pins σ tg R) E { s with heap:=s.heap.push { cls:=.type "range",data:=.fields #[.int lo t,.int hi u,.int 1 v] },toks:=tk }:=by
 refine wpAny_pyIter_range (IsRange.new ..) (small_one h1 h2 h3 h4) ?_;have I1:Inv X pins σ H { s with heap:=s.heap.push { cls:=.type "range",data:=.fields #[.int lo t,.int hi u,.int 1 v] },toks:=tk }:=I.kept λb o e=>aj _ e;refine⟨(s.heap.push { cls:=.type "range",data:=.fields #[.int lo t,.int hi u,.int 1 v] }).objs.size,[(s.heap.push { cls:=.type "range",data:=.fields #[.int lo t,.int hi u,.int 1 v] }).objs.size],_,_,H,rfl,
  I1.kept (t':=tk) λb o e=>aj _ e,L9 _ lo (hi - lo).toNat, ?_,λb hb=>?_,q⟩
 ·have e1:lo+((0:Nat):Int)*1=lo:=by simp
  have e2:(((hi - lo).toNat:Nat):Int) - ((0:Nat):Int)=Builtin.Range.rangeSize lo hi 1:=by rw[rangeSize_one];split <;> omega
  show IsRangeIter _ _ (lo+((0:Nat):Int)*1) ((((hi - lo).toNat:Nat):Int) - ((0:Nat):Int)) 1;rw[e1,e2];exact av _ rfl
 ·have e:b=(s.heap.push { cls:=.type "range",data:=.fields #[.int lo t,.int hi u,.int 1 v] }).objs.size:=by simpa using hb
  subst e;exact I1.fpOk (ak _) (I1.hok.fresh (ak _))
def MG (ta:TA):TI:=λσ H R=>ta σ H λvs H1=>∃j:Int,vs=[.int j]/\-(2 ^ 62)<=j/\j<2 ^ 62/\R (rQ 0 j.toNat) H1
theorem MH {a:bj}{ta:TA}{p pos:Pos}(hg:Gl X "range") (hm:X.mg "range" = none) (ha:PA X [a] ta) (hs:ax [a] X.env=[(false,eval a X.env)]:=by rfl):PI X tg (.Call (.Name "range" p) [a] [] pos) (MG ta):=by
 intro pins s σ H R I h;refine Call_ (oX I hg hm boot_range (mr (aM (ha pos pins s σ H _ I h) λus s1 ⟨vs,H1,I1,r1,q1⟩=>?_) hs rfl));obtain⟨j,e,q1,q2,q⟩:=q1;subst e
 cases r1 with
 |cons r rr=>cases rr;obtain⟨t,rfl⟩:=r;exact call_range_1 (MF I1 (by omega) (by omega) q1 q2 (by simpa using q))
def MI (wi:TI) (g:TG) (tb:TS):TS:=λD σ H=>wi σ H λJ H1=>∃W:Nat->Nat->St->Hp->Prop,(∃m,W 0 m σ H1)/\∀i m σ H,W i m σ H->
 (J.stop i H/\D.nx σ H)∨(J.go i H/\∃N:St->Hp->Prop,(∀σ' H',N σ' H'->∃m',m'<m/\W (i+1) m' σ' H')/\∀x H',J.yld i H x H'->g x σ H' λσ2 H2=>tb { D with nx:=N,ct:=N,bk:=D.nx } σ2 H2)
def hW (fp:List ah) (h:ck):List (ah×Obj):=fp.filterMap λb=>(h.get? b).map λo=>(b,o)
theorem lR {fp:List ah}{h:ck}{b:ah}{o:Obj}(hb:b∈fp) (e:h.get? b=some o):(b,o)∈hW fp h:=kz.mpr ⟨b,hb,by rw[e];rfl⟩
theorem wG {fp:List ah}{h:ck}{p:ah×Obj}(hp:p∈hW fp h):p.1∈fp/\h.get? p.1=some p.2:=by
 obtain⟨b,hb,e⟩:=kz.mp hp
 cases q:h.get? b with
 |none=>rw[q]at e;cases e
 |some o=>rw[q]at e;have e':(b,o)=p:=cq e;subst e';exact⟨hb,q⟩
theorem Inv.pinned {pins:List (ah×Obj)}{σ:St}{H:Hp}{s:af}{fp:List ah}(I:Inv X pins σ H s) (hf:∀b∈fp,bU X pins H b) (ho:∀b∈fp,∃o,s.heap.get? b=some o/\∀v,o.data≠.cell v):Inv X (pins++hW fp s.heap) σ H s:=I.pins_of λp hp=>(fg.mp hp).elim (λz=>I.pin p (br _ z)) λz=>by obtain⟨hb,e⟩:=wG z;obtain⟨f0,f1,f2,_⟩:=hf p.1 hb;obtain⟨o,e',d⟩:=ho p.1 hb;rw[e]at e';cases e';exact⟨e,f0,f1,f2,d⟩
theorem Inv.unpinned {pins pl:List (ah×Obj)}{σ:St}{H:Hp}{s:af}(I:Inv X (pins++pl) σ H s):Inv X pins σ H s:=I.pins_of λp hp=>I.pin p (br _ (nr _ hp))
theorem MJ {iter:bj}{body:List ja}{wi:TI}{g:TG}{tb:TS}{pos:Pos}(hp:uy (model X.prog X.w) X.A X.env X.xe) (hc:X.calm=true) (hi:PI X tg iter wi) (hg:PG X tg g) (hb:Bi X body tb)
  (hs:∀x,foldedSetIterable iter X.env x=pure x:=by intro _;rfl):PS X (.For tg iter body [] pos) (MI wi g tb):=by
 intro pins s σ H D I h;refine wpAny_For (aM (hi pins s σ H _ I h) λv s1 h1=>aM h1 λitv s2 h2=>?_) hs;obtain⟨it,fp,tn,J,H2,e,I2,T,st2,f2,W,⟨m0,w0⟩,turn⟩:=h2;subst e;have stat:∀{H':Hp},(∀b∈fp,H' b=none)->∀b∈fp,bU X pins H' b:=λhn b hb=>⟨hn b hb,(f2 b hb).2⟩
 refine codeAny_forLoop_any (λn s'=>∃i σ' H',Inv X pins σ' H' s'/\tn i s'.heap/\(∀b∈fp,H' b=none)/\W i n σ' H') ?_ m0 ⟨0,σ,H2,I2,st2,λb hb=>(f2 b hb).1,w0⟩
 rintro n s3 ⟨i,σ3,H3,I3,st3,fr3,w3⟩
 rcases turn i n σ3 H3 w3 with⟨stop,qn⟩|⟨go,N,hN,step⟩
 ·refine jx hp (aM (T.done X rfl rfl rfl hc i pins s3 σ3 H3 X.xe I3 (stat fr3) st3 stop) λr s4 ⟨hr,I4⟩=>?_);subst hr;exact ll ⟨σ3,H3,I4,qn⟩
 ·refine jx hp (aM (T.item X rfl rfl rfl hc i pins s3 σ3 H3 X.xe I3 (stat fr3) st3 go) λr s4 ⟨u,hr,h4⟩=>?_);subst hr;refine jx hp (aM h4 λ_ s5 ⟨x,H5,I5,r5,y5,st5,fr5⟩=>?_);have I5':=I5.pinned (stat fr5) (T.obj _ _ st5);refine jx hp (aM (hg _ s5 σ3 H5 x u _ I5' r5 (step x H5 y5)) λ_ s6 ⟨σ6,H6,I6,q6⟩=>?_);refine jx hp (aM (hb _ s6 σ6 H6 _ I6 q6) λf s7 q7=>?_);have again:∀{σ7:St}{H7:Hp},Inv X (pins++hW fp s5.heap) σ7 H7 s7->N σ7 H7->∃m,m<n/\∃i σ' H',Inv X pins σ' H' s7/\tn i s7.heap/\(∀b∈fp,H' b=none)/\W i m σ' H':=λ{σ7 H7} I7 n7=>by obtain⟨m',hm,w7⟩:=hN σ7 H7 n7;refine⟨m',hm,i+1,σ7,H7,I7.unpinned,T.keep _ _ _ st5 λb hb o e=>(I7.pin (b,o) (br _ (br _ (lR hb e)))).1,λb hb=>?_,w7⟩;obtain⟨o,e,d⟩:=T.obj _ _ st5 b hb;exact(I7.pin (b,o) (br _ (br _ (lR hb e)))).2.1
  cases f with
  |next=>obtain⟨σ7,H7,I7,n7⟩:=q7;exact again I7 n7
  |cont=>obtain⟨σ7,H7,I7,n7⟩:=q7;exact again I7 n7
  |brk=>obtain⟨σ7,H7,I7,q7⟩:=q7;exact⟨σ7,H7,I7.unpinned,q7⟩
  |ret v=>obtain⟨x7,σ7,H7,I7,r7,q7⟩:=q7;exact⟨x7,σ7,H7,I7.unpinned,r7,q7⟩
end
abbrev R2:=V->V->Hp->VK->Prop
def zg (X:Cx) (f:ae->ae->Sem ae) (r:R2):Prop:=
 ∀(pins:List (ah×Obj)) (s:af) (σ:St) (H:Hp) (x y:V) (v u:ae) (Q:VK),Inv X pins σ H s->RelV x v->RelV y u->r x y H Q->
  wpAny (model X.prog X.w) X.A (f v u) (EP X pins σ Q) X.xe s
def rR (X:Cx) (f:ae->Sem ae) (r:V->Hp->VK->Prop):Prop:=
 ∀(pins:List (ah×Obj)) (s:af) (σ:St) (H:Hp) (x:V) (v:ae) (Q:VK),Inv X pins σ H s->RelV x v->r x H Q->
  wpAny (model X.prog X.w) X.A (f v) (EP X pins σ Q) X.xe s
def ym (X:Cx) (f:ae) (r:List V->Hp->VK->Prop):Prop:=
 ∀(pins:List (ah×Obj)) (s:af) (σ:St) (H:Hp) (xs:List V) (us:List ae) (Q:VK),Inv X pins σ H s->yg xs us->r xs H Q->
  wpAny (model X.prog X.w) X.A (call f us) (EP X pins σ Q) X.xe s
def MK (X:Cx) (r:V->Hp->(Bool->Hp->Prop)->Prop):Prop:=
 ∀(pins:List (ah×Obj)) (s:af) (σ:St) (H:Hp) (x:V) (v:ae) (Q:Bool->Hp->Prop),Inv X pins σ H s->RelV x v->r x H Q->
  wpAny (model X.prog X.w) X.A (truthy v) (TP X pins σ Q) X.xe s
def oY (r:R2) (ta tb:TE):TE:=λσ H Q=>ta σ H λx H1=>tb σ H1 λy H2=>r x y H2 Q
def ML (r:V->Hp->VK->Prop) (ta:TE):TE:=λσ H Q=>ta σ H λx H1=>r x H1 Q
def rI (C:Int->Int->Prop) (g:Int->Int->V):R2:=λx y H Q=>∃i j,x=.int i/\y=.int j/\C i j/\Q (g i j) H
def iN (g:Int->Int->V):R2:=λx y H Q=>∃i j,x=.int i/\y=.int j/\Q (g i j) H
def rU (g:Int->V):V->Hp->VK->Prop:=λx H Q=>∃i,x=.int i/\Q (g i) H
section
variable{X:Cx}{a b c:bj}{ta tb tc:TE}{pos:Pos}
theorem wH (ha:PE X a ta) (hb:PE X b tb) {pins:List (ah×Obj)}{s:af}{σ:St}{H:Hp}{R:V->V->Hp->Prop}(I:Inv X pins σ H s)
  (h:ta σ H λx H1=>tb σ H1 λy H2=>R x y H2) {Q:ae->af->Prop}{f:ae->ae->Sem ae}
  (hf:∀v u s2 x y H2,Inv X pins σ H2 s2->RelV x v->RelV y u->R x y H2->wpAny (model X.prog X.w) X.A (f v u) Q X.xe s2):
  wpAny (model X.prog X.w) X.A (eval a X.env) (λv s₁=>wpAny (model X.prog X.w) X.A (eval b X.env) (λu s₂=>wpAny (model X.prog X.w) X.A (f v u) Q X.xe s₂) X.xe s₁) X.xe s:=by
 refine aM (ha pins s σ H _ I h) λv s1 ⟨x,H1,I1,r1,q1⟩=>?_;refine aM (hb pins s1 σ H1 _ I1 q1) λu s2 ⟨y,H2,I2,r2,q2⟩=>?_;exact hf v u s2 x y H2 I2 r1 r2 q2
theorem MM {op:Operator}{r:R2}(ho:zg X (binaryOp op) r) (ha:PE X a ta) (hb:PE X b tb):PE X (.BinOp a op b pos) (oY r ta tb):=by intro pins s σ H Q I h;exact wpAny_BinOp (wH ha hb I h λv u s2 x y H2 I2 rx ry q=>ho pins s2 σ H2 x y v u Q I2 rx ry q)
theorem MN {op:UnaryOp}{r:V->Hp->VK->Prop}(ho:rR X (unaryOp op) r) (ha:PE X a ta):PE X (.UnaryOp op a pos) (ML r ta):=by intro pins s σ H Q I h;exact UnaryOp_ (aM (ha pins s σ H _ I h) λv s1 ⟨x,H1,I1,r1,q1⟩=>ho pins s1 σ H1 x v Q I1 r1 q1)
theorem rS {f:ae->ae->Sem ae}{C:Int->Int->Prop}{g:Int->Int->Int}
  (rule:∀(i j:Int) (t u:Tok) (s:af) (Q:ae->af->Prop) (E:ae->af->Prop),C i j->Q (.int (g i j) s.toks) { s with toks:=s.toks+1 }->wpAny (model X.prog X.w) X.A (f (.int i t) (.int j u)) Q E s):
  zg X f (rI C λi j=>.int (g i j)):=by
 intro pins s σ H x y v u Q I rx ry h;obtain⟨i,j,rfl,rfl,hc,q⟩:=h;obtain⟨t,rfl⟩:=rx;obtain⟨t',rfl⟩:=ry;exact rule i j t t' s _ _ hc ⟨.int (g i j),H,I.tok _,⟨_,rfl⟩,q⟩
theorem BN {f:ae->ae->Sem ae}{g:Int->Int->Int}
  (rule:∀(i j:Int) (t u:Tok) (s:af) (Q:ae->af->Prop) (E:ae->af->Prop),Q (.int (g i j) s.toks) { s with toks:=s.toks+1 }->wpAny (model X.prog X.w) X.A (f (.int i t) (.int j u)) Q E s):
  zg X f (iN λi j=>.int (g i j)):=by
 intro pins s σ H x y v u Q I rx ry h;obtain⟨i,j,rfl,rfl,q⟩:=h;obtain⟨t,rfl⟩:=rx;obtain⟨t',rfl⟩:=ry;exact rule i j t t' s _ _ ⟨.int (g i j),H,I.tok _,⟨_,rfl⟩,q⟩
theorem wI {f:ae->ae->Sem ae}{g:Int->Int->Bool}
  (rule:∀(i j:Int) (t u:Tok) (s:af) (Q:ae->af->Prop) (E:ae->af->Prop),Q (.bool (g i j)) s->wpAny (model X.prog X.w) X.A (f (.int i t) (.int j u)) Q E s):
  zg X f (iN λi j=>.bl (g i j)):=by
 intro pins s σ H x y v u Q I rx ry h;obtain⟨i,j,rfl,rfl,q⟩:=h;obtain⟨t,rfl⟩:=rx;obtain⟨t',rfl⟩:=ry;exact rule i j t t' s _ _ ⟨.bl (g i j),H,I,rfl,q⟩
def wJ (i j:Int):Prop:=0<=j/\j<=1000000/\i.natAbs<2 ^ 64
def CMul (i j:Int):Prop:=(-(2 ^ 64)<i/\i<2 ^ 64)∨(-(2 ^ 64)<j/\j<2 ^ 64)
theorem CMul.ok {i j:Int}(h:CMul i j):IntMulOk i j:=by
 rcases h with⟨h1,h2⟩|⟨h1,h2⟩
 ·exact .of_left (intBits_le_64 h1 h2)
 ·exact .of_right (intBits_le_64 h1 h2)
theorem op_add:zg X (binaryOp .Add) (iN λi j=>.int (i+j)):=BN λ_ _ _ _ _ _ _ q=>add_int q
theorem MP:zg X (binaryOp .Sub) (iN λi j=>.int (i - j)):=BN λ_ _ _ _ _ _ _ q=>sub_int q
theorem MQ:zg X (binaryOp .Mult) (rI CMul λi j=>.int (i*j)):=rS λ_ _ _ _ _ _ _ hc q=>mul_int q hc.ok
theorem MR:zg X (binaryOp .Mod) (rI (λ_ j=>0<j) λi j=>.int (i % j)):=rS λi j _ _ _ _ _ hc q=>by have h1:(0:Int)<j:=hc;exact mod_int' (by omega) (by rw[Int.fmod_eq_emod_of_nonneg i (by omega)];exact q)
theorem MT:zg X (binaryOp .Pow) (rI wJ λi j=>.int (i ^ j.toNat)):=rS λ_ _ _ _ _ _ _ hc q=>pow_int_small hc.1 hc.2.1 hc.2.2 q
theorem MU {f:ae->Sem ae}{g:Int->Int}
  (rule:∀(i:Int) (t:Tok) (s:af) (Q:ae->af->Prop) (E:ae->af->Prop),Q (.int (g i) s.toks) { s with toks:=s.toks+1 }->wpAny (model X.prog X.w) X.A (f (.int i t)) Q E s):
  rR X f (rU λi=>.int (g i)):=by
 intro pins s σ H x v Q I rx h;obtain⟨i,rfl,q⟩:=h;obtain⟨t,rfl⟩:=rx;exact rule i t s _ _ ⟨.int (g i),H,I.tok _,⟨_,rfl⟩,q⟩
theorem MV:rR X (unaryOp .USub) (rU λi=>.int (-i)):=MU λ_ _ _ _ _ q=>neg_int q
end
section
variable{X:Cx}{a b c:bj}{ta tb tc:TE}{pos:Pos}
theorem MW:zg X (compareOp .Lt) (iN λi j=>.bl (decide (i<j))):=wI λ_ _ _ _ _ _ _ q=>lt_int q
theorem BO:zg X (compareOp .LtE) (iN λi j=>.bl (decide (i<=j))):=wI λ_ _ _ _ _ _ _ q=>le_int q
theorem MX:zg X (compareOp .GtE) (iN λi j=>.bl (decide (j<=i))):=wI λ_ _ _ _ _ _ _ q=>ge_int q
theorem zg.or {f:ae->ae->Sem ae}{r r':R2}(h:zg X f r) (h':zg X f r'):zg X f (λx y H Q=>r x y H Q∨r' x y H Q):=by
 intro pins s σ H x y v u Q I rx ry q
 rcases q with q|q
 ·exact h pins s σ H x y v u Q I rx ry q
 ·exact h' pins s σ H x y v u Q I rx ry q
theorem oZ (b:bj) {op:CmpOp}(h:op≠.In:=by decide) (h2:op≠.NotIn:=by decide):behindInMarks op b=false:=by
 have e1:(op==CmpOp.In)=false:=by cases op <;> first|rfl|exact absurd rfl h
 have e2:(op==CmpOp.NotIn)=false:=by cases op <;> first|rfl|exact absurd rfl h2
 cases b <;> simp[behindInMarks,e1,e2]
theorem MY {op:CmpOp}{r:R2}(ho:zg X (compareOp op) r) (ha:PE X a ta) (hb:PE X b tb) (hm:behindInMarks op b=false):PE X (.Compare a [op] [b] pos) (oY r ta tb):=by intro pins s σ H Q I h;exact wpAny_Compare1 (wH ha hb I h λv u s2 x y H2 I2 rx ry q=>ho pins s2 σ H2 x y v u Q I2 rx ry q) hm
def MZ (t:TE):TT:=λσ H Q=>t σ H λx H'=>∃k,x=.bl k/\Q k H'
theorem M1 {op:CmpOp}{r:R2}(ho:zg X (compareOp op) r) (ha:PE X a ta) (hb:PE X b tb) (hm:behindInMarks op b=false):PT X (.Compare a [op] [b] pos) (MZ (oY r ta tb)):=by intro pins s σ H Q I h;refine wpAny_isTrue_Compare1 (aM (ha pins s σ H _ I h) λv s1 ⟨x,H1,I1,r1,q1⟩=>aM (hb pins s1 σ H1 _ I1 q1) λu s2 ⟨y,H2,I2,r2,q2⟩=>aM (ho pins s2 σ H2 x y v u _ I2 r1 r2 q2) λc s3 ⟨z,H3,I3,r3,k,e,q3⟩=>?_) hm;subst e;cases r3;exact kj ⟨H3,I3,q3⟩
def BP (r r':R2) (ta tb tc:TE):TE:=λσ H Q=>ta σ H λx H1=>tb σ H1 λy H2=>r x y H2 λz H3=>∃k,z=.bl k /\
 (if k=true then tc σ H3 λw' H4=>r' y w' H4 Q else Q (.bl false) H3)
theorem M3 {op op':CmpOp}{r r':R2}(ho:zg X (compareOp op) r) (Ba:zg X (compareOp op') r') (ha:PE X a ta) (hb:PE X b tb) (hc:PE X c tc)
  (hm:lastMarks [op,op'] [b,c]=false:=by with_unfolding_all rfl):PE X (.Compare a [op,op'] [b,c] pos) (BP r r' ta tb tc):=by
 intro pins s σ H Q I h;refine Compare_chain (aM (ha pins s σ H _ I h) λv s1 ⟨x,H1,I1,r1,q1⟩=>chain_link (aM (hb pins s1 σ H1 _ I1 q1) λu s2 ⟨y,H2,I2,r2,q2⟩=>aM (ho pins s2 σ H2 x y v u _ I2 r1 r2 q2) λd s3 ⟨z,H3,I3,r3,k,e,q3⟩=>?_)) hm;subst e;cases r3;refine kj ?_
 cases k with
 |false=>exact ite_ff ⟨.bl false,H3,I3,rfl,q3⟩
 |true=>exact ite_tt (chain_last (aM (hc pins s3 σ H3 _ I3 q3) λw' s4 ⟨z',H4,I4,r4,q4⟩=>Ba pins s4 σ H4 y z' u w' Q I4 r2 r4 q4))
def BQ (K:ar) (x:V) (H:Hp) (k:Bool):Prop:=
 match x with
 | .non=>k=false
 | .bl b=>k=b
 | .int i=>k=(i != 0)
 | .str y=>y.length<=bo/\k=((y.length:Int) != 0)
 | .byt y=>y.size<=bo/\k=((y.size:Int) != 0)
 | .ref p=>(∃xs,y9 K H p xs/\k=!xs.isEmpty)∨(∃xs,yt K H p xs/\k=!xs.isEmpty)∨∃kvs,H p=some (.dK kvs)/\k=!kvs.isEmpty
 |_=>False
theorem M4 {κ:Type}{kvs:List (κ×V)}{vs:List (κ×ae)}(r:KV kvs vs):(!vs.isEmpty)=!kvs.isEmpty:=by cases r <;> rfl
theorem BR {xs:List V}{its:List ae}(r:yg xs its):(!its.toArray.isEmpty)=!xs.isEmpty:=by cases r <;> simp
theorem nA:(bo:Nat)<2 ^ 63:=by rw[gr];decide
theorem M5:MK X (λx H Q=>∃k,BQ X.K x H k/\Q k H):=by
 intro pins s σ H x v Q I rx h;obtain⟨k,e,q⟩:=h;have hl:=nA;have hs:bo=16777216:=gr
 cases x with
 |non=>cases rx;have e':k=false:=e;subst e';exact truthy_none ⟨H,I,q⟩
 |bl b=>cases rx;have e':k=b:=e;subst e';exact kj ⟨H,I,q⟩
 |int i=>obtain⟨t,rfl⟩:=rx;have e':k=(i != 0):=e;subst e';exact PySem.P.truthy_int ⟨H,I,q⟩
 |str y=>obtain⟨t,rfl⟩:=rx;obtain⟨hy,e'⟩:y.length<=bo/\k=((y.length:Int) != 0):=e;subst e';exact PySem.P.truthy_str (by omega) ⟨H,I.tok _,q⟩
 |byt y=>obtain⟨t,rfl⟩:=rx;obtain⟨hy,e'⟩:y.size<=bo/\k=((y.size:Int) != 0):=e;subst e';exact PySem.W.truthy_bytes (by omega) ⟨H,I.tok _,q⟩
 |ref p=>
  cases rx;have e':(∃xs,y9 X.K H p xs/\k=!xs.isEmpty)∨(∃xs,yt X.K H p xs/\k=!xs.isEmpty)∨∃kvs,H p=some (.dK kvs)/\k=!kvs.isEmpty:=e
  rcases e' with⟨xs,hx,e'⟩|⟨xs,hx,e'⟩|⟨kvs,hx,e'⟩
  ·subst e';obtain⟨its,r,pl,hz⟩:=I.list hx;have hlen:=r.length;exact wpAny_truthy_list pl.isList (by simp only[au];omega) ⟨H,I.tok _,by rw[BR r];exact q⟩
  ·subst e';obtain⟨its,r,pl,hz⟩:=I.tuple hx;have hlen:=r.length;exact truthy_tuple pl (by simp only[au];omega) ⟨H,I.tok _,by rw[BR r];exact q⟩
  ·subst e';obtain⟨hz,hS,vs,r,m⟩:kvs.length<=bo/\(p==sysModules)=false/\∃vs,KV kvs vs/\s.heap.DictOf (jG X.prog X.w) p vs:=I.hok p _ hx;have hlen:kvs.length=vs.length:=Paired.length r;exact wpAny_truthy_dict hS m (by omega) ⟨H,I.tok _,by rw[M4 r];exact q⟩
 |_=>exact(show False from e).elim
theorem M6 (ha:PE X a ta) (he:∀whole,isTrue a X.env whole=(do let v <-whole;standAt a.pos;holding [v] (truthy v))):
  PT X a (λσ H Q=>ta σ H λx H'=>∃k,BQ X.K x H' k/\Q k H'):=by
 intro pins s σ H Q I h;exact isTrue_plain (aM (ha pins s σ H _ I h) λv s1 ⟨x,H1,I1,r1,q1⟩=>M5 pins s1 σ H1 x v Q I1 r1 q1) (he _)
theorem gR {x:V}{us:List ae}(r:yg [x] us):∃u,us=[u]/\RelV x u:=by
 cases r with
 |cons r1 r2=>cases r2;exact⟨_,rfl,r1⟩
theorem pA {x y:V}{us:List ae}(r:yg [x,y] us):∃u w',us=[u,w']/\RelV x u/\RelV y w':=by
 cases r with
 |cons r1 r2=>
  cases r2 with
  |cons r3 r4=>cases r4;exact⟨_,_,rfl,r1,r3⟩
theorem M7 (hc:X.calm=true):ym X (.builtin "max") (λxs H Q=>∃i j,xs=[.int i,.int j]/\Q (.int (if j>i then j else i)) H):=by
 intro pins s σ H xs us Q I r h;obtain⟨i,j,rfl,q⟩:=h;obtain⟨u,w',rfl,⟨t,rfl⟩,⟨t',rfl⟩⟩:=pA r;refine max_two_ints (I.ok.hd hc) λh' tk k=>⟨_,H,I.kept k, ?_,q⟩
 by_cases hj:j>i
 ·rw[if_pos hj,if_pos hj];exact⟨_,rfl⟩
 ·rw[if_neg hj,if_neg hj];exact⟨_,rfl⟩
theorem M8 (hc:X.calm=true):ym X (.builtin "min") (λxs H Q=>∃i j,xs=[.int i,.int j]/\Q (.int (if j<i then j else i)) H):=by
 intro pins s σ H xs us Q I r h;obtain⟨i,j,rfl,q⟩:=h;obtain⟨u,w',rfl,⟨t,rfl⟩,⟨t',rfl⟩⟩:=pA r;refine min_two_ints (I.ok.hd hc) λh' tk k=>⟨_,H,I.kept k, ?_,q⟩
 by_cases hj:j<i
 ·rw[if_pos hj,if_pos hj];exact⟨_,rfl⟩
 ·rw[if_neg hj,if_neg hj];exact⟨_,rfl⟩
end
structure yv (k:Nat) (A:bp):Prop where
 hd:A.handled=none
 dp:A.depth+3*k+5<recursionLimit
 un:A.units+16*k+200<cLine
theorem yv.mono {j k:Nat}{A:bp}(r:yv k A) (h:j<=k):yv j A:=⟨r.hd,by have:=r.dp;omega,by have:=r.un;omega⟩
theorem yv.deeper {k:Nat}{A:bp}(r:yv (k+1) A) (env:Env):yv k (A.deeper env):=⟨r.hd,by have:=r.dp;show A.depth+1+3*k+5<_;omega,by have:=r.un;show A.units+3+16*k+200<_;omega⟩
theorem yv.depth {k:Nat}{A:bp}(r:yv k A):A.depth<recursionLimit:=by have:=r.dp;omega
theorem yv.units {k:Nat}{A:bp}(r:yv k A):A.units+64<cLine:=by have:=r.un;omega
def BS:TA:=λ_ H Q=>Q [] H
def BU (ta:TE) (tr:TA):TA:=λσ H Q=>ta σ H λx H1=>tr σ H1 λxs H2=>Q (x::xs) H2
section
variable{X:Cx}{e:bj}{es:List bj}{te:TE}{t:TA}{pos:Pos}
theorem gS:PA X [] BS:=λ_ _ _ _ H Q I h=>Calls.spliced_nil ⟨[],H,I,.nil,h⟩
theorem eS (ha:PE X e te) (hr:PA X es t) (hs:ax (e::es) X.env=(false,eval e X.env)::ax es X.env:=by rfl):PA X (e::es) (BU te t):=by intro pos pins s σ H Q I h;rw[hs];show wpAny _ _ (spliced ((false,eval e X.env)::backTo pos (ax es X.env))) _ _ s;refine Calls.spliced_cons (aM (ha pins s σ H _ I h) λu s1 ⟨x,H1,I1,r1,q1⟩=>?_);exact aM (hr pos pins s1 σ H1 _ I1 q1) λus s2 ⟨xs,H2,I2,r2,q2⟩=>⟨x::xs,H2,I2,.cons r1 r2,q2⟩
def M9 (t:TA):TE:=λσ H Q=>t σ H λxs H1=>xs.length<=bo/\∀p,H1 p=none->Q (.ref p) (aJ H1 p (.tup xs))
def NA (t:TA):TE:=λσ H Q=>t σ H λxs H1=>xs.length<=bo/\∀p,H1 p=none->Q (.ref p) (aJ H1 p (.lst xs))
theorem BV {x1} (h:PA X es t):PE X (.Tuple es x1 pos) (M9 t):=by intro pins s σ H Q I hq;refine wpAny_Tuple_spliced (aM (h pos pins s σ H _ I hq) λus s1 ⟨xs,H1,I1,r,z,q⟩=>⟨by rw[<-r.length];exact z, ?_⟩);have hf:H1 s1.heap.objs.size=none:=I1.hok.fresh (ak _);refine⟨.ref s1.heap.objs.size,aJ H1 s1.heap.objs.size (.tup xs),I1.laid (t':=s1.toks) (λb u e=>aj _ e) (ak _) ?_,rfl,q _ hf⟩;exact⟨z,us,r,⟨_,av _ rfl,rfl,rfl,_,rfl⟩⟩
theorem NB (h:PA X es t):PE X (.List es pos) (NA t):=by intro pins s σ H Q I hq;refine wpAny_List_spliced (aM (h pos pins s σ H _ I hq) λus s1 ⟨xs,H1,I1,r,z,q⟩=>⟨by rw[<-r.length];exact z, ?_⟩);have hf:H1 s1.heap.objs.size=none:=I1.hok.fresh (ak _);refine⟨.ref s1.heap.objs.size,aJ H1 s1.heap.objs.size (.lst xs),I1.laid (t':=s1.toks) (λb u e=>aj _ e) (ak _) ?_,rfl,q _ hf⟩;exact⟨z,us,0,r,av _ rfl⟩
end
abbrev Sp:=List V->Hp->VK->XK->Prop
abbrev kB:=List Env->Hp->af->XK->ae->af->Prop
structure Bj (P:bg) (w:cf) (K:ar) (mg:Str->Option ae) (base:ck) (A:bp) (outer:List Env) (s:af) (H:Hp):Prop where
 frames:A.frames=some outer
 mod:Mod K mg base
 bs:∀b o,base.get? b=some o->s.heap.get? b=some o/\H b=none
 bsz:base.objs.size<=s.heap.objs.size
 funs:s.heap.FunFrames base outer
 frf:∀b∈cG outer,H b=none
 hok:zd P w H s.heap
 bare:qc s.gens
def CE (outer:List Env) (P:bg) (w:cf) (H:Hp) (s:af) (Q:VK) (u:ae) (s':af):Prop:=∃v H',s'.os=s.os/\qc s'.gens/\Un (cG outer) [] H H' s.heap s'.heap/\zd P w H' s'.heap/\RelV v u/\Q v H'
def CR (CX:kB) (outer:List Env) (P:bg) (w:cf) (H:Hp) (s:af) (Q:VK) (E:XK) (r:u6) (s':af):Prop:=
 match r with
 | .ok (.ret u)=>CE outer P w H s Q u s'
 | .ok _=>False
 | .error e=>CX outer H s E e s'
structure yu (P:bg) (w:cf) (K:ar) (mg:Str->Option ae) (base:ck) (CX:kB) (k:Nat) (f:ah) (fd:cg) (ps:xw) (sp:Sp):Prop where
 len:∀vs H Q E,sp vs H Q E->vs.length=ps.length
 run:∀(A:bp) (outer:List Env) (s:af) (H:Hp) (args:Args) (us:List ae) (vs:List V) (Q:VK) (E:XK),yv k A->Bj P w K mg base A outer s H->vn s fd args (ps.zip us)->yg vs us->sp vs H Q E->
  codeAny (model P w) A (.call (.ref f) args) (CR CX outer P w H s Q E) s
section
variable{X:Cx}{pins:List (ah×Obj)}{σ:St}{H:Hp}{s s':af}
theorem Inv.env0 (I:Inv X pins σ H s):Bj X.prog X.w X.K X.mg X.base X.A X.stack s H:=⟨I.ok.frames,I.ok.mod,I.bs,da I.ok.bsz I.sz,I.stack,I.stkFree,I.hok,I.bare⟩
theorem Inv.after {Q:VK}{u:ae}(I:Inv X pins σ H s) (h:CE X.stack X.prog X.w H s Q u s'):EP X pins σ Q u s':=by obtain⟨v,H',os,bare,un,hok,r,q⟩:=h;obtain⟨hh,g,d,t,os'⟩:=s';obtain rfl:os'=s.os:=os;exact⟨v,H',I.call (h':=hh) (g':=g) (d':=d) (t':=t) (ch:=[]) un hok bare (λb z=>absurd z (by simp)),r,q⟩
end
def NC (sp:Sp) (dvs:List V) (E:XK) (t:TA):TE:=λσ H Q=>t σ H λvs H1=>sp (vs++dvs) H1 Q E
def Binds (K:ar) (fd:cg) (ps:xw) (ds:List ae):Prop:=∀(s:af) (us:List ae),K.In s.heap->(us++ds).length=ps.length->vn s fd ⟨us,[]⟩ (ps.zip (us++ds))
theorem Binds.all {K:ar}{fd:cg}{ps:xw}(h:∀us:List ae,us.length=ps.length->bindArgs fd ⟨us,[]⟩=pure (ps.zip us)):Binds K fd ps []:=λs us _ hl=>by rw[kr]at hl ⊢;exact .of_eq (h us hl)
def wK (CX:kB) (X:Cx) (E:XK):Prop:=∀(pins:List (ah×Obj)) (σ:St) (H:Hp) (s:af) (e:ae) (s':af),Inv X pins σ H s->CX X.stack H s E e s'->X.xe e s'
section
variable{X:Cx}{CX:kB}{k:Nat}{f C:ah}{fd:cg}{ps:xw}{sp:Sp}{dvs:List V}{ds:List ae}{E:XK}{x m:Str}{p pos apos:Pos}{e o:bj}{es:List bj}{ta:TE}{t:TA}
theorem ND {pins:List (ah×Obj)}{σ:St}{H:Hp}{s:af}{Q:VK}{us:List ae}{vs:List V}(F:yu X.prog X.w X.K X.mg X.base CX k f fd ps sp) (hr:yv k X.A) (hb:Binds X.K fd ps ds) (hd:yg dvs ds) (hx:wK CX X E)
  (I:Inv X pins σ H s) (r:yg vs us) (h:sp (vs++dvs) H Q E):wpAny (model X.prog X.w) X.A (call (.ref f) us) (EP X pins σ Q) X.xe s:=by
 have r2:yg (vs++dvs) (us++ds):=r.append hd;have hl:(us++ds).length=ps.length:=by rw[<-r2.length];exact F.len _ _ _ _ h
 refine wb (nc (F.run X.A X.stack s H ⟨us,[]⟩ (us++ds) (vs++dvs) Q E hr I.env0 (hb s us I.kIn hl) r2 h) λr s' hq=>?_)
 cases r with
 |error e=>exact hx pins σ H s e s' I hq
 |ok fl=>
  cases fl with
  |ret u=>exact I.after hq
  |next=>exact gk hq
  |brk=>exact gk hq
  |cont=>exact gk hq
theorem NF (F:yu X.prog X.w X.K X.mg X.base CX k f fd ps sp) (hr:yv k X.A) (hg:Gl X x) (hm:X.mg x=some (.ref f)) (hk:jt X.K (.ref f)=true) (hb:Binds X.K fd ps ds) (hd:yg dvs ds) (hx:wK CX X E)
  (ha:PA X (e::es) t) (Ao:(x==("__debug__" : Str))=false:=by decide) (he:ax (e::es) X.env=(false,eval e X.env)::ax es X.env:=by rfl) (zh:(backTo pos (ax es X.env)).any (·.1)=false:=by rfl):
  PE X (.Call (.Name x p) (e::es) [] pos) (NC sp dvs E t):=by
 intro pins s σ H Q I h;refine mn (oW I hg hm ?_ Ao);refine wc (h₀:=X.base) I.ok.mod.kin hk (aM (ha pos pins s σ H _ I h) λus s1 ⟨vs,H1,I1,r,q⟩=>⟨I1.kIn, ?_⟩) he zh;exact ND F hr hb hd hx I1 r q
end
structure yh (N P:xw) (sc:gn):Prop where
 kind:sc.kind=.function
 co:sc.isCoroutine=false
 gen:sc.isGenerator=false
 nd:N.Nodup
 pre:N.take P.length=P
 par:∀x∈P,sc.names.lookup x=some .local∨sc.names.lookup x=some .cell
 nofree:∀y∈sc.names,y.2≠.free
theorem BW {kindOf:Str->Option jm}{x:Str}:∀{binds:List (Str×ae)}{m:Str->Option ae},(∀v,(x,v)∉binds)->bindL kindOf binds m x=m x
 | [],_,_=>rfl
 |(n,v)::r,m,h=>by
  unfold bindL;rw[BW λw hw=>h w (az _ hw)]
  split
  ·have:x≠n:=by rintro rfl;exact h v bc
   simp[this]
  ·rfl
theorem BX {kindOf:Str->Option jm}{x:Str}:∀{binds:List (Str×ae)}{m:Str->Option ae},(∀v,(x,v)∉binds)->bindC kindOf binds m x=m x
 | [],_,_=>rfl
 |(n,v)::r,m,h=>by
  unfold bindC;rw[BX λw hw=>h w (az _ hw)]
  split
  ·rfl
  ·have:x≠n:=by rintro rfl;exact h v bc
   simp[this]
theorem BY {kindOf:Str->Option jm}{x:Str}{v:ae}:∀{P:xw}{vs:List ae}{i:Nat}{m:Str->Option ae},P.Nodup->P[i]?=some x->vs[i]?=some v->kindOf x=some .local->
  bindL kindOf (P.zip vs) m x=some v
 | [],_,_,_,_,h,_,_=>by simp at h
 |_::_,[],_,_,_,_,h,_=>by simp at h
 |p::P,w::vs,0,m,nd,h1,h2,hk=>by simp at h1 h2;subst h1;subst h2;show bindL kindOf ((p,w)::P.zip vs) m p=_;unfold bindL;rw[BW λv hv=>(jo.mp nd).1 (ud hv).1,if_pos hk];simp
 |p::P,w::vs,i+1,m,nd,h1,h2,hk=>by show bindL kindOf ((p,w)::P.zip vs) m x=_;unfold bindL;exact BY (i:=i) (jo.mp nd).2 (by simpa using h1) (by simpa using h2) hk
theorem BZ {kindOf:Str->Option jm}{x:Str}{v:ae}:∀{P:xw}{vs:List ae}{i:Nat}{m:Str->Option ae},P.Nodup->P[i]?=some x->vs[i]?=some v->kindOf x≠some .local->
  bindC kindOf (P.zip vs) m x=some v
 | [],_,_,_,_,h,_,_=>by simp at h
 |_::_,[],_,_,_,_,h,_=>by simp at h
 |p::P,w::vs,0,m,nd,h1,h2,hk=>by simp at h1 h2;subst h1;subst h2;show bindC kindOf ((p,w)::P.zip vs) m p=_;unfold bindC;rw[BX λv hv=>(jo.mp nd).1 (ud hv).1,if_neg hk];simp
 |p::P,w::vs,i+1,m,nd,h1,h2,hk=>by show bindC kindOf ((p,w)::P.zip vs) m x=_;unfold bindC;exact BZ (i:=i) (jo.mp nd).2 (by simpa using h1) (by simpa using h2) hk
def start (N:xw) (vs:List V):St:=vs.map some++gw (N.length - vs.length) none
def eU (CX:kB) (P:bg) (w:cf) (K:ar) (mg:Str->Option ae) (base:ck) (N:xw) (qual:Str) (scope:gn) (f:ah) (cd:ae) (A:bp) (outer:List Env) (s:af) (H:Hp) (E:XK):Cx where
 prog:=P
 w:=w
 K:=K
 mg:=mg
 base:=base
 A:=A.deeper (envOfC qual scope s.heap.objs.size f cd)
 N:=N
 s₀:=s
 H₀:=H
 env:=envOfC qual scope s.heap.objs.size f cd
 outer:=outer
 stack:=envOfC qual scope s.heap.objs.size f cd::outer
 ex:=[]
 calm:=true
 fn:=λ_=>true
 pn:=[]
 xe:=λe s'=>wpAny (model P w) (A.deeper (envOfC qual scope s.heap.objs.size f cd)) (leaving (envOfC qual scope s.heap.objs.size f cd) e) (λ_ s''=>CX outer H s E e s'') (λe' s''=>CX outer H s E e' s'') s'
theorem CA {sc:gn}{n:Nat}{x:Str}(h:sc.names.lookup x=some .cell):∃c,(cellsFrom n sc.names []).lookup x=some c:=by have q:=uz sc.names n [] (.inl h);exact ur.mp q
theorem NG {CX:kB}{P:bg}{w:cf}{K:ar}{mg:Str->Option ae}{base:ck}{N ps:xw}{qual:Str}{scope:gn}{f:ah}{cd:ae}{A:bp}{outer:List Env}{s s1:af}{H:Hp}{E:XK}{us:List ae}{vs:List V}
  (S:yh N ps scope) (hd:A.handled=none) (e0:Bj P w K mg base A outer s H) (hl:vs.length=ps.length) (r:yg vs us)
  (x:InCallC s s.heap.objs.size (bindL (envOfC qual scope s.heap.objs.size f cd).kindOf (ps.zip us) λ_=>none) (cellsFrom (s.heap.objs.size+1) scope.names []) (bindC (envOfC qual scope s.heap.objs.size f cd).kindOf (ps.zip us) λ_=>none) s1):
  Inv (eU CX P w K mg base N qual scope f cd A outer s H E) [] (start N vs) H s1:=by
 have zh:ps.length<=N.length:=by have:=congrArg qr S.pre;rw[jc]at this;omega
 obtain⟨h1,tk,rfl,hk⟩:=x.done;have noA:∀b:ah,b∉(eU CX P w K mg base N qual scope f cd A outer s H E).ex:=λb z=>absurd (show b∈([]:List ah) from z) (by simp);refine⟨⟨e0.mod,S.kind,rfl,rfl,ak _,λy z c h1 h2=>?_,λy hy=>?_,λy c _ h=>?_,λ_=>hd,vp e0.frames,.inr ⟨rfl,rfl⟩,λb z=>absurd z (noA b),e0.bs,e0.bsz,λb _ _=>noA b,λb z=>absurd z (noA b),e0.funs,e0.frf⟩,
  rfl,e0.bare,Un.kept hk,⟨_,x.toInCall.ns,λi y v h1 h2 h3=>?_⟩,λy c h=>⟨_,x.cell y c h⟩,e0.hok.fresh (ak _),λy c h=>?_,λp hp=>absurd (show p∈([]:List (ah×Obj)) from hp) (by simp),e0.hok.kept hk, ?_⟩
 ·exact name_of_addr x.apart (ff h1) (ff h2)
 ·have hy:scope.names.lookup y=some .cell∨scope.names.lookup y=some .free:=hy
  rcases hy with hy|hy
  ·exact CA hy
  ·exact absurd rfl (S.nofree _ (ff hy))
 ·exact fv (x.above y c (ff h))
 ·have hi:i<vs.length:=by
   unfold start at h2
   by_cases hi:i<vs.length
   ·exact hi
   ·rw[fh (by simpa using hi)]at h2;rw[pj]at h2
    split at h2 <;> cases h2
  have ha:vs[i]?=some v:=by
   unfold start at h2;rw[dk (by simpa using hi),dz]at h2
   cases e:vs[i]? with
   |none=>rw[e]at h2;cases h2
   |some a=>rw[e]at h2;cases h2;rfl
  obtain⟨u,hu,rv⟩:=r.get ha;have hp:ps[i]?=some y:=by rw[<-S.pre,vc (by omega)];exact h1
  have ndP:ps.Nodup:=by rw[<-S.pre];exact S.nd.sublist (List.take_sublist _ _)
  refine⟨u,rv, ?_⟩
  rcases S.par y (cm hp)with k|k
  ·exact .inl ⟨k,BY ndP hp hu k⟩
  ·obtain⟨c,e⟩:=CA (n:=s.heap.objs.size+1) k;refine .inr ⟨.inl k,c,e, ?_⟩;have q:=x.cell y c e;rw[BZ ndP hp hu (by show scope.names.lookup y≠_;rw[k];decide)]at q;exact q
 ·exact e0.hok.fresh (fv (x.above y c (ff h)))
 ·unfold start;show _=N.length;rw[de,bf,List.length_replicate];omega
theorem wL {CX:kB}{P:bg}{w:cf}{K:ar}{mg:Str->Option ae}{base:ck}{k:Nat}{f:ah}{name qual:Str}{params:ka}{body:List ja}{scope:gn}{dV kV doc pm cdv ct oc:ae}{an od:Option ah}
  {osl:Array (Option ae)}{N ps:xw}{sp:Sp}(lk:K.lookup f=some ⟨oc,od,.func (nu name qual params body scope dV kV doc pm an cdv ct),osl⟩) (hcd:u7 K cdv qual=true) (S:yh N ps scope)
  (len:∀vs H Q E,sp vs H Q E->vs.length=ps.length)
  (y8:∀(A:bp) (outer:List Env) (s:af) (H:Hp) (vs:List V) (Q:VK) (E:XK),yv k (A.deeper (envOfC qual scope s.heap.objs.size f cdv))->sp vs H Q E->
   ∃t,Bi (eU CX P w K mg base N qual scope f cdv A outer s H E) body t/\t { nx:=λ_ H'=>Q .non H',rt:=Q } (start N vs) H):
  yu P w K mg base CX (k+1) f (nu name qual params body scope dV kV doc pm an cdv ct) ps sp:=by
 refine⟨len,λA outer s H args us vs Q E hr e0 hb r hsp=>?_⟩;have hl:=len _ _ _ _ hsp;have KX:K.In s.heap:=e0.mod.kin.keeps λb o e=>(e0.bs b o e).1;have lim:s.heap.NoLimit:=e0.mod.nolimit.keeps λb o e=>(e0.bs b o e).1;have Aj:∀y∈ps.zip us,scope.names.lookup y.1=some .local∨(scope.names.lookup y.1=some .cell/\((cellsFrom (s.heap.objs.size+1) scope.names []).lookup y.1).isSome=true):=λ⟨n,v⟩ hy=>by
  rcases S.par n (ud hy).1 with q|q
  ·exact .inl q
  ·exact .inr ⟨q,uz _ _ _ (.inl q)⟩
 refine codeAny_call_function hr.depth (KX _ _ lk) rfl S.co S.gen rfl (PySem.W.codeRec_of KX hcd) (hb _ _ _ _ ?_);refine wpAny_newFunctionEnv_cells S.kind Aj λenv he s1 x=>?_;subst he;refine⟨lim.keeps x.toInCall.keep,codeAny_func ?_⟩;obtain⟨t,ht,hq⟩:=y8 A outer s H vs Q E (hr.deeper _) hsp;have I:Inv (eU CX P w K mg base N qual scope f cdv A outer s H E) [] (start N vs) H s1:=NG S hr.hd e0 hl r x;refine je (ht [] s1 (start N vs) H _ I hq) (λfl s' hs=>?_) λe s' hs=>hs;have fin:∀{σ':St}{H':Hp}{v:V}{u:ae},Inv (eU CX P w K mg base N qual scope f cdv A outer s H E) [] σ' H' s'->RelV v u->Q v H'->CE outer P w H s Q u s':=λ{σ' H' v u} J rv q=>⟨v,H',J.os,J.bare,J.base,J.hok,rv,q⟩
 cases fl with
 |ret u=>obtain⟨v,σ',H',J,rv,q⟩:=hs;exact fin J rv q
 |next=>obtain⟨σ',H',J,q⟩:=hs;exact fin (v:=V.non) (u:=ib) J rfl q
 |brk=>obtain⟨_,_,_,q⟩:=hs;exact gk q
 |cont=>obtain⟨_,_,_,q⟩:=hs;exact gk q
section
variable{X:Cx}{x:Str}{p pos:Pos}{e:bj}{es:List bj}{t:TA}{id T:String}{r:List V->Hp->VK->Prop}
def rT (r:List V->Hp->VK->Prop) (t:TA):TE:=λσ H Q=>t σ H λvs H1=>r vs H1 Q
theorem pC (hc:ym X (.builtin id) r) (hg:Gl X x) (hm:X.mg x=none) (hv:dm x=some (.builtin id)) (ha:PA X (e::es) t) (hn:x ≠ "__name__" := by decide) (Ao:(x==("__debug__" : Str))=false:=by decide)
  (he:ax (e::es) X.env=(false,eval e X.env)::ax es X.env:=by rfl) (zh:(backTo pos (ax es X.env)).any (·.1)=false:=by rfl):PE X (.Call (.Name x p) (e::es) [] pos) (rT r t):=by
 intro pins s σ H Q I h;refine mn (oX I hg hm hv ?_ hn Ao);exact PyProof.Rows.callWith_builtin1 (aM (ha pos pins s σ H _ I h) λus s1 ⟨vs,H1,I1,r1,q1⟩=>hc pins s1 σ H1 vs us Q I1 r1 q1) he zh
theorem rV (hc:ym X (.type T) r) (hg:Gl X x) (hm:X.mg x=none) (hv:dm x=some (.type T)) (ha:PA X (e::es) t) (hn:x ≠ "__name__" := by decide) (Ao:(x==("__debug__" : Str))=false:=by decide)
  (he:ax (e::es) X.env=(false,eval e X.env)::ax es X.env:=by rfl) (zh:(backTo pos (ax es X.env)).any (·.1)=false:=by rfl):PE X (.Call (.Name x p) (e::es) [] pos) (rT r t):=by
 intro pins s σ H Q I h;refine mn (oX I hg hm hv ?_ hn Ao);exact mr (aM (ha pos pins s σ H _ I h) λus s1 ⟨vs,H1,I1,r1,q1⟩=>hc pins s1 σ H1 vs us Q I1 r1 q1) he zh
end
end L2
namespace HT
open PySem PyProof.Rows
def lexLt:xu->xu->Bool
 | [],[]=>false
 | [],_::_=>true
 |_::_,[]=>false
 |x::xs,y::ys=>if x=y then lexLt xs ys else decide (x<y)
theorem NH (x y:Int) (xs ys:xu):lexLt (x::xs) (y::ys)=if x=y then lexLt xs ys else decide (x<y):=rfl
theorem NI:lexLt [] []=false:=rfl
theorem NJ (y:Int) (ys:xu):lexLt [] (y::ys)=true:=rfl
theorem NK (x:Int) (xs:xu):lexLt (x::xs) []=false:=rfl
theorem NL (A:bp) (s:af) (a:Int) (t:Tok) (c:Int) (u:Tok):∃e,jy A s (.int a t) (.int c u) e/\(e=true↔a=c):=⟨(a==c),SeqAt.EqAt.int_int a t c u,by simp⟩
theorem NM (A:bp) (s:af) (a:Int) (t:Tok) (c:Int) (u:Tok) (prog:bg) (w:cf) (E:ae->af->Prop) (Q:ae->af->Prop) (h:Q (.bool (decide (a<c))) s):
  wpAny (model prog w) A (richCompare .Lt (.int a t) (.int c u)) Q E s:=
 (ug h:wpAny (model prog w) A (compareOp .Lt (.int a t) (.int c u)) Q E s)
section
open PySem.SeqAt
open PySem.AutoSeq1 (wpAny_loadPart')
open PySem.MeetsSeq PySem.MeetsSeq2 PySem.MeetsSeq3
theorem NN (l b:ah) (items y7:Array ae) (n n2:Nat) (dd dd2:Option ah) (sl sl2:Array (Option ae)) (ns ms:xu) (hi:km items.toList ns) (hj:km y7.toList ms):
  Meets (lr.«tuple.__lt__» ⟨[.ref l,.ref b],[]⟩)
   (λ_ R s=>s.heap.get? l=some { cls:=.type "tuple",dict:=dd,data:=.seq items n,slots:=sl }/\s.heap.get? b=some { cls:=.type "tuple",dict:=dd2,data:=.seq y7 n2,slots:=sl2 } /\
    R (.ok (.ret (.bool (lexLt ns ms)))) s):=
 .of_wp λprog w A R s h=>by
  obtain⟨hp,g,d,tk,os⟩:=s;obtain⟨hl,hb,h⟩:=h;have f2:=AutoSeq1.sub_tuple_tuple;have z1:items.size=ns.length:=by rw[<-hi.length];simp
  have z2:y7.size=ms.length:=by rw[<-hj.length];simp
  wp_walk using wpAny_loadPart' hl,wpAny_loadPart' hb,qo _ (λrest b s'=>b.1=none/\s'=⟨hp,g,d,tk,os⟩/\∃(vs ws:List ae) (ns' ms':xu),rest=vs.zip ws /\
   km vs ns'/\km ws ms'/\ns'.length+y7.size=ms'.length+items.size/\R (.ok (.ret (.bool (lexLt ns' ms')))) ⟨hp,g,d,tk,os⟩) _
  case turn=>
   rintro ⟨y,x⟩ rest b s' ⟨hb',rfl,vs,ws,ns',ms',hz,hvi,hwi,hlen,hR⟩
   cases hvi with
   |nil=>rw[List.zip_nil_left]at hz;cases hz
   |cons a t hvi'=>
    cases hwi with
    |nil=>rw[List.zip_nil_right]at hz;cases hz
    |cons c u hwi'=>
     rw[List.zip_cons_cons]at hz;injection hz with hyx hrest;injection hyx with hy hx;subst hy hx;rw[NH]at hR;simp only[cn]at hlen;obtain⟨e,he,hiff⟩:=NL A.in1 ⟨hp,g,d,tk,os⟩ a t c u;refine aa (he prog w _ _ ?_)
     cases e with
     |true=>
      rw[if_pos (hiff.mp rfl)]at hR
      wp_walk
      exact⟨rfl,rfl,_,_,_,_,hrest,hvi',hwi',by omega,hR⟩
     |false=>
      rw[if_neg (λq=>absurd (hiff.mpr q) gu)]at hR;have hri:=NM A.in1 ⟨hp,g,d,tk,os⟩ a t c u prog w
      wp_walk using hri
      exact⟨_,rfl,by simpa using hR⟩
  case fin=>
   rintro ⟨b1,b2⟩ s' ⟨hb',rfl,vs,ws,ns',ms',hz,hvi,hwi,hlen,hR⟩
   simp only at hb';subst hb';have hv:lexLt ns' ms'=decide (items.size<y7.size):=by
    cases hvi with
    |nil=>
     cases hwi with
     |nil=>simp only[o7]at hlen;rw[NI];exact(decide_eq_false (by omega)).symm
     |cons c u hw=>simp only[o7,cn]at hlen;rw[NJ];exact(decide_eq_true (by omega)).symm
    |cons a t hv=>
     cases hwi with
     |nil=>simp only[o7,cn]at hlen;rw[NK];exact(decide_eq_false (by omega)).symm
     |cons c u hw=>rw[List.zip_cons_cons]at hz;cases hz
   rw[hv]at hR
   wp_walk
   exact⟨_,rfl,by simpa[Builtin.Tuple.tupleCompareSizes]using hR⟩
  case h=>exact⟨rfl,rfl,items.toList,y7.toList,ns,ms,rfl,hi,hj,by omega,h⟩
end
section
variable{prog:bg}{w:cf}{A:bp}{E:ae->af->Prop}{s:af}
theorem lt_tupInts {l b:ah}{items y7:Array ae}{ns ms:xu}{Q:ae->af->Prop}(hl:IsTup s.heap l items) (hb:IsTup s.heap b y7) (hi:km items.toList ns) (hj:km y7.toList ms)
  (hu:A.units<cLine) (h:Q (.bool (lexLt ns ms)) s):wpAny (model prog w) A (compareOp .Lt (.ref l) (.ref b)) Q E s:=by
 obtain⟨⟨cls,dd,data,sl⟩,ho,hc,n,hd⟩:=id hl;obtain⟨⟨cls2,dd2,data2,sl2⟩,ho2,hc2,n2,hd2⟩:=id hb;simp only at hc hd hc2 hd2;subst hc hd hc2 hd2;exact richCompare_meets_room (op:=.Lt) ⟨_,ho,rfl⟩ ⟨_,ho2,rfl⟩ PySem.F.slot_tuple_lt PySem.F.entry_tuple_lt (PySem.F.args_tuple_lt_2 _ _) (NN l b items y7 n n2 dd dd2 sl sl2 ns ms hi hj)
  ⟨ho,ho2,show xf (lexLt ns ms)≠Value.notImplemented/\Q (.bool (lexLt ns ms)) s from⟨(λx=>nomatch x),h⟩⟩ hu
theorem cat_tup {t b:ah}{vs ws:List ae}{Q:ae->af->Prop}(ht:IsTup s.heap t vs.toArray) (hb:IsTup s.heap b ws.toArray) (hv:vs≠[])
  (h1:ws=[]->Q (.ref t) s) (h2:ws≠[]->Q (.ref s.heap.objs.size) { s with heap:=s.heap.push { cls:=.type "tuple",data:=.seq (vs++ws).toArray } })
  (hsz:vs.length+ws.length<=bo):wpAny (model prog w) A (binaryOp .Add (.ref t) (.ref b)) Q E s:=by
 obtain⟨⟨cls,dd,data,sl⟩,ho,hc,n,hd⟩:=id ht;obtain⟨⟨cls2,dd2,data2,sl2⟩,ho2,hc2,n2,hd2⟩:=id hb;simp only at hc hd hc2 hd2;subst hc hd hc2 hd2;have e:vs.toArray++ws.toArray=(vs++ws).toArray:=by simp
 by_cases hw:ws=[]
 ·exact concat_meets ⟨_,ho,rfl⟩ ⟨_,ho2,rfl⟩ v5 xh ph p7 (p0 _ _)
   (tuple_addW1 t b vs.toArray ws.toArray n n2 dd dd2 sl sl2 (by simpa using hv) (by simp[hw])) ⟨ho,ho2,h1 hw⟩
 ·refine concat_meets ⟨_,ho,rfl⟩ ⟨_,ho2,rfl⟩ v5 xh ph p7 (p0 _ _)
   (tuple_addW2 t b vs.toArray ws.toArray n n2 dd dd2 sl sl2 (by simpa using hv) (by simpa using hw) (by rw[au,au];exact hsz)) ⟨ho,ho2, ?_⟩
  rw[e];exact h2 hw
def sIx (n d:Nat):Option Int->Nat
 |none=>d
 |some v=>if v<0 then(v+(n:Int)).toNat else min v.toNat n
theorem sIx_none (n d:Nat):sIx n d none=d:=rfl
theorem sIx_nat (n d k:Nat):sIx n d (some (k:Int))=min k n:=by show(if(k:Int)<0 then((k:Int)+(n:Int)).toNat else min (k:Int).toNat n)=min k n;rw[if_neg (by omega),di]
theorem NO (n d:Nat) (hd:d<=n) (o:Option Int):sIx n d o<=n:=by
 cases o with
 |none=>exact hd
 |some v=>
  show(if v<0 then(v+(n:Int)).toNat else min v.toNat n)<=n
  by_cases hv:v<0
  ·rw[if_pos hv];omega
  ·rw[if_neg hv];exact Nat.min_le_right _ _
theorem CB (v:Int) (n d:Nat):(if v<0 then max (v+(n:Int)) 0 else min v (n:Int))=((sIx n d (some v):Nat):Int):=by
 show(if v<0 then max (v+(n:Int)) 0 else min v (n:Int))=(((if v<0 then(v+(n:Int)).toNat else min v.toNat n):Nat):Int)
 by_cases hv:v<0
 ·simp only[if_pos hv];omega
 ·simp only[if_neg hv];omega
theorem NP (lo hi:Option Int) (n:Nat):nh lo hi 1 (n:Int)=(((sIx n 0 lo:Nat):Int),((sIx n n hi:Nat):Int)):=by
 have h1:¬ ((1:Int)<0):=by omega
 unfold nh;simp only[h1,if_false];refine Prod.ext ?_ ?_
 ·cases lo with
  |none=>rfl
  |some v=>exact CB v n 0
 ·cases hi with
  |none=>rfl
  |some v=>exact CB v n n
theorem NQ (i j:Nat):jq (i:Int) (j:Int) 1=j - i:=by
 unfold jq;have h1:(1:Int)>0:=by omega
 simp only[h1,if_true,Int.ediv_one]
 split <;> omega
theorem CC {v:ae}{o:Option Int}{Q:Option Int->af->Prop}(p:rp v o) (h:Q o s):wpAny (model prog w) A (Builtin.Slice.slicePartIndex v) Q E s:=by
 cases p with
 |none=>exact slicePart_none h
 |int i t=>exact slicePart_int h
theorem sliceApplied_gen {sl:ah}{vl vu:ae}{lo hi:Option Int}{n:Nat}{Q:Int×Int×Nat->af->Prop}(hs:s.heap.IsSliceOf sl vl vu .none) (pl:rp vl lo) (pu:rp vu hi)
  (h:Q (((sIx n 0 lo:Nat):Int),1,sIx n n hi - sIx n 0 lo) s):wpAny (model prog w) A (r9 (.ref sl) (pure (n:Int))) Q E s:=by
 obtain⟨os,hos,hcs,hds⟩:=id hs;unfold r9 Builtin.Slice.sliceFields;refine aa (aa (fw hos hds (x:=vl) rfl (aa (fw hos hds (x:=vu) rfl (aa (fw hos hds (x:=.none) rfl (ai ?_)))))));refine aa (slicePart_none ?_);show wpAny _ _ (if((1:Int)==0)=true then _ else _) _ _ s;rw[if_neg (by decide)];refine aa (CC pl (aa (CC pu (aa (ai ?_)))));show wpAny _ _ (match nh lo hi 1 (n:Int)with|(lo,hi)=>pure (lo,(1:Int),jq lo hi 1)) _ _ s;rw[NP lo hi n];show wpAny _ _ (pure (((sIx n 0 lo:Nat):Int),(1:Int),jq ((sIx n 0 lo:Nat):Int) ((sIx n n hi:Nat):Int) 1)) _ _ s;rw[NQ];exact ai h
theorem NR (xs:Array ae) (i k:Nat):((bx k).filterMap λ(m:Nat)=>xs[((i:Int)+(m:Int)*1).toNat]?).toArray=((xs.toList.drop i).take k).toArray:=by
 have e:(λ(m:Nat)=>xs[((i:Int)+(m:Int)*1).toNat]?)=λm=>xs[i+m]?:=by
  funext m
  have:((i:Int)+(m:Int)*1).toNat=i+m:=by omega
  rw[this]
 rw[e];have:=pick_run xs i k;rw[List.filterMap_map]at this;have e2:((λx=>xs[x]?)∘λx=>i+x)=λm=>xs[i+m]?:=rfl;rw[e2]at this;rw[this]
theorem getItem_tuple_cut {t sl:ah}{items:Array ae}{vl vu:ae}{lo hi:Option Int}{Q:ae->af->Prop}(ht:IsTup s.heap t items) (hs:s.heap.IsSliceOf sl vl vu .none) (pl:rp vl lo) (pu:rp vu hi)
  (hw:¬ (sIx items.size 0 lo=0/\sIx items.size items.size hi=items.size))
  (h:Q (.ref s.heap.objs.size) { s with heap:=s.heap.push { cls:=.type "tuple",data:=.seq ((items.toList.drop (sIx items.size 0 lo)).take (sIx items.size items.size hi - sIx items.size 0 lo)).toArray } })
  (hsz:items.size<=bo):wpAny (model prog w) A (getItem (.ref t) (.ref sl)) Q E s:=by
 have htake:sizeOk (.seq ((items.toList.drop (sIx items.size 0 lo)).take (sIx items.size items.size hi - sIx items.size 0 lo)).toArray):=by show((items.toList.drop (sIx items.size 0 lo)).take (sIx items.size items.size hi - sIx items.size 0 lo)).toArray.size<=bo;rw[au,jc,mz,iw];omega
 have hj:sIx items.size items.size hi<=items.size:=NO _ _ (ak _) hi;obtain⟨os,hos,hcs,hds⟩:=id hs;have hTs:s.TypeIs (.ref sl) "slice" := ⟨os,hos,hcs⟩;unfold getItem
 try with_reducible refine dv ?_
 first|refine aa (ai ?_)|skip
 refine aa (wpAny_sequenceKey ht.typeIs (by decide) ?_);refine aa (fj (name:=jn "__getitem__") ht.typeIs fz
  (fq fz ht.typeIs entry_tuple_getitem ?_ (args_tuple_getitem _ _)))
 show wpAny _ _ (Builtin.Tuple.tupleItemsOf (.ref t) >>= _) _ _ s;refine aa (tupleItemsOf_ ht ?_);refine aa (p8 hTs ?_);rw[if_pos (by decide)];refine aa (sliceApplied_gen hs pl pu ?_);have hno:¬ ((((sIx items.size 0 lo:Nat):Int)==0&&(1:Int)==1&&(sIx items.size items.size hi - sIx items.size 0 lo)==items.size)=true):=by intro q;rw[dh,dh]at q;have q1:((sIx items.size 0 lo:Nat):Int)=0:=eq_of_beq q.1.1;have q2:sIx items.size items.size hi - sIx items.size 0 lo=items.size:=eq_of_beq q.2;exact hw ⟨by omega,by omega⟩
 show wpAny _ _ (if(((sIx items.size 0 lo:Nat):Int)==0&&(1:Int)==1&&(sIx items.size items.size hi - sIx items.size 0 lo)==items.size)=true then _ else _) _ _ s;rw[if_neg hno,NR]
 first
  |exact aa (m:=ju _) (du (ai ⟨_,rfl,ai h⟩) htake)
  |exact aa (m:=ju _) (du (aa (ai (ai ⟨_,rfl,ai h⟩))) htake)
  |exact aa (aa (m:=ju _) (du (ai (ai ⟨_,rfl,ai h⟩)) htake))
  |exact aa (aa (m:=ju _) (du (ai ⟨_,rfl,ai h⟩) htake))
end
end HT
namespace L2
open PySem PySem.Spec PyProof.Rows
abbrev TO:=St->Hp->(Option Int->Hp->Prop)->Prop
def PO (X:Cx) (e:Option bj) (t:TO):Prop:=
 ∀(pins:List (ah×Obj)) (s:af) (σ:St) (H:Hp) (Q:Option Int->Hp->Prop),Inv X pins σ H s->t σ H Q->
  wpAny (model X.prog X.w) X.A (evalPart e X.env) (λu s'=>∃o H',Inv X pins σ H' s'/\rp u o/\Q o H') X.xe s
def NS:TO:=λ_ H Q=>Q none H
def NT (t:TE):TO:=λσ H Q=>t σ H λx H1=>∃i,x=.int i/\Q (some i) H1
theorem CD {ns:xu}:∀{us:List ae},yg (ns.map V.int) us->km us ns:=by
 induction ns with
 |nil=>intro us r;rw[List.map_nil]at r;cases r;exact .nil
 |cons n ns ih=>
  intro us r;rw[dy]at r
  cases r with
  |cons r1 r2=>obtain⟨t,e⟩:=r1;subst e;exact .cons n t (ih r2)
section
variable{X:Cx}{e:bj}{te:TE}{lo hi:Option bj}{tl th:TO}{pos p2:Pos}
theorem NU:PO X none NS:=by intro pins s σ H Q I h;rw[evalPart_none];exact ai ⟨none,H,I,.none,h⟩
theorem NV (h:PE X e te):PO X (some e) (NT te):=by intro pins s σ H Q I hw;rw[evalPart_some];refine aM (h pins s σ H _ I hw) λu s1 ⟨x,H1,I1,r1,q1⟩=>?_;obtain⟨i,rfl,q⟩:=q1;obtain⟨t,rfl⟩:=r1;exact⟨some i,H1,I1,.int i t,q⟩
def SlR (X:Cx) (r:V->Option Int->Option Int->Hp->VK->Prop):Prop:=
 ∀(pins:List (ah×Obj)) (s:af) (σ:St) (H:Hp) (x:V) (v vl vu:ae) (lo hi:Option Int) (sl:ah) (Q:VK),Inv X pins σ H s->RelV x v->s.heap.IsSliceOf sl vl vu .none->rp vl lo->rp vu hi->r x lo hi H Q->
  ∃T id,typeLookup (.type T) "__getitem__" = pure (some (.builtin id))/\s.TypeIs v T/\wpAny (model X.prog X.w) X.A (getItem v (.ref sl)) (EP X pins σ Q) X.xe s
theorem SlR.or {r r':V->Option Int->Option Int->Hp->VK->Prop}(h:SlR X r) (h':SlR X r'):SlR X (λx lo hi H Q=>r x lo hi H Q∨r' x lo hi H Q):=by
 intro pins s σ H x v vl vu lo hi sl Q I rx hs pl pu q
 rcases q with q|q
 ·exact h pins s σ H x v vl vu lo hi sl Q I rx hs pl pu q
 ·exact h' pins s σ H x v vl vu lo hi sl Q I rx hs pl pu q
def NW (r:V->Option Int->Option Int->Hp->VK->Prop) (te:TE) (tl th:TO):TE:=λσ H Q=>te σ H λx H1=>tl σ H1 λl H2=>th σ H2 λu H3=>r x l u H3 Q
theorem NX {r:V->Option Int->Option Int->Hp->VK->Prop}(hr:SlR X r) (he:PE X e te) (hl:PO X lo tl) (hu:PO X hi th):PE X (.Subscript e (.Slice lo hi none p2) pos) (NW r te tl th):=by intro pins s σ H Q I h;refine Subscript_ (aM (he pins s σ H _ I h) λv s1 ⟨x,H1,I1,r1,q1⟩=>?_);refine wpAny_Slice (aM (hl pins s1 σ H1 _ I1 q1) λvl s2 ⟨l,H2,I2,pl,q2⟩=>aM (hu pins s2 σ H2 _ I2 q2) λvu s3 ⟨u,H3,I3,pu,q3⟩=>?_);rw[evalPart_none];refine ai ?_;have I4:Inv X pins σ H3 { s3 with heap:=s3.heap.push { cls:=.type "slice",data:=.fields #[vl,vu,.none] } }:=I3.kept (t':=s3.toks) λb ob q=>aj _ q;obtain⟨T,id,hT,ht,hg⟩:=hr pins { s3 with heap:=s3.heap.push { cls:=.type "slice",data:=.fields #[vl,vu,.none] } } σ H3 x v vl vu l u s3.heap.objs.size Q I4 r1 (Heap.IsSliceOf.new ..) pl pu q3;show wpAny (model X.prog X.w) X.A (subscriptTail e (.Slice lo hi none p2) v (.ref s3.heap.objs.size)) (EP X pins σ Q) X.xe { s3 with heap:=s3.heap.push { cls:=.type "slice",data:=.fields #[vl,vu,.none] } };exact tail_any (ops:=[.ref s3.heap.objs.size,v]) ht hT hg (by with_unfolding_all rfl)
def kW (xs:List V) (lo hi:Option Int):List V:=(xs.drop (HT.sIx xs.length 0 lo)).take (HT.sIx xs.length xs.length hi - HT.sIx xs.length 0 lo)
theorem CF (xs:List V) (lo hi:Option Int):(kW xs lo hi).length<=xs.length:=by unfold kW;rw[jc,mz];omega
def NY (K:ar):V->Option Int->Option Int->Hp->VK->Prop:=λx lo hi H Q=>∃a xs,x=.ref a/\yt K H a xs /\
 ¬ (HT.sIx xs.length 0 lo=0/\HT.sIx xs.length xs.length hi=xs.length)/\∀p,H p=none->Q (.ref p) (aJ H p (.tup (kW xs lo hi)))
theorem NZ:SlR X (NY X.K):=by
 intro pins s σ H x v vl vu lo hi sl Q I rx hs pl pu h;obtain⟨a,xs,rfl,hx,hw,q⟩:=h;cases rx;obtain⟨its,r,ht,hz⟩:=I.tuple hx;have hlen:its.toArray.size=xs.length:=by rw[au];exact r.length.symm
 refine⟨"tuple",_,fz.lookup,ht.typeIs, ?_⟩;refine HT.getItem_tuple_cut ht hs pl pu (by rw[hlen];exact hw) ?_ (by rw[hlen];exact hz);rw[hlen];refine⟨.ref s.heap.objs.size,_,I.laid (t':=s.toks) (o:=.tup (kW xs lo hi)) (λb ob q=>aj _ q) (ak _) ?_,rfl,q _ (I.hok.fresh (ak _))⟩;exact⟨da (CF xs lo hi) hz,_,(r.drop (HT.sIx xs.length 0 lo)).take (HT.sIx xs.length xs.length hi - HT.sIx xs.length 0 lo),yy.new _ _⟩
def CG (K:ar):R2:=λx y H Q=>∃a b ns ms,x=.ref a/\y=.ref b/\yt K H a (ns.map V.int)/\yt K H b (ms.map V.int)/\Q (.bl (HT.lexLt ns ms)) H
theorem N0 (hu:X.A.units<cLine):zg X (compareOp .Lt) (CG X.K):=by intro pins s σ H x y v u Q I rx ry h;obtain⟨a,b,ns,ms,rfl,rfl,ha,hb,q⟩:=h;cases rx;cases ry;obtain⟨its,r1,p1,_⟩:=I.tuple ha;obtain⟨zf,r2,p2,_⟩:=I.tuple hb;have i1:km its.toArray.toList ns:=CD r1;have i2:km zf.toArray.toList ms:=CD r2;exact HT.lt_tupInts p1 p2 i1 i2 hu ⟨.bl (HT.lexLt ns ms),H,I,rfl,q⟩
def CH (K:ar):R2:=λx y H Q=>∃a b xs ys,x=.ref a/\y=.ref b/\yt K H a xs/\yt K H b ys/\xs≠[]/\xs.length+ys.length<=bo /\
 (ys=[]->Q (.ref a) H)/\(ys≠[]->∀p,H p=none->Q (.ref p) (aJ H p (.tup (xs++ys))))
theorem yg.nil_iff {xs:List V}{us:List ae}(r:yg xs us):us=[]↔xs=[]:=by
 cases r with
 |nil=>simp
 |cons _ _=>simp
theorem N1:zg X (binaryOp .Add) (CH X.K):=by intro pins s σ H x y v u Q I rx ry h;obtain⟨a,b,xs,ys,rfl,rfl,ha,hb,hx,hz,q1,q2⟩:=h;cases rx;cases ry;obtain⟨its,r1,p1,_⟩:=I.tuple ha;obtain⟨zf,r2,p2,_⟩:=I.tuple hb;refine HT.cat_tup p1 p2 (λz=>hx (r1.nil_iff.mp z)) (λz=>⟨.ref a,H,I,rfl,q1 (r2.nil_iff.mp z)⟩) (λz=>?_) (by rw[<-r1.length,<-r2.length];exact hz);refine⟨.ref s.heap.objs.size,_,I.laid (t':=s.toks) (o:=.tup (xs++ys)) (λb ob q=>aj _ q) (ak _) ?_,rfl,q2 (λw=>z (r2.nil_iff.mpr w)) _ (I.hok.fresh (ak _))⟩;exact⟨by rw[de];exact hz,_,r1.append r2,yy.new _ _⟩
end
def eJ (n:Nat) (i:Int):Option Nat:=if 0<=i then(if i<n then some i.toNat else none)else if -(n:Int)<=i then some (i+n).toNat else none
def fP {α:Type}(xs:List α) (i:Int):Option α:=(eJ xs.length i).bind λj=>xs[j]?
theorem wN {n:Nat}{i:Int}{j:Nat}(h:eJ n i=some j):seqIndex? i n=some j/\j<n/\-(n:Int)<=i/\i<n:=by
 unfold eJ at h
 by_cases h0:0<=i
 ·rw[if_pos h0]at h
  by_cases h1:i<n
  ·rw[if_pos h1]at h;have e:i.toNat=j:=cq h;exact⟨by rw[seqIndex_of h0 h1,e],by omega,by omega,h1⟩
  ·rw[if_neg h1]at h;cases h
 ·rw[if_neg h0]at h
  by_cases h1 : -(n:Int)<=i
  ·rw[if_pos h1]at h;have e:(i+n).toNat=j:=cq h;exact⟨by rw[seqIndex_neg (by omega) h1,e],by omega,h1,by omega⟩
  ·rw[if_neg h1]at h;cases h
theorem wO {α:Type}{xs:List α}{i:Int}{v:α}(h:fP xs i=some v):∃j,seqIndex? i xs.length=some j/\xs[j]?=some v/\j<xs.length/\-(xs.length:Int)<=i/\i<xs.length:=by
 unfold fP at h
 cases e:eJ xs.length i with
 |none=>rw[e]at h;cases h
 |some j=>rw[e]at h;obtain⟨h1,h2,h3,h4⟩:=wN e;exact⟨j,h1,h,h2,h3,h4⟩
def wQ (b:bj):Prop:=∀o i,subscripted b false o i=operate [o,i] (getItem o i)
def IxR (X:Cx) (r:R2):Prop:=
 ∀(value slice:bj) (pins:List (ah×Obj)) (s:af) (σ:St) (H:Hp) (x y:V) (v u:ae) (Q:VK),Inv X pins σ H s->RelV x v->RelV y u->r x y H Q->
  subscripted slice false v u=operate [v,u] (getItem v u)->wpAny (model X.prog X.w) X.A (subscriptTail value slice v u) (EP X pins σ Q) X.xe s
def CI (X:Cx) (id:String) (r:V->List V->Hp->VK->Prop):Prop:=
 ∀(pins:List (ah×Obj)) (s:af) (σ:St) (H:Hp) (x:V) (xs:List V) (v:ae) (us:List ae) (Q:VK),Inv X pins σ H s->RelV x v->yg xs us->r x xs H Q->
  wpAny (model X.prog X.w) X.A (call (.builtin id) (v::us)) (EP X pins σ Q) X.xe s
section
variable{X:Cx}{a b:bj}{ta tb:TE}{pos:Pos}
theorem IxR.or {r r':R2}(h:IxR X r) (h':IxR X r'):IxR X (λx y H Q=>r x y H Q∨r' x y H Q):=by
 intro value slice pins s σ H x y v u Q I rx ry q hs
 rcases q with q|q
 ·exact h value slice pins s σ H x y v u Q I rx ry q hs
 ·exact h' value slice pins s σ H x y v u Q I rx ry q hs
theorem CJ {r:R2}(hr:IxR X r) (ha:PE X a ta) (hb:PE X b tb) (hs:wQ b):PE X (.Subscript a b pos) (oY r ta tb):=by intro pins s σ H Q I h;exact Subscript_ (wH ha hb I h λv u s2 x y H2 I2 rx ry q=>hr a b pins s2 σ H2 x y v u Q I2 rx ry q (hs _ _))
def CK (K:ar):R2:=λx y H Q=>∃p xs i v,x=.ref p/\y=.int i/\y9 K H p xs/\fP xs i=some v/\Q v H
def CL (K:ar):R2:=λx y H Q=>∃p xs i v,x=.ref p/\y=.int i/\yt K H p xs/\fP xs i=some v/\Q v H
def CM:R2:=λx y H Q=>∃z i c,x=.str z/\y=.int i/\z.length<=bo/\fP z.cps.toList i=some c/\Q (.str ⟨#[c]⟩) H
theorem ix_list:IxR X (CK X.K):=by
 intro value slice pins s σ H x y v u Q I rx ry h hs;obtain⟨p,xs,i,z,rfl,rfl,hq,he,q⟩:=h;cases rx;obtain⟨t,rfl⟩:=ry;obtain⟨its,r,pl,hz⟩:=I.list hq;obtain⟨j,h1,h2,h3,h4,h5⟩:=wO he;obtain⟨w,ew,rw'⟩:=r.get h2;have hl:=r.length;have hn:=nA;have fin:EP X pins σ Q w s:=⟨z,H,I,rw',q⟩
 by_cases h0:0<=i
 ·have hj:i.toNat=j:=by rw[seqIndex_of h0 h5]at h1;exact cq h1
  exact item_listR pl.isList h0 (by omega) (by rw[hj];simpa using ew) fin hs
 ·have hj:(i+(its.toArray.size:Int)).toNat=j:=by rw[seqIndex_neg (by omega) h4]at h1;rw[au,<-hl];exact cq h1
  exact subscriptTail_builtinR (x:=w) pl.isList.typeIs slot_list_getitem.lookup
   (wpAny_getItem_list_neg (Q:=λr s'=>r=w/\EP X pins σ Q r s') pl.isList (by omega) (by rw[au] <;> omega) (by omega) (by rw[hj];simpa using ew) ⟨rfl,fin⟩) hs
theorem ix_tup:IxR X (CL X.K):=by
 intro value slice pins s σ H x y v u Q I rx ry h hs;obtain⟨p,xs,i,z,rfl,rfl,hq,he,q⟩:=h;cases rx;obtain⟨t,rfl⟩:=ry;obtain⟨its,r,pl,hz⟩:=I.tuple hq;obtain⟨j,h1,h2,h3,h4,h5⟩:=wO he;obtain⟨w,ew,rw'⟩:=r.get h2;have hl:=r.length;have hn:=nA;have fin:EP X pins σ Q w s:=⟨z,H,I,rw',q⟩
 exact subscriptTail_builtinR (x:=w) pl.typeIs slot_tuple_getitem.lookup
  (getItem_tuple (j:=j) (Q:=λr s'=>r=w/\EP X pins σ Q r s') pl (by omega) (by omega) (by rw[au,<-hl];exact h1) (by simpa using ew) ⟨rfl,fin⟩) hs
theorem N2:IxR X CM:=by
 intro value slice pins s σ H x y v u Q I rx ry h hs;obtain⟨z,i,c,rfl,rfl,hz,he,q⟩:=h;obtain⟨t,rfl⟩:=rx;obtain⟨t',rfl⟩:=ry;obtain⟨j,h1,h2,h3,h4,h5⟩:=wO he;have hl:z.cps.toList.length=z.length:=by simp[Str.length]
 rw[hl]at h1 h4 h5;have hn:=nA;exact tail_any (typeIs_str s z t) slot_str_getitem.lookup (getItem_str (c:=c) (by have e1:decide (i < -(2 ^ 63:Int))=false:=decide_eq_false (by omega);have e2:decide (i>=2 ^ 63)=false:=decide_eq_false (by omega);rw[e1,e2,Bool.or_false]) (by rw[h1];simpa using h2) ⟨.str ⟨#[c]⟩,H,I.tok _,⟨_,rfl⟩,q⟩) hs
def wR (K:ar):R2:=λx y H Q=>CK K x y H Q∨CL K x y H Q∨CM x y H Q
theorem CN:IxR X (wR X.K):=ix_list.or (ix_tup.or N2)
theorem N3 (its:List ae) (n j:Nat) (u:ae):ni (·.setIfInBounds j u) { cls:=.type "list",data:=.seq its.toArray n }={ cls:=.type "list",data:=.seq (its.set j u).toArray n }:=by simp[ni]
theorem Inv.lst {pins:List (ah×Obj)}{σ:St}{H:Hp}{s:af}{p:ah}{xs:List V}(I:Inv X pins σ H s) (h:H p=some (.lst xs)):
  ∃(its:List ae) (n:Nat),yg xs its/\s.heap.get? p=some { cls:=.type "list",data:=.seq its.toArray n }/\xs.length<=bo:=by
 obtain⟨z,its,n,r,e⟩:=I.hok p _ h;exact⟨its,n,r,e,z⟩
theorem Inv.lstUpd {pins:List (ah×Obj)}{σ:St}{H:Hp}{s:af}{p:ah}{xs ys:List V}{its its':List ae}{n n':Nat}{f:Obj->Obj}(I:Inv X pins σ H s) (h:H p=some (.lst xs))
  (ho:s.heap.get? p=some { cls:=.type "list",data:=.seq its.toArray n }) (hf:f { cls:=.type "list",data:=.seq its.toArray n }={ cls:=.type "list",data:=.seq its'.toArray n' }) (r:yg ys its') (hz:ys.length<=bo) (t:Nat):
  Inv X pins σ (aJ H p (.lst ys)) { s with heap:=s.heap.update p f,toks:=t }:=by
 have e:(s.heap.update p f).get? p=some { cls:=.type "list",data:=.seq its'.toArray n' }:=by rw[my f ho (by rw[hf] <;> rfl),hf]
 refine I.write (x:=p) (e:=p) (by rw[h];trivial) (.inl rfl) (λb u hb q=>(lx _ _ (cu hb)).trans q) ⟨_,e⟩ ?_;exact⟨hz,its',n',r,e⟩
def N4:V->V->V->Hp->(Hp->Prop)->Prop:=λo i v H Q=>∃p xs k j,o=.ref p/\i=.int k/\H p=some (.lst xs)/\eJ xs.length k=some j/\Q (aJ H p (.lst (xs.set j v)))
theorem N5:vY X N4:=by
 intro pins s σ H o i v ov iv u Q I ro ri rv h;obtain⟨p,xs,k,j,rfl,rfl,hp,hj,q⟩:=h;cases ro;obtain⟨t,rfl⟩:=ri;obtain⟨its,n,r,ho,hz⟩:=I.lst hp;obtain⟨h1,h2,h3,h4⟩:=wN hj;have hl:=r.length;have hn:=nA;have I':Inv X pins σ (aJ H p (.lst (xs.set j v))) { s with heap:=s.heap.update p (ni (·.setIfInBounds j u)) }:=I.lstUpd hp ho (N3 its n j u) (r.set rv j) (by rw[gy];exact hz) s.toks
 by_cases h0:0<=k
 ·have hk:k.toNat=j:=by rw[seqIndex_of h0 h4]at h1;exact cq h1
  exact PySem.W.ki_setAt ho h0 (by omega) (by rw[au,<-hl];exact h4) (by rw[hk];exact⟨_,I',q⟩)
 ·have hk:(k+(its.toArray.size:Int)).toNat=j:=by rw[seqIndex_neg (by omega) h3]at h1;rw[au,<-hl];exact cq h1
  exact PySem.W.ki_setBack ho (by omega) (by rw[au,<-hl];exact h3) (by omega) (by rw[hk];exact⟨_,I',q⟩)
theorem N6 (lo hi:Option Int) (n:Nat):(sliceBounds lo hi none n).1=((HT.sIx n 0 lo:Nat):Int)/\(sliceBounds lo hi none n).2.1=((HT.sIx n n hi:Nat):Int)/\(sliceBounds lo hi none n).2.2=1:=by
 refine⟨?_, ?_,rfl⟩
 ·cases lo with
  |none=>simp[sliceBounds,HT.sIx]
  |some i=>
   simp only[sliceBounds,HT.sIx,Option.getD_none,show(1:Int)>0 by decide,if_true]
   by_cases h:i<0
   ·simp only[h,if_true] <;> omega
   ·simp only[h,if_false] <;> omega
 ·cases hi with
  |none=>simp[sliceBounds,HT.sIx]
  |some i=>
   simp only[sliceBounds,HT.sIx,Option.getD_none,show(1:Int)>0 by decide,if_true]
   by_cases h:i<0
   ·simp only[h,if_true] <;> omega
   ·simp only[h,if_false] <;> omega
theorem N7 (its:List ae) (lo hi:Option Int):slicePick its.toArray lo hi none=((its.drop (HT.sIx its.length 0 lo)).take (HT.sIx its.length its.length hi - HT.sIx its.length 0 lo)).toArray:=by obtain⟨h1,h2,h3⟩:=N6 lo hi its.toArray.size;unfold slicePick;rw[h1,h2,h3];simp only[sliceRange_one,pick_run,au] <;> rfl
def N8 (K:ar):V->Option Int->Option Int->Hp->VK->Prop:=λx lo hi H Q=>∃a xs,x=.ref a/\y9 K H a xs/\∀p,H p=none->Q (.ref p) (aJ H p (.lst (kW xs lo hi)))
theorem N9:SlR X (N8 X.K):=by intro pins s σ H x v vl vu lo hi sl Q I rx hs pl pu h;obtain⟨a,xs,rfl,hx,q⟩:=h;cases rx;obtain⟨its,r,ht,hz⟩:=I.list hx;have hlen:=r.length;refine⟨"list",_,slot_list_getitem.lookup,ht.isList.typeIs, ?_⟩;refine wpAny_getItem_list_slice ht.isList hs pl pu .none (by simp) ?_ (by rw[au] <;> omega);rw[N7,<-hlen];refine⟨.ref s.heap.objs.size,_,I.laid (t':=s.toks) (o:=.lst (kW xs lo hi)) (λb ob q=>aj _ q) (ak _) ?_,rfl,q _ (I.hok.fresh (ak _))⟩;exact⟨da (CF xs lo hi) hz,_,0,(r.drop (HT.sIx xs.length 0 lo)).take (HT.sIx xs.length xs.length hi - HT.sIx xs.length 0 lo),av _ rfl⟩
theorem CO:ym X (.builtin "len") (λxs H Q=>∃p ys,xs=[.ref p]/\(y9 X.K H p ys∨yt X.K H p ys)/\Q (.int ys.length) H):=by
 intro pins s σ H xs us Q I r h;obtain⟨p,ys,rfl,hq,q⟩:=h;obtain⟨u,rfl,rx⟩:=gR r;cases rx;have hn:=nA
 rcases hq with hq|hq
 ·obtain⟨its,r',pl,hz⟩:=I.list hq;have hlen:=r'.length;exact Calls.call_len_list pl.isList (by simp only[au] <;> omega) ⟨.int ys.length,H,I.tok _,⟨s.toks+1,by rw[au,hlen]⟩,q⟩
 ·obtain⟨its,r',pl,hz⟩:=I.tuple hq;have hlen:=r'.length;exact len_tuple pl (by simp only[au] <;> omega) ⟨.int ys.length,H,I.tok _,⟨s.toks+1,by rw[au,hlen]⟩,q⟩
theorem OA:ym X (.type "list") (λxs H Q=>∃p ys,xs=[.ref p]/\(y9 X.K H p ys∨yt X.K H p ys)/\∀l,H l=none->Q (.ref l) (aJ H l (.lst ys))):=by
 intro pins s σ H xs us Q I r h;obtain⟨p,ys,rfl,hq,q⟩:=h;obtain⟨u,rfl,rx⟩:=gR r;cases rx;have fin:∀(its:List ae),yg ys its->ys.length<=bo->∀(h':ck) (c':Nat),(∀b o',s.heap.get? b=some o'->h'.get? b=some o')->
   h'.get? s.heap.objs.size=some { cls:=.type "list",dict:=none,data:=.seq its.toArray c',slots:=#[] }->EP X pins σ Q (.ref s.heap.objs.size) { s with heap:=h' }:=λits r' hz h' c' kp e=>
  ⟨.ref s.heap.objs.size,_,I.laid (t':=s.toks) kp (ak _) (show yi X.prog X.w _ h' _ (.lst ys) from⟨hz,its,c',r',e⟩),rfl,q _ (I.hok.fresh (ak _))⟩
 rcases hq with hq|hq
 ·obtain⟨its,r',pl,hz⟩:=I.list hq;have hlen:=r'.length;obtain⟨o,ho,hc,n,hd⟩:=pl.isList;exact call_list_seq p (.inl rfl) ho hc hd (λh' c' kp e=>fin its r' hz h' c' kp e) (by simp only[au] <;> omega)
 ·obtain⟨its,r',pl,hz⟩:=I.tuple hq;have hlen:=r'.length;obtain⟨o,ho,hc,n,hd⟩:=pl;exact call_list_seq p (.inr rfl) ho hc hd (λh' c' kp e=>fin its r' hz h' c' kp e) (by simp only[au] <;> omega)
theorem OB:ym X (.type "tuple") (λxs H Q=>∃p ys,xs=[.ref p]/\((y9 X.K H p ys/\∀l,H l=none->Q (.ref l) (aJ H l (.tup ys)))∨(yt X.K H p ys/\Q (.ref p) H))):=by
 intro pins s σ H xs us Q I r h;obtain⟨p,ys,rfl,h⟩:=h;obtain⟨u,rfl,rx⟩:=gR r;cases rx
 rcases h with⟨hq,q⟩|⟨hq,q⟩
 ·obtain⟨its,r',pl,hz⟩:=I.list hq;have hlen:=r'.length;refine call_tuple_list pl.isList (λh' kp=>?_) (by simp only[au] <;> omega);have I1:Inv X pins σ H { s with heap:=h' }:=I.kept (t':=s.toks) kp;have I2:Inv X pins σ (aJ H h'.objs.size (.tup ys)) { s with heap:=h'.push { cls:=.type "tuple",data:=.seq its.toArray } }:=I1.laid (t':=s.toks) (λb o e=>aj _ e) (ak _) (show yi X.prog X.w _ _ _ (.tup ys) from⟨hz,its,r',yy.new _ _⟩);exact⟨.ref h'.objs.size,_,I2,rfl,q _ (I1.hok.fresh (ak _))⟩
 ·obtain⟨its,r',pl,hz⟩:=I.tuple hq;exact call_tuple_same pl ⟨.ref p,H,I,rfl,q⟩
def rW (K:ar) (T:String) (x:V) (H:Hp):Prop:=match x with
 | .str _=>T = "str"
 | .int _=>T = "int"
 | .ref p=>(T = "list"/\∃xs,y9 K H p xs)∨(T = "tuple"/\∃o,K.lookup p=some o/\o.cls=.type "tuple"/\o.dict=none) ∨
   (T = "dict"/\((∃kvs,H p=some (.dK kvs))∨∃kvs,H p=some (.dT kvs)))∨(T = "set"/\∃S n,H p=some (.set S n))
 |_=>False
theorem OC {pins:List (ah×Obj)}{σ:St}{H:Hp}{s:af}{T:String}{x:V}{v:ae}(I:Inv X pins σ H s) (r:RelV x v) (ty:rW X.K T x H):
  s.TypeIs v T/\∀a,v=.ref a->∃ob,s.heap.get? a=some ob/\ob.dict=none:=by
 cases x with
 |str z=>
  obtain⟨t,rfl⟩:=r
  cases (show T = "str" from ty)
  exact⟨typeIs_str s z t,λ_ e=>nomatch e⟩
 |int i=>
  obtain⟨t,rfl⟩:=r
  cases (show T = "int" from ty)
  exact⟨typeIs_int s i t,λ_ e=>nomatch e⟩
 |ref p=>
  cases r
  rcases ty with⟨rfl,xs,hq⟩|⟨rfl,o,hk,hc,hd⟩|⟨rfl,hk⟩|⟨rfl,S,n,hk⟩
  ·obtain⟨its,_,pl,_⟩:=I.list hq;refine⟨pl.isList.typeIs,λa e=>?_⟩;cases e;obtain⟨o,n,e,c,hd,_⟩:=pl;exact⟨o,e,hd⟩
  ·refine⟨⟨o,I.kIn p o hk,hc⟩,λa e=>?_⟩;cases e;exact⟨o,I.kIn _ o hk,hd⟩
  ·have z:∃o,s.heap.get? p=some o/\o.ExactDict:=by
    rcases hk with⟨kvs,hk⟩|⟨kvs,hk⟩
    ·obtain⟨_,_,_,_,o,_,_,e,ex,_⟩:=I.hok p _ hk;exact⟨o,e,ex⟩
    ·obtain⟨_,_,_,_,o,_,_,e,ex,_⟩:=I.hok p _ hk;exact⟨o,e,ex⟩
   obtain⟨o,e,ex⟩:=z;refine⟨⟨o,e,ex.1⟩,λa e2=>?_⟩;cases e2;exact⟨o,e,ex.2.1⟩
  ·obtain⟨o,_,_,_,e,ex,_⟩:=I.hok p _ hk;refine⟨⟨o,e,ex.1⟩,λa e2=>?_⟩;cases e2;exact⟨o,e,ex.2.1⟩
 |_=>exact gk ty
def OD (K:ar) (T:String) (r:V->List V->Hp->VK->Prop) (to:TE) (t:TA):TE:=λσ H Q=>to σ H λx H1=>rW K T x H1/\t σ H1 λxs H2=>r x xs H2 Q
variable{o e:bj}{es:List bj}{to:TE}{t:TA}{name:Str}{apos cpos:Pos}{T id:String}{r:V->List V->Hp->VK->Prop}
theorem rX (pa:PlainAttrs T) (slot:Slot T name id) (hty:typeOf (.builtin id)=pure (.type "method_descriptor")) (hm:CI X id r) (ho:PE X o to) (ha:PA X (e::es) t)
  (hbase:attributeBase o name X.env (eval o X.env)=eval o X.env:=by rfl)
  (hfew:((backTo cpos (ax (e::es) X.env)).all (λx=>!x.1)&&(backToKw cpos (keywordEach [] X.env)).all (λx=>x.1.isSome)
   && decide ((e::es).length+([]:List Keyword).length+(if([]:List Keyword).isEmpty then 0 else 1)<30))=true:=by rfl)
  (hline:(apos.endLine==cpos.line)=true:=by rfl) (hs:ax (e::es) X.env=(false,eval e X.env)::ax es X.env:=by rfl) (hplain:(backTo cpos (ax es X.env)).any (·.1)=false:=by rfl):
  PE X (.Call (.Attribute o name apos) (e::es) [] cpos) (OD X.K T r to t):=by
 intro pins s σ H Q I h;refine wpAny_Call_method_late hbase hfew hline rfl (aM (ho pins s σ H _ I h) λv s1 ⟨x,H1,I1,r1,ty,q1⟩=>?_);obtain⟨h1,h2⟩:=OC I1 r1 ty;refine⟨T,id,pa,slot,hty,h1,h2, ?_⟩;have hA:=ha cpos pins s1 σ H1 _ I1 q1;rw[hs]at hA ⊢;refine Calls.callWith_builtin (by show(false||(backTo cpos (ax es X.env)).any (·.1))=false;rw[hplain] <;> rfl) (wd ?_);exact aM hA λus s2 ⟨vs,H2,I2,r2,q2⟩=>hm pins s2 σ H2 x vs v us Q I2 r1 r2 q2
end
def wU (X:Cx) (id:String) (r:V->List V->Hp->VK->Prop):Prop:=
 ∀(pins:List (ah×Obj)) (s:af) (σ:St) (H:Hp) (x:V) (xs:List V) (v:ae) (us:List ae) (Q:VK),Inv X pins σ H s->RelV x v->yg xs us->r x xs H Q->
  wpAny (model X.prog X.w) X.A (call (.builtin id) (v::us)) (EP X pins σ Q) X.xe s
theorem yg.one:∀{x:V}{us:List ae},yg [x] us->∃u,us=[u]/\RelV x u
 |_,_,.cons r .nil=>⟨_,rfl,r⟩
theorem yg.eraseIdx:∀{xs:List V}{us:List ae}(i:Nat),yg xs us->yg (xs.eraseIdx i) (us.eraseIdx i)
 |_,_,_,.nil=>.nil
 |_,_,0,.cons _ t=>t
 |_,_,i+1,.cons r t=>.cons r (yg.eraseIdx i t)
theorem CP {α:Type}:∀(l:List α) (i:Nat),(l.eraseIdx i).length<=l.length
 | [],_=>ak _
 |_::_,0=>ue _
 |_::r,i+1=>Nat.succ_le_succ (CP r i)
section
variable{X:Cx}{pins:List (ah×Obj)}{σ:St}{H:Hp}{s:af}{l b:ah}{xs ys zs:List V}
theorem Inv.lset {its its':List ae}{n:Nat}{f:Array ae->Array ae}{t':Nat}(I:Inv X pins σ H s) (hH:H l=some (.lst xs))
  (e:s.heap.get? l=some { cls:=.type "list",data:=.seq its.toArray n }) (hf:f its.toArray=its'.toArray) (hv:yg ys its') (hz:ys.length<=bo):
  Inv X pins σ (aJ H l (.lst ys)) { s with heap:=s.heap.update l (ni f),toks:=t' }:=by
 have q:=we e f;rw[hf]at q;refine I.write (x:=l) (e:=l) (by rw[hH];exact trivial) (.inl rfl) (λb' u hb hu=>(lx s.heap (ni f) (cu hb)).trans hu) ⟨_,q⟩ ?_;exact⟨hz,its',_,hv,q⟩
theorem Inv.lnew {its:List ae}{t':Nat}(I:Inv X pins σ H s) (hv:yg ys its) (hz:ys.length<=bo):
  Inv X pins σ (aJ H s.heap.objs.size (.lst ys)) { s with heap:=s.heap.push { cls:=.type "list",data:=.seq its.toArray },toks:=t' }:=
 I.laid (λ_ _ q=>aj _ q) (ak _) ⟨hz,its,0,hv,av _ rfl⟩
theorem Inv.fresh (I:Inv X pins σ H s):H s.heap.objs.size=none:=I.hok.fresh (ak _)
theorem Inv.lstM (I:Inv X pins σ H s) (hH:H l=some (.lst xs)):xs.length<=bo/\∃(its:List ae) (n:Nat),yg xs its/\xs.length=its.length/\s.heap.get? l=some { cls:=.type "list",data:=.seq its.toArray n }:=by obtain⟨z,its,n,r,e⟩:=I.hok l _ hH;exact⟨z,its,n,r,r.length,e⟩
theorem OE {n:Nat}(h:n<=bo):o8 n=false:=by unfold o8;exact decide_eq_false (by omega)
end
section
variable{X:Cx}
def OF:V->List V->Hp->VK->Prop:=λx vs H Q=>∃l xs y,x=.ref l/\vs=[y]/\H l=some (.lst xs)/\xs.length<bo/\Q .non (aJ H l (.lst (xs++[y])))
theorem OG:wU X "list.append" OF:=by intro pins s σ H x vs v us Q I rx rv h;obtain⟨l,xs,y,rfl,rfl,hH,hz,q⟩:=h;cases rx;obtain⟨u,rfl,ru⟩:=rv.one;obtain⟨z,its,n,r,hl,e⟩:=I.lstM hH;refine u9 F.slot_list_append ⟨_,e,rfl⟩ F.entry_list_append (F.args_list_append_2 _ _) (PySem.list_append l its.toArray n u (by rw[au];omega)) ⟨e, ?_⟩;refine⟨.non,_,I.lset (its':=its++[u]) hH e (by simp) (r.append (.cons ru .nil)) ?_,rfl,q⟩;rw[de,wg];omega
def OH:V->List V->Hp->VK->Prop:=λx vs H Q=>∃l b xs zs,x=.ref l/\vs=[.ref b]/\H l=some (.lst xs)/\H b=some (.lst zs)/\xs.length+zs.length<=bo/\Q .non (aJ H l (.lst (xs++zs)))
theorem OI:wU X "list.extend" OH:=by
 intro pins s σ H x vs v us Q I rx rv h;obtain⟨l,b,xs,zs,rfl,rfl,hH,hB,hz,q⟩:=h;cases rx;obtain⟨u,rfl,ru⟩:=rv.one;cases ru;obtain⟨z,its,n,r,hl,e⟩:=I.lstM hH;obtain⟨z2,zf,n2,r2,hl2,e2⟩:=I.lstM hB;have hsz:its.toArray.size+zf.toArray.size<=bo:=by rw[au,au];omega
 have hlong:¬ (!its.toArray.isEmpty&&o8 (its.toArray.size+zf.toArray.size))=true:=by rw[OE hsz,ow];exact gu
 refine u9 F.slot_list_extend ⟨_,e,rfl⟩ F.entry_list_extend (F.args_list_extend_2 _ _)
  (AutoSeq1.list_extend_list_list_0 l its.toArray n b zf.toArray n2 hlong (by rw[au];omega) (by omega)) ⟨e,e2, ?_⟩
 refine⟨.non,_,I.lset (its':=its++zf) hH e (by simp) (r.append r2) ?_,rfl,q⟩;rw[de];omega
def OJ:V->List V->Hp->VK->Prop:=λx vs H Q=>∃l xs i k y,x=.ref l/\vs=[.int i]/\H l=some (.lst xs)/\-(2 ^ 63)<=i/\i<2 ^ 63/\seqIndex? i xs.length=some k/\xs[k]?=some y/\Q y (aJ H l (.lst (xs.eraseIdx k)))
theorem OK:wU X "list.pop" OJ:=by
 intro pins s σ H x vs v us Q I rx rv h;obtain⟨l,xs,i,k,y,rfl,rfl,hH,h1,h2,hk,hy,q⟩:=h;cases rx;obtain⟨u,rfl,ru⟩:=rv.one;obtain⟨t,rfl⟩:=ru;obtain⟨z,its,n,r,hl,e⟩:=I.lstM hH;obtain⟨w,hw,rw'⟩:=r.get hy;refine u9 F.slot_list_pop ⟨_,e,rfl⟩ F.entry_list_pop (F.args_list_pop_2 _ _)
  (MeetsSeq.list_pop_at l its.toArray n i t k w (fitsIndex_both h1 h2) (by rw[au,<-hl];exact hk) (by rw[<-gz];exact hw) (by rw[au];omega)) ⟨e, ?_⟩
 refine⟨y,_,I.lset (its':=its.eraseIdx k) hH e ?_ (r.eraseIdx k) ?_,rw',q⟩
 ·show its.toArray.eraseIdxIfInBounds k=(its.eraseIdx k).toArray;rw[List.eraseIdxIfInBounds_toArray]
 ·have:=CP xs k;omega
def CQ:R2:=λx y H Q=>∃l b xs zs,x=.ref l/\y=.ref b/\H l=some (.lst xs)/\H b=some (.lst zs)/\xs.length+zs.length<=bo/\∀p,H p=none->Q (.ref p) (aJ H p (.lst (xs++zs)))
theorem op_cat:zg X (binaryOp .Add) CQ:=by
 intro pins s σ H x y v u Q I rx ry h;obtain⟨l,b,xs,zs,rfl,rfl,hH,hB,hz,q⟩:=h;cases rx;cases ry;obtain⟨z,its,n,r,hl,e⟩:=I.lstM hH;obtain⟨z2,zf,n2,r2,hl2,e2⟩:=I.lstM hB;refine PySem.P.add_list e e2 ?_ (by rw[au,au];omega);have ea:its.toArray++zf.toArray=(its++zf).toArray:=by simp
 rw[ea];exact⟨.ref _,_,I.lnew (t':=s.toks) (r.append r2) (by rw[de];omega),rfl,q _ I.fresh⟩
end
section
variable{prog:bg}{w:cf}{A:bp}{E:ae->af->Prop}{s:af}
set_option maxRecDepth 100000 in
end
end L2
namespace Att
open PySem PySem.W PySem.Calls PyProof.Rows
theorem OL {P:Params}{h:ck}:∀(ns:xu) (vs:List ae),WellAll P h vs (ns.map WData.int)->km vs ns:=by
 intro ns
 induction ns with
 |nil=>intro vs w;rw[List.map_nil]at w;cases w;exact .nil
 |cons n ns ih=>
  intro vs w;rw[dy]at w
  cases w with
  |cons a b=>cases a;exact .cons _ _ (ih _ b)
theorem OM {l:OpenLaw}{n:Nat}(hn:l.most=some n) {P:Params}{h:ck}{args:List WData}{vals:List ae}
  (hpre:l.row.toRowW.claim.pre args=true) (hwl:WellAll P h vals args):
  ∃a vs ns,vals=[gm a]/\args=[WData.list (ns.map WData.int)]/\h.get? a=some { cls:=.type "list",data:=.seq vs.toArray }/\km vs ns/\ns.length<=n:=by
 have hsh:WShape.hasAll [] args [.list .int]=true:=(pre_splitW hpre).1;have hc:l.pre.holds [] { args:=args }=true:=(pre_splitW hpre).2;obtain⟨d,r,rfl,h1,h2⟩:=hasAllW_cons hsh;obtain rfl:=hasAllW_nil h2;obtain⟨xs,rfl,h3⟩:=hasW_list h1;obtain⟨ns,rfl⟩:=items_int h3;have hlen:ns.length<=n:=by
  unfold OpenLaw.pre at hc;have h4:(WTm.not (.lt (.lit (.int (n:Int))) (.len (.arg 0)))).holds [] { args:=[.list (ns.map .int)] }=true:=by have h4:=(holds_andW hc).1;rw[hn]at h4;exact h4
  have h5:=condW_of h4 (w_not (w_lt w_lit (w_len_list (w_arg rfl))));rw[bf]at h5;refine Nat.le_of_not_lt λq=>?_;have q':(n:Int)<((ns.length:Nat):Int):=by omega
  first
   |(rw[decide_eq_true q']at h5;exact absurd h5 (by decide))
   |(simp at h5;omega)
 cases hwl with
 |cons w1 w2=>
  cases w2
  cases w1 with
  |list ho zb=>exact⟨_,_,ns,rfl,rfl,ho,OL ns _ zb,hlen⟩
theorem ON (l:OpenLaw) (args:List WData):l.row.toRowW.claim.post args (.bool true) args=true:=
 postW_of (r:=l.row.toRowW) (X:=(true==true))
  (show WShape.has [] (.bool true) .bool=true by first|rfl|decide|simp[WShape.has,WShape.arms,WShape.armsAll])
  (show(WTm.eq .res (.lit (.bool true))).value [] { args:=args,res:=some (.bool true),after:=args }=some (.bool (true==true)) from w_eq_bool (w_res rfl) w_lit) rfl
theorem attach_call {l:OpenLaw}{n:Nat}{q:bg}{loose:xw}{XP:(Str->Option ae)->ck->Prop}{YP:cf->ck->Prop}{d:DefRec}
  (hn:l.most=some n) (hdf:d.params.defaults=[])
  (call:∀(w:cf) (s₀ s₁:af) (mg mb:Str->Option ae) (fa:ah) (o:Obj) (pm cd doc:ae) (a:ah) (vs:List ae) (ns:xu),
   Ground q loose [] XP w s₀ mg mb s₁.heap->YP w s₁.heap->
   s₁.heap.get? fa=some o->o.data=.func (docDef d.name d.params d.body d.scope pm cd doc)->s₁.heap.CodeRec cd d.name->mg d.name=some (.ref fa)->
   s₁.heap.get? a=some { cls:=.type "list",data:=.seq vs.toArray }->km vs ns->ns.length<=n->s₁.gens=#[]->
   codeAny (model l.prog w) callerA (.call (.ref fa) ⟨[.ref a],[]⟩) (λr s'=>r=.ok (.ret (.bool true))/\OldK s₁.heap s'.heap/\s'.os=s₁.os/\qc s'.gens) s₁):
  WalkO q loose XP YP l.row.toRowW d [] (λf vs=>xi f vs):=by
 intro w s₀ s₁ mg mb G Y fa o pm cd doc dV kV ho hd hcd hD hmg hg args vals as hpre hlay hrd hwl hlo;obtain rfl:dV=.none:=Dflts.none hD hdf;obtain rfl:kV=.none:=Dflts.noKw hD;obtain⟨a,vs,ns,rfl,rfl,hobj,hints,hlen⟩:=OM hn hpre hwl;refine enter_call (nc (call w s₀ s₁ mg mb fa o pm cd doc a vs ns G Y ho (fd_plain hd) hcd hmg hobj hints hlen hg) λr s' hq=>?_);obtain⟨rfl,h2,h3,h4⟩:=hq;exact⟨.inl ⟨.bool true,.bool true,[],rfl,λ_=>rfl,.bool true,ON l _,λ_=>⟨nt,λ_ hm=>(nomatch hm)⟩⟩,h2,h3,h4⟩
end Att
namespace L2
open PySem PySem.Spec PyProof.Rows
theorem pD:∀{vs:List ae}{ns:xu},km vs ns->yg (ns.map V.int) vs
 |_,_,.nil=>.nil
 |_,_,.cons n t h=>.cons ⟨t,rfl⟩ (pD h)
def kX (s:ja):ka:=match s with
 | .FunctionDef _ a _ _ _ _ _ _ _ _=>a
 |_=>{ posonlyargs:=[],args:=[],vararg:=none,kwonlyargs:=[],kw_defaults:=[],kwarg:=none,defaults:=[] }
def hY (s:ja):List ja:=match s with
 | .FunctionDef _ _ b _ _ _ _ _ _ _=>b
 |_=>[]
def aU (s:ja):gn:=match s with
 | .FunctionDef _ _ _ _ _ _ sc _ _ _=>sc
 |_=>{ kind:=.function,names:=[],isGenerator:=false,isCoroutine:=false }
abbrev E0:XK:=λ_ _ _=>False
structure zu (K:ar) (x qual:Str) (st:ja) (f:ah) (fd:cg):Prop where
 ex:∃(oc:ae) (od:Option ah) (kV doc pm:ae) (an:Option ah) (cdv ct:ae) (osl:Array (Option ae)),
  fd=nu x qual (kX st) (hY st) (aU st) .none kV doc pm an cdv ct/\K.lookup f=some ⟨oc,od,.func fd,osl⟩/\u7 K cdv qual=true
 kp:jt K (.ref f)=true
section
variable{P:bg}{w:cf}{K:ar}{mg:Str->Option ae}{base:ck}
theorem zu.binds {x qual:Str}{st:ja}{f:ah}{fd:cg}{ps:xw}(F:zu K x qual st f fd)
  (h:∀(kV doc pm:ae) (an:Option ah) (cdv ct:ae) (us:List ae),us.length=ps.length->bindArgs (nu x qual (kX st) (hY st) (aU st) .none kV doc pm an cdv ct) ⟨us,[]⟩=pure (ps.zip us)):Binds K fd ps []:=by
 obtain⟨oc,od,kV,doc,pm,an,cdv,ct,osl,rfl,lk,hcd⟩:=F.ex;exact .all (h kV doc pm an cdv ct)
theorem CS {x qual:Str}{st:ja}{f:ah}{oc:ae}{od an:Option ah}{osl:Array (Option ae)}{kV doc pm cdv ct:ae}(l:K.lookup f=some ⟨oc,od,.func (nu x qual (kX st) (hY st) (aU st) .none kV doc pm an cdv ct),osl⟩)
  (c:u7 K cdv qual=true) (k:jt K (.ref f)=true):zu K x qual st f (nu x qual (kX st) (hY st) (aU st) .none kV doc pm an cdv ct):=⟨⟨oc,od,kV,doc,pm,an,cdv,ct,osl,rfl,l,c⟩,k⟩
end
theorem CT {A B:Prop}(h:B):if false=true then A else B:=by rw[if_neg gu];exact h
theorem CU {A B:Prop}(h:A):if true=true then A else B:=by rw[if_pos rfl];exact h
def zi (H H':Hp):Prop:=∀b o,H b=some o->H' b=some o
theorem zi.refl (H:Hp):zi H H:=λ_ _ h=>h
theorem rY {β:Type}(x y:Str) (c:β) (acc:List (Str×β)):((y,c)::acc).lookup x=if x=y then some c else acc.lookup x:=by
 rw[gv]
 by_cases e:x=y
 ·have hb:(x==y)=true:=beq_iff_eq.mpr e;rw[hb,if_pos e]
 ·have hb:(x==y)=false:=beq_eq_false_iff_ne.mpr e;rw[hb,if_neg e]
def bY (env:Env):List (Str×jm)->List (Str×ah)->List (Str×ah)
 | [],acc=>acc
 |(x,k)::r,acc=>bY env r (if k==.free then(x,(env.cells.lookup x).getD 0)::acc else acc)
theorem wV {env:Env}:∀(l:List (Str×jm)) (acc:List (Str×ah)),(∀x,(x,bu)∈l->∃c,env.cells.lookup x=some c)->
  (forIn l acc (λ(x:Str×jm) (r:List (Str×ah))=>match x with
   |(name,kind)=>if(kind==bu)=true then(do let a <-cellOf env name;pure (pd ((name,a)::r)))else(pure (pd r):Sem (ForInStep (List (Str×ah))))))=(pure (bY env l acc):Sem (List (Str×ah)))
 | [],acc,_=>rfl
 |(x,k)::l,acc,h=>by
  rw[o9];dsimp only
  cases hk:k==bu with
  |true=>
   have e:k=.free:=by cases k <;> first|rfl|cases hk
   subst e;obtain⟨c,hc⟩:=h x (bc ..);rw[if_pos rfl,show bY env ((x,bu)::l) acc=bY env l ((x,c)::acc)by rw[bY,if_pos hk,hc];rfl,<-wV l ((x,c)::acc) λy hy=>h y (az _ hy)];unfold cellOf;rw[hc];rfl
  |false=>rw[if_neg (by simp),show bY env ((x,k)::l) acc=bY env l acc by rw[bY,hk];rfl,<-wV l acc λy hy=>h y (az _ hy)];rfl
theorem wW {env:Env}{scope:gn}(h:∀x,(x,bu)∈scope.names->∃c,env.cells.lookup x=some c):closureFor scope env=pure (bY env scope.names []):=by unfold closureFor;have:=wV (env:=env) scope.names [] h;show(forIn scope.names [] _ >>= λcs=>pure cs)=_;exact(congrArg (λ(m:Sem (List (Str×ah)))=>m >>= λcs=>pure cs) this)
theorem pE {env:Env}{x:Str}:∀(l:List (Str×jm)) (acc:List (Str×ah)),((x,bu)∈l∨acc.lookup x=some ((env.cells.lookup x).getD 0))->(bY env l acc).lookup x=some ((env.cells.lookup x).getD 0)
 | [],acc,h=>h.elim (λz=>nomatch z) id
 |(y,k)::l,acc,h=>by
  rw[bY]
  cases hk:k==bu with
  |true=>
   refine pE l _ ?_;rw[if_pos rfl]
   by_cases e:x=y
   ·subst e;right;rw[rY,if_pos rfl]
   ·rcases h with h|h
    ·rcases ba.mp h with h|h
     ·cases h;exact absurd rfl e
     ·exact .inl h
    ·right;rw[rY,if_neg e];exact h
  |false=>
   refine pE l _ ?_
   rcases h with h|h
   ·rcases ba.mp h with h|h
    ·cases h;simp at hk
    ·exact .inl h
   ·exact .inr h
structure BlkCells (h h':ck) (names:List (Str×jm)) (acc cs:List (Str×ah)):Prop where
 cases:∀x c,cs.lookup x=some c->acc.lookup x=some c∨(h.objs.size<=c/\h'.IsCell c none/\(x,dg)∈names)
 own:∀x,(x,dg)∈names->∃c,cs.lookup x=some c
 old:∀x,(x,dg)∉names->cs.lookup x=acc.lookup x
 inj:(∀x y c,acc.lookup x=some c->acc.lookup y=some c->x=y)->(∀x c,acc.lookup x=some c->c<h.objs.size)->∀x y c,cs.lookup x=some c->cs.lookup y=some c->x=y
theorem pF:∀(names:List (Str×jm)) (h:ck) (acc:List (Str×ah)),BlkCells h (pushCells h names) names acc (cellsFrom h.objs.size names acc)
 | [],h,acc=>{ cases:=λ_ _ e=>.inl e,own:=λ_ z=>(nomatch z),old:=λ_ _=>rfl,inj:=λa _=>a }
 |(y,k)::r,h,acc=>by
  cases hk:k==dg with
  |true=>
   have ek:k=.cell:=by cases k <;> first|rfl|cases hk
   subst ek;have ih:=pF r (h.push { cls:=.type "cell",data:=.cell none }) ((y,h.objs.size)::acc);have e1:pushCells h ((y,dg)::r)=pushCells (h.push { cls:=.type "cell",data:=.cell none }) r:=rfl;have e2:cellsFrom h.objs.size ((y,dg)::r) acc=cellsFrom (h.push { cls:=.type "cell",data:=.cell none }).objs.size r ((y,h.objs.size)::acc):=by rw[fi];rfl
   rw[e1,e2];have look:∀x,((y,h.objs.size)::acc).lookup x=if x=y then some h.objs.size else acc.lookup x:=λx=>rY ..
   refine⟨λx c e=>?_,λx hx=>?_,λx hx=>?_,λh1 h2 x z c ex ez=>?_⟩
   ·rcases ih.cases x c e with q|⟨q1,q2,q3⟩
    ·rw[look]at q
     by_cases exy:x=y
     ·rw[if_pos exy]at q;cases q;refine .inr ⟨ak _,⟨_,ly r _ _ _ (av _ rfl),rfl⟩,by rw[exy];exact bc ..⟩
     ·rw[if_neg exy]at q;exact .inl q
    ·rw[fi]at q1;exact .inr ⟨Nat.le_of_succ_le q1,q2,az _ q3⟩
   ·by_cases hr:(x,dg)∈r
    ·exact ih.own x hr
    ·rw[ih.old x hr,look]
     rcases ba.mp hx with z|z
     ·cases z;exact⟨_,if_pos rfl⟩
     ·exact absurd z hr
   ·rw[ih.old x λz=>hx (az _ z),look,if_neg]
    rintro rfl
    exact hx (bc ..)
   ·refine ih.inj ?_ ?_ x z c ex ez
    ·intro a b c ea eb;rw[look]at ea eb
     by_cases qa:a=y
     ·rw[if_pos qa]at ea;cases ea
      by_cases qb:b=y
      ·exact qa.trans qb.symm
      ·rw[if_neg qb]at eb;exact absurd (h2 b _ eb) (fy _)
     ·rw[if_neg qa]at ea
      by_cases qb:b=y
      ·rw[if_pos qb]at eb;cases eb;exact absurd (h2 a _ ea) (fy _)
      ·rw[if_neg qb]at eb;exact h1 a b c ea eb
    ·intro a c ea;rw[fi];rw[look]at ea
     by_cases qa:a=y
     ·rw[if_pos qa]at ea;cases ea;exact jh _
     ·rw[if_neg qa]at ea;exact jw (h2 a c ea)
  |false=>
   have ih:=pF r h acc;have e1:pushCells h ((y,k)::r)=pushCells h r:=by rw[pushCells,hk];rfl
   have e2:cellsFrom h.objs.size ((y,k)::r) acc=cellsFrom h.objs.size r acc:=by rw[cellsFrom,hk];rfl
   rw[e1,e2];have nk:∀x,(x,dg)∈(y,k)::r->(x,dg)∈r:=λx z=>by
    rcases ba.mp z with z|z
    ·cases z;simp at hk
    ·exact z
   exact⟨λx c e=>(ih.cases x c e).imp id λ⟨a,b,c⟩=>⟨a,b,az _ c⟩,λx hx=>ih.own x (nk x hx),λx hx=>ih.old x λz=>hx (az _ z),ih.inj⟩
def CV (scope:gn) (env:Env) (L:ah):Env:={ scope:=relabel scope env,locals:=L,globals:=env.globals,cells:=cellsFrom (L+1) scope.names (bY env scope.names []),qual:=env.qual,func:=none,code:=env.code,frame:=env.frame,builtins:=env.builtins }
theorem CW {M:vb}{A:bp}{E:ae->af->Prop}{s:af}{scope:gn}{env:Env}{cl:List (Str×ah)}{qual:Str}{g:ah}{Q:Env->af->Prop}
  (h:Q { scope:=scope,locals:=s.heap.objs.size,globals:=g,cells:=cellsFrom (s.heap.objs.size+1) scope.names cl,qual:=qual,func:=none,code:=env.code,frame:=env.frame,builtins:=env.builtins }
   { s with heap:=pushCells (s.heap.push { cls:=.type "dict",data:=.dict #[] }) scope.names }):
  wpAny M A (newFunctionEnv scope g cl [] qual none .none (some env)) Q E s:=by
 simp only[newFunctionEnv,Option.isSome_some,if_true];refine aa (wpAny_alloc ?_);refine aa (wpAny_layCells _ (λname kind cells=>by cases hkc:kind==dg <;> simp[hkc]) _ _ _ _ ?_);rw[show({ s with heap:=s.heap.push { cls:=.type "dict",data:=.dict #[] } }:af).heap.objs.size=s.heap.objs.size+1 from fi ..];exact aa (ai (ai h))
def cN (X:Cx) (scope:gn) (N:xw) (s:af) (H:Hp) (ex:List ah):Cx:={ X with N:=N,s₀:=s,H₀:=H,env:=CV scope X.env s.heap.objs.size,outer:=X.stack,stack:=X.stack,ex:=ex,fn:=λx=>scope.names.lookup x==some .cell,xe:=λ_ _=>False }
def lS (cap:List (Option Nat)) (σ:St):St:=cap.map λo=>match o with|some j=>(σ[j]?).getD none|none=>none
structure ze (X:Cx) (scope:gn) (N:xw) (cap:List (Option Nat)):Prop where
 kind:scope.kind=.function
 nd:∀x∈scope.names,x.2=.local->scope.names.lookup x.1=some .local
 len:cap.length=N.length
 free:∀x,(x,bu)∈scope.names->X.env.kindOf x=some .cell∨X.env.kindOf x=some .free
 apart:∀x,(x,bu)∈scope.names->(x,dg)∉scope.names
 cap:∀(i j:Nat) (x:Str),cap[i]?=some (some j)->N[i]?=some x->X.N[j]?=some x/\(x,bu)∈scope.names/\(relabel scope X.env).names.lookup x≠some .local
theorem wX {scope:gn}{env:Env}{x:Str}:∀{l:List (Str×jm)}{k:jm},(l.map λ(n,k)=>if(k==bu&&env.scope.kind==.function&&env.kindOf n==some .cell)then(n,dg)else(n,k)).lookup x=some k->
  (x,k)∈l∨(k=.cell/\(x,bu)∈l)
 | [],_,h=>by simp at h
 |(n,q)::r,k,h=>by
  have ih:=@wX scope env x r k;rw[dy]at h
  by_cases hc:(q==bu&&env.scope.kind==.function&&env.kindOf n==some .cell)=true
  ·have hq:q=.free:=by
    have:(q==bu)=true:=by
     cases z:q==bu with
     |true=>rfl
     |false=>rw[z]at hc;simp at hc
    cases q <;> first|rfl|cases this
   dsimp only at h;rw[if_pos hc,gv]at h
   cases e:x==n with
   |true=>rw[e]at h;have h':dg=k:=cq h;subst h';have ex:=beq_iff_eq.mp e;subst ex;subst hq;exact .inr ⟨rfl,bc ..⟩
   |false=>rw[e]at h;exact(ih h).imp (az _) λ⟨a,b⟩=>⟨a,az _ b⟩
  ·dsimp only at h;rw[if_neg hc,gv]at h
   cases e:x==n with
   |true=>rw[e]at h;have h':q=k:=cq h;subst h';have ex:=beq_iff_eq.mp e;subst ex;exact .inl (bc ..)
   |false=>rw[e]at h;exact(ih h).imp (az _) λ⟨a,b⟩=>⟨a,az _ b⟩
theorem rZ {env:Env}{x:Str}{c:ah}:∀(l:List (Str×jm)) (acc:List (Str×ah)),(bY env l acc).lookup x=some c->acc.lookup x=some c∨((x,bu)∈l/\c=(env.cells.lookup x).getD 0)
 | [],acc,h=>.inl h
 |(y,k)::l,acc,h=>by
  rw[bY]at h
  cases hk:k==bu with
  |true=>
   have ek:k=.free:=by cases k <;> first|rfl|cases hk
   subst ek;rw[if_pos hk]at h
   rcases rZ l _ h with q|⟨q1,q2⟩
   ·rw[rY]at q
    by_cases e:x=y
    ·rw[if_pos e]at q;subst e;exact .inr ⟨bc ..,(cq q).symm⟩
    ·rw[if_neg e]at q;exact .inl q
   ·exact .inr ⟨az _ q1,q2⟩
  |false=>rw[if_neg (by rw[hk];exact gu)]at h;exact(rZ l _ h).imp id λ⟨a,b⟩=>⟨az _ a,b⟩
section
variable{X:Cx}{pins:List (ah×Obj)}{σ:St}{H:Hp}{s:af}{scope:gn}{N:xw}{cap:List (Option Nat)}{ex:List ah}
theorem sC (I:Inv X pins σ H s) (C:ze X scope N cap) {x:Str}{c:ah}(e:(bY X.env scope.names []).lookup x=some c):(x,bu)∈scope.names/\X.env.cells.lookup x=some c:=by
 rcases rZ _ _ e with q|⟨q1,q2⟩
 ·cases q
 ·obtain⟨c',h'⟩:=I.ok.has x (C.free x q1);rw[h']at q2;subst q2;exact⟨q1,h'⟩
theorem sD (I:Inv X pins σ H s) (C:ze X scope N cap) {x:Str}{c:ah}(e:(CV scope X.env s.heap.objs.size).cells.lookup x=some c):
  (X.env.cells.lookup x=some c/\(x,bu)∈scope.names)∨(s.heap.objs.size<c/\(pushCells (s.heap.push { cls:=.type "dict",data:=.dict #[] }) scope.names).IsCell c none/\(x,dg)∈scope.names):=by
 have B:=pF scope.names (s.heap.push { cls:=.type "dict",data:=.dict #[] }) (bY X.env scope.names []);rw[fi]at B
 rcases B.cases x c e with q|⟨q1,q2,q3⟩
 ·obtain⟨a,b⟩:=sC I C q;exact .inl ⟨b,a⟩
 ·rw[fi]at q1;exact .inr ⟨q1,q2,q3⟩
theorem CY (I:Inv X pins σ H s) (C:ze X scope N cap) (hex:∀b∈ex,bU X pins H b/\b<s.heap.objs.size):(cN X scope N s H ex).Ok:=by
 have B:=pF scope.names (s.heap.push { cls:=.type "dict",data:=.dict #[] }) (bY X.env scope.names []);rw[fi]at B;have kf:∀x,(x,bu)∈scope.names->∃c,X.env.cells.lookup x=some c:=λx hx=>I.ok.has x (C.free x hx);refine⟨I.ok.mod,C.kind,I.ok.glob,I.ok.blt,ak _, ?_, ?_, ?_,I.ok.hd,I.ok.frames,.inl rfl, ?_,I.bs,da I.ok.bsz I.sz, ?_, ?_,I.stack,I.stkFree⟩
 ·refine B.inj (λx y c e1 e2=>?_) λx c e=>?_
  ·exact I.ok.inj x y c (sC I C e1).2 (sC I C e2).2
  ·obtain⟨v,q⟩:=I.cell x c (sC I C e).2;rw[fi];exact jw q.lt
 ·intro x hx;have hx':(relabel scope X.env).names.lookup x=some .cell∨(relabel scope X.env).names.lookup x=some .free:=hx;have mem:(x,dg)∈scope.names∨(x,bu)∈scope.names:=by
   rcases hx' with h|h
   ·rcases wX (scope:=scope) h with q|⟨_,q⟩
    ·exact .inl q
    ·exact .inr q
   ·rcases wX (scope:=scope) h with q|⟨z,q⟩
    ·exact .inr q
    ·exact .inr q
  by_cases hc:(x,dg)∈scope.names
  ·exact B.own x hc
  ·rcases mem with h|h
   ·exact absurd h hc
   ·exact⟨_,(B.old x hc).trans (pE _ _ (.inl h))⟩
 ·intro x c hf e;have hf':(scope.names.lookup x==some .cell)=true:=hf;have hm:(x,dg)∈scope.names:=ff (eq_of_beq hf')
  rcases sD I C e with⟨_,q⟩|⟨q,_⟩
  ·exact absurd hm (C.apart x q)
  ·exact fv q
 ·intro b hb;obtain⟨⟨f0,f1,f2,f3,f4,f5⟩,hlt⟩:=hex b hb;refine⟨aw hlt,λx c e z=>?_⟩
  rcases sD I C e with⟨q,_⟩|⟨q,_⟩
  ·exact f4 x c q z
  ·subst z;exact fy _ (wj q hlt)
 ·intro b o e hb;obtain⟨⟨f0,f1,f2,f3,f4,f5⟩,hlt⟩:=hex b hb
  rcases f3 with q|q
  ·exact I.ok.noex b o e q
  ·exact fy _ (aq (ao e) (da I.ok.bsz q))
 ·intro b hb z;obtain⟨⟨f0,f1,f2,f3,f4,f5⟩,hlt⟩:=hex b hb
  rcases ba.mp (I.stkSub b z)with q|q
  ·exact f1 q
  ·exact f2 q
theorem CZ (I:Inv X pins σ H s) (C:ze X scope N cap) (hex:∀b∈ex,bU X pins H b/\b<s.heap.objs.size):
  Inv (cN X scope N s H ex) pins (lS cap σ) H { s with heap:=pushCells (s.heap.push { cls:=.type "dict",data:=.dict #[] }) scope.names }:=by
 have B:=pF scope.names (s.heap.push { cls:=.type "dict",data:=.dict #[] }) (bY X.env scope.names []);rw[fi]at B;have kp:∀b o,s.heap.get? b=some o->(pushCells (s.heap.push { cls:=.type "dict",data:=.dict #[] }) scope.names).get? b=some o:=λb o e=>ly _ _ _ _ (aj _ e);have ns:(pushCells (s.heap.push { cls:=.type "dict",data:=.dict #[] }) scope.names).Ns s.heap.objs.size (λ_=>none):=⟨_,#[],_,ly _ _ _ _ (av _ rfl),rfl,(λe he=>absurd he (by simp)),λ_=>rfl⟩
 obtain⟨m,hn,hl⟩:=I.loc;refine⟨CY I C hex,rfl,I.bare,Un.kept kp,⟨_,ns,λi x v h1 h2 h3=>?_⟩,λx c e=>?_,I.hok.fresh (ak _),λx c e=>?_,λp hp=>?_,I.hok.kept kp, ?_⟩
 ·have h2':(cap.map λo=>match o with|some j=>(σ[j]?).getD none|none=>none)[i]?=some (some v):=h2;rw[dz]at h2'
  cases q:cap[i]? with
  |none=>rw[q]at h2';cases h2'
  |some o=>
   rw[q]at h2'
   cases o with
   |none=>cases h2'
   |some j=>
    have e1:(σ[j]?).getD none=some v:=cq h2';have e2:σ[j]?=some (some v):=by
     cases z:σ[j]? with
     |none=>rw[z]at e1;cases e1
     |some w=>rw[z]at e1;exact congrArg some e1
    obtain⟨c1,c2,c3⟩:=C.cap i j x q h1;have vis:mZ X.env.scope x:=by
     rcases C.free x c2 with z|z
     ·exact .inr (.inl z)
     ·exact .inr (.inr z)
    obtain⟨u,r,l⟩:=hl j x v c1 e2 vis;refine⟨u,r, ?_⟩
    rcases l with⟨hk,hm⟩|⟨hk,c,hc,hcell⟩
    ·rcases C.free x c2 with z|z
     ·rw[z]at hk;cases hk
     ·rw[z]at hk;cases hk
    ·refine .inr ⟨?_,c, ?_, ?_⟩
     ·have h3':mZ (relabel scope X.env) x:=h3
      rcases h3' with z|z|z
      ·exact absurd z c3
      ·exact .inl z
      ·exact .inr z
     ·have:=(B.old x (C.apart x c2)).trans (pE _ _ (.inl c2));rw[hc]at this;exact this
     ·obtain⟨o,ho,hd⟩:=hcell;exact⟨o,kp _ _ ho,hd⟩
 ·rcases sD I C e with⟨q,_⟩|⟨_,q,_⟩
  ·obtain⟨v,o,ho,hd⟩:=I.cell x c q;exact⟨v,o,kp _ _ ho,hd⟩
  ·exact⟨none,q⟩
 ·rcases sD I C e with⟨q,_⟩|⟨q,_⟩
  ·exact I.freeC x c q
  ·exact I.hok.fresh (fv q)
 ·obtain⟨a1,a2,a3,a4,a5⟩:=I.pin p hp;refine⟨kp _ _ a1,a2,aw (ao a1),λz=>?_,a5⟩
  rcases ba.mp (I.stkSub _ z)with q|q
  ·exact a3 q
  ·exact a4 q
 ·show(cap.map _).length=N.length;rw[bf];exact C.len
theorem DA (I:Inv X pins σ H s) (C:ze X scope N cap) (hex:∀b∈ex,bU X pins H b/\b<s.heap.objs.size):∀b∈ex,bU (cN X scope N s H ex) pins H b:=by intro b hb;obtain⟨⟨f0,f1,f2,f3,f4,f5⟩,hlt⟩:=hex b hb;have ok:=CY (N:=N) I C hex;exact⟨f0,(ok.exf b hb).1,ok.exfs b hb,.inl hb,(ok.exf b hb).2,f5⟩
theorem DB {σ':St}{H':Hp}{s':af}{h':ck}(I:Inv X pins σ H s) (hex:∀b∈ex,bU X pins H b/\b<s.heap.objs.size) (I':Inv (cN X scope N s H ex) pins σ' H' s') (hh:gg s.heap.objs.size s'.heap h'):
  Inv X pins σ H' { s' with heap:=h' }:=by
 have u:Un (cG X.stack) ex H H' s.heap s'.heap:=I'.base;have up:∀b o o',s.heap.get? b=some o->s'.heap.get? b=some o'->h'.get? b=some o':=λb o o' e e'=>(hh.2 b (aw (ao e))).trans e';have hL:H' s.heap.objs.size=none:=I'.free;refine I.call' (s':={ s' with heap:=h' }) (ch:=ex) I'.os ⟨λb o q n hb hx=>up b o o q (u.keep b o q n hb hx),λb o q n hb hx=>?_,u.free,λb o q hx=>?_,u.tups,u.frzs,u.tbls⟩ (λb o e=>?_) I'.bare λb hb=>?_
 ·obtain⟨sl,e⟩:=u.slot b o q n hb hx;exact⟨sl,up b o _ q e⟩
 ·obtain⟨o',e⟩:=u.there b o q hx;exact⟨o',up b o _ q e⟩
 ·refine(I'.hok b o e).stay (λc v hc q=>(hh.2 c ?_).trans q) (λ_ q=>q) λ_ _ q=>q
  rcases hc with z|z
  ·rw[z];rintro rfl;rw[hL]at e;cases e
  ·rintro rfl;rw[hL]at z;cases z
 ·obtain⟨⟨f0,f1,f2,f3,f4,f5⟩,hlt⟩:=hex b hb;exact⟨f3,f1,f4,f5⟩
theorem Inv.adopt {a:ah}{o:HO}(I:Inv X pins σ H s) (f:bU X pins H a) (ha:X.s₀.heap.objs.size<=a) (new:yi X.prog X.w (aJ H a o) s.heap a o):Inv X pins σ (aJ H a o) s:=by
 obtain⟨f0,f1,f2,f3,f4,f5⟩:=f;have ne0:∀b ob,X.s₀.heap.get? b=some ob->b≠a:=λb ob e z=>by subst z;exact fy _ (aq (ao e) ha)
 refine⟨I.ok,I.os,I.bare,⟨I.base.keep,I.base.slot,λb ob e n hx=>by rw[aT (ne0 b ob e)];exact I.base.free b ob e n hx,I.base.there,λb xs e=>?_,λb ob u e=>?_,λb ps e=>?_⟩,I.loc,I.cell,by rw[aT (cu f1)];exact I.free,
  λx c e=>by rw[aT (f4 x c e)];exact I.freeC x c e,λp hp=>?_,λb u e=>?_,I.len⟩
 ·have:=I.base.tups b xs e;rw[aT (dJ this f0)];exact this
 ·have:=I.base.frzs b ob u e;rw[aT (dJ this f0)];exact this
 ·obtain⟨more,this⟩:=I.base.tbls b ps e;exact⟨more,by rw[aT (dJ this f0)];exact this⟩
 ·obtain⟨a1,a2,a3,a4,a5⟩:=I.pin p hp;exact⟨a1,by rw[aT (f5 p hp)];exact a2,a3,a4,a5⟩
 ·by_cases hb:b=a
  ·subst hb;rw[bO]at e;cases e;exact new
  ·rw[aT hb]at e;exact(I.hok b u e).stay (λ_ _ _ q=>q) (λc q=>by rw[aT (dJ q f0)];exact q) λc xs q=>by rw[aT (dJ q f0)];exact q
end
def AccAt (s:af) (D:ah) (xs:List V):Prop:=xs.length<=bo/\∃(its:List ae) (n:Nat),yg xs its/\s.heap.get? D=some { cls:=.type "list",data:=.seq its.toArray n }
abbrev TC:=St->Hp->List V->(St->Hp->List V->Prop)->Prop
def PCl (X:Cx) (D:ah) (m:Sem Unit) (t:TC):Prop:=
 ∀(pins:List (ah×Obj)) (s:af) (σ:St) (H:Hp) (xs:List V) (K:St->Hp->List V->Prop),Inv X pins σ H s->AccAt s D xs->bU X pins H D->t σ H xs K->
  wpAny (model X.prog X.w) X.A m (λ_ s'=>∃σ' H' xs',Inv X pins σ' H' s'/\AccAt s' D xs'/\H' D=none/\K σ' H' xs') X.xe s
section
variable{X:Cx}{D:ah}
theorem AccAt.obj {s:af}{xs:List V}(a:AccAt s D xs):∃o,s.heap.get? D=some o/\∀v,o.data≠.cell v:=by obtain⟨_,its,n,_,e⟩:=a;exact⟨_,e,λv z=>nomatch z⟩
theorem Inv.pinD {pins:List (ah×Obj)}{s:af}{σ:St}{H:Hp}{xs:List V}(I:Inv X pins σ H s) (a:AccAt s D xs) (f:bU X pins H D):Inv X (pins++hW [D] s.heap) σ H s:=
 I.pinned (λb hb=>by (have e:b=D:=by simpa using hb);subst e;exact f) λb hb=>by
  have e:b=D:=by simpa using hb
  subst e;exact a.obj
theorem Inv.atD {pins:List (ah×Obj)}{s s':af}{σ':St}{H':Hp}{xs:List V}(a:AccAt s D xs) (I:Inv X (pins++hW [D] s.heap) σ' H' s'):AccAt s' D xs/\H' D=none:=by obtain⟨z,its,n,r,e⟩:=a;have:=I.pin (D,_) (br _ (br _ (lR (by simp) e)));exact⟨⟨z,its,n,r,this.1⟩,this.2.1⟩
def DC (te:TE):TC:=λσ H xs K=>te σ H λv H1=>xs.length<bo/\K σ H1 (xs++[v])
theorem OO {elt:bj}{te:TE}(he:PE X elt te):PCl X D (do let x <-eval elt X.env;let _ <-call (.builtin "list.append") [.ref D,x];pure ()) (DC te):=by
 intro pins s σ H xs K I a f h;refine aa (aM (he _ s σ H _ (I.pinD a f) h) λu s1 ⟨v,H1,I1,r1,hz,q1⟩=>?_);obtain⟨a1,n1⟩:=Inv.atD a I1;have I1':=I1.unpinned;obtain⟨z,its,n,r,e⟩:=a1;have hl:=r.length;refine aa (u9 F.slot_list_append ⟨_,e,rfl⟩ F.entry_list_append (F.args_list_append_2 _ _) (PySem.list_append D its.toArray n u (by rw[au];omega)) ⟨e, ?_⟩);have q:=we e (·.push u);have e2:its.toArray.push u=(its++[u]).toArray:=by simp
 rw[e2]at q;refine ai ⟨σ,H1,xs++[v], ?_,⟨by rw[de,wg];omega,its++[u],_,r.append (.cons r1 .nil),q⟩,n1,q1⟩;obtain⟨f0,f1,f2,f3,f4,f5⟩:=f;exact I1'.turned (t':=s1.toks) (λb o hb z=>(lx s1.heap _ (cu hb)).trans z) n1 f1 f3 f4 f5
def DD (ifs:List bj) (env:Env):Sem Bool:=forIn ifs true λc r=>if r=true then do let ok <-isTrue c env (eval c env);pure (pd ok)else pure (pd r)
def PTs (X:Cx) (ifs:List bj) (t:TT):Prop:=∀(pins:List (ah×Obj)) (s:af) (σ:St) (H:Hp) (Q:Bool->Hp->Prop),Inv X pins σ H s->t σ H Q->wpAny (model X.prog X.w) X.A (DD ifs X.env) (TP X pins σ Q) X.xe s
def OP:TT:=λ_ H Q=>Q true H
theorem OQ:PTs X [] OP:=λpins s σ H Q I h=>wpAny_tests_nil ⟨H,I,h⟩
theorem OR {c:bj}{t:TT}(h:PT X c t):PTs X [c] t:=λpins s σ H Q I q=>wpAny_tests_one (h pins s σ H Q I q)
def lT (p:Pos) (it:ae) (tg:bj) (ifs:List bj) (env:Env) (inner:Sem Unit) (c:Code):Sem PySem.Fin:=do
 standAt p
 match <-pyNext it with
 |none=>pure (.done .next)
 |some v=>do
  letOwnedTupleGo tg it v
  assign tg env v
  let ok <-DD ifs env
  if ok=true then do inner;again c
  else again c
def sE (J:It) (g:TG) (tt:TT) (inner:TC) (K:St->Hp->List V->Prop) (σ:St) (H:Hp) (xs:List V):Prop:=
 ∃W:Nat->Nat->St->Hp->List V->Prop,(∃m,W 0 m σ H xs)/\∀i m σ H xs,W i m σ H xs->
  (J.stop i H/\K σ H xs)∨(J.go i H/\∃N:St->Hp->List V->Prop,(∀σ' H' xs',N σ' H' xs'->∃m',m'<m/\W (i+1) m' σ' H' xs') /\
   ∀x H',J.yld i H x H'->g x σ H' λσ2 H2=>tt σ2 H2 λb H3=>if b=true then inner σ2 H3 xs N else N σ2 H3 xs)
theorem OS {elt:bj}{gens:List oi}{sc:gn}{ps:Pos}{d:Nat}{it:ah}{tg:bj}{ifs:List bj}{p:Pos}{inner:Sem Unit}{g:TG}{tt:TT}{ti:TC}{J:It}{fp:List ah}{tn:Nat->ck->Prop}
  (hx:X.xe=λ_ _=>False) (hc:X.calm=true)
  (ht:compTurn (.ListComp elt gens sc ps) d (.ref it) (.ref D) X.env=lT p (.ref it) tg ifs X.env inner (.compLoop (.ListComp elt gens sc ps) d (.ref it) (.ref D) X.env))
  (hg:PG X tg g) (htt:PTs X ifs tt) (hi:PCl X D inner ti) (T:Turn X.prog X.w X.K tg J fp it tn)
  {pins:List (ah×Obj)}{s:af}{σ:St}{H:Hp}{xs:List V}{K:St->Hp->List V->Prop}{R:u6->af->Prop}(I:Inv X pins σ H s) (a:AccAt s D xs) (f:bU X pins H D) (st:tn 0 s.heap) (hf:∀b∈fp,bU X pins H b) (hD:D∉fp)
  (h:sE J g tt ti K σ H xs) (hR:∀σ' H' xs' s',Inv X pins σ' H' s'->AccAt s' D xs'->H' D=none->K σ' H' xs'->R (.ok .next) s'):
  codeAny (model X.prog X.w) X.A (.compLoop (.ListComp elt gens sc ps) d (.ref it) (.ref D) X.env) R s:=by
 obtain⟨W,⟨m0,w0⟩,turn⟩:=h;have stat:∀{H':Hp},(∀b∈fp,H' b=none)->∀b∈fp,bU X pins H' b:=λhn b hb=>⟨hn b hb,(hf b hb).2⟩
 have statD:∀{H':Hp},H' D=none->bU X pins H' D:=λhn=>⟨hn,f.2⟩
 refine codeAny_loop rfl (λn s'=>∃i σ' H' xs',Inv X pins σ' H' s'/\AccAt s' D xs'/\H' D=none/\tn i s'.heap/\(∀b∈fp,H' b=none)/\W i n σ' H' xs') ?_ m0 ⟨0,σ,H,xs,I,a,f.1,st,λb hb=>(hf b hb).1,w0⟩
 rintro n s3 ⟨i,σ3,H3,xs3,I3,a3,n3,st3,fr3,w3⟩
 show wpAny _ X.A ((compTurn (.ListComp elt gens sc ps) d (.ref it) (.ref D) X.env).onRaise (λx=>do noteFrame x X.env;theTreesLotGoes x)) _ _ s3;rw[ht];refine oj (je (Q:=λfin s'=>match fin with | .done f=>R (.ok f) s' | .again c'=>c'=.compLoop (.ListComp elt gens sc ps) d (.ref it) (.ref D) X.env/\∃m,m<n/\∃i σ' H' xs',Inv X pins σ' H' s'/\AccAt s' D xs'/\H' D=none/\tn i s'.heap/\(∀b∈fp,H' b=none)/\W i m σ' H' xs') (E:=λ_ _=>False) ?_ (λ_ _ z=>z) λ_ _ z=>z.elim);unfold lT;refine aa (lh (aa ?_));have xe':∀{α:Type}{m:Sem α}{Q:α->af->Prop}{s:af},wpAny (model X.prog X.w) X.A m Q X.xe s->wpAny (model X.prog X.w) X.A m Q (λ_ _=>False) s:=λ{α m Q s} z=>by rw[hx]at z;exact z
 have I3':=I3.pinD a3 (statD n3);have fr3':∀b∈fp,bU X (pins++hW [D] s3.heap) H3 b:=λb hb=>by
  obtain⟨g0,g1,g2,g3,g4,g5⟩:=stat fr3 b hb;refine⟨g0,g1,g2,g3,g4,λp hp=>?_⟩
  rcases fg.mp hp with z|z
  ·exact g5 p (nr _ z)
  ·rcases fg.mp z with z|z
   ·exact g5 p (br _ z)
   ·have:=(wG z).1;have e:p.1=D:=by simpa using this
    rw[e];rintro rfl;exact hD hb
 rcases turn i n σ3 H3 xs3 w3 with⟨stop,qn⟩|⟨go,N,hN,step⟩
 ·refine aM (T.done X rfl rfl rfl hc i _ s3 σ3 H3 (λ_ _=>False) I3' fr3' st3 stop) λr s4 ⟨hr,I4⟩=>?_;subst hr;obtain⟨a4,n4⟩:=Inv.atD a3 I4;exact ai (hR σ3 H3 xs3 s4 I4.unpinned a4 n4 qn)
 ·refine aM (T.item X rfl rfl rfl hc i _ s3 σ3 H3 (λ_ _=>False) I3' fr3' st3 go) λr s4 ⟨u,hr,h4⟩=>?_;subst hr;refine aa (aM h4 λ_ s5 ⟨x,H5,I5,r5,y5,st5,fr5⟩=>?_);obtain⟨a5,n5⟩:=Inv.atD a3 I5;have I5u:=I5.unpinned;have I5p:=I5u.pinned (stat fr5) (T.obj _ _ st5);have fD5:bU X (pins++hW fp s5.heap) H5 D:=by
   obtain⟨g0,g1,g2,g3,g4,g5⟩:=statD n5;refine⟨g0,g1,g2,g3,g4,λp hp=>?_⟩
   rcases fg.mp hp with z|z
   ·exact g5 p (nr _ z)
   ·rcases fg.mp z with z|z
    ·exact g5 p (br _ z)
    ·rintro rfl;exact hD (wG z).1
  have I5':=I5p.pinD a5 fD5;refine aa (xe' (aM (hg _ s5 σ3 H5 x u _ I5' r5 (step x H5 y5)) λ_ s6 ⟨σ6,H6,I6,q6⟩=>?_));obtain⟨a6,n6⟩:=Inv.atD a5 I6;have pin':∀{s σ H},Inv X (pins++hW fp s5.heap) σ H s->tn (i+1) s.heap/\∀b∈fp,H b=none:=λ{s σ H} J=>by refine⟨T.keep _ _ _ st5 λb hb o e=>(J.pin (b,o) (br _ (br _ (lR hb e)))).1,λb hb=>?_⟩;obtain⟨o,e,d⟩:=T.obj _ _ st5 b hb;exact(J.pin (b,o) (br _ (br _ (lR hb e)))).2.1
  have fD6:bU X (pins++hW fp s5.heap) H6 D:=⟨n6,fD5.2⟩
  have I6u:=I6.unpinned;have I6p:=I6u.pinD a6 fD6;refine aa (xe' (aM (htt _ s6 σ6 H6 _ I6p q6) λb s7 ⟨H7,I7,q7⟩=>?_));obtain⟨a7,n7⟩:=Inv.atD a6 I7;have I7u:=I7.unpinned;have fin:∀{s8 σ8 H8 xs8},Inv X (pins++hW fp s5.heap) σ8 H8 s8->AccAt s8 D xs8->H8 D=none->N σ8 H8 xs8->
    ∃m,m<n/\∃i σ' H' xs',Inv X pins σ' H' s8/\AccAt s8 D xs'/\H' D=none/\tn i s8.heap/\(∀b∈fp,H' b=none)/\W i m σ' H' xs':=λ{s8 σ8 H8 xs8} J a8 n8 q8=>by
   obtain⟨m',hm,w8⟩:=hN σ8 H8 xs8 q8;obtain⟨t8,fr8⟩:=pin' J;exact⟨m',hm,i+1,σ8,H8,xs8,J.unpinned,a8,n8,t8,fr8,w8⟩
  cases b with
  |true=>
   rw[if_pos rfl]at q7 ⊢;have fD7:bU X (pins++hW fp s5.heap) H7 D:=⟨n7,fD5.2⟩
   refine aa (xe' (aM (hi _ s7 σ6 H7 xs3 N I7u a7 fD7 q7) λ_ s8 ⟨σ8,H8,xs8,I8,a8,n8,q8⟩=>?_));exact ai ⟨rfl,fin I8 a8 n8 q8⟩
  |false=>rw[if_neg gu]at q7 ⊢;exact ai ⟨rfl,fin I7u a7 n7 q7⟩
end
theorem OT (elt tg iter:bj) (ifs:List bj) (sc:gn) (ps:Pos) (it:ae) (D:ah) (env:Env):
  compTurn (.ListComp elt [⟨tg,iter,ifs,0⟩] sc ps) 0 it (.ref D) env =
   lT iter.pos it tg ifs env (do let x <-eval elt env;let _ <-call (.builtin "list.append") [.ref D,x];pure ()) (.compLoop (.ListComp elt [⟨tg,iter,ifs,0⟩] sc ps) 0 it (.ref D) env):=by rfl
section
variable{X:Cx}{D:ah}
theorem OU {prog:bg}{w:cf}{A:bp}{R:u6->af->Prop}{s:af}{elt:bj}{gens:List oi}{sc:gn}{ps:Pos}{d:Nat}{it acc:ae}{env:Env}(ha:((gens)[d]?).elim false (·.is_async != 0)=false)
  (h0:codeAny (model prog w) A (.compLoop (.ListComp elt gens sc ps) d it acc env) R s)
  (h:wpAny (model prog w) A (pyIter it) (λit' s'=>codeAny (model prog w) A (.compLoop (.ListComp elt gens sc ps) d it' acc env) R s') (λ_ _=>False) s):
  codeAny (model prog w) A (.compStart (.ListComp elt gens sc ps) d it acc env) R s:=by
 refine codeAny_of_tree ?_;show wpAny _ _ ((compStart (.ListComp elt gens sc ps) d it acc env).onRaise (λx=>do noteFrame x env;standAt theWindowsPlace)) _ _ s;refine wpAny_notedAt (je (E:=λ_ _=>False) ?_ (λ_ _ z=>z) λ_ _ z=>z.elim);unfold compStart;rw[show((clausesOf (.ListComp elt gens sc ps))[d]?).elim false (·.is_async != 0)=false from ha];simp only[bz,if_false];refine aa (ku (wpAny_ite ?_))
 split
 ·first
   |exact aa (ai (ai (And.intro rfl h0)))
   |exact ai (And.intro rfl h0)
 ·have fin:∀s:af,wpAny (model prog w) A (pyIter it) (λit' s'=>codeAny (model prog w) A (.compLoop (.ListComp elt gens sc ps) d it' acc env) R s') (λ_ _=>False) s->
    wpAny (model prog w) A (do let it' <-pyIter it;again (.compLoop (.ListComp elt gens sc ps) d it' acc env)) (λfin s'=>match fin with | .done f=>R (.ok f) s' | .again c=>c.quiet=true/\codeAny (model prog w) A c R s') (λ_ _=>False) s:=λs h=>aa (je h (λit' s' h'=>ai ⟨rfl,h'⟩) λ_ _ x=>x)
  refine aa (qu ?_);have ec:clausesOf (.ListComp elt gens sc ps)=gens:=rfl;rw[ec]
  cases q:gens[d]? with
  |none=>exact fin s h
  |some g=>exact aa (lh (fin s h))
end
def DE (wi:TI) (cap:List (Option Nat)) (g:TG) (tt:TT) (inner:TC):TE:=λσ H Q=>wi σ H λJ H1=>sE J g tt inner (λ_ H' xs=>∀p,H' p=none->Q (.ref p) (aJ H' p (.lst xs))) (lS cap σ) H1 []
section
variable{X:Cx}
theorem OV {elt:bj}{gens:List oi}{sc:gn}{ps:Pos}{tg iter:bj}{ifs:List bj}{rest:List oi}{inner:ah->Env->Sem Unit}{g:TG}{tt:TT}{ti:TC}{N:xw}{cap:List (Option Nat)}{E:ae->af->Prop}
  (hc:X.calm=true) (C:ze X sc N cap) (eg:gens=⟨tg,iter,ifs,0⟩::rest)
  (ht:∀it D env,compTurn (.ListComp elt gens sc ps) 0 (.ref it) (.ref D) env=lT iter.pos (.ref it) tg ifs env (inner D env) (.compLoop (.ListComp elt gens sc ps) 0 (.ref it) (.ref D) env))
  (hg:∀s H ex,PG (cN X sc N s H ex) tg g) (htt:∀s H ex,PTs (cN X sc N s H ex) ifs tt)
  {pins:List (ah×Obj)}{s2:af}{σ:St}{H2:Hp}(zv:∀s ex D,Inv X pins σ H2 s->(∀b∈ex,bU X pins H2 b/\b<s.heap.objs.size)->PCl (cN X sc N s H2 ex) D (inner D (cN X sc N s H2 ex).env) ti)
  {K:St->Hp->List V->Prop}{it:ah}{fp:List ah}{tn:Nat->ck->Prop}{J:It}(I2:Inv X pins σ H2 s2) (T:Turn X.prog X.w X.K tg J fp it tn) (st2:tn 0 s2.heap) (f2:∀b∈fp,bU X pins H2 b)
  (lp:sE J g tt ti K (lS cap σ) H2 []) {R:ae->ah->u6->af->Prop}
  (hR:∀σ' H' xs (s3 s':af) (C D:ah),X.s₀.heap.objs.size<=D->C=s3.heap.objs.size->(∃m,s'.heap.Ns C m)->AccAt s' D xs->bU X pins H' D->bU X pins H' C->D<C->(∀h',gg C s'.heap h'->Inv X pins σ H' { s' with heap:=h' })->K σ' H' xs->R (.ref D) C (.ok .next) s'):
  wpAny (model X.prog X.w) X.A (newList []) (λacc s3=>wpAny (model X.prog X.w) X.A (newFunctionEnv sc X.env.globals (bY X.env sc.names []) [] X.env.qual none .none (some X.env)) (λcenv s4=>codeAny (model X.prog X.w) X.A (.compStart (.ListComp elt gens sc ps) 0 (.ref it) acc { cenv with scope:=relabel sc X.env }) (R acc cenv.locals) s4) E s3) E s2:=by
 refine du (CW ?_);dsimp only;generalize hs3:({ s2 with heap:=s2.heap.push { cls:=.type "list",dict:=none,data:=.seq ([]:List ae).toArray } }:af)=s3;have kp:∀b o,s2.heap.get? b=some o->s3.heap.get? b=some o:=λb o e=>by rw[<-hs3];exact aj _ e
 have I3:Inv X pins σ H2 s3:=by rw[<-hs3];exact I2.kept (t':=s2.toks) λb o e=>aj _ e
 have eD:s3.heap.get? s2.heap.objs.size=some { cls:=.type "list",data:=.seq ([]:List ae).toArray 0 }:=by rw[<-hs3];exact av _ rfl
 have nD:H2 s2.heap.objs.size=none:=I2.hok.fresh (ak _);have fD:bU X pins H2 s2.heap.objs.size:=I2.fpOk (ak _) nD;have hlt:s2.heap.objs.size<s3.heap.objs.size:=ao eD;have hex:∀b∈s2.heap.objs.size::fp,bU X pins H2 b/\b<s3.heap.objs.size:=λb hb=>by
  rcases ba.mp hb with rfl|hb
  ·exact⟨fD,hlt⟩
  ·obtain⟨o,e,_⟩:=T.obj 0 _ st2 b hb;exact⟨f2 b hb,ao (kp b o e)⟩
 have hDfp:s2.heap.objs.size∉fp:=λz=>by obtain⟨o,e,_⟩:=T.obj 0 _ st2 _ z;exact fy _ (ao e)
 have I4:=CZ (N:=N) (ex:=s2.heap.objs.size::fp) I3 C hex;have F4:=DA (N:=N) I3 C hex;have st4:tn 0 (pushCells (s3.heap.push { cls:=.type "dict",data:=.dict #[] }) sc.names):=T.keep 0 _ _ st2 λb hb o e=>ly _ _ _ _ (aj _ (kp b o e));have a4:AccAt { s3 with heap:=pushCells (s3.heap.push { cls:=.type "dict",data:=.dict #[] }) sc.names } s2.heap.objs.size []:=⟨iq _,[],0,.nil,ly _ _ _ _ (aj _ eD)⟩
 have loop:codeAny (model X.prog X.w) X.A (.compLoop (.ListComp elt gens sc ps) 0 (.ref it) (.ref s2.heap.objs.size) (cN X sc N s3 H2 (s2.heap.objs.size::fp)).env) (R (.ref s2.heap.objs.size) s3.heap.objs.size)
   { s3 with heap:=pushCells (s3.heap.push { cls:=.type "dict",data:=.dict #[] }) sc.names }:=by
  refine OS (X:=cN X sc N s3 H2 (s2.heap.objs.size::fp)) rfl hc (ht it _ _) (hg _ _ _) (htt _ _ _) (zv _ _ _ I3 hex) T I4 a4 (F4 _ (bc ..)) st4 (λb hb=>F4 b (az _ hb)) hDfp lp λσ' H' xs' s' I' a' n' k'=>?_;obtain⟨m,hn,_⟩:=I'.loc;exact hR σ' H' xs' s3 s' _ _ (da I2.sz (ak _)) rfl ⟨m,hn⟩ a' ⟨n',fD.2⟩ (I3.fpOk (ak _) I'.free) hlt (λh' hh=>DB I3 hex I' hh) k'
 have ha:((gens)[0]?).elim false (·.is_async != 0)=false:=by rw[eg];rfl
 subst hs3;exact OU ha loop (T.self _ 0 _ _ _ st4 loop)
theorem OW {elt:bj}{gens:List oi}{sc:gn}{ps:Pos}{tg iter:bj}{ifs:List bj}{rest:List oi}{inner:ah->Env->Sem Unit}{wi:TI}{g:TG}{tt:TT}{ti:TC}{N:xw}{cap:List (Option Nat)}
  (hc:X.calm=true) (C:ze X sc N cap) (eg:gens=⟨tg,iter,ifs,0⟩::rest)
  (ht:∀it D env,compTurn (.ListComp elt gens sc ps) 0 (.ref it) (.ref D) env=lT iter.pos (.ref it) tg ifs env (inner D env) (.compLoop (.ListComp elt gens sc ps) 0 (.ref it) (.ref D) env))
  (hi:PI X tg iter wi) (hg:∀s H ex,PG (cN X sc N s H ex) tg g) (htt:∀s H ex,PTs (cN X sc N s H ex) ifs tt) (zv:∀s H ex D,PCl (cN X sc N s H ex) D (inner D (cN X sc N s H ex).env) ti)
  (hs:∀x,foldedSetIterable iter X.env x=pure x):PE X (.ListComp elt gens sc ps) (DE wi cap g tt ti):=by
 intro pins s σ H Q I h;rw[eval_ListComp];have Bb:closureFor sc X.env=pure (bY X.env sc.names []):=wW λx hx=>I.ok.has x (C.free x hx);have e1:firstAsync gens=false:=by rw[eg];rfl
 have e2:firstIter gens X.env=eval iter X.env:=by rw[eg];rfl
 rw[e1,e2];refine xj (use:=none) (g:=⟨tg,iter,ifs,0⟩) (gs:=rest) (by rw[eg];rfl) hs Bb C.kind C.nd (aM (hi pins s σ H _ I h) λv s1 h1=>aM h1 λitv s2 h2=>?_);obtain⟨it,fp,tn,J,H2,e,I2,T,st2,f2,lp⟩:=h2;subst e;refine OV (N:=N) (inner:=inner) (R:=λacc C=>compPost (model X.prog X.w) X.A X.xe none (EP X pins σ Q) acc C) hc C eg ht hg htt (λs ex D _ _=>zv s _ ex D) I2 T st2 f2 lp ?_;intro σ' H' xs s3 s' C D hD0 hC hn a f fC hDC zo k;obtain⟨m,hn⟩:=hn;refine⟨m,hn,λh' hh=>?_⟩;have I5:=zo h' hh;obtain⟨hz,its,n,r,eD⟩:=a;have eD':h'.get? D=some { cls:=.type "list",data:=.seq its.toArray n }:=(hh.2 D (aw hDC)).trans eD;refine⟨.ref D,aJ H' D (.lst xs),I5.adopt f hD0 ⟨hz,its,n,r,eD'⟩,rfl,k D f.1⟩
end
inductive Dt where
 |non|bl (b:Bool)|int (i:Int)|str (x:Str)|tup (xs:List Dt)|lst (xs:List Dt)|dct
mutual
def Den (P:ah->Prop) (H:Hp):Dt->V->Prop
 | .non,v=>v=.non
 | .bl b,v=>v=.bl b
 | .int i,v=>v=.int i
 | .str x,v=>v=.str x
 | .tup ds,v=>∃a vs,v=.ref a/\H a=some (.tup vs)/\yp P H ds vs
 | .lst ds,v=>∃a vs,v=.ref a/\P a/\H a=some (.lst vs)/\yp P H ds vs
 | .dct,v=>∃a,v=.ref a/\P a/\H a=some (.dK [])
def yp (P:ah->Prop) (H:Hp):List Dt->List V->Prop
 | [],vs=>vs=[]
 |d::ds,vs=>∃v r,vs=v::r/\Den P H d v/\yp P H ds r
end
theorem yp.length {P:ah->Prop}{H:Hp}:∀{ds:List Dt}{vs:List V},yp P H ds vs->vs.length=ds.length
 | [],vs,h=>by rw[yp]at h;rw[h];rfl
 |d::ds,vs,h=>by rw[yp]at h;obtain⟨v,r,rfl,_,h2⟩:=h;simp[yp.length h2]
theorem yp.get {P:ah->Prop}{H:Hp}:∀{ds:List Dt}{vs:List V}{i:Nat}{v:V},yp P H ds vs->vs[i]?=some v->∃d,ds[i]?=some d/\Den P H d v
 | [],vs,i,v,h,e=>by rw[yp]at h;rw[h]at e;simp at e
 |d::ds,vs,i,v,h,e=>by
  rw[yp]at h;obtain⟨w,r,rfl,h1,h2⟩:=h
  cases i with
  |zero=>simp at e;subst e;exact⟨d,rfl,h1⟩
  |succ i=>simp at e;exact yp.get (i:=i) h2 e
theorem yp.nil {P:ah->Prop}{H:Hp}:yp P H [] []:=by rw[yp]
theorem yp.cons {P:ah->Prop}{H:Hp}{d:Dt}{v:V}{ds:List Dt}{vs:List V}(h:Den P H d v) (t:yp P H ds vs):yp P H (d::ds) (v::vs):=by rw[yp];exact⟨v,vs,rfl,h,t⟩
mutual
def bG:Dt->Dt->Bool
 | .non,.non=>true
 | .bl a,.bl b=>a==b
 | .bl a,.int j=>(if a then 1 else 0)==j
 | .int i,.bl b=>i==(if b then 1 else 0)
 | .int i,.int j=>i==j
 | .str x,.str y=>x==y
 | .tup xs,.tup ys=>eV xs ys
 | .lst xs,.lst ys=>eV xs ys
 |_,_=>false
def eV:List Dt->List Dt->Bool
 | [],[]=>true
 |x::xs,y::ys=>bG x y&&eV xs ys
 |_,_=>false
end
mutual
def dH:Dt->Nat
 | .tup xs=>kC xs+1
 | .lst xs=>kC xs+1
 |_=>0
def kC:List Dt->Nat
 | []=>0
 |x::xs=>max (dH x) (kC xs)
end
mutual
def nod:Dt->Bool
 | .tup xs=>iO xs
 | .lst xs=>iO xs
 | .dct=>false
 |_=>true
def iO:List Dt->Bool
 | []=>true
 |x::xs=>nod x&&iO xs
end
mutual
theorem wY:∀d:Dt,nod d=true->bG d d=true
 | .non,_=>rfl
 | .bl b,_=>by simp[bG]
 | .int i,_=>by simp[bG]
 | .str x,_=>by simp[bG]
 | .tup xs,h=>by rw[bG];exact wZ xs (by rw[nod]at h;exact h)
 | .lst xs,h=>by rw[bG];exact wZ xs (by rw[nod]at h;exact h)
 | .dct,h=>by simp[nod]at h
theorem wZ:∀l:List Dt,iO l=true->eV l l=true
 | [],_=>rfl
 |x::xs,h=>by rw[iO,dh]at h;rw[eV,wY x h.1,wZ xs h.2];rfl
end
theorem DF:∀{l:List Dt}{d:Dt},d∈l->dH d<=kC l
 |x::xs,d,h=>by
  rw[kC]
  rcases ba.mp h with rfl|h
  ·omega
  ·have:=DF h;omega
theorem xA:∀{l:List Dt}{d:Dt},iO l=true->d∈l->nod d=true
 |x::xs,d,h,hd=>by
  rw[iO,dh]at h
  rcases ba.mp hd with rfl|hd
  ·exact h.1
  ·exact xA h.2 hd
theorem pG:∀{xs ys:List Dt},xs.length=ys.length->eV xs ys=(bx xs.length).all λi=>bG (xs.getD i .non) (ys.getD i .non)
 | [],[],_=>rfl
 |x::xs,y::ys,h=>by rw[eV,pG (xs:=xs) (ys:=ys) (by simpa using h),cn,vq,List.all_cons,vt];rfl
theorem pH:∀{xs ys:List Dt},xs.length≠ys.length->eV xs ys=false
 | [],[],h=>absurd rfl h
 | [],_::_,_=>rfl
 |_::_,[],_=>rfl
 |x::xs,y::ys,h=>by rw[eV,pH (xs:=xs) (ys:=ys) (by simpa using h),ow]
mutual
theorem Den.inj {P:ah->Prop}{H:Hp}:∀(d d':Dt) (v:V),Den P H d v->Den P H d' v->d=d'
 | .non,d',v,h,h'=>by
  rw[Den]at h;subst h
  cases d' <;> rw[Den]at h' <;> first|rfl|(obtain⟨_,_,e,_⟩:=h';cases e;done)|(obtain⟨_,e,_⟩:=h';cases e;done)|(cases h';done)
 | .bl b,d',v,h,h'=>by
  rw[Den]at h;subst h
  cases d' <;> rw[Den]at h' <;> first|(obtain⟨_,_,e,_⟩:=h';cases e;done)|(obtain⟨_,e,_⟩:=h';cases e;done)|(cases h';done)|(cases h';rfl)
 | .int b,d',v,h,h'=>by
  rw[Den]at h;subst h
  cases d' <;> rw[Den]at h' <;> first|(obtain⟨_,_,e,_⟩:=h';cases e;done)|(obtain⟨_,e,_⟩:=h';cases e;done)|(cases h';done)|(cases h';rfl)
 | .str b,d',v,h,h'=>by
  rw[Den]at h;subst h
  cases d' <;> rw[Den]at h' <;> first|(obtain⟨_,_,e,_⟩:=h';cases e;done)|(obtain⟨_,e,_⟩:=h';cases e;done)|(cases h';done)|(cases h';rfl)
 | .tup ds,d',v,h,h'=>by
  rw[Den]at h;obtain⟨a,vs,rfl,h1,h2⟩:=h
  cases d' <;> rw[Den]at h' <;> first|(cases h';done)|(obtain⟨_,_,e,_,q,_⟩:=h';cases e;rw[h1]at q;cases q;done)|(obtain⟨_,e,_,q⟩:=h';cases e;rw[h1]at q;cases q;done)|(obtain⟨_,_,e,q,g⟩:=h';cases e;rw[h1]at q;cases q;rw[yp.inj ds _ vs h2 g])
 | .lst ds,d',v,h,h'=>by
  rw[Den]at h;obtain⟨a,vs,rfl,_,h1,h2⟩:=h
  cases d' <;> rw[Den]at h' <;> first|(cases h';done)|(obtain⟨_,_,e,q,_⟩:=h';cases e;rw[h1]at q;cases q;done)|(obtain⟨_,e,_,q⟩:=h';cases e;rw[h1]at q;cases q;done)|(obtain⟨_,_,e,_,q,g⟩:=h';cases e;rw[h1]at q;cases q;rw[yp.inj ds _ vs h2 g])
 | .dct,d',v,h,h'=>by
  rw[Den]at h;obtain⟨a,rfl,_,h1⟩:=h
  cases d' <;> rw[Den]at h' <;> first|rfl|(cases h';done)|(obtain⟨_,_,e,q,_⟩:=h';cases e;rw[h1]at q;cases q;done)|(obtain⟨_,_,e,_,q,_⟩:=h';cases e;rw[h1]at q;cases q;done)
theorem yp.inj {P:ah->Prop}{H:Hp}:∀(ds zj:List Dt) (vs:List V),yp P H ds vs->yp P H zj vs->ds=zj
 | [],zj,vs,h,h'=>by
  rw[yp]at h;subst h
  cases zj with
  |nil=>rfl
  |cons d zj=>rw[yp]at h';obtain⟨_,_,e,_⟩:=h';cases e
 |d::ds,zj,vs,h,h'=>by
  rw[yp]at h;obtain⟨v,r,rfl,h1,h2⟩:=h
  cases zj with
  |nil=>rw[yp]at h';cases h'
  |cons d' zj=>rw[yp]at h';obtain⟨v',r',e,h1',h2'⟩:=h';cases e;rw[Den.inj d d' v h1 h1',yp.inj ds zj r h2 h2']
end
section
variable{Pg:bg}{w:cf}{P:ah->Prop}{H:Hp}{s:af}
theorem OX (hok:zd Pg w H s.heap) {a:ah}{vs:List V}(e:H a=some (.tup vs)):∃its:List ae,yg vs its/\s.heap.IsTuple a its.toArray:=by
 obtain⟨_,its,r,p⟩:=(show yi Pg w H s.heap a (.tup vs) from hok a _ e)
 exact⟨its,r,p.tup⟩
theorem OY (hok:zd Pg w H s.heap) {a:ah}{vs:List V}(e:H a=some (.lst vs)):∃its:List ae,yg vs its/\s.heap.IsList a its.toArray:=by
 obtain⟨_,its,n,r,p⟩:=(show yi Pg w H s.heap a (.lst vs) from hok a _ e)
 exact⟨its,r,_,p,rfl,n,rfl⟩
theorem DG {vs:List V}{its:List ae}(r:yg vs its) {j:Nat}(h:j<its.toArray.size):∃v,vs[j]?=some v/\RelV v its.toArray[j]:=by
 have hl:=r.length;have h':j<its.length:=by simpa using h
 have hv:j<vs.length:=by omega
 obtain⟨u,e,q⟩:=r.get (i:=j) (x:=vs[j]) (bh hv);refine⟨vs[j],bh hv, ?_⟩;have:its.toArray[j]=u:=by have:its[j]?=some its[j]:=bh h';rw[this]at e;simpa using e
 rw[this];exact q
inductive Vw (P:ah->Prop) (H:Hp) (s:af):Dt->ae->Prop
 |non:Vw P H s .non .none
 |bl {b:Bool}:Vw P H s (.bl b) (.bool b)
 |int {i:Int}{t:Tok}:Vw P H s (.int i) (.int i t)
 |str {x:Str}{t:Tok}:Vw P H s (.str x) (.str x t)
 |tup {ds:List Dt}{a:ah}{vs:List V}{its:List ae}(e:H a=some (.tup vs)) (g:yp P H ds vs) (q:yg vs its) (tp:s.heap.IsTuple a its.toArray):Vw P H s (.tup ds) (.ref a)
 |lst {ds:List Dt}{a:ah}{vs:List V}{its:List ae}(e:H a=some (.lst vs)) (g:yp P H ds vs) (q:yg vs its) (tp:s.heap.IsList a its.toArray):Vw P H s (.lst ds) (.ref a)
theorem vw (hok:zd Pg w H s.heap) {d:Dt}{v:V}{u:ae}(n:nod d=true) (h:Den P H d v) (r:RelV v u):Vw P H s d u:=by
 cases d <;> rw[Den]at h
 case tup=>obtain⟨a,vs,rfl,e,g⟩:=h;cases r;obtain⟨its,q,tp⟩:=OX hok e;exact .tup e g q tp
 case lst=>obtain⟨a,vs,rfl,_,e,g⟩:=h;cases r;obtain⟨its,q,tp⟩:=OY hok e;exact .lst e g q tp
 case dct=>simp[nod]at n
 all_goals subst h
 case int=>obtain⟨t,rfl⟩:=r;exact .int
 case str=>obtain⟨t,rfl⟩:=r;exact .str
 all_goals cases r;constructor
theorem sF (hok:zd Pg w H s.heap) {A:bp}{n:Nat}(ih:∀(d d':Dt) (u u':ae),dH d<=n->nod d=true->nod d'=true->Vw P H s d u->Vw P H s d' u'->jy A s u u' (bG d d')) {vs yw:List V}{ds zj:List Dt}{its its':List ae}(hd:kC ds<=n) (m1:iO ds=true) (m2:iO zj=true) (g:yp P H ds vs) (g':yp P H zj yw) (q:yg vs its) (q':yg yw its')
  (j:Nat) (h1:j<its.toArray.size) (h2:j<its'.toArray.size):jy A s its.toArray[j] its'.toArray[j] (bG (ds.getD j .non) (zj.getD j .non)):=by
 obtain⟨x,ex,rx⟩:=DG q h1;obtain⟨x',ex',rx'⟩:=DG q' h2;obtain⟨dx,edx,gx⟩:=g.get ex;obtain⟨dx',edx',gx'⟩:=g'.get ex';have e1:ds.getD j .non=dx:=by simp[pq,edx]
 have e2:zj.getD j .non=dx':=by simp[pq,edx']
 rw[e1,e2];have hm:=cm edx;have k1:=xA m1 hm;have k2:=xA m2 (cm edx');exact ih dx dx' _ _ (da (DF hm) hd) k1 k2 (vw hok k1 gx rx) (vw hok k2 gx' rx')
theorem DH (hok:zd Pg w H s.heap) (n:Nat) (ih:∀m,m+1=n->∀(A:bp) (d d':Dt) (u u':ae),dH d<=m->A.units+m+1<cLine->nod d=true->nod d'=true->Vw P H s d u->Vw P H s d' u'->pz A s u u' (bG d d')/\jy A s u u' (bG d d'))
  (A:bp) (d d':Dt) (u u':ae) (hn:dH d<=n) (hu:A.units+n+1<cLine) (n1:nod d=true) (n2:nod d'=true) (h:Vw P H s d u) (h':Vw P H s d' u'):pz A s u u' (bG d d')/\jy A s u u' (bG d d'):=by
 have yq:A.units<cLine:=by omega
 have ok:∀{a1 a2:ah}{b:Bool},(pz A s (.ref a1) (.ref a2) b)->(a1=a2->b=true)->pz A s (.ref a1) (.ref a2) b/\jy A s (.ref a1) (.ref a2) b:=λ{a1 a2 b} key z=>⟨key,by
  by_cases Ah:a1=a2
  ·rw[z Ah,Ah];exact .same _
  ·exact .of_refs Ah key⟩
 have zv:1<=n->∀(d d':Dt) (u u':ae),dH d<=n - 1->nod d=true->nod d'=true->Vw P H s d u->Vw P H s d' u'->jy A.in1 s u u' (bG d d'):=λhd d d' u u' a b c e f=>(ih (n - 1) (by omega) A.in1 d d' u u' a (by show A.units+1+(n - 1)+1<cLine;omega) b c e f).2
 cases h <;> cases h'
 case tup.tup ds a1 vs1 its1 e1 g1 q1 tp1 zj a2 vs2 zf e2 g2 q2 tp2=>
  rw[nod]at n1 n2;rw[dH]at hn;have hl1:=g1.length;have hl2:=g2.length;have hq1:=q1.length;have hq2:=q2.length;refine ok ?_ λAh=>?_
  ·rw[bG];have z:=SeqAt.RcAt.tuples (e:=λj=>bG (ds.getD j .non) (zj.getD j .non)) tp1 tp2 yq (sF hok (zv (by omega)) (by omega) n1 n2 g1 g2 q1 q2);have s1:its1.toArray.size=ds.length:=by simp;omega
   have s2:zf.toArray.size=zj.length:=by simp;omega
   rw[s1,s2]at z
   by_cases hlen:ds.length=zj.length
   ·rw[pG hlen];rw[<-hlen,Nat.min_self]at z;simpa using z
   ·rw[pH hlen];rw[show(ds.length==zj.length)=false from beq_eq_false_iff_ne.mpr hlen,ow]at z;exact z
  ·subst Ah;rw[e1]at e2;cases e2;rw[yp.inj ds zj _ g1 g2,wY _ (by rw[nod];exact n2)]
 case lst.lst ds a1 vs1 its1 e1 g1 q1 tp1 zj a2 vs2 zf e2 g2 q2 tp2=>
  rw[nod]at n1 n2;rw[dH]at hn;have hl1:=g1.length;have hl2:=g2.length;have hq1:=q1.length;have hq2:=q2.length;refine ok ?_ λAh=>?_
  ·rw[bG]
   by_cases hlen:ds.length=zj.length
   ·have z:=SeqAt.RcAt.lists (e:=λj=>bG (ds.getD j .non) (zj.getD j .non)) tp1 tp2 (by simp;omega) yq (sF hok (zv (by omega)) (by omega) n1 n2 g1 g2 q1 q2);rw[pG hlen];simpa[hq1.symm,hl1]using z
   ·rw[pH hlen];exact SeqAt.RcAt.lists_lengths tp1 tp2 (by simp;omega) yq
  ·subst Ah;rw[e1]at e2;cases e2;rw[yp.inj ds zj _ g1 g2,wY _ (by rw[nod];exact n2)]
 case non.non=>exact⟨.none_none,.same _⟩
 case non.bl=>exact⟨.none_bool _,.none_bool _⟩
 case non.int=>exact⟨.none_int _ _,.none_int _ _⟩
 case non.str=>exact⟨.none_str _ _,.none_str _ _⟩
 case non.tup=>exact⟨.none_tuple ‹_› yq,.none_tuple ‹_› yq⟩
 case non.lst=>exact⟨.none_list ‹_› yq,.none_list ‹_› yq⟩
 case bl.non=>exact⟨.bool_none _,.bool_none _⟩
 case bl.bl=>exact⟨.bool_bool _ _,.bool_bool _ _⟩
 case bl.int=>exact⟨.bool_int _ _ _,.bool_int _ _ _⟩
 case bl.str=>exact⟨.bool_str _ _ _,.bool_str _ _ _⟩
 case bl.tup=>exact⟨.bool_tuple _ ‹_› yq,.bool_tuple _ ‹_› yq⟩
 case bl.lst=>exact⟨.bool_list _ ‹_› yq,.bool_list _ ‹_› yq⟩
 case int.non=>exact⟨.int_none _ _,.int_none _ _⟩
 case int.bl=>exact⟨.int_bool _ _ _,.int_bool _ _ _⟩
 case int.int=>exact⟨.int_int _ _ _ _,.int_int _ _ _ _⟩
 case int.str=>exact⟨.int_str _ _ _ _,.int_str _ _ _ _⟩
 case int.tup=>exact⟨.int_tuple _ _ ‹_› yq,.int_tuple _ _ ‹_› yq⟩
 case int.lst=>exact⟨.int_list _ _ ‹_› yq,.int_list _ _ ‹_› yq⟩
 case str.non=>exact⟨.str_none _ _,.str_none _ _⟩
 case str.bl=>exact⟨.str_bool _ _ _,.str_bool _ _ _⟩
 case str.int=>exact⟨.str_int _ _ _ _,.str_int _ _ _ _⟩
 case str.str=>exact⟨.str_str _ _ _ _,.str_str _ _ _ _⟩
 case str.tup=>exact⟨.str_tuple _ _ ‹_› yq,.str_tuple _ _ ‹_› yq⟩
 case str.lst=>exact⟨.str_list _ _ ‹_› yq,.str_list _ _ ‹_› yq⟩
 case tup.non=>exact⟨.tuple_none ‹_› yq,.tuple_none ‹_› yq⟩
 case tup.bl=>exact⟨.tuple_bool _ ‹_› yq,.tuple_bool _ ‹_› yq⟩
 case tup.int=>exact⟨.tuple_int _ _ ‹_› yq,.tuple_int _ _ ‹_› yq⟩
 case tup.str=>exact⟨.tuple_str _ _ ‹_› yq,.tuple_str _ _ ‹_› yq⟩
 case tup.lst=>exact⟨.tuple_list ‹_› ‹_› yq,.tuple_list ‹_› ‹_› yq⟩
 case lst.non=>exact⟨.list_none ‹_› yq,.list_none ‹_› yq⟩
 case lst.bl=>exact⟨.list_bool _ ‹_› yq,.list_bool _ ‹_› yq⟩
 case lst.int=>exact⟨.list_int _ _ ‹_› yq,.list_int _ _ ‹_› yq⟩
 case lst.str=>exact⟨.list_str _ _ ‹_› yq,.list_str _ _ ‹_› yq⟩
 case lst.tup=>exact⟨.list_tuple ‹_› ‹_› yq,.list_tuple ‹_› ‹_› yq⟩
theorem xB (hok:zd Pg w H s.heap):∀(n:Nat) (A:bp) (d d':Dt) (u u':ae),dH d<=n->A.units+n+1<cLine->nod d=true->nod d'=true->Vw P H s d u->Vw P H s d' u'->pz A s u u' (bG d d')/\jy A s u u' (bG d d')
 |0=>DH hok 0 λ_ e=>by cases e
 |n+1=>DH hok _ λm e=>by cases e;exact xB hok n
theorem OZ (hok:zd Pg w H s.heap) (n:Nat) (A:bp) (d d':Dt) (v v':V) (u u':ae) (a:dH d<=n) (b:A.units+n+1<cLine) (n1:nod d=true) (n2:nod d'=true) (h:Den P H d v) (h':Den P H d' v') (r:RelV v u) (r':RelV v' u'):
  pz A s u u' (bG d d')/\jy A s u u' (bG d d'):=xB hok n A d d' u u' a b n1 n2 (vw hok n1 h r) (vw hok n2 h' r')
end
end L2
namespace L2.Mr
open PySem PySem.Spec PyProof.Rows
inductive Dv where
 |non|bl (b:Bool)|int (i:Int)|str (x:Str)|tup (xs:List Dv)|ref (i:Nat)|edc|exc (c:Nat)|scr
inductive Ob where
 |lst (xs:List Dv)
 |clo (k t:Nat)
 |dct (ks:xr)
abbrev Hs:=List Ob
abbrev Ev:=List (Option Dv)
inductive Rs (α:Type) where
 |ok (a:α) (h:Hs)|ex (c:Nat) (h:Hs)|bad
abbrev ya:=List Dv->Hs->Rs Dv
abbrev yb:=List Dv
abbrev yc:=Option Dv
noncomputable def Rs.bind {α β:Type}(r:Rs α) (f:α->Hs->Rs β):Rs β:=match r with
 | .ok a h=>f a h
 | .ex c h=>.ex c h
 | .bad=>.bad
@[simp] theorem Rs.bind_ok {α β:Type}(a:α) (h:Hs) (f:α->Hs->Rs β):(Rs.ok a h).bind f=f a h:=rfl
@[simp] theorem Rs.bind_ex {α β:Type}(c:Nat) (h:Hs) (f:α->Hs->Rs β):(Rs.ex c h).bind f=.ex c h:=rfl
@[simp] theorem Rs.bind_bad {α β:Type}(f:α->Hs->Rs β):(Rs.bad).bind f=.bad:=rfl
abbrev M (α:Type):=Ev->Hs->Rs α
structure Cf0 where
 K:ar
 cl:Nat->ah
 scr:xu
 sa:ah
 tab:Option ah:=none
 lq:Str:=Str.empty
def cJ (C:ae) (e T:ah) (a0:ae) (h:ck):Prop:=∃oe vs,h.get? e=some oe/\oe.cls=C/\oe.data=.fields vs/\vs[0]?=some a0/\vs[1]?=some (.ref T)/\oe.dict=none
def sG (G:Cf0) (H:Hp) (c:Nat) (u:ae):Prop:=∃e φ,u=.ref e/\H e=some (.ext φ)/\∀h,φ h->∃o,h.get? e=some o/\o.cls=.ref (G.cl c)
def xC:HO->Prop
 | .tup _=>True
 | .dK kvs=>kvs=[]
 | .frz _ _=>True
 |_=>False
def FzL (K:ar) (H:Hp) (a:ah) (xs:List V):Prop:=(∃o,H a=some (.frz o (.lst xs))) ∨
  ∃(o:Obj) (its:Array ae) (n:Nat),K.lookup a=some o/\o.cls=.type "list"/\o.dict=none/\o.data=.seq its n/\its.size<=bo/\yg xs its.toList
theorem FzL.sq {K:ar}{H:Hp}{a:ah}{xs:List V}(h:FzL K H a xs):y9 K H a xs:=by
 rcases h with⟨o,h⟩|h
 ·exact .inl (.inr ⟨o,h⟩)
 ·exact .inr h
theorem FzL.keep {K:ar}{H H':Hp}{a:ah}{xs:List V}(h:FzL K H a xs) (k:∀a o,xC o->H a=some o->H' a=some o):FzL K H' a xs:=by
 rcases h with⟨o,h⟩|h
 ·exact .inl ⟨o,k a _ trivial h⟩
 ·exact .inr h
mutual
def yf (G:Cf0) (μ:Nat->ah) (n:Nat) (H:Hp):Dv->V->Prop
 | .non,v=>v=.non
 | .bl b,v=>v=.bl b
 | .int i,v=>v=.int i
 | .str x,v=>v=.str x
 | .tup ds,v=>∃a vs,v=.ref a/\H a=some (.tup vs)/\RelDL G μ n H ds vs
 | .ref i,v=>i<n/\v=.ref (μ i)
 | .edc,v=>∃a,v=.ref a/\H a=some (.dK [])
 | .exc c,v=>∃a o u,v=.ref a/\H a=some (.frz o u)/\o.cls=.ref (G.cl c)/\o.dict=none/\∃vs,o.data=.fields vs
 | .scr,v=>v=.ref G.sa/\FzL G.K H G.sa (G.scr.map V.int)
def RelDL (G:Cf0) (μ:Nat->ah) (n:Nat) (H:Hp):yb->List V->Prop
 | [],vs=>vs=[]
 |d::ds,vs=>∃v r,vs=v::r/\yf G μ n H d v/\RelDL G μ n H ds r
end
structure Ext (μ:Nat->ah) (n:Nat) (H:Hp) (μ':Nat->ah) (n':Nat) (H':Hp):Prop where
 le:n<=n'
 mu:∀i,i<n->μ' i=μ i
 im:∀a o,xC o->H a=some o->H' a=some o
theorem Ext.refl {μ:Nat->ah}{n:Nat}{H:Hp}:Ext μ n H μ n H:=⟨ak _,λ_ _=>rfl,λ_ _ _ e=>e⟩
theorem Ext.trans {μ μ1 μ2:Nat->ah}{n n1 n2:Nat}{H H1 H2:Hp}(a:Ext μ n H μ1 n1 H1) (b:Ext μ1 n1 H1 μ2 n2 H2):Ext μ n H μ2 n2 H2:=⟨da a.le b.le,λi hi=>(b.mu i (aq hi a.le)).trans (a.mu i hi),λc o i e=>b.im c o i (a.im c o i e)⟩
structure Cfg extends Cf0 where
 clo:(Nat->ah)->Nat->Hp->Nat->Nat->ah->Prop:=λ_ _ _ _ _ _=>True
 cloM:∀{μ μ':Nat->ah}{n n':Nat}{H H':Hp}{k t:Nat}{a:ah},Ext μ n H μ' n' H'->clo μ n H k t a->clo μ' n' H' k t a:=by intros;trivial
instance:Coe Cfg Cf0:=⟨Cfg.toCf0⟩
section
variable{G:Cf0}{μ μ':Nat->ah}{n n':Nat}{H H':Hp}
mutual
theorem yf.mono (x:Ext μ n H μ' n' H'):∀(d:Dv) (v:V),yf G μ n H d v->yf G μ' n' H' d v
 | .non,v,h=>h
 | .bl b,v,h=>h
 | .int i,v,h=>h
 | .str s,v,h=>h
 | .tup ds,v,h=>by obtain⟨a,vs,e,h1,h2⟩:=h;exact⟨a,vs,e,x.im a _ trivial h1,RelDL.mono x ds vs h2⟩
 | .ref i,v,h=>by obtain⟨h1,h2⟩:=h;exact⟨aq h1 x.le,by rw[x.mu i h1];exact h2⟩
 | .edc,v,h=>by obtain⟨a,e,h1⟩:=h;exact⟨a,e,x.im a _ rfl h1⟩
 | .exc c,v,h=>by obtain⟨a,o,u,e,h1,h2⟩:=h;exact⟨a,o,u,e,x.im a _ trivial h1,h2⟩
 | .scr,v,h=>by obtain⟨h1,h2⟩:=h;exact⟨h1,h2.keep x.im⟩
theorem RelDL.mono (x:Ext μ n H μ' n' H'):∀(ds:yb) (vs:List V),RelDL G μ n H ds vs->RelDL G μ' n' H' ds vs
 | [],vs,h=>h
 |d::ds,vs,h=>by obtain⟨v,r,e,h1,h2⟩:=h;exact⟨v,r,e,yf.mono x d v h1,RelDL.mono x ds r h2⟩
end
theorem RelDL.length:∀{ds:yb}{vs:List V},RelDL G μ n H ds vs->vs.length=ds.length
 | [],_,h=>by rw[RelDL]at h;subst h;rfl
 |d::ds,_,h=>by rw[RelDL]at h;obtain⟨v,r,rfl,_,h2⟩:=h;rw[cn,cn,RelDL.length h2]
theorem RelDL.get:∀{ds:yb}{vs:List V}{i:Nat}{d:Dv},RelDL G μ n H ds vs->ds[i]?=some d->∃v,vs[i]?=some v/\yf G μ n H d v
 | [],_,_,_,_,e=>by simp at e
 |d::ds,_,0,d',h,e=>by rw[RelDL]at h;obtain⟨v,r,rfl,h1,_⟩:=h;simp at e;subst e;exact⟨v,rfl,h1⟩
 |d::ds,_,i+1,d',h,e=>by rw[RelDL]at h;obtain⟨v,r,rfl,_,h2⟩:=h;obtain⟨u,e1,h3⟩:=RelDL.get (i:=i) h2 (by simpa using e);exact⟨u,by simpa using e1,h3⟩
theorem RelDL.nil:RelDL G μ n H [] []:=by rw[RelDL]
theorem RelDL.cons {d:Dv}{v:V}{ds:yb}{vs:List V}(h:yf G μ n H d v) (t:RelDL G μ n H ds vs):RelDL G μ n H (d::ds) (v::vs):=by rw[RelDL];exact⟨v,vs,rfl,h,t⟩
theorem RelDL.append:∀{ds es:yb}{vs ws:List V},RelDL G μ n H ds vs->RelDL G μ n H es ws->RelDL G μ n H (ds++es) (vs++ws)
 | [],_,_,_,h,h'=>by rw[RelDL]at h;subst h;exact h'
 |d::ds,_,_,_,h,h'=>by rw[RelDL]at h;obtain⟨v,r,rfl,h1,h2⟩:=h;exact RelDL.cons h1 (RelDL.append h2 h')
theorem RelDL.take:∀{ds:yb}{vs:List V}(k:Nat),RelDL G μ n H ds vs->RelDL G μ n H (ds.take k) (vs.take k)
 | [],_,k,h=>by rw[RelDL]at h;subst h;simp[RelDL.nil]
 |d::ds,_,0,h=>by simp[RelDL.nil]
 |d::ds,_,k+1,h=>by rw[RelDL]at h;obtain⟨v,r,rfl,h1,h2⟩:=h;exact RelDL.cons h1 (RelDL.take k h2)
theorem RelDL.drop:∀{ds:yb}{vs:List V}(k:Nat),RelDL G μ n H ds vs->RelDL G μ n H (ds.drop k) (vs.drop k)
 | [],_,k,h=>by rw[RelDL]at h;subst h;simp[RelDL.nil]
 |d::ds,_,0,h=>h
 |d::ds,_,k+1,h=>by rw[RelDL]at h;obtain⟨v,r,rfl,h1,h2⟩:=h;exact RelDL.drop k h2
theorem RelDL.set {x:Dv}{u:V}(hx:yf G μ n H x u):∀{ds:yb}{vs:List V}(i:Nat),RelDL G μ n H ds vs->RelDL G μ n H (ds.set i x) (vs.set i u)
 | [],_,_,h=>by rw[RelDL]at h;subst h;exact RelDL.nil
 |d::ds,_,0,h=>by rw[RelDL]at h;obtain⟨v,r,rfl,h1,h2⟩:=h;exact RelDL.cons hx h2
 |d::ds,_,i+1,h=>by rw[RelDL]at h;obtain⟨v,r,rfl,h1,h2⟩:=h;exact RelDL.cons h1 (RelDL.set hx i h2)
end
def cK (ks:xr):List (List cB×V):=ks.map λk=>(k.map iu,.bl true)
def ObR (G:Cfg) (μ:Nat->ah) (n:Nat) (H:Hp) (a:ah):Ob->Prop
 | .lst xs=>∃vs,H a=some (.lst vs)/\RelDL G μ n H xs vs
 | .clo k t=>t<n/\(∃o u,H a=some (.frz o u))/\G.clo μ n H k t a
 | .dct ks=>H a=some (.dT (cK ks))
theorem ObR.clo {G:Cfg}{μ μ':Nat->ah}{n n':Nat}{H H':Hp}{a:ah}{k t:Nat}(r:ObR G μ n H a (.clo k t)) (x:Ext μ n H μ' n' H'):ObR G μ' n' H' a (.clo k t):=by obtain⟨h1,⟨o,u,h2⟩,h3⟩:=r;exact⟨aq h1 x.le,⟨o,u,x.im _ _ trivial h2⟩,G.cloM x h3⟩
def sH (q:Str) (oc:Obj):Prop:=∃vs t,oc.data=.fields vs/\vs[1]?=some (.str q t)
def Ab (G:Cf0) (H:Hp):Prop:=∀P,G.tab=some P->∃ps,H P=some (.tbl ps)/\si ps.toList/\∀pos cv,codeAmong pos ps.toList=some cv->∃q oc,cv=.ref q/\H q=some (.frz oc (.own 0))/\sH G.lq oc
theorem Ab.keep {G:Cf0}{H H':Hp}(t:Ab G H) (k:∀a o,(∀xs,o≠.lst xs)->(∀φ,o≠.ext φ)->H a=some o->H' a=some o):Ab G H':=λP e=>by obtain⟨ps,h1,h2,h3⟩:=t P e;refine⟨ps,k P _ (λ_ z=>by cases z) (λ_ z=>by cases z) h1,h2,λpos cv q=>?_⟩;obtain⟨a,oc,e1,e2,e3⟩:=h3 pos cv q;exact⟨a,oc,e1,k a _ (λ_ z=>by cases z) (λ_ z=>by cases z) e2,e3⟩
structure yn (G:Cfg) (μ:Nat->ah) (h:Hs) (H:Hp):Prop where
 inj:∀i j,i<h.length->j<h.length->μ i=μ j->i=j
 ob:∀(i:Nat) (o:Ob),h[i]?=some o->ObR G μ h.length H (μ i) o
 tab:Ab G H
structure yk (G:Cfg) (μ:Nat->ah) (n:Nat) (H:Hp) (ρ:Ev) (σ:St):Prop where
 len:ρ.length=σ.length
 at_:∀(i:Nat) (d:Dv),ρ[i]?=some (some d)->∃v,σ[i]?=some (some v)/\yf G μ n H d v
theorem yk.mono {G:Cfg}{μ μ':Nat->ah}{n n':Nat}{H H':Hp}{ρ:Ev}{σ:St}(r:yk G μ n H ρ σ) (x:Ext μ n H μ' n' H'):yk G μ' n' H' ρ σ:=⟨r.len,λi d e=>let ⟨v,e1,h⟩:=r.at_ i d e;⟨v,e1,yf.mono x d v h⟩⟩
def Out {α β:Type}(G:Cfg) (E:XK) (μ:Nat->ah) (n:Nat) (H:Hp) (r:Rs α) (R:(Nat->ah)->Nat->Hp->α->β->Prop) (Q:β->Hp->Prop):Prop:=
 match r with
 | .ok d h'=>∀μ' H' v,Ext μ n H μ' h'.length H'->yn G μ' h' H'->R μ' h'.length H' d v->Q v H'
 | .ex c h'=>∀μ' H' u,Ext μ n H μ' h'.length H'->yn G μ' h' H'->sG G H' c u->E u none H'
 | .bad=>False
theorem Out.bind {α β γ δ:Type}{G:Cfg}{E:XK}{μ:Nat->ah}{n:Nat}{H:Hp}{r:Rs α}{f:α->Hs->Rs γ}{R:(Nat->ah)->Nat->Hp->γ->δ->Prop}{Q:δ->Hp->Prop}{R1:(Nat->ah)->Nat->Hp->α->β->Prop}
  (o:Out G E μ n H (r.bind f) R Q):Out G E μ n H r R1 λv H1=>∃μ1 d h1,Ext μ n H μ1 h1.length H1/\yn G μ1 h1 H1/\R1 μ1 h1.length H1 d v/\Out G E μ1 h1.length H1 (f d h1) R Q:=by
 cases r with
 |bad=>exact o
 |ex c h'=>exact o
 |ok d h'=>
  intro μ1 H1 v x1 s1 r1;refine⟨μ1,d,h',x1,s1,r1, ?_⟩;have o':Out G E μ n H (f d h') R Q:=o
  cases e:f d h' with
  |bad=>rw[e]at o';exact o'
  |ex c h2=>rw[e]at o';exact λμ2 H2 u x2 s2 r2=>o' μ2 H2 u (x1.trans x2) s2 r2
  |ok d2 h2=>rw[e]at o';exact λμ2 H2 u x2 s2 r2=>o' μ2 H2 u (x1.trans x2) s2 r2
theorem Out.mono {α β:Type}{G:Cfg}{E:XK}{μ:Nat->ah}{n:Nat}{H:Hp}{r:Rs α}{R:(Nat->ah)->Nat->Hp->α->β->Prop}{Q Q':β->Hp->Prop}(o:Out G E μ n H r R Q) (h:∀v H',Q v H'->Q' v H'):Out G E μ n H r R Q':=by
 cases r with
 |bad=>exact o
 |ex c h'=>exact o
 |ok d h'=>exact λμ' H' v x s r=>h _ _ (o μ' H' v x s r)
abbrev RB:(Nat->ah)->Nat->Hp->Bool->Bool->Prop:=λ_ _ _ b b'=>b'=b
def fH (G:Cfg) (E:XK) (m:M Dv):TE:=λσ H Q=>∃μ ρ h,yk G μ h.length H ρ σ/\yn G μ h H/\Out G E μ h.length H (m ρ h) (yf G) Q
def fZ (G:Cfg) (E:XK) (m:M Bool):TT:=λσ H Q=>∃μ ρ h,yk G μ h.length H ρ σ/\yn G μ h H/\Out G E μ h.length H (m ρ h) RB Q
def xD (G:Cfg) (E:XK) (m:M yb ):TA:=λσ H Q=>∃μ ρ h,yk G μ h.length H ρ σ/\yn G μ h H/\Out G E μ h.length H (m ρ h) (RelDL G) Q
def aG (X:Cx) (G:Cfg) (E:XK) (pe:bj) (m:M Dv):Prop:=X.K=G.K->PE X pe (fH G E m)
def eW (X:Cx) (G:Cfg) (E:XK) (pe:bj) (m:M Bool):Prop:=X.K=G.K->PT X pe (fZ G E m)
def cX (X:Cx) (G:Cfg) (E:XK) (pe:List bj) (m:M yb ):Prop:=X.K=G.K->PA X pe (xD G E m)
theorem PE.imp {X:Cx}{e:bj}{t t':TE}(h:PE X e t) (i:∀σ H Q,t' σ H Q->t σ H Q):PE X e t':=λpins s σ H Q I q=>h pins s σ H Q I (i σ H Q q)
theorem PT.imp {X:Cx}{e:bj}{t t':TT}(h:PT X e t) (i:∀σ H Q,t' σ H Q->t σ H Q):PT X e t':=λpins s σ H Q I q=>h pins s σ H Q I (i σ H Q q)
theorem PA.imp {X:Cx}{e:List bj}{t t':TA}(h:PA X e t) (i:∀σ H Q,t' σ H Q->t σ H Q):PA X e t':=λpos pins s σ H Q I q=>h pos pins s σ H Q I (i σ H Q q)
section
variable{G:Cfg}{E:XK}{σ:St}{H:Hp}
theorem cY {m:M Dv}{γ δ:Type}{f:Dv->Hs->Rs γ}{R:(Nat->ah)->Nat->Hp->γ->δ->Prop}{Q:δ->Hp->Prop}{Q1:V->Hp->Prop}{μ:Nat->ah}{ρ:Ev}{h:Hs}(rs:yk G μ h.length H ρ σ) (s:yn G μ h H) (o:Out G E μ h.length H ((m ρ h).bind f) R Q)
  (k:∀μ1 d h1 v H1,Ext μ h.length H μ1 h1.length H1->yk G μ1 h1.length H1 ρ σ->yn G μ1 h1 H1->yf G μ1 h1.length H1 d v->Out G E μ1 h1.length H1 (f d h1) R Q->Q1 v H1):fH G E m σ H Q1:=
 ⟨μ,ρ,h,rs,s,(o.bind (R1:=yf G)).mono λv H1 ⟨μ1,d,h1,x,s1,r1,o1⟩=>k μ1 d h1 v H1 x (rs.mono x) s1 r1 o1⟩
theorem xE {m:M Bool}{γ δ:Type}{f:Bool->Hs->Rs γ}{R:(Nat->ah)->Nat->Hp->γ->δ->Prop}{Q:δ->Hp->Prop}{Q1:Bool->Hp->Prop}{μ:Nat->ah}{ρ:Ev}{h:Hs}(rs:yk G μ h.length H ρ σ) (s:yn G μ h H) (o:Out G E μ h.length H ((m ρ h).bind f) R Q)
  (k:∀μ1 b h1 H1,Ext μ h.length H μ1 h1.length H1->yk G μ1 h1.length H1 ρ σ->yn G μ1 h1 H1->Out G E μ1 h1.length H1 (f b h1) R Q->Q1 b H1):fZ G E m σ H Q1:=
 ⟨μ,ρ,h,rs,s,(o.bind (R1:=RB)).mono λv H1 ⟨μ1,d,h1,x,s1,r1,o1⟩=>by have e:v=d:=r1;subst e;exact k μ1 v h1 H1 x (rs.mono x) s1 o1⟩
theorem kD {m:M yb }{γ δ:Type}{f:yb->Hs->Rs γ}{R:(Nat->ah)->Nat->Hp->γ->δ->Prop}{Q:δ->Hp->Prop}{Q1:List V->Hp->Prop}{μ:Nat->ah}{ρ:Ev}{h:Hs}(rs:yk G μ h.length H ρ σ) (s:yn G μ h H) (o:Out G E μ h.length H ((m ρ h).bind f) R Q)
  (k:∀μ1 d h1 v H1,Ext μ h.length H μ1 h1.length H1->yk G μ1 h1.length H1 ρ σ->yn G μ1 h1 H1->RelDL G μ1 h1.length H1 d v->Out G E μ1 h1.length H1 (f d h1) R Q->Q1 v H1):xD G E m σ H Q1:=
 ⟨μ,ρ,h,rs,s,(o.bind (R1:=RelDL G)).mono λv H1 ⟨μ1,d,h1,x,s1,r1,o1⟩=>k μ1 d h1 v H1 x (rs.mono x) s1 r1 o1⟩
theorem Out.val {α β:Type}{μ:Nat->ah}{h:Hs}{d:α}{R:(Nat->ah)->Nat->Hp->α->β->Prop}{Q:β->Hp->Prop}{v:β}(s:yn G μ h H) (o:Out G E μ h.length H (.ok d h) R Q) (r:R μ h.length H d v):Q v H:=o μ H v Ext.refl s r
end
section
variable{G:Cfg}{μ:Nat->ah}{h:Hs}{H H':Hp}{p:ah}{n:Nat}
theorem Ext.same (e:zi H H'):Ext μ n H μ n H':=⟨ak _,λ_ _=>rfl,λa o _ q=>e a o q⟩
theorem yn.same (s:yn G μ h H) (e:zi H H'):yn G μ h H':=⟨s.inj,λi o q=>by
 have r:=s.ob i o q
 cases o with
 |lst xs=>obtain⟨vs,e1,r1⟩:=r;exact⟨vs,e _ _ e1,RelDL.mono (Ext.same e) _ _ r1⟩
 |clo k t=>exact r.clo (Ext.same e)
 |dct ks=>exact e _ _ r,s.tab.keep λa o _ _ q=>e a o q⟩
theorem bM {o:HO}(h:H p=none):zi H (aJ H p o):=λb u e=>by rw[aT (dJ e h)];exact e
theorem yn.not (s:yn G μ h H) (hp:H p=none):∀(i:Nat),i<h.length->μ i≠p:=λi hi z=>by
 have q:h[i]?=some h[i]:=bh hi;generalize h[i]=o at q
 cases o with
 |lst xs=>obtain⟨vs,e1,_⟩:=s.ob i _ q;rw[z,hp]at e1;cases e1
 |clo k t=>obtain⟨_,⟨o,u,e1⟩,_⟩:=s.ob i _ q;rw[z,hp]at e1;cases e1
 |dct ks=>have e1:H (μ i)=some (.dT (cK ks)):=s.ob i _ q;rw[z,hp]at e1;cases e1
theorem yn.alloc {ds:yb}{vs:List V}(s:yn G μ h H) (hp:H p=none) (r:RelDL G μ h.length H ds vs):
  Ext μ h.length H (λi=>if i=h.length then p else μ i) (h++[Ob.lst ds]).length (aJ H p (.lst vs))/\yn G (λi=>if i=h.length then p else μ i) (h++[.lst ds]) (aJ H p (.lst vs)):=by
 have hl:(h++[Ob.lst ds]).length=h.length+1:=by simp
 have hq:=s.not hp;have x:Ext μ h.length H (λi=>if i=h.length then p else μ i) (h++[Ob.lst ds]).length (aJ H p (.lst vs)):=⟨by omega,λi hi=>if_neg (aw hi),λa o _ e=>bM hp a o e⟩
 refine⟨x,λi j hi hj e=>?_,λi o q=>?_,s.tab.keep λa o _ _ q=>bM hp a o q⟩
 ·rw[hl]at hi hj
  by_cases h1:i=h.length <;> by_cases h2:j=h.length
  ·omega
  ·rw[if_pos h1,if_neg h2]at e;exact absurd e.symm (hq j (by omega))
  ·rw[if_neg h1,if_pos h2]at e;exact absurd e (hq i (by omega))
  ·rw[if_neg h1,if_neg h2]at e;exact s.inj i j (by omega) (by omega) e
 ·by_cases h1:i<h.length
  ·rw[dk h1]at q;have r1:=s.ob i o q
   cases o with
   |lst xs=>obtain⟨ws,e1,r2⟩:=r1;exact⟨ws,by rw[if_neg (aw h1)];exact bM hp _ _ e1,RelDL.mono x _ _ r2⟩
   |clo k t=>rw[if_neg (aw h1)];exact r1.clo x
   |dct ks=>rw[if_neg (aw h1)];exact bM hp _ _ r1
  ·rw[fh (by omega)]at q;have h2:i=h.length:=by have:=(ay.mp q).1;simp at this;omega
   subst h2;simp at q;subst q;exact⟨vs,by rw[if_pos rfl];exact bO,RelDL.mono x _ _ r⟩
theorem yn.write {xs ys:yb}{i:Nat}{vs:List V}(s:yn G μ h H) (q:h[i]?=some (.lst xs)) (r:RelDL G μ h.length H ys vs):
  Ext μ h.length H μ (h.set i (.lst ys)).length (aJ H (μ i) (.lst vs))/\yn G μ (h.set i (.lst ys)) (aJ H (μ i) (.lst vs)):=by
 obtain⟨us,e0,r0⟩:=s.ob i _ q;have hi:i<h.length:=(ay.mp q).1;have im:∀a o,xC o->H a=some o->aJ H (μ i) (.lst vs) a=some o:=λa o m e=>by
  rw[aT];exact e
  rintro rfl;rw[e0]at e;cases e;exact m
 have x:Ext μ h.length H μ (h.set i (.lst ys)).length (aJ H (μ i) (.lst vs)):=⟨by simp,λ_ _=>rfl,im⟩
 refine⟨x,λa b ha hb=>?_,λj o e=>?_,s.tab.keep λa o n1 _ q=>?_⟩
 rotate_left 2
 ·rw[aT];exact q
  rintro rfl;rw[e0]at q;cases q;exact n1 _ rfl
 ·rw[gy]at ha hb;exact s.inj a b ha hb
 ·by_cases zl:i=j
  ·subst zl;rw[cx hi]at e;cases e;exact⟨vs,bO,RelDL.mono x _ _ r⟩
  ·rw[dw zl]at e;have hj:j<h.length:=(ay.mp e).1;have r1:=s.ob j o e;have ne:μ j≠μ i:=λz=>zl (s.inj j i hj hi z).symm
   cases o with
   |lst zs=>obtain⟨ws,e1,r2⟩:=r1;exact⟨ws,by rw[aT ne];exact e1,RelDL.mono x _ _ r2⟩
   |clo k t=>exact r1.clo x
   |dct ks=>exact(aT ne).trans r1
end
def lim {α:Type}(n:Nat) (r:Rs α):Rs α:=if n<=1000000 then r else .bad
theorem pI {n:Nat}(h:n<=1000000):n<=bo:=da h (by decide)
def getL (h:Hs) (i:Nat):Option yb :=match h[i]? with
 |some (.lst xs)=>some xs
 |_=>none
theorem cE {h:Hs}{i:Nat}{xs:yb}(e:getL h i=some xs):h[i]?=some (.lst xs):=by
 unfold getL at e
 cases q:h[i]? with
 |none=>rw[q]at e;cases e
 |some o=>
  cases o with
  |lst ys=>rw[q]at e;cases e;rfl
  |clo k t=>rw[q]at e;cases e
  |dct ks=>rw[q]at e;cases e
section
variable{X:Cx}{G:Cfg}{E:XK}{a b c:bj}{ma mb mc:M Dv}{pos:Pos}{es:List bj}{aQ:M yb }
def aB (i:Nat):M Dv:=λρ h=>match ρ[i]? with
 |some (some d)=>.ok d h
 |_=>.bad
theorem aD (i:Nat) {x:Str}(hN:X.N[i]?=some x:=by rfl) (hv:mZ X.env.scope x:=by first|exact x8 rfl|exact Or.inr (x8 rfl)|exact Or.inr (Or.inr rfl))
  (hd:(x==("__debug__" : Str))=false:=by decide) (hcd:(x==("__classdict__" : Str))=false:=by decide):aG X G E (.Name x pos) (aB i):=λ_=>PE.imp (oV hN hv hd hcd) λσ H Q ⟨μ,ρ,h,rs,s,o⟩=>by
 unfold aB at o
 split at o
 ·rename_i d e;obtain⟨v,e1,r⟩:=rs.at_ i d e;exact⟨v,e1,o.val s r⟩
 ·exact o.elim
def mC (d:Dv):M Dv:=λ_ h=>.ok d h
theorem aW {i j}:aG X G E (.Constant (.int i) j pos) (mC (.int i)):=λ_=>PE.imp KR λσ H Q ⟨μ,ρ,h,rs,s,o⟩=>o.val s (show yf G μ _ H (.int i) (.int i) from rfl)
theorem fQ {i j}:aG X G E (.Constant (.bool i) j pos) (mC (.bl i)):=λ_=>PE.imp KS λσ H Q ⟨μ,ρ,h,rs,s,o⟩=>o.val s (show yf G μ _ H (.bl i) (.bl i) from rfl)
theorem pJ {j}:aG X G E (.Constant .none j pos) (mC .non):=λ_=>PE.imp BD λσ H Q ⟨μ,ρ,h,rs,s,o⟩=>o.val s (show yf G μ _ H .non .non from rfl)
theorem pK {x j}:aG X G E (.Constant (.str x) j pos) (mC (.str x)):=λ_=>PE.imp BE λσ H Q ⟨μ,ρ,h,rs,s,o⟩=>o.val s (show yf G μ _ H (.str x) (.str x) from rfl)
def aC:M yb :=λ_ h=>.ok [] h
def aA (m:M Dv) (ms:M yb ):M yb :=λρ h=>(m ρ h).bind λd h1=>(ms ρ h1).bind λds h2=>.ok (d::ds) h2
theorem aL:cX X G E [] aC:=λ_=>PA.imp gS λσ H Q ⟨μ,ρ,h,rs,s,o⟩=>o.val s RelDL.nil
theorem aF (ha:aG X G E a ma) (hr:cX X G E es aQ) (hs:ax (a::es) X.env=(false,eval a X.env)::ax es X.env:=by rfl):cX X G E (a::es) (aA ma aQ):=λhK=>PA.imp (eS (ha hK) (hr hK) hs) λσ H Q ⟨μ,ρ,h,rs,s,o⟩=>cY rs s o λμ1 d h1 v H1 x1 yr s1 r1 o1=>kD yr s1 o1 λμ2 ds h2 vs H2 x2 zq s2 r2 o2=>o2.val s2 (RelDL.cons (yf.mono x2 _ _ r1) r2)
def bD (ms:M yb ):M Dv:=λρ h=>(ms ρ h).bind λds h1=>lim ds.length (.ok (.tup ds) h1)
theorem hZ {k} (h:cX X G E es aQ):aG X G E (.Tuple es k pos) (bD aQ):=λhK=>PE.imp (BV (h hK)) λσ H Q ⟨μ,ρ,h,rs,s,o⟩=>kD rs s o λμ1 ds h1 vs H1 x1 yr s1 r1 o1=>by
 unfold lim at o1
 split at o1
 ·rename_i hl;refine⟨by rw[r1.length];exact pI hl,λp hp=>?_⟩;exact o1 μ1 _ _ (Ext.same (bM hp)) (s1.same (bM hp)) ⟨p,vs,rfl,bO,RelDL.mono (Ext.same (bM hp)) _ _ r1⟩
 ·exact o1.elim
def aO (ms:M yb ):M Dv:=λρ h=>(ms ρ h).bind λds h1=>lim ds.length (.ok (.ref h1.length) (h1++[.lst ds]))
theorem kE {μ:Nat->ah}{h:Hs}{H:Hp}{ds:yb}{vs:List V}{Q:VK}{p:ah}(s:yn G μ h H) (r:RelDL G μ h.length H ds vs) (hp:H p=none) (o:Out G E μ h.length H (.ok (.ref h.length) (h++[.lst ds])) (yf G) Q):Q (.ref p) (aJ H p (.lst vs)):=by obtain⟨x,s'⟩:=s.alloc hp r;exact o _ _ _ x s' ⟨by simp,by show V.ref p=V.ref (if h.length=h.length then p else μ h.length);rw[if_pos rfl]⟩
theorem dU (h:cX X G E es aQ):aG X G E (.List es pos) (aO aQ):=λhK=>PE.imp (NB (h hK)) λσ H Q ⟨μ,ρ,h,rs,s,o⟩=>kD rs s o λμ1 ds h1 vs H1 x1 yr s1 r1 o1=>by
 unfold lim at o1
 split at o1
 ·rename_i hl;exact⟨by rw[r1.length];exact pI hl,λp hp=>kE s1 r1 hp o1⟩
 ·exact o1.elim
def m2 (f:Dv->Dv->Hs->Rs Dv) (ma mb:M Dv):M Dv:=λρ h=>(ma ρ h).bind λx h1=>(mb ρ h1).bind λy h2=>f x y h2
def dW (G:Cfg) (r:R2) (f:Dv->Dv->Hs->Rs Dv):Prop:=∀(E:XK) (μ:Nat->ah) (h:Hs) (H:Hp) (x y:Dv) (vx vy:V) (Q:VK),yn G μ h H->yf G μ h.length H x vx->yf G μ h.length H y vy->Out G E μ h.length H (f x y h) (yf G) Q->r vx vy H Q
theorem pM {r:R2}{f:Dv->Dv->Hs->Rs Dv}(hd:dW G r f) {σ:St}{H:Hp}{Q:VK}(t:fH G E (m2 f ma mb) σ H Q):oY r (fH G E ma) (fH G E mb) σ H Q:=by obtain⟨μ,ρ,h,rs,s,o⟩:=t;exact cY rs s o λμ1 x h1 vx H1 x1 yr s1 r1 o1=>cY yr s1 o1 λμ2 y h2 vy H2 x2 zq s2 r2 o2=>hd E μ2 h2 H2 x y vx vy Q s2 (yf.mono x2 _ _ r1) r2 o2
theorem nB {op:Operator}{r:R2}{f:Dv->Dv->Hs->Rs Dv}(ho:zg X (binaryOp op) r) (hd:dW G r f) (ha:aG X G E a ma) (hb:aG X G E b mb):aG X G E (.BinOp a op b pos) (m2 f ma mb):=λhK=>PE.imp (MM ho (ha hK) (hb hK)) λ_ _ _ t=>pM hd t
theorem O2 {op:CmpOp}{r:R2}{f:Dv->Dv->Hs->Rs Dv}(ho:zg X (compareOp op) r) (hd:dW G r f) (ha:aG X G E a ma) (hb:aG X G E b mb) (hm:behindInMarks op b=false):aG X G E (.Compare a [op] [b] pos) (m2 f ma mb):=λhK=>PE.imp (MY ho (ha hK) (hb hK) hm) λ_ _ _ t=>pM hd t
def iA:Dv->Hs->Rs Bool
 | .bl b,h=>.ok b h
 |_,_=>.bad
def mB (m:M Dv):M Bool:=λρ h=>(m ρ h).bind iA
theorem O3 {m:M Dv}{σ:St}{H:Hp}{Q:Bool->Hp->Prop}(t:fZ G E (mB m) σ H Q):fH G E m σ H λx H'=>∃k,x=.bl k/\Q k H':=by
 obtain⟨μ,ρ,h,rs,s,o⟩:=t;refine cY rs s o λμ1 x h1 vx H1 x1 yr s1 r1 o1=>?_
 cases x with
 |bl k=>exact⟨k,r1,o1.val s1 rfl⟩
 |_=>exact o1.elim
theorem pN {op:CmpOp}{r:R2}{f:Dv->Dv->Hs->Rs Dv}(ho:zg X (compareOp op) r) (hd:dW G r f) (ha:aG X G E a ma) (hb:aG X G E b mb) (hm:behindInMarks op b=false):eW X G E (.Compare a [op] [b] pos) (mB (m2 f ma mb)):=λhK=>PT.imp (M1 ho (ha hK) (hb hK) hm) λσ H Q t=>pM hd (O3 t)
def nC (f f':Dv->Dv->Hs->Rs Dv) (ma mb mc:M Dv):M Dv:=λρ h=>(ma ρ h).bind λx h1=>(mb ρ h1).bind λy h2=>(f x y h2).bind λz h3=>match z with
 | .bl true=>(mc ρ h3).bind λw h4=>f' y w h4
 | .bl false=>.ok (.bl false) h3
 |_=>.bad
theorem O4 {r r':R2}{f f':Dv->Dv->Hs->Rs Dv}(hd:dW G r f) (As:dW G r' f') {σ:St}{H:Hp}{Q:VK}(t:fH G E (nC f f' ma mb mc) σ H Q):BP r r' (fH G E ma) (fH G E mb) (fH G E mc) σ H Q:=by
 obtain⟨μ,ρ,h,rs,s,o⟩:=t;refine cY rs s o λμ1 x h1 vx H1 x1 yr s1 r1 o1=>cY yr s1 o1 λμ2 y h2 vy H2 x2 zq s2 r2 o2=>?_;refine hd E μ2 h2 H2 x y vx vy _ s2 (yf.mono x2 _ _ r1) r2 ((o2.bind (R1:=yf G)).mono λvz H3 ⟨μ3,z,h3,x3,s3,r3,o3⟩=>?_)
 cases z with
 |bl k=>
  refine⟨k,r3, ?_⟩
  cases k with
  |true=>exact CU (cY (zq.mono x3) s3 o3 λμ4 w h4 vw H4 x4 jX s4 r4 o4=>As E μ4 h4 H4 y w vy vw Q s4 (yf.mono (x3.trans x4) _ _ r2) r4 o4)
  |false=>exact CT (o3.val s3 rfl)
 |_=>exact o3.elim
theorem O5 {op op':CmpOp}{r r':R2}{f f':Dv->Dv->Hs->Rs Dv}(ho:zg X (compareOp op) r) (Ba:zg X (compareOp op') r') (hd:dW G r f) (As:dW G r' f') (ha:aG X G E a ma) (hb:aG X G E b mb) (hc:aG X G E c mc)
  (hm:lastMarks [op,op'] [b,c]=false:=by with_unfolding_all rfl):aG X G E (.Compare a [op,op'] [b,c] pos) (nC f f' ma mb mc):=λhK=>
 PE.imp (M3 ho Ba (ha hK) (hb hK) (hc hK) hm) λ_ _ _ t=>O4 hd As t
def iB (G:Cfg) (r:V->Hp->VK->Prop) (f:Dv->Hs->Rs Dv):Prop:=∀(E:XK) (μ:Nat->ah) (h:Hs) (H:Hp) (x:Dv) (vx:V) (Q:VK),yn G μ h H->yf G μ h.length H x vx->Out G E μ h.length H (f x h) (yf G) Q->r vx H Q
def m1 (f:Dv->Hs->Rs Dv) (ma:M Dv):M Dv:=λρ h=>(ma ρ h).bind f
theorem O6 {op:UnaryOp}{r:V->Hp->VK->Prop}{f:Dv->Hs->Rs Dv}(ho:rR X (unaryOp op) r) (hd:iB G r f) (ha:aG X G E a ma):aG X G E (.UnaryOp op a pos) (m1 f ma):=λhK=>PE.imp (MN ho (ha hK)) λσ H Q ⟨μ,ρ,h,rs,s,o⟩=>cY rs s o λμ1 x h1 vx H1 x1 yr s1 r1 o1=>hd E μ1 h1 H1 x vx Q s1 r1 o1
variable{tA fO:M Bool}{rest:List bj}
def gU (t u:M Bool):M Bool:=λρ h=>(t ρ h).bind λc h1=>if c=true then u ρ h1 else .ok false h1
def fI (t u:M Bool):M Bool:=λρ h=>(t ρ h).bind λc h1=>if c=true then .ok true h1 else u ρ h1
def dQ (t:M Bool):M Bool:=λρ h=>(t ρ h).bind λc h1=>.ok (!c) h1
def zt (X:Cx) (G:Cfg) (E:XK) (pe:bj) (m:M Bool):Prop:=X.K=G.K->PW X pe (fZ G E m)
theorem zt.t {pe:bj}{m:M Bool}(h:zt X G E pe m):eW X G E pe m:=λhK=>(h hK).pt
theorem PW.imp {e:bj}{t t':TT}(h:PW X e t) (i:∀σ H Q,t' σ H Q->t σ H Q):PW X e t':=λwh pins s σ H Q I q=>h wh pins s σ H Q I (i σ H Q q)
theorem DI (ha:eW X G E a tA):zt X G E (.BoolOp .And [a] pos) tA:=λhK=>KW (ha hK)
theorem xF (ha:eW X G E a tA):zt X G E (.BoolOp .Or [a] pos) tA:=λhK=>KY (ha hK)
theorem O7 {σ:St}{H:Hp}{Q:Bool->Hp->Prop}(t:fZ G E (gU tA fO) σ H Q):BG (fZ G E tA) (fZ G E fO) σ H Q:=by
 obtain⟨μ,ρ,h,rs,s,o⟩:=t;refine xE rs s o λμ1 k h1 H1 x1 yr s1 o1=>?_
 cases k with
 |true=>rw[if_pos rfl]at o1 ⊢;exact⟨μ1,ρ,h1,yr,s1,o1⟩
 |false=>rw[if_neg (by decide)]at o1 ⊢;exact o1.val s1 rfl
theorem O8 {σ:St}{H:Hp}{Q:Bool->Hp->Prop}(t:fZ G E (fI tA fO) σ H Q):BH (fZ G E tA) (fZ G E fO) σ H Q:=by
 obtain⟨μ,ρ,h,rs,s,o⟩:=t;refine xE rs s o λμ1 k h1 H1 x1 yr s1 o1=>?_
 cases k with
 |false=>rw[if_neg (by decide)]at o1 ⊢;exact⟨μ1,ρ,h1,yr,s1,o1⟩
 |true=>rw[if_pos rfl]at o1 ⊢;exact o1.val s1 rfl
theorem DJ (ha:eW X G E a tA) (hb:zt X G E (.BoolOp .And (b::rest) pos) fO):zt X G E (.BoolOp .And (a::b::rest) pos) (gU tA fO):=λhK=>PW.imp (KZ (ha hK) (hb hK)) λ_ _ _ t=>O7 t
theorem xG (ha:eW X G E a tA) (hb:zt X G E (.BoolOp .Or (b::rest) pos) fO):zt X G E (.BoolOp .Or (a::b::rest) pos) (fI tA fO):=λhK=>PW.imp (K0 (ha hK) (hb hK)) λ_ _ _ t=>O8 t
theorem pO (ha:eW X G E a tA):eW X G E (.UnaryOp .Not a pos) (dQ tA):=λhK=>PT.imp (K1 (ha hK)) λσ H Q ⟨μ,ρ,h,rs,s,o⟩=>xE rs s o λμ1 k h1 H1 x1 yr s1 o1=>o1.val s1 rfl
def eX (m u:M Dv):M Dv:=λρ h=>(m ρ h).bind λd h1=>match d with
 | .bl true=>u ρ h1
 | .bl false=>.ok (.bl false) h1
 |_=>.bad
def sJ:Dv->Hs->Rs Dv
 | .bl b,h=>.ok (.bl (!b)) h
 |_,_=>.bad
theorem pP {op} {m:M Dv}(h:aG X G E a m):aG X G E (.BoolOp op [a] pos) m:=λhK=>LB (h hK)
theorem pQ (ha:aG X G E a ma) (hb:aG X G E (.BoolOp .And (b::rest) pos) mb):aG X G E (.BoolOp .And (a::b::rest) pos) (eX ma mb):=λhK=>PE.imp (LC (ha hK) (hb hK)) λσ H Q ⟨μ,ρ,h,rs,s,o⟩=>
 cY rs s o λμ1 x h1 vx H1 x1 yr s1 r1 o1=>by
  cases x with
  |bl k=>
   refine⟨k,r1, ?_⟩
   cases k with
   |true=>exact CU ⟨μ1,ρ,h1,yr,s1,o1⟩
   |false=>exact CT (o1.val s1 rfl)
  |_=>exact o1.elim
theorem O9 (ha:aG X G E a ma):aG X G E (.UnaryOp .Not a pos) (m1 sJ ma):=λhK=>PE.imp (LD (ha hK)) λσ H Q ⟨μ,ρ,h,rs,s,o⟩=>
 cY rs s o λμ1 x h1 vx H1 x1 yr s1 r1 o1=>by
  cases x with
  |bl k=>exact⟨k,r1,o1.val s1 rfl⟩
  |_=>exact o1.elim
def gC:Dv->Hs->Rs Bool
 | .non,h=>.ok false h
 | .bl b,h=>.ok b h
 | .int i,h=>.ok (i != 0) h
 | .tup xs,h=>.ok (!xs.isEmpty) h
 | .ref i,h=>match getL h i with
  |some xs=>.ok (!xs.isEmpty) h
  |none=>.bad
 |_,_=>.bad
def bN (m:M Dv):M Bool:=λρ h=>(m ρ h).bind gC
theorem DK {μ:Nat->ah}{n:Nat}{H:Hp}{ds:yb}{vs:List V}(r:RelDL G μ n H ds vs):vs.isEmpty=ds.isEmpty:=by
 have:=r.length
 cases ds <;> cases vs <;> simp_all
theorem jI (ha:aG X G E a ma) (he:∀whole,isTrue a X.env whole=(do let v <-whole;standAt a.pos;holding [v] (truthy v)):=by intro _;rfl):eW X G E a (bN ma):=λhK=>PT.imp (M6 (ha hK) he) λσ H Q ⟨μ,ρ,h,rs,s,o⟩=>
 cY rs s o λμ1 x h1 vx H1 x1 yr s1 r1 o1=>by
  cases x with
  |non=>rw[yf]at r1;subst r1;exact⟨_,rfl,o1.val s1 rfl⟩
  |bl k=>rw[yf]at r1;subst r1;exact⟨_,rfl,o1.val s1 rfl⟩
  |int i=>rw[yf]at r1;subst r1;exact⟨_,rfl,o1.val s1 rfl⟩
  |tup ds=>obtain⟨p,vs,rfl,e,r⟩:=r1;exact⟨_,.inr (.inl ⟨vs,yt.of e,rfl⟩),by rw[DK r];exact o1.val s1 rfl⟩
  |ref i=>
   obtain⟨hi,rfl⟩:=r1;dsimp only[gC]at o1
   cases q:getL h1 i with
   |none=>rw[q]at o1;exact o1.elim
   |some xs=>obtain⟨vs,e,r⟩:=s1.ob i _ (cE q);rw[q]at o1;exact⟨_,.inl ⟨vs,y9.of e,rfl⟩,by rw[DK r];exact o1.val s1 rfl⟩
  |_=>exact o1.elim
end
end L2.Mr
namespace L2
open PySem PySem.Spec PyProof.Rows
section
variable{Pg:bg}{w:cf}{P:ah->Prop}{H:Hp}{s:af}
theorem PB (hok:zd Pg w H s.heap) (n:Nat) (A:bp) (d d':Dt) (v v':V) (u u':ae) (hn:dH d<=n) (hu:A.units+n+1<cLine) (n1:nod d=true) (n2:nod d'=true) (h:Den P H d v) (h':Den P H d' v') (r:RelV v u) (r':RelV v' u'):
  SeqAt.RcNeAt A s u u' (!bG d d'):=by
 have yq:A.units<cLine:=by omega
 have zv:1<=n->∀(d d':Dt) (u u':ae),dH d<=n - 1->nod d=true->nod d'=true->Vw P H s d u->Vw P H s d' u'->jy A.in1 s u u' (bG d d'):=λhd d d' u u' a b c e f=>(xB hok (n - 1) A.in1 d d' u u' a (by show A.units+1+(n - 1)+1<cLine;omega) b c e f).2;have k:=vw hok n1 h r;have k':=vw hok n2 h' r'
 clear h h' r r'
 cases k <;> cases k'
 case tup.tup ds a1 vs1 its1 e1 g1 q1 tp1 zj a2 vs2 zf e2 g2 q2 tp2=>
  rw[nod]at n1 n2;rw[dH]at hn;have hl1:=g1.length;have hl2:=g2.length;have hq1:=q1.length;have hq2:=q2.length;rw[bG];have z:=SeqAt.RcNeAt.tuples (e:=λj=>bG (ds.getD j .non) (zj.getD j .non)) tp1 tp2 yq (sF hok (zv (by omega)) (by omega) n1 n2 g1 g2 q1 q2);have s1:its1.toArray.size=ds.length:=by simp;omega
  have s2:zf.toArray.size=zj.length:=by simp;omega
  rw[s1,s2]at z
  by_cases hlen:ds.length=zj.length
  ·rw[pG hlen];rw[<-hlen,Nat.min_self]at z;simpa using z
  ·rw[pH hlen];rw[show(ds.length==zj.length)=false from beq_eq_false_iff_ne.mpr hlen,ow]at z;exact z
 case lst.lst ds a1 vs1 its1 e1 g1 q1 tp1 zj a2 vs2 zf e2 g2 q2 tp2=>
  rw[nod]at n1 n2;rw[dH]at hn;have hl1:=g1.length;have hl2:=g2.length;have hq1:=q1.length;have hq2:=q2.length;rw[bG]
  by_cases hlen:ds.length=zj.length
  ·have z:=SeqAt.RcNeAt.lists (e:=λj=>bG (ds.getD j .non) (zj.getD j .non)) tp1 tp2 (by simp;omega) yq (sF hok (zv (by omega)) (by omega) n1 n2 g1 g2 q1 q2);rw[pG hlen];simpa[hq1.symm,hl1]using z
  ·rw[pH hlen];exact SeqAt.RcNeAt.lists_lengths tp1 tp2 (by simp;omega) yq
 case non.non=>exact .none_none
 case non.bl=>exact .none_bool _
 case non.int=>exact .none_int _ _
 case non.str=>exact .none_str _ _
 case non.tup=>exact .none_tuple ‹_› yq
 case non.lst=>exact .none_list ‹_› yq
 case bl.non=>exact .bool_none _
 case bl.bl=>exact .bool_bool _ _
 case bl.int=>exact .bool_int _ _ _
 case bl.str=>exact .bool_str _ _ _
 case bl.tup=>exact .bool_tuple _ ‹_› yq
 case bl.lst=>exact .bool_list _ ‹_› yq
 case int.non=>exact .int_none _ _
 case int.bl=>exact .int_bool _ _ _
 case int.int=>exact .int_int _ _ _ _
 case int.str=>exact .int_str _ _ _ _
 case int.tup=>exact .int_tuple _ _ ‹_› yq
 case int.lst=>exact .int_list _ _ ‹_› yq
 case str.non=>exact .str_none _ _
 case str.bl=>exact .str_bool _ _ _
 case str.int=>exact .str_int _ _ _ _
 case str.str=>exact .str_str _ _ _ _
 case str.tup=>exact .str_tuple _ _ ‹_› yq
 case str.lst=>exact .str_list _ _ ‹_› yq
 case tup.non=>exact .tuple_none ‹_› yq
 case tup.bl=>exact .tuple_bool _ ‹_› yq
 case tup.int=>exact .tuple_int _ _ ‹_› yq
 case tup.str=>exact .tuple_str _ _ ‹_› yq
 case tup.lst=>exact .tuple_list ‹_› ‹_› yq
 case lst.non=>exact .list_none ‹_› yq
 case lst.bl=>exact .list_bool _ ‹_› yq
 case lst.int=>exact .list_int _ _ ‹_› yq
 case lst.str=>exact .list_str _ _ ‹_› yq
 case lst.tup=>exact .list_tuple ‹_› ‹_› yq
end
end L2
namespace L2.Mr
open PySem PySem.Spec PyProof.Rows
def aY {α β:Type}(f:α->Option β):List α->Option (List β)
 | []=>some []
 |x::xs=>match f x with
  |none=>none
  |some y=>match aY f xs with
   |none=>none
   |some ys=>some (y::ys)
def bI:Nat->Hs->Dv->Option Dt
 |0,_,_=>none
 |k+1,h,d=>match d with
  | .non=>some .non
  | .bl b=>some (.bl b)
  | .int i=>some (.int i)
  | .str x=>some (.str x)
  | .tup xs=>match aY (bI k h) xs with
   |some ts=>some (.tup ts)
   |none=>none
  | .ref i=>match getL h i with
   |some xs=>match aY (bI k h) xs with
    |some ts=>some (.lst ts)
    |none=>none
   |none=>none
  |_=>none
abbrev sL:ah->Prop:=λ_=>True
section
variable{G:Cfg}{μ:Nat->ah}{h:Hs}{H:Hp}
theorem sM (s:yn G μ h H):∀(k:Nat) (d:Dv) (v:V) (t:Dt),yf G μ h.length H d v->bI k h d=some t->Den sL H t v/\dH t<=k/\nod t=true:=by
 intro k
 induction k with
 |zero=>intro d v t _ e;cases e
 |succ k ih=>
  have il:∀(xs:yb) (vs:List V) (ts:List Dt),RelDL G μ h.length H xs vs->aY (bI k h) xs=some ts->yp sL H ts vs/\kC ts<=k/\iO ts=true:=by
   intro xs
   induction xs with
   |nil=>intro vs ts r e;cases e;rw[RelDL]at r;subst r;exact⟨yp.nil,by simp[kC],rfl⟩
   |cons x xs ihx=>
    intro vs ts r e;rw[RelDL]at r;obtain⟨v,rr,rfl,r1,r2⟩:=r;unfold aY at e
    cases q:bI k h x with
    |none=>rw[q]at e;cases e
    |some y=>
     rw[q]at e;dsimp only at e
     cases q2:aY (bI k h) xs with
     |none=>rw[q2]at e;cases e
     |some ys=>rw[q2]at e;cases e;obtain⟨a1,a2,a3⟩:=ih x v y r1 q;obtain⟨b1,b2,b3⟩:=ihx rr ys r2 q2;exact⟨yp.cons a1 b1,by rw[kC];omega,by rw[iO,a3,b3];rfl⟩
  intro d v t r e;unfold bI at e
  cases d with
  |non=>cases e;rw[yf]at r;subst r;exact⟨by rw[Den],by simp[dH],rfl⟩
  |bl b=>cases e;rw[yf]at r;subst r;exact⟨by rw[Den],by simp[dH],rfl⟩
  |int b=>cases e;rw[yf]at r;subst r;exact⟨by rw[Den],by simp[dH],rfl⟩
  |str b=>cases e;rw[yf]at r;subst r;exact⟨by rw[Den],by simp[dH],rfl⟩
  |tup xs=>
   dsimp only at e
   cases q:aY (bI k h) xs with
   |none=>rw[q]at e;cases e
   |some ts=>rw[q]at e;cases e;obtain⟨a,vs,rfl,e1,r1⟩:=r;obtain⟨b1,b2,b3⟩:=il xs vs ts r1 q;exact⟨by rw[Den];exact⟨a,vs,rfl,e1,b1⟩,by rw[dH];omega,by rw[nod];exact b3⟩
  |ref i=>
   dsimp only at e
   cases g:getL h i with
   |none=>rw[g]at e;cases e
   |some xs=>
    rw[g]at e;dsimp only at e
    cases q:aY (bI k h) xs with
    |none=>rw[q]at e;cases e
    |some ts=>rw[q]at e;cases e;obtain⟨hi,rfl⟩:=r;obtain⟨vs,e1,r1⟩:=s.ob i _ (cE g);obtain⟨b1,b2,b3⟩:=il xs vs ts r1 q;exact⟨by rw[Den];exact⟨_,vs,rfl,trivial,e1,b1⟩,by rw[dH];omega,by rw[nod];exact b3⟩
  |edc=>cases e
  |exc c=>cases e
  |scr=>cases e
end
def dI:Nat:=30
def bZ (x y:Dv) (h:Hs):Rs Dv:=match bI dI h x,bI dI h y with
 |some s,some t=>.ok (.bl (bG s t)) h
 |_,_=>.bad
def bV (x y:Dv) (h:Hs):Rs Dv:=match bI dI h x,bI dI h y with
 |some s,some t=>.ok (.bl (!bG s t)) h
 |_,_=>.bad
def sN (neg:Bool):R2:=λx y H Q=>∃t t',Den sL H t x/\Den sL H t' y/\dH t<=dI/\nod t=true/\nod t'=true/\Q (.bl (if neg then !bG t t' else bG t t')) H
section
variable{X:Cx}{G:Cfg}
theorem DL (hu:X.A.units+64<cLine):zg X (compareOp .Eq) (sN false):=by intro pins s σ H x y v u Q I r1 r2 ⟨t,t',d,d',hd,n1,n2,q⟩;exact EqBoolInt.of_rc (OZ I.hok dI X.A t t' x y v u hd (by unfold dI;omega) n1 n2 d d' r1 r2).1 ⟨.bl _,H,I,rfl,q⟩
theorem PC (hu:X.A.units+64<cLine):zg X (compareOp .NotEq) (sN true):=by intro pins s σ H x y v u Q I r1 r2 ⟨t,t',d,d',hd,n1,n2,q⟩;exact EqBoolInt.of_rcne (PB I.hok dI X.A t t' x y v u hd (by unfold dI;omega) n1 n2 d d' r1 r2) ⟨.bl _,H,I,rfl,q⟩
theorem DM:dW G (sN false) bZ:=by
 intro E μ h H x y vx vy Q s rx ry o;unfold bZ at o
 split at o
 ·rename_i t t' e e';obtain⟨a1,a2,a3⟩:=sM s _ x vx t rx e;obtain⟨b1,b2,b3⟩:=sM s _ y vy t' ry e';exact⟨t,t',a1,b1,a2,a3,b3,o.val s rfl⟩
 ·exact o.elim
theorem PF:dW G (sN true) bV:=by
 intro E μ h H x y vx vy Q s rx ry o;unfold bV at o
 split at o
 ·rename_i t t' e e';obtain⟨a1,a2,a3⟩:=sM s _ x vx t rx e;obtain⟨b1,b2,b3⟩:=sM s _ y vy t' ry e';exact⟨t,t',a1,b1,a2,a3,b3,o.val s rfl⟩
 ·exact o.elim
end
def jJ (g:Int->Int->Dv):Dv->Dv->Hs->Rs Dv
 | .int i,.int j,h=>.ok (g i j) h
 |_,_,_=>.bad
def iP (C:Int->Int->Bool) (g:Int->Int->Dv):Dv->Dv->Hs->Rs Dv
 | .int i,.int j,h=>if C i j=true then .ok (g i j) h else .bad
 |_,_,_=>.bad
section
variable{X:Cx}{G:Cfg}
theorem PH {f:Int->Int->Int}:dW G (iN λi j=>.int (f i j)) (jJ λi j=>.int (f i j)):=by
 intro E μ h H x y vx vy Q s rx ry o
 cases x with
 |int i=>
  cases y with
  |int j=>exact⟨i,j,rx,ry,o.val s rfl⟩
  |_=>exact o.elim
 |_=>exact o.elim
theorem sO {f:Int->Int->Bool}:dW G (iN λi j=>.bl (f i j)) (jJ λi j=>.bl (f i j)):=by
 intro E μ h H x y vx vy Q s rx ry o
 cases x with
 |int i=>
  cases y with
  |int j=>exact⟨i,j,rx,ry,o.val s rfl⟩
  |_=>exact o.elim
 |_=>exact o.elim
theorem sP {C:Int->Int->Prop}{B:Int->Int->Bool}{f:Int->Int->Int}(hB:∀i j,B i j=true->C i j):dW G (rI C λi j=>.int (f i j)) (iP B λi j=>.int (f i j)):=by
 intro E μ h H x y vx vy Q s rx ry o
 cases x with
 |int i=>
  cases y with
  |int j=>
   dsimp only[iP]at o
   split at o
   ·rename_i hb;exact⟨i,j,rx,ry,hB i j hb,o.val s rfl⟩
   ·exact o.elim
  |_=>exact o.elim
 |_=>exact o.elim
def fJ (i:Int):Bool:=decide (-18446744073709551616<i)&&decide (i<18446744073709551616)
def sQ (i j:Int):Bool:=fJ i||fJ j
theorem PJ (i j:Int) (h:sQ i j=true):CMul i j:=by
 unfold sQ fJ at h;unfold CMul;simp only[Bool.or_eq_true,dh,decide_eq_true_eq]at h
 rcases h with h|h
 ·exact .inl ⟨by omega,by omega⟩
 ·exact .inr ⟨by omega,by omega⟩
def nE (_ j:Int):Bool:=decide (0<j)
theorem PK (i j:Int) (h:nE i j=true):0<j:=by unfold nE at h;simpa using h
def pR (i j:Int):Bool:=decide (0<=j)&&decide (j<=1000000)&&decide (i.natAbs<18446744073709551616)
theorem PL (i j:Int) (h:pR i j=true):wJ i j:=by unfold pR at h;unfold wJ;simp only[dh,decide_eq_true_eq]at h;exact⟨h.1.1,h.1.2,by have:=h.2;omega⟩
def nF:Dv->Dv->Hs->Rs Dv
 | .int i,.int j,h=>.ok (.int (i+j)) h
 | .ref i,.ref j,h=>match getL h i,getL h j with
  |some xs,some ys=>lim (xs.length+ys.length) (.ok (.ref h.length) (h++[.lst (xs++ys)]))
  |_,_=>.bad
 | .tup xs,.tup ys,h=>if xs.isEmpty=true then .bad else lim (xs.length+ys.length) (.ok (.tup (xs++ys)) h)
 |_,_,_=>.bad
def xH (K:ar):R2:=λx y H Q=>(iN λi j=>.int (i+j)) x y H Q∨CQ x y H Q∨CH K x y H Q
theorem PM:zg X (binaryOp .Add) (xH X.K):=op_add.or (op_cat.or N1)
theorem PN:dW G (xH G.K) nF:=by
 intro E μ h H x y vx vy Q s rx ry o
 cases x with
 |int i=>
  cases y with
  |int j=>exact .inl ⟨i,j,rx,ry,o.val s rfl⟩
  |_=>exact o.elim
 |ref i=>
  cases y with
  |ref j=>
   dsimp only[nF]at o
   cases g1:getL h i with
   |none=>rw[g1]at o;exact o.elim
   |some xs=>
    cases g2:getL h j with
    |none=>rw[g1,g2]at o;exact o.elim
    |some ys=>
     rw[g1,g2]at o;dsimp only at o;unfold lim at o
     split at o
     ·rename_i hl;obtain⟨vs,e1,r1⟩:=s.ob i _ (cE g1);obtain⟨ws,e2,r2⟩:=s.ob j _ (cE g2);obtain⟨_,rfl⟩:=rx;obtain⟨_,rfl⟩:=ry;exact .inr (.inl ⟨_,_,vs,ws,rfl,rfl,e1,e2,by rw[r1.length,r2.length];exact pI hl,λp hp=>kE s (r1.append r2) hp o⟩)
     ·exact o.elim
  |_=>exact o.elim
 |tup xs=>
  cases y with
  |tup ys=>
   dsimp only[nF]at o
   split at o
   ·exact o.elim
   ·rename_i hne;unfold lim at o
    split at o
    ·rename_i hl;obtain⟨a,vs,rfl,e1,r1⟩:=rx;obtain⟨b,ws,rfl,e2,r2⟩:=ry;refine .inr (.inr ⟨a,b,vs,ws,rfl,rfl,yt.of e1,yt.of e2, ?_,by rw[r1.length,r2.length];exact pI hl,λz=>?_,λ_ p hp=>?_⟩)
     ·intro z;subst z;have:=r1.length
      cases xs <;> simp_all
     ·subst z;have e3:ys=[]:=by have:=r2.length;cases ys <;> simp_all
      subst e3;refine o.val s ?_;rw[kr];exact⟨a,vs,rfl,e1,r1⟩
     ·exact o μ _ _ (Ext.same (bM hp)) (s.same (bM hp)) ⟨p,_,rfl,bO,RelDL.mono (Ext.same (bM hp)) _ _ (r1.append r2)⟩
    ·exact o.elim
  |_=>exact o.elim
 |_=>exact o.elim
def jK (xs:yb) (i:Int) (h:Hs):Rs Dv:=match fP xs i with
 |some d=>.ok d h
 |none=>.bad
def iC (scr:xu):Dv->Dv->Hs->Rs Dv
 | .tup xs,.int i,h=>jK xs i h
 | .ref k,.int i,h=>match getL h k with
  |some xs=>jK xs i h
  |none=>.bad
 | .scr,.int i,h=>jK (scr.map Dv.int) i h
 |_,_,_=>.bad
theorem nG {μ:Nat->ah}{n:Nat}{H:Hp}:∀ns:xu,RelDL G μ n H (ns.map Dv.int) (ns.map V.int)
 | []=>RelDL.nil
 |i::ns=>RelDL.cons rfl (nG ns)
theorem xI {E:XK}{μ:Nat->ah}{h:Hs}{H:Hp}{xs:yb}{vs:List V}{i:Int}{Q:VK}(s:yn G μ h H) (r:RelDL G μ h.length H xs vs) (o:Out G E μ h.length H (jK xs i h) (yf G) Q):∃v,fP vs i=some v/\Q v H:=by
 unfold jK at o
 cases e:fP xs i with
 |none=>rw[e]at o;exact o.elim
 |some d=>
  rw[e]at o;unfold fP at e ⊢;rw[r.length]
  cases q:eJ xs.length i with
  |none=>rw[q]at e;cases e
  |some j=>rw[q]at e;obtain⟨v,e1,r1⟩:=r.get e;exact⟨v,e1,o.val s r1⟩
theorem DN:dW G (wR G.K) (iC G.scr):=by
 intro E μ h H x y vx vy Q s rx ry o
 cases y with
 |int i=>
  cases x with
  |tup xs=>obtain⟨a,vs,rfl,e1,r1⟩:=rx;obtain⟨v,e2,q⟩:=xI s r1 o;exact .inr (.inl ⟨a,vs,i,v,rfl,ry,yt.of e1,e2,q⟩)
  |ref k=>
   dsimp only[iC]at o
   cases g:getL h k with
   |none=>rw[g]at o;exact o.elim
   |some xs=>rw[g]at o;obtain⟨vs,e1,r1⟩:=s.ob k _ (cE g);obtain⟨_,rfl⟩:=rx;obtain⟨v,e2,q⟩:=xI s r1 o;exact .inl ⟨_,vs,i,v,rfl,ry,y9.of e1,e2,q⟩
  |scr=>obtain⟨rfl,hf⟩:=rx;obtain⟨v,e2,q⟩:=xI s (nG G.scr) o;exact .inl ⟨_,_,i,v,rfl,ry,hf.sq,e2,q⟩
  |_=>exact o.elim
 |_=>cases x <;> exact o.elim
theorem PQ {E:XK}{a b:bj}{ma mb:M Dv}{pos:Pos}(ha:aG X G E a ma) (hb:aG X G E b mb) (hs:wQ b:=by intro _ _;rfl):aG X G E (.Subscript a b pos) (m2 (iC G.scr) ma mb):=λhK=>PE.imp (CJ (by have:=CN (X:=X);rw[hK]at this;exact this) (ha hK) (hb hK) hs) λ_ _ _ t=>pM DN t
theorem xJ:dm "tuple" = some (.type "tuple"):=by decide +kernel
theorem sR:dm "list" = some (.type "list"):=by decide +kernel
theorem PR:dm "max" = some (.builtin "max"):=by decide +kernel
theorem PU:dm "min" = some (.builtin "min"):=by decide +kernel
variable{E:XK}{aQ:M yb }{e:bj}{es:List bj}{x:Str}{p pos:Pos}{id T:String}
def lU (G:Cfg) (r:List V->Hp->VK->Prop) (f:ya):Prop:=∀(E:XK) (μ:Nat->ah) (h:Hs) (H:Hp) (xs:yb) (vs:List V) (Q:VK),yn G μ h H->RelDL G μ h.length H xs vs->Out G E μ h.length H (f xs h) (yf G) Q->r vs H Q
def aE (f:ya) (ms:M yb ):M Dv:=λρ h=>(ms ρ h).bind f
theorem DO {r:List V->Hp->VK->Prop}{f:ya}(hd:lU G r f) {σ:St}{H:Hp}{Q:VK}(t:fH G E (aE f aQ) σ H Q):rT r (xD G E aQ) σ H Q:=by obtain⟨μ,ρ,h,rs,s,o⟩:=t;exact kD rs s o λμ1 ds h1 vs H1 x1 yr s1 r1 o1=>hd E μ1 h1 H1 ds vs Q s1 r1 o1
theorem nI {r:List V->Hp->VK->Prop}{f:ya}(hc:ym X (.builtin id) r) (hd:lU G r f) (hg:Gl X x) (hm:X.mg x=none) (hv:dm x=some (.builtin id)) (ha:cX X G E (e::es) aQ) (hn:x ≠ "__name__" := by decide) (Ao:(x==("__debug__" : Str))=false:=by decide)
  (he:ax (e::es) X.env=(false,eval e X.env)::ax es X.env:=by rfl) (zh:(backTo pos (ax es X.env)).any (·.1)=false:=by rfl):aG X G E (.Call (.Name x p) (e::es) [] pos) (aE f aQ):=λhK=>
 PE.imp (pC hc hg hm hv (ha hK) hn Ao he zh) λ_ _ _ t=>DO hd t
theorem DP {r:List V->Hp->VK->Prop}{f:ya}(hc:ym X (.type T) r) (hd:lU G r f) (hg:Gl X x) (hm:X.mg x=none) (hv:dm x=some (.type T)) (ha:cX X G E (e::es) aQ) (hn:x ≠ "__name__" := by decide) (Ao:(x==("__debug__" : Str))=false:=by decide)
  (he:ax (e::es) X.env=(false,eval e X.env)::ax es X.env:=by rfl) (zh:(backTo pos (ax es X.env)).any (·.1)=false:=by rfl):aG X G E (.Call (.Name x p) (e::es) [] pos) (aE f aQ):=λhK=>
 PE.imp (rV hc hg hm hv (ha hK) hn Ao he zh) λ_ _ _ t=>DO hd t
def fR (scr:xu):Dv->Hs->Option yb 
 | .tup xs,_=>some xs
 | .ref i,h=>getL h i
 | .scr,_=>some (scr.map Dv.int)
 |_,_=>none
def f1 (g:Dv->Hs->Rs Dv):ya
 | [d],h=>g d h
 |_,_=>.bad
def gD (scr:xu) (d:Dv) (h:Hs):Rs Dv:=match fR scr d h with
 |some xs=>.ok (.int xs.length) h
 |none=>.bad
theorem pS {μ:Nat->ah}{n:Nat}{H:Hp}{d:Dv}{vs:List V}(r:RelDL G μ n H [d] vs):∃v,vs=[v]/\yf G μ n H d v:=by rw[RelDL]at r;obtain⟨v,rr,rfl,h1,h2⟩:=r;rw[RelDL]at h2;subst h2;exact⟨v,rfl,h1⟩
theorem nJ {r:V->Hp->VK->Prop}{g:Dv->Hs->Rs Dv}(hg:iB G r g):lU G (λxs H Q=>∃v,xs=[v]/\r v H Q) (f1 g):=by
 intro E μ h H xs vs Q s rr o
 match xs,rr,o with
 | [],_,o=>exact o.elim
 |_::_::_,_,o=>exact o.elim
 | [d],rr,o=>obtain⟨v,rfl,r1⟩:=pS rr;exact⟨v,rfl,hg E μ h H d v Q s r1 o⟩
theorem DQ {μ:Nat->ah}{n:Nat}{H:Hp}{d d':Dv}{vs:List V}(r:RelDL G μ n H [d,d'] vs):∃v v',vs=[v,v']/\yf G μ n H d v/\yf G μ n H d' v':=by rw[RelDL]at r;obtain⟨v,rr,rfl,h1,h2⟩:=r;obtain⟨v',rfl,h3⟩:=pS h2;exact⟨v,v',rfl,h1,h3⟩
theorem DR {μ:Nat->ah}{h:Hs}{H:Hp}{d:Dv}{v:V}{xs:yb}(s:yn G μ h H) (r:yf G μ h.length H d v) (e:fR G.scr d h=some xs):∃a vs,v=.ref a/\(y9 G.K H a vs∨yt G.K H a vs)/\RelDL G μ h.length H xs vs:=by
 cases d with
 |tup ds=>cases e;obtain⟨a,vs,rfl,e1,r1⟩:=r;exact⟨a,vs,rfl,.inr (yt.of e1),r1⟩
 |ref i=>obtain⟨_,rfl⟩:=r;obtain⟨vs,e1,r1⟩:=s.ob i _ (cE e);exact⟨_,vs,rfl,.inl (y9.of e1),r1⟩
 |scr=>cases e;obtain⟨rfl,hf⟩:=r;exact⟨_,_,rfl,.inl hf.sq,nG _⟩
 |_=>cases e
def DS (K:ar):V->Hp->VK->Prop:=λx H Q=>∃p ys,x=.ref p/\(y9 K H p ys∨yt K H p ys)/\Q (.int ys.length) H
theorem DT:iB G (DS G.K) (gD G.scr):=by
 intro E μ h H d v Q s r1 o;unfold gD at o
 cases e:fR G.scr d h with
 |none=>rw[e]at o;exact o.elim
 |some ys=>rw[e]at o;obtain⟨a,ws,rfl,hs,r2⟩:=DR s r1 e;exact⟨a,ws,rfl,hs,by rw[r2.length];exact o.val s rfl⟩
theorem ym.imp {f:ae}{r r':List V->Hp->VK->Prop}(h:ym X f r) (i:∀xs H Q,r' xs H Q->r xs H Q):ym X f r':=λpins s σ H xs us Q I rv q=>h pins s σ H xs us Q I rv (i xs H Q q)
theorem DU (hg:Gl X "len") (hm:X.mg "len" = none) (ha:cX X G E (e::es) aQ)
  (he:ax (e::es) X.env=(false,eval e X.env)::ax es X.env:=by rfl) (zh:(backTo pos (ax es X.env)).any (·.1)=false:=by rfl):aG X G E (.Call (.Name "len" p) (e::es) [] pos) (aE (f1 (gD G.scr)) aQ):=λhK=>
 nI (ym.imp (CO (X:=X)) λxs H Q ⟨v,h1,a,ys,h2,h3,h4⟩=>⟨a,ys,by rw[h1,h2],by rw[hK];exact h3,h4⟩) (nJ DT) hg hm PySem.boot_len ha (by decide) (by decide) he zh hK
def nK:ya
 | [.int i,.int j],h=>.ok (.int (if j>i then j else i)) h
 |_,_=>.bad
def nL:ya
 | [.int i,.int j],h=>.ok (.int (if j<i then j else i)) h
 |_,_=>.bad
theorem DV {f:ya}{g:Int->Int->Int}(h2:∀i j h,f [.int i,.int j] h=.ok (.int (g i j)) h) (hb:∀xs h,(∀i j,xs≠[.int i,.int j])->f xs h=.bad):
  lU G (λxs H Q=>∃i j,xs=[.int i,.int j]/\Q (.int (g i j)) H) f:=by
 intro E μ h H xs vs Q s r o
 by_cases hx:∃i j,xs=[.int i,.int j]
 ·obtain⟨i,j,rfl⟩:=hx;obtain⟨v,v',rfl,r1,r2⟩:=DQ r;rw[yf]at r1 r2;subst r1;subst r2;rw[h2]at o;exact⟨i,j,rfl,o.val s rfl⟩
 ·rw[hb xs h (λi j e=>hx ⟨i,j,e⟩)]at o;exact o.elim
theorem PV:lU G (λxs H Q=>∃i j,xs=[.int i,.int j]/\Q (.int (if j>i then j else i)) H) nK:=DV (λ_ _ _=>rfl) λxs h hx=>by
 unfold nK;split
 ·rename_i i j;exact absurd rfl (hx i j)
 ·rfl
theorem PX:lU G (λxs H Q=>∃i j,xs=[.int i,.int j]/\Q (.int (if j<i then j else i)) H) nL:=DV (λ_ _ _=>rfl) λxs h hx=>by
 unfold nL;split
 ·rename_i i j;exact absurd rfl (hx i j)
 ·rfl
def gE:Dv->Hs->Rs Dv
 | .tup xs,h=>.ok (.tup xs) h
 | .ref i,h=>match getL h i with
  |some xs=>.ok (.tup xs) h
  |none=>.bad
 |_,_=>.bad
def PY (K:ar):V->Hp->VK->Prop:=λx H Q=>∃p ys,x=.ref p/\((y9 K H p ys/\∀l,H l=none->Q (.ref l) (aJ H l (.tup ys)))∨(yt K H p ys/\Q (.ref p) H))
theorem PZ:iB G (PY G.K) gE:=by
 intro E μ h H d v Q s r1 o
 cases d with
 |tup ds=>have r1':=r1;obtain⟨a,ws,rfl,e1,r2⟩:=r1;exact⟨a,ws,rfl,.inr ⟨yt.of e1,o.val s r1'⟩⟩
 |ref i=>
  dsimp only[gE]at o
  cases g:getL h i with
  |none=>rw[g]at o;exact o.elim
  |some ys=>rw[g]at o;obtain⟨_,rfl⟩:=r1;obtain⟨ws,e1,r2⟩:=s.ob i _ (cE g);exact⟨_,ws,rfl,.inl ⟨y9.of e1,λl hl=>o μ _ _ (Ext.same (bM hl)) (s.same (bM hl)) ⟨l,ws,rfl,bO,RelDL.mono (Ext.same (bM hl)) _ _ r2⟩⟩⟩
 |_=>exact o.elim
theorem xK (hg:Gl X "tuple") (hm:X.mg "tuple" = none) (ha:cX X G E (e::es) aQ)
  (he:ax (e::es) X.env=(false,eval e X.env)::ax es X.env:=by rfl) (zh:(backTo pos (ax es X.env)).any (·.1)=false:=by rfl):aG X G E (.Call (.Name "tuple" p) (e::es) [] pos) (aE (f1 gE) aQ):=λhK=>
 DP (ym.imp (OB (X:=X)) λxs H Q ⟨v,h1,a,ys,h2,h3⟩=>⟨a,ys,by rw[h1,h2],by rw[hK];exact h3⟩) (nJ PZ) hg hm xJ ha (by decide) (by decide) he zh hK
def lV (scr:xu) (d:Dv) (h:Hs):Rs Dv:=match fR scr d h with
 |some xs=>.ok (.ref h.length) (h++[.lst xs])
 |none=>.bad
theorem P0:iB G (λx H Q=>∃p ys,x=.ref p/\(y9 G.K H p ys∨yt G.K H p ys)/\∀l,H l=none->Q (.ref l) (aJ H l (.lst ys))) (lV G.scr):=by
 intro E μ h H d v Q s r1 o;unfold lV at o
 cases e:fR G.scr d h with
 |none=>rw[e]at o;exact o.elim
 |some ys=>rw[e]at o;obtain⟨a,ws,rfl,hs,r2⟩:=DR s r1 e;exact⟨a,ws,rfl,hs,λl hl=>kE s r2 hl o⟩
theorem P4 (hc:X.calm=true) (hg:Gl X "max") (hm:X.mg "max" = none) (ha:cX X G E (e::es) aQ)
  (he:ax (e::es) X.env=(false,eval e X.env)::ax es X.env:=by rfl) (zh:(backTo pos (ax es X.env)).any (·.1)=false:=by rfl):aG X G E (.Call (.Name "max" p) (e::es) [] pos) (aE nK aQ):=
 nI (M7 hc) PV hg hm PR ha (by decide) (by decide) he zh
theorem P5 (hc:X.calm=true) (hg:Gl X "min") (hm:X.mg "min" = none) (ha:cX X G E (e::es) aQ)
  (he:ax (e::es) X.env=(false,eval e X.env)::ax es X.env:=by rfl) (zh:(backTo pos (ax es X.env)).any (·.1)=false:=by rfl):aG X G E (.Call (.Name "min" p) (e::es) [] pos) (aE nL aQ):=
 nI (M8 hc) PX hg hm PU ha (by decide) (by decide) he zh
end
inductive Sr where
 |nx (ρ:Ev) (h:Hs)|rt (d:Dv) (h:Hs)|bk (ρ:Ev) (h:Hs)|ct (ρ:Ev) (h:Hs)|ex (c:Nat) (h:Hs)|bad
abbrev MS:=Ev->Hs->Sr
def yz (G:Cfg) (E:XK) (μ:Nat->ah) (n:Nat) (H:Hp) (r:Sr) (D:Ends):Prop:=match r with
 | .nx ρ h'=>∀μ' H' σ',Ext μ n H μ' h'.length H'->yn G μ' h' H'->yk G μ' h'.length H' ρ σ'->D.nx σ' H'
 | .bk ρ h'=>∀μ' H' σ',Ext μ n H μ' h'.length H'->yn G μ' h' H'->yk G μ' h'.length H' ρ σ'->D.bk σ' H'
 | .ct ρ h'=>∀μ' H' σ',Ext μ n H μ' h'.length H'->yn G μ' h' H'->yk G μ' h'.length H' ρ σ'->D.ct σ' H'
 | .rt d h'=>∀μ' H' v,Ext μ n H μ' h'.length H'->yn G μ' h' H'->yf G μ' h'.length H' d v->D.rt v H'
 | .ex c h'=>∀μ' H' u,Ext μ n H μ' h'.length H'->yn G μ' h' H'->sG G H' c u->E u none H'
 | .bad=>False
theorem yz.ext {G:Cfg}{E:XK}{μ μ1:Nat->ah}{n n1:Nat}{H H1:Hp}{r:Sr}{D:Ends}(o:yz G E μ n H r D) (x:Ext μ n H μ1 n1 H1):yz G E μ1 n1 H1 r D:=by
 cases r with
 |nx ρ h'=>exact λμ' H' σ' y=>o μ' H' σ' (x.trans y)
 |bk ρ h'=>exact λμ' H' σ' y=>o μ' H' σ' (x.trans y)
 |ct ρ h'=>exact λμ' H' σ' y=>o μ' H' σ' (x.trans y)
 |rt d h'=>exact λμ' H' σ' y=>o μ' H' σ' (x.trans y)
 |ex c h'=>exact λμ' H' σ' y=>o μ' H' σ' (x.trans y)
 |bad=>exact o
def sS (G:Cfg) (E:XK) (m:MS):TS:=λD σ H=>∃μ ρ h,yk G μ h.length H ρ σ/\yn G μ h H/\yz G E μ h.length H (m ρ h) D
def fK (X:Cx) (G:Cfg) (E:XK) (st:ja) (m:MS):Prop:=X.K=G.K->PS X st (sS G E m)
def iD (X:Cx) (G:Cfg) (E:XK) (st:List ja) (m:MS):Prop:=X.K=G.K->Bi X st (sS G E m)
theorem PS.imp {X:Cx}{e:ja}{t t':TS}(h:PS X e t) (i:∀D σ H,t' D σ H->t D σ H):PS X e t':=λpins s σ H D I q=>h pins s σ H D I (i D σ H q)
theorem Bi.imp {X:Cx}{e:List ja}{t t':TS}(h:Bi X e t) (i:∀D σ H,t' D σ H->t D σ H):Bi X e t':=λpins s σ H D I q=>h pins s σ H D I (i D σ H q)
noncomputable def Rs.thenS {α:Type}(r:Rs α) (f:α->Hs->Sr):Sr:=match r with
 | .ok a h=>f a h
 | .ex c h=>.ex c h
 | .bad=>.bad
@[simp] theorem Rs.thenS_ok {α:Type}(a:α) (h:Hs) (f:α->Hs->Sr):(Rs.ok a h).thenS f=f a h:=rfl
@[simp] theorem Rs.thenS_ex {α:Type}(c:Nat) (h:Hs) (f:α->Hs->Sr):(Rs.ex c h).thenS f=.ex c h:=rfl
@[simp] theorem Rs.thenS_bad {α:Type}(f:α->Hs->Sr):(Rs.bad).thenS f=.bad:=rfl
theorem yz.thenS {α β:Type}{G:Cfg}{E:XK}{μ:Nat->ah}{n:Nat}{H:Hp}{r:Rs α}{f:α->Hs->Sr}{D:Ends}{R:(Nat->ah)->Nat->Hp->α->β->Prop}
  (o:yz G E μ n H (r.thenS f) D):Out G E μ n H r R λv H1=>∃μ1 d h1,Ext μ n H μ1 h1.length H1/\yn G μ1 h1 H1/\R μ1 h1.length H1 d v/\yz G E μ1 h1.length H1 (f d h1) D:=by
 cases r with
 |bad=>exact o
 |ex c h'=>exact o
 |ok d h'=>exact λμ1 H1 v x1 s1 r1=>⟨μ1,d,h',x1,s1,r1,yz.ext o x1⟩
section
variable{X:Cx}{G:Cfg}{E:XK}{st:ja}{rest:List ja}{m u:MS}{e:bj}{me:M Dv}{pos:Pos}
theorem iQ {m:M Dv}{σ:St}{H:Hp}{f:Dv->Hs->Sr}{D:Ends}{Q1:V->Hp->Prop}{μ:Nat->ah}{ρ:Ev}{h:Hs}(rs:yk G μ h.length H ρ σ) (s:yn G μ h H) (o:yz G E μ h.length H ((m ρ h).thenS f) D)
  (k:∀μ1 d h1 v H1,Ext μ h.length H μ1 h1.length H1->yk G μ1 h1.length H1 ρ σ->yn G μ1 h1 H1->yf G μ1 h1.length H1 d v->yz G E μ1 h1.length H1 (f d h1) D->Q1 v H1):fH G E m σ H Q1:=
 ⟨μ,ρ,h,rs,s,(o.thenS (R:=yf G)).mono λv H1 ⟨μ1,d,h1,x,s1,r1,o1⟩=>k μ1 d h1 v H1 x (rs.mono x) s1 r1 o1⟩
theorem DW {m:M Bool}{σ:St}{H:Hp}{f:Bool->Hs->Sr}{D:Ends}{Q1:Bool->Hp->Prop}{μ:Nat->ah}{ρ:Ev}{h:Hs}(rs:yk G μ h.length H ρ σ) (s:yn G μ h H) (o:yz G E μ h.length H ((m ρ h).thenS f) D)
  (k:∀μ1 b h1 H1,Ext μ h.length H μ1 h1.length H1->yk G μ1 h1.length H1 ρ σ->yn G μ1 h1 H1->yz G E μ1 h1.length H1 (f b h1) D->Q1 b H1):fZ G E m σ H Q1:=
 ⟨μ,ρ,h,rs,s,(o.thenS (R:=RB)).mono λv H1 ⟨μ1,d,h1,x,s1,r1,o1⟩=>by have e:v=d:=r1;subst e;exact k μ1 v h1 H1 x (rs.mono x) s1 o1⟩
def bC:MS:=λρ h=>.nx ρ h
def aK (m u:MS):MS:=λρ h=>match m ρ h with
 | .nx ρ1 h1=>u ρ1 h1
 |r=>r
theorem dX:iD X G E [] bC:=λ_=>Bi.imp LI λD σ H ⟨μ,ρ,h,rs,s,o⟩=>o μ H σ Ext.refl s rs
theorem aZ (h1:fK X G E st m) (h2:iD X G E rest u):iD X G E (st::rest) (aK m u):=λhK=>Bi.imp (LJ (h1 hK) (h2 hK)) λD σ H ⟨μ,ρ,h,rs,s,o⟩=>by
 refine⟨μ,ρ,h,rs,s, ?_⟩;unfold aK at o
 cases q:m ρ h with
 |nx ρ1 h1=>rw[q]at o;exact λμ1 H1 σ1 x1 s1 yr=>⟨μ1,ρ1,h1,yr,s1,yz.ext o x1⟩
 |bk ρ1 h1=>rw[q]at o;exact o
 |ct ρ1 h1=>rw[q]at o;exact o
 |rt ρ1 h1=>rw[q]at o;exact o
 |ex ρ1 h1=>rw[q]at o;exact o
 |bad=>rw[q]at o;exact o
theorem bB (h1:fK X G E st m):iD X G E [st] m:=λhK=>BI (h1 hK)
def dD (me:M Dv):MS:=λρ h=>(me ρ h).thenS λ_ h1=>.nx ρ h1
theorem pU (he:aG X G E e me) (hs:swapsWith e none pos.line X.env=pure false:=by rfl):fK X G E (.Expr e pos) (dD me):=λhK=>PS.imp (LL (he hK) hs) λD σ H ⟨μ,ρ,h,rs,s,o⟩=>iQ rs s o λμ1 d h1 v H1 x1 yr s1 r1 o1=>o1 μ1 H1 σ Ext.refl s1 yr
def aS (me:M Dv):MS:=λρ h=>(me ρ h).thenS λd h1=>.rt d h1
theorem cH (he:aG X G E e me):fK X G E (.Return (some e) pos) (aS me):=λhK=>PS.imp (LN (he hK)) λD σ H ⟨μ,ρ,h,rs,s,o⟩=>iQ rs s o λμ1 d h1 v H1 x1 yr s1 r1 o1=>o1 μ1 H1 v Ext.refl s1 r1
def aV (c:M Bool) (t u:MS):MS:=λρ h=>(c ρ h).thenS λb h1=>if b=true then t ρ h1 else u ρ h1
theorem dR {c:bj}{a b:List ja}{mc:M Bool}(hc:eW X G E c mc) (ha:iD X G E a m) (hb:iD X G E b u):fK X G E (.If c a b pos) (aV mc m u):=λhK=>PS.imp (LP (hc hK) (ha hK) (hb hK)) λD σ H ⟨μ,ρ,h,rs,s,o⟩=>
 DW rs s o λμ1 k h1 H1 x1 yr s1 o1=>by
  cases k with
  |true=>rw[if_pos rfl]at o1 ⊢;exact⟨μ1,ρ,h1,yr,s1,o1⟩
  |false=>rw[if_neg (by decide)]at o1 ⊢;exact⟨μ1,ρ,h1,yr,s1,o1⟩
theorem yk.set {μ:Nat->ah}{n:Nat}{H:Hp}{ρ:Ev}{σ:St}{d:Dv}{v:V}(rs:yk G μ n H ρ σ) (i:Nat) (r:yf G μ n H d v):yk G μ n H (ρ.set i (some d)) (σ.set i (some v)):=⟨by rw[gy,gy];exact rs.len,λj d' e=>by
 have hl:=rs.len
 by_cases zl:i=j
 ·subst zl;have hi:i<ρ.length:=by have:=(ay.mp e).1;simpa using this
  rw[cx hi]at e;cases e;exact⟨v,cx (by omega),r⟩
 ·rw[dw zl]at e ⊢;exact rs.at_ j d' e⟩
abbrev cI:=Dv->Ev->Option Ev
def pV (G:Cfg) (st:cI):TG:=λv σ H Q=>∃μ ρ h d ρ',yk G μ h H ρ σ/\yf G μ h H d v/\st d ρ=some ρ'/\∀σ',yk G μ h H ρ' σ'->Q σ' H
def kY (X:Cx) (G:Cfg) (tg:bj) (st:cI):Prop:=X.K=G.K->PG X tg (pV G st)
theorem PG.imp {tg:bj}{t t':TG}(h:PG X tg t) (i:∀v σ H Q,t' v σ H Q->t v σ H Q):PG X tg t':=λpins s σ H v u Q I r q=>h pins s σ H v u Q I r (i v σ H Q q)
theorem PGs.imp {tg:List bj}{t t':iM}(h:PGs X tg t) (i:∀v σ H Q,t' v σ H Q->t v σ H Q):PGs X tg t':=λpins s σ H v u Q I r q=>h pins s σ H v u Q I r (i v σ H Q q)
def aH (i:Nat):cI:=λd ρ=>some (ρ.set i (some d))
theorem P6 {i:Nat}{x:Str}(hN:X.N.Nodup) (hi:X.N[i]?=some x) (hx:kU X.env.scope x) (hf:X.fn x=true∨X.env.scope.names.lookup x=some .local:=by first|exact .inl rfl|exact .inr rfl|assumption):kY X G (.Name x pos) (aH i):=λ_=>PG.imp (LQ hN hi hx hf) λv σ H Q ⟨μ,ρ,h,d,ρ',rs,r,e,k⟩=>by cases e;exact k _ (rs.set i r)
abbrev jL:=yb->Ev->Option Ev
def P7 (G:Cfg) (st:jL):iM:=λvs σ H Q=>∃μ ρ h ds ρ',yk G μ h H ρ σ/\RelDL G μ h H ds vs/\st ds ρ=some ρ'/\∀σ',yk G μ h H ρ' σ'->Q σ' H
def pW (X:Cx) (G:Cfg) (tg:List bj) (st:jL):Prop:=X.K=G.K->PGs X tg (P7 G st)
def eK:jL:=λds ρ=>match ds with
 | []=>some ρ
 |_=>none
def bP (s:cI) (t:jL):jL:=λds ρ=>match ds with
 |d::r=>match s d ρ with
  |some ρ1=>t r ρ1
  |none=>none
 | []=>none
theorem lW:pW X G [] eK:=λ_=>PGs.imp LV λvs σ H Q ⟨μ,ρ,h,ds,ρ',rs,r,e,k⟩=>by
 cases ds with
 |nil=>cases e;rw[RelDL]at r;subst r;exact⟨rfl,k _ rs⟩
 |cons d r=>cases e
theorem gF {tg:bj}{tgs:List bj}{s:cI}{t:jL}(h1:kY X G tg s) (h2:pW X G tgs t)
  (hs:(assignEach (tg::tgs) X.env).map (·.2)=assign tg X.env::(assignEach tgs X.env).map (·.2):=by rfl):pW X G (tg::tgs) (bP s t):=λhK=>PGs.imp (LW (h1 hK) (h2 hK) hs) λvs σ H Q ⟨μ,ρ,h,ds,ρ',rs,r,e,k⟩=>by
 cases ds with
 |nil=>cases e
 |cons d ds=>
  rw[RelDL]at r;obtain⟨v,rr,rfl,r1,r2⟩:=r;unfold bP at e;dsimp only at e
  cases q:s d ρ with
  |none=>rw[q]at e;cases e
  |some ρ1=>rw[q]at e;exact⟨v,rr,rfl,μ,ρ,h,d,ρ1,rs,r1,q,λσ1 yr=>⟨μ,ρ1,h,ds,ρ',yr,r2,e,k⟩⟩
def eY (n:Nat) (t:jL):cI:=λd ρ=>match d with
 | .tup ds=>if ds.length=n then t ds ρ else none
 |_=>none
theorem nM {tgs:List bj}{k:Nat}{t:jL}{n:Nat}(hc:X.calm=true) (h:pW X G tgs t)
  (hn:(assignEach tgs X.env).length=n:=by rfl) (Am:(assignEach tgs X.env).findIdx? (·.1)=none:=by rfl):kY X G (.Tuple tgs k pos) (eY n t):=λhK=>
 PG.imp (LY hc (h hK) hn Am) λv σ H Q ⟨μ,ρ,hh,d,ρ',rs,r,e,kk⟩=>by
  cases d with
  |tup ds=>
   dsimp only[eY]at e
   split at e
   ·rename_i hl;obtain⟨a,vs,rfl,e1,r1⟩:=r;exact⟨a,vs,rfl,yt.of e1,by rw[r1.length];exact hl,μ,ρ,hh,ds,ρ',rs,r1,e,kk⟩
   ·cases e
  |_=>cases e
def aN (me:M Dv) (st:cI):MS:=λρ h=>(me ρ h).thenS λd h1=>match st d ρ with
 |some ρ1=>.nx ρ1 h1
 |none=>.bad
theorem P8 {st:cI}{σ:St}{H:Hp}{D:Ends}(t:sS G E (aN me st) D σ H):vZ (fH G E me) (pV G st) D σ H:=by
 obtain⟨μ,ρ,h,rs,s,o⟩:=t;refine iQ rs s o λμ1 d h1 v H1 x1 yr s1 r1 o1=>?_
 cases q:st d ρ with
 |none=>rw[q]at o1;exact o1.elim
 |some ρ1=>rw[q]at o1;exact⟨μ1,ρ,h1.length,d,ρ1,yr,r1,q,λσ' rs'=>o1 μ1 H1 σ' Ext.refl s1 rs'⟩
theorem P9 {tg:bj}{st:cI}(he:aG X G E e me) (hg:kY X G tg st) (hs:swapsWithSole [tg] e pos.line X.env=pure false:=by rfl) (hw:swappedStores [tg] e X.env=pure none:=by rfl)
  (h1:(assignEach [tg] X.env).map (·.2)=[assign tg X.env]:=by rfl):fK X G E (.Assign [tg] e pos) (aN me st):=λhK=>PS.imp (rP (he hK) (hg hK) hs hw h1) λ_ _ _ t=>P8 t
theorem QA {i:Nat}{x:Str}{pos':Pos}(hN:X.N.Nodup) (hi:X.N[i]?=some x) (hx:kU X.env.scope x) (he:aG X G E e me) (hs:swapsWith e (some (.Name x pos')) pos.line X.env=pure false:=by rfl) (hf:X.fn x=true∨X.env.scope.names.lookup x=some .local:=by first|exact .inl rfl|exact .inr rfl|assumption):
  fK X G E (.Assign [.Name x pos'] e pos) (aN me (aH i)):=λhK=>PS.imp (wC hN hi hx (he hK) hs hf) λD σ H t=>by
 obtain⟨μ,ρ,h,rs,s,o⟩:=t;exact iQ rs s o λμ1 d h1 v H1 x1 yr s1 r1 o1=>o1 μ1 H1 _ Ext.refl s1 (yr.set i r1)
end
structure Src where
 n:Nat
 get:Nat->Hs->yc
 fin:Hs->Bool
def zk (G:Cfg) (μ0:Nat->ah) (n0:Nat) (H0:Hp) (src:Src) (J:It):Prop:=
 ∀(k:Nat) (μ:Nat->ah) (h:Hs) (H:Hp),Ext μ0 n0 H0 μ h.length H->yn G μ h H->
  (k<src.n->∀d,src.get k h=some d->J.go k H/\∀x H',J.yld k H x H'->zi H H'/\yf G μ h.length H' d x)/\(k=src.n->src.fin h=true->J.stop k H)
def DX (G:Cfg) (E:XK) (m:M Src):TI:=λσ H R=>∃μ ρ h,yk G μ h.length H ρ σ/\yn G μ h H/\Out G E μ h.length H (m ρ h) (zk G) R
def lX (X:Cx) (G:Cfg) (E:XK) (tg iter:bj) (m:M Src):Prop:=X.K=G.K->PI X tg iter (DX G E m)
theorem PI.imp {X:Cx}{tg iter:bj}{t t':TI}(h:PI X tg iter t) (i:∀σ H R,t' σ H R->t σ H R):PI X tg iter t':=λpins s σ H R I q=>h pins s σ H R I (i σ H R q)
def kZ (xs:yb):Src:=⟨xs.length,λk _=>xs[k]?,λ_=>true⟩
def cC (i n:Nat):Src:=⟨n,λk h=>match getL h i with
 |some xs=>if xs.length=n then xs[k]? else none
 |none=>none,λh=>match getL h i with
 |some xs=>xs.length==n
 |none=>false⟩
def dM (lo hi:Int):Src:=⟨(hi - lo).toNat,λk _=>some (.int (lo+k)),λ_=>true⟩
def cO (f:Dv->Hs->Rs Src) (m:M Dv):M Src:=λρ h=>(m ρ h).bind f
section
variable{X:Cx}{G:Cfg}{E:XK}{tg e a b:bj}{me ma mb:M Dv}{pos p:Pos}
def cZ:Dv->Hs->Rs Src
 | .ref i,h=>match getL h i with
  |some xs=>.ok (cC i xs.length) h
  |none=>.bad
 |_,_=>.bad
def xM:Dv->Hs->Rs Src
 | .tup xs,h=>.ok (kZ xs) h
 |_,_=>.bad
theorem nO (he:aG X G E e me):lX X G E tg e (cO cZ me):=λhK=>PI.imp (MD (he hK)) λσ H R ⟨μ,ρ,h,rs,s,o⟩=>cY rs s o λμ1 x h1 vx H1 x1 yr s1 r1 o1=>by
 rw[hK]
 cases x with
 |ref i=>
  obtain⟨hi,rfl⟩:=r1;dsimp only[cZ]at o1
  cases g:getL h1 i with
  |none=>rw[g]at o1;exact o1.elim
  |some xs=>
   rw[g]at o1;obtain⟨vs,e1,r2⟩:=s1.ob i _ (cE g);refine⟨_,rfl,⟨vs,y9.of e1⟩,o1.val s1 λk μ2 h2 H2 x2 s2=>?_⟩;have emu:=x2.mu i hi;constructor
   ·intro hk d hd;dsimp only[cC]at hd
    cases g2:getL h2 i with
    |none=>rw[g2]at hd;cases hd
    |some ys=>
     rw[g2]at hd;dsimp only at hd
     split at hd
     ·obtain⟨ws,e2,r3⟩:=s2.ob i _ (cE g2);rw[emu]at e2;obtain⟨v,ev,rv⟩:=r3.get hd;refine⟨⟨ws,v,y9.of e2,ev⟩,λx H' hy=>?_⟩;obtain⟨rfl,hy⟩:=hy;have:=hy ws (y9.of e2);rw[ev]at this;cases this;exact⟨zi.refl _,rv⟩
     ·cases hd
   ·intro hk hf;dsimp only[cC]at hf
    cases g2:getL h2 i with
    |none=>rw[g2]at hf;cases hf
    |some ys=>
     rw[g2]at hf;obtain⟨ws,e2,r3⟩:=s2.ob i _ (cE g2);rw[emu]at e2;refine⟨ws,y9.of e2, ?_⟩;have h3:ys.length=xs.length:=by simpa using hf
     rw[r3.length,h3,hk];exact ak _
 |_=>exact o1.elim
theorem zk.tup {μ:Nat->ah}{n:Nat}{H:Hp}{a:ah}{vs:List V}{xs:yb}{K:ar}(e:H a=some (.tup vs)) (r:RelDL G μ n H xs vs) (hi:∀(X:Cx),True):zk G μ n H (kZ xs) (wF K a):=by
 intro k μ2 h2 H2 x2 s2;have e2:=x2.im a (.tup vs) trivial e;have r2:=RelDL.mono x2 _ _ r;have inj:∀ws,yt K H2 a ws->ws=vs->True:=λ_ _ _=>trivial;constructor
 ·intro hk d hd;obtain⟨v,ev,rv⟩:=r2.get hd;refine⟨⟨vs,v,yt.of e2,ev⟩,λx H' hy=>?_⟩;obtain⟨rfl,hy⟩:=hy;have:=hy vs (yt.of e2);rw[ev]at this;cases this;exact⟨zi.refl _,rv⟩
 ·intro hk _;exact⟨vs,yt.of e2,by rw[r2.length,hk];exact ak _⟩
theorem QB (he:aG X G E e me):lX X G E tg e (cO xM me):=λhK=>PI.imp (ME (he hK)) λσ H R ⟨μ,ρ,h,rs,s,o⟩=>cY rs s o λμ1 x h1 vx H1 x1 yr s1 r1 o1=>by
 cases x with
 |tup xs=>obtain⟨a,vs,rfl,e1,r2⟩:=r1;exact⟨a,rfl,⟨vs,yt.of e1⟩,o1.val s1 (zk.tup e1 r2 λ_=>trivial)⟩
 |_=>exact o1.elim
def nQ (i:Int):Bool:=decide (-4611686018427387904<=i)&&decide (i<4611686018427387904)
def dN:yb->Hs->Rs Src
 | [.int j],h=>if nQ j=true then .ok (dM 0 j) h else .bad
 |_,_=>.bad
def aQ (f:yb->Hs->Rs Src) (ms:M yb ):M Src:=λρ h=>(ms ρ h).bind f
theorem zk.rng {μ:Nat->ah}{n:Nat}{H:Hp}(lo hi:Int):zk G μ n H (dM lo hi) (rQ lo (hi - lo).toNat):=by
 intro k μ2 h2 H2 x2 s2;constructor
 ·intro hk d hd;cases hd;exact⟨hk,λx H' hy=>by obtain⟨rfl,rfl⟩:=hy;exact⟨zi.refl _,rfl⟩⟩
 ·intro hk _;exact oq hk.symm
variable{ms:M yb }
theorem nS (hg:Gl X "range") (hm:X.mg "range" = none) (ha:cX X G E [a] ms) (hs:ax [a] X.env=[(false,eval a X.env)]:=by rfl):lX X G E tg (.Call (.Name "range" p) [a] [] pos) (aQ dN ms):=λhK=>
 PI.imp (MH hg hm (ha hK) hs) λσ H R ⟨μ,ρ,h,rs,s,o⟩=>kD rs s o λμ1 ds h1 vs H1 x1 yr s1 r1 o1=>by
  unfold dN at o1
  split at o1
  ·rename_i j
   split at o1
   ·rename_i hj;obtain⟨v,rfl,rv⟩:=pS r1;rw[yf]at rv;subst rv;simp only[nQ,dh,decide_eq_true_eq]at hj;refine⟨j,rfl,by omega,by omega, ?_⟩;have:=o1.val s1 (zk.rng (G:=G) (μ:=μ1) (n:=h1.length) (H:=H1) 0 j);rw[Int.sub_zero]at this;exact this
   ·exact o1.elim
  ·exact o1.elim
end
def eM (src:Src) (st:cI) (body:MS):Nat->Nat->MS
 |0,_=>λρ h=>if src.fin h=true then .nx ρ h else .bad
 |f+1,k=>λρ h=>match src.get k h with
  |none=>.bad
  |some d=>match st d ρ with
   |none=>.bad
   |some ρ1=>match body ρ1 h with
    | .nx ρ2 h2=>eM src st body f (k+1) ρ2 h2
    | .ct ρ2 h2=>eM src st body f (k+1) ρ2 h2
    | .bk ρ2 h2=>.nx ρ2 h2
    |r=>r
def eZ (mi:M Src) (st:cI) (body:MS):MS:=λρ h=>(mi ρ h).thenS λsrc h1=>eM src st body src.n 0 ρ h1
section
variable{X:Cx}{G:Cfg}{E:XK}{tg iter:bj}{body:List ja}{mi:M Src}{st:cI}{mb:MS}{pos:Pos}
theorem nU (hp:uy (model X.prog X.w) X.A X.env X.xe) (hc:X.calm=true) (hi:lX X G E tg iter mi) (hg:kY X G tg st) (hb:iD X G E body mb)
  (hs:∀x,foldedSetIterable iter X.env x=pure x:=by intro _;rfl):fK X G E (.For tg iter body [] pos) (eZ mi st mb):=λhK=>PS.imp (MJ hp hc (hi hK) (hg hK) (hb hK) hs) λD σ H ⟨μ,ρ,h,rs,s,o⟩=>by
 refine⟨μ,ρ,h,rs,s,(o.thenS (R:=zk G)).mono λJ H1 ⟨μ1,src,h1,x1,s1,ok,o1⟩=>?_⟩;refine⟨λi m σ H=>∃μ2 ρ2 h2,Ext μ1 h1.length H1 μ2 h2.length H/\yk G μ2 h2.length H ρ2 σ/\yn G μ2 h2 H/\i+m=src.n/\yz G E μ2 h2.length H (eM src st mb m i ρ2 h2) D,⟨src.n,μ1,ρ,h1,Ext.refl,rs.mono x1,s1,qg _,o1⟩, ?_⟩
 rintro i m σ2 H2 ⟨μ2,ρ2,h2,x2,zq,s2,him,o2⟩
 cases m with
 |zero=>
  unfold eM at o2
  split at o2
  ·rename_i hf;exact .inl ⟨(ok i μ2 h2 H2 x2 s2).2 (by omega) hf,o2 μ2 H2 σ2 Ext.refl s2 zq⟩
  ·exact o2.elim
 |succ m=>
  unfold eM at o2
  cases q:src.get i h2 with
  |none=>rw[q]at o2;exact o2.elim
  |some d=>
   rw[q]at o2;dsimp only at o2
   cases q2:st d ρ2 with
   |none=>rw[q2]at o2;exact o2.elim
   |some ρ3=>
    rw[q2]at o2;dsimp only at o2;obtain⟨go,yl⟩:=(ok i μ2 h2 H2 x2 s2).1 (by omega) d q;refine .inr ⟨go,λσ' H'=>∃μ3 ρ4 h4,Ext μ1 h1.length H1 μ3 h4.length H'/\yk G μ3 h4.length H' ρ4 σ'/\yn G μ3 h4 H'/\(i+1)+m=src.n/\yz G E μ3 h4.length H' (eM src st mb m (i+1) ρ4 h4) D,λσ' H' z=>⟨m,jh m,z⟩,λx H' hy=>?_⟩;obtain⟨sm,rx⟩:=yl x H' hy;have xs:Ext μ2 h2.length H2 μ2 h2.length H':=Ext.same sm;refine⟨μ2,ρ2,h2.length,d,ρ3,zq.mono xs,rx,q2,λσ3 Az=>⟨μ2,ρ3,h2,Az,s2.same sm, ?_⟩⟩;have step:∀ρ5 h5,yz G E μ2 h2.length H2 (eM src st mb m (i+1) ρ5 h5) D->∀μ6 H6 σ6,Ext μ2 h2.length H' μ6 h5.length H6->yn G μ6 h5 H6->yk G μ6 h5.length H6 ρ5 σ6->
      ∃μ3 ρ4 h4,Ext μ1 h1.length H1 μ3 h4.length H6/\yk G μ3 h4.length H6 ρ4 σ6/\yn G μ3 h4 H6/\(i+1)+m=src.n/\yz G E μ3 h4.length H6 (eM src st mb m (i+1) ρ4 h4) D:=
     λρ5 h5 o5 μ6 H6 σ6 x6 s6 rs6=>⟨μ6,ρ5,h5,(x2.trans xs).trans x6,rs6,s6,by omega,o5.ext (xs.trans x6)⟩
    cases q3:mb ρ3 h2 with
    |nx ρ5 h5=>rw[q3]at o2;exact step ρ5 h5 o2
    |ct ρ5 h5=>rw[q3]at o2;exact step ρ5 h5 o2
    |bk ρ5 h5=>rw[q3]at o2;exact λμ6 H6 σ6 x6 s6 rs6=>o2 μ6 H6 σ6 (xs.trans x6) s6 rs6
    |rt d5 h5=>rw[q3]at o2;exact λμ6 H6 σ6 x6 s6 rs6=>o2 μ6 H6 σ6 (xs.trans x6) s6 rs6
    |ex d5 h5=>rw[q3]at o2;exact λμ6 H6 σ6 x6 s6 rs6=>o2 μ6 H6 σ6 (xs.trans x6) s6 rs6
    |bad=>rw[q3]at o2;exact o2.elim
end
abbrev MC:=Ev->Hs->yb->Rs (Ev×yb)
def dO (me:M Dv):MC:=λρ h acc=>match me ρ h with
 | .ok d h1=>if acc.length<1000000 then .ok (ρ,acc++[d]) h1 else .bad
 |_=>.bad
def gW (src:Src) (st:cI) (test:M Bool) (inner:MC):Nat->Nat->MC
 |0,_=>λρ h acc=>if src.fin h=true then .ok (ρ,acc) h else .bad
 |f+1,k=>λρ h acc=>match src.get k h with
  |none=>.bad
  |some d=>match st d ρ with
   |none=>.bad
   |some ρ1=>match test ρ1 h with
    | .ok true h2=>match inner ρ1 h2 acc with
     | .ok r h3=>gW src st test inner f (k+1) r.1 h3 r.2
     |_=>.bad
    | .ok false h2=>gW src st test inner f (k+1) ρ1 h2 acc
    |_=>.bad
def kF:M Bool:=λ_ h=>.ok true h
def iR (cap:List (Option Nat)) (ρ:Ev):Ev:=cap.map λo=>match o with
 |some j=>(ρ[j]?).getD none
 |none=>none
def dY (mi:M Src) (cap:List (Option Nat)) (st:cI) (test:M Bool) (inner:MC):M yb :=λρ h=>(mi ρ h).bind λsrc h1=>match gW src st test inner src.n 0 (iR cap ρ) h1 []with
 | .ok r h2=>.ok r.2 h2
 |_=>.bad
def xN (G:Cfg) (m:MC):TC:=λσ H vs K=>∃μ ρ h xs ρ' xs' h',yk G μ h.length H ρ σ/\yn G μ h H/\RelDL G μ h.length H xs vs/\m ρ h xs=.ok (ρ',xs') h' /\
 ∀μ' H' σ' yw,Ext μ h.length H μ' h'.length H'->yn G μ' h' H'->yk G μ' h'.length H' ρ' σ'->RelDL G μ' h'.length H' xs' yw->K σ' H' yw
section
variable{G:Cfg}
theorem DY {μ:Nat->ah}{n:Nat}{H:Hp}{ρ:Ev}{σ:St}(rs:yk G μ n H ρ σ) (cap:List (Option Nat)):yk G μ n H (iR cap ρ) (lS cap σ):=⟨by simp[iR,lS],λi d e=>by
 unfold iR at e;rw[dz]at e
 cases q:cap[i]? with
 |none=>rw[q]at e;cases e
 |some o=>
  rw[q]at e
  cases o with
  |none=>cases e
  |some j=>
   have e':(ρ[j]?).getD none=some d:=by simpa using e
   have e2:ρ[j]?=some (some d):=by
    cases z:ρ[j]? with
    |none=>rw[z]at e';cases e'
    |some y=>rw[z]at e';simp at e';rw[e']
   obtain⟨v,e3,r⟩:=rs.at_ j d e2;refine⟨v, ?_,r⟩;unfold lS;rw[dz,q];simp[e3]⟩
theorem QC {E:XK}{me:M Dv}{σ:St}{H:Hp}{vs:List V}{K:St->Hp->List V->Prop}(t:xN G (dO me) σ H vs K):DC (fH G E me) σ H vs K:=by
 obtain⟨μ,ρ,h,xs,ρ',xs',h',rs,s,r,e,k⟩:=t;refine⟨μ,ρ,h,rs,s, ?_⟩;unfold dO at e
 cases q:me ρ h with
 |bad=>rw[q]at e;cases e
 |ex c h1=>rw[q]at e;cases e
 |ok d h1=>
  rw[q]at e;dsimp only at e
  split at e
  ·rename_i hl;cases e;intro μ1 H1 v x1 s1 r1;refine⟨?_,k μ1 H1 σ _ x1 s1 (rs.mono x1) ((RelDL.mono x1 _ _ r).append (RelDL.cons r1 RelDL.nil))⟩;rw[r.length];exact aq hl (by decide)
  ·cases e
theorem QD {E:XK}{src:Src}{st:cI}{test:M Bool}{inner:MC}{J:It}{μ1:Nat->ah}{h1:Hs}{H1:Hp}{ρ ρ':Ev}{σ:St}{xs xs':yb}{vs:List V}{h':Hs}{K:St->Hp->List V->Prop}
  (ok:zk G μ1 h1.length H1 src J) (rs:yk G μ1 h1.length H1 ρ σ) (s1:yn G μ1 h1 H1) (r:RelDL G μ1 h1.length H1 xs vs) (e:gW src st test inner src.n 0 ρ h1 xs=.ok (ρ',xs') h')
  (k:∀μ' H' σ' yw,Ext μ1 h1.length H1 μ' h'.length H'->yn G μ' h' H'->yk G μ' h'.length H' ρ' σ'->RelDL G μ' h'.length H' xs' yw->K σ' H' yw):
  sE J (pV G st) (fZ G E test) (xN G inner) K σ H1 vs:=by
 refine⟨λi m σ H vs=>∃μ2 ρ2 h2 xs2,Ext μ1 h1.length H1 μ2 h2.length H/\yk G μ2 h2.length H ρ2 σ/\yn G μ2 h2 H/\RelDL G μ2 h2.length H xs2 vs/\i+m=src.n/\gW src st test inner m i ρ2 h2 xs2=.ok (ρ',xs') h',⟨src.n,μ1,ρ,h1,xs,Ext.refl,rs,s1,r,qg _,e⟩, ?_⟩
 rintro i m σ2 H2 vs2 ⟨μ2,ρ2,h2,xs2,x2,zq,s2,r2,him,e2⟩
 cases m with
 |zero=>
  unfold gW at e2
  split at e2
  ·rename_i hf;cases e2;exact .inl ⟨(ok i μ2 _ H2 x2 s2).2 (by omega) hf,k μ2 H2 σ2 vs2 x2 s2 zq r2⟩
  ·cases e2
 |succ m=>
  unfold gW at e2
  cases q:src.get i h2 with
  |none=>rw[q]at e2;cases e2
  |some d=>
   rw[q]at e2;dsimp only at e2
   cases q2:st d ρ2 with
   |none=>rw[q2]at e2;cases e2
   |some ρ3=>
    rw[q2]at e2;dsimp only at e2;obtain⟨go,yl⟩:=(ok i μ2 h2 H2 x2 s2).1 (by omega) d q;refine .inr ⟨go,λσ' H' yw=>∃μ3 ρ4 h4 xs4,Ext μ1 h1.length H1 μ3 h4.length H'/\yk G μ3 h4.length H' ρ4 σ'/\yn G μ3 h4 H'/\RelDL G μ3 h4.length H' xs4 yw/\(i+1)+m=src.n/\gW src st test inner m (i+1) ρ4 h4 xs4=.ok (ρ',xs') h',
     λσ' H' yw z=>⟨m,jh m,z⟩,λx H' hy=>?_⟩
    obtain⟨sm,rx⟩:=yl x H' hy;have xsm:Ext μ2 h2.length H2 μ2 h2.length H':=Ext.same sm;refine⟨μ2,ρ2,h2.length,d,ρ3,zq.mono xsm,rx,q2,λσ3 Az=>⟨μ2,ρ3,h2,Az,s2.same sm, ?_⟩⟩
    cases q3:test ρ3 h2 with
    |bad=>rw[q3]at e2;cases e2
    |ex c h3=>rw[q3]at e2;cases e2
    |ok b h3=>
     rw[q3]at e2;intro μ4 H4 b' x4 s4 rb;have eb:b'=b:=rb;subst eb
     cases b' with
     |false=>rw[if_neg (by decide)];exact⟨μ4,ρ3,h3,xs2,(x2.trans xsm).trans x4,Az.mono x4,s4,RelDL.mono (xsm.trans x4) _ _ r2,by omega,e2⟩
     |true=>
      rw[if_pos rfl];dsimp only at e2
      cases q4:inner ρ3 h3 xs2 with
      |bad=>rw[q4]at e2;cases e2
      |ex c h5=>rw[q4]at e2;cases e2
      |ok rr h5=>rw[q4]at e2;obtain⟨ρ5,xs5⟩:=rr;exact⟨μ4,ρ3,h3,xs2,ρ5,xs5,h5,Az.mono x4,s4,RelDL.mono (xsm.trans x4) _ _ r2,q4,λμ6 H6 σ6 vs6 x6 s6 rs6 r6=>⟨μ6,ρ5,h5,xs5,((x2.trans xsm).trans x4).trans x6,rs6,s6,r6,by omega,e2⟩⟩
def RL (G:Cfg):(Nat->ah)->Nat->Hp->yb->V->Prop:=λμ n H xs v=>∃p vs,v=.ref p/\H p=some (.lst vs)/\(∀i,i<n->μ i≠p)/\RelDL G μ n H xs vs
def sT (G:Cfg) (E:XK) (m:M yb ):TE:=λσ H Q=>∃μ ρ h,yk G μ h.length H ρ σ/\yn G μ h H/\Out G E μ h.length H (m ρ h) (RL G) Q
def nV (X:Cx) (G:Cfg) (E:XK) (pe:bj) (m:M yb ):Prop:=X.K=G.K->PE X pe (sT G E m)
theorem yn.adopt {μ:Nat->ah}{h:Hs}{H:Hp}{p:ah}{ds:yb}{vs:List V}(s:yn G μ h H) (e:H p=some (.lst vs)) (hq:∀i,i<h.length->μ i≠p) (r:RelDL G μ h.length H ds vs):
  Ext μ h.length H (λi=>if i=h.length then p else μ i) (h++[Ob.lst ds]).length H/\yn G (λi=>if i=h.length then p else μ i) (h++[.lst ds]) H:=by
 have hl:(h++[Ob.lst ds]).length=h.length+1:=by simp
 have x:Ext μ h.length H (λi=>if i=h.length then p else μ i) (h++[Ob.lst ds]).length H:=⟨by omega,λi hi=>if_neg (aw hi),λa o _ e=>e⟩
 refine⟨x,λi j hi hj e=>?_,λi o q=>?_,s.tab⟩
 ·rw[hl]at hi hj
  by_cases h1:i=h.length <;> by_cases h2:j=h.length
  ·omega
  ·rw[if_pos h1,if_neg h2]at e;exact absurd e.symm (hq j (by omega))
  ·rw[if_neg h1,if_pos h2]at e;exact absurd e (hq i (by omega))
  ·rw[if_neg h1,if_neg h2]at e;exact s.inj i j (by omega) (by omega) e
 ·by_cases h1:i<h.length
  ·rw[dk h1]at q;have r1:=s.ob i o q
   cases o with
   |lst xs=>obtain⟨ws,e1,r2⟩:=r1;exact⟨ws,by rw[if_neg (aw h1)];exact e1,RelDL.mono x _ _ r2⟩
   |clo k t=>rw[if_neg (aw h1)];exact r1.clo x
   |dct ks=>rw[if_neg (aw h1)];exact r1
  ·rw[fh (by omega)]at q;have h2:i=h.length:=by have:=(ay.mp q).1;simp at this;omega
   subst h2;simp at q;subst q;exact⟨vs,by rw[if_pos rfl];exact e,RelDL.mono x _ _ r⟩
def iS (m:M yb ):M Dv:=λρ h=>(m ρ h).bind λxs h1=>.ok (.ref h1.length) (h1++[.lst xs])
theorem QE {E:XK}{m:M yb }{σ:St}{H:Hp}{Q:VK}(t:fH G E (iS m) σ H Q):sT G E m σ H Q:=by obtain⟨μ,ρ,h,rs,s,o⟩:=t;refine⟨μ,ρ,h,rs,s,(o.bind (R1:=RL G)).mono λv H1 ⟨μ1,xs,h1,x1,s1,⟨p,vs,ev,e1,hq,r1⟩,o1⟩=>?_⟩;subst ev;obtain⟨x2,s2⟩:=s1.adopt e1 hq r1;exact o1 _ _ _ x2 s2 ⟨by simp,by show V.ref p=V.ref (if h1.length=h1.length then p else μ1 h1.length);rw[if_pos rfl]⟩
theorem DZ {X:Cx}{E:XK}{pe:bj}{m:M yb }(h:nV X G E pe m):aG X G E pe (iS m):=λhK=>PE.imp (h hK) λ_ _ _ t=>QE t
theorem QF {E E':XK}{mi:M Src}{cap:List (Option Nat)}{st:cI}{test:M Bool}{inner:MC}{σ:St}{H:Hp}{Q:VK}(t:sT G E (dY mi cap st test inner) σ H Q):DE (DX G E mi) cap (pV G st) (fZ G E' test) (xN G inner) σ H Q:=by
 obtain⟨μ,ρ,h,rs,s,o⟩:=t;refine⟨μ,ρ,h,rs,s,(o.bind (R1:=zk G)).mono λJ H1 ⟨μ1,src,h1,x1,s1,ok,o1⟩=>?_⟩
 cases q:gW src st test inner src.n 0 (iR cap ρ) h1 []with
 |bad=>rw[q]at o1;exact o1.elim
 |ex c h2=>rw[q]at o1;exact o1.elim
 |ok r h2=>rw[q]at o1;obtain⟨ρ',xs'⟩:=r;refine QD ok (DY (rs.mono x1) cap) s1 RelDL.nil q λμ2 H2 σ2 vs2 x2 s2 zq r2 p hp=>?_;exact o1 μ2 _ _ (x2.trans (Ext.same (bM hp))) (s2.same (bM hp)) ⟨p,vs2,rfl,bO,s2.not hp,RelDL.mono (Ext.same (bM hp)) _ _ r2⟩
end
section
variable{X:Cx}{G:Cfg}{E:XK}{elt tg iter tg' iter':bj}{ifs ifs':List bj}{sc:gn}{ps pos:Pos}{mi mi':M Src}{st Ay:cI}{test test':M Bool}{me:M Dv}{N:xw}{cap:List (Option Nat)}
def xO (X:Cx) (G:Cfg) (ifs:List bj) (m:M Bool):Prop:=X.K=G.K->PTs X ifs (fZ G E0 m)
theorem PTs.imp {Y:Cx}{ifs:List bj}{t t':TT}(h:PTs Y ifs t) (i:∀σ H Q,t' σ H Q->t σ H Q):PTs Y ifs t':=λpins s σ H Q I q=>h pins s σ H Q I (i σ H Q q)
theorem sU {Y:Cx}:xO Y G [] kF:=λ_=>PTs.imp OQ λσ H Q ⟨μ,ρ,h,rs,s,o⟩=>o.val s rfl
theorem xP {Y:Cx}{c:bj}{m:M Bool}(h:eW Y G E0 c m):xO Y G [c] m:=λhK=>OR (h hK)
theorem PCl.imp {Y:Cx}{D:ah}{m:Sem Unit}{t t':TC}(h:PCl Y D m t) (i:∀σ H xs K,t' σ H xs K->t σ H xs K):PCl Y D m t':=λpins s σ H xs K I a f q=>h pins s σ H xs K I a f (i σ H xs K q)
theorem lY (hc:X.calm=true) (C:ze X sc N cap) (hi:lX X G E tg iter mi) (hg:∀s H ex,kY (cN X sc N s H ex) G tg st) (htt:∀s H ex,xO (cN X sc N s H ex) G ifs test) (hel:∀s H ex,aG (cN X sc N s H ex) G E0 elt me)
  (hs:∀x,foldedSetIterable iter X.env x=pure x:=by intro _;rfl):nV X G E (.ListComp elt [⟨tg,iter,ifs,0⟩] sc ps) (dY mi cap st test (dO me)):=λhK=>
 PE.imp (OW hc C rfl (λit D env=>OT elt tg iter ifs sc ps (.ref it) D env) (hi hK) (λs H ex=>hg s H ex hK) (λs H ex=>htt s H ex hK) (λs H ex D=>PCl.imp (OO (hel s H ex hK)) λ_ _ _ _ t=>QC t) hs) λ_ _ _ t=>QF t
end
def cP (T:ah) (h:ck):Prop:=∃oT ts,h.get? T=some oT/\oT.data=.fields ts/\ts[3]?=some .none
structure Chg (fs:List ah) (e T:ah) (h h':ck):Prop where
 new:h.objs.size<=T
 keep:∀b o,b≠e->b∉fs->h.get? b=some o->h'.get? b=some o
 slot:∀b o,b≠e->h.get? b=some o->∃sl,h'.get? b=some { o with slots:=sl }
 tb:cP T h'
theorem QG (f:Array ae->Array ae) (o:Obj):(Obj.mapFields f o).dict=o.dict:=by
 unfold Obj.mapFields
 split <;> rfl
section
variable{M:vb}{A:bp}{E:ae->af->Prop}{s:af}
theorem xQ {a:ah}{o:Obj}{vs:Array ae}{i:Nat}{v:ae}{Q:Unit->af->Prop}(e:s.heap.get? a=some o) (hd:o.data=.fields vs) (hi:i<vs.size)
  (k:∀h' o',gg a s.heap h'->h'.get? a=some o'->o'.cls=o.cls->o'.dict=o.dict->o'.data=.fields (vs.setIfInBounds i v)->Q () { s with heap:=h' }):wpAny M A (setField (.ref a) i v) Q E s:=
 have d':=rz hd (·.setIfInBounds i v)
 wm e hd hi (k _ _ (mq ..) (my _ e (x9 d')) (Obj.cls_mapFields ..) (QG ..) d')
theorem QH {head v:ae}{L:Int}{pl:List ae}{Q:ae->af->Prop}(zh:IsPlace pl) (k:∀ob ts,ob.data=.fields ts->3<ts.size->ob.isFreed=false->Q (.ref s.heap.objs.size) { s with heap:=s.heap.push ob }):
  wpAny M A (v7 head v .none (rawInt L) .none pl) Q E s:=
 du (k _ _ rfl (by simp only[au,de,cn,o7];omega) rfl) (zh.sizeOk5 ..)
theorem EA {e T:ah}{oe oT:Obj}{vs ts:Array ae}{Q:Unit->af->Prop}(he:s.heap.get? e=some oe) (hd:oe.data=.fields vs) (h1:vs[1]?=some (.ref T)) (hT:s.heap.get? T=some oT) (hdT:oT.data=.fields ts) (hs:3<ts.size)
  (k:∀h',gg T s.heap h'->cP T h'->Q () { s with heap:=h' }):wpAny M A (setFlight (.ref e) none) Q E s:=by
 refine aa (fw he hd h1 ?_);show wpAny M A (if(gm T != ib)=true then _ else _) Q E s;rw[if_pos (by simp)];exact xQ hT hdT hs λh' o' sb g _ _ d=>k h' sb ⟨o',_,g,d,by rw[ie hs];rfl⟩
theorem EC {base:ck}{l:List Env}{a:ah}{o:Obj}{vs:Array ae}(hl:s.heap.FunFrames base l) (e:s.heap.get? a=some o) (hd:o.data=.fields vs):a∉cG l:=λhm=>by obtain⟨_,o',e',nf⟩:=hl.mem hm;rw[e]at e';cases e';exact nf vs hd
theorem ED {base:ck}{env:Env}{outer:List Env}{L e:ah}{oe:Obj}{vs:Array ae}{head a0:ae}{nx:Bool}{Q:Unit->af->Prop}(hfr:A.frames=some (env::outer)) (hl:s.heap.FunFrames base (env::outer)) (hf:env.frame=some L)
  (he:s.heap.get? e=some oe) (hd:oe.data=.fields vs) (hdn:oe.dict=none) (hsz:1<vs.size) (h0:vs[0]?=some a0)
  (k:∀h' T,Chg (cG (env::outer)) e T s.heap h'->cJ oe.cls e T a0 h'->Q () { s with heap:=h' }):
  wpAny M A (do let a <-frameOf env;let pl <-entryPlaceOf L nx;let b <-v7 head a .none (rawInt L) .none pl;setField (.ref e) 1 b)
   (λ_ s'=>wpAny M A (setFlight (.ref e) none) Q E s') E s:=by
 have ne:=EC hl he hd;refine aa (wpAny_frameOf_fun hfr hl hf λg1 so=>aa (wpAny_entryPlaceOf λpl zh=>aa (QH zh λob ts dt hts nf=>?_)));have e1:g1.get? e=some oe:=(so.2.1 e ne).trans he;have lt:e<g1.objs.size:=ao e1;refine xQ (s:={ s with heap:=g1.push ob }) (aj _ e1) hd hsz λg2 oe2 sb2 ge c2 dn2 d2=>?_;have gT:g2.get? g1.objs.size=some ob:=sb2.extBut _ _ (ig lt) (av _ nf);refine EA (s:={ s with heap:=g2 }) ge d2 (T:=g1.objs.size) (by rw[ie hsz]) gT dt hts λg3 sb3 tb=>?_;have kp:∀b o,b≠e->g1.get? b=some o->g3.get? b=some o:=λb o hb q=>sb3.extBut _ _ (aw (ao q)) (sb2.extBut _ _ hb (aj _ q));refine k g3 g1.objs.size ⟨oq so.1.symm,λb o hb hn q=>kp b o hb ((so.2.1 b hn).trans q),λb o hb q=>?_,tb⟩ ⟨oe2,_,sb3.extBut _ _ (aw lt) ge,c2,d2, ?_, ?_,dn2.trans hdn⟩
 ·obtain⟨sl,q'⟩:=so.2.2 b o q;exact⟨sl,kp b _ hb q'⟩
 ·rw[Array.getElem?_setIfInBounds_ne (by decide)];exact h0
 ·rw[ie hsz]
theorem QI {base:ck}{env:Env}{outer:List Env}{L e:ah}{oe:Obj}{vs:Array ae}{a0:ae}{Q:Unit->af->Prop}(hfr:A.frames=some (env::outer)) (hl:s.heap.FunFrames base (env::outer)) (hf:env.frame=some L)
  (he:s.heap.get? e=some oe) (hd:oe.data=.fields vs) (hdn:oe.dict=none) (h0:vs[0]?=some a0) (h1:vs[1]?=some .none)
  (k:∀h' T,Chg (cG (env::outer)) e T s.heap h'->cJ oe.cls e T a0 h'->Q () { s with heap:=h' }):
  wpAny M A (noteFrame (.ref e) env) (λ_ s'=>wpAny M A (setFlight (.ref e) none) Q E s') E s:=by
 unfold noteFrame;rw[hf];refine aa (fw he hd h1 ?_);exact ED hfr hl hf he hd hdn (df.mp h1).1 h0 k
theorem QJ {base:ck}{env:Env}{outer:List Env}{L e T:ah}{C a0:ae}{Q:Unit->af->Prop}(hfr:A.frames=some (env::outer)) (hl:s.heap.FunFrames base (env::outer)) (hf:env.frame=some L)
  (hx:cJ C e T a0 s.heap) (ht:cP T s.heap) (hne:T≠e)
  (k:∀h' T',s.heap.objs.size<=T'->(∀b o,b≠e->b≠T->b∉cG (env::outer)->s.heap.get? b=some o->h'.get? b=some o)->(∀b o,b≠e->b≠T->s.heap.get? b=some o->∃sl,h'.get? b=some { o with slots:=sl })->
   cJ C e T' a0 h'->cP T h'->cP T' h'->Q () { s with heap:=h' }):
  wpAny M A (noteFrame (.ref e) env) (λ_ s'=>wpAny M A (setFlight (.ref e) none) Q E s') E s:=by
 obtain⟨oe,vs,he,rfl,hd,h0,h1,hdn⟩:=hx;obtain⟨oT,ts,hT,hdT,h3⟩:=ht;have l3:3<ts.size:=(df.mp h3).1;have nT:=EC hl hT hdT;unfold noteFrame;rw[hf];refine aa (fw he hd h1 ?_);rw[if_pos (by simp)];refine aa (fw hT hdT h3 ?_);rw[if_neg (by simp[rawInt])];refine aa (xQ hT hdT l3 λg o' sb gT _ _ dT=>?_);have hl':g.FunFrames base (env::outer):=hl.of_keeps λb o q nf=>⟨o,sb.extBut _ _ (λz=>by subst z;rw[hT]at q;cases q;exact nf ts hdT) q,rfl⟩
 refine ED (s:={ s with heap:=g }) hfr hl' hf (sb.extBut _ _ (cu hne) he) hd hdn (df.mp h1).1 h0 λh' T' c x=>?_;refine k h' T' (by rw[<-sb.1];exact c.new) (λb o n1 n2 n3 q=>c.keep b o n1 n3 (sb.extBut _ _ n2 q)) (λb o n1 n2 q=>c.slot b o n1 (sb.extBut _ _ n2 q)) x ⟨_,_,c.keep T _ hne nT gT,dT, ?_⟩ c.tb;rw[ie l3]
end
theorem xR {P:bg}{w:cf}{H:Hp}{h:ck}{a:ah}{o:HO}(x:yi P w H h a o):∃ob,h.get? a=some ob:=by
 cases o with
 |lst xs=>obtain⟨_,_,_,_,e⟩:=x;exact⟨_,e⟩
 |tup xs=>obtain⟨_,_,_,ob,e,_⟩:=x;exact⟨_,e⟩
 |dK kvs=>obtain⟨_,_,_,_,o,_,_,e,_⟩:=x;exact⟨_,e⟩
 |dT kvs=>obtain⟨_,_,_,_,o,_,_,e,_⟩:=x;exact⟨_,e⟩
 |set S n=>obtain⟨o,_,_,_,e,_⟩:=x;exact⟨_,e⟩
 |ins C dx fs=>obtain⟨_,_,_,e,_⟩:=x;exact⟨_,e⟩
 |own y=>exact x
 |xd fs=>obtain⟨_,⟨_,_,_,e,_⟩,_⟩:=x;exact⟨_,e⟩
 |rng lo hi=>obtain⟨_,_,_,e⟩:=x;exact⟨_,e⟩
 |frz ob u=>obtain⟨e,_⟩:=x;exact⟨_,e⟩
 |tbl ps=>exact⟨_,(show h.get? a=some _ from x)⟩
 |met f y=>exact⟨_,(show h.get? a=some _ from x)⟩
 |ext φ=>obtain⟨_,e,_⟩:=x;exact e
def sV (base:ck) (H:Hp) (C:ae) (e:ah):Prop:=∃T a0,H e=some (.ext (cJ C e T a0))/\H T=some (.ext (cP T))/\base.get? e=none/\T≠e
def pX (e:ah) (H H':Hp):Prop:=∀b o,b≠e->H b=some o->H' b=some o
theorem QK {C a0:ae}{e T:ah}{h1 h2:ck}(x:cJ C e T a0 h1) (k:∀o,h1.get? e=some o->h2.get? e=some o):cJ C e T a0 h2:=by obtain⟨oe,vs,he,r⟩:=x;exact⟨oe,vs,k oe he,r⟩
theorem QL {T:ah}{h1 h2:ck}(x:cP T h1) (k:∀o,h1.get? T=some o->h2.get? T=some o):cP T h2:=by obtain⟨oe,vs,he,r⟩:=x;exact⟨oe,vs,k oe he,r⟩
theorem EE {P:bg}{w:cf}{H:Hp}{h:ck}{C a0:ae}{e T:ah}(x:cJ C e T a0 h):yi P w H h e (.ext (cJ C e T a0)):=⟨x,(let ⟨oe,_,he,_⟩:=x;⟨oe,he⟩),λ_ _ y k=>QK y k⟩
theorem sW {P:bg}{w:cf}{H:Hp}{h:ck}{T:ah}(x:cP T h):yi P w H h T (.ext (cP T)):=⟨x,(let ⟨oe,_,he,_⟩:=x;⟨oe,he⟩),λ_ _ y k=>QL y k⟩
section
variable{P:bg}{w:cf}{M:vb}{A:bp}{E:ae->af->Prop}{s:af}{H:Hp}{base:ck}{env:Env}{outer:List Env}{L e:ah}{C:ae}
theorem xS {Q:Unit->af->Prop}(hfr:A.frames=some (env::outer)) (hl:s.heap.FunFrames base (env::outer)) (hf:env.frame=some L) (hok:zd P w H s.heap) (hfree:∀b∈cG (env::outer),H b=none) (fl:sV base H C e)
  (k:∀h' H',Un (cG (env::outer)) [] H H' s.heap h'->zd P w H' h'->sV base H' C e->pX e H H'->Q () { s with heap:=h' }):
  wpAny M A (noteFrame (.ref e) env) (λ_ s'=>wpAny M A (setFlight (.ref e) none) Q E s') E s:=by
 obtain⟨T,a0,he,hT,hb,hne⟩:=fl;have xe:cJ C e T a0 s.heap:=(show yi P w H s.heap e _ from hok e _ he).1;have xt:cP T s.heap:=(show yi P w H s.heap T _ from hok T _ hT).1;refine QJ hfr hl hf xe xt hne λh' T' Bf keep slot x' t0 t'=>?_;have nT':H T'=none:=hok.fresh Bf;have eT':T'≠e:=(dJ he nT').symm;have TT':T'≠T:=(dJ hT nT').symm;have sx:pX e H (aJ (aJ H e (.ext (cJ C e T' a0))) T' (.ext (cP T'))):=λb o hbe q=>by rw[aT (dJ q nT'),aT hbe];exact q
 have ee:aJ (aJ H e (.ext (cJ C e T' a0))) T' (.ext (cP T')) e=some (.ext (cJ C e T' a0)):=by rw[aT (cu eT'),bO]
 refine k h' (aJ (aJ H e (.ext (cJ C e T' a0))) T' (.ext (cP T'))) ?_ ?_ ⟨T',a0,ee,bO,hb,eT'⟩ sx
 ·have free:∀b o,s.heap.get? b=some o->H b=none->aJ (aJ H e (.ext (cJ C e T' a0))) T' (.ext (cP T')) b=none:=λb o q n=>by have h1:b≠T':=aw (aq (ao q) Bf);have h2:b≠e:=(dJ he n).symm;rw[aT h1,aT h2];exact n
  refine⟨λb o q n hb _=>keep b o (dJ he n).symm (dJ hT n).symm hb q,λb o q n _ _=>slot b o (dJ he n).symm (dJ hT n).symm q,λb o q n _=>free b o q n,λb o q _=>?_,λb xs q=>?_,λb o u q=>?_,λb ps q=>?_⟩
  ·by_cases h1:b=e
   ·subst h1;obtain⟨oe,_,z,_⟩:=x';exact⟨oe,z⟩
   ·by_cases h2:b=T
    ·subst h2;obtain⟨oe,_,z,_⟩:=t0;exact⟨oe,z⟩
    ·obtain⟨sl,z⟩:=slot b o h1 h2 q;exact⟨_,z⟩
  ·exact sx b _ (jH q he (by intro z;cases z)) q
  ·exact sx b _ (jH q he (by intro z;cases z)) q
  ·exact⟨#[],by rw[sx b _ (jH q he (by intro z;cases z)) q];simp⟩
 ·intro a o q
  by_cases h1:a=T'
  ·subst h1;rw[bO]at q;cases q;exact sW t'
  ·rw[aT h1]at q
   by_cases h2:a=e
   ·subst h2;rw[bO]at q;cases q;exact EE x'
   ·rw[aT h2]at q
    by_cases h3:a=T
    ·subst h3;rw[hT]at q;cases q;exact sW t0
    ·have nf:a∉cG (env::outer):=λz=>by rw[hfree a z]at q;cases q
     refine(hok a o q).stay (λb u hb z=>?_) (λb z=>sx b _ (jH z he (by intro y;cases y)) z) λb xs z=>sx b _ (jH z he (by intro y;cases y)) z
     rcases hb with rfl|hb
     ·exact keep b u h2 h3 nf z
     ·exact keep b u (jH hb he (by intro y;cases y)) (jH hb hT (by intro y;cases y)) (λy=>by rw[hfree b y]at hb;cases hb) z
theorem EF {Q:Unit->af->Prop}{h0:ck}{args:List ae}(hfr:A.frames=some (env::outer)) (hl:h0.FunFrames base (env::outer)) (hf:env.frame=some L) (hok:zd P w H h0) (hfree:∀b∈cG (env::outer),H b=none) (hsb:∀b o,base.get? b=some o->h0.get? b=some o)
  (mx:Heap.MadeExcOf h0 s.heap e C args)
  (k:∀h' H',Un (cG (env::outer)) [] H H' h0 h'->zd P w H' h'->sV base H' C e->zi H H'->Q () { s with heap:=h' }):
  wpAny M A (noteFrame (.ref e) env) (λ_ s'=>wpAny M A (setFlight (.ref e) none) Q E s') E s:=by
 obtain⟨t,he,hnt,ht⟩:=mx.there;have hbn:base.get? e=none:=by
  cases q:base.get? e with
  |none=>rfl
  |some o=>have:=hsb e o q;rw[mx.new]at this;cases this
 have nH:H e=none:=by
  cases q:H e with
  |none=>rfl
  |some o=>
   have z:∀a o,H a=some o->h0.get? a≠none:=λa o q n=>by
    have lt:=hok.lt q;have:=(hok a o q)
    have ex:∃ob,h0.get? a=some ob:=xR this;obtain⟨ob,eo⟩:=ex;rw[n]at eo;cases eo
   exact absurd mx.new (z e o q)
 have hl1:s.heap.FunFrames base (env::outer):=hl.of_keeps λb o hb _=>⟨o,mx.keeps b o hb,rfl⟩
 refine QI hfr hl1 hf he rfl rfl (a0:=.ref t) rfl rfl λh' T c x=>?_;have ne_e:∀b o,h0.get? b=some o->b≠e:=λb o q z=>by subst z;rw[mx.new]at q;cases q
 have lt0:∀b o,h0.get? b=some o->b<T:=λb o q=>aq (ao (mx.keeps b o q)) c.new;have nT:H T=none:=by
  cases q:H T with
  |none=>rfl
  |some o=>obtain⟨ob,eo⟩:=xR (hok T o q);exact absurd (lt0 T ob eo) (fy _)
 have eT:T≠e:=ig (aq (ao he) c.new);have sm:zi H (aJ (aJ H e (.ext (cJ C e T (.ref t)))) T (.ext (cP T))):=λb o q=>by rw[aT (dJ q nT),aT (dJ q nH)];exact q
 refine k h' (aJ (aJ H e (.ext (cJ C e T (.ref t)))) T (.ext (cP T))) ?_ ?_ ⟨T,.ref t,by rw[aT (cu eT),bO],bO,hbn,eT⟩ sm
 ·refine⟨λb o q n hb _=>c.keep b o (ne_e b o q) hb (mx.keeps b o q),λb o q n _ _=>c.slot b o (ne_e b o q) (mx.keeps b o q),λb o q n _=>?_,λb o q _=>?_,λb xs q=>sm b _ q,λb o u q=>sm b _ q,λb ps q=>⟨#[],by rw[sm b _ q];simp⟩⟩
  ·rw[aT (aw (lt0 b o q)),aT (ne_e b o q)];exact n
  ·obtain⟨sl,z⟩:=c.slot b o (ne_e b o q) (mx.keeps b o q);exact⟨_,z⟩
 ·intro a o q
  by_cases h1:a=T
  ·subst h1;rw[bO]at q;cases q;exact sW c.tb
  ·rw[aT h1]at q
   by_cases h2:a=e
   ·subst h2;rw[bO]at q;cases q;exact EE x
   ·rw[aT h2]at q;have nf:a∉cG (env::outer):=λz=>by rw[hfree a z]at q;cases q
    refine(hok a o q).stay (λb u hb z=>?_) (λb z=>sm b _ z) λb xs z=>sm b _ z
    rcases hb with rfl|hb
    ·exact c.keep b u (ne_e b u z) nf (mx.keeps b u z)
    ·exact c.keep b u (ne_e b u z) (λy=>by rw[hfree b y]at hb;cases hb) (mx.keeps b u z)
end
def bE (P:bg) (w:cf) (base:ck):kB:=λouter H s E u s'=>∃e C H',u=.ref e/\s'.os=s.os/\qc s'.gens/\Un (cG outer) [] H H' s.heap s'.heap/\zd P w H' s'.heap/\sV base H' C e/\E u none H'
def QM (X:Cx) (E:XK):Prop:=∀(pins:List (ah×Obj)) (σ:St) (H:Hp) (s:af) (h':ck) (e:ah) (C:ae) (args:List ae),Inv X pins σ H s->Heap.MadeExcOf s.heap h' e C args->
 (∀H',zi H H'->(∃T a0,H' e=some (.ext (cJ C e T a0)))->E (.ref e) none H')->X.xe (.ref e) { s with heap:=h' }
structure Good (X:Cx) (G:Cfg) (E:XK) (k:Nat):Prop where
 calm:X.calm=true
 room:yv k X.A
 K:X.K=G.K
 pas:wK (bE X.prog X.w X.base) X E
 own:uy (model X.prog X.w) X.A X.env X.xe
 rais:QM X E
def xT (E:XK):Prop:=∀e H H',pX e H H'->(∃C T a0 T' a0',H e=some (.ext (cJ C e T a0))/\(∃h,cJ C e T a0 h)/\H' e=some (.ext (cJ C e T' a0')))->E (.ref e) none H->E (.ref e) none H'
section
variable{P:bg}{w:cf}{K:ar}{mg:Str->Option ae}{base:ck}{N:xw}{qual:Str}{scope:gn}{f:ah}{cdv:ae}{A:bp}{outer:List Env}{s0:af}{H0:Hp}{E0:XK}{G:Cfg}{E:XK}{k:Nat}
theorem xU (hr:yv k (A.deeper (envOfC qual scope s0.heap.objs.size f cdv))) (hK:K=G.K) (hE:∀u H',E u none H'->E0 u none H') (hF:xT E):
  Good (eU (bE P w base) P w K mg base N qual scope f cdv A outer s0 H0 E0) G E k where
 calm:=rfl
 room:=hr
 K:=hK
 own:=vz
 pas:=by intro pins σ H s u s' I ⟨e,C,H',eu,os,bare,un,hok,fl,he⟩;subst eu;have I':=I.call' os un hok bare (λb z=>absurd z (by simp));refine aa (xS (P:=P) (w:=w) (H:=H') (base:=base) I'.ok.frames I'.stack rfl hok I'.stkFree fl λh'' H'' un2 z9 Bh sx=>?_);have I2:=I'.call (h':=h'') (g':=s'.gens) (d':=s'.drawn) (t':=s'.toks) un2 z9 I'.bare (λb z=>absurd z (by simp));obtain⟨T,a0,h1,_⟩:=id fl;obtain⟨T2,a2,h3,_⟩:=id Bh;have xe1:cJ C e T a0 s'.heap:=(show yi P w H' s'.heap e _ from hok e _ h1).1;have:E (.ref e) none H'':=hF e H' H'' sx ⟨C,T,a0,T2,a2,h1,⟨_,xe1⟩,h3⟩ he;exact⟨e,C,H'',rfl,I2.os,I2.bare,I2.base,z9,Bh,hE _ _ this⟩
 rais:=by intro pins σ H s h' e C args I mx he;refine aa (EF (P:=P) (w:=w) (H:=H) (base:=base) I.ok.frames I.stack rfl I.hok I.stkFree I.bk mx λh'' H'' un2 z9 Bh sm=>?_);have I2:=I.call (h':=h'') (g':=s.gens) (d':=s.drawn) (t':=s.toks) un2 z9 I.bare (λb z=>absurd z (by simp));obtain⟨T2,a2,h3,_⟩:=id Bh;exact⟨e,C,H'',rfl,I2.os,I2.bare,I2.base,z9,Bh,hE _ _ (he H'' sm ⟨T2,a2,h3⟩)⟩
theorem jM {X:Cx}{sc:gn}{N':xw}{s:af}{H:Hp}{ex:List ah}(g:Good X G E k):Good (cN X sc N' s H ex) G L2.E0 k where
 calm:=g.calm
 room:=g.room
 K:=g.K
 own:=PassesOwn.never
 pas:=λ_ _ _ _ _ _ _ ⟨_,_,_,_,_,_,_,_,_,z⟩=>z
 rais:=λ_ _ H s h' e C args I mx he=>by
  have nH:H e=none:=by
   cases q:H e with
   |none=>rfl
   |some o=>obtain⟨ob,eo⟩:=xR (I.hok e o q);rw[mx.new]at eo;cases eo
  exact he (aJ H e (.ext (cJ C e 0 .none))) (bM nH) ⟨0,.none,bO⟩
def bS (n:Nat) (ds:yb):Ev:=ds.map some++gw (n - ds.length) none
def bW:Sr->Rs Dv
 | .rt d h=>.ok d h
 | .nx _ h=>.ok .non h
 | .ex c h=>.ex c h
 |_=>.bad
def bA (np n:Nat) (mb:MS):ya:=λds h=>if ds.length=np then bW (mb (bS n ds) h)else .bad
def cS (G:Cfg) (F:ya):Sp:=λvs H Q E=>∃μ h ds,RelDL G μ h.length H ds vs/\yn G μ h H/\Out G E μ h.length H (F ds h) (yf G) Q
theorem EG {μ:Nat->ah}{n:Nat}{H:Hp}{ds:yb}{vs:List V}(r:RelDL G μ n H ds vs) (N:xw):yk G μ n H (bS N.length ds) (start N vs):=by
 have hl:=r.length;refine⟨by simp[bS,start,hl],λi d e=>?_⟩;unfold bS at e
 by_cases hi:i<ds.length
 ·rw[dk (by simpa using hi),dz]at e
  cases q:ds[i]? with
  |none=>rw[q]at e;cases e
  |some d'=>rw[q]at e;cases e;obtain⟨v,e1,r1⟩:=r.get q;refine⟨v, ?_,r1⟩;unfold start;rw[dk (by simp;omega),dz,e1];rfl
 ·rw[fh (by simpa using hi),pj]at e
  split at e <;> cases e
def EB (G:Cfg) (μ0:Nat->ah) (n0:Nat) (H0:Hp) (r:Sr):XK:=λu _ H'=>∃c h' μ',r=.ex c h'/\Ext μ0 n0 H0 μ' h'.length H'/\yn G μ' h' H'/\sG G H' c u
theorem yn.sameX {μ:Nat->ah}{h:Hs}{H H':Hp}{e:ah}(s:yn G μ h H) (sx:pX e H H') (hx:∃φ,H e=some (.ext φ)):yn G μ h H'/\∀(n:Nat),Ext μ n H μ n H':=by
 obtain⟨φ,hx⟩:=hx;have x:∀n:Nat,Ext μ n H μ n H':=λn=>⟨ak _,λ_ _=>rfl,λa o i q=>sx a o (by rintro rfl;rw[hx]at q;cases q;exact i) q⟩
 refine⟨⟨s.inj,λi o q=>?_,s.tab.keep λa o _ n2 q=>sx a o (by rintro rfl;rw[hx]at q;cases q;exact n2 _ rfl) q⟩,x⟩;have r:=s.ob i o q
 cases o with
 |lst xs=>obtain⟨vs,e1,r1⟩:=r;exact⟨vs,sx _ _ (jH e1 hx (by intro z;cases z)) e1,RelDL.mono (x _) _ _ r1⟩
 |clo k t=>exact r.clo (x _)
 |dct ks=>exact sx _ _ (jH r hx (by intro z;cases z)) r
theorem xV {μ0:Nat->ah}{n0:Nat}{H0:Hp}{r:Sr}:xT (EB G μ0 n0 H0 r):=by intro e H H' sx ⟨C,T,a0,T',a0',h1,⟨hp,hx⟩,h3⟩ ⟨c,h',μ',er,x,s,e',φ,eu,h4,h5⟩;cases eu;obtain⟨s2,x2⟩:=s.sameX sx ⟨_,h1⟩;refine⟨c,h',μ',er,x.trans (x2 _),s2,e,_,rfl,h3,λhh z=>?_⟩;rw[h1]at h4;cases h4;obtain⟨o,g1,g2⟩:=h5 hp hx;obtain⟨oe,vs,g3,g4,_⟩:=hx;rw[g3]at g1;cases g1;obtain⟨oe',yw,g5,g6,_⟩:=z;exact⟨oe',g5,by rw[g6,<-g4,g2]⟩
theorem fF {x qual:Str}{st:ja}{fd:cg}{ps:xw}{mb:MS}(Fn:zu K x qual st f fd) (S:yh N ps (aU st)) (hK:K=G.K)
  (y8:∀(cdv:ae) (A:bp) (outer:List Env) (s:af) (H:Hp) (E₀ E:XK),Good (eU (bE P w base) P w K mg base N qual (aU st) f cdv A outer s H E₀) G E k->iD (eU (bE P w base) P w K mg base N qual (aU st) f cdv A outer s H E₀) G E (hY st) mb):
  yu P w K mg base (bE P w base) (k+1) f fd ps (cS G (bA ps.length N.length mb)):=by
 obtain⟨oc,od,kV,doc,pm,an,cdv,ct,osl,rfl,lk,hcd⟩:=Fn.ex;have hlen:∀vs H Q E,cS G (bA ps.length N.length mb) vs H Q E->vs.length=ps.length:=λvs H Q E ⟨μ,h,ds,r,sm,o⟩=>by
  rw[r.length];unfold bA at o
  by_cases hd:ds.length=ps.length
  ·exact hd
  ·rw[if_neg hd]at o;exact o.elim
 refine wL lk hcd S hlen λA outer s H vs Q E hr hsp=>?_;have hl:=hlen _ _ _ _ hsp;obtain⟨μ,h,ds,r,sm,o⟩:=hsp;have o':Out G E μ h.length H (bW (mb (bS N.length ds) h)) (yf G) Q:=by unfold bA at o;rw[if_pos (by rw[<-r.length];exact hl)]at o;exact o
 refine⟨_,y8 cdv A outer s H E (EB G μ h.length H (mb (bS N.length ds) h)) (xU hr hK (λu H' ⟨c,h',μ',er,x,s',fl⟩=>?_) xV) hK, ?_⟩
 ·rw[er]at o';exact o' μ' H' u x s' fl
 ·refine⟨μ,bS N.length ds,h,EG r N,sm, ?_⟩
  cases q:mb (bS N.length ds) h with
  |bad=>rw[q]at o';exact o'.elim
  |bk ρ h'=>rw[q]at o';exact o'.elim
  |ct ρ h'=>rw[q]at o';exact o'.elim
  |rt d h'=>rw[q]at o';exact o'
  |nx ρ h'=>rw[q]at o';exact λμ' H' σ' x' s' rs'=>o' μ' H' .non x' s' rfl
  |ex c h'=>exact λμ' H' u x' s' fl=>⟨c,h',μ',rfl,x',s',fl⟩
theorem EH {X:Cx}{F:ya}{ps:xw}{fd:cg}{x:Str}{p pos:Pos}{e:bj}{es:List bj}{ms:M yb }{j:Nat}(g:Good X G E k) (Fn:yu X.prog X.w X.K X.mg X.base (bE X.prog X.w X.base) j f fd ps (cS G F)) (hj:j<=k)
  (hg:Gl X x) (hm:X.mg x=some (.ref f)) (hk:jt X.K (.ref f)=true) (hb:Binds X.K fd ps []) (ha:cX X G E (e::es) ms)
  (Ao:(x==("__debug__" : Str))=false:=by decide) (he:ax (e::es) X.env=(false,eval e X.env)::ax es X.env:=by rfl) (zh:(backTo pos (ax es X.env)).any (·.1)=false:=by rfl):
  aG X G E (.Call (.Name x p) (e::es) [] pos) (aE F ms):=λhK=>
 PE.imp (NF Fn (g.room.mono hj) hg hm hk hb .nil g.pas (ha hK) Ao he zh) λσ H Q ⟨μ,ρ,h,rs,s,o⟩=>kD rs s o λμ1 ds1 h1 vs H1 x1 yr s1 r1 o1=>by rw[kr];exact⟨μ1,h1,ds1,r1,s1,o1⟩
end
abbrev nW:List ae:=[.type "ValueError",.type "Exception",.type "BaseException",.type "object"]
theorem QN {K:ar}{mg:Str->Option ae}{base:ck}(p:bg) (m:Mod K mg base):∃loose mb,PySem.W.TopRead p loose mg mb base:=by
 obtain⟨mb,hb,hbb⟩:=m.blt;obtain⟨o,es,ep,ho,hd,hk,hf⟩:=id m.glob;refine⟨es.toList.filterMap λe=>match e.key with
  | .str n _=>some n
  |_=>none,mb,m.glob,hb,m.nolimit,hbb,λx _ hx _ _ _=>?_⟩
 rw[<-hf x]
 cases q:nsFind es x with
 |none=>rfl
 |some v=>
  exfalso
  apply hx
  unfold nsFind findBy at q;obtain⟨e,he,_⟩:=Option.map_eq_some_iff.mp q;have h1:=Array.find?_some he;have h2:=Array.mem_of_find?_eq_some he;obtain⟨n,t,hn⟩:=hk e h2;rw[hn]at h1;have h3:n=x:=by simpa[Value.isStr]using h1
  exact kz.mpr ⟨e,by simpa using h2,by rw[hn,h3]⟩
section
variable{X:Cx}{G:Cfg}{E:XK}{k:Nat}{x:Str}{C:ah}{np cpos pos:Pos}{e:bj}{es:List bj}{t:TA}{ms:M yb }{c:Nat}
theorem EI (g:Good X G E k) (hg:Gl X x) (hm:X.mg x=some (.ref C)) (hns:nv X.K cp x=some (some (.ref C))) (hx:mw X.K C nW "ValueError.__new__" = true) (ha:PA X (e::es) t) (hd:(x==("__debug__" : Str))=false:=by decide)
  (he:ax (e::es) X.env=(false,eval e X.env)::ax es X.env:=by rfl) (zh:(backTo cpos (ax es X.env)).any (·.1)=false:=by rfl):
  PS X (.Raise (some (.Call (.Name x np) (e::es) [] cpos)) none pos) (λ_ σ H=>t σ H λvs H1=>vs.length<=bo/\∀e H',zi H1 H'->(∃T a0,H' e=some (.ext (cJ (.ref C) e T a0)))->E (.ref e) none H'):=by
 intro pins s σ H D I h;obtain⟨bm,N,nm,q,bs,hdct,sn,sub,ab,col,dd,k0,k1,k2,k3,k5,mN,hC,hN,hni,T⟩:=(let ⟨_,_,tr⟩:=QN X.prog I.ok.mod;PySem.W.own_of_in I.ok.mod.kin tr hns hx).obj;refine wpAny_Raise_call_subU (C:=C) (nm:=nm) (q:=q) (N:=N) (bs:=bs) (bm:=bm) (hdct:=hdct) (sn:=sn) (sub:=sub) (ab:=ab) (col:=col) (dd:=dd) (k0:=k0) (k1:=k1) (k2:=k2) (k3:=k3) (k5:=k5)
  ua (by decide) ua (mN:=mN) (T.hasType (by decide)) (I.ok.hd g.calm) (by rw[he];show(false||(backTo cpos (ax es X.env)).any (·.1))=false;rw[zh];rfl) hni (oW I hg hm ⟨rfl, ?_⟩ hd)
 have hh:=ha cpos pins s σ H _ I h;rw[he]at hh ⊢;refine wd (aM hh λus s2 ⟨vs,H2,I2,r,hz,w⟩=>⟨rfl,by rw[<-r.length];exact hz,I2.bk _ _ hC,hN.keeps I2.bk,T.keeps I2.bk,λh' e' mx=>?_⟩);exact g.rais pins σ H2 s2 h' e' _ _ I2 mx λH' sm z=>w e' H' sm z
theorem EJ {H:Hp}{e:ah}(hc:C=G.cl c) (z:∃T a0,H e=some (.ext (cJ (.ref C) e T a0))):sG G H c (.ref e):=by obtain⟨T,a0,z⟩:=z;exact⟨e,_,rfl,z,λh ⟨oe,vs,h1,h2,_⟩=>⟨oe,h1,by rw[h2,hc]⟩⟩
def iT (c:Nat) (ms:M yb ):MS:=λρ h=>(ms ρ h).thenS λds h1=>if ds.length<=1000 then .ex c h1 else .bad
theorem EK (g:Good X G E k) (hg:Gl X x) (hm:X.mg x=some (.ref C)) (hns:nv X.K cp x=some (some (.ref C))) (hx:mw X.K C nW "ValueError.__new__" = true) (hc:C=G.cl c) (ha:cX X G E (e::es) ms) (hd:(x==("__debug__" : Str))=false:=by decide)
  (he:ax (e::es) X.env=(false,eval e X.env)::ax es X.env:=by rfl) (zh:(backTo cpos (ax es X.env)).any (·.1)=false:=by rfl):
  fK X G E (.Raise (some (.Call (.Name x np) (e::es) [] cpos)) none pos) (iT c ms):=λhK=>PS.imp (EI g hg hm hns hx (ha hK) hd he zh) λD σ H ⟨μ,ρ,h,rs,s,o⟩=>
 ⟨μ,ρ,h,rs,s,(o.thenS (R:=RelDL G)).mono λvs H1 ⟨μ1,ds,h1,x1,s1,r1,o1⟩=>by
  split at o1
  ·rename_i hl;refine⟨by rw[r1.length];exact da hl (by decide),λe' H' sm z=>?_⟩;exact o1 μ1 H' (.ref e') (Ext.same sm) (s1.same sm) (EJ hc z)
  ·exact o1.elim⟩
def xW (X:Cx) (p:bj) (cond:St->Prop):Prop:=∀(pins:List (ah×Obj)) (s:af) (σ:St) (H:Hp),Inv X pins σ H s->cond σ->
 wpAny (model X.prog X.w) X.A (eval p X.env) (λu s'=>∃y t,u=.str y t/\y.length<=1000/\Inv X pins σ H s') X.xe s
theorem EL {y:Str}{j:Nat}{p:Pos}(h:y.length<=1000):xW X (.Constant (.str y) j p) (λ_=>True):=λpins s σ H I _=>aM (BE (X:=X) pins s σ H (λv H'=>v=.str y/\H'=H) I ⟨rfl,rfl⟩) λu s' ⟨v,H',I',r,hv,hH⟩=>by subst hv;subst hH;obtain⟨t,rfl⟩:=r;exact⟨y,t,rfl,h,I'⟩
theorem EM {a:Int}(h:fJ a=true):a.natAbs.log2<1920/\(toString a:Str).length<=1000:=by
 have hn:a.natAbs<2 ^ 64:=by simp only[fJ,dh,decide_eq_true_eq]at h;omega
 have hlog:a.natAbs.log2<64:=by
  by_cases h0:a.natAbs=0
  ·rw[h0];decide
  ·exact(Nat.log2_lt h0).mpr hn
 refine⟨by omega, ?_⟩;have e:=int_text_length_le (k:=64) (by decide) hlog;rw[PySem.ofString_length];omega
theorem EN {i:Nat}{y:Str}{p q:Pos}(hv:PE X (.Name y p) (BC i)):xW X (.FormattedValue (.Name y p) (-1) none q) (λσ=>∃a,σ[i]?=some (some (.int a))/\fJ a=true):=by intro pins s σ H I ⟨a,e,ha⟩;refine FormattedValue_plain (aM (hv pins s σ H (λv H'=>v=.int a/\H'=H) I ⟨_,e,rfl,rfl⟩) λu s1 ⟨v,H',I',r,e1,e2⟩=>?_);subst e1;subst e2;obtain⟨t,rfl⟩:=r;exact formatField_int_small (EM ha).1 ⟨_,_,rfl,(EM ha).2,I'.tok _⟩
inductive Af (X:Cx):List bj->(St->Prop)->Prop
 |nil:Af X [] (λ_=>True)
 |cons {p:bj}{ps:List bj}{a b:St->Prop}:xW X p a->Af X ps b->Af X (p::ps) (λσ=>a σ/\b σ)
theorem QO {ps:List bj}{cond:St->Prop}(h:Af X ps cond):∀(out:Str) (pins:List (ah×Obj)) (s:af) (σ:St) (H:Hp),Inv X pins σ H s->cond σ->out.length+1000*ps.length<=bo->
  wpAny (model X.prog X.w) X.A (joinParts out (evalEach ps X.env)) (λu s'=>∃y t,u=.str y t/\Inv X pins σ H s') X.xe s:=by
 induction h with
 |nil=>intro out pins s σ H I _ hl;exact joinParts_nil ⟨_,_,rfl,I.tok _⟩ (by simpa using hl)
 | @cons p ps a b hp hr ih=>intro out pins s σ H I ⟨ca,cb⟩ hl;rw[cn]at hl;have e1:evalEach (p::ps) X.env=eval p X.env::evalEach ps X.env:=rfl;rw[e1];refine joinParts_cons (aM (hp pins s σ H I ca) λu s1 ⟨y,t,eu,hy,I1⟩=>?_);subst eu;have hz:(out++y).length=out.length+y.length:=strLen_append ..;refine⟨by omega,ih (out++y) pins s1 σ H I1 cb (by omega)⟩
theorem QP {p1 p2:bj}{ps:List bj}{cond:St->Prop}(h:Af X (p1::p2::ps) cond) (hl:1000*(ps.length+2)<=bo:=by decide):
  PE X (.JoinedStr (p1::p2::ps) pos) (λσ H Q=>cond σ/\∀y,Q (.str y) H):=by
 intro pins s σ H Q I ⟨c,q⟩;refine JoinedStr_many ?_;have e1:eval p1 X.env::eval p2 X.env::evalEach ps X.env=evalEach (p1::p2::ps) X.env:=rfl;rw[e1];refine aM (QO h Str.empty pins s σ H I c (by have:Str.empty.length=0:=rfl;rw[this,cn,cn];omega)) λu s' ⟨y,t,eu,I'⟩=>?_;exact⟨.str y,H,I',⟨t,eu⟩,q y⟩
def sX (c:Nat) (slots:xv):MS:=λρ h=>if slots.all (λi=>match ρ[i]? with
 |some (some (.int a))=>fJ a
 |_=>false)=true then .ex c h else .bad
theorem QQ {p1 p2:bj}{ps:List bj}{cond:St->Prop}{slots:xv}{fpos:Pos}(g:Good X G E k) (hg:Gl X x) (hm:X.mg x=some (.ref C)) (hns:nv X.K cp x=some (some (.ref C))) (hx:mw X.K C nW "ValueError.__new__" = true) (hc:C=G.cl c)
  (h:Af X (p1::p2::ps) cond) (hcond:∀σ,(∀i∈slots,∃a,σ[i]?=some (some (.int a))/\fJ a=true)->cond σ) (hl:1000*(ps.length+2)<=bo:=by decide)
  (hd:(x==("__debug__" : Str))=false:=by decide) (he:ax [.JoinedStr (p1::p2::ps) fpos] X.env=[(false,eval (.JoinedStr (p1::p2::ps) fpos) X.env)]:=by rfl):
  fK X G E (.Raise (some (.Call (.Name x np) [.JoinedStr (p1::p2::ps) fpos] [] cpos)) none pos) (sX c slots):=λhK=>PS.imp (EI g hg hm hns hx (eS (QP h hl) gS he) hd he rfl) λD σ H ⟨μ,ρ,hh,rs,s,o⟩=>by
 unfold sX at o
 split at o
 ·rename_i ha;refine⟨hcond σ λi hi=>?_,λy=>⟨by show 1<=bo;decide,λe' H' sm z=>o μ H' (.ref e') (Ext.same sm) (s.same sm) (EJ hc z)⟩⟩;have:=ic.mp ha i hi
  cases q:ρ[i]? with
  |none=>rw[q]at this;cases this
  |some o1=>
   cases o1 with
   |none=>rw[q]at this;cases this
   |some d=>
    cases d with
    |int a=>rw[q]at this;obtain⟨v,e1,r1⟩:=rs.at_ i _ q;rw[yf]at r1;subst r1;exact⟨a,e1,this⟩
    |_=>rw[q]at this;cases this
 ·exact o.elim
end
open PySem.W
section
variable{prog:bg}{w:cf}{A:bp}{E:ae->af->Prop}{h:ck}{g:Array GenState}{d:Drawn}{t:Nat}{os:OsState}{a C:ah}{o:Obj}{K:Frag}
structure zw (K:Frag) (C:ah):Prop where
 ga:findIn K (.ref C) "__getattribute__" = some (some (.builtin "BaseException.__getattribute__"))
 ng:findIn K (.ref C) "__getattr__" = some none
 cl:findIn K (.ref C) "__class__" = some (some (.builtin "object.__class__"))
 ob:mroIn K C (.type "object")=some true
 be:subIn K (.ref C) (.type "BaseException")=some true
 se:kitCls K (.ref C) (.ref C)=some true
 lk:∃oc od cd osl,K.lookup C=some ⟨oc,od,.cls cd,osl⟩
theorem kindGa:builtinKind "BaseException.__getattribute__" = some .slot/\splitId "BaseException.__getattribute__" = some ("BaseException","__getattribute__"):=by decide +kernel
theorem QR:(qw "BaseException.__getattribute__" == qw "object.__getattribute__")=false:=by decide +kernel
section
variable{R:u6->af->Prop}{s:af}
theorem QS {M:vb}{n:ae}{Q:Unit->af->Prop}(X:K.In s.heap) (I:InstAt s.heap a o C none) (k:zw K C) (hq:Q () s):wpAny M A (checkBuiltinCall "BaseException.__getattribute__" ⟨[.ref a,n],[]⟩) Q E s:=by
 have one:Looks M s.heap (isInstance (.ref a) (.type "BaseException")) true:=I.type.andThen (looks_subIn X k.be);have two:=F.args_bexc_ga (.ref a) n;obtain⟨hh,g,d,t,os⟩:=s;unfold checkBuiltinCall;rw[kindGa.1,kindGa.2];refine aa (one.at ?_)
 repeat (first|assumption|wp_step)
theorem QT {n:Tok}(X:K.In s.heap) (I:InstAt s.heap a o C none) (k:zw K C) (hq:R (.ok (.ret (.ref C))) s):codeAny (model prog w) A (.call (.builtin "BaseException.__getattribute__") ⟨[.ref a,.str "__class__" n],[]⟩) R s:=by
 refine sd F.excAttr_ValueError.ga.plain F.entry_bexc_ga (QS X I k ?_);have own:=I.type (M:=model prog w);have entry:=looks_findIn (M:=model prog w) X k.cl;have of_get:=F.slot_gs_get.lookup;have of_set:=F.slot_gs_set.lookup;have kind:=F.typeOf_object_class;have kindIs:s.TypeIs (.builtin "object.__class__") "getset_descriptor" := kind;obtain⟨hh,g,d,t,os⟩:=s
 repeat (any_goals (first|assumption|with_reducible refine own.at ?_|with_reducible refine entry.at ?_|wp_step))
 exact class_get (s:=⟨hh,g,d,t,os⟩) X I k.ob (by repeat (any_goals (first|assumption|wp_step)))
end
theorem QU {Q:Option ae->af->Prop}(X:K.In h) (I:InstAt h a o C none) (k:zw K C) (hq:Q (some (.ref C)) ⟨h,g,d,t+1,os⟩):
  wpAny (model prog w) A (getAttr? (.ref a) "__class__") Q E ⟨h,g,d,t,os⟩:=by
 have own:=I.type (M:=model prog w);have first_:=looks_findIn (M:=model prog w) X k.ga;have then_:=looks_findIn (M:=model prog w) X k.ng;have bound:=F.excAttr_ValueError.ga.bind (.ref a);have other:=QR;have apart:(onTheHeap (gm C)&&qw "BaseException.__getattribute__" == qw "object.__getattribute__")=false:=by rw[other];rfl
 unfold getAttr? getAttrBy?
 repeat (any_goals (first|assumption|with_reducible refine own.at ?_|with_reducible refine first_.at ?_|with_reducible refine then_.at ?_|wp_step))
 exact QT X I k (by repeat (any_goals (first|assumption|wp_step)))
def QV (a C:ah) (h:ck):Prop:=∃o,InstAt h a o C none
theorem QW (k:zw K C):KitX K (.ref a) (.ref C) (QV a C) where
 ty:=λ_ _ _ ⟨_,I⟩=>I.type
 it:=λ_ _ X _=>(kit_cls X k.se).2.1
 ne:=λh tp dd its n sl X htp=>by
  cases z:(gm C==gm tp)with
  |false=>rfl
  |true=>
   obtain rfl:C=tp:=by simpa using z
   obtain⟨oc,od,cd,osl,lk⟩:=k.lk;have:=X _ _ lk;rw[htp]at this;simp at this
 ca:=λ{prog w A E Q s} X ⟨o,I⟩ hq=>by obtain⟨hh,g,d,t,os⟩:=s;exact QU X I k hq
end
inductive Ty where
 |non|bl|int|str|tup|lst|dct|exc (c:Nat)
def gG:Dv->Hs->Option Ty
 | .non,_=>some .non
 | .bl _,_=>some .bl
 | .int _,_=>some .int
 | .str _,_=>some .str
 | .tup _,_=>some .tup
 | .ref i,h=>match getL h i with
  |some _=>some .lst
  |none=>none
 | .edc,_=>some .dct
 | .exc c,_=>some (.exc c)
 | .scr,_=>none
def jN (cl:Nat->ah):Ty->ae
 | .non=>.type "NoneType"
 | .bl=>.type "bool"
 | .int=>.type "int"
 | .str=>.type "str"
 | .tup=>.type "tuple"
 | .lst=>.type "list"
 | .dct=>.type "dict"
 | .exc c=>.ref (cl c)
def aR (f:Ty->Option Bool) (d:Dv) (h:Hs):Rs Dv:=match gG d h with
 |some ty=>match f ty with
  |some b=>.ok (.bl b) h
  |none=>.bad
 |none=>.bad
section
variable{X:Cx}{G:Cfg}{E:XK}{pins:List (ah×Obj)}{σ:St}{H:Hp}{s:af}
theorem EO {μ:Nat->ah}{h:Hs}{d:Dv}{v:V}{u:ae}{ty:Ty}(I:Inv X pins σ H s) (sm:yn G μ h H) (r:yf G μ h.length H d v) (ru:RelV v u) (e:gG d h=some ty) (hex:∀c,ty=.exc c->zw X.K (G.cl c)):
  ∃P,KitX X.K u (jN G.cl ty) P/\P s.heap/\u≠.builtin "__main__.__loader__#opaque":=by
 cases d with
 |non=>cases e;rw[yf]at r;subst r;cases ru;exact⟨_,kitx_none,trivial,λz=>nomatch z⟩
 |bl b=>cases e;rw[yf]at r;subst r;cases ru;exact⟨_,kitx_bool,trivial,λz=>nomatch z⟩
 |int i=>cases e;rw[yf]at r;subst r;obtain⟨t,rfl⟩:=ru;exact⟨_,kitx_int,trivial,λz=>nomatch z⟩
 |str i=>cases e;rw[yf]at r;subst r;obtain⟨t,rfl⟩:=ru;exact⟨_,kitx_str,trivial,λz=>nomatch z⟩
 |tup ds=>
  cases e;obtain⟨a,vs,rfl,ea,_⟩:=r;cases ru;obtain⟨_,_,_,o,h1,h2,_⟩:=(show yi X.prog X.w H s.heap a (.tup vs) from I.hok a _ ea)
  exact⟨_,kitx_tuple,⟨o,h1,h2⟩,λz=>nomatch z⟩
 |ref i=>
  dsimp only[gG]at e
  cases g:getL h i with
  |none=>rw[g]at e;cases e
  |some xs=>
   rw[g]at e;cases e;obtain⟨_,rfl⟩:=r;cases ru;obtain⟨vs,ea,_⟩:=sm.ob i _ (cE g);obtain⟨_,_,n,_,h1⟩:=(show yi X.prog X.w H s.heap (μ i) (.lst vs) from I.hok _ _ ea)
   exact⟨_,kitx_list,⟨_,h1,rfl⟩,λz=>nomatch z⟩
 |edc=>
  cases e;obtain⟨a,rfl,ea⟩:=r;cases ru;obtain⟨_,_,vs,_,p⟩:=(show yi X.prog X.w H s.heap a (.dK []) from I.hok a _ ea)
  obtain⟨o,es,ep,h1,h2,_⟩:=p;exact⟨_,kitx_dict,⟨o,h1,h2.1⟩,λz=>nomatch z⟩
 |exc c=>
  cases e;obtain⟨a,o,uo,rfl,ea,hc,hdn,vs,hd⟩:=r;cases ru;obtain⟨h1,_⟩:=(show yi X.prog X.w H s.heap a (.frz o uo) from I.hok a _ ea)
  refine⟨_,QW (hex c rfl),⟨o,h1,hc, ?_, ?_⟩,λz=>nomatch z⟩
  ·unfold notCls;rw[hd]
  ·rw[hdn];trivial
 |scr=>cases e
end
section
variable{X:Cx}{G:Cfg}{E:XK}{a b:bj}{ma:M Dv}{p pos:Pos}{f:Ty->Option Bool}
theorem ER:dm "isinstance" = some (.builtin "isinstance"):=by decide +kernel
def ES (G:Cfg) (f:Ty->Option Bool) (c:V):List V->Hp->VK->Prop:=λxs H Q=>∃μ h d v ty bb,xs=[v,c]/\yn G μ h H/\yf G μ h.length H d v/\gG d h=some ty/\f ty=some bb/\Q (.bl bb) H
theorem QX {c:V}{u:ae}(hc:(∃T,c=.ty T)∨∃C,c=.ref C) (rc:RelV c u) (hf:∀ty bb,f ty=some bb->kitOne X.K (jN G.cl ty) u=some bb) (hex:∀c bb,f (.exc c)=some bb->zw X.K (G.cl c)):ym X (.builtin "isinstance") (ES G f c):=by
 intro pins s σ H xs us Q I rv ⟨μ,h,d,v,ty,bb,e1,sm,r,et,ef,q⟩;subst e1;obtain⟨u1,u2,rfl,r1,r2⟩:=pA rv;have e2:u2=u:=by rcases hc with⟨T,rfl⟩|⟨C,rfl⟩ <;> (cases rc;cases r2;rfl)
 subst e2;obtain⟨P,Z,hP,hne⟩:=EO I sm r r1 et (λc z=>by subst z;exact hex c bb ef);exact kia_one Z I.kIn hP (hf ty bb ef) hne λtk=>⟨.bl bb,H,I.tok _,rfl,q⟩
theorem lZ {x:Str}{T:String}(hg:Gl X x) (hm:X.mg x=none) (hv:dm x=some (.type T)) (hn:x ≠ "__name__" := by decide) (hd:(x==("__debug__" : Str))=false:=by decide):PE X (.Name x pos) (tC (.ty T)):=λpins s σ H Q I h=>oX I hg hm hv ⟨.ty T,H,I,rfl,h⟩ hn hd
theorem nX {c:V}{u:ae}(hg:Gl X "isinstance") (hm:X.mg "isinstance" = none) (ha:aG X G E a ma) (hb:PE X b (tC c)) (hc:(∃T,c=.ty T)∨∃C,c=.ref C) (rc:RelV c u)
  (hf:∀ty bb,f ty=some bb->kitOne G.K (jN G.cl ty) u=some bb) (hex:∀c bb,f (.exc c)=some bb->zw G.K (G.cl c))
  (he:ax [a,b] X.env=[(false,eval a X.env),(false,eval b X.env)]:=by rfl) (Ag:ax [b] X.env=[(false,eval b X.env)]:=by rfl):
  aG X G E (.Call (.Name "isinstance" p) [a,b] [] pos) (m1 (aR f) ma):=λhK=>
 PE.imp (pC (QX (G:=G) (f:=f) hc rc (by rw[hK];exact hf) (by rw[hK];exact hex)) hg hm ER (eS (ha hK) (eS hb gS Ag) (by rw[he,Ag])) (by decide) (by decide) (by rw[he,Ag]) (by rw[Ag];rfl))
  λσ H Q ⟨μ,ρ,h,rs,s,o⟩=>cY rs s o λμ1 d h1 v H1 x1 yr s1 r1 o1=>by
   show ES G f c [v,c] H1 Q;unfold aR at o1
   cases q:gG d h1 with
   |none=>rw[q]at o1;exact o1.elim
   |some ty=>
    rw[q]at o1;dsimp only at o1
    cases q2:f ty with
    |none=>rw[q2]at o1;exact o1.elim
    |some bb=>rw[q2]at o1;exact⟨μ1,h1,d,v,ty,bb,rfl,s1,r1,q,q2,o1.val s1 rfl⟩
def ET (G:Cfg) (f:Ty->Option Bool) (cs:List V):List V->Hp->VK->Prop:=λxs H Q=>∃μ h d v ty bb tp,xs=[v,.ref tp]/\H tp=some (.tup cs)/\yn G μ h H/\yf G μ h.length H d v/\gG d h=some ty/\f ty=some bb/\Q (.bl bb) H
theorem QY {cs:List V}{us:List ae}(hcs:∀us',yg cs us'->us'=us) (hf:∀ty bb,f ty=some bb->kitAny X.K (jN G.cl ty) us=some bb) (hex:∀c bb,f (.exc c)=some bb->zw X.K (G.cl c)):ym X (.builtin "isinstance") (ET G f cs):=by
 intro pins s σ H xs uu Q I rv ⟨μ,h,d,v,ty,bb,tp,e1,etp,sm,r,et,ef,q⟩;subst e1;obtain⟨u1,u2,rfl,r1,r2⟩:=pA rv;cases r2;obtain⟨_,its,rits,o,h1,h2,_,n,h3⟩:=(show yi X.prog X.w H s.heap tp (.tup cs) from I.hok tp _ etp)
 have eits:=hcs its rits;subst eits;obtain⟨oc,od,odata,osl⟩:=o
 cases h2;cases h3
 obtain⟨P,Z,hP,hne⟩:=EO I sm r r1 et (λc z=>by subst z;exact hex c bb ef);exact kia_tup Z I.kIn hP h1 (hf ty bb ef) hne λtk=>⟨.bl bb,H,I.tok _,rfl,q⟩
theorem QZ {cs:List V}{us:List ae}{bs:List bj}{kt:Nat}{tpos:Pos}(hg:Gl X "isinstance") (hm:X.mg "isinstance" = none) (ha:aG X G E a ma) (hb:PA X bs (λ_ H Q=>Q cs H)) (hl:cs.length<=bo) (hcs:∀us',yg cs us'->us'=us)
  (hf:∀ty bb,f ty=some bb->kitAny G.K (jN G.cl ty) us=some bb) (hex:∀c bb,f (.exc c)=some bb->zw G.K (G.cl c))
  (he:ax [a,.Tuple bs kt tpos] X.env=[(false,eval a X.env),(false,eval (.Tuple bs kt tpos) X.env)]:=by rfl) (Ag:ax [.Tuple bs kt tpos] X.env=[(false,eval (.Tuple bs kt tpos) X.env)]:=by rfl):
  aG X G E (.Call (.Name "isinstance" p) [a,.Tuple bs kt tpos] [] pos) (m1 (aR f) ma):=λhK=>
 PE.imp (pC (QY (G:=G) (f:=f) hcs (by rw[hK];exact hf) (by rw[hK];exact hex)) hg hm ER (eS (ha hK) (eS (BV hb) gS Ag) (by rw[he,Ag])) (by decide) (by decide) (by rw[he,Ag]) (by rw[Ag];rfl))
  λσ H Q ⟨μ,ρ,h,rs,s,o⟩=>cY rs s o λμ1 d h1 v H1 x1 yr s1 r1 o1=>by
   refine⟨hl,λtp htp=>?_⟩;show ET G f cs [v,.ref tp] (aJ H1 tp (.tup cs)) Q;unfold aR at o1
   cases q:gG d h1 with
   |none=>rw[q]at o1;exact o1.elim
   |some ty=>
    rw[q]at o1;dsimp only at o1
    cases q2:f ty with
    |none=>rw[q2]at o1;exact o1.elim
    |some bb=>rw[q2]at o1;have x2:Ext μ1 h1.length H1 μ1 h1.length (aJ H1 tp (.tup cs)):=Ext.same (bM htp);exact⟨μ1,h1,d,v,ty,bb,tp,rfl,bO,s1.same (bM htp),yf.mono x2 _ _ r1,q,q2,o1 μ1 _ _ x2 (s1.same (bM htp)) rfl⟩
end
def lA:Dv->Option Bool
 | .bl b=>some b
 |_=>none
theorem xX {G:Cfg}{μ:Nat->ah}{n:Nat}{H:Hp}:∀{xs:yb}{vs:List V}{bs:List Bool},RelDL G μ n H xs vs->aY lA xs=some bs->vs=bs.map V.bl
 | [],vs,bs,r,e=>by cases e;rw[RelDL]at r;exact r
 |x::xs,vs,bs,r,e=>by
  rw[RelDL]at r;obtain⟨v,rr,rfl,r1,r2⟩:=r;unfold aY at e
  cases x with
  |bl b=>
   dsimp only[lA]at e
   cases q:aY lA xs with
   |none=>rw[q]at e;cases e
   |some zs=>rw[q]at e;cases e;rw[yf]at r1;subst r1;rw[xX r2 q];rfl
  |_=>cases e
section
variable{X:Cx}{pins:List (ah×Obj)}{σ:St}{H:Hp}{s:af}
theorem Q0 (bs:List Bool):(bx bs.length).all (λi=>bs.getD i false)=bs.all id:=by
 rw[jr,ic,ic];constructor
 ·intro h b hb;obtain⟨i,hi,rfl⟩:=xa.mp hb;simpa[pq,hi]using h i (bq.mpr hi)
 ·intro h i hi;have hi:=bq.mp hi;simpa[pq,hi]using h _ (gh hi)
theorem Q2 (bs:List Bool):(bx bs.length).any (λi=>bs.getD i false)=bs.any id:=by
 rw[jr,List.any_eq_true,List.any_eq_true];constructor
 ·rintro ⟨i,hi,h⟩
  have hi:=bq.mp hi;exact⟨bs[i],gh hi,by simpa[pq,hi]using h⟩
 ·rintro ⟨b,hb,h⟩
  obtain⟨i,hi,rfl⟩:=xa.mp hb;exact⟨i,bq.mpr hi,by simpa[pq,hi]using h⟩
theorem Q3 {bs:List Bool}{its:List ae}(rv:yg (bs.map V.bl) its) {i:Nat}{v:ae}(e:its.toArray[i]?=some v):v=.bool (bs.getD i false):=by
 have hl:=rv.length;rw[bf]at hl;have e':its[i]?=some v:=by simpa using e
 have hi:i<its.length:=(ay.mp e').1;have hb:i<bs.length:=by omega
 obtain⟨u,e2,r⟩:=rv.get (i:=i) (x:=V.bl bs[i]) (by simp[hb]);rw[e']at e2;cases e2;have hg:bs.getD i false=bs[i]:=by simp[pq,hb]
 rw[hg];exact r
theorem EU {bs:List Bool}{its:List ae}{A:bp}(rv:yg (bs.map V.bl) its):TruthOf X.prog X.w A (λi v=>its.toArray[i]?=some v) (λi=>bs.getD i false):=by intro i v s Q E e q;rw[Q3 rv e];exact kj q
theorem EV {o:Obj}{h':ck}{tk:Nat}(I:Inv X pins σ H s) (k:∀b u,b∉[s.heap.objs.size]->(s.heap.push o).get? b=some u->h'.get? b=some u):Inv X pins σ H { s with heap:=h',toks:=tk }:=by have I1:Inv X pins σ H { s with heap:=s.heap.push o }:=I.kept (t':=s.toks) λb u e=>aj _ e;obtain⟨f0,f1,f2,f3,f4,f5⟩:=I.fpOk (ak s.heap.objs.size) I.fresh;exact I1.turned (t':=tk) (λb u hb e=>k b u (by simpa using hb) e) f0 f1 f3 f4 f5
theorem Q4 (hc:X.calm=true):ym X (.builtin "all") (λxs H Q=>∃(p:ah) (bs:List Bool),xs=[.ref p]/\H p=some (.lst (bs.map V.bl))/\Q (.bl (bs.all id)) H):=by
 intro pins s σ H xs us Q I rv ⟨p,bs,e,hp,q⟩;subst e;obtain⟨u,rfl,ru⟩:=gR rv;cases ru;obtain⟨its,rits,pl,hz⟩:=I.list (y9.of hp);have hn:its.toArray.size=bs.length:=by have:=rits.length;simp at this ⊢;omega
 have ne:p≠s.heap.objs.size:=aw (I.hok.lt hp);refine call_all_walk (n9 pl.isList ⟨_,_,_,_,_,_,λi=>bs.getD i false,rfl,uh (A:=X.A.in1) (show X.A.in1.handled=none from I.ok.hd hc) _ p ne its.toArray,⟨⟨_,av _ rfl,rfl,rfl⟩,pl.isList.push _⟩,EU rits,λh' tk k=>?_⟩);rw[hn,Q0];exact⟨.bl _,H,(EV (tk:=tk) I k:Inv X pins σ H { s with heap:=h',toks:=tk }),rfl,q⟩
theorem Q5 (hc:X.calm=true):ym X (.builtin "any") (λxs H Q=>∃(p:ah) (bs:List Bool),xs=[.ref p]/\H p=some (.lst (bs.map V.bl))/\Q (.bl (bs.any id)) H):=by
 intro pins s σ H xs us Q I rv ⟨p,bs,e,hp,q⟩;subst e;obtain⟨u,rfl,ru⟩:=gR rv;cases ru;obtain⟨its,rits,pl,hz⟩:=I.list (y9.of hp);have hn:its.toArray.size=bs.length:=by have:=rits.length;simp at this ⊢;omega
 have ne:p≠s.heap.objs.size:=aw (I.hok.lt hp);refine call_any_walk (n9 pl.isList ⟨_,_,_,_,_,_,λi=>bs.getD i false,rfl,uh (A:=X.A.in1) (show X.A.in1.handled=none from I.ok.hd hc) _ p ne its.toArray,⟨⟨_,av _ rfl,rfl,rfl⟩,pl.isList.push _⟩,EU rits,λh' tk k=>?_⟩);rw[hn,Q2];exact⟨.bl _,H,(EV (tk:=tk) I k:Inv X pins σ H { s with heap:=h',toks:=tk }),rfl,q⟩
end
section
variable{X:Cx}{G:Cfg}{E:XK}{e:bj}{ml:M yb }{x:Str}{p pos:Pos}{bid T:String}
def mL (f:ya) (ml:M yb ):M Dv:=λρ h=>(ml ρ h).bind f
def EW (G:Cfg) (r:List V->Hp->VK->Prop) (f:ya):Prop:=∀(E:XK) (μ:Nat->ah) (h:Hs) (H:Hp) (xs:yb) (a:ah) (vs:List V) (Q:VK),yn G μ h H->H a=some (.lst vs)->RelDL G μ h.length H xs vs->Out G E μ h.length H (f xs h) (yf G) Q->r [.ref a] H Q
theorem Q6 {r:List V->Hp->VK->Prop}{f:ya}(hd:EW G r f) {σ:St}{H:Hp}{Q:VK}(t:fH G E (mL f ml) σ H Q):rT r (BU (sT G E ml) BS) σ H Q:=by obtain⟨μ,ρ,h,rs,s,o⟩:=t;refine⟨μ,ρ,h,rs,s,(o.bind (R1:=RL G)).mono λv H1 ⟨μ1,xs,h1,x1,s1,⟨a,vs,ev,ea,_,r1⟩,o1⟩=>?_⟩;subst ev;exact hd E μ1 h1 H1 xs a vs Q s1 ea r1 o1
theorem EX {r:List V->Hp->VK->Prop}{f:ya}(hc:ym X (.builtin bid) r) (hd:EW G r f) (hg:Gl X x) (hm:X.mg x=none) (hv:dm x=some (.builtin bid)) (ha:nV X G E e ml) (hn:x ≠ "__name__" := by decide) (Ao:(x==("__debug__" : Str))=false:=by decide)
  (he:ax [e] X.env=[(false,eval e X.env)]:=by rfl):aG X G E (.Call (.Name x p) [e] [] pos) (mL f ml):=λhK=>
 PE.imp (pC hc hg hm hv (eS (ha hK) gS he) hn Ao he rfl) λ_ _ _ t=>Q6 hd t
theorem Q7:dm "all" = some (.builtin "all"):=by decide +kernel
theorem Q8:dm "any" = some (.builtin "any"):=by decide +kernel
def mD (xs:yb) (h:Hs):Rs Dv:=match aY lA xs with
 |some bs=>.ok (.bl (bs.all id)) h
 |none=>.bad
def pY (xs:yb) (h:Hs):Rs Dv:=match aY lA xs with
 |some bs=>.ok (.bl (bs.any id)) h
 |none=>.bad
theorem xY (hc:X.calm=true) (hg:Gl X "all") (hm:X.mg "all" = none) (ha:nV X G E e ml) (he:ax [e] X.env=[(false,eval e X.env)]:=by rfl):aG X G E (.Call (.Name "all" p) [e] [] pos) (mL mD ml):=
 EX (Q4 hc) (λE μ h H xs a vs Q s ea r o=>by
  unfold mD at o
  cases q:aY lA xs with
  |none=>rw[q]at o;exact o.elim
  |some bs=>rw[q]at o;exact⟨a,bs,rfl,by rw[ea,xX r q],o.val s rfl⟩) hg hm Q7 ha (by decide) (by decide) he
theorem Q9 (hc:X.calm=true) (hg:Gl X "any") (hm:X.mg "any" = none) (ha:nV X G E e ml) (he:ax [e] X.env=[(false,eval e X.env)]:=by rfl):aG X G E (.Call (.Name "any" p) [e] [] pos) (mL pY ml):=
 EX (Q5 hc) (λE μ h H xs a vs Q s ea r o=>by
  unfold pY at o
  cases q:aY lA xs with
  |none=>rw[q]at o;exact o.elim
  |some bs=>rw[q]at o;exact⟨a,bs,rfl,by rw[ea,xX r q],o.val s rfl⟩) hg hm Q8 ha (by decide) (by decide) he
end
section
variable{X:Cx}{G:Cfg}{E:XK}{o e i:bj}{mo me mi:M Dv}{ml:M yb }{pos apos cpos:Pos}
theorem RA {H:Hp}{a:ah}{vs:List V}(e:H a=some (.lst vs)):rW X.K "list" (.ref a) H:=.inl ⟨rfl,vs,y9.of e⟩
def pZ (o d:Dv) (h:Hs):Rs Dv:=match o with
 | .ref j=>match getL h j with
  |some xs=>if xs.length<1000000 then .ok .non (h.set j (.lst (xs++[d])))else .bad
  |none=>.bad
 |_=>.bad
def gX (o:Dv) (h:Hs):Bool:=match o with
 | .ref j=>(getL h j).isSome
 |_=>false
def lB (mo me:M Dv):M Dv:=λρ h=>(mo ρ h).bind λx h1=>if gX x h1=true then(me ρ h1).bind λd h2=>pZ x d h2 else .bad
theorem sY {μ:Nat->ah}{h:Hs}{H:Hp}{x:Dv}{v:V}(s:yn G μ h H) (r:yf G μ h.length H x v) (e:gX x h=true):rW X.K "list" v H:=by
 cases x with
 |ref j=>obtain⟨xs,q⟩:=ur.mp (show(getL h j).isSome=true from e);obtain⟨vs,ea,_⟩:=s.ob j _ (cE q);obtain⟨_,rfl⟩:=r;exact RA ea
 |_=>cases e
theorem EY {y:Str}{np:Pos}(ho:aG X G E (.Name y np) mo) (he:aG X G E e me) (hs:ax [e] X.env=[(false,eval e X.env)]:=by rfl) (hl:(apos.endLine==cpos.line)=true:=by rfl):aG X G E (.Call (.Attribute (.Name y np) "append" apos) [e] [] cpos) (lB mo me):=λhK=>
 PE.imp (rX kq PySem.F.slot_list_append PySem.F.type_list_append OG (ho hK) (eS (he hK) gS hs) rfl (by rw[hs];rfl) hl hs rfl) λσ H Q ⟨μ,ρ,h,rs,s,oo⟩=>cY rs s oo λμ1 x h1 vx H1 x1 yr s1 r1 o1=>by
  split at o1
  ·rename_i hl;refine⟨sY s1 r1 hl,cY yr s1 o1 λμ2 d h2 vd H2 x2 zq s2 r2 o2=>?_⟩
   cases x with
   |ref j=>
    dsimp only[pZ]at o2
    cases q:getL h2 j with
    |none=>rw[q]at o2;exact o2.elim
    |some xs=>
     rw[q]at o2;dsimp only at o2
     split at o2
     ·rename_i hz;obtain⟨vs,ea,ra⟩:=s2.ob j _ (cE q);obtain⟨_,rfl⟩:=yf.mono x2 _ _ r1;obtain⟨x3,s3⟩:=s2.write (cE q) (ra.append (RelDL.cons r2 RelDL.nil));exact⟨_,vs,vd,rfl,rfl,ea,by rw[ra.length];exact aq hz (by decide),o2 μ2 _ _ x3 s3 rfl⟩
     ·exact o2.elim
   |_=>exact o2.elim
  ·exact o1.elim
end
section
variable{X:Cx}{G:Cfg}{E:XK}{e i:bj}{mo me mi:M Dv}{ml:M yb }{pos apos cpos np:Pos}{y:Str}
def sZ (o:Dv) (ys:yb) (h:Hs):Rs Dv:=match o with
 | .ref j=>match getL h j with
  |some xs=>lim (xs.length+ys.length) (.ok .non (h.set j (.lst (xs++ys))))
  |none=>.bad
 |_=>.bad
def mE (mo:M Dv) (ml:M yb ):M Dv:=λρ h=>(mo ρ h).bind λx h1=>if gX x h1=true then(ml ρ h1).bind λys h2=>sZ x ys h2 else .bad
theorem RC (ho:aG X G E (.Name y np) mo) (he:nV X G E e ml) (hs:ax [e] X.env=[(false,eval e X.env)]:=by rfl) (hl:(apos.endLine==cpos.line)=true:=by rfl):aG X G E (.Call (.Attribute (.Name y np) "extend" apos) [e] [] cpos) (mE mo ml):=λhK=>
 PE.imp (rX kq PySem.F.slot_list_extend PySem.F.type_list_extend OI (ho hK) (eS (he hK) gS hs) rfl (by rw[hs];rfl) hl hs rfl) λσ H Q ⟨μ,ρ,h,rs,s,oo⟩=>cY rs s oo λμ1 x h1 vx H1 x1 yr s1 r1 o1=>by
  split at o1
  ·rename_i hl;refine⟨sY s1 r1 hl,μ1,ρ,h1,yr,s1,(o1.bind (R1:=RL G)).mono λv H2 ⟨μ2,ys,h2,x2,s2,⟨b,ws,ev,eb,nb,rb⟩,o2⟩=>?_⟩;subst ev
   cases x with
   |ref j=>
    dsimp only[sZ]at o2
    cases q:getL h2 j with
    |none=>rw[q]at o2;exact o2.elim
    |some xs=>
     rw[q]at o2;dsimp only at o2;unfold lim at o2
     split at o2
     ·rename_i hz;obtain⟨vs,ea,ra⟩:=s2.ob j _ (cE q);obtain⟨_,rfl⟩:=yf.mono x2 _ _ r1;obtain⟨x3,s3⟩:=s2.write (cE q) (ra.append rb);exact⟨_,b,vs,ws,rfl,rfl,ea,eb,by rw[ra.length,rb.length];exact pI hz,o2 μ2 _ _ x3 s3 rfl⟩
     ·exact o2.elim
   |_=>exact o2.elim
  ·exact o1.elim
def tD (o i d:Dv) (h:Hs):Option Hs:=match o,i with
 | .ref j,.int k=>match getL h j with
  |some xs=>match eJ xs.length k with
   |some n=>some (h.set j (.lst (xs.set n d)))
   |none=>none
  |none=>none
 |_,_=>none
def qA (mo mi me:M Dv):MS:=λρ h=>(me ρ h).thenS λd h1=>(mo ρ h1).thenS λo h2=>(mi ρ h2).thenS λi h3=>match tD o i d h3 with
 |some h4=>.nx ρ h4
 |none=>.bad
theorem EZ {o:bj}{spos:Pos}(ho:aG X G E o mo) (hi:aG X G E i mi) (he:aG X G E e me)
  (ha:∀v,assign (.Subscript o i spos) X.env v=(do
   let ov <-holding [v] (eval o X.env)
   let iv <-holding [v,ov] (eval i X.env)
   standAt spos
   holding [v,ov,iv] (setItem ov iv v)
   release [v,ov,iv] []):=by intro _;rfl)
  (hs:swapsWithSole [.Subscript o i spos] e pos.line X.env=pure false:=by rfl) (hw:swappedStores [.Subscript o i spos] e X.env=pure none:=by rfl)
  (h1:(assignEach [.Subscript o i spos] X.env).map (·.2)=[assign (.Subscript o i spos) X.env]:=by rfl):fK X G E (.Assign [.Subscript o i spos] e pos) (qA mo mi me):=λhK=>
 PS.imp (rP (he hK) (BK (ho hK) (hi hK) N5 ha) hs hw h1) λD σ H ⟨μ,ρ,h,rs,s,oo⟩=>iQ rs s oo λμ1 d h1 v H1 x1 yr s1 r1 o1=>iQ yr s1 o1 λμ2 ob h2 vo H2 x2 zq s2 r2 o2=>iQ zq s2 o2 λμ3 ix h3 vi H3 x3 Az s3 r3 o3=>by
  cases ob with
  |ref j=>
   cases ix with
   |int k=>
    dsimp only[tD]at o3
    cases q:getL h3 j with
    |none=>rw[q]at o3;exact o3.elim
    |some xs=>
     rw[q]at o3;dsimp only at o3
     cases q2:eJ xs.length k with
     |none=>rw[q2]at o3;exact o3.elim
     |some n=>rw[q2]at o3;obtain⟨vs,ea,ra⟩:=s3.ob j _ (cE q);obtain⟨_,rfl⟩:=yf.mono x3 _ _ r2;rw[yf]at r3;subst r3;obtain⟨x4,s4⟩:=s3.write (cE q) (RelDL.set (yf.mono (x2.trans x3) _ _ r1) n ra);exact⟨_,vs,k,n,rfl,rfl,ea,by rw[ra.length];exact q2,o3 μ3 _ σ x4 s4 (Az.mono x4)⟩
   |_=>exact o3.elim
  |_=>cases ix <;> exact o3.elim
end
section
variable{prog:bg}{w:cf}{A:bp}{E:ae->af->Prop}{s:af}
theorem RD {it t:ah}{i:Nat}{items:Array ae}{x:ae}{Q:ae->af->Prop}(hit:s.heap.IsTupleIter it t i) (ht:s.heap.IsTuple t items) (hx:items[i]?=some x)
  (k:∀h',h'.IsTupleIter it t (i+1)->gg it s.heap h'->Q x { s with heap:=h' }):wpAny (model prog w) A (fe (.ref it)) Q E s:=by
 obtain⟨o,ho,hc,hd⟩:=id hit;obtain⟨ol,hol,Bb,nl,hdl⟩:=id ht;refine aa (fj (name:=jn "__next__") hit.typeIs F.slot_tuple_iterator_next (fq F.slot_tuple_iterator_next hit.typeIs F.entry_tuple_iterator_next ?_ (F.args_tuple_iterator_next_1 _)));have q0:∀{Q':ae->af->Prop}{E':ae->af->Prop}{B:bp},Q' (.ref t) s->wpAny (model prog w) B (field (.ref it) 0) Q' E' s:=λq=>fw ho hd (x:=.ref t) rfl q;have q1:∀{Q':ae->af->Prop}{E':ae->af->Prop}{B:bp},Q' (.int i 0) s->wpAny (model prog w) B (field (.ref it) 1) Q' E' s:=λq=>fw ho hd (x:=.int i 0) rfl q;refine aa (ai (aa (q0 ?_)));dsimp only;rw[if_neg (by simp)];refine aa (q1 (aa (iz hol hdl ?_)));rw[show((i:Int)).toNat=i from di i];dsimp only;rw[hx];refine aa (wm ho hd (by simp) (ai ⟨x,rfl,ai (k _ ⟨_,my _ ho (x9 (rz hd _)), ?_, ?_⟩ (mq ..))⟩))
 ·rw[Obj.cls_mapFields];exact hc
 ·rw[rz hd];simp[rawInt]
end
section
variable{prog:bg}{w:cf}{A:bp}{E:ae->af->Prop}{s:af}
theorem RE {α:Type}{Q:α->af->Prop}(hh:A.handled=none) (k:∀h' e,(∀b o,s.heap.get? b=some o->h'.get? b=some o)->(∃o,h'.get? e=some o/\o.cls=.type "StopIteration")->E (.ref e) { s with heap:=h' }):
  wpAny (model prog w) A (pf:Sem α) Q E s:=by
 have e0:firstArgMember (.type "StopIteration") []=pure ib:=by show(pure (if _ then ib else ib):Sem ae)=_;rw[ite_self]
 unfold pf newExc newTuple;refine aa (aa (du (aa (ve e0 (du (wpAny_raiseNew_none hh (k _ _ (λb o q=>aj _ (aj _ q)) ⟨_,av _ rfl,rfl⟩)) (by size_fits)))) (by size_fits)))
theorem RF {it t:ah}{i:Nat}{items:Array ae}{Q:ae->af->Prop}(hh:A.handled=none) (hit:s.heap.IsTupleIter it t i) (ht:s.heap.IsTuple t items) (hx:items[i]?=none)
  (k:∀h' e,ub it s.heap h'->(∃o,h'.get? e=some o/\o.cls=.type "StopIteration")->E (.ref e) { s with heap:=h' }):wpAny (model prog w) A (fe (.ref it)) Q E s:=by
 obtain⟨o,ho,hc,hd⟩:=id hit;obtain⟨ol,hol,Bb,nl,hdl⟩:=id ht;refine aa (fj (name:=jn "__next__") hit.typeIs F.slot_tuple_iterator_next (fq F.slot_tuple_iterator_next hit.typeIs F.entry_tuple_iterator_next ?_ (F.args_tuple_iterator_next_1 _)));have q0:∀{Q':ae->af->Prop}{E':ae->af->Prop}{B:bp},Q' (.ref t) s->wpAny (model prog w) B (field (.ref it) 0) Q' E' s:=λq=>fw ho hd (x:=.ref t) rfl q;have q1:∀{Q':ae->af->Prop}{E':ae->af->Prop}{B:bp},Q' (.int i 0) s->wpAny (model prog w) B (field (.ref it) 1) Q' E' s:=λq=>fw ho hd (x:=.int i 0) rfl q;refine aa (ai (aa (q0 ?_)));dsimp only;rw[if_neg (by simp)];refine aa (q1 (aa (iz hol hdl ?_)));rw[show((i:Int)).toNat=i from di i];dsimp only;rw[hx];refine aa (qu (aa (wm ho hd (by simp) (RE (show A.in1.handled=none from hh) λh' e kp st=>k h' e (λb u hb q=>kp b u ?_) st))));rw[lx _ _ (cu hb)];exact q
end
structure Draws (prog:bg) (w:cf) (it src:ah) (xs:List ae) (st:Nat->ck->Prop):Prop where
 keep:∀i h h',st i h->(∀b o,b=it∨b=src->h.get? b=some o->h'.get? b=some o)->st i h'
 there:∀i h,st i h->∃o vs,h.get? it=some o/\o.data=.fields vs
 item:∀(A:bp) (i:Nat) (x:ae) (s:af) (Q:ae->af->Prop) (E:ae->af->Prop),xs[i]?=some x->st i s.heap->
  (∀h',st (i+1) h'->gg it s.heap h'->Q x { s with heap:=h' })->wpAny (model prog w) A (fe (.ref it)) Q E s
 done:∀(A:bp) (i:Nat) (s:af) (Q:ae->af->Prop) (E:ae->af->Prop),A.handled=none->xs[i]?=none->st i s.heap->
  (∀h' e,ub it s.heap h'->(∃o,h'.get? e=some o/\o.cls=.type "StopIteration")->E (.ref e) { s with heap:=h' })->wpAny (model prog w) A (fe (.ref it)) Q E s
structure Four (z TI TO i j u v:ah):Prop where
 a:z≠TO
 b:z≠i
 c:z≠j
 d:TO≠i
 e:TO≠j
 f:i≠j
 g:TI≠z
 h:TI≠TO
 k:TI≠i
 l:TI≠j
 u1:u≠z
 u2:u≠TO
 u3:u≠i
 u4:u≠j
 v1:v≠z
 v2:v≠TO
 v3:v≠i
 v4:v≠j
theorem gH {b x y c:ah}(h:b=x∨b=y) (p:x≠c) (q:y≠c):b≠c:=by
 rcases h with h|h
 ·rw[h];exact p
 ·rw[h];exact q
def tE (z TO i j:ah) (h h':ck):Prop:=∀b o,b≠z->b≠TO->b≠i->b≠j->h.get? b=some o->h'.get? b=some o
section
variable{prog:bg}{w:cf}{A:bp}{E:ae->af->Prop}{s:af}{z TI TO i j u v:ah}{xs ys:List ae}{st su:Nat->ck->Prop}
theorem RG {n:Nat}{x y a b:ae}{Q:ae->af->Prop}(F4:Four z TI TO i j u v) (P:Draws prog w i u xs st) (R:Draws prog w j v ys su) (hz:vf s.heap z TI TO .none) (hTI:nj s.heap TI (.ref i) (.ref j)) (hTO:nj s.heap TO a b)
  (p:st n s.heap) (r:su n s.heap) (hx:xs[n]?=some x) (hy:ys[n]?=some y)
  (k:∀h' T,s.heap.objs.size<=T->vf h' z TI TO (rawInt T)->nj h' TI (.ref i) (.ref j)->nj h' TO x y->st (n+1) h'->su (n+1) h'->nj h' T x y->tE z TO i j s.heap h'->Q (.ref T) { s with heap:=h' }):
  wpAny (model prog w) A (lr.«zip.__next__» ⟨[.ref z],[]⟩) (λfin s'=>∃v,fin=.done (.ret v)/\Q v s') E s:=by
 refine aa (ai (aa (fw hz rfl (x:=.bool false) rfl (aa (fw hz rfl (x:=.ref TI) rfl (aa (iz hTI rfl ?_)))))));have fr:∀{Q':Bool->af->Prop}{E':ae->af->Prop},Q' true s->wpAny (model prog w) A (p4 (.ref z)) Q' E' s:=λq=>aa (fw hz rfl (x:=.none) rfl (ai q));refine aa (fr ?_);rw[if_pos rfl];refine aa (qu (aa (fw hz rfl (x:=.ref TO) rfl (aa (gi hz (by simp) λg1 z1 b1=>?_)))));have z1':vf g1 z TI TO .ellipsis:=z1;refine aa ?_;show wpAny _ _ (forIn [(gm i,0),(gm j,1)] _ _) _ _ _;rw[o9];refine aa (aa (oj ?_));show wpAny _ _ (fe (.ref i) >>= _) _ _ _;refine aa (P.item A n x _ _ _ hx (P.keep n _ _ p λb o hb q=>b1.extBut _ _ (gH hb (cu F4.b) F4.u1) q) λg2 p2 b2=>ai ?_);have t2:nj g2 TO a b:=b2.extBut _ _ F4.d (b1.extBut _ _ (cu F4.a) hTO);refine aa (iz t2 rfl (aa (sf t2 λg3 t3 b3=>aa (wpAny_letGo (ai ?_)))));have t3':nj g3 TO x b:=t3;dsimp only;rw[o9];refine aa (aa (oj ?_));show wpAny _ _ (fe (.ref j) >>= _) _ _ _;have r3:su n g3:=R.keep n _ _ r λb o hb q=>b3.extBut _ _ (gH hb (cu F4.e) F4.v2) (b2.extBut _ _ (gH hb (cu F4.f) F4.v3) (b1.extBut _ _ (gH hb (cu F4.c) F4.v1) q));refine aa (R.item A n y _ _ _ hy r3 λg4 r4 b4=>ai ?_);have t4:nj g4 TO x b:=b4.extBut _ _ F4.e t3';refine aa (iz t4 rfl (aa (sf t4 λg5 t5 b5=>aa (wpAny_letGo (ai ?_)))));have t5':nj g5 TO x y:=t5;dsimp only;rw[List.forIn_nil];refine ai ?_;refine aa (iz t5' rfl (aa (wpAny_newTuple ?_)));have z5:vf g5 z TI TO .ellipsis:=b5.extBut _ _ F4.a (b4.extBut _ _ F4.c (b3.extBut _ _ F4.a (b2.extBut _ _ F4.b z1')));have sz:g5.objs.size=s.heap.objs.size:=by rw[b5.1,b4.1,b3.1,b2.1,b1.1]
 have all5:tE z TO i j s.heap g5:=λc o c1 c2 c3 c4 q=>b5.extBut _ _ c2 (b4.extBut _ _ c4 (b3.extBut _ _ c2 (b2.extBut _ _ c3 (b1.extBut _ _ c1 q))));have p5:st (n+1) g5:=P.keep _ _ _ p2 λb o hb q=>b5.extBut _ _ (gH hb (cu F4.d) F4.u2) (b4.extBut _ _ (gH hb F4.f F4.u4) (b3.extBut _ _ (gH hb (cu F4.d) F4.u2) q));have r5:su (n+1) g5:=R.keep _ _ _ r4 λb o hb q=>b5.extBut _ _ (gH hb (cu F4.e) F4.v2) q;generalize hob:({ cls:=.type "tuple",dict:=none,data:=.seq [x,y].toArray }:Obj)=ob;have zp:vf (g5.push ob) z TI TO .ellipsis:=aj _ z5;refine aa (aa (gi zp (by simp) λg7 z7 b7=>?_));have z7':vf g7 z TI TO (rawInt g5.objs.size):=z7;refine gi z7' (by simp) λg8 z8 b8=>ai ⟨_,rfl, ?_⟩;have up:∀c o,c≠z->g5.get? c=some o->g8.get? c=some o:=λc o c1 q=>b8.extBut _ _ c1 (b7.extBut _ _ c1 (aj _ q));have lz:z<g5.objs.size:=ao z5;have T8:nj g8 g5.objs.size x y:=b8.extBut _ _ (ig lz) (b7.extBut _ _ (ig lz) (by rw[<-hob];exact av _ rfl));refine k g8 g5.objs.size (oq sz.symm) z8 (up _ _ F4.g (all5 _ _ F4.g F4.h F4.k F4.l hTI)) (up _ _ (cu F4.a) t5') (P.keep _ _ _ p5 λb o hb q=>up _ _ (gH hb (cu F4.b) F4.u1) q) (R.keep _ _ _ r5 λb o hb q=>up _ _ (gH hb (cu F4.c) F4.v1) q) T8 λc o c1 c2 c3 c4 q=>up _ _ c1 (all5 c o c1 c2 c3 c4 q)
end
section
variable{prog:bg}{w:cf}{A:bp}{E:ae->af->Prop}{s:af}{z TI TO i j u v:ah}{xs ys:List ae}{st su:Nat->ck->Prop}
theorem RH {n:Nat}{a b:ae}{Q:PySem.Fin->af->Prop}(hh:A.handled=none) (F4:Four z TI TO i j u v) (P:Draws prog w i u xs st) (R:Draws prog w j v ys su) (hz:vf s.heap z TI TO .none) (hTI:nj s.heap TI (.ref i) (.ref j)) (hTO:nj s.heap TO a b)
  (p:st n s.heap) (r:su n s.heap) (hend:xs[n]?=none∨ys[n]?=none)
  (k:∀h' e,tE z TO i j s.heap h'->(∃o,h'.get? e=some o/\o.cls=.type "StopIteration")->E (.ref e) { s with heap:=h' }):
  wpAny (model prog w) A (lr.«zip.__next__» ⟨[.ref z],[]⟩) Q E s:=by
 refine aa (ai (aa (fw hz rfl (x:=.bool false) rfl (aa (fw hz rfl (x:=.ref TI) rfl (aa (iz hTI rfl ?_)))))));have fr:∀{Q':Bool->af->Prop}{E':ae->af->Prop},Q' true s->wpAny (model prog w) A (p4 (.ref z)) Q' E' s:=λq=>aa (fw hz rfl (x:=.none) rfl (ai q));refine aa (fr ?_);rw[if_pos rfl];refine aa (qu (aa (fw hz rfl (x:=.ref TO) rfl (aa (gi hz (by simp) λg1 z1 b1=>?_)))));have z1':vf g1 z TI TO .ellipsis:=z1;have p1:st n g1:=P.keep n _ _ p λb o hb q=>b1.extBut _ _ (gH hb (cu F4.b) F4.u1) q;have fin:∀(g:ck) (e:ah),vf g z TI TO .ellipsis->tE z TO i j s.heap g->(∃o,g.get? e=some o/\o.cls=.type "StopIteration")->
   wpAny (model prog w) A (setField (.ref z) 0 .none) (λ_ s'=>E (.ref e) s') E { s with heap:=g }:=λg e zz bt ⟨o,he,hc⟩=>
  gi zz (by simp) λg' _ b'=>k g' e (λc u c1 c2 c3 c4 q=>b'.extBut _ _ c1 (bt c u c1 c2 c3 c4 q)) ⟨o,b'.extBut _ _ (λq=>by subst q;rw[zz]at he;cases he;simp at hc) he,hc⟩
 refine aa ?_;show wpAny _ _ (forIn [(gm i,0),(gm j,1)] _ _) _ _ _;rw[o9];refine aa (aa (oj ?_));show wpAny _ _ (fe (.ref i) >>= _) _ _ _
 cases hx:xs[n]? with
 |none=>exact aa (P.done A n _ _ _ hh hx p1 λg2 e b2 he=>fin g2 e (b2 _ _ F4.b z1') (λc u c1 _ c3 _ q=>b2 _ _ c3 (b1.extBut _ _ c1 q)) he)
 |some x=>
  have hy:ys[n]?=none:=by
   rcases hend with q|q
   ·rw[hx]at q;cases q
   ·exact q
  refine aa (P.item A n x _ _ _ hx p1 λg2 p2 b2=>ai ?_);have t2:nj g2 TO a b:=b2.extBut _ _ F4.d (b1.extBut _ _ (cu F4.a) hTO);refine aa (iz t2 rfl (aa (sf t2 λg3 t3 b3=>aa (wpAny_letGo (ai ?_)))));dsimp only;rw[o9];refine aa (aa (oj ?_));show wpAny _ _ (fe (.ref j) >>= _) _ _ _;have r3:su n g3:=R.keep n _ _ r λb o hb q=>b3.extBut _ _ (gH hb (cu F4.e) F4.v2) (b2.extBut _ _ (gH hb (cu F4.f) F4.v3) (b1.extBut _ _ (gH hb (cu F4.c) F4.v1) q));exact aa (R.done A n _ _ _ hh hy r3 λg4 e b4 he=>fin g4 e (b4 _ _ F4.c (b3.extBut _ _ F4.a (b2.extBut _ _ F4.b z1'))) (λc u c1 c2 c3 c4 q=>b4 _ _ c4 (b3.extBut _ _ c2 (b2.extBut _ _ c3 (b1.extBut _ _ c1 q)))) he)
theorem tF {it t:ah}{items:Array ae}(hne:t≠it):Draws prog w it t items.toList (λi h=>h.IsTupleIter it t i/\h.IsTuple t items) where
 keep:=λi h h' ⟨⟨o,e,r⟩,⟨o2,e2,r2⟩⟩ k=>⟨⟨o,k _ _ (.inl rfl) e,r⟩,⟨o2,k _ _ (.inr rfl) e2,r2⟩⟩
 there:=λi h ⟨⟨o,e,_,d⟩,_⟩=>⟨o,_,e,d⟩
 item:=λA i x s Q E hx ⟨a,b⟩ k=>RD a b (by simpa using hx) λh' a' sb=>k h' ⟨a',b.extBut sb.extBut hne⟩ sb
 done:=λA i s Q E hh hx ⟨a,b⟩ k=>RF hh a b (by simpa using hx) k
end
def xZ (K:ar) (t u:ah):It:=
 ⟨λi H=>∃vs ws v w,yt K H t vs/\yt K H u ws/\vs[i]?=some v/\ws[i]?=some w,
  λi H x H'=>∃p v w,x=.ref p/\H p=none/\H'=aJ H p (.tup [v,w])/\(∀vs,yt K H t vs->vs[i]?=some v)/\∀ws,yt K H u ws->ws[i]?=some w,
  λi H=>∃vs ws,yt K H t vs/\yt K H u ws/\(vs.length<=i∨ws.length<=i)⟩
structure ZipAt (z TI TO i j t u:ah) (n:Nat) (h:ck):Prop where
 zp:vf h z TI TO .none
 ti:nj h TI (.ref i) (.ref j)
 to:∃a b,nj h TO a b
 i1:h.IsTupleIter i t n
 i2:h.IsTupleIter j u n
section
variable{X:Cx}{pins:List (ah×Obj)}{σ:St}{H:Hp}{s:af}
theorem Inv.turns {h':ck}{ch:List ah}{T:ah}{vs:List V}{its:List ae}(I:Inv X pins σ H s) (Au:∀b∈ch,bU X pins H b) (k:∀b o,b∉ch->s.heap.get? b=some o->h'.get? b=some o) (there:∀b∈ch,∃o,h'.get? b=some o)
  (hT:s.heap.objs.size<=T) (hv:yg vs its) (hl:vs.length<=bo) (tp:yy h' T its.toArray):Inv X pins σ (aJ H T (.tup vs)) { s with heap:=h' }:=by
 have nT:H T=none:=I.hok.fresh hT;have nch:∀b o,H b=some o->b∉ch:=λb o q z=>by rw[(Au b z).1]at q;cases q
 have un:Un (cG X.stack) ch H (aJ H T (.tup vs)) s.heap h':=
  ⟨λb o q _ _ hb=>k b o hb q,λb o q _ _ hb=>⟨o.slots,k b o hb q⟩,λb o q n _=>by rw[aT (aw (aq (ao q) hT))];exact n,
   λb o q hb=>⟨o,k b o hb q⟩,λb xs q=>bM nT b _ q,λb o u q=>bM nT b _ q,λb ps q=>⟨#[],by rw[bM nT b _ q];simp⟩⟩
 have ok:zd X.prog X.w (aJ H T (.tup vs)) h':=λb o q=>by
  by_cases hb:b=T
  ·subst hb;rw[bO]at q;cases q;exact⟨hl,its,hv,tp⟩
  ·rw[aT hb]at q;refine(I.hok b o q).stay (λc v hc z=>k c v ?_ z) (λc z=>bM nT c _ z) λc xs z=>bM nT c _ z
   rcases hc with rfl|hc
   ·exact nch c o q
   ·exact nch c _ hc
 exact I.call (g':=s.gens) (d':=s.drawn) (t':=s.toks) un ok I.bare λb hb=>let ⟨_,f1,_,f3,f4,f5⟩:=Au b hb;⟨f3,f1,f4,f5⟩
theorem Inv.turns0 {h':ck}{ch:List ah}(I:Inv X pins σ H s) (Au:∀b∈ch,bU X pins H b) (k:∀b o,b∉ch->s.heap.get? b=some o->h'.get? b=some o):Inv X pins σ H { s with heap:=h' }:=by
 have nch:∀b o,H b=some o->b∉ch:=λb o q z=>by rw[(Au b z).1]at q;cases q
 refine I.call (g':=s.gens) (d':=s.drawn) (t':=s.toks) (ch:=ch) ⟨λb o q _ _ hb=>k b o hb q,λb o q _ _ hb=>⟨o.slots,k b o hb q⟩,λ_ _ _ n _=>n,λb o q hb=>⟨o,k b o hb q⟩,λ_ _ q=>q,λ_ _ _ q=>q,λb ps q=>⟨#[],by rw[q];simp⟩⟩ (λb o q=>?_) I.bare λb hb=>let ⟨_,f1,_,f3,f4,f5⟩:=Au b hb;⟨f3,f1,f4,f5⟩;refine(I.hok b o q).stay (λc v hc z=>k c v ?_ z) (λ_ z=>z) λ_ _ z=>z
 rcases hc with rfl|hc
 ·exact nch c o q
 ·exact nch c _ hc
end
theorem RI {P:bg}{w:cf}{K:ar}{elts:List bj}{kk:Nat}{tp:Pos}{z TI TO i j t u:ah}(F4:Four z TI TO i j t u) (hti:t≠i) (huj:u≠j):
  Turn P w K (.Tuple elts kk tp) (xZ K t u) [z,TI,TO,i,j] z (ZipAt z TI TO i j t u) where
 mem:=by simp
 obj:=λn h st b hb=>by
  obtain⟨zp,ti,⟨a,b',to⟩,⟨o1,e1,_,d1⟩,⟨o2,e2,_,d2⟩⟩:=st;simp at hb
  rcases hb with rfl|rfl|rfl|rfl|rfl
  ·exact⟨_,zp,λv q=>by cases q⟩
  ·exact⟨_,ti,λv q=>by cases q⟩
  ·exact⟨_,to,λv q=>by cases q⟩
  ·exact⟨_,e1,λv q=>by rw[d1]at q;cases q⟩
  ·exact⟨_,e2,λv q=>by rw[d2]at q;cases q⟩
 keep:=λn h h' st k=>by obtain⟨zp,ti,⟨a,b',to⟩,⟨o1,e1,r1⟩,⟨o2,e2,r2⟩⟩:=st;exact⟨k _ (by simp) _ zp,k _ (by simp) _ ti,⟨a,b',k _ (by simp) _ to⟩,⟨o1,k _ (by simp) _ e1,r1⟩,⟨o2,k _ (by simp) _ e2,r2⟩⟩
 item:=by
  intro X hP hw hK hc n pins s σ H E I hf st hg;subst hP hw hK;obtain⟨vs,ws,v,w',hq,hr,hv,hw'⟩:=hg;obtain⟨its,rv,p1,z1⟩:=I.tuple hq;obtain⟨jts,rw',p2,z2⟩:=I.tuple hr;obtain⟨x,hx,rx⟩:=rv.get hv;obtain⟨y,hy,ry⟩:=rw'.get hw';obtain⟨zp,ti,⟨a,b,to⟩,i1,i2⟩:=st;have hT:s.TypeIs (.ref z) "zip" := ⟨_,zp,rfl⟩;unfold pyNext;refine aa (qh (fj (name:=jn "__next__") hT F.slot_zip_next (fq F.slot_zip_next hT F.entry_zip_next
   (RG F4 (tF (items:=its.toArray) hti) (tF (items:=jts.toArray) huj) zp ti to ⟨i1,p1⟩ ⟨i2,p2⟩ (by simpa using hx) (by simpa using hy) λh' T Bf a1 a2 a3 a4 a5 a6 bt=>ai ⟨_,rfl, ?_⟩) (F.args_zip_next_1 _))))
  refine wpAny_letOwnedTupleGo_zip a1 λh2 z2' sb=>?_;have kp:∀b o,b∉[z,TI,TO,i,j]->s.heap.get? b=some o->h2.get? b=some o:=λb o hb q=>by simp at hb;obtain⟨n1,n2,n3,n4,n5⟩:=hb;exact sb.extBut _ _ n1 (bt b o n1 n3 n4 n5 q)
  have Tz:T≠z:=ig (aq (ao zp) Bf);have T2:nj h2 T x y:=sb.extBut _ _ Tz a6;have th:∀b∈[z,TI,TO,i,j],∃o,h2.get? b=some o:=λb hb=>by
   obtain⟨⟨o1,e1,_⟩,_⟩:=a4;obtain⟨⟨o2,e2,_⟩,_⟩:=a5;simp at hb
   rcases hb with rfl|rfl|rfl|rfl|rfl
   ·exact⟨_,z2'⟩
   ·exact⟨_,sb.extBut _ _ F4.g a2⟩
   ·exact⟨_,sb.extBut _ _ (cu F4.a) a3⟩
   ·exact⟨_,sb.extBut _ _ (cu F4.b) e1⟩
   ·exact⟨_,sb.extBut _ _ (cu F4.c) e2⟩
  have I2:=Inv.turns (T:=T) (vs:=[v,w']) (its:=[x,y]) I hf kp th Bf (.cons rx (.cons ry .nil)) (by show 2<=bo;decide) ⟨_,T2,rfl,rfl,_,rfl⟩;have nT:H T=none:=I.hok.fresh Bf;refine⟨.ref T,_,I2,rfl,⟨T,v,w',rfl,nT,rfl,λyw h'=>by rw[I.tuple_inj h' hq];exact hv,λws' h'=>by rw[I.tuple_inj h' hr];exact hw'⟩, ?_,λb hb=>?_⟩
  ·exact⟨z2',sb.extBut _ _ F4.g a2,⟨_,_,sb.extBut _ _ (cu F4.a) a3⟩,a4.1.extBut sb.extBut (cu F4.b),a5.1.extBut sb.extBut (cu F4.c)⟩
  ·obtain⟨o,q,_⟩:∃o,s.heap.get? b=some o/\True:=by
    obtain⟨o1,e1,_⟩:=i1;obtain⟨o2,e2,_⟩:=i2;simp at hb
    rcases hb with rfl|rfl|rfl|rfl|rfl
    ·exact⟨_,zp,trivial⟩
    ·exact⟨_,ti,trivial⟩
    ·exact⟨_,to,trivial⟩
    ·exact⟨_,e1,trivial⟩
    ·exact⟨_,e2,trivial⟩
   rw[aT (aw (aq (ao q) Bf))];exact(hf b hb).1
 done:=by
  intro X hP hw hK hc n pins s σ H E I hf st hg;subst hP hw hK;obtain⟨vs,ws,hq,hr,hend⟩:=hg;obtain⟨its,rv,p1,z1⟩:=I.tuple hq;obtain⟨jts,rw',p2,z2⟩:=I.tuple hr;have l1:=rv.length;have l2:=rw'.length;obtain⟨zp,ti,⟨a,b,to⟩,i1,i2⟩:=st;have hT:s.TypeIs (.ref z) "zip" := ⟨_,zp,rfl⟩;unfold pyNext;refine aa (qh (fj (name:=jn "__next__") hT F.slot_zip_next (fq F.slot_zip_next hT F.entry_zip_next
   (RH (show X.A.in1.handled=none from I.ok.hd hc) F4 (tF (items:=its.toArray) hti) (tF (items:=jts.toArray) huj) zp ti to ⟨i1,p1⟩ ⟨i2,p2⟩ (by
    rcases hend with q|q
    ·exact .inl (by simp;omega)
    ·exact .inr (by simp;omega)) λh' e bt ⟨o,he,Bb⟩=>aa (qp (T := "StopIteration") (b:=true) ⟨o,he,Bb⟩ wo (ai ⟨rfl, ?_⟩))) (F.args_zip_next_1 _))))
  refine Inv.turns0 I hf λb o hb q=>?_;simp at hb;exact bt b o hb.1 hb.2.2.1 hb.2.2.2.1 hb.2.2.2.2 q
 self:=λ_ _ _ _ _ st h=>wpAny_pyIter_zip st.zp h
def E1 (t u:ah) (h:ck) (z:ah) (h':ck):Prop:=∃TI TO i j,ZipAt z TI TO i j t u 0 h'/\Four z TI TO i j t u/\(∀b∈[z,TI,TO,i,j],h.objs.size<=b)/\∀b o,h.get? b=some o->h'.get? b=some o
theorem qB {h h':ck}{o:Obj}(e:h'=h.push o) (nf:o.isFreed=false):h'.get? h.objs.size=some o:=by rw[e];exact av _ nf
theorem RJ (n t u:Nat) (lt:t<n) (lu:u<n):Four (n+4) (n+2) (n+3) n (n+1) t u:=by
 have ne:∀{a b:Nat},(a<b∨b<a)->a≠b:=λh=>by omega
 exact⟨ne (by omega),ne (by omega),ne (by omega),ne (by omega),ne (by omega),ne (by omega),ne (by omega),ne (by omega),ne (by omega),ne (by omega),ne (by omega),ne (by omega),ne (by omega),ne (by omega),ne (by omega),ne (by omega),ne (by omega),ne (by omega)⟩
theorem RK {t u:ah}{hp h1 h2 h3 h4 h5:ck}{n:Nat}(hn:n=hp.objs.size) (lt:t<n) (lu:u<n)
  (e1:h1=hp.push { cls:=.type "tuple_iterator",data:=.fields #[.ref t,.int 0 0] }) (e2:h2=h1.push { cls:=.type "tuple_iterator",data:=.fields #[.ref u,.int 0 0] }) (e3:h3=h2.push { cls:=.type "tuple",data:=.seq #[.ref n,.ref (n+1)] })
  (e4:h4=h3.push { cls:=.type "tuple",data:=.seq #[.none,.none] }) (e5:h5=h4.push { cls:=.type "zip",data:=.fields #[.none,.bool false,.bool false,.ref (n+2),.ref (n+3)] }):E1 t u hp (n+4) h5:=by
 have z1:h1.objs.size=n+1:=by rw[e1,fi,hn]
 have z2:h2.objs.size=n+2:=by rw[e2,fi,z1]
 have z3:h3.objs.size=n+3:=by rw[e3,fi,z2]
 have z4:h4.objs.size=n+4:=by rw[e4,fi,z3]
 have up:∀(h:ck) (o:Obj) (b:ah) (q:Obj),h.get? b=some q->(h.push o).get? b=some q:=λh o b q e=>aj _ e;have g1:=qB e1 rfl;have g2:=qB e2 rfl;have g3:=qB e3 rfl;have g4:=qB e4 rfl;have g5:=qB e5 rfl;rw[<-hn]at g1;rw[z1]at g2;rw[z2]at g3;rw[z3]at g4;rw[z4]at g5;have u2:∀b q,h2.get? b=some q->h5.get? b=some q:=λb q e=>by rw[e5,e4,e3];exact up _ _ _ _ (up _ _ _ _ (up _ _ _ _ e))
 have u1:∀b q,h1.get? b=some q->h5.get? b=some q:=λb q e=>u2 b q (by rw[e2];exact up _ _ _ _ e);have u3:∀b q,h3.get? b=some q->h5.get? b=some q:=λb q e=>by rw[e5,e4];exact up _ _ _ _ (up _ _ _ _ e)
 have u4:∀b q,h4.get? b=some q->h5.get? b=some q:=λb q e=>by rw[e5];exact up _ _ _ _ e
 refine⟨n+2,n+3,n,n+1,⟨g5,u3 _ _ g3,⟨_,_,u4 _ _ g4⟩,⟨_,u1 _ _ g1,rfl,rfl⟩,⟨_,u2 _ _ g2,rfl,rfl⟩⟩, ?_, ?_,λb q e=>u1 b q (by rw[e1];exact up _ _ _ _ e)⟩
 ·exact RJ n t u lt lu
 ·intro b hb;rw[<-hn];simp at hb
  rcases hb with rfl|rfl|rfl|rfl|rfl
  ·exact q5 _ _
  ·exact q5 _ _
  ·exact q5 _ _
  ·exact ak _
  ·exact q5 _ _
theorem RM {t u:ah}(xs ys:Array ae):Meets (lr.«zip.__new__» ⟨[.type "zip",.ref t,.ref u],[]⟩) (λ_ R s=>s.heap.IsTuple t xs/\s.heap.IsTuple u ys/\∀h' z,E1 t u s.heap z h'->R (.ok (.ret (.ref z))) { s with heap:=h' }):=
 .of_wp λprog w A R s h=>by
  obtain⟨ht,hu,k⟩:=h;obtain⟨hp,g,d,tk,os⟩:=s;have sub:=sub_zip;have ht':(⟨hp,g,d,tk,os⟩:af).heap.IsTuple t xs:=ht;have yq:(⟨hp.push { cls:=.type "tuple_iterator",data:=.fields #[.ref t,.int 0 0] },g,d,tk,os⟩:af).heap.IsTuple u ys:=hu.push _
  wp_walk using pg ht',pg yq
  have lt:t<hp.objs.size:=by obtain⟨o,e,_⟩:=ht;exact ao e
  have lu:u<hp.objs.size:=by obtain⟨o,e,_⟩:=hu;exact ao e
  simp only[fi];refine⟨_,rfl,k _ _ (RK rfl lt lu rfl rfl rfl rfl ?_)⟩;simp only[fi];rfl
section
variable{X:Cx}{G:Cfg}{E:XK}{a b:bj}{elts:List bj}{kk:Nat}{tp p pos:Pos}{ta:TA}{ms:M yb }
def RN (K:ar) (ta:TA):TI:=λσ H R=>ta σ H λvs H1=>∃t u xs ys,vs=[.ref t,.ref u]/\yt K H1 t xs/\yt K H1 u ys/\R (xZ K t u) H1
theorem RO:dm "zip" = some (.type "zip"):=by decide +kernel
theorem RP (hg:Gl X "zip") (hm:X.mg "zip" = none) (ha:PA X [a,b] ta) (hs:ax [a,b] X.env=[(false,eval a X.env),(false,eval b X.env)]:=by rfl) (hs2:ax [b] X.env=[(false,eval b X.env)]:=by rfl):
  PI X (.Tuple elts kk tp) (.Call (.Name "zip" p) [a,b] [] pos) (RN X.K ta):=by
 intro pins s σ H R I h;refine Call_ (oX I hg hm RO (mr (aM (ha pos pins s σ H _ I h) λus s1 ⟨vs,H1,I1,r1,q1⟩=>?_) (by rw[hs,hs2]) (by rw[hs2];rfl)));obtain⟨t,u,xs,ys,e,hq,hr,q⟩:=q1;subst e;obtain⟨u1,u2,rfl,e1,e2⟩:=pA r1;cases e1;cases e2;obtain⟨its,rv,p1,_⟩:=I1.tuple hq;obtain⟨jts,rw',p2,_⟩:=I1.tuple hr;refine callType_new F.called_zip (by decide) (F.typeCall_zip_2 _ _) (F.newCall_zip_2 _ _) (λobj=>F.args_object_init_3 obj _ _) F.entry_zip_new (RM its.toArray jts.toArray) ⟨p1,p2,λh' z nz=>?_⟩;obtain⟨TI,TO,i,j,za,f4,fresh,kp⟩:=nz;refine⟨⟨_,za.zp,rfl⟩, ?_⟩;have I2:Inv X pins σ H1 { s1 with heap:=h' }:=I1.kept (t':=s1.toks) kp;refine wpAny_pyIter_zip za.zp ⟨z,[z,TI,TO,i,j],_,_,H1,rfl,I2,RI f4 f4.u3 f4.v4,za,λb hb=>I1.fpOk (fresh b hb) (I1.hok.fresh (fresh b hb)),q⟩
def nY (xs ys:yb):Src:=kZ ((xs.zip ys).map λq=>.tup [q.1,q.2])
def tG:yb->Hs->Rs Src
 | [.tup xs,.tup ys],h=>.ok (nY xs ys) h
 |_,_=>.bad
theorem zk.zip {μ:Nat->ah}{n:Nat}{H:Hp}{t u:ah}{vs ws:List V}{xs ys:yb}{K:ar}(e:H t=some (.tup vs)) (e':H u=some (.tup ws)) (r:RelDL G μ n H xs vs) (r':RelDL G μ n H ys ws):zk G μ n H (nY xs ys) (xZ K t u):=by
 intro k μ2 h2 H2 x2 s2;have f:=x2.im t (.tup vs) trivial e;have f':=x2.im u (.tup ws) trivial e';have g:=RelDL.mono x2 _ _ r;have g':=RelDL.mono x2 _ _ r';have hl:(nY xs ys).n=min xs.length ys.length:=by simp[nY,kZ]
 constructor
 ·intro hk d hd;have As:((xs.zip ys).map λq=>Dv.tup [q.1,q.2])[k]?=some d:=hd;rw[dz]at As
  cases q:(xs.zip ys)[k]? with
  |none=>rw[q]at As;cases As
  |some xy=>
   rw[q]at As;cases As;obtain⟨qx,qy⟩:=p6.mp q;obtain⟨v,ev,rv⟩:=g.get qx;obtain⟨w',ew,rw'⟩:=g'.get qy;refine⟨⟨vs,ws,v,w',yt.of f,yt.of f',ev,ew⟩,λx H' hy=>?_⟩;obtain⟨pp,v1,w1,rfl,np,rfl,a1,a2⟩:=hy;have b1:=a1 vs (yt.of f);have b2:=a2 ws (yt.of f');rw[ev]at b1;rw[ew]at b2
   cases b1;cases b2
   have sm:zi H2 (aJ H2 pp (.tup [v,w'])):=bM np;exact⟨sm,pp,_,rfl,bO,RelDL.cons (yf.mono (Ext.same sm) _ _ rv) (RelDL.cons (yf.mono (Ext.same sm) _ _ rw') RelDL.nil)⟩
 ·intro hk _;refine⟨vs,ws,yt.of f,yt.of f', ?_⟩;rw[g.length,g'.length,hk,hl];omega
theorem RQ (hg:Gl X "zip") (hm:X.mg "zip" = none) (ha:cX X G E [a,b] ms) (hs:ax [a,b] X.env=[(false,eval a X.env),(false,eval b X.env)]:=by rfl) (hs2:ax [b] X.env=[(false,eval b X.env)]:=by rfl):
  lX X G E (.Tuple elts kk tp) (.Call (.Name "zip" p) [a,b] [] pos) (aQ tG ms):=λhK=>
 PI.imp (RP hg hm (ha hK) hs hs2) λσ H R ⟨μ,ρ,h,rs,s,o⟩=>kD rs s o λμ1 ds h1 vs H1 x1 yr s1 r1 o1=>by
  unfold tG at o1
  split at o1
  ·rename_i xs ys;obtain⟨v,v',rfl,rv,rv'⟩:=DQ r1;obtain⟨t,us,rfl,e,r⟩:=rv;obtain⟨u,ws,rfl,e',r'⟩:=rv';exact⟨t,u,us,ws,rfl,yt.of e,yt.of e',o1.val s1 (zk.zip e e' r r')⟩
  ·exact o1.elim
end
section
variable{prog:bg}{w:cf}{A:bp}{E:ae->af->Prop}{s:af}{K:Frag}{e C N:ah}{o:Obj}
theorem RR {Q:Bool->af->Prop}(X:K.In s.heap) (he:s.heap.get? e=some o) (hc:o.cls=.ref C) (hn:subIn K (.ref N) (.type "BaseException")=some true) (ht:subIn K (.type "type") (.type "tuple")=some false) (hk:kitCls K (.ref N) (.ref N)=some true) {b:Bool}(hs:subIn K (.ref C) (.ref N)=some b) (q:Q b s):
  wpAny (model prog w) A (excMatches (.ref e) (.ref N)) Q E s:=by
 have L1:=(kit_cls (M:=model prog w) X hk).1;have L2:=(kit_cls (M:=model prog w) X hk).2.1;have L3:=looks_subIn (M:=model prog w) X hn;have L4:=looks_subIn (M:=model prog w) X hs;have L5:=looks_subIn (M:=model prog w) X ht;obtain⟨hp,g,d,tk,os⟩:=s;unfold excMatches
 repeat (any_goals (first|assumption|(with_reducible refine wpAny_loadPart_at he ?_;rw[hc])|with_reducible refine L1.at ?_|with_reducible refine L2.at ?_|with_reducible refine L3.at ?_|with_reducible refine L4.at ?_|with_reducible refine L5.at ?_|wp_step))
 cases b
 all_goals (repeat (any_goals (first|assumption|wp_step)))
end
def gY (P:bg) (w:cf) (K:ar) (mg:Str->Option ae) (base:ck) (N:xw) (qual:Str) (scope:gn) (f:ah) (cd:ae) (cl:List (Str×ah)) (A:bp) (outer:List Env) (s:af) (H:Hp) (E:XK):Cx where
 prog:=P
 w:=w
 K:=K
 mg:=mg
 base:=base
 A:=A.deeper (lb qual scope s.heap.objs.size f cd cl)
 N:=N
 s₀:=s
 H₀:=H
 env:=lb qual scope s.heap.objs.size f cd cl
 outer:=outer
 stack:=lb qual scope s.heap.objs.size f cd cl::outer
 ex:=[]
 calm:=true
 fn:=λ_=>false
 pn:=[]
 xe:=λe s'=>wpAny (model P w) (A.deeper (lb qual scope s.heap.objs.size f cd cl)) (leaving (lb qual scope s.heap.objs.size f cd cl) e) (λ_ s''=>bE P w base outer H s E e s'') (λe' s''=>bE P w base outer H s E e' s'') s'
structure yx (N:xw) (sc:gn):Prop where
 kind:sc.kind=.function
 co:sc.isCoroutine=false
 gen:sc.isGenerator=false
 nocell:∀x∈sc.names,x.2≠.cell
 fr:∀x∈N,sc.names.lookup x=some .free
 all:∀x∈sc.names,x.2=.free->x.1∈N
structure Ax (G:Cfg) (base:ck) (H:Hp) (μ:Nat->ah) (n:Nat) (N:xw) (params:ka) (body:bj) (scope:gn) (f c':ah) (cl:List (Str×ah)) (ds:yb):Prop where
 ob:∃pm ctv,H f=some (.frz (ji "<lambda>" G.lq params body scope cl pm c' ctv) (.own 0))
 cd:∃oc,H c'=some (.frz oc (.own 0))/\sH G.lq oc
 inj:∀x y c,cl.lookup x=some c->cl.lookup y=some c->x=y
 len:ds.length=N.length
 at_:∀(i:Nat) (x:Str),N[i]?=some x->∃c,cl.lookup x=some c
 cell:∀(x:Str) (c:ah),cl.lookup x=some c->∃o u,base.get? c=some o/\o.data=.cell u
 val:∀(i:Nat) (x:Str) (c:ah) (d:Dv),N[i]?=some x->ds[i]?=some d->cl.lookup x=some c->∃o u v,base.get? c=some o/\o.data=.cell (some u)/\RelV v u/\yf G μ n H d v
section
variable{P:bg}{w:cf}{K:ar}{mg:Str->Option ae}{base:ck}{N:xw}{qual:Str}{scope:gn}{f:ah}{cdv:ae}{cl:List (Str×ah)}{A:bp}{outer:List Env}{s0:af}{H0:Hp}{E0:XK}{G:Cfg}{E:XK}{k:Nat}
theorem RS (hr:yv k (A.deeper (lb qual scope s0.heap.objs.size f cdv cl))) (hK:K=G.K) (hE:∀u H',E u none H'->E0 u none H') (hF:xT E):
  Good (gY P w K mg base N qual scope f cdv cl A outer s0 H0 E0) G E k where
 calm:=rfl
 room:=hr
 K:=hK
 own:=vz
 pas:=by intro pins σ H s u s' I ⟨e,C,H',eu,os,bare,un,hok,fl,he⟩;subst eu;have I':=I.call' os un hok bare (λb z=>absurd z (by simp));refine aa (xS (P:=P) (w:=w) (H:=H') (base:=base) I'.ok.frames I'.stack rfl hok I'.stkFree fl λh'' H'' un2 z9 Bh sx=>?_);have I2:=I'.call (h':=h'') (g':=s'.gens) (d':=s'.drawn) (t':=s'.toks) un2 z9 I'.bare (λb z=>absurd z (by simp));obtain⟨T,a0,h1,_⟩:=id fl;obtain⟨T2,a2,h3,_⟩:=id Bh;have xe1:cJ C e T a0 s'.heap:=(show yi P w H' s'.heap e _ from hok e _ h1).1;have:E (.ref e) none H'':=hF e H' H'' sx ⟨C,T,a0,T2,a2,h1,⟨_,xe1⟩,h3⟩ he;exact⟨e,C,H'',rfl,I2.os,I2.bare,I2.base,z9,Bh,hE _ _ this⟩
 rais:=by intro pins σ H s h' e C args I mx he;refine aa (EF (P:=P) (w:=w) (H:=H) (base:=base) I.ok.frames I.stack rfl I.hok I.stkFree I.bk mx λh'' H'' un2 z9 Bh sm=>?_);have I2:=I.call (h':=h'') (g':=s.gens) (d':=s.drawn) (t':=s.toks) un2 z9 I.bare (λb z=>absurd z (by simp));obtain⟨T2,a2,h3,_⟩:=id Bh;exact⟨e,C,H'',rfl,I2.os,I2.bare,I2.base,z9,Bh,hE _ _ (he H'' sm ⟨T2,a2,h3⟩)⟩
end
def E2 {α:Type}:Rs α->Sr
 | .ex c h=>.ex c h
 |_=>.bad
section
variable{P:bg}{w:cf}{K:ar}{mg:Str->Option ae}{base:ck}{N:xw}{params:ka}{body:bj}{scope:gn}{f c':ah}{cl:List (Str×ah)}{A:bp}{outer:List Env}{s:af}{H:Hp}{E:XK}{G:Cfg}{k:Nat}{μ:Nat->ah}{h:Hs}{ds:yb}
theorem RT {h1:ck}{tk:Nat}{σ:St}{E₀:XK}(S:yx N scope) (hd:A.handled=none) (e0:Bj P w K mg base A outer s H) (L:Ax G base H μ h.length N params body scope f c' cl ds)
  (zb:∀x c,cl.lookup x=some c->x∈N)
  (hns:h1.Ns s.heap.objs.size λ_=>none) (hk1:∀b o,s.heap.get? b=some o->h1.get? b=some o)
  (hσ:σ.length=N.length) (hv:∀(i:Nat) (x:Str) (v:V),N[i]?=some x->σ[i]?=some (some v)->∃c o u,cl.lookup x=some c/\base.get? c=some o/\o.data=.cell (some u)/\RelV v u):
  Inv (gY P w K mg base N G.lq scope f (.ref c') cl A outer s H E₀) [] σ H { s with heap:=h1,toks:=tk }:=by
 have noA:∀b:ah,b∉(gY P w K mg base N G.lq scope f (.ref c') cl A outer s H E₀).ex:=λb z=>absurd (show b∈([]:List ah) from z) (by simp);have kfree:∀x,scope.names.lookup x=some .free->x∈N:=λx e=>S.all _ (ff e) rfl;refine⟨⟨e0.mod,S.kind,rfl,rfl,ak _,L.inj,λx hx=>?_,λx c z=>(nomatch z),λ_=>hd,vp e0.frames,.inr ⟨rfl,rfl⟩,λb z=>absurd z (noA b),e0.bs,e0.bsz,λb _ _=>noA b,λb z=>absurd z (noA b),e0.funs,e0.frf⟩,
  rfl,e0.bare,Un.kept hk1,⟨_,hns,λi x v h1' h2 h3=>?_⟩,λx c e=>?_,e0.hok.fresh (ak _),λx c e=>?_,λp hp=>absurd (show p∈([]:List (ah×Obj)) from hp) (by simp),e0.hok.kept hk1,hσ⟩
 ·have hx:scope.names.lookup x=some .cell∨scope.names.lookup x=some .free:=hx
  rcases hx with hx|hx
  ·exact absurd rfl (S.nocell _ (ff hx))
  ·obtain⟨i,hi⟩:=List.getElem?_of_mem (kfree x hx);exact L.at_ i x hi
 ·obtain⟨c,o,u,e1,e2,e3,r⟩:=hv i x v h1' h2;refine⟨u,r,.inr ⟨.inr (S.fr x (cm h1')),c,e1,o,hk1 _ _ (e0.bs _ _ e2).1,e3⟩⟩
 ·obtain⟨o,u,e2,e3⟩:=L.cell x c e;exact⟨u,o,hk1 _ _ (e0.bs _ _ e2).1,e3⟩
 ·obtain⟨o,u,e2,e3⟩:=L.cell x c e;exact(e0.bs _ _ e2).2
theorem RU {me:M Dv}{Q:VK}(S:yx N scope) (hK:K=G.K) (hb:∀(cl:List (Str×ah)) (pm cdv ct:ae),bindArgs (oh "<lambda>" G.lq params body scope cl pm cdv ct) ⟨[],[]⟩=pure [])
  (y8:∀(f:ah) (cdv:ae) (cl:List (Str×ah)) (A:bp) (outer:List Env) (s:af) (H:Hp) (E₀ E:XK),Good (gY P w K mg base N G.lq scope f cdv cl A outer s H E₀) G E k->aG (gY P w K mg base N G.lq scope f cdv cl A outer s H E₀) G E body me)
  (hr:yv (k+1) A) (e0:Bj P w K mg base A outer s H) (L:Ax G base H μ h.length N params body scope f c' cl ds) (zb:∀x c,cl.lookup x=some c->x∈N) (sm:yn G μ h H) (o:Out G E μ h.length H (me (ds.map some) h) (yf G) Q):
  codeAny (model P w) A (.call (.ref f) ⟨[],[]⟩) (CR (bE P w base) outer P w H s Q E) s:=by
 obtain⟨pm,ctv,ho⟩:=L.ob;obtain⟨oc,hc,vs,t,hcd,hq⟩:=L.cd;have lim:s.heap.NoLimit:=e0.mod.nolimit.keeps λb o e=>(e0.bs b o e).1;have gc:s.heap.get? c'=some oc:=(e0.hok c' _ hc).1;refine PySem.W.kla_callFunE hr.depth (e0.hok f _ ho).1 rfl S.co S.gen rfl ⟨c',oc,vs,t,rfl,gc,hcd,hq⟩ ?_;rw[hb];refine ai (wpAny_newFunctionEnv S.nocell (λx hx=>absurd hx (by simp)) (λh₁ hns hsb=>⟨lim.fresh _ hsb, ?_⟩) S.kind);show codeAny _ _ (.expr body (lb G.lq scope s.heap.objs.size f (.ref c') cl)) _ _;have hk₁:∀b o,s.heap.get? b=some o->h₁.get? b=some o:=λb o e=>hsb.extBut b o (aw (ao e)) (aj _ e);have hvs:∀(i:Nat),i<N.length->∃v:V,∀d,ds[i]?=some d->yf G μ h.length H d v/\∀x,N[i]?=some x->∃c o u,cl.lookup x=some c/\base.get? c=some o/\o.data=.cell (some u)/\RelV v u:=λi hi=>by
  obtain⟨x,hx⟩:∃x,N[i]?=some x:=⟨_,bh hi⟩
  obtain⟨d,hd⟩:∃d,ds[i]?=some d:=⟨_,bh (by rw[L.len];exact hi)⟩
  obtain⟨c,ec⟩:=L.at_ i x hx;obtain⟨oo,u,v,e1,e2,r1,r2⟩:=L.val i x c d hx hd ec;refine⟨v,λd' As=>?_⟩;rw[hd]at As;cases As;refine⟨r2,λx' hx'=>?_⟩;rw[hx]at hx';cases hx';exact⟨c,oo,u,ec,e1,e2,r1⟩
 have Au:∃vs:List V,vs.length=N.length/\∀(i:Nat) (v:V),vs[i]?=some v->∀d,ds[i]?=some d->yf G μ h.length H d v/\∀x,N[i]?=some x->∃c o u,cl.lookup x=some c/\base.get? c=some o/\o.data=.cell (some u)/\RelV v u:=by
  have:∀m,m<=N.length->∃vs:List V,vs.length=m/\∀(i:Nat) (v:V),vs[i]?=some v->∀d,ds[i]?=some d->yf G μ h.length H d v/\∀x,N[i]?=some x->∃c o u,cl.lookup x=some c/\base.get? c=some o/\o.data=.cell (some u)/\RelV v u:=by
   intro m
   induction m with
   |zero=>exact λ_=>⟨[],rfl,λi v e=>by simp at e⟩
   |succ m ih=>
    intro hm;obtain⟨vs,hl,hv⟩:=ih (by omega);obtain⟨v,hv'⟩:=hvs m (by omega);refine⟨vs++[v],by simp[hl],λi v' e d hd=>?_⟩
    by_cases hi:i<vs.length
    ·rw[dk hi]at e;exact hv i v' e d hd
    ·rw[fh (by omega)]at e;have:i=m:=by have:=(ay.mp e).1;simp at this;omega
     subst this;simp[hl]at e;subst e;exact hv' d hd
  exact this _ (ak _)
 obtain⟨yw,hl,hv⟩:=Au;have I:Inv (gY P w K mg base N G.lq scope f (.ref c') cl A outer s H E) [] (yw.map some) H { s with heap:=h₁,toks:=s.toks+([]:List (Str×ae)).length }:=by
  refine RT S hr.hd e0 L zb hns hk₁ (by simp[hl]) λi x v h1 h2=>?_;have h3:yw[i]?=some v:=by
   rw[dz]at h2
   cases q:yw[i]? with
   |none=>rw[q]at h2;cases h2
   |some a=>rw[q]at h2;cases h2;rfl
  obtain⟨d,hd⟩:∃d,ds[i]?=some d:=⟨_,bh (by rw[L.len];exact(ay.mp h1).1)⟩
  exact(hv i v h3 d hd).2 x h1
 have rs:yk G μ h.length H (ds.map some) (yw.map some):=⟨by simp[hl,L.len],λi d e=>by
  have h3:ds[i]?=some d:=by
   rw[dz]at e
   cases q:ds[i]? with
   |none=>rw[q]at e;cases e
   |some a=>rw[q]at e;cases e;rfl
  have hi:i<yw.length:=by rw[hl,<-L.len];exact(ay.mp h3).1
  exact⟨yw[i],by rw[dz,bh hi];rfl,(hv i _ (bh hi) d h3).1⟩⟩
 have gd:Good (gY P w K mg base N G.lq scope f (.ref c') cl A outer s H E) G (EB G μ h.length H (E2 (me (ds.map some) h))) k:=RS (hr.deeper _) hK (λu H' ⟨c,h',μ',er,x,s',fl⟩=>by
  cases q:me (ds.map some) h with
  |ok d hh=>rw[q]at er;cases er
  |bad=>rw[q]at er;cases er
  |ex c1 h1=>rw[q]at er o;cases er;exact o μ' H' u x s' fl) xV
 refine PySem.W.kla_codeExpr (je (y8 f (.ref c') cl A outer s H E _ gd hK [] _ (yw.map some) H Q I ⟨μ,ds.map some,h,rs,sm, ?_⟩) (λu s' ⟨v,H',J,rv,q⟩=>⟨v,H',J.os,J.bare,J.base,J.hok,rv,q⟩) λe s' hs=>hs)
 cases q:me (ds.map some) h with
 |ok d hh=>rw[q]at o;exact o
 |bad=>rw[q]at o;exact o
 |ex c1 h1=>exact λμ' H' u x' s' fl=>⟨c1,h1,μ',rfl,x',s',fl⟩
end
section
variable{X:Cx}{pins:List (ah×Obj)}{σ:St}{H:Hp}{s:af}
theorem RV {i:Nat}{x:Str}{h':ck}{tk:Nat}{m:Str->Option ae}{v:Option ae}(I:Inv X pins σ H s) (hN:X.N.Nodup) (hi:X.N[i]?=some x) (hn:s.heap.Ns X.env.locals m)
  (hl:∀(i:Nat) (x:Str) (v:V),X.N[i]?=some x->σ[i]?=some (some v)->mZ X.env.scope x->∃u,RelV v u/\BA X.env s.heap m x u)
  (hs:gg X.env.locals s.heap h') (hn':h'.Ns X.env.locals (λy=>if y=x then v else m y)):Inv X pins (σ.set i none) H { s with heap:=h',toks:=tk }:=by
 have cne:=I.cne;have hok:zd X.prog X.w H h':=λb ob e=>by
  refine(I.hok b ob e).stay (λc w' hc q=>(hs.2 c ?_).trans q) (λ_ q=>q) λ_ _ q=>q
  rintro rfl
  have hfree:=I.free
  rcases hc with hc|hc
  ·rw[<-hc]at e;rw[hfree]at e;cases e
  ·rw[hfree]at hc;cases hc
 refine⟨I.ok,I.os,I.bare,⟨λb o e n hb hx=>?_,λb o e n hb hx=>?_,I.base.free,λb o e hx=>?_,I.base.tups,I.base.frzs,I.base.tbls⟩,⟨_,hn',λj y v' e1 e2 e3=>?_⟩,λy c e=>?_,I.free,I.freeC,λp hp=>?_,hok,by simpa using I.len⟩
 ·exact(hs.2 b (aw (aq (ao e) I.ok.above))).trans (I.base.keep b o e n hb hx)
 ·obtain⟨sl,e1⟩:=I.base.slot b o e n hb hx;exact⟨sl,(hs.2 b (aw (aq (ao e) I.ok.above))).trans e1⟩
 ·obtain⟨o',e1⟩:=I.base.there b o e hx;exact⟨o',(hs.2 b (aw (aq (ao e) I.ok.above))).trans e1⟩
 ·by_cases hj:j=i
  ·subst hj;have hiσ:j<σ.length:=by rw[I.len];exact(ay.mp hi).1
   rw[cx hiσ]at e2;cases e2
  ·rw[dw (cu hj)]at e2;obtain⟨u',r',q⟩:=hl j y v' e1 e2 e3;refine⟨u',r', ?_⟩
   rcases q with⟨k,e⟩|⟨k,c,e,z⟩
   ·refine .inl ⟨k, ?_⟩;have:y≠x:=λe=>hj (vV hN e1 (e▸hi));show(if y=x then v else m y)=some u';rw[if_neg this];exact e
   ·exact .inr ⟨k,c,e,z.sameBut hs (cne y c e)⟩
 ·obtain⟨w',z⟩:=I.cell y c e;exact⟨w',z.sameBut hs (cne y c e)⟩
 ·obtain⟨e,n,ne,nf,d⟩:=I.pin p hp;exact⟨(hs.2 p.1 ne).trans e,n,ne,nf,d⟩
def nZ (X:Cx) (e:ae):Cx:={ X with A:=X.A.mark (some e),calm:=false,xe:=λ_ _=>False }
theorem E3 (e:ae) (I:Inv X pins σ H s):Inv (nZ X e) pins σ H s:=
 have ok:=I.ok
 ⟨⟨ok.mod,ok.kind,ok.glob,ok.blt,ok.above,ok.inj,ok.has,ok.cab,λz=>(nomatch z),ok.frames,ok.stk,ok.exf,ok.bs,ok.bsz,ok.noex,ok.exfs,ok.funs,ok.frf⟩,I.os,I.bare,I.base,I.loc,I.cell,I.free,I.freeC,I.pin,I.hok,I.len⟩
theorem RW {e:ae}(ok:X.Ok) (I:Inv (nZ X e) pins σ H s):Inv X pins σ H s:=⟨ok,I.os,I.bare,I.base,I.loc,I.cell,I.free,I.freeC,I.pin,I.hok,I.len⟩
end
section
variable{X:Cx}{G:Cfg}{E:XK}{k:Nat}{N:xw}{params:ka}{body:bj}{scope:gn}{me:M Dv}{ncl:Nat}{NE:ah}
theorem RX {x xn en nm:Str}{p cpos epos np xp ep apos hpos tpos:Pos}{pins:List (ah×Obj)}{σ:St}{H:Hp}{s:af}{D:Ends}{f c':ah}{cl:List (Str×ah)}{μ:Nat->ah}{h:Hs}{ds:yb}
  (hK:X.K=G.K) (Am:X.stack=X.env::X.outer) (hfr:X.env.frame=some X.env.locals) (hnd:X.N.Nodup) (h0:X.N[0]?=some x) (h1:X.N[1]?=some xn) (h2:X.N[2]?=some en) (hfn:∀y,X.fn y=true)
  (l0:X.env.scope.names.lookup x=some .local) (l1:X.env.scope.names.lookup xn=some .local) (l2:X.env.scope.names.lookup en=some .local)
  (d0:(x==("__debug__" : Str))=false) (c0:(x==("__classdict__" : Str))=false) (d2:(en==("__debug__" : Str))=false) (c2:(en==("__classdict__" : Str))=false) (dn:(nm==("__debug__" : Str))=false)
  (hsw:swapsWith (.Call (.Name x p) [] [] cpos) none epos.line X.env=pure false) (hsw2:swapsWith (.Name en ep) (some (.Name xn xp)) apos.line X.env=pure false)
  (hg:Gl X nm) (hm:X.mg nm=some (.ref NE)) (hx1:jf X.K (.ref NE) (.type "BaseException")=some true) (hx2:jf X.K (.type "type") (.type "tuple")=some false) (hx3:uc X.K (.ref NE) (.ref NE)=some true)
  (hsub:∀c,c<ncl->jf X.K (.ref (G.cl c)) (.ref NE)=some true)
  (S:yx N scope) (hb:∀(cl:List (Str×ah)) (pm cdv ct:ae),bindArgs (oh "<lambda>" G.lq params body scope cl pm cdv ct) ⟨[],[]⟩=pure [])
  (y8:∀(f:ah) (cdv:ae) (cl:List (Str×ah)) (A:bp) (outer:List Env) (s:af) (H:Hp) (E₀ E:XK),Good (gY X.prog X.w X.K X.mg X.base N G.lq scope f cdv cl A outer s H E₀) G E k->aG (gY X.prog X.w X.K X.mg X.base N G.lq scope f cdv cl A outer s H E₀) G E body me)
  (hr:yv (k+1) X.A) (I:Inv X pins σ H s) (hσ:σ[0]?=some (some (.ref f))) (L:Ax G X.base H μ h.length N params body scope f c' cl ds) (zb:∀x c,cl.lookup x=some c->x∈N) (sm:yn G μ h H)
  (hD:match me (ds.map some) h with
   | .ok _ h1=>∀μ' H',Ext μ h.length H μ' h1.length H'->yn G μ' h1 H'->D.nx σ H'
   | .ex c h1=>c<ncl/\∀μ' H' a,Ext μ h.length H μ' h1.length H'->yn G μ' h1 H'->yf G μ' h1.length H' (.exc c) (.ref a)->D.nx (((σ.set 2 (some (.ref a))).set 1 (some (.ref a))).set 2 none) H'
   | .bad=>False):
  wpAny (model X.prog X.w) X.A (exec (.Try [.Expr (.Call (.Name x p) [] [] cpos) epos] [.ExceptHandler (some (.Name nm np)) (some en) [.Assign [.Name xn xp] (.Name en ep) apos] hpos] [] [] tpos) X.env) (SP X pins D) X.xe s:=by
 have hcls:(X.env.scope.kind==.class||(X.env.scope.kind==.module&&X.env.locals != X.env.globals))=false:=by rw[I.ok.kind];rfl
 refine wpAny_Try_except ?_;obtain⟨pm,ctv,ho⟩:=L.ob;refine og (wpAny_Expr_any (mn (aM (je (oV (X:=X.nox) (pos:=p) h0 (.inl l0) d0 c0 pins s σ H (λv H'=>v=.ref f/\H'=H) (I.wish _) ⟨_,hσ,rfl,rfl⟩) (λ_ _ q=>q) λ_ _ z=>gk z) λu s1 ⟨v,H',I',r,e1,e2⟩=>?_)) I.quiet hsw);subst e1;subst e2;cases r;have I1:Inv X pins σ H' s1:=I'.unwish;refine PySem.W.callWith_F0 ⟨_,_,_,_,(I1.hok f _ ho).1⟩ ?_;refine wb (nc (RU (E:=EB G μ h.length H' (E2 (me (ds.map some) h))) (Q:=λ_ H2=>∃d hh μ',me (ds.map some) h=.ok d hh/\Ext μ h.length H' μ' hh.length H2/\yn G μ' hh H2) S hK hb y8 hr I1.env0 L zb sm ?_) λr s' hq=>?_)
 ·cases q:me (ds.map some) h with
  |ok d hh=>exact λμ' H' v x' s' _=>⟨d,hh,μ',rfl,x',s'⟩
  |bad=>rw[q]at hD;exact hD.elim
  |ex c1 h1=>exact λμ' H' u x' s' fl=>⟨c1,h1,μ',rfl,x',s',fl⟩
 cases r with
 |ok fl=>
  cases fl with
  |ret u=>obtain⟨v,H2,I2,r2,d,hh,μ',e1,x1,s1⟩:=I1.after hq;refine ll (ll ?_);rw[e1]at hD;exact⟨σ,H2,I2,hD μ' H2 x1 s1⟩
  |next=>exact gk hq
  |brk=>exact gk hq
  |cont=>exact gk hq
 |error ev=>
  obtain⟨e,C,H2,rfl,os,bare,un,hok,fl,c,hh,μ',er,x1,sm1,e',φ,eu,g1,g2⟩:=hq;cases eu
  cases qm:me (ds.map some) h with
  |ok d h3=>rw[qm]at er;cases er
  |bad=>rw[qm]at er;cases er
  |ex c3 h3=>
  rw[qm]at er hD;cases er;obtain⟨hc,hD⟩:=hD;have I2:Inv X pins σ H2 s':=I1.call' os un hok bare (λb z=>absurd z (by simp));refine xS (P:=X.prog) (w:=X.w) (H:=H2) (base:=X.base) (env:=X.env) (outer:=X.outer) (by rw[<-Am];exact I2.ok.frames) (by rw[<-Am];exact I2.stack) hfr hok (by rw[<-Am];exact I2.stkFree) fl λh4 H4 un4 hok4 fl4 sx4=>?_;have I4:Inv X pins σ H4 { s' with heap:=h4 }:=I2.call (h':=h4) (g':=s'.gens) (d':=s'.drawn) (t':=s'.toks) (by rw[Am];exact un4) hok4 I2.bare (λb z=>absurd z (by simp));obtain⟨sm4,x4⟩:=sm1.sameX sx4 ⟨_,g1⟩;obtain⟨T,a0,w1,w2,w3,w4⟩:=id fl4;obtain⟨T0,b0,v1,_,_,_⟩:=id fl;have hC:C=.ref (G.cl c):=by have xo:cJ C e T0 b0 s'.heap:=(show yi X.prog X.w H2 s'.heap e _ from hok e _ v1).1;rw[v1]at g1;cases g1;obtain⟨oo,q1,q2⟩:=g2 _ xo;obtain⟨o2,vs2,q3,q4,_⟩:=xo;rw[q3]at q1;cases q1;rw[<-q4,q2]
  subst hC;have xo4:cJ (.ref (G.cl c)) e T a0 h4:=(show yi X.prog X.w H4 h4 e _ from hok4 e _ w1).1;obtain⟨oe,vs,y1,y2,y3,y4,y5,y6⟩:=id xo4;refine wpAny_handleBy_cons (codeAny_handlers_test (je (oW (X:=nZ X (.ref e)) (E:=λ_ _=>False) (Q:=λu s5=>u=.ref NE/\Inv X pins σ H4 s5/\s5.heap=h4) (E3 _ I4) hg hm ⟨rfl,I4,rfl⟩ dn) (λcv s5 hs5=>?_) λ_ _ z=>gk z)) (by intro z;cases z);obtain⟨rfl,I5,e5⟩:=hs5;refine RR (K:=X.K) I5.kIn (by rw[e5];exact y1) y2 hx1 hx2 hx3 (hsub c hc) ?_;obtain⟨oT,ts,z1,z2,z3⟩:cP T h4:=(show yi X.prog X.w H4 h4 T _ from hok4 T _ w2).1;have l3:3<ts.size:=(df.mp z3).1;refine codeAny_handlers_suite_as (EA (e:=e) (T:=T) (by rw[e5];exact y1) y3 y5 (by rw[e5];exact z1) z2 l3 λh6 sb6 tb6=>?_);rw[e5]at sb6;have ge6:h6.get? e=some oe:=sb6.extBut _ _ (cu w4) y1;have I6:Inv X pins σ (aJ H4 T (.ext (cP T))) { s5 with heap:=h6 }:=I5.write (x:=T) (e:=T) (o:=.ext (cP T)) (h':=h6) (t':=s5.toks) (by rw[w2];trivial) (.inl rfl) (λb u hb q=>by rw[e5]at q;exact sb6.extBut _ _ hb q) (let ⟨oo,_,q,_⟩:=tb6;⟨oo,q⟩) (sW tb6);have se:zi H4 (aJ H4 T (.ext (cP T))):=λb o q=>by
   by_cases hb:b=T
   ·subst hb;rw[w2]at q;cases q;exact bO
   ·rw[aT hb];exact q
  have w1':(aJ H4 T (.ext (cP T))) e=some (.ext (cJ (.ref (G.cl c)) e T a0)):=se _ _ w1;have I7:Inv X pins σ (aJ (aJ H4 T (.ext (cP T))) e (.frz oe (.own 0))) { s5 with heap:=h6 }:=I6.write (x:=e) (e:=e) (o:=.frz oe (.own 0)) (h':=h6) (t':=s5.toks) (by rw[w1'];trivial) (.inl rfl) (λb u hb q=>q) ⟨_,ge6⟩ ⟨ge6,oe,ge6⟩;have sx7:pX e (aJ H4 T (.ext (cP T))) (aJ (aJ H4 T (.ext (cP T))) e (.frz oe (.own 0))):=λb o hb q=>by rw[aT hb];exact q
  obtain⟨sm7,x7⟩:=(sm4.same se).sameX sx7 ⟨_,w1'⟩;have xx:Ext μ h.length H' μ' hh.length (aJ (aJ H4 T (.ext (cP T))) e (.frz oe (.own 0))):=x1.trans ((x4 _).trans ((Ext.same se).trans (x7 _)));generalize hH7:aJ (aJ H4 T (.ext (cP T))) e (.frz oe (.own 0))=H7 at *;have rl:yf G μ' hh.length H7 (.exc c) (.ref e):=by rw[yf,<-hH7];exact⟨e,oe,.own 0,rfl,bO,y2,y6,vs,y3⟩
  refine vW (v:=.ref e) I7 hnd h2 (.inl l2) rfl (λs8 I8=>?_) (.inr l2);have I8':Inv (nZ X (.ref e)) pins (σ.set 2 (some (.ref e))) H7 s8:=E3 _ I8;have hlen:2<σ.length:=by rw[I.len];exact(ay.mp h2).1
  refine je (BI (wC (X:=nZ X (.ref e)) (i:=1) (pos:=apos) (pos':=xp) hnd h1 (.inl l1) (oV (X:=nZ X (.ref e)) (pos:=ep) h2 (.inl l2) d2 c2) hsw2 (.inr l1)) pins s8 (σ.set 2 (some (.ref e))) H7 { nx:=λσ' H'=>σ'=(σ.set 2 (some (.ref e))).set 1 (some (.ref e))/\H'=H7,rt:=λ_ _=>False } I8' ⟨.ref e,cx hlen,rfl,rfl⟩) (λfl9 s9 hs9=>?_) λ_ _ z=>gk z
  cases fl9 with
  |ret u=>obtain⟨_,_,_,_,_,z⟩:=hs9;exact z.elim
  |brk=>obtain⟨_,_,_,z⟩:=hs9;exact z.elim
  |cont=>obtain⟨_,_,_,z⟩:=hs9;exact z.elim
  |next=>obtain⟨σ9,H9,I9,e9,f9⟩:=hs9;subst e9;subst f9;have I9':Inv X pins _ H9 s9:=RW I8.ok I9;obtain⟨m,hn,hl⟩:=id I9'.loc;refine wpAny_nameGoes_keeps l2 hn hcls λh10 v10 hn10 hs10=>?_;exact⟨_,H9,RV I9' hnd h2 hn hl hs10 hn10,hD μ' H9 e xx sm7 rl⟩
end
def qC:Sr->Rs Dv
 | .rt d h=>.ok d h
 | .nx _ h=>.ok .non h
 |_=>.bad
def lC (n:Nat) (d:Dv):Ev:=none::some d::gw (n - 2) none
def qD (n ncl:Nat) (mb:MS):Rs Dv->Rs Dv
 | .ok _ h1=>qC (mb (lC n .non) h1)
 | .ex c h1=>if c<ncl then qC (mb (lC n (.exc c)) h1)else .bad
 | .bad=>.bad
def tH (G:Cfg) (base:ck) (Nl:xw) (params:ka) (body:bj) (scope:gn) (me:M Dv) (n ncl:Nat) (mb:MS):Sp:=λvs H Q E=>∃f c' cl ds μ h,vs=[.ref f]/\Ax G base H μ h.length Nl params body scope f c' cl ds/\(∀x c,cl.lookup x=some c->x∈Nl)/\yn G μ h H/\Out G E μ h.length H (qD n ncl mb (me (ds.map some) h)) (yf G) Q
theorem E4 {G:Cfg}{E:XK}{μ μ1:Nat->ah}{n n1:Nat}{H H1:Hp}{r:Sr}{Q:VK}(o:Out G E μ n H (qC r) (yf G) Q) (x:Ext μ n H μ1 n1 H1):yz G (λ_ _ _=>False) μ1 n1 H1 r { nx:=λ_ H'=>Q .non H',rt:=Q }:=by
 cases r with
 |nx ρ h'=>exact λμ' H' σ' y s _=>o μ' H' .non (x.trans y) s rfl
 |rt d h'=>exact λμ' H' v y s r=>o μ' H' v (x.trans y) s r
 |bk ρ h'=>exact o.elim
 |ct ρ h'=>exact o.elim
 |ex c h'=>exact o.elim
 |bad=>exact o
theorem E5 {G:Cfg}{μ:Nat->ah}{n:Nat}{H:Hp}{m:Nat}{d:Dv}{v:V}{σ:St}(hl:σ.length=m) (hm:2<=m) (h1:σ[1]?=some (some v)) (r:yf G μ n H d v):yk G μ n H (lC m d) σ:=by
 refine⟨by simp[lC,hl];omega,λi d' e=>?_⟩;unfold lC at e
 match i,e with
 |0,e=>simp at e
 |1,e=>simp at e;subst e;exact⟨v,h1,r⟩
 |i+2,e=>
  simp only[pv,pj]at e
  split at e <;> cases e
section
variable{P:bg}{w:cf}{K:ar}{mg:Str->Option ae}{base:ck}{f:ah}{G:Cfg}{k:Nat}{Nm Nl:xw}{params:ka}{body:bj}{scope:gn}{me:M Dv}{ncl:Nat}{NE:ah}{mb:MS}
theorem RY {x xn en nm q qual:Str}{st:ja}{fd:cg}{p cpos epos np xp ep apos hpos tpos zpos zp npos:Pos}{j:Nat}{rest:List ja}(Fn:zu K q qual st f fd) (S:yh Nm [x] (aU st)) (hK:K=G.K)
  (Bg:hY st=.Assign [.Name xn zp] (.Constant .none j npos) zpos::.Try [.Expr (.Call (.Name x p) [] [] cpos) epos] [.ExceptHandler (some (.Name nm np)) (some en) [.Assign [.Name xn xp] (.Name en ep) apos] hpos] [] [] tpos::rest)
  (h0:Nm[0]?=some x) (h1:Nm[1]?=some xn) (h2:Nm[2]?=some en)
  (l0:(aU st).names.lookup x=some .local) (l1:(aU st).names.lookup xn=some .local) (l2:(aU st).names.lookup en=some .local)
  (d0:(x==("__debug__" : Str))=false) (c0:(x==("__classdict__" : Str))=false) (d2:(en==("__debug__" : Str))=false) (c2:(en==("__classdict__" : Str))=false) (dn:(nm==("__debug__" : Str))=false)
  (hsw:∀L cd,swapsWith (.Call (.Name x p) [] [] cpos) none epos.line (envOfC qual (aU st) L f cd)=pure false) (hsw2:∀L cd,swapsWith (.Name en ep) (some (.Name xn xp)) apos.line (envOfC qual (aU st) L f cd)=pure false)
  (hsw3:∀L cd,swapsWith (.Constant .none j npos) (some (.Name xn zp)) zpos.line (envOfC qual (aU st) L f cd)=pure false)
  (hg:(aU st).names.lookup nm=some .globalImplicit) (hm:mg nm=some (.ref NE)) (hx1:jf K (.ref NE) (.type "BaseException")=some true) (hx2:jf K (.type "type") (.type "tuple")=some false) (hx3:uc K (.ref NE) (.ref NE)=some true)
  (hsub:∀c,c<ncl->jf K (.ref (G.cl c)) (.ref NE)=some true)
  (LS:yx Nl scope) (hb:∀(cl:List (Str×ah)) (pm cdv ct:ae),bindArgs (oh "<lambda>" G.lq params body scope cl pm cdv ct) ⟨[],[]⟩=pure [])
  (y8:∀(f:ah) (cdv:ae) (cl:List (Str×ah)) (A:bp) (outer:List Env) (s:af) (H:Hp) (E₀ E:XK),Good (gY P w K mg base Nl G.lq scope f cdv cl A outer s H E₀) G E k->aG (gY P w K mg base Nl G.lq scope f cdv cl A outer s H E₀) G E body me)
  (hrest:∀(cdv:ae) (A:bp) (outer:List Env) (s:af) (H:Hp) (E₀ E:XK),Good (eU (bE P w base) P w K mg base Nm qual (aU st) f cdv A outer s H E₀) G E (k+1)->iD (eU (bE P w base) P w K mg base Nm qual (aU st) f cdv A outer s H E₀) G E rest mb):
  yu P w K mg base (bE P w base) (k+2) f fd [x] (tH G base Nl params body scope me Nm.length ncl mb):=by
 obtain⟨oc,od,kV,doc,pm,an,cdv,ct,osl,rfl,lk,hcd⟩:=Fn.ex;have hNl:2<Nm.length:=(ay.mp h2).1;refine wL lk hcd S (λvs H Q E ⟨f,c',cl,ds,μ,h,e,_⟩=>by rw[e];rfl) λA outer s H vs Q E hr hsp=>?_;obtain⟨fl,c',cl,ds,μ,h,rfl,L,zb,sm,o⟩:=hsp;refine⟨λD σ H1=>σ=start Nm [.ref fl]/\H1=H/\D={ nx:=λ_ H'=>Q .non H',rt:=Q }, ?_,rfl,rfl,rfl⟩;intro pins s1 σ H1 D I ⟨eσ,eH,eD⟩;subst eH;have hσl:σ.length=Nm.length:=I.len;have hσ0:σ[0]?=some (some (.ref fl)):=by rw[eσ];rfl
 rw[Bg];have gd:Good (eU (bE P w base) P w K mg base Nm qual (aU st) f cdv A outer s H1 E) G (λ_ _ _=>False) (k+1):=xU hr hK (λ_ _ z=>z.elim) (λ_ _ _ _ _ z=>z);have hset:(σ.set 1 (some .non))[0]?=some (some (.ref fl)):=by rw[dw (by decide)];exact hσ0
 refine og (aM (wC (X:=eU (bE P w base) P w K mg base Nm qual (aU st) f cdv A outer s H1 E) (i:=1) (pos:=zpos) (pos':=zp) S.nd h1 (.inl l1) (BD (j:=j) (pos:=npos)) (hsw3 _ _) (.inl rfl) pins s1 σ H1 { nx:=λσ' H'=>σ'=σ.set 1 (some .non)/\H'=H1,rt:=λ_ _=>False } I ⟨rfl,rfl⟩) λBh s2 q2=>?_)
 cases Bh with
 |ret u=>obtain⟨_,_,_,_,_,z⟩:=q2;exact z.elim
 |brk=>obtain⟨_,_,_,z⟩:=q2;exact z.elim
 |cont=>obtain⟨_,_,_,z⟩:=q2;exact z.elim
 |next=>
  obtain⟨σ2,H2,I2,e2,f2⟩:=q2;subst e2;subst f2;refine og (aM (RX (X:=eU (bE P w base) P w K mg base Nm qual (aU st) f cdv A outer s H2 E) (G:=G) (N:=Nl) (me:=me) (ncl:=ncl) (NE:=NE) (k:=k) (D:={ nx:=sS G (λ_ _ _=>False) mb D,rt:=λ_ _=>False })
   hK rfl rfl S.nd h0 h1 h2 (λ_=>rfl) l0 l1 l2 d0 c0 d2 c2 dn (hsw _ _) (hsw2 _ _) hg hm hx1 hx2 hx3 hsub LS hb y8 hr I2 hset L zb sm ?_) λfl3 s3 q3=>?_)
  ·cases qm:me (ds.map some) h with
   |bad=>rw[qm]at o;exact o
   |ok d hh=>rw[qm]at o;intro μ' H' x' s';refine⟨μ',lC Nm.length .non,hh,E5 (v:=.non) (by rw[gy];exact hσl) (by omega) (cx (by omega)) rfl,s', ?_⟩;rw[eD];exact E4 o x'
   |ex c hh=>
    rw[qm]at o;unfold qD at o;dsimp only at o
    split at o
    ·rename_i hc;refine⟨hc,λμ' H' a x' s' r'=>?_⟩;refine⟨μ',lC Nm.length (.exc c),hh,E5 (v:=.ref a) (by simp only[gy];exact hσl) (by omega) ?_ r',s', ?_⟩
     ·rw[dw (by decide),cx (by simp only[gy];omega)]
     ·rw[eD];exact E4 o x'
    ·exact o.elim
  ·cases fl3 with
   |ret u=>obtain⟨_,_,_,_,_,z⟩:=q3;exact z.elim
   |brk=>obtain⟨_,_,_,z⟩:=q3;exact z.elim
   |cont=>obtain⟨_,_,_,z⟩:=q3;exact z.elim
   |next=>obtain⟨σ3,H3,I3,q3⟩:=q3;exact hrest cdv A outer s H2 E _ gd hK pins s3 σ3 H3 D I3 q3
end
theorem RZ:∀(l:List ae) (a b:Int) (t u:Tok) (c:ae),si l->si (l++[.int a t,.int b u,c]):=by
 intro l a b t u c h
 fun_induction si l with
 |case1=>trivial
 |case2 x t y u z rest ih=>exact ih h
 |case3 l h1 h2=>exact h.elim
theorem R0 {pos:Pos}{cv c:ae}{a b:Int}{t u:Tok}:∀(l:List ae),si l->codeAmong pos (l++[.int a t,.int b u,c])=some cv->codeAmong pos l=some cv∨cv=c:=by
 intro l h
 fun_induction si l with
 |case1=>
  intro e;simp only[List.nil_append,codeAmong]at e
  split at e
  ·cases e;exact .inr rfl
  ·cases e
 |case2 x t y u z rest ih=>
  intro e;simp only[List.cons_append,codeAmong]at e ⊢
  split at e
  ·rename_i hc;rw[if_pos hc];exact .inl e
  ·rename_i hc;rw[if_neg hc];exact ih h e
 |case3 l h1 h2=>exact h.elim
def jO (mg:Str->Option ae) (base:ck):Prop:=∃bm ob,mg "__builtins__" = some (.ref bm)/\bm≠builtinsNs/\base.get? bm=some ob/\ob.cls=.type "module"/\ob.dict=some builtinsNs/\ob.data=.plain
def E6 (H H':Hp):Prop:=∀a o,(∀ps,o≠.tbl ps)->H a=some o->H' a=some o
section
variable{X:Cx}{G:Cfg}{params:ka}{body:bj}{scope:gn}{lpos:Pos}{c P:ah}
theorem R3 (Bg:defaultsOf params X.env=([],[])) (hq:X.env.qual ++ "<lambda>" = G.lq) (hP:G.tab=some P) (Ak:X.env.code=.ref c) (hC:jv X.base c P) (hB:jO X.mg X.base)
  (hfree:∀x,(x,bu)∈scope.names->X.env.kindOf x=some .cell∨X.env.kindOf x=some .free):
  PE X (.Lambda params body scope lpos) (λσ H Q=>Ab G H/\∀f c' pm ctv oc H1,H f=none->E6 H H1->Ab G H1->H1 f=some (.frz (ji "<lambda>" G.lq params body scope (bY X.env scope.names []) pm c' ctv) (.own 0))->H1 c'=some (.frz oc (.own 0))->sH G.lq oc->Q (.ref f) H1):=by
 intro pins s σ H Q I ⟨hT,h⟩;obtain⟨ps,t1,t2,t3⟩:=hT P hP;have gP:s.heap.get? P=some (qi ps):=I.hok P _ t1;have Bb:closureFor scope X.env=pure (bY X.env scope.names []):=wW λx hx=>I.ok.has x (hfree x hx);have hgs:s.heap.Ns cp X.mg:=I.mod.glob.keeps I.bk;obtain⟨bm,ob,b1,b2,b3,b4,b5,b6⟩:=hB;have b3':=I.bk _ _ b3;have hgP:cp≠P:=λq=>by obtain⟨o,es,ep,e,hd,_⟩:=hgs;rw[q,gP]at e;cases e;cases hd
 have hbP:bm≠P:=λq=>by rw[q,gP]at b3';cases b3';cases b4
 have hbG:bm≠cp:=λq=>by obtain⟨o,es,ep,e,hd,_⟩:=hgs;rw[<-q,b3']at e;cases e;rw[hd]at b6;cases b6
 have hba:s.heap.BuiltinsAt X.mg P:=⟨bm,ob,b1,b2,hbG,hbP,b3',b4,b5,b6⟩
 refine PySem.W.kla_eval Bg ?_;rw[hq]
 cases hc:codeAmong lpos ps.toList with
 |some cv=>obtain⟨c',oc,ec,h2,h3⟩:=t3 lpos cv hc;subst ec;refine PySem.W.kla_makeFunctionHit (mg:=X.mg) Bb I.ok.glob hgs Ak (hC.keeps I.bk) gP t2 hc hba λctv h' tk hk hsz=>?_;have hn:H h'.objs.size=none:=I.hok.fresh hsz;have kk:∀b u,s.heap.get? b=some u->(h'.push { cls:=.type "function",data:=.func (oh "<lambda>" G.lq params body scope (bY X.env scope.names []) ((X.mg "__name__").getD .none) (.ref c') ctv) }).get? b=some u:=λb u q=>aj _ (hk b u q);have gf:=av h' (o:=ji "<lambda>" G.lq params body scope (bY X.env scope.names []) ((X.mg "__name__").getD .none) c' ctv) rfl;have I1:=I.laid (a:=h'.objs.size) (o:=.frz (ji "<lambda>" G.lq params body scope (bY X.env scope.names []) ((X.mg "__name__").getD .none) c' ctv) (.own 0)) (t':=tk) kk hsz ⟨gf,_,gf⟩;have sm:zi H (aJ H h'.objs.size (.frz (ji "<lambda>" G.lq params body scope (bY X.env scope.names []) ((X.mg "__name__").getD .none) c' ctv) (.own 0))):=bM hn;exact⟨.ref h'.objs.size,_,I1,rfl,h _ c' _ ctv oc _ hn (λa o _ q=>sm a o q) (hT.keep λa o _ _ q=>sm a o q) bO (sm _ _ h2) h3⟩
 |none=>
  refine PySem.W.kla_makeFunction (mg:=X.mg) Bb I.ok.glob hgs Ak (hC.keeps I.bk) gP t2 hc hgP hba λc' ctv h' tk hx hge hlt hrec htb=>?_;obtain⟨c₂,oc,vs,t,e2,hoc,hd,hv⟩:=hrec;cases e2;generalize hfo:ji "<lambda>" G.lq params body scope (bY X.env scope.names []) ((X.mg "__name__").getD .none) c' ctv=fo;have nfo:fo.isFreed=false:=by rw[<-hfo];rfl
  have gf:(h'.push fo).get? h'.objs.size=some fo:=av h' nfo;have goc:(h'.push fo).get? c'=some oc:=aj _ hoc;have gP':=aj fo htb;generalize hps:ps++#[rawInt lpos.line,rawInt lpos.col,.ref c']=ps' at gP';have lP:P<s.heap.objs.size:=ao gP;have kk:∀b u,b≠P->s.heap.get? b=some u->(h'.push fo).get? b=some u:=λb u hb q=>aj _ (hx b u hb q);have lt0:∀b u,s.heap.get? b=some u->b<s.heap.objs.size:=λb u q=>ao q;have nPc:P≠c':=aw (aq lP hge);have nPf:P≠h'.objs.size:=aw (aq lP (da hge (fv hlt)));have ncf:c'≠h'.objs.size:=aw hlt;have lH:∀b o,H b=some o->b<s.heap.objs.size:=λb o q=>I.hok.lt q;have H1e:∀b,b≠P->b<s.heap.objs.size->aJ (aJ (aJ H P (.tbl ps')) c' (.frz oc (.own 0))) h'.objs.size (.frz fo (.own 0)) b=H b:=λb h1 h2=>by rw[aT (aw (aq h2 (da hge (fv hlt)))),aT (aw (aq h2 hge)),aT h1]
  have eP:aJ (aJ (aJ H P (.tbl ps')) c' (.frz oc (.own 0))) h'.objs.size (.frz fo (.own 0)) P=some (.tbl ps'):=by rw[aT nPf,aT nPc,bO]
  have ec:aJ (aJ (aJ H P (.tbl ps')) c' (.frz oc (.own 0))) h'.objs.size (.frz fo (.own 0)) c'=some (.frz oc (.own 0)):=by rw[aT ncf,bO]
  have ef:aJ (aJ (aJ H P (.tbl ps')) c' (.frz oc (.own 0))) h'.objs.size (.frz fo (.own 0)) h'.objs.size=some (.frz fo (.own 0)):=bO;have cases1:∀b o,aJ (aJ (aJ H P (.tbl ps')) c' (.frz oc (.own 0))) h'.objs.size (.frz fo (.own 0)) b=some o->(b=h'.objs.size/\o=.frz fo (.own 0))∨(b=c'/\o=.frz oc (.own 0))∨(b=P/\o=.tbl ps')∨(b≠P/\H b=some o):=λb o q=>by
   by_cases q1:b=h'.objs.size
   ·subst q1;rw[bO]at q;cases q;exact .inl ⟨rfl,rfl⟩
   rw[aT q1]at q
   by_cases q2:b=c'
   ·subst q2;rw[bO]at q;cases q;exact .inr (.inl ⟨rfl,rfl⟩)
   rw[aT q2]at q
   by_cases q3:b=P
   ·subst q3;rw[bO]at q;cases q;exact .inr (.inr (.inl ⟨rfl,rfl⟩))
   rw[aT q3]at q;exact .inr (.inr (.inr ⟨q3,q⟩))
  generalize aJ (aJ (aJ H P (.tbl ps')) c' (.frz oc (.own 0))) h'.objs.size (.frz fo (.own 0))=H1 at *;have keepO:∀b o,(∀ps,o≠.tbl ps)->H b=some o->H1 b=some o:=λb o hn q=>by rw[H1e b (λz=>by subst z;rw[t1]at q;cases q;exact hn _ rfl) (lH b o q)];exact q
  have un:Un X.fs [] H H1 s.heap (h'.push fo):=by
   have nP:∀b,H b=none->b≠P:=λb n z=>by subst z;rw[t1]at n;cases n
   refine⟨λb o q n _ _=>kk b o (nP b n) q,λb o q n _ _=>⟨o.slots,kk b o (nP b n) q⟩,λb o q n _=>by rw[H1e b (nP b n) (lt0 b o q)];exact n,λb o q _=>?_,λb xs q=>keepO b _ (λ_ z=>by cases z) q,λb o u q=>keepO b _ (λ_ z=>by cases z) q,λb qs q=>?_⟩
   ·by_cases hb:b=P
    ·subst hb;exact⟨_,gP'⟩
    ·exact⟨_,kk b o hb q⟩
   ·by_cases hb:b=P
    ·subst hb;rw[t1]at q;cases q;exact⟨#[rawInt lpos.line,rawInt lpos.col,.ref c'],by rw[eP,hps]⟩
    ·exact⟨#[],by rw[H1e b hb (lH b _ q),q];simp⟩
  have hok1:zd X.prog X.w H1 (h'.push fo):=λb o q=>by
   rcases cases1 b o q with⟨rfl,rfl⟩|⟨rfl,rfl⟩|⟨rfl,rfl⟩|⟨hb,q⟩
   ·exact⟨gf,_,gf⟩
   ·exact⟨goc,_,goc⟩
   ·exact gP'
   ·refine(I.hok b o q).stay (λb2 u Bc z=>kk b2 u ?_ z) (λb2 z=>keepO b2 _ (λ_ z=>by cases z) z) λb2 xs z=>keepO b2 _ (λ_ z=>by cases z) z
    rcases Bc with rfl|Bc
    ·exact hb
    ·rintro rfl;rw[t1]at Bc;cases Bc
  have I1:Inv X pins σ H1 { s with heap:=h'.push fo,toks:=tk }:=I.un un hok1;refine⟨.ref h'.objs.size,H1,I1,rfl,h h'.objs.size c' ((X.mg "__name__").getD .none) ctv oc H1 (I.hok.fresh (da hge (fv hlt))) keepO ?_ (by rw[hfo];exact ef) ec ⟨vs,t,hd,hv⟩⟩;intro P' eP';rw[hP]at eP';cases eP';have hl:ps'.toList=ps.toList++[rawInt lpos.line,rawInt lpos.col,.ref c']:=by rw[<-hps];simp
  refine⟨ps',eP,by rw[hl];exact RZ _ _ _ _ _ _ t2,λpos cv q=>?_⟩;rw[hl]at q
  rcases R0 _ t2 q with q|q
  ·obtain⟨a,oa,z1,z2,z3⟩:=t3 pos cv q;exact⟨a,oa,z1,keepO a _ (λ_ z=>by cases z) z2,z3⟩
  ·exact⟨c',oc,q,ec,vs,t,hd,hv⟩
end
def kG:xv->Ev->Option yb 
 | [],_=>some []
 |i::r,ρ=>match ρ[i]? with
  |some (some d)=>(match kG r ρ with
   |some ds=>some (d::ds)
   |none=>none)
  |_=>none
theorem E7 {ρ:Ev}:∀{caps:xv}{ds:yb},kG caps ρ=some ds->ds.length=caps.length/\∀(i:Nat) (d:Dv),ds[i]?=some d->∃j,caps[i]?=some j/\ρ[j]?=some (some d)
 | [],ds,e=>by unfold kG at e;cases e;exact⟨rfl,λi d e=>by simp at e⟩
 |j::r,ds,e=>by
  unfold kG at e
  split at e
  ·rename_i d0 h0
   split at e
   ·rename_i ds0 h1;cases e;obtain⟨l,k⟩:=E7 h1;refine⟨by simp[l],λi d q=>?_⟩
    cases i with
    |zero=>simp at q;subst q;exact⟨j,rfl,h0⟩
    |succ i=>exact k i d (by simpa using q)
   ·cases e
  ·cases e
def iE (caps:xv) (n ncl:Nat) (mb:MS) (me:M Dv):M Dv:=λρ h=>match kG caps ρ with
 |some ds=>qD n ncl mb (me (ds.map some) h)
 |none=>.bad
def gZ (base h:ck) (cs:List ah):ck:=PySem.W.hideAll h ((bx h.objs.size).filter λb=>!((base.get? b).isSome||cs.contains b))
theorem yA {base h:ck}{cs:List ah}{b:ah}{o:Obj}(e:h.get? b=some o) (hb:(∃u,base.get? b=some u)∨b∈cs):(gZ base h cs).get? b=some o:=
 vm _ e λz=>by
  have:=(o6.mp z).2
  rcases hb with⟨u,hb⟩|hb
  ·simp[hb]at this
  ·simp[hb]at this
theorem E8 {base h:ck}{cs:List ah}{b:ah}{o:Obj}(e:(gZ base h cs).get? b=some o):h.get? b=some o/\((∃u,base.get? b=some u)∨b∈cs):=by
 have e1:=wa _ e;refine⟨e1, ?_⟩
 by_cases hb:(∃u,base.get? b=some u)∨b∈cs
 ·exact hb
 ·exfalso
  have hm:b∈(bx h.objs.size).filter λb=>!((base.get? b).isSome||cs.contains b):=by
   refine o6.mpr ⟨bq.mpr (ao e1), ?_⟩
   cases q:base.get? b with
   |some u=>exact absurd (.inl ⟨u,q⟩) hb
   |none=>have:b∉cs:=λz=>hb (.inr z);simp[this]
  have:=vh (h:=h) _ hm;unfold gZ at e;rw[this]at e;cases e
theorem Out.ext {α β:Type}{G:Cfg}{E:XK}{μ μ1:Nat->ah}{n n1:Nat}{H H1:Hp}{r:Rs α}{R:(Nat->ah)->Nat->Hp->α->β->Prop}{Q:β->Hp->Prop}(o:Out G E μ n H r R Q) (x:Ext μ n H μ1 n1 H1):Out G E μ1 n1 H1 r R Q:=by
 cases r with
 |bad=>exact o
 |ex c h'=>exact λμ' H' u y=>o μ' H' u (x.trans y)
 |ok d h'=>exact λμ' H' u y=>o μ' H' u (x.trans y)
theorem E9 {env:Env}{scope:gn}{x:Str}{c:ah}(hf:∀x,(x,bu)∈scope.names->∃c,env.cells.lookup x=some c) (e:(bY env scope.names []).lookup x=some c):(x,bu)∈scope.names/\env.cells.lookup x=some c:=by
 rcases rZ _ _ e with q|⟨q1,q2⟩
 ·cases q
 ·obtain⟨c',h'⟩:=hf x q1;rw[h']at q2;subst q2;exact⟨q1,h'⟩
section
variable{X:Cx}{G:Cfg}{E:XK}{k:Nat}{q x:Str}{p pos lpos:Pos}{params:ka}{body:bj}{scope:gn}{c P fr:ah}{fdr:cg}{Nl:xw}{me:M Dv}{n ncl j:Nat}{mb:MS}{caps:xv}
theorem R4 (g:Good X G E k) (hj:j<=k) (hfn:∀y,X.fn y=true)
  (F:∀base,X.K.In base->base.Ns cp X.mg->yu X.prog X.w X.K X.mg base (bE X.prog X.w base) j fr fdr [x] (tH G base Nl params body scope me n ncl mb))
  (hg:Gl X q) (hm:X.mg q=some (.ref fr)) (hk:jt X.K (.ref fr)=true) (hb:Binds X.K fdr [x] [])
  (Bg:defaultsOf params X.env=([],[])) (hq:X.env.qual ++ "<lambda>" = G.lq) (hP:G.tab=some P) (Ak:X.env.code=.ref c) (hC:jv X.base c P) (hB:jO X.mg X.base)
  (LS:yx Nl scope) (Aj:∀y∈Nl,X.env.scope.names.lookup y=some .cell) (Bb:caps.length=Nl.length) (hcap:∀(i j:Nat) (y:Str),caps[i]?=some j->Nl[i]?=some y->X.N[j]?=some y)
  (Ao:(q==("__debug__" : Str))=false) (he:ax [.Lambda params body scope lpos] X.env=[(false,eval (.Lambda params body scope lpos) X.env)]:=by rfl):
  aG X G E (.Call (.Name q p) [.Lambda params body scope lpos] [] pos) (iE caps n ncl mb me):=by
 intro hK pins s σ H Q I ⟨μ,ρ,h,rs,sm,o⟩;unfold iE at o
 cases hcd:kG caps ρ with
 |none=>rw[hcd]at o;exact o.elim
 |some ds=>
 rw[hcd]at o;obtain⟨hdl,hdg⟩:=E7 hcd;have hfree:∀y,(y,bu)∈scope.names->X.env.kindOf y=some .cell∨X.env.kindOf y=some .free:=λy hy=>.inl (Aj y (LS.all _ hy rfl));have hfc:∀y,(y,bu)∈scope.names->∃c,X.env.cells.lookup y=some c:=λy hy=>I.ok.has y (hfree y hy);refine mn (oW I hg hm ?_ Ao);refine wc (h₀:=X.base) I.ok.mod.kin hk (aM (eS (R3 (G:=G) (lpos:=lpos) (body:=body) Bg hq hP Ak hC hB hfree) gS he pos pins s σ H
  (λvs H1=>∃f c' pm ctv oc,vs=[.ref f]/\E6 H H1/\Ab G H1/\H1 f=some (.frz (ji "<lambda>" G.lq params body scope (bY X.env scope.names []) pm c' ctv) (.own 0))/\H1 c'=some (.frz oc (.own 0))/\sH G.lq oc) I
  ⟨sm.tab,λf c' pm ctv oc H1 _ st tb e1 e2 e3=>⟨f,c',pm,ctv,oc,rfl,st,tb,e1,e2,e3⟩⟩) λus s1 ⟨vs,H1,I1,r,f,c',pm,ctv,oc,ev,st,tb,e1,e2,e3⟩=>⟨I1.kIn, ?_⟩) he rfl
 subst ev;generalize hcs:bY X.env scope.names []=cl at *;have kb:∀b u,X.base.get? b=some u->(gZ X.base s1.heap (cl.map (·.2))).get? b=some u:=λb u e=>yA (I1.bk _ _ e) (.inl ⟨u,e⟩);have clc:∀y cc,(y,cc)∈cl->cl.lookup y=some cc->X.env.cells.lookup y=some cc:=λy cc _ e=>(E9 hfc (by rw[hcs];exact e)).2;have memc:∀b,b∈cl.map (·.2)->∃y,X.env.cells.lookup y=some b:=λb hb=>by
  obtain⟨⟨y,cc⟩,hm1,rfl⟩:=cw.mp hb;have:∀(l:List (Str×jm)) (acc:List (Str×ah)),(∀y cc,(y,cc)∈acc->X.env.cells.lookup y=some cc)->(∀y,(y,bu)∈l->∃c,X.env.cells.lookup y=some c)->∀y cc,(y,cc)∈bY X.env l acc->X.env.cells.lookup y=some cc:=by
   intro l
   induction l with
   |nil=>exact λacc h1 _=>h1
   |cons a l ih=>
    obtain⟨y0,k0⟩:=a;intro acc h1 h2;rw[bY];refine ih _ (λy cc hm2=>?_) λy hy=>h2 y (az _ hy)
    cases hk0:k0==bu with
    |true=>
     rw[hk0,if_pos rfl]at hm2
     rcases ba.mp hm2 with z|z
     ·cases z;have ek:k0=.free:=by cases k0 <;> first|rfl|cases hk0
      subst ek;obtain⟨c3,h3⟩:=h2 y0 (bc ..);rw[h3];rfl
     ·exact h1 _ _ z
    |false=>rw[hk0,if_neg (by simp)]at hm2;exact h1 _ _ hm2
  exact⟨y,this scope.names [] (λ_ _ z=>by cases z) hfc y cc (by rw[hcs];exact hm1)⟩
 have M0:=I1.ok.mod;have nsk:∀{a:ah}{m:Str->Option ae},X.base.Ns a m->(gZ X.base s1.heap (cl.map (·.2))).Ns a m:=λhn=>hn.keeps kb;have hM:Mod X.K X.mg (gZ X.base s1.heap (cl.map (·.2))):=⟨M0.kin.keeps kb,nsk M0.glob,(let ⟨mb,a,b⟩:=M0.blt;⟨mb,nsk a,b⟩),M0.nolimit.keeps kb⟩
 have hbs:∀b u,(gZ X.base s1.heap (cl.map (·.2))).get? b=some u->s1.heap.get? b=some u/\H1 b=none:=λb u e=>by
  obtain⟨g1,g2⟩:=E8 e;refine⟨g1, ?_⟩
  rcases g2 with⟨u',g2⟩|g2
  ·exact(I1.bs _ _ g2).2
  ·obtain⟨y,hy⟩:=memc b g2;exact I1.freeC y b hy
 have nbf:∀b∈cG X.stack,(gZ X.base s1.heap (cl.map (·.2))).get? b=none:=λb hb=>by
  cases qq:(gZ X.base s1.heap (cl.map (·.2))).get? b with
  |none=>rfl
  |some u=>
   exfalso
   obtain⟨g1,g2⟩:=E8 qq
   rcases g2 with⟨u',g2⟩|g2
   ·have:=(I1.stack.mem hb).1;rw[this]at g2;cases g2
   ·obtain⟨y,hy⟩:=memc b g2
    rcases ba.mp (I1.stkSub b hb)with z|z
    ·exact I1.cne y b hy z
    ·obtain⟨v0,ob,ho1,hd1⟩:=I1.cell y b hy;have fm:∀z∈X.fs,z<X.s₀.heap.objs.size:=λz hz=>by obtain⟨_,o2,h2,_⟩:=I1.ok.funs.mem hz;exact ao h2
     exact absurd (aq (fm b z) (I1.ok.cab y b (hfn y) hy)) (fy _)
 have hfun:s1.heap.FunFrames (gZ X.base s1.heap (cl.map (·.2))) X.stack:=by
  have all:∀(l:List Env),(∀b∈cG l,b∈cG X.stack)->s1.heap.FunFrames X.base l->s1.heap.FunFrames (gZ X.base s1.heap (cl.map (·.2))) l:=by
   intro l
   induction l with
   |nil=>intro _ _;trivial
   |cons env r ih=>
    intro hs hl;obtain⟨hk',⟨L,o',hf',hn',Ba,As⟩,hr'⟩:=hl;have hL:L∈cG (env::r):=by unfold cG;rw[cj,hf'];exact bc
    exact⟨hk',⟨L,o',hf',nbf L (hs L hL),Ba,As⟩,ih (λb hb=>hs b (by unfold cG;rw[cj,hf'];exact az _ hb)) hr'⟩
  exact all X.stack (λ_ hb=>hb) I1.stack
 have e0:Bj X.prog X.w X.K X.mg (gZ X.base s1.heap (cl.map (·.2))) X.A X.stack s1 H1:=⟨I1.ok.frames,hM,hbs,oq (vg _ _),hfun,I1.stkFree,I1.hok,I1.bare⟩
 have xt:Ext μ h.length H μ h.length H1:=⟨ak _,λ_ _=>rfl,λa u im z=>st a u (λps w=>by subst w;exact im) z⟩
 have sm1:yn G μ h H1:=⟨sm.inj,λi ob z=>by
  have r0:=sm.ob i ob z
  cases ob with
  |lst xs=>obtain⟨vs,z1,z2⟩:=r0;exact⟨vs,st _ _ (λ_ w=>by cases w) z1,RelDL.mono xt _ _ z2⟩
  |clo k t=>exact r0.clo xt
  |dct ks=>exact st _ _ (λ_ w=>by cases w) r0,tb⟩
 have look:∀y cc,cl.lookup y=some cc->(y,bu)∈scope.names/\X.env.cells.lookup y=some cc:=λy cc e=>E9 hfc (by rw[hcs];exact e);have memL:∀y cc,cl.lookup y=some cc->cc∈cl.map (·.2):=λy cc e=>cw.mpr ⟨(y,cc),ff e,rfl⟩;have L:Ax G (gZ X.base s1.heap (cl.map (·.2))) H1 μ h.length Nl params body scope f c' cl ds:=by
  refine⟨⟨pm,ctv,e1⟩,⟨oc,e2,e3⟩,λy z cc a b=>I1.ok.inj y z cc (look y cc a).2 (look z cc b).2,hdl.trans Bb,λi y hy=>?_,λy cc e=>?_,λi y cc d hy hd e=>?_⟩
  ·have hf1:=LS.fr y (cm hy);have:=pE (env:=X.env) (x:=y) scope.names [] (.inl (ff hf1));rw[hcs]at this;exact⟨_,this⟩
  ·obtain⟨v0,ob,ho1,hd1⟩:=I1.cell y cc (look y cc e).2;exact⟨ob,v0,yA ho1 (.inr (memL y cc e)),hd1⟩
  ·obtain⟨jj,hjj,hρ⟩:=hdg i d hd;obtain⟨v,hv,rd⟩:=rs.at_ jj d hρ;have hNj:=hcap i jj y hjj hy;have hyk:=Aj y (cm hy);obtain⟨m,hn,hl⟩:=I1.loc;obtain⟨u,ru,lk⟩:=hl jj y v hNj hv (.inr (.inl hyk))
   rcases lk with⟨kl,_⟩|⟨_,c4,ec4,ob,ho1,hd1⟩
   ·have kl':X.env.scope.names.lookup y=some .local:=kl;rw[hyk]at kl';cases kl'
   ·rw[(look y cc e).2]at ec4;cases ec4;exact⟨ob,u,v,yA ho1 (.inr (memL y cc e)),hd1,ru,yf.mono xt _ _ rd⟩
 have zb:∀y cc,cl.lookup y=some cc->y∈Nl:=λy cc e=>LS.all _ (look y cc e).1 rfl;have hlen:(us++([]:List ae)).length=[x].length:=by rw[kr,<-r.length];rfl
 have hbt:=hb s1 us I1.kIn hlen;rw[kr]at hbt;refine wb (nc ((F _ hM.kin hM.glob).run X.A X.stack s1 H1 ⟨us,[]⟩ us [.ref f] Q E (g.room.mono hj) e0 hbt r ⟨f,c',cl,ds,μ,h,rfl,L,zb,sm1,o.ext xt⟩) λrr s' hq'=>?_)
 cases rr with
 |ok fl=>
  cases fl with
  |ret u=>exact I1.after hq'
  |next=>exact gk hq'
  |brk=>exact gk hq'
  |cont=>exact gk hq'
 |error ev=>
  obtain⟨e,C,H',eu,os,bare,un,hok,fl,hE⟩:=hq';refine g.pas pins σ H1 s1 ev s' I1 ⟨e,C,H',eu,os,bare,un,hok, ?_,hE⟩;obtain⟨T,a0,w1,w2,w3,w4⟩:=fl;refine⟨T,a0,w1,w2, ?_,w4⟩
  cases qq:X.base.get? e with
  |none=>rfl
  |some u=>have:=kb e u qq;rw[w3]at this;cases this
end
section
variable{X:Cx}{G:Cfg}
open Classical in
open Classical in
end
def fS (c:M Bool) (body:MS):Nat->MS
 |0=>λ_ _=>.bad
 |f+1=>λρ h=>(c ρ h).thenS λb h1=>if b=true then(match body ρ h1 with
  | .nx ρ2 h2=>fS c body f ρ2 h2
  | .ct ρ2 h2=>fS c body f ρ2 h2
  | .bk ρ2 h2=>.nx ρ2 h2
  |r=>r)else .nx ρ h1
section
variable{X:Cx}{G:Cfg}{E:XK}{c:bj}{body:List ja}{mc:M Bool}{mb:MS}{pos:Pos}
theorem FA (n:Nat) (hp:uy (model X.prog X.w) X.A X.env X.xe) (hc:eW X G E c mc) (hb:iD X G E body mb):fK X G E (.While c body [] pos) (fS mc mb n):=λhK=>PS.imp (L6 hp (hc hK) (hb hK)) λD σ H ⟨μ,ρ,h,rs,s,o⟩=>by
 refine⟨λm σ H=>∃μ ρ h,yk G μ h.length H ρ σ/\yn G μ h H/\yz G E μ h.length H (fS mc mb m ρ h) D,⟨n,μ,ρ,h,rs,s,o⟩, ?_⟩
 rintro m σ1 H1 ⟨μ1,ρ1,h1,yr,s1,o1⟩
 cases m with
 |zero=>exact o1.elim
 |succ m=>
  refine DW yr s1 o1 λμ2 b h2 H2 x2 zq s2 o2=>?_
  cases b with
  |false=>rw[if_neg (by decide)]at o2 ⊢;exact o2 μ2 H2 σ1 Ext.refl s2 zq
  |true=>
   rw[if_pos rfl]at o2 ⊢;refine⟨λσ' H'=>∃μ ρ h,yk G μ h.length H' ρ σ'/\yn G μ h H'/\yz G E μ h.length H' (fS mc mb m ρ h) D,λσ' H' z=>⟨m,jh m,z⟩,μ2,ρ1,h2,zq,s2, ?_⟩
   cases q:mb ρ1 h2 with
   |nx ρ3 h3=>rw[q]at o2;exact λμ4 H4 σ4 x4 s4 jX=>⟨μ4,ρ3,h3,jX,s4,yz.ext o2 x4⟩
   |ct ρ3 h3=>rw[q]at o2;exact λμ4 H4 σ4 x4 s4 jX=>⟨μ4,ρ3,h3,jX,s4,yz.ext o2 x4⟩
   |bk ρ3 h3=>rw[q]at o2;exact o2
   |rt d h3=>rw[q]at o2;exact o2
   |ex d h3=>rw[q]at o2;exact o2
   |bad=>rw[q]at o2;exact o2.elim
end
section
variable{X:Cx}{G:Cfg}{E:XK}{e o:bj}{mo me:M Dv}{pos apos cpos np p2:Pos}{y:Str}
def tI (x i:Dv) (h:Hs):Rs Dv:=match x,i with
 | .ref j,.int n=>match getL h j with
  |some xs=>match eJ xs.length n with
   |some k=>match xs[k]? with
    |some d=>if xs.length<=1000000 then .ok d (h.set j (.lst (xs.eraseIdx k)))else .bad
    |none=>.bad
   |none=>.bad
  |none=>.bad
 |_,_=>.bad
theorem FC {μ:Nat->ah}{n:Nat}{H:Hp}:∀{ds:yb}{vs:List V}(k:Nat),RelDL G μ n H ds vs->RelDL G μ n H (ds.eraseIdx k) (vs.eraseIdx k)
 | [],_,_,h=>by rw[RelDL]at h;subst h;exact RelDL.nil
 |d::ds,_,0,h=>by rw[RelDL]at h;obtain⟨v,r,rfl,h1,h2⟩:=h;exact h2
 |d::ds,_,k+1,h=>by rw[RelDL]at h;obtain⟨v,r,rfl,h1,h2⟩:=h;exact RelDL.cons h1 (FC k h2)
def qE (mo me:M Dv):M Dv:=λρ h=>(mo ρ h).bind λx h1=>if gX x h1=true then(me ρ h1).bind λd h2=>tI x d h2 else .bad
theorem R5 (ho:aG X G E (.Name y np) mo) (he:aG X G E e me) (hs:ax [e] X.env=[(false,eval e X.env)]:=by rfl) (hl:(apos.endLine==cpos.line)=true:=by rfl):aG X G E (.Call (.Attribute (.Name y np) "pop" apos) [e] [] cpos) (qE mo me):=λhK=>
 PE.imp (rX kq PySem.F.slot_list_pop PySem.F.type_list_pop OK (ho hK) (eS (he hK) gS hs) rfl (by rw[hs];rfl) hl hs rfl) λσ H Q ⟨μ,ρ,h,rs,s,oo⟩=>cY rs s oo λμ1 x h1 vx H1 x1 yr s1 r1 o1=>by
  split at o1
  ·rename_i hl;refine⟨sY s1 r1 hl,cY yr s1 o1 λμ2 d h2 vd H2 x2 zq s2 r2 o2=>?_⟩
   cases x with
   |ref j=>
    cases d with
    |int n=>
     dsimp only[tI]at o2
     cases q:getL h2 j with
     |none=>rw[q]at o2;exact o2.elim
     |some xs=>
      rw[q]at o2;dsimp only at o2
      cases q2:eJ xs.length n with
      |none=>rw[q2]at o2;exact o2.elim
      |some k=>
       rw[q2]at o2;dsimp only at o2
       cases q3:xs[k]? with
       |none=>rw[q3]at o2;exact o2.elim
       |some d'=>
        rw[q3]at o2;dsimp only at o2
        split at o2
        ·rename_i hz;obtain⟨vs,ea,ra⟩:=s2.ob j _ (cE q);obtain⟨_,rfl⟩:=yf.mono x2 _ _ r1;rw[yf]at r2;subst r2;obtain⟨v,ev,rv⟩:=ra.get q3;obtain⟨i1,i2,i3,i4⟩:=wN q2;obtain⟨x3,s3⟩:=s2.write (cE q) (FC k ra);exact⟨_,vs,n,k,v,rfl,rfl,ea,by omega,by omega,by rw[ra.length];exact i1,ev,o2 μ2 _ _ x3 s3 (yf.mono x3 _ _ rv)⟩
        ·exact o2.elim
    |_=>exact o2.elim
   |_=>exact o2.elim
  ·exact o1.elim
def jP (xs:yb) (lo hi:Option Int):yb:=(xs.drop (HT.sIx xs.length 0 lo)).take (HT.sIx xs.length xs.length hi - HT.sIx xs.length 0 lo)
theorem FD {μ:Nat->ah}{n:Nat}{H:Hp}{xs:yb}{vs:List V}(r:RelDL G μ n H xs vs) (lo hi:Option Int):RelDL G μ n H (jP xs lo hi) (kW vs lo hi):=by unfold jP kW;rw[r.length];exact(r.drop _).take _
abbrev MO:=Ev->Hs->Rs (Option Int)
def R6 (G:Cfg) (E:XK) (m:MO):TO:=λσ H Q=>∃μ ρ h,yk G μ h.length H ρ σ/\yn G μ h H/\Out G E μ h.length H (m ρ h) (λ_ _ _ a b=>b=a) Q
def tJ (X:Cx) (G:Cfg) (E:XK) (pe:Option bj) (m:MO):Prop:=X.K=G.K->PO X pe (R6 G E m)
theorem PO.imp {pe:Option bj}{t t':TO}(h:PO X pe t) (i:∀σ H Q,t' σ H Q->t σ H Q):PO X pe t':=λpins s σ H Q I q=>h pins s σ H Q I (i σ H Q q)
def iU:MO:=λ_ h=>.ok none h
def yB:Dv->Hs->Rs (Option Int)
 | .int i,h=>.ok (some i) h
 |_,_=>.bad
def iV (m:M Dv):MO:=λρ h=>(m ρ h).bind yB
theorem tK:tJ X G E none iU:=λ_=>PO.imp NU λσ H Q ⟨μ,ρ,h,rs,s,oo⟩=>oo.val s rfl
theorem tL (he:aG X G E e me):tJ X G E (some e) (iV me):=λhK=>PO.imp (NV (he hK)) λσ H Q ⟨μ,ρ,h,rs,s,oo⟩=>cY rs s oo λμ1 d h1 v H1 x1 yr s1 r1 o1=>by
 cases d with
 |int i=>exact⟨i,r1,o1.val s1 rfl⟩
 |_=>exact o1.elim
end
section
variable{X:Cx}{G:Cfg}{E:XK}{pos:Pos}
theorem FE:aG X G E (.Dict [] [] pos) (mC .edc):=λ_ pins s σ H Q I ⟨μ,ρ,h,rs,sm,o⟩=>by have hb:sysModules<s.heap.objs.size:=wj (by decide) (I.mod.glob.keeps I.bk).lt;have hn:=I.hok.fresh (ak s.heap.objs.size);refine wpAny_Dict_empty ⟨.ref s.heap.objs.size,_,I.laid (a:=s.heap.objs.size) (o:=.dK []) (t':=s.toks) (λ_ _ q=>aj _ q) (ak _) ⟨iq _,beq_eq_false_iff_ne.mpr (cu (aw hb)),[],.nil,Heap.DictOf.new s.heap⟩,rfl, ?_⟩;exact o μ _ _ (Ext.same (bM hn)) (sm.same (bM hn)) ⟨_,rfl,bO⟩
theorem R7 {x:Str}{i:Int}{t:Tok}(hg:Gl X x) (hm:X.mg x=some (.int i t)) (hd:(x==("__debug__" : Str))=false:=by decide):aG X G E (.Name x pos) (mC (.int i)):=λ_=>PE.imp (BF (v:=.int i) hg hm ⟨t,rfl⟩ hd) λσ H Q ⟨μ,ρ,h,rs,s,o⟩=>o.val s (show yf G μ _ H (.int i) (.int i) from rfl)
def jQ:Dv->Hs->Rs Dv
 | .int i,h=>.ok (.int (-i)) h
 |_,_=>.bad
theorem R8:iB G (rU λi=>.int (-i)) jQ:=by
 intro E μ h H x vx Q s r o
 cases x with
 |int i=>rw[yf]at r;subst r;exact⟨i,rfl,o.val s rfl⟩
 |_=>exact o.elim
end
structure Lawful (lp:bg) (w:cf) (K:ar) (mg:Str->Option ae) (base:ck) (k:Nat) (fa:ah) (fd:cg) (x:Str) (P a:ah) (ns:xu):Prop where
 ex:∃(G:Cfg) (lawF:ya) (hh:Hs),G.K=K/\G.scr=ns/\G.sa=a/\G.tab=some P/\lawF [.scr] []=.ok (.bl true) hh/\yu lp w K mg base (bE lp w base) k fa fd [x] (cS G lawF)
theorem FF {lp:bg}{w:cf}{K:ar}{mg mb:Str->Option ae}{k:Nat}{fa a c P:ah}{fd:cg}{x:Str}{s₁:af}{vs:List ae}{ns:xu}
  (KX:K.In s₁.heap) (hns:s₁.heap.Ns cp mg) (hb:s₁.heap.Ns builtinsNs mb) (hbb:∀x:Str,x ≠ "__name__"->mb x=dm x) (hlim:s₁.heap.NoLimit) (hg:s₁.gens=#[])
  (ha:s₁.heap.get? a=some { cls:=.type "list",data:=.seq vs.toArray }) (hi:km vs ns) (hl:ns.length<=bo) (hr:yv k callerA)
  (hC:jv s₁.heap c P) (hP:s₁.heap.get? P=some (qi #[])) (hB:jO mg s₁.heap) (hnt:PySem.W.noTabs K=true)
  (F:∀base:ck,K.In base->base.Ns cp mg->jv base c P->jO mg base->Lawful lp w K mg base k fa fd x P a ns) (hbind:∀(s:af) (u:ae),vn s fd ⟨[u],[]⟩ [(x,u)]):
  codeAny (model lp w) callerA (.call (.ref fa) ⟨[.ref a],[]⟩) (λr s'=>r=.ok (.ret (.bool true))/\OldK s₁.heap s'.heap/\s'.os=s₁.os/\qc s'.gens) s₁:=by
 have rv:=pD hi;have lenV:=hi.length;have KP:K.lookup P=none:=by
  cases q:K.lookup P with
  |none=>rfl
  |some o=>have e:=KX P o q;rw[hP]at e;cases e;have:=ic.mp hnt (P,qi #[]) (PySem.W.mem_of_lookupK q);exact absurd (show false=true from this) gu
 have aP:a≠P:=λz=>by rw[z,hP]at ha;cases ha
 have core:∀H:Hp,H P=some (.tbl #[])->FzL K H a (ns.map V.int)->zd lp w H s₁.heap->(∀b,H b≠none->b=a∨b=P)->(H a≠none->K.lookup a=none)->(∀u,H a=some u->∃o xs,u=.frz o (.lst xs))->
   codeAny (model lp w) callerA (.call (.ref fa) ⟨[.ref a],[]⟩) (λr s'=>r=.ok (.ret (.bool true))/\OldK s₁.heap s'.heap/\s'.os=s₁.os/\qc s'.gens) s₁:=by
  intro H hHP hS hok hA hK hF;have base_of:∀{b:ah}{o:Obj},s₁.heap.get? b=some o->H b=none->(iL s₁.heap H).get? b=some o:=λe n=>KO e n;have none_of:∀{b:ah},b≠a->b≠P->H b=none:=λ{b} h1 h2=>by
   cases q:H b with
   |none=>rfl
   |some u=>exact((hA b (by rw[q];simp)).elim h1 h2).elim
  have noD:∀{b:ah}{o:Obj}{es:Array DictEntry}{ep:Nat},s₁.heap.get? b=some o->o.data=.dict es ep->H b=none:=λ{b o es ep} e d=>none_of (λz=>by
    subst z;rw[ha]at e;cases e;have d':Data.seq vs.toArray _=Data.dict es ep:=d
    cases d') (λz=>by
    subst z;rw[hP]at e;cases e;have d':Data.fields _=Data.dict es ep:=d
    cases d')
  have nsK:∀{b:ah}{m:Str->Option ae},s₁.heap.Ns b m->(iL s₁.heap H).Ns b m:=λ{b m} ⟨o,es,ep,e,d,r⟩=>⟨o,es,ep,base_of e (noD e d),d,r⟩
  have hKb:K.In (iL s₁.heap H):=λb o e=>base_of (KX b o e) (by
   cases q:H b with
   |none=>rfl
   |some u=>
    rcases hA b (by rw[q];simp)with z|z
    ·subst z;rw[hK (by rw[q];simp)]at e;cases e
    ·subst z;rw[KP]at e;cases e)
  have hM:Mod K mg (iL s₁.heap H):=⟨hKb,nsK hns,⟨mb,nsK hb,hbb⟩,let ⟨mc,h1,h2⟩:=hlim;⟨mc,nsK h1,h2⟩⟩
  have hCb:jv (iL s₁.heap H) c P:=by obtain⟨o,yw,file,tf,flags,tg,inF,text,tt,e1,r1,r⟩:=hC;refine⟨o,yw,file,tf,flags,tg,inF,text,tt,base_of e1 (none_of (λz=>?_) r.2.2.2.2.2.2.2),r1,r⟩;subst z;rw[ha]at e1;cases e1;exact absurd r1 (by intro w;injection w with w;exact absurd w (by decide))
  have hBb:jO mg (iL s₁.heap H):=by
   obtain⟨bm,ob,b1,b2,b3,b4,b5,b6⟩:=hB;refine⟨bm,ob,b1,b2,base_of b3 (none_of (λz=>?_) (λz=>?_)),b4,b5,b6⟩
   ·subst z;rw[ha]at b3;cases b3;exact absurd b4 (by intro w;injection w with w;exact absurd w (by decide))
   ·subst z;rw[hP]at b3;cases b3;cases b4
  have e0:Bj lp w K mg (iL s₁.heap H) callerA [] s₁ H:=⟨rfl,hM,λb o e=>KQ e,oq (KN _ _),trivial,λb hb=>absurd (show b∈([]:List ah) from hb) (by simp),hok,.of_eq hg⟩
  obtain⟨G,lawF,hh,g1,g2,g3,g4,hlaw,Fn⟩:=(F _ hKb (nsK hns) hCb hBb).ex;have rd:RelDL G (λ_=>0) 0 H [.scr] [.ref a]:=by refine RelDL.cons ?_ RelDL.nil;rw[yf,g1,g2,g3];exact⟨rfl,hS⟩
  have sm:yn G (λ_=>0) [] H:=⟨λi j h1=>absurd h1 (by simp),λi o q=>by simp at q,λP' e=>by
   rw[g4]at e;cases e;exact⟨#[],hHP,trivial,λpos cv q=>by
    have q':(none:Option ae)=some cv:=q
    cases q'⟩⟩
  refine nc (Fn.run callerA [] s₁ H ⟨[.ref a],[]⟩ [.ref a] [.ref a] (λv _=>v=.bl true) (λ_ _ _=>False) hr e0 (hbind s₁ (.ref a)) (.cons rfl .nil) ⟨λ_=>0,[],[.scr],rd,sm, ?_⟩) λr s' h=>?_
  ·rw[hlaw];exact λμ' H' v _ _ r=>r
  cases r with
  |error e=>obtain⟨_,_,_,_,_,_,_,_,_,z⟩:=h;exact z.elim
  |ok fl=>
   cases fl with
   |next=>exact gk h
   |brk=>exact gk h
   |cont=>exact gk h
   |ret u=>
    obtain⟨v,H',os,bare,un,hok',r',q⟩:=h;have q':v=.bl true:=q;subst q';obtain rfl:u=xf true:=r';have kept:∀b o,b≠P->s₁.heap.get? b=some o->s'.heap.get? b=some o:=λb o hbP e=>by
     cases q:H b with
     |none=>exact un.keep b o e q (by intro z;exact absurd (show b∈([]:List ah) from z) (by simp)) (by simp)
     |some u=>
      rcases hA b (by rw[q];simp)with z|z
      ·subst z;obtain⟨ob,xs,rfl⟩:=hF u q;have z2:=un.frzs b ob _ q;obtain⟨e1,_⟩:=hok b _ q;obtain⟨e2,_⟩:=hok' b _ z2;rw[e]at e1;cases e1;exact e2
      ·exact absurd z hbP
    obtain⟨more,hm⟩:=un.tbls P #[] hHP;have gP:s'.heap.get? P=some (qi (#[]++more)):=hok' P _ hm;refine⟨rfl,⟨λb o e=>?_,λb o e=>?_⟩,os,bare⟩
    ·by_cases hb:b=P
     ·subst hb;rw[hP]at e;cases e;exact .inr (.inl ⟨(hC.tab hP).isCodeTable,rfl,#[],more,rfl,gP⟩)
     ·exact .inl (kept b o hb e)
    ·by_cases hb:b=P
     ·subst hb;exact⟨_,gP⟩
     ·exact⟨_,kept b o hb e⟩
 cases hk:K.lookup a with
 |some o=>
  have e:=KX a o hk;rw[ha]at e;cases e;refine core (λb=>if b=P then some (.tbl #[])else none) (if_pos rfl) (.inr ⟨_,vs.toArray,_,hk,rfl,rfl,rfl,by rw[au,lenV];exact hl,by simpa using rv⟩) (λb u z=>?_) (λb z=>?_) (λz=>absurd (if_neg aP) z) (λu z=>?_)
  ·by_cases hb:b=P
   ·have z':=(if_pos hb).symm.trans z;cases z';subst hb;exact hP
   ·have z':=(if_neg hb).symm.trans z;cases z'
  ·by_cases hb:b=P
   ·exact .inr hb
   ·exact absurd (if_neg hb) z
  ·have z':=(if_neg aP).symm.trans z;cases z'
 |none=>
  have ea:(λb=>if b=a then some (HO.frz { cls:=.type "list",data:=.seq vs.toArray } (.lst (ns.map V.int)))else if b=P then some (.tbl #[])else none) a=some (.frz { cls:=.type "list",data:=.seq vs.toArray } (.lst (ns.map V.int))):=if_pos rfl;refine core (λb=>if b=a then some (.frz { cls:=.type "list",data:=.seq vs.toArray } (.lst (ns.map V.int)))else if b=P then some (.tbl #[])else none) ((if_neg (cu aP)).trans (if_pos rfl)) (.inl ⟨{ cls:=.type "list",data:=.seq vs.toArray },ea⟩) (λb u z=>?_) (λb z=>?_) (λ_=>hk) (λu z=>?_)
  ·by_cases hb:b=a
   ·have z':=(if_pos hb).symm.trans z;cases z';subst hb;exact⟨ha,by rw[bf];exact hl,vs,_,rv,ha⟩
   ·have z':=(if_neg hb).symm.trans z
    by_cases Bc:b=P
    ·have z2:=(if_pos Bc).symm.trans z';cases z2;subst Bc;exact hP
    ·have z2:=(if_neg Bc).symm.trans z';cases z2
  ·by_cases hb:b=a
   ·exact .inl hb
   ·by_cases Bc:b=P
    ·exact .inr Bc
    ·exact absurd ((if_neg hb).trans (if_neg Bc)) z
  ·have z':=ea.symm.trans z;cases z';exact⟨_,_,rfl⟩
open L2
theorem qF {α:Type}{P:List α->Prop}(h:∀a,P [a]):∀us:List α,us.length=1->P us
 | [a],_=>h a
theorem iF {α:Type}{P:List α->Prop}(h:∀a b,P [a,b]):∀us:List α,us.length=2->P us
 | [a,b],_=>h a b
theorem FG {α:Type}{P:List α->Prop}(h:∀a b c,P [a,b,c]):∀us:List α,us.length=3->P us
 | [a,b,c],_=>h a b c
theorem iG {P:Nat->Bool->Prop}:∀c b,List.lookup c ([]:List (Nat×Bool))=some b->P c b:=λ_ _ h=>nomatch h
theorem bQ {P:Nat->Bool->Prop}{x:Nat}{y:Bool}{l:List (Nat×Bool)}(h:P x y) (hl:∀c b,l.lookup c=some b->P c b):∀c b,List.lookup c ((x,y)::l)=some b->P c b:=λc b e=>by
 rw[gv]at e
 cases q:c==x with
 |true=>rw[q]at e;exact eq_of_beq q▸(cq e)▸h
 |false=>rw[q]at e;exact hl c b e
theorem R9 {P:Nat->Prop}:∀c,c<0->P c:=λc h=>absurd h (Nat.not_lt_zero c)
theorem iW {P:Nat->Prop}{n:Nat}(h0:P 0) (h:∀c,c<n->P (c+1)):∀c,c<n+1->P c
 |0,_=>h0
 |c+1,hc=>h c (Nat.lt_of_succ_lt_succ hc)
open PySem.Calls
abbrev Ys {β:Type}(ob:Frag->β) (obE:β):cf->ck->Prop:=λ_ h=>∃K:Frag,K.In h/\noTabs K=true/\ob K=obE
theorem ys_of {β:Type}{ob:Frag->β}{obE:β}:∀(w:cf) (s:af),ob (oS s.heap)=obE->Ys ob obE w s.heap:=λ_ s e=>⟨oS s.heap,rK _ _,rL _ _,e⟩
theorem ys_keeps {β:Type}{ob:Frag->β}{obE:β}:∀(w:cf) (h h':ck),Ys ob obE w h->(∀b o,h.get? b=some o->h'.get? b=some o)->Ys ob obE w h':=λ_ _ _ ⟨K,x,n,e⟩ k=>⟨K,x.keeps k,n,e⟩
theorem m8 {β:Type}{ob:Frag->β}{obE:β}{l:OpenLaw}{n k:Nat}{q:bg}{loose:xw}{XP:(Str->Option ae)->ck->Prop}{d:DefRec}{x:Str}
  (hn:l.most=some n) (hn2:n<=bo) (hdf:d.params.defaults=[]) (hr:yv k callerA) (hfind:(recsOf q).find? (λe=>e.name==d.name)=some d)
  (F:∀(K:Frag) (w:cf) (mg:Str->Option ae) (fa:ah) (h:ck),ob K=obE->noTabs K=true->K.In h->h.Ns cp mg->mg d.name=some (.ref fa)->
   ∃(fd:cg) (c P:ah),(∀(s:af) (u:ae),vn s fd ⟨[u],[]⟩ [(x,u)])/\tabIn K d.name=some (c,P)/\noTabs K=true /\
    ∀(base:ck) (a:ah) (ns:xu),ns.length<=n->K.In base->base.Ns cp mg->CodeHd base c P->jO mg base->Lawful l.prog w K mg base k fa fd x P a ns):
  WalkO q loose XP (Ys ob obE) l.row.toRowW d [] (λf vs=>xi f vs):=by
 refine Att.attach_call hn hdf λw s₀ s₁ mg mb fa o pm cd doc a vs ns G Y ho hd hcd hmg hobj hints hlen hg=>?_;obtain⟨K,KX,hnt',hob⟩:=Y;obtain⟨fd,c,P,hb,ht,hnt,hF⟩:=F K w mg fa _ hob hnt' KX G.T.g hmg;obtain⟨hC,hP⟩:=tab_of G.T KX hfind ht;exact FF KX G.T.g G.T.b G.T.builtins G.T.nolimit hg hobj hints (da hlen hn2) hr hC hP G.T.bmain hnt (λbase h1 h2 h3 h4=>hF base a ns hlen h1 h2 h3 h4) hb
theorem SA {K:Frag}{f c:ah}{st:ja}{n:Str}{ps:xw}(h:dC K f=some (fnOf n n (kX st) (hY st) (aU st) .none .none .none .none none (.ref c) .none)) (hc:codeIn K (.ref c) n=true) (hk:keepIn K (.ref f)=true)
  (hb:∀(kV doc pm:ae) (an:Option ah) (cdv ct:ae) (us:List ae),us.length=ps.length->bindArgs (fnOf n n (kX st) (hY st) (aU st) .none kV doc pm an cdv ct) ⟨us,[]⟩=pure (ps.zip us)):
  ∃fd:cg,zu K n n st f fd/\Binds K fd ps []/\fd.code=.ref c/\∀us:List ae,us.length=ps.length->bindArgs fd ⟨us,[]⟩=pure (ps.zip us):=by
 obtain⟨oc,od,kV,dc,pm,an,ct,sl,e⟩:=J2 h;exact⟨_,CS e hc hk,(CS e hc hk).binds hb,rfl,hb kV dc pm an (.ref c) ct⟩
theorem walkK2 {β:Type}{ob:Frag->β}{obE:β}{l:OpenLaw}{n k:Nat}{q:bg}{loose:xw}{XP:(Str->Option ae)->ck->Prop}{d:DefRec}{x:Str}(nm:Str)
  (hn:l.most=some n) (hn2:n<=bo) (hdf:d.params.defaults=[]) (hr:yv k callerA) (hfind:∃d2:DefRec,(recsOf q).find? (λe=>e.name==nm)=some d2/\d2.name=nm)
  (F:∀(K:Frag) (w:cf) (mg:Str->Option ae) (fa:ah) (h:ck),ob K=obE->noTabs K=true->K.In h->h.Ns cp mg->mg d.name=some (.ref fa)->
   ∃(fd:cg) (c P:ah),(∀(s:af) (u:ae),vn s fd ⟨[u],[]⟩ [(x,u)])/\tabIn K nm=some (c,P)/\noTabs K=true /\
    ∀(base:ck) (a:ah) (ns:xu),ns.length<=n->K.In base->base.Ns cp mg->CodeHd base c P->jO mg base->Lawful l.prog w K mg base k fa fd x P a ns):
  WalkO q loose XP (Ys ob obE) l.row.toRowW d [] (λf vs=>xi f vs):=by
 refine Att.attach_call hn hdf λw s₀ s₁ mg mb fa o pm cd doc a vs ns G Y ho hd hcd hmg hobj hints hlen hg=>?_;obtain⟨K,KX,hnt',hob⟩:=Y;obtain⟨fd,c,P,hb,ht,hnt,hF⟩:=F K w mg fa _ hob hnt' KX G.T.g hmg;obtain⟨d2,hf,hnm⟩:=hfind;have hf':(recsOf q).find? (λe=>e.name==d2.name)=some d2:=by rw[hnm];exact hf
 obtain⟨hC,hP⟩:=tab_of G.T KX hf' (by rw[hnm];exact ht);exact FF KX G.T.g G.T.b G.T.builtins G.T.nolimit hg hobj hints (da hlen hn2) hr hC hP G.T.bmain hnt (λbase h1 h2 h3 h4=>hF base a ns hlen h1 h2 h3 h4) hb
theorem dB {F:List (Frag->Bool)}{K:Frag}(h:F.all (λf=>f K)=true) (i:Nat) {g:Frag->Prop}[∀K,Decidable (g K)] (e:F[i]?=some (λK=>decide (g K)):=by rfl):g K:=dA h i e
theorem cF {K:Frag}{h:ck}{mg:Str->Option ae}{n:Str}{v:ae}{F:List (Frag->Bool)}(X:K.In h) (G:h.Ns cp mg) (hc:F.all (λf=>f K)=true) (i:Nat) (e:F[i]?=some (λK=>decide (nsIn K cp n=some (some v))):=by rfl):mg n=some v:=mg_of X G (dA hc i e)
theorem yC {env:Env}{x:Str}:∀{l:List (Str×jm)},l.lookup x=some .free->(l.map λ(n,k)=>if(k==bu&&env.scope.kind==.function&&env.kindOf n==some .cell)then(n,dg)else(n,k)).lookup x≠some .local
 | [],h=>by simp at h
 |(n,q)::r,h=>by
  rw[gv]at h;rw[dy]
  cases e:x==n with
  |true=>
   rw[e]at h;have hq:q=.free:=cq h;subst hq;dsimp only
   split
   ·rw[gv,e];simp
   ·rw[gv,e];simp
  |false=>
   rw[e]at h;dsimp only
   split
   ·rw[gv,e];exact yC h
   ·rw[gv,e];exact yC h
theorem SD {X:Cx}{sc os:gn}{oN N:xw}{cap:List (Option Nat)}(hs:X.env.scope.names=os.names) (hN:X.N=oN) (h1:sc.kind=.function) (h2:∀p∈sc.names,p.2=.local->sc.names.lookup p.1=some .local) (h3:cap.length=N.length)
  (h4:∀p∈sc.names,p.2=.free->os.names.lookup p.1=some .cell∨os.names.lookup p.1=some .free) (h5:∀p∈sc.names,p.2=.free->(p.1,dg)∉sc.names) (h6:∀q∈cap.zip N,∀j∈q.1,oN[j]?=some q.2/\sc.names.lookup q.2=some .free):ze X sc N cap:=by
 refine⟨h1,h2,h3,λx hx=>?_,λx hx=>h5 _ hx rfl,λi j x e1 e2=>?_⟩
 ·have:=h4 _ hx rfl;rw[<-hs]at this;exact this
 ·have hm:(some j,x)∈cap.zip N:=cm (i:=i) (p6.mpr ⟨e1,e2⟩);obtain⟨a,b⟩:=h6 _ hm j rfl;rw[hN];refine⟨a,ff b, ?_⟩;exact yC b
def oA:Dv->Dv->Hs->Rs Dv:=jJ λi j=>.int (i - j)
def mF:Dv->Dv->Hs->Rs Dv:=iP sQ λi j=>.int (i*j)
def jR:Dv->Dv->Hs->Rs Dv:=iP nE λi j=>.int (i % j)
def iX:Dv->Dv->Hs->Rs Dv:=iP pR λi j=>.int (i ^ j.toNat)
def oB:Dv->Dv->Hs->Rs Dv:=jJ λi j=>.bl (decide (i<=j))
def tM:Dv->Dv->Hs->Rs Dv:=jJ λi j=>.bl (decide (i>=j))
section
variable{X:Cx}{G:Cfg}{E:XK}{k:Nat}{a b:bj}{ma mb:M Dv}{pos:Pos}
theorem FH (ha:aG X G E a ma) (hb:aG X G E b mb):aG X G E (.BinOp a .Sub b pos) (m2 oA ma mb):=nB MP PH ha hb
theorem qG (ha:aG X G E a ma) (hb:aG X G E b mb):aG X G E (.BinOp a .Mult b pos) (m2 mF ma mb):=nB MQ (sP PJ) ha hb
theorem oC (ha:aG X G E a ma) (hb:aG X G E b mb):aG X G E (.BinOp a .Mod b pos) (m2 jR ma mb):=nB MR (sP PK) ha hb
theorem yD (ha:aG X G E a ma) (hb:aG X G E b mb):aG X G E (.BinOp a .Pow b pos) (m2 iX ma mb):=nB MT (sP PL) ha hb
theorem yE (ha:aG X G E a ma):aG X G E (.UnaryOp .USub a pos) (m1 jQ ma):=O6 MV R8 ha
theorem tN (g:Good X G E k) (ha:aG X G E a ma) (hb:aG X G E b mb):aG X G E (.Compare a [.Eq] [b] pos) (m2 bZ ma mb):=O2 (DL g.room.units) DM ha hb (oZ _)
theorem SE (ha:aG X G E a ma) (hb:aG X G E b mb):eW X G E (.Compare a [.GtE] [b] pos) (mB (m2 tM ma mb)):=pN MX sO ha hb (oZ _)
theorem qH (g:Good X G E k) (ha:aG X G E a ma) (hb:aG X G E b mb):eW X G E (.Compare a [.Eq] [b] pos) (mB (m2 bZ ma mb)):=pN (DL g.room.units) DM ha hb (oZ _)
theorem jS (g:Good X G E k) (ha:aG X G E a ma) (hb:aG X G E b mb):eW X G E (.Compare a [.NotEq] [b] pos) (mB (m2 bV ma mb)):=pN (PC g.room.units) PF ha hb (oZ _)
variable{c:bj}{mc:M Dv}
theorem SF (ha:aG X G E a ma) (hb:aG X G E b mb) (hc:aG X G E c mc) (hm:lastMarks [.LtE,.LtE] [b,c]=false:=by with_unfolding_all rfl):aG X G E (.Compare a [.LtE,.LtE] [b,c] pos) (nC oB oB ma mb mc):=O5 BO BO sO sO ha hb hc hm
end
def oD:Ty->Option Bool
 | .bl=>some true | .int=>some true | .exc _=>none|_=>some false
def kH:Ty->Option Bool
 | .bl=>some true | .exc _=>none|_=>some false
def kJ:Ty->Option Bool
 | .tup=>some true | .exc _=>none|_=>some false
def fT:Ty->Option Bool
 | .lst=>some true | .exc _=>none|_=>some false
def qI:Ty->Option Bool
 | .tup=>some true | .lst=>some true | .exc _=>none|_=>some false
section
variable{K:ar}{cl:Nat->ah}
theorem SG:∀ty bb,oD ty=some bb->cz K (jN cl ty) (.type "int")=some bb:=by intro ty bb h;cases ty <;> first|(cases h;rfl)|cases h
theorem SH:∀ty bb,kH ty=some bb->cz K (jN cl ty) (.type "bool")=some bb:=by intro ty bb h;cases ty <;> first|(cases h;rfl)|cases h
theorem SI:∀ty bb,kJ ty=some bb->cz K (jN cl ty) (.type "tuple")=some bb:=by intro ty bb h;cases ty <;> first|(cases h;rfl)|cases h
theorem SJ:∀ty bb,fT ty=some bb->cz K (jN cl ty) (.type "list")=some bb:=by intro ty bb h;cases ty <;> first|(cases h;rfl)|cases h
theorem SK:∀ty bb,qI ty=some bb->PySem.W.kitAny K (jN cl ty) [.type "tuple",.type "list"]=some bb:=by intro ty bb h;cases ty <;> first|(cases h;rfl)|cases h
end
theorem SN:dm "int" = some (.type "int"):=by decide +kernel
theorem SO:dm "bool" = some (.type "bool"):=by decide +kernel
theorem SQ:dm "ValueError" = some (.type "ValueError"):=by decide +kernel
def cT (nn:Option Bool) (tbl:List (Nat×Bool)):Ty->Option Bool
 | .exc c=>tbl.lookup c
 | .non=>nn
 |_=>none
section
variable{X:Cx}{G:Cfg}{E:XK}{a:bj}{ma:M Dv}{p q r pos:Pos}
theorem SS (hg:Gl X "isinstance") (hm:X.mg "isinstance" = none) (hg':Gl X "int") (hm':X.mg "int" = none) (ha:aG X G E a ma) (he:ax [a,.Name "int" q] X.env=[(false,eval a X.env),(false,eval (.Name "int" q) X.env)]:=by rfl):
  aG X G E (.Call (.Name "isinstance" p) [a,.Name "int" q] [] pos) (m1 (aR oD) ma):=nX hg hm ha (lZ hg' hm' SN) (.inl ⟨_,rfl⟩) rfl SG (λc bb h=>by cases h) he
theorem yF (hg:Gl X "isinstance") (hm:X.mg "isinstance" = none) (hg':Gl X "bool") (hm':X.mg "bool" = none) (ha:aG X G E a ma) (he:ax [a,.Name "bool" q] X.env=[(false,eval a X.env),(false,eval (.Name "bool" q) X.env)]:=by rfl):
  aG X G E (.Call (.Name "isinstance" p) [a,.Name "bool" q] [] pos) (m1 (aR kH) ma):=nX hg hm ha (lZ hg' hm' SO) (.inl ⟨_,rfl⟩) rfl SH (λc bb h=>by cases h) he
theorem yG (hg:Gl X "isinstance") (hm:X.mg "isinstance" = none) (hg':Gl X "tuple") (hm':X.mg "tuple" = none) (ha:aG X G E a ma) (he:ax [a,.Name "tuple" q] X.env=[(false,eval a X.env),(false,eval (.Name "tuple" q) X.env)]:=by rfl):
  aG X G E (.Call (.Name "isinstance" p) [a,.Name "tuple" q] [] pos) (m1 (aR kJ) ma):=nX hg hm ha (lZ hg' hm' xJ) (.inl ⟨_,rfl⟩) rfl SI (λc bb h=>by cases h) he
theorem yH (hg:Gl X "isinstance") (hm:X.mg "isinstance" = none) (hg':Gl X "list") (hm':X.mg "list" = none) (ha:aG X G E a ma) (he:ax [a,.Name "list" q] X.env=[(false,eval a X.env),(false,eval (.Name "list" q) X.env)]:=by rfl):
  aG X G E (.Call (.Name "isinstance" p) [a,.Name "list" q] [] pos) (m1 (aR fT) ma):=nX hg hm ha (lZ hg' hm' sR) (.inl ⟨_,rfl⟩) rfl SJ (λc bb h=>by cases h) he
theorem SU:∀us',yg [.ty "tuple",.ty "list"] us'->us'=[.type "tuple",.type "list"]:=by
 intro us' h
 cases h with
 |cons r rr=>
  cases rr with
  |cons r' rr=>
   cases rr
   cases r;cases r'
   rfl
theorem SV {kt:Nat}{p':Pos}(hg:Gl X "isinstance") (hm:X.mg "isinstance" = none) (hg':Gl X "tuple") (hm':X.mg "tuple" = none) (hg'':Gl X "list") (hm'':X.mg "list" = none) (ha:aG X G E a ma)
  (he:ax [a,.Tuple [.Name "tuple" q,.Name "list" r] kt p] X.env=[(false,eval a X.env),(false,eval (.Tuple [.Name "tuple" q,.Name "list" r] kt p) X.env)]:=by rfl):
  aG X G E (.Call (.Name "isinstance" p') [a,.Tuple [.Name "tuple" q,.Name "list" r] kt p] [] pos) (m1 (aR qI) ma):=
 QZ (cs:=[.ty "tuple",.ty "list"]) hg hm ha (eS (lZ hg' hm' xJ) (eS (lZ hg'' hm'' sR) gS)) (by decide) SU SK (λc bb h=>by cases h) he
theorem iY {x:Str}{C:ah}{nn:Option Bool}{tbl:List (Nat×Bool)}(hg:Gl X "isinstance") (hm:X.mg "isinstance" = none) (hg':Gl X x) (hm':X.mg x=some (.ref C)) (ha:aG X G E a ma)
  (hn:∀b,nn=some b->cz G.K (.type "NoneType") (.ref C)=some b) (ht:∀c b,tbl.lookup c=some b->cz G.K (.ref (G.cl c)) (.ref C)=some b/\zw G.K (G.cl c)) (hd:(x==("__debug__" : Str))=false:=by decide)
  (he:ax [a,.Name x q] X.env=[(false,eval a X.env),(false,eval (.Name x q) X.env)]:=by rfl) (Ag:ax [.Name x q] X.env=[(false,eval (.Name x q) X.env)]:=by rfl):
  aG X G E (.Call (.Name "isinstance" p) [a,.Name x q] [] pos) (m1 (aR (cT nn tbl)) ma):=
 nX hg hm ha (BF (v:=.ref C) hg' hm' rfl hd) (.inr ⟨_,rfl⟩) rfl (λty bb h=>by
  cases ty with
  |exc c=>exact(ht c bb h).1
  |non=>exact hn bb h
  |_=>cases h) (λc bb h=>(ht c bb h).2) he Ag
theorem SW {nn:Option Bool}{tbl:List (Nat×Bool)}(hg:Gl X "isinstance") (hm:X.mg "isinstance" = none) (hg':Gl X "ValueError") (hm':X.mg "ValueError" = none) (ha:aG X G E a ma)
  (hn:∀b,nn=some b->cz G.K (.type "NoneType") (.type "ValueError")=some b) (ht:∀c b,tbl.lookup c=some b->cz G.K (.ref (G.cl c)) (.type "ValueError")=some b/\zw G.K (G.cl c))
  (he:ax [a,.Name "ValueError" q] X.env=[(false,eval a X.env),(false,eval (.Name "ValueError" q) X.env)]:=by rfl):
  aG X G E (.Call (.Name "isinstance" p) [a,.Name "ValueError" q] [] pos) (m1 (aR (cT nn tbl)) ma):=
 nX hg hm ha (lZ hg' hm' SQ) (.inl ⟨_,rfl⟩) rfl (λty bb h=>by
  cases ty with
  |exc c=>exact(ht c bb h).1
  |non=>exact hn bb h
  |_=>cases h) (λc bb h=>(ht c bb h).2) he
end
section
variable{P:bg}{w:cf}{K:ar}{mg:Str->Option ae}{base:ck}{f:ah}{G:Cfg}{k:Nat}{N:xw}
theorem SX {x qual:Str}{st:ja}{fd:cg}{ps:xw}{mb:MS}(Fn:zu K x qual st f fd) (S:yh N ps (aU st)) (hK:K=G.K)
  (y8:∀(cdv:ae) (A:bp) (outer:List Env) (s:af) (H:Hp) (E₀ E:XK),fd.code=cdv->Good (eU (bE P w base) P w K mg base N qual (aU st) f cdv A outer s H E₀) G E k->iD (eU (bE P w base) P w K mg base N qual (aU st) f cdv A outer s H E₀) G E (hY st) mb):
  yu P w K mg base (bE P w base) (k+1) f fd ps (cS G (bA ps.length N.length mb)):=by
 obtain⟨oc,od,kV,doc,pm,an,cdv,ct,osl,rfl,lk,hcd⟩:=Fn.ex;have hlen:∀vs H Q E,cS G (bA ps.length N.length mb) vs H Q E->vs.length=ps.length:=λvs H Q E ⟨μ,h,ds,r,sm,o⟩=>by
  rw[r.length];unfold bA at o
  by_cases hd:ds.length=ps.length
  ·exact hd
  ·rw[if_neg hd]at o;exact o.elim
 refine wL lk hcd S hlen λA outer s H vs Q E hr hsp=>?_;have hl:=hlen _ _ _ _ hsp;obtain⟨μ,h,ds,r,sm,o⟩:=hsp;have o':Out G E μ h.length H (bW (mb (bS N.length ds) h)) (yf G) Q:=by unfold bA at o;rw[if_pos (by rw[<-r.length];exact hl)]at o;exact o
 refine⟨_,y8 cdv A outer s H E (EB G μ h.length H (mb (bS N.length ds) h)) rfl (xU hr hK (λu H' ⟨c,h',μ',er,x,s',fl⟩=>?_) xV) hK, ?_⟩
 ·rw[er]at o';exact o' μ' H' u x s' fl
 ·refine⟨μ,bS N.length ds,h,EG r N,sm, ?_⟩
  cases q:mb (bS N.length ds) h with
  |bad=>rw[q]at o';exact o'.elim
  |bk ρ h'=>rw[q]at o';exact o'.elim
  |ct ρ h'=>rw[q]at o';exact o'.elim
  |rt d h'=>rw[q]at o';exact o'
  |nx ρ h'=>rw[q]at o';exact λμ' H' σ' x' s' rs'=>o' μ' H' .non x' s' rfl
  |ex c h'=>exact λμ' H' u x' s' fl=>⟨c,h',μ',rfl,x',s',fl⟩
theorem SY {fd:cg}{ps:xw}:yu P w K mg base (bE P w base) k f fd ps (cS G (λ_ _=>.bad)):=⟨λvs H Q E ⟨_,_,_,_,_,o⟩=>o.elim,λ_ _ _ _ _ _ _ _ _ _ _ _ _ ⟨_,_,_,_,_,o⟩=>o.elim⟩
end
section
variable{X:Cx}{G:Cfg}{E:XK}{k:Nat}{q x:Str}{p pos lpos:Pos}{params:ka}{body:bj}{scope os:gn}{c P fr:ah}{fdr:cg}{Nl oN:xw}{me:M Dv}{n ncl j:Nat}{mb:MS}{caps:xv}
theorem yI (g:Good X G E k) (hj:j<=k) (hfn:∀y,X.fn y=true)
  (F:∀base,X.K.In base->base.Ns cp X.mg->yu X.prog X.w X.K X.mg base (bE X.prog X.w base) j fr fdr [x] (tH G base Nl params body scope me n ncl mb))
  (hg:Gl X q) (hm:X.mg q=some (.ref fr)) (hk:jt X.K (.ref fr)=true) (hb:Binds X.K fdr [x] [])
  (Bg:defaultsOf params X.env=([],[])) (hq:X.env.qual ++ "<lambda>" = G.lq) (hP:G.tab=some P) (Ak:X.env.code=.ref c) (hC:jv X.base c P) (hB:jO X.mg X.base)
  (LS:yx Nl scope) (hs:X.env.scope.names=os.names) (hN:X.N=oN) (Aj:∀y∈Nl,os.names.lookup y=some .cell) (Bb:caps.length=Nl.length) (hcap:∀z∈caps.zip Nl,oN[z.1]?=some z.2)
  (Ao:(q==("__debug__" : Str))=false:=by decide) (he:ax [.Lambda params body scope lpos] X.env=[(false,eval (.Lambda params body scope lpos) X.env)]:=by rfl):
  aG X G E (.Call (.Name q p) [.Lambda params body scope lpos] [] pos) (iE caps n ncl mb me):=
 R4 g hj hfn F hg hm hk hb Bg hq hP Ak hC hB LS (λy hy=>by rw[hs];exact Aj y hy) Bb (λi j y e1 e2=>by rw[hN];exact hcap (j,y) (cm (i:=i) (p6.mpr ⟨e1,e2⟩))) Ao he
end
def hJ:Dv->Bool
 | .scr=>false
 |_=>true
def cA (x y:Dv) (h:Hs):Rs Dv:=if hJ x=true then iC [] x y h else .bad
def dP (x:Dv) (h:Hs):Rs Dv:=if hJ x=true then gD [] x h else .bad
def fU (x:Dv) (h:Hs):Rs Dv:=if hJ x=true then lV [] x h else .bad
theorem FI {scr:xu}{x:Dv}{h:Hs}(e:hJ x=true):fR [] x h=fR scr x h:=by cases x <;> first|rfl|cases e
section
variable{X:Cx}{G:Cfg}{E:XK}{k:Nat}{a b e:bj}{es:List bj}{ma mb:M Dv}{aQ:M yb }{p pos:Pos}
theorem S1:dW G (wR G.K) cA:=by
 intro E μ h H x y vx vy Q s rx ry o;unfold cA at o
 split at o
 ·rename_i hx;refine DN E μ h H x y vx vy Q s rx ry ?_;have e:iC G.scr x y h=iC [] x y h:=by cases x <;> cases y <;> first|rfl|exact absurd hx (by decide)
  rw[e];exact o
 ·exact o.elim
theorem S2:iB G (DS G.K) dP:=by
 intro E μ h H x vx Q s rx o;unfold dP at o
 split at o
 ·rename_i hx;refine DT E μ h H x vx Q s rx ?_;unfold gD at o ⊢;rw[<-FI hx];exact o
 ·exact o.elim
theorem S3:iB G (λx H Q=>∃p ys,x=.ref p/\(y9 G.K H p ys∨yt G.K H p ys)/\∀l,H l=none->Q (.ref l) (aJ H l (.lst ys))) fU:=by
 intro E μ h H x vx Q s rx o;unfold fU at o
 split at o
 ·rename_i hx;refine P0 E μ h H x vx Q s rx ?_;unfold lV at o ⊢;rw[<-FI hx];exact o
 ·exact o.elim
theorem fV (ha:aG X G E a ma) (hb:aG X G E b mb) (hs:wQ b:=by intro _ _;rfl):aG X G E (.Subscript a b pos) (m2 cA ma mb):=λhK=>PE.imp (CJ (by have:=CN (X:=X);rw[hK]at this;exact this) (ha hK) (hb hK) hs) λ_ _ _ t=>pM S1 t
theorem mG (hg:Gl X "len") (hm:X.mg "len" = none) (ha:cX X G E (e::es) aQ)
  (he:ax (e::es) X.env=(false,eval e X.env)::ax es X.env:=by rfl) (zh:(backTo pos (ax es X.env)).any (·.1)=false:=by rfl):aG X G E (.Call (.Name "len" p) (e::es) [] pos) (aE (f1 dP) aQ):=λhK=>
 nI (ym.imp (CO (X:=X)) λxs H Q ⟨v,h1,a,ys,h2,h3,h4⟩=>⟨a,ys,by rw[h1,h2],by rw[hK];exact h3,h4⟩) (nJ S2) hg hm PySem.boot_len ha (by decide) (by decide) he zh hK
theorem yJ (hg:Gl X "list") (hm:X.mg "list" = none) (ha:cX X G E (e::es) aQ)
  (he:ax (e::es) X.env=(false,eval e X.env)::ax es X.env:=by rfl) (zh:(backTo pos (ax es X.env)).any (·.1)=false:=by rfl):aG X G E (.Call (.Name "list" p) (e::es) [] pos) (aE (f1 fU) aQ):=λhK=>
 DP (ym.imp (OA (X:=X)) λxs H Q ⟨v,h1,a,ys,h2,h3,h4⟩=>⟨a,ys,by rw[h1,h2],by rw[hK];exact h3,h4⟩) (nJ S3) hg hm sR ha (by decide) (by decide) he zh hK
end
theorem S4 (h l:Hs) (k:Nat):getL (h++l) (h.length+k)=getL l k:=by unfold getL;rw[fh (by omega),show h.length+k - h.length=k by omega]
theorem S5 (h l:Hs):getL (h++l) h.length=getL l 0:=S4 h l 0
def dZ:Dv->Option Int
 | .int i=>some i
 |_=>none
theorem mH {G:Cfg}{μ:Nat->ah}{n:Nat}{H:Hp}:∀{xs:yb}{vs:List V}{ns:xu},RelDL G μ n H xs vs->aY dZ xs=some ns->vs=ns.map V.int
 | [],_,ns,r,e=>by cases e;rw[RelDL]at r;subst r;rfl
 |x::xs,_,ns,r,e=>by
  rw[RelDL]at r;obtain⟨v,rr,rfl,r1,r2⟩:=r;unfold aY at e
  cases x with
  |int i=>
   dsimp only[dZ]at e
   cases q:aY dZ xs with
   |none=>rw[q]at e;cases e
   |some zs=>rw[q]at e;cases e;rw[yf]at r1;subst r1;rw[mH r2 q];rfl
  |_=>cases e
def mI (x:Int):xu->xu
 | []=>[x]
 |y::ys=>if x<=y then x::y::ys else y::mI x ys
def iH:xu->xu
 | []=>[]
 |x::xs=>mI x (iH xs)
theorem lD (x:Int):∀ys,(mI x ys).Perm (x::ys)
 | []=>sy _
 |y::ys=>by
  unfold mI
  split
  ·exact sy _
  ·exact((lD x ys).cons y).trans (t9 x y ys)
theorem tO:∀xs,(iH xs).Perm xs
 | []=>sy _
 |x::xs=>(lD x (iH xs)).trans ((tO xs).cons x)
theorem FJ (x:Int):∀ys,ys.Pairwise (·<=·)->(mI x ys).Pairwise (·<=·)
 | [],_=>by simp[mI]
 |y::ys,h=>by
  have h1:=dj.mp h;unfold mI
  split
  ·rename_i hxy;refine dj.mpr ⟨λz hz=>?_,h⟩
   rcases ba.mp hz with rfl|hz
   ·exact hxy
   ·exact Int.le_trans hxy (h1.1 z hz)
  ·rename_i hxy;refine dj.mpr ⟨λz hz=>?_,FJ x ys h1.2⟩
   rcases ba.mp ((lD x ys).subset hz)with rfl|hz
   ·omega
   ·exact h1.1 z hz
theorem FK:∀xs,(iH xs).Pairwise (·<=·)
 | []=>nt
 |x::xs=>FJ x _ (FK xs)
theorem S6 {ms ns:xu}(hp:ms.Perm ns) (hs:ms.Pairwise (·<=·)):ms=iH ns:=List.Perm.eq_of_pairwise (le:=(·<=·)) (λa b _ _ h1 h2=>Int.le_antisymm h1 h2) hs (FK ns) (hp.trans (tO ns).symm)
theorem S7 (xs:xu):(iH xs).length=xs.length:=(tO xs).length_eq
section
variable{X:Cx}{G:Cfg}{E:XK}{e a b:bj}{es:List bj}{ma mb:M Dv}{aQ:M yb }{p pos:Pos}
theorem FL:∀{vs:List ae}{ns:xu},yg (ns.map V.int) vs->km vs ns
 | [],[],_=>.nil
 | [],n::ns,h=>by cases h
 |v::vs,[],h=>by cases h
 |v::vs,n::ns,h=>by
  cases h with
  |cons h1 h2=>obtain⟨t,rfl⟩:=h1;exact .cons _ _ (FL h2)
theorem pD:∀{vs:List ae}{ns:xu},km vs ns->yg (ns.map V.int) vs
 |_,_,.nil=>.nil
 |_,_,.cons _ _ h=>.cons ⟨_,rfl⟩ (pD h)
theorem S8:ym X (.builtin "sorted") (λxs H Q=>∃(p:ah) (ns:xu),xs=[.ref p]/\H p=some (.lst (ns.map V.int))/\ns.length<64/\∀l,H l=none->Q (.ref l) (aJ H l (.lst ((iH ns).map V.int)))):=by
 intro pins s σ H xs us Q I rv ⟨p,ns,e,hp,h0,q⟩;subst e;obtain⟨u,rfl,ru⟩:=gR rv;cases ru;obtain⟨its,rits,pl,hz⟩:=I.list (y9.of hp);have hl:=rits.length;rw[bf]at hl;refine sorted_ints pl.isList (FL rits) (by omega) λout ns' a1 a2 a3=>?_;obtain⟨ep,he⟩:=sortedAll_at s.heap its out;have hu:=S6 a2 a3;subst hu;refine⟨.ref (s.heap.objs.size+1),_,I.laid (t':=s.toks) (λb u hb=>sortedAll_old hb) (ue _) (show yi X.prog X.w _ _ _ (.lst ((iH ns).map V.int)) from⟨?_,out.toList,ep,pD a1, ?_⟩),rfl,q _ (I.hok.fresh (ue _))⟩
 ·rw[bf,S7];exact da (fv h0) (by decide)
 ·rw[he]
theorem yK:dm "sorted" = some (.builtin "sorted"):=by decide +kernel
def qJ (x:Dv) (h:Hs):Rs Dv:=match x with
 | .ref i=>match getL h i with
  |some xs=>match aY dZ xs with
   |some ns=>if ns.length<64 then .ok (.ref h.length) (h++[.lst ((iH ns).map Dv.int)])else .bad
   |none=>.bad
  |none=>.bad
 |_=>.bad
theorem S9:iB G (λx H Q=>∃(p:ah) (ns:xu),x=.ref p/\H p=some (.lst (ns.map V.int))/\ns.length<64/\∀l,H l=none->Q (.ref l) (aJ H l (.lst ((iH ns).map V.int)))) qJ:=by
 intro E μ h H x vx Q s r o
 cases x with
 |ref i=>
  dsimp only[qJ]at o
  cases q:getL h i with
  |none=>rw[q]at o;exact o.elim
  |some xs=>
   rw[q]at o;dsimp only at o
   cases q2:aY dZ xs with
   |none=>rw[q2]at o;exact o.elim
   |some ns=>
    rw[q2]at o;dsimp only at o
    split at o
    ·rename_i h0;obtain⟨vs,e1,r1⟩:=s.ob i _ (cE q);obtain⟨_,rfl⟩:=r;exact⟨_,ns,rfl,by rw[e1,mH r1 q2],h0,λl hl=>kE s (nG _) hl o⟩
    ·exact o.elim
 |_=>exact o.elim
end
section
variable{X:Cx}{G:Cfg}{E:XK}{e o a b:bj}{es:List bj}{ma mb mo me:M Dv}{aQ:M yb }{p pos np apos cpos:Pos}{y:Str}
def yL (_ j:Int):Prop:=0<j/\j<18446744073709551616
theorem TB:zg X (binaryOp .FloorDiv) (rI yL λi j=>.int (i / j)):=rS λi j _ _ _ _ _ hc q=>by
 have h1:(0:Int)<j:=hc.1;have h2:j<18446744073709551616:=hc.2;refine floordiv_int (by omega) (by rw[Int.fdiv_eq_ediv_of_nonneg i (by omega)];exact q) (.inl (PyProof.noPylong_of_log2 ?_));have h3:j.natAbs≠0:=by omega
 have h4:j.natAbs<2 ^ 64:=by omega
 have:=(Nat.log2_lt h3).mpr h4;omega
def qK (_ j:Int):Bool:=decide (0<j)&&decide (j<18446744073709551616)
theorem TF (i j:Int) (h:qK i j=true):yL i j:=by unfold qK at h;unfold yL;simpa only[dh,decide_eq_true_eq]using h
def qL:Dv->Dv->Hs->Rs Dv:=iP qK λi j=>.int (i / j)
theorem FN (ha:aG X G E a ma) (hb:aG X G E b mb):aG X G E (.BinOp a .FloorDiv b pos) (m2 qL ma mb):=nB TB (sP TF) ha hb
def FO (K:ar):R2:=λx y H Q=>∃a b ys,x=.ref a/\y=.ref b/\yt K H a []/\yt K H b ys/\Q (.ref b) H
theorem op_catT0:zg X (binaryOp .Add) (FO X.K):=by
 intro pins s σ H x y v u Q I rx ry ⟨a,b,ys,e1,e2,ha,hb,q⟩;subst e1;subst e2;cases rx;cases ry;obtain⟨its,r1,p1,_⟩:=I.tuple ha;obtain⟨zf,r2,p2,_⟩:=I.tuple hb;have hn:its=[]:=r1.nil_iff.mpr rfl;subst hn;obtain⟨⟨cls,dd,data,sl⟩,ho,hc,n,hd⟩:=p1;obtain⟨⟨cls2,dd2,data2,sl2⟩,ho2,hc2,n2,hd2⟩:=p2;simp only at hc hd hc2 hd2;subst hc hd hc2 hd2;exact concat_meets ⟨_,ho,rfl⟩ ⟨_,ho2,rfl⟩ v5 xh ph p7 (p0 _ _)
  (tuple_addW0 a b _ _ n n2 dd dd2 sl sl2 rfl) ⟨ho,ho2,⟨.ref b,H,I,rfl,q⟩⟩
def bR (x y:Dv) (h:Hs):Rs Dv:=match x,y with
 | .tup [],.tup ys=>.ok (.tup ys) h
 |x,y=>nF x y h
theorem TH:dW G (λx y H Q=>FO G.K x y H Q∨xH G.K x y H Q) bR:=by
 intro E μ h H x y vx vy Q s rx ry o;unfold bR at o
 split at o
 ·rename_i ys;obtain⟨a,vs,rfl,ea,ra⟩:=rx;obtain⟨b,ws,rfl,eb,rb⟩:=id ry;have:vs=[]:=by rw[RelDL]at ra;exact ra
  subst this;exact .inl ⟨a,b,ws,rfl,rfl,yt.of ea,yt.of eb,o.val s ry⟩
 ·exact .inr (PN E μ h H _ _ vx vy Q s rx ry o)
theorem gK (ha:aG X G E a ma) (hb:aG X G E b mb):aG X G E (.BinOp a .Add b pos) (m2 bR ma mb):=λhK=>nB (op_catT0.or PM) (by rw[hK];exact TH) ha hb hK
end
theorem lE {H:Hs}{n:Nat}{xs ys:yb}(e:getL H n=some xs):getL (H.set n (.lst ys)) n=some ys:=by have h:=(ay.mp (cE e)).1;unfold getL;rw[cx h]
theorem lF {H:Hs}{n j:Nat}{o:Ob}(h:n≠j):getL (H.set n o) j=getL H j:=by unfold getL;rw[dw h]
theorem mJ {H:Hs}{n:Nat}{xs:yb}(e:getL H n=some xs):n<H.length:=(ay.mp (cE e)).1
theorem iI {H l:Hs}{n:Nat}{xs:yb}(e:getL H n=some xs):getL (H++l) n=some xs:=by unfold getL;rw[dk (mJ e),cE e]
structure Fr (S:xv) (H H':Hs):Prop where
 le:H.length<=H'.length
 at_:∀j,j<H.length->j∉S->H'[j]?=H[j]?
theorem Fr.refl {S:xv}{H:Hs}:Fr S H H:=⟨ak _,λ_ _ _=>rfl⟩
theorem Fr.trans {S T:xv}{H H1 H2:Hs}(a:Fr S H H1) (b:Fr T H1 H2) (h:∀j∈T,j∈S∨H.length<=j):Fr S H H2:=⟨da a.le b.le,λj hj hS=>(b.at_ j (aq hj a.le) λz=>(h j z).elim hS λw=>absurd (aq hj w) (fy _)).trans (a.at_ j hj hS)⟩
theorem Fr.app {S:xv}{H l:Hs}:Fr S H (H++l):=⟨by simp,λj hj _=>dk hj⟩
theorem Fr.set {H:Hs}{n:Nat}{o:Ob}:Fr [n] H (H.set n o):=⟨by simp,λj hj hS=>dw (by simpa using cu (by simpa using hS))⟩
theorem Fr.getL {S:xv}{H H':Hs}{j:Nat}{xs:yb}(a:Fr S H H') (e:getL H j=some xs) (h:j∉S):getL H' j=some xs:=by unfold L2.Mr.getL at e ⊢;rw[a.at_ j (mJ e) h];exact e
theorem Fr.mono {S T:xv}{H H':Hs}(a:Fr S H H') (h:∀j∈S,j∈T):Fr T H H':=⟨a.le,λj hj hT=>a.at_ j hj λz=>hT (h j z)⟩
theorem bF {m u:MS}{ρ ρ1:Ev}{h h1:Hs}(e:m ρ h=.nx ρ1 h1):aK m u ρ h=u ρ1 h1:=by unfold aK;rw[e]
theorem yM {mi:M Src}{st:cI}{b:MS}{ρ:Ev}{h h1:Hs}{src:Src}(e:mi ρ h=.ok src h1):eZ mi st b ρ h=eM src st b src.n 0 ρ h1:=by unfold eZ;rw[e];rfl
theorem qM {c:M Bool}{t u:MS}{ρ:Ev}{h h1:Hs}(e:c ρ h=.ok true h1):aV c t u ρ h=t ρ h1:=by unfold aV;rw[e];rfl
theorem kK {c:M Bool}{t u:MS}{ρ:Ev}{h h1:Hs}(e:c ρ h=.ok false h1):aV c t u ρ h=u ρ h1:=by unfold aV;rw[e];rfl
theorem yN {src:Src}{sg:cI}{b:MS}{f k:Nat}{ρ ρ1 ρ2:Ev}{H H2:Hs}{d:Dv}(hg:src.get k H=some d) (hs:sg d ρ=some ρ1) (hb:b ρ1 H=.nx ρ2 H2):eM src sg b (f+1) k ρ H=eM src sg b f (k+1) ρ2 H2:=by simp[eM,hg,hs,hb]
theorem FP {src:Src}{sg:cI}{b:MS}(P:Nat->Ev->Hs->Prop)
  (step:∀k ρ H,k<src.n->P k ρ H->∃d ρ1 ρ2 H2,src.get k H=some d/\sg d ρ=some ρ1/\b ρ1 H=.nx ρ2 H2/\P (k+1) ρ2 H2)
  (fin:∀ρ H,P src.n ρ H->src.fin H=true):∀(f k:Nat) (ρ:Ev) (H:Hs),f+k=src.n->P k ρ H->∃ρ' H',eM src sg b f k ρ H=.nx ρ' H'/\P src.n ρ' H'
 |0,k,ρ,H,h,p=>by
  have hk:k=src.n:=by omega
  subst hk;exact⟨ρ,H,by simp[eM,fin ρ H p],p⟩
 |f+1,k,ρ,H,h,p=>by obtain⟨d,ρ1,ρ2,H2,e1,e2,e3,p2⟩:=step k ρ H (by omega) p;rw[yN e1 e2 e3];exact FP P step fin f (k+1) ρ2 H2 (by omega) p2
theorem FQ {mi:M Src}{src:Src}{sg:cI}{b:MS}{ρ:Ev}{H H1:Hs}(hi:mi ρ H=.ok src H1) (P:Nat->Ev->Hs->Prop)
  (step:∀k ρ H,k<src.n->P k ρ H->∃d ρ1 ρ2 H2,src.get k H=some d/\sg d ρ=some ρ1/\b ρ1 H=.nx ρ2 H2/\P (k+1) ρ2 H2)
  (fin:∀ρ H,P src.n ρ H->src.fin H=true) (p:P 0 ρ H1):∃ρ' H',eZ mi sg b ρ H=.nx ρ' H'/\P src.n ρ' H':=by
 rw[yM hi];exact FP P step fin src.n 0 ρ H1 (by omega) p
theorem FR (k:Nat) (H:Hs):∀ns:xu,aY (bI (k+1) H) (ns.map Dv.int)=some (ns.map Dt.int)
 | []=>rfl
 |n::ns=>by rw[dy,aY,FR k H ns];rfl
def aI (p:Int×Int):Dv:=.tup [.int p.1,.int p.2]
def lG (p:Int×Int):Dt:=.tup [.int p.1,.int p.2]
theorem TJ (k:Nat) (H:Hs) (p:Int×Int):bI (k+2) H (aI p)=some (lG p):=rfl
theorem FT (k:Nat) (H:Hs):∀ps:xq,aY (bI (k+2) H) (ps.map aI)=some (ps.map lG)
 | []=>rfl
 |p::ps=>by rw[dy,aY,FT k H ps,TJ];rfl
theorem TL (p q:Int×Int):bG (lG p) (lG q)=decide (p=q):=by obtain⟨a,b⟩:=p;obtain⟨c,d⟩:=q;simp only[lG,bG,eV,Bool.and_true];rw[jr];simp
end L2.Mr
namespace SoM
open PySem PySem.W PyProof.Rows
variable{n:Nat}{f:Nat->Nat}{s:af}
def kL (n:Nat) (f:Nat->Nat) (i j:Nat) (C:Bool->af->Prop) (s:af):Prop:=i<n/\j<n/\C (decide (f i<f j)) s
def F (f:Nat->Nat) (p:Array Nat) (k:Nat):Nat:=f (p.getD k 0)
def Ent (n:Nat) (p:Array Nat):Prop:=p.size=n/\p.toList.Perm (bx n)
theorem Ent.lt {p:Array Nat}(e:Ent n p) (hn:0<n) (k:Nat):p.getD k 0<n:=by
 by_cases h:k<p.size
 ·have:p.getD k 0=p[k]:=by simp[jk,h]
  rw[this];have hm:p[k]∈p.toList:=by simp
  exact bq.mp (e.2.mem_iff.mp hm)
 ·have:p.getD k 0=0:=by simp[jk,h]
  omega
theorem qN {p q:Array Nat}{i j:Nat}(h:p[i]?=q[j]?):F f p i=F f q j:=by unfold F;simp only[Array.getD_eq_getD_getElem?,h]
theorem Ent.mirror {p:Array Nat}(e:Ent n p) (i j d:Nat):Ent n (mirror p i j d):=⟨(mirror_size ..).trans e.1,((ui.mp (mirror_perm p i j d))).trans e.2⟩
theorem Ent.bubble {p:Array Nat}(e:Ent n p) (k d:Nat):Ent n (bubble p k d):=⟨(bubble_size ..).trans e.1,((ui.mp (bubble_perm p k d))).trans e.2⟩
theorem Ent.rev {p:Array Nat}(e:Ent n p) (i j:Nat):Ent n (kas_rev p i j):=e.mirror _ _ _
theorem qO {p:Array Nat}{i j:Nat}(hj:j<=p.size) (k:Nat):F f (kas_rev p i j) k=if i<=k/\k<j then F f p (i+j - 1 - k)else F f p k:=by
 have e:=getElem?_mirror_all (i:=i) hj k
 by_cases h:i<=k/\k<j
 ·rw[if_pos h]at e ⊢;exact qN e
 ·rw[if_neg h]at e ⊢;exact qN e
theorem FU {p:Array Nat}{k d:Nat}(hs:k<p.size) (hd:d<=k) (i:Nat):F f (bubble p k d) i=if i=k - d then F f p k else if k - d<i/\i<=k then F f p (i - 1)else F f p i:=by
 have e:=getElem?_bubble hs d hd i
 by_cases h1:i=k - d
 ·rw[if_pos h1]at e ⊢;exact qN e
 ·rw[if_neg h1]at e ⊢
  by_cases h2:k - d<i/\i<=k
  ·rw[if_pos h2]at e ⊢;exact qN e
  ·rw[if_neg h2]at e ⊢;exact qN e
def Inc (f:Nat->Nat) (p:Array Nat) (m:Nat):Prop:=∀i j,i<=j->j<m->F f p i<=F f p j
def Dec (f:Nat->Nat) (p:Array Nat) (m:Nat):Prop:=∀i j,i<=j->j<m->F f p j<=F f p i
theorem Inc.succ {p:Array Nat}{m:Nat}(h:Inc f p m) (hm:1<=m) (h1:F f p (m - 1)<=F f p m):Inc f p (m+1):=by
 intro i j zl hj
 by_cases q:j=m
 ·subst q
  by_cases r:i=j
  ·subst r;exact ak _
  ·exact da (h i (j - 1) (by omega) (by omega)) h1
 ·exact h i j zl (by omega)
theorem Dec.succ {p:Array Nat}{m:Nat}(h:Dec f p m) (hm:1<=m) (h1:F f p m<=F f p (m - 1)):Dec f p (m+1):=by
 intro i j zl hj
 by_cases q:j=m
 ·subst q
  by_cases r:i=j
  ·subst r;exact ak _
  ·exact da h1 (h i (j - 1) (by omega) (by omega))
 ·exact h i j zl (by omega)
theorem yO {p:Array Nat}(e:Ent n p) (hn:0<n) {Q:Nat->af->Prop}:∀(fu m:Nat) (s:af),1<=m->Inc f p m->
  (∀m',m<=m'->m'<=m+fu->Inc f p m'->(m'=m+fu∨F f p m'<F f p (m' - 1))->Q m' s)->(kas_asc p fu m).kasWp (kL n f) Q s
 |0,m,s,h1,hi,h=>h m (ak _) (ak _) hi (.inl rfl)
 |fu+1,m,s,h1,hi,h=>by
  refine⟨e.lt hn _,e.lt hn _, ?_⟩
  by_cases c:f (p.getD m 0)<f (p.getD (m - 1) 0)
  ·rw[decide_eq_true c];exact h m (ak _) (by omega) hi (.inr c)
  ·rw[decide_eq_false c];refine yO e hn fu (m+1) s (by omega) (hi.succ h1 (Nat.le_of_not_lt c)) λm' a b c d=>h m' (by omega) (by omega) c ?_
   rcases d with d|d
   ·exact .inl (by omega)
   ·exact .inr d
theorem tP (hn:0<n) {Q:Array Nat×Nat×Nat->af->Prop}:∀(fu m q:Nat) (p:Array Nat) (s:af),Ent n p->q+1<=m->m+fu<=n->Dec f p m->(∀k,m - 1 - q<=k->k<m->F f p k=F f p (m - 1))->
  (∀p' m' q',Ent n p'->q'+1<=m'->m<=m'->m'<=m+fu->Dec f p' m'->(∀k,m' - 1 - q'<=k->k<m'->F f p' k=F f p' (m' - 1))->Q (p',m',q') s)->(kas_desc fu p m q).kasWp (kL n f) Q s
 |0,m,q,p,s,e,h1,h2,hd,he,h=>h p m q e h1 (ak _) (ak _) hd he
 |fu+1,m,q,p,s,e,h1,h2,hd,he,h=>by
  refine⟨e.lt hn _,e.lt hn _, ?_⟩
  by_cases c:f (p.getD m 0)<f (p.getD (m - 1) 0)
  ·have c':F f p m<F f p (m - 1):=c;rw[decide_eq_true c];show KasT.kasWp _ (if true=true then(if q>0 then _ else _)else _) _ _;rw[if_pos rfl]
   by_cases hq:q>0
   ·rw[if_pos hq];have hsz:m<=p.size:=by rw[e.1];omega
    have hF:∀k,F f (kas_rev p (m - (q+1)) m) k=F f p k:=by
     intro k;rw[qO hsz]
     split
     ·rw[he _ (by omega) (by omega),he k (by omega) (by omega)]
     ·rfl
    have As:Dec f (kas_rev p (m - (q+1)) m) (m+1):=by intro i j zl hj;rw[hF,hF];exact hd.succ (by omega) (fv c') i j zl hj
    refine tP hn fu (m+1) 0 _ s (e.rev _ _) (by omega) (by omega) As ?_ λp' m' q' a b c d=>h p' m' q' a b (by omega) (by omega);intro k k1 k2;have:k=m:=by omega
    subst this;rfl
   ·rw[if_neg hq];refine tP hn fu (m+1) 0 _ s e (by omega) (by omega) (hd.succ (by omega) (fv c')) ?_ λp' m' q' a b c d=>h p' m' q' a b (by omega) (by omega);intro k k1 k2;have:k=m:=by omega
    subst this;rfl
  ·have c':¬ F f p m<F f p (m - 1):=c;rw[decide_eq_false c];show KasT.kasWp _ (if false=true then _ else KasT.ask _ _ _) _ _;rw[if_neg (by simp)];refine⟨e.lt hn _,e.lt hn _, ?_⟩
   by_cases c2:f (p.getD (m - 1) 0)<f (p.getD m 0)
   ·rw[decide_eq_true c2];exact h p m q e h1 (ak _) (by omega) hd he
   ·have c2':¬ F f p (m - 1)<F f p m:=c2;rw[decide_eq_false c2];have eq:F f p m=F f p (m - 1):=by omega
    refine tP hn fu (m+1) (q+1) _ s e (by omega) (by omega) (hd.succ (by omega) (by omega)) ?_ λp' m' q' a b c d=>h p' m' q' a b (by omega) (by omega);intro k k1 k2;show F f p k=F f p m
    by_cases r:k=m
    ·subst r;rfl
    ·rw[eq];exact he k (by omega) (by omega)
theorem Dec.rev {p:Array Nat}{m:Nat}(hm:m<=p.size) (h:Dec f p m):Inc f (kas_rev p 0 m) m:=by intro i j zl hj;rw[qO hm,qO hm,if_pos ⟨iq _,by omega⟩,if_pos ⟨iq _,hj⟩];exact h _ _ (by omega) (by omega)
theorem FV (hn:0<n) {p:Array Nat}{m:Nat}{Q:Nat×Array Nat->af->Prop}(e:Ent n p) (h1:1<=m) (h2:m<=n) (hd:Dec f p m)
  (h:∀m' p',Ent n p'->1<=m'->m'<=n->Inc f p' m'->Q (m',p') s):(kas_tail3 m n p).kasWp (kL n f) Q s:=by
 unfold kas_tail3;rw[KasT.kasWp_bind];refine yO (e.rev 0 m) hn (n - m) m s h1 (hd.rev (by rw[e.1];exact h2)) λm' a b c _=>?_;exact h m' _ (e.rev 0 m) (by omega) (by omega) c
theorem FW (hn:0<n) {p:Array Nat}{m:Nat}{Q:Nat×Array Nat->af->Prop}(e:Ent n p) (h2:m+1<=n) (hd:Dec f p (m+1))
  (h:∀m' p',Ent n p'->1<=m'->m'<=n->Inc f p' m'->Q (m',p') s):(kas_descPart m n p).kasWp (kL n f) Q s:=by
 unfold kas_descPart;rw[KasT.kasWp_bind];refine tP hn (n - (m+1)) (m+1) 0 p s e (by omega) (by omega) hd (λk k1 k2=>by (have:k=m:=by omega);subst this;rfl) λp' m' q' e' a b c d eq=>?_;show KasT.kasWp _ (if q'>0 then _ else _) _ _
 by_cases hq:q'>0
 ·rw[if_pos hq];have hsz:m'<=p'.size:=by rw[e'.1];omega
  have hF:∀k,F f (kas_rev p' (m' - (q'+1)) m') k=F f p' k:=by
   intro k;rw[qO hsz]
   split
   ·rw[eq _ (by omega) (by omega),eq k (by omega) (by omega)]
   ·rfl
  refine FV hn (e'.rev _ _) (show 1<=m' by omega) (show m'<=n by omega) ?_ h;intro i j zl hj;rw[hF,hF];exact d i j zl hj
 ·rw[if_neg hq];exact FV hn e' (show 1<=m' by omega) (show m'<=n by omega) d h
theorem TM (hn:1<=n) {p:Array Nat}{Q:Nat×Array Nat->af->Prop}(e:Ent n p)
  (h:∀m' p',Ent n p'->1<=m'->m'<=n->Inc f p' m'->Q (m',p') s):(kas_count n p).kasWp (kL n f) Q s:=by
 unfold kas_count;rw[KasT.kasWp_bind];refine yO e (by omega) (n - 1) 1 s (ak _) (λi j zl hj=>by (have:i=j:=by omega);subst this;exact ak _) λm a b c d=>?_;show KasT.kasWp _ (if(m==n)=true then _ else if m>1 then _ else _) _ _
 by_cases q:m=n
 ·rw[if_pos (beq_iff_eq.mpr q)];exact h m p e (by omega) (by omega) c
 ·rw[if_neg (by intro z;exact q (beq_iff_eq.mp z))];have hlt:F f p m<F f p (m - 1):=by
   rcases d with d|d
   ·omega
   ·exact d
  by_cases q1:m>1
  ·rw[if_pos q1];refine⟨e.lt (by omega) _,e.lt (by omega) _, ?_⟩
   by_cases c2:f (p.getD 0 0)<f (p.getD (m - 1) 0)
   ·rw[decide_eq_true c2];exact h m p e (by omega) (by omega) c
   ·have c2':¬ F f p 0<F f p (m - 1):=c2;rw[decide_eq_false c2];have hsz:m<=p.size:=by rw[e.1];omega
    have eq:∀k,k<m->F f p k=F f p 0:=by intro k hk;have:=c 0 k (by omega) hk;have:=c k (m - 1) (by omega) (by omega);omega
    have hF:∀k,F f (kas_rev p 0 m) k=F f p k:=by
     intro k;rw[qO hsz]
     split
     ·rw[eq _ (by omega),eq k (by omega)]
     ·rfl
    refine FW (by omega) (e.rev _ _) (by omega) ?_ h;intro i j zl hj;rw[hF,hF]
    by_cases r:j=m
    ·subst r
     by_cases r2:i=j
     ·subst r2;exact ak _
     ·have:=eq i (by omega);have:=eq (j - 1) (by omega);omega
    ·rw[eq i (by omega),eq j (by omega)];exact ak _
  ·rw[if_neg q1];have:m=1:=by omega
   subst this;refine FW (by omega) e (by omega) ?_ h;intro i j zl hj
   by_cases r:i=j
   ·subst r;exact ak _
   ·have h1:i=0:=by omega
    have h2:j=1:=by omega
    subst h1;subst h2;exact fv hlt
theorem yP {p:Array Nat}(e:Ent n p) (hn:0<n) {k:Nat}(hi:Inc f p k) {Q:Nat->af->Prop}:∀(fu l r:Nat) (s:af),r - l<=fu->l<=r->r<=k->
  (∀i,i<l->F f p i<=F f p k)->(∀i,r<=i->i<k->F f p k<F f p i)->
  (∀l',l'<=k->(∀i,i<l'->F f p i<=F f p k)->(∀i,l'<=i->i<k->F f p k<F f p i)->Q l' s)->(kas_place p k fu l r).kasWp (kL n f) Q s
 |0,l,r,s,h1,h2,h3,ha,hb,h=>by
  have:l=r:=by omega
  subst this;exact h l h3 ha hb
 |fu+1,l,r,s,h1,h2,h3,ha,hb,h=>by
  unfold kas_place
  by_cases q:l>=r
  ·rw[if_pos q];have:l=r:=by omega
   subst this;exact h l h3 ha hb
  ·rw[if_neg q];refine⟨e.lt hn _,e.lt hn _, ?_⟩
   by_cases c:f (p.getD k 0)<f (p.getD ((l+r) / 2) 0)
   ·have c':F f p k<F f p ((l+r) / 2):=c;rw[decide_eq_true c];refine yP e hn hi fu l ((l+r) / 2) s (by omega) (by omega) (by omega) ha ?_ h;intro i i1 i2;have:=hi ((l+r) / 2) i i1 i2;omega
   ·have c':¬ F f p k<F f p ((l+r) / 2):=c;rw[decide_eq_false c];refine yP e hn hi fu ((l+r) / 2+1) r s (by omega) (by omega) (by omega) ?_ hb h;intro i i1;have:=hi i ((l+r) / 2) (by omega) (by omega);omega
theorem FX (hn:0<n) {Q:Array Nat->af->Prop}:∀(fu k:Nat) (p:Array Nat) (s:af),Ent n p->k+fu<=n->Inc f p k->(∀p',Ent n p'->Inc f p' (k+fu)->Q p' s)->(kas_bin fu p k).kasWp (kL n f) Q s
 |0,k,p,s,e,h1,hi,h=>h p e hi
 |fu+1,k,p,s,e,h1,hi,h=>by
  unfold kas_bin;rw[KasT.kasWp_bind];refine yP e hn hi k 0 k s (by omega) (by omega) (ak _) (λi hi=>absurd hi (by omega)) (λi a b=>absurd b (by omega)) λl hl ha hb=>?_;have hsz:k<p.size:=by rw[e.1];omega
  refine FX hn fu (k+1) _ s (e.bubble _ _) (by omega) ?_ λp' e' i'=>h p' e' (by rw[show k+(fu+1)=k+1+fu by omega];exact i');intro i j zl hj;rw[FU hsz (by omega),FU hsz (by omega)];have hkl:k - (k - l)=l:=by omega
  rw[hkl]
  by_cases i1:i=l
  ·rw[if_pos i1]
   by_cases j1:j=l
   ·rw[if_pos j1];exact ak _
   ·rw[if_neg j1,if_pos (by omega)];exact fv (hb (j - 1) (by omega) (by omega))
  ·rw[if_neg i1]
   by_cases i2:l<i/\i<=k
   ·rw[if_pos i2,if_neg (by omega),if_pos (by omega)];exact hi (i - 1) (j - 1) (by omega) (by omega)
   ·rw[if_neg i2]
    by_cases j1:j=l
    ·rw[if_pos j1];exact ha i (by omega)
    ·rw[if_neg j1]
     by_cases j2:l<j/\j<=k
     ·rw[if_pos j2];exact hi i (j - 1) (by omega) (by omega)
     ·rw[if_neg j2];exact hi i j zl (by omega)
theorem TN (hn:1<=n) {Q:Array Nat->af->Prop}(h:∀p,Ent n p->Inc f p n->Q p s):(kas_sort n).kasWp (kL n f) Q s:=by
 unfold kas_sort;rw[KasT.kasWp_bind];refine TM hn ⟨by simp,by simp⟩ λm p e h1 h2 hi=>?_;show KasT.kasWp _ (if m<n then _ else _) _ _
 by_cases q:m<n
 ·rw[if_pos q];have:max m 1=m:=by omega
  rw[this];refine FX (by omega) (n - m) m p s e (by omega) hi λp' e' i'=>h p' e' ?_;rw[show m+(n - m)=n by omega]at i';exact i'
 ·rw[if_neg q];have:m=n:=by omega
  subst this;exact h p e hi
theorem FY {α:Type}{cmp:Nat->Nat->(Bool->af->Prop)->af->Prop}{I:af->Prop}(hc:∀i j C s,I s->i<n->j<n->(∀s',I s'->C (decide (f i<f j)) s')->cmp i j C s):
  ∀(t:KasT α) (Q:α->Prop) (Q':α->af->Prop) (s₀ s:af),t.kasWp (kL n f) (λa _=>Q a) s₀->I s->(∀a s',Q a->I s'->Q' a s')->t.kasWp cmp Q' s
 | .ret a,Q,Q',s₀,s,h,hi,k=>k a s h hi
 | .ask i j c,Q,Q',s₀,s,h,hi,k=>hc i j _ s hi h.1 h.2.1 λs' hi'=>FY hc (c _) Q Q' s₀ s' h.2.2 hi' k
end SoM
namespace L2
structure Ae {α:Type}(lt:α->α->Bool):Prop where
 irr:∀x,lt x x=false
 tr:∀x y z,lt x y=true->lt y z=true->lt x z=true
 tot:∀x y,lt x y=false->lt y x=false->x=y
section
variable{α:Type}{lt:α->α->Bool}
theorem Ae.asy (o:Ae lt) {x y:α}(h:lt x y=true):lt y x=false:=by
 cases q:lt y x with
 |false=>rfl
 |true=>have:=o.tr x y x h q;rw[o.irr]at this;cases this
theorem Ae.lt_le (o:Ae lt) {x y z:α}(h:lt x y=true) (h2:lt z y=false):lt x z=true:=by
 cases q:lt y z with
 |true=>exact o.tr x y z h q
 |false=>rw[<-o.tot y z q h2];exact h
theorem Ae.le_tr (o:Ae lt) {x y z:α}(h:lt y x=false) (h2:lt z y=false):lt z x=false:=by
 cases q:lt z x with
 |false=>rfl
 |true=>have:=o.lt_le q h;rw[h2]at this;cases this
def jT (lt:α->α->Bool) (x:α):List α->List α
 | []=>[x]
 |y::r=>if lt y x then y::jT lt x r else x::y::r
def fW (lt:α->α->Bool):List α->List α
 | []=>[]
 |x::r=>jT lt x (fW lt r)
theorem yQ (x:α):∀l,(jT lt x l).Perm (x::l)
 | []=>.refl _
 |y::r=>by
  unfold jT
  split
  ·exact((yQ x r).cons y).trans (t9 ..)
  ·exact .refl _
theorem qP:∀l,(fW lt l).Perm l
 | []=>.refl _
 |x::r=>(yQ x _).trans ((qP r).cons x)
abbrev dE (lt:α->α->Bool) (l:List α):Prop:=l.Pairwise λa b=>lt b a=false
abbrev eN (lt:α->α->Bool) (l:List α):Prop:=l.Pairwise λa b=>lt a b=true
theorem FZ (o:Ae lt) (x:α):∀l,dE lt l->dE lt (jT lt x l)
 | [],_=>by simp[jT,dE]
 |y::r,h=>by
  have h1:=dj.mp h;unfold jT
  split
  ·rename_i q;refine dj.mpr ⟨λz hz=>?_,FZ o x r h1.2⟩
   rcases ba.mp ((yQ x r).mem_iff.mp hz)with rfl|hz
   ·exact o.asy q
   ·exact h1.1 z hz
  ·rename_i q;have q':lt y x=false:=by simpa using q
   refine dj.mpr ⟨λz hz=>?_,h⟩
   rcases ba.mp hz with rfl|hz
   ·exact q'
   ·exact o.le_tr q' (h1.1 z hz)
theorem F0 (o:Ae lt):∀l,dE lt (fW lt l)
 | []=>nt
 |x::r=>FZ o x _ (F0 o r)
theorem yR (o:Ae lt):∀{l l':List α},dE lt l->dE lt l'->l.Perm l'->l=l'
 | [],l',_,_,p=>(List.nil_perm.mp p).symm
 |x::r,[],_,_,p=>by simp at p
 |x::r,y::r',h,h',p=>by
  have h1:=dj.mp h;have h2:=dj.mp h';have e:x=y:=by
   refine o.tot x y ?_ ?_
   ·rcases ba.mp (p.mem_iff.mp (bc ..))with e|e
    ·rw[e];exact o.irr y
    ·exact h2.1 x e
   ·rcases ba.mp (p.mem_iff.mpr (bc ..))with e|e
    ·rw[e];exact o.irr x
    ·exact h1.1 y e
  subst e;rw[yR o h1.2 h2.2 (List.Perm.cons_inv p)]
theorem yS (o:Ae lt) {l l':List α}(h:dE lt l') (p:l'.Perm l):l'=fW lt l:=yR o h (F0 o l) (p.trans (qP l).symm)
def iZ (lt:α->α->Bool) (x:α):List α->List α
 | []=>[x]
 |y::r=>if lt y x then y::iZ lt x r else if lt x y then x::y::r else y::r
def bT (lt:α->α->Bool):List α->List α
 | []=>[]
 |x::r=>iZ lt x (bT lt r)
theorem yT (o:Ae lt) (x z:α):∀l,z∈iZ lt x l↔z=x∨z∈l
 | []=>by simp[iZ]
 |y::r=>by
  unfold iZ
  split
  ·rw[ba,yT o x z r,ba];constructor
   ·rintro (h|h|h)
    ·exact .inr (.inl h)
    ·exact .inl h
    ·exact .inr (.inr h)
   ·rintro (h|h|h)
    ·exact .inr (.inl h)
    ·exact .inl h
    ·exact .inr (.inr h)
  ·rename_i q1
   split
   ·simp
   ·rename_i q2;have e:=o.tot x y (by simpa using q2) (by simpa using q1);subst e;simp
theorem jA (o:Ae lt) (z:α):∀l,z∈bT lt l↔z∈l
 | []=>.rfl
 |x::r=>by rw[bT,yT o,jA o z r,ba]
theorem F1 (o:Ae lt) (x:α):∀l,eN lt l->eN lt (iZ lt x l)
 | [],_=>by simp[iZ,eN]
 |y::r,h=>by
  have h1:=dj.mp h;unfold iZ
  split
  ·rename_i q;refine dj.mpr ⟨λz hz=>?_,F1 o x r h1.2⟩
   rcases(yT o x z r).mp hz with rfl|hz
   ·exact q
   ·exact h1.1 z hz
  ·split
   ·rename_i q;refine dj.mpr ⟨λz hz=>?_,h⟩
    rcases ba.mp hz with rfl|hz
    ·exact q
    ·exact o.tr _ _ _ q (h1.1 z hz)
   ·exact h
theorem lI (o:Ae lt):∀l,eN lt (bT lt l)
 | []=>nt
 |x::r=>F1 o x _ (lI o r)
theorem yU (o:Ae lt) {l:List α}(h:eN lt l):dE lt l:=h.imp λh=>o.asy h
theorem oE (o:Ae lt) {l:List α}(h:eN lt l):l.Nodup:=h.imp λ{a b} h e=>by rw[e,o.irr]at h;cases h
theorem tQ (o:Ae lt) {l l':List α}(h:eN lt l) (h':eN lt l') (m:∀z,z∈l↔z∈l'):l=l':=by refine yR o (yU o h) (yU o h') ?_;exact(kg (oE o h) (oE o h')).mpr m
theorem TQ (o:Ae lt) {l l':List α}(h:eN lt l') (m:∀z,z∈l'↔z∈l):l'=bT lt l:=tQ o h (lI o l) λz=>(m z).trans (jA o z l).symm
theorem F2 (o:Ae lt) (l:List α) (h:l.Nodup):bT lt l=fW lt l:=by refine yS o (yU o (lI o l)) ?_;exact(kg (oE o (lI o l)) h).mpr λz=>jA o z l
def rk (lt:α->α->Bool) (ks:List α) (x:α):Nat:=ks.countP λy=>lt y x
theorem yV {p q:α->Bool}:∀(l:List α),(∀y,p y=true->q y=true)->l.countP p<=l.countP q
 | [],_=>ak _
 |y::r,h=>by
  have:=yV r h;rw[pw,pw]
  cases hp:p y with
  |true=>rw[h y hp];simp;omega
  |false=>cases q y <;> simp <;> omega
theorem F3 {p q:α->Bool}:∀(l:List α),(∀y,p y=true->q y=true)->∀x,x∈l->q x=true->p x=false->l.countP p<l.countP q
 | [],_,x,hx,_,_=>by simp at hx
 |y::r,h,x,hx,h1,h2=>by
  rw[pw,pw]
  rcases ba.mp hx with rfl|hx
  ·have:=yV r h;rw[h1,h2];simp;omega
  ·have:=F3 r h x hx h1 h2
   cases hp:p y with
   |true=>rw[h y hp];simp;omega
   |false=>cases q y <;> simp <;> omega
theorem F5 (o:Ae lt) {ks:List α}{x z:α}(hx:x∈ks):decide (rk lt ks x<rk lt ks z)=lt x z:=by
 cases q:lt x z with
 |true=>exact decide_eq_true (F3 ks (λy h=>o.tr y x z h q) x hx q (o.irr x))
 |false=>exact decide_eq_false (Nat.not_lt.mpr (yV ks λy h=>o.lt_le h q))
theorem TR (o:Ae lt) {ks:List α}{x z:α}(hz:z∈ks) (h:rk lt ks x<=rk lt ks z):lt z x=false:=by rw[<-F5 o hz];exact decide_eq_false (Nat.not_lt.mpr h)
end
def bJ:xu->xu->Bool
 | [],[]=>false
 | [],_::_=>true
 |_::_,[]=>false
 |a::x,b::y=>if a==b then bJ x y else decide (a<b)
theorem zm:Ae bJ:=by
 refine⟨λx=>?_,λx=>?_,λx=>?_⟩
 ·induction x with
  |nil=>rfl
  |cons a x ih=>simp[bJ,ih]
 ·induction x with
  |nil=>
   intro y z h1 h2
   cases z with
   |nil=>cases y with
    |nil=>exact h1
    |cons b y=>cases h2
   |cons c z=>rfl
  |cons a x ih=>
   intro y z h1 h2
   cases y with
   |nil=>cases h1
   |cons b y=>
    cases z with
    |nil=>cases h2
    |cons c z=>
     simp only[bJ,beq_iff_eq]at h1 h2 ⊢
     by_cases e1:a=b <;> by_cases e2:b=c
     ·rw[if_pos e1]at h1;rw[if_pos e2]at h2;rw[if_pos (e1.trans e2)];exact ih y z h1 h2
     ·rw[if_neg e2]at h2;rw[if_neg (by rw[e1];exact e2)];rw[e1];exact h2
     ·rw[if_neg e1]at h1;rw[if_neg (by rw[<-e2];exact e1)];rw[<-e2];exact h1
     ·rw[if_neg e1]at h1;rw[if_neg e2]at h2;simp only[decide_eq_true_eq]at h1 h2;rw[if_neg (by omega)];simp;omega
 ·induction x with
  |nil=>
   intro y h1 h2
   cases y with
   |nil=>rfl
   |cons b y=>cases h1
  |cons a x ih=>
   intro y h1 h2
   cases y with
   |nil=>cases h2
   |cons b y=>
    simp only[bJ,beq_iff_eq]at h1 h2
    by_cases e:a=b
    ·subst e;rw[if_pos rfl]at h1 h2;rw[ih y h1 h2]
    ·rw[if_neg e]at h1;rw[if_neg (cu e)]at h2;simp at h1 h2;omega
def cU (p q:Int×Int):Bool:=if p.1==q.1 then decide (p.2<q.2)else decide (p.1<q.1)
def bK (p:Int×Int):xu:=[p.1,p.2]
theorem qQ (p q:Int×Int):bJ (bK p) (bK q)=cU p q:=by
 unfold cU bK bJ
 split
 ·unfold bJ
  split
  ·rename_i h;simp at h;simp[bJ,h]
  ·rfl
 ·rfl
theorem F6 {p q:Int×Int}(h:bK p=bK q):p=q:=by obtain⟨a,b⟩:=p;obtain⟨c,d⟩:=q;simp[bK]at h;rw[h.1,h.2]
theorem fX:Ae cU:=⟨λx=>by rw[<-qQ];exact zm.irr _,λx y z h1 h2=>by rw[<-qQ]at *;exact zm.tr _ _ _ h1 h2,λx y h1 h2=>by rw[<-qQ]at *;exact F6 (zm.tot _ _ h1 h2)⟩
section
variable{α β:Type}{lt:α->α->Bool}{lt':β->β->Bool}{f:α->β}
theorem F7 (h:∀x y,lt' (f x) (f y)=lt x y) (x:α):∀l,jT lt' (f x) (l.map f)=(jT lt x l).map f
 | []=>rfl
 |y::r=>by
  simp only[dy,jT,h]
  split
  ·rw[F7 h x r];rfl
  ·rfl
theorem F8 (h:∀x y,lt' (f x) (f y)=lt x y):∀l,fW lt' (l.map f)=(fW lt l).map f
 | []=>rfl
 |x::r=>by rw[dy,fW,F8 h r,F7 h];rfl
theorem F9 (h:∀x y,lt' (f x) (f y)=lt x y) (x:α):∀l,iZ lt' (f x) (l.map f)=(iZ lt x l).map f
 | []=>rfl
 |y::r=>by
  simp only[dy,iZ,h]
  split
  ·rw[F9 h x r];rfl
  ·split <;> rfl
theorem GA (h:∀x y,lt' (f x) (f y)=lt x y):∀l,bT lt' (l.map f)=(bT lt l).map f
 | []=>rfl
 |x::r=>by rw[dy,bT,GA h r,F9 h];rfl
end
end L2
namespace SM
open PySem PySem.SetTable
def dE (l:xv):Prop:=l.Pairwise (·<·)
theorem yW {l:xv}(hr:dE l) {i k x:Nat}(a:l[i]?=some x) (b:l[k]?=some x):i=k:=by
 obtain⟨p1,p2⟩:=ay.mp a;obtain⟨q1,q2⟩:=ay.mp b
 rcases Nat.lt_trichotomy i k with h|h|h
 ·have:=gj.mp hr i k p1 q1 h;omega
 ·exact h
 ·have:=gj.mp hr k i q1 p1 h;omega
theorem TU (xs:Array Nat) (j:Nat) (hr:dE xs.toList):∀(fuel lo hi:Nat),lo<=hi->hi<=xs.size->hi - lo<=fuel->
  (∀i (h:i<xs.size),i<lo->xs[i]<j)->(∀i (h:i<xs.size),hi<=i->j<=xs[i])->
  (∀i (h:i<xs.size),i<below.go xs j fuel lo hi->xs[i]<j)/\(∀i (h:i<xs.size),below.go xs j fuel lo hi<=i->j<=xs[i])/\below.go xs j fuel lo hi<=xs.size:=by
 intro fuel
 induction fuel with
 |zero=>
  intro lo hi h1 h2 h3 ha hb;have:lo=hi:=by omega
  subst this;exact⟨ha,hb,h2⟩
 |succ n ih=>
  intro lo hi h1 h2 h3 ha hb;unfold below.go
  by_cases hlt:lo<hi
  ·rw[if_pos hlt];dsimp only;have hm:(lo+hi) / 2<xs.size:=by omega
   have e:xs.getD ((lo+hi) / 2) j=xs[(lo+hi) / 2]:=by simp[jk,hm]
   have mono:∀a b (ha:a<xs.size) (hb:b<xs.size),a<b->xs[a]<xs[b]:=by intro a b ha hb Ah;have:=gj.mp hr a b (by simpa using ha) (by simpa using hb) Ah;simpa using this
   by_cases hc:xs.getD ((lo+hi) / 2) j<j
   ·rw[if_pos hc];refine ih _ _ (by omega) h2 (by omega) ?_ hb;intro i h hi';rw[e]at hc
    by_cases q:i=(lo+hi) / 2
    ·subst q;exact hc
    ·have:=mono i _ h hm (by omega);omega
   ·rw[if_neg hc];refine ih _ _ (by omega) (by omega) (by omega) ha ?_;intro i h hi';rw[e]at hc
    by_cases q:i=(lo+hi) / 2
    ·subst q;omega
    ·have:=mono _ i hm h (by omega);omega
  ·rw[if_neg hlt];have:lo=hi:=by omega
   subst this;exact⟨ha,hb,h2⟩
theorem qR {xs:Array Nat}{j:Nat}(hr:dE xs.toList):
  (∀i (h:i<xs.size),i<below xs j->xs[i]<j)/\(∀i (h:i<xs.size),below xs j<=i->j<=xs[i])/\below xs j<=xs.size:=
 TU xs j hr xs.size 0 xs.size (iq _) (ak _) (by omega) (λi h hi=>absurd hi (by omega)) (λi h hi=>absurd h (by omega))
theorem GB {xs:Array Nat}{j:Nat}(hr:dE xs.toList) (hm:j∈xs.toList):xs[below xs j]?=some j:=by
 obtain⟨h1,h2,h3⟩:=qR (j:=j) hr;obtain⟨i,hi,e⟩:=jg hm;have hi':i<xs.size:=by simpa using hi
 have e':xs[i]=j:=by simpa using e
 have hle:below xs j<=i:=by
  rcases ij i (below xs j)with q|q
  ·have:=h1 i hi' q;omega
  ·exact q
 have hb:below xs j<xs.size:=by omega
 have:=h2 (below xs j) hb (ak _);have mono:∀a b (ha:a<xs.size) (hb:b<xs.size),a<b->xs[a]<xs[b]:=by intro a b ha hb Ah;have:=gj.mp hr a b (by simpa using ha) (by simpa using hb) Ah;simpa using this
 have hE:below xs j=i:=by
  rcases ij (below xs j) i with q|q
  ·have:=mono _ _ hb hi' q;omega
  ·omega
 rw[ey hb]
 congr 1
 have:∀k (hk:k<xs.size),k=i->xs[k]=xs[i]:=by intro k hk e;subst e;rfl
 rw[this _ hb hE,e']
theorem TV {xs:Array Nat}{j:Nat}(hm:j∉xs.toList):(xs[below xs j]?==some j)=false:=by rw[beq_eq_false_iff_ne];intro e;obtain⟨h,e⟩:=df.mp e;exact hm (by rw[<-e];simp)
theorem qS {α:Type}(xs:Array α) (p:Nat) (x:α) (hp:p<=xs.size):(insertAt xs p x).toList=xs.toList.take p++x::xs.toList.drop p:=by unfold insertAt;rw[Array.toList_append,Array.toList_push];simp[Array.toList_extract,md]
theorem TX {xs:Array Nat}{j:Nat}(hr:dE xs.toList) (hm:j∉xs.toList):dE (insertAt xs (below xs j) j).toList:=by
 obtain⟨h1,h2,h3⟩:=qR (j:=j) hr;rw[qS _ _ _ h3];unfold dE at hr ⊢;have hlt:∀a∈xs.toList.take (below xs j),a<j:=by intro a ha;obtain⟨i,hi,e⟩:=jg ha;rw[jc]at hi;rw[List.getElem_take]at e;have:=h1 i (by simp at hi;omega) (by omega);simp at e;omega
 have hgt:∀a∈xs.toList.drop (below xs j),j<a:=by
  intro a ha;obtain⟨i,hi,e⟩:=jg ha;rw[mz]at hi;rw[List.getElem_drop]at e;have q:=h2 (below xs j+i) (by simp at hi;omega) (by omega);have ne:a≠j:=by rintro rfl;exact hm (qt ha)
  simp at e;omega
 rw[List.pairwise_append];refine⟨hr.sublist (List.take_sublist _ _), ?_, ?_⟩
 ·rw[dj];exact⟨hgt,hr.sublist (List.drop_sublist _ _)⟩
 ·intro a ha b hb
  rcases ba.mp hb with rfl|hb
  ·exact hlt a ha
  ·have:=hlt a ha;have:=hgt b hb;omega
def kM (mask:Nat) (p:Probe):Probe:=
 if p.more>0 then{ p with j:=p.j+1,more:=p.more - 1 } else
 { p with j:=(leap mask p.i p.perturb).1,more:=runEnd mask (leap mask p.i p.perturb).1 - (leap mask p.i p.perturb).1,i:=(leap mask p.i p.perturb).1,perturb:=(leap mask p.i p.perturb).2 }
theorem GC (t:gp) (p:Probe):t.advance p=kM t.mask p:=by
 unfold SetTable.advance kM
 split <;> rfl
def TY (mask:Nat) (h:Int):Probe:={ j:=bits h % (mask+1),more:=runEnd mask (bits h % (mask+1)) - bits h % (mask+1),i:=bits h % (mask+1),perturb:=bits h,dummy:=none }
def cD (mask:Nat) (h:Int):Nat->Probe
 |0=>TY mask h
 |n+1=>kM mask (cD mask h n)
def pr (mask:Nat) (h:Int) (n:Nat):Nat:=(cD mask h n).j
theorem TZ (mask:Nat) (p:Probe):(kM mask p).dummy=p.dummy:=by unfold kM;split <;> rfl
theorem GD (mask:Nat) (h:Int):∀n,(cD mask h n).dummy=none
 |0=>rfl
 |n+1=>by rw[cD,TZ,GD mask h n]
def mK (mask i pt:Nat):Probe:={ j:=i,more:=runEnd mask i - i,i:=i,perturb:=pt,dummy:=none }
def bs (mask:Nat) (h:Int):Nat->Nat×Nat
 |0=>(bits h % (mask+1),bits h)
 |L+1=>leap mask (bs mask h L).1 (bs mask h L).2
theorem T1 (mask i:Nat):runEnd mask i - i<=9:=by unfold runEnd;split <;> omega
theorem tR (mask:Nat) (h:Int) (i pt:Nat) (n:Nat) (e:cD mask h n=mK mask i pt):∀k,k<=runEnd mask i - i->cD mask h (n+k)={ mK mask i pt with j:=i+k,more:=runEnd mask i - i - k }
 |0,_=>by rw[Nat.add_zero,e];rfl
 |k+1,hk=>by have ih:=tR mask h i pt n e k (by omega);rw[show n+(k+1)=(n+k)+1 from rfl,cD,ih];unfold kM;rw[if_pos (show runEnd mask i - i - k>0 by omega)];simp[mK];omega
theorem GF (mask:Nat) (h:Int):∀L,∃n,n<=10*L/\cD mask h n=mK mask (bs mask h L).1 (bs mask h L).2
 |0=>⟨0,by omega,rfl⟩
 |L+1=>by obtain⟨n,hn,e⟩:=GF mask h L;have r:=tR mask h _ _ n e (runEnd mask (bs mask h L).1 - (bs mask h L).1) (ak _);have:=T1 mask (bs mask h L).1;refine⟨n+(runEnd mask (bs mask h L).1 - (bs mask h L).1)+1,by omega, ?_⟩;rw[cD,r];unfold kM;rw[if_neg (by simp)];rfl
theorem GG (mask:Nat) (h:Int):∀L,(bs mask h L).2=bits h / 32 ^ L
 |0=>by simp[bs]
 |L+1=>by rw[bs];show(bs mask h L).2 / 32=_;rw[GG mask h L,Nat.div_div_eq_div_mul,Nat.pow_succ]
theorem T3 (h:Int):bits h<2 ^ 64:=by unfold bits;omega
theorem T4 (mask:Nat) (h:Int) {L:Nat}(hL:13<=L):(bs mask h L).2=0:=by
 rw[GG];have h1:=T3 h;have h2:(32:Nat) ^ 13<=32 ^ L:=Nat.pow_le_pow_right (by decide) hL;have h3:(2:Nat) ^ 64<32 ^ 13:=by decide
 exact Nat.div_eq_of_lt (by omega)
def fx (mask x:Nat):Nat:=(x*5+1) % (mask+1)
def lJ (mask:Nat):Nat->Nat->Nat
 |0,x=>x
 |n+1,x=>lJ mask n (fx mask x)
theorem GH (mask:Nat):∀n x,lJ mask (n+1) x=fx mask (lJ mask n x)
 |0,x=>rfl
 |n+1,x=>by rw[lJ,GH mask n,lJ]
theorem GI (mask:Nat) (h:Int):∀n,(bs mask h (13+n)).1=lJ mask n (bs mask h 13).1
 |0=>rfl
 |n+1=>by rw[GH,<-GI mask h n,show 13+(n+1)=(13+n)+1 from rfl,bs];show((bs mask h (13+n)).1*5+1+(bs mask h (13+n)).2 / 32) % (mask+1)=_;rw[T4 mask h (by omega)];rfl
def oF (mask:Nat):Nat->Nat->Nat
 |0,_=>0
 |n+1,x=>2 ^ x ||| oF mask n (fx mask x)
theorem GJ (mask j:Nat):∀n x,(oF mask n x).testBit j=true->∃k,k<n/\lJ mask k x=j
 |0,x,h=>by simp[oF]at h
 |n+1,x,h=>by
  rw[oF,Nat.testBit_or,Bool.or_eq_true]at h
  rcases h with h|h
  ·rw[Nat.testBit_two_pow,decide_eq_true_eq]at h;exact⟨0,by omega,h⟩
  ·obtain⟨k,hk,e⟩:=GJ mask j n _ h;exact⟨k+1,by omega,e⟩
def jU (mask:Nat):Prop:=mask=7∨mask=31∨mask=127
def GK (mask:Nat):Bool:=(bx (mask+1)).all λx=>oF mask (mask+1) x==2 ^ (mask+1) - 1
theorem T5 {mask:Nat}(g:jU mask):GK mask=true:=by rcases g with rfl|rfl|rfl <;> decide +kernel
theorem T6 {mask x j:Nat}(g:jU mask) (hx:x<=mask) (hj:j<=mask):∃k,k<=mask/\lJ mask k x=j:=by
 have h1:=T5 g;unfold GK at h1;rw[ic]at h1;have h2:=h1 x (bq.mpr (by omega));rw[beq_iff_eq]at h2;have h3:(oF mask (mask+1) x).testBit j=true:=by rw[h2,Nat.testBit_two_pow_sub_one,decide_eq_true_eq];omega
 obtain⟨k,hk,e⟩:=GJ mask j _ _ h3;exact⟨k,by omega,e⟩
theorem tS (a m:Nat):a % (m+1)<=m:=by have:=Nat.mod_lt a (show 0<m+1 by omega);omega
theorem T7 (mask:Nat) (h:Int):∀L,(bs mask h L).1<=mask
 |0=>tS _ _
 |L+1=>tS _ _
theorem GL {mask j:Nat}(g:jU mask) (h:Int) (hj:j<=mask):∃L,L<=13+mask/\(bs mask h L).1=j:=by obtain⟨k,hk,e⟩:=T6 g (T7 mask h 13) hj;exact⟨13+k,by omega,by rw[GI];exact e⟩
theorem T9 {mask j:Nat}(g:jU mask) (h:Int) (hj:j<=mask):∃n,n<10*turns mask/\pr mask h n=j:=by obtain⟨L,hL,e⟩:=GL g h hj;obtain⟨n,hn,e2⟩:=GF mask h L;refine⟨n,by unfold turns;omega, ?_⟩;unfold pr;rw[e2];exact e
theorem GN {mask i:Nat}(hi:i<=mask):runEnd mask i<=mask:=by unfold runEnd;split <;> omega
theorem GO {mask:Nat}(h:Int):∀n,(cD mask h n).i<=mask/\(cD mask h n).j+(cD mask h n).more<=mask
 |0=>by
  have e:bits h % (mask+1)<=mask:=tS _ _;have:=GN e;have:bits h % (mask+1)<=runEnd mask (bits h % (mask+1)):=by unfold runEnd;split <;> omega
  exact⟨e,by show bits h % (mask+1)+(runEnd mask (bits h % (mask+1)) - bits h % (mask+1))<=mask;omega⟩
 |n+1=>by
  obtain⟨h1,h2⟩:=GO (mask:=mask) h n;rw[cD];unfold kM
  split
  ·exact⟨h1,by dsimp only;omega⟩
  ·dsimp only;have e:(leap mask (cD mask h n).i (cD mask h n).perturb).1<=mask:=tS _ _;have:=GN e;have:(leap mask (cD mask h n).i (cD mask h n).perturb).1<=runEnd mask (leap mask (cD mask h n).i (cD mask h n).perturb).1:=by unfold runEnd;split <;> omega
   exact⟨e,by omega⟩
theorem yX {mask:Nat}(h:Int) (n:Nat):pr mask h n<=mask:=by have:=(GO (mask:=mask) h n).2;unfold pr;omega
def Way (mask:Nat) (occ:Nat->Prop) (h:Int) (j:Nat):Prop:=∃n,pr mask h n=j/\∀m,m<n->occ (pr mask h m)
theorem Way.mono {mask:Nat}{occ occ':Nat->Prop}{h:Int}{j:Nat}(w:Way mask occ h j) (k:∀x,occ x->occ' x):Way mask occ' h j:=let ⟨n,e,a⟩:=w;⟨n,e,λm hm=>k _ (a m hm)⟩
structure Ac (t:gp) (hs:xu):Prop where
 size:t.place.size=hs.length
 rise:dE t.place.toList
 nod:t.dummies=#[]
 bnd:∀j∈t.place.toList,j<=t.mask
 room:hs.length<=t.mask
 msk:jU t.mask
 way:∀(i:Nat) (h:Int) (j:Nat),hs[i]?=some h->t.place.toList[i]?=some j->Way t.mask (·∈t.place.toList) h j
 plain:t.plain=true
theorem Ac.fits {t:gp}{hs:xu}(T:Ac t hs):t.fits hs.length=true:=by unfold SetTable.fits SetTable.fill;rw[T.nod,T.size];simpa using T.room
theorem Ac.gave {t:gp}{hs:xu}(T:Ac t hs):t.gaveWay=false:=by
 unfold SetTable.gaveWay
 rcases T.msk with e|e|e <;> rw[e] <;> rfl
theorem GP (j:Nat):SetTable.has #[] j=false:=by unfold SetTable.has;simp
theorem Ac.slot_live {t:gp}{hs:xu}(T:Ac t hs) {j:Nat}(h:j∈t.place.toList):∃i,t.slot j=.live i/\t.place.toList[i]?=some j:=by refine⟨below t.place j, ?_,by simpa using GB T.rise h⟩;unfold SetTable.slot;dsimp only;rw[GB T.rise h];simp
theorem Ac.slot_empty {t:gp}{hs:xu}(T:Ac t hs) {j:Nat}(h:j∉t.place.toList):t.slot j=.empty:=by unfold SetTable.slot;dsimp only;rw[TV h,T.nod,GP];rfl
theorem Ac.empty_there {t:gp}{hs:xu}(T:Ac t hs):∃j,j<=t.mask/\j∉t.place.toList:=by
 rcases p9 (∃j,j<=t.mask/\j∉t.place.toList)with h|h
 ·exact h
 ·exfalso
  have h1:∀j,j∈bx (t.mask+1)->j∈t.place.toList:=by
   intro j hj
   rcases p9 (j∈t.place.toList)with q|q
   ·exact q
   ·exact absurd ⟨j,by have:=bq.mp hj;omega,q⟩ h
  have h2:=(tm (n:=t.mask+1)).length_le_of_subset h1;rw[mf]at h2;have h3:t.place.toList.length=hs.length:=by rw[<-T.size];simp
  have:=T.room;omega
theorem UA {t:gp}{hs:xu}(T:Ac t hs) (hashAt:Nat->Int) (h:Int):∀(fuel n N:Nat),n<=N->N - n<fuel->pr t.mask h N∉t.place.toList->
  ∃m,n<=m/\m<=N/\(∀l,n<=l->l<m->pr t.mask h l∈t.place.toList/\∀i,t.place.toList[i]?=some (pr t.mask h l)->hashAt i≠h) /\
   ((pr t.mask h m∉t.place.toList/\probe.go t hashAt h fuel (cD t.mask h n)=some (.empty (pr t.mask h m) none)) ∨
    (∃i,t.place.toList[i]?=some (pr t.mask h m)/\hashAt i=h/\probe.go t hashAt h fuel (cD t.mask h n)=some (.candidate (pr t.mask h m) i (cD t.mask h (m+1))))):=by
 intro fuel
 induction fuel with
 |zero=>intro n N _ h2 _;omega
 |succ f ih=>
  intro n N h1 h2 h3;have hj:(cD t.mask h n).j=pr t.mask h n:=rfl
  rcases p9 (pr t.mask h n∈t.place.toList)with hm|hm
  ·obtain⟨i,e1,e2⟩:=T.slot_live hm
   by_cases hh:hashAt i=h
   ·refine⟨n,ak _,h1,λl a b=>absurd a (by omega),.inr ⟨i,e2,hh, ?_⟩⟩;rw[probe.go,hj,e1];dsimp only;rw[if_pos (beq_iff_eq.mpr hh),GC];rfl
   ·have hne:n≠N:=by rintro rfl;exact h3 hm
    obtain⟨m,a1,a2,a3,a4⟩:=ih (n+1) N (by omega) (by omega) h3;have e3:probe.go t hashAt h (f+1) (cD t.mask h n)=probe.go t hashAt h f (cD t.mask h (n+1)):=by rw[probe.go,hj,e1];dsimp only;rw[if_neg (by intro q;exact hh (beq_iff_eq.mp q)),GC];rfl
    refine⟨m,by omega,a2,λl b1 b2=>?_,by rw[e3];exact a4⟩
    rcases ij n l with q|q
    ·exact a3 l (by omega) b2
    ·have:l=n:=by omega
     subst this;refine⟨hm,λi' e'=>?_⟩;have:i'=i:=yW T.rise e' e2;subst this;exact hh
  ·refine⟨n,ak _,h1,λl a b=>absurd a (by omega),.inl ⟨hm, ?_⟩⟩;rw[probe.go,hj,T.slot_empty hm];dsimp only;rw[GD]
theorem Ac.stops {t:gp}{hs:xu}(T:Ac t hs) (h:Int):∃N,N<10*turns t.mask/\pr t.mask h N∉t.place.toList:=by obtain⟨j,hj,hn⟩:=T.empty_there;obtain⟨N,hN,e⟩:=T9 T.msk h hj;exact⟨N,hN,by rw[e];exact hn⟩
theorem Ac.before {t:gp}{hs:xu}(T:Ac t hs) {h:Int}{i j m:Nat}(e1:hs[i]?=some h) (e2:t.place.toList[i]?=some j) (hm:pr t.mask h m∉t.place.toList):∃n,n<m/\pr t.mask h n=j:=by
 obtain⟨n,e,a⟩:=T.way i h j e1 e2;refine⟨n, ?_,e⟩
 rcases ij n m with q|q
 ·exact q
 ·exfalso
  rcases ij m n with r|r
  ·exact hm (a m r)
  ·have:m=n:=by omega
   subst this;exact hm (by rw[e];exact cm e2)
theorem GQ {xs:Array Nat}{p j x:Nat}(hp:p<=xs.size):x∈(insertAt xs p j).toList↔x=j∨x∈xs.toList:=by
 rw[qS _ _ _ hp,fg,ba];have e:x∈xs.toList↔x∈xs.toList.take p∨x∈xs.toList.drop p:=by rw[<-fg,wq]
 rw[e];constructor
 ·rintro (a|a|a)
  ·exact .inr (.inl a)
  ·exact .inl a
  ·exact .inr (.inr a)
 ·rintro (a|a|a)
  ·exact .inr (.inl a)
  ·exact .inl a
  ·exact .inr (.inr a)
theorem UB {t:gp}(hn:t.dummies=#[]) (j:Nat):t.put j=({ t with place:=insertAt t.place (below t.place j) j },below t.place j):=by unfold SetTable.put;dsimp only;rw[hn,GP];cases t;subst hn;rfl
theorem GR {α:Type}(l:List α) (x:α) (p i:Nat) (hp:p<=l.length):(l.take p++x::l.drop p)[i]?=if i<p then l[i]? else if i=p then some x else l[i - 1]?:=by
 have hl:(l.take p).length=p:=by rw[jc];omega
 by_cases h1:i<p
 ·rw[if_pos h1,dk (by omega),vc h1]
 ·rw[if_neg h1,fh (by omega),hl]
  by_cases h2:i=p
  ·subst h2;rw[if_pos rfl,Nat.sub_self];rfl
  ·rw[if_neg h2];obtain⟨k,rfl⟩:∃k,i=p+(k+1):=⟨i - p - 1,by omega⟩
   rw[show p+(k+1) - p=k+1 by omega,pv,List.getElem?_drop,show p+(k+1) - 1=p+k by omega]
theorem Ac.put {t:gp}{hs:xu}(T:Ac t hs) {h:Int}{n:Nat}(hn:pr t.mask h n∉t.place.toList) (hw:∀m,m<n->pr t.mask h m∈t.place.toList) (hr:hs.length+1<=t.mask):
  Ac { t with place:=insertAt t.place (below t.place (pr t.mask h n)) (pr t.mask h n) } (hs.take (below t.place (pr t.mask h n))++h::hs.drop (below t.place (pr t.mask h n))):=by
 have hb:=(qR (j:=pr t.mask h n) T.rise).2.2;have hs':t.place.toList.length=hs.length:=by rw[<-T.size];simp
 have hlen:(hs.take (below t.place (pr t.mask h n))++h::hs.drop (below t.place (pr t.mask h n))).length=hs.length+1:=by rw[de,cn,jc,mz];have:=T.size;omega
 refine⟨?_,TX T.rise hn,T.nod, ?_, ?_,T.msk, ?_,T.plain⟩
 ·show(insertAt t.place (below t.place (pr t.mask h n)) (pr t.mask h n)).size=_;rw[hlen];have:(insertAt t.place (below t.place (pr t.mask h n)) (pr t.mask h n)).toList.length=hs.length+1:=by rw[qS _ _ _ hb,de,cn,jc,mz,hs'];have:=T.size;omega
  simpa using this
 ·intro j hj
  rcases(GQ hb).mp hj with rfl|hj
  ·exact yX h n
  ·exact T.bnd j hj
 ·rw[hlen];exact hr
 ·intro i h' j e1 e2;have Ap:(t.place.toList.take (below t.place (pr t.mask h n))++pr t.mask h n::t.place.toList.drop (below t.place (pr t.mask h n)))[i]?=some j:=by rw[<-qS _ _ _ hb];exact e2
  have Bc:below t.place (pr t.mask h n)<=hs.length:=by rw[<-T.size];exact hb
  rw[GR _ _ _ _ Bc]at e1;rw[GR _ _ _ _ (by rw[hs'];exact Bc)]at Ap;have mono:∀x,x∈t.place.toList->x∈(insertAt t.place (below t.place (pr t.mask h n)) (pr t.mask h n)).toList:=λx hx=>(GQ hb).mpr (.inr hx)
  by_cases q1:i<below t.place (pr t.mask h n)
  ·rw[if_pos q1]at e1 Ap;exact(T.way _ _ _ e1 Ap).mono mono
  ·rw[if_neg q1]at e1 Ap
   by_cases q2:i=below t.place (pr t.mask h n)
   ·rw[if_pos q2]at e1 Ap
    cases e1;cases Ap
    exact⟨n,rfl,λm hm=>mono _ (hw m hm)⟩
   ·rw[if_neg q2]at e1 Ap;exact(T.way _ _ _ e1 Ap).mono mono
def fG (owner:Array (Option Nat)) (j:Nat):Prop:=(owner.getD j (some 0)).isSome=true
theorem GS {P:Nat->Bool}{n:Nat}(h:(bx n).find? P=none):∀k,k<n->P k=false:=by intro k hk;have:=List.find?_eq_none.mp h k (bq.mpr hk);simpa using this
theorem UC {P:Nat->Bool}:∀{n k:Nat},(bx n).find? P=some k->k<n/\P k=true/\∀l,l<k->P l=false:=by
 intro n
 induction n with
 |zero=>intro k h;simp at h
 |succ n ih=>
  intro k h;rw[List.range_succ,List.find?_append]at h
  cases q:(bx n).find? P with
  |some k'=>rw[q]at h;simp at h;subst h;obtain⟨a,b,c⟩:=ih q;exact⟨by omega,b,c⟩
  |none=>
   rw[q]at h
   by_cases hp:P n=true
   ·simp[hp]at h;subst h;exact⟨by omega,hp,λl hl=>GS q l hl⟩
   ·simp[hp]at h
theorem UD {mask:Nat}{h:Int}{L n:Nat}(e:cD mask h n=mK mask (bs mask h L).1 (bs mask h L).2):cD mask h (n+(runEnd mask (bs mask h L).1 - (bs mask h L).1)+1)=mK mask (bs mask h (L+1)).1 (bs mask h (L+1)).2:=by have r:=tR mask h _ _ n e (runEnd mask (bs mask h L).1 - (bs mask h L).1) (ak _);rw[cD,r];unfold kM;rw[if_neg (by simp)];rfl
theorem UE {mask:Nat}{h:Int}{owner:Array (Option Nat)}:∀(fuel L n:Nat),cD mask h n=mK mask (bs mask h L).1 (bs mask h L).2->(∀k,k<n->fG owner (pr mask h k))->
  (∃L',L<=L'/\L'<L+fuel/\¬ fG owner (bs mask h L').1)->
  ∃n,layClean.free mask owner fuel (bs mask h L).1 (bs mask h L).2=some (pr mask h n)/\¬ fG owner (pr mask h n)/\∀m,m<n->fG owner (pr mask h m):=by
 intro fuel
 induction fuel with
 |zero=>rintro L n _ _ ⟨L',a,b,_⟩;omega
 |succ f ih=>
  rintro L n e hb ⟨L',a1,a2,a3⟩
  have r:=tR mask h _ _ n e;have hle:(bs mask h L).1<=runEnd mask (bs mask h L).1:=by unfold runEnd;split <;> omega
  rw[layClean.free]
  cases q:(bx (runEnd mask (bs mask h L).1+1 - (bs mask h L).1)).find? λk=>(owner.getD ((bs mask h L).1+k) (some 0)).isNone with
  |some k=>
   obtain⟨b1,b2,b3⟩:=UC q;dsimp only;have ek:pr mask h (n+k)=(bs mask h L).1+k:=by unfold pr;rw[r k (by omega)]
   refine⟨n+k,by rw[ek], ?_,λm hm=>?_⟩
   ·rw[ek];unfold fG;simp at b2;simp[b2]
   ·rcases ij m n with z|z
    ·exact hb m z
    ·obtain⟨l,rfl⟩:∃l,m=n+l:=⟨m - n,by omega⟩
     have el:pr mask h (n+l)=(bs mask h L).1+l:=by unfold pr;rw[r l (by omega)]
     rw[el];have:=b3 l (by omega);unfold fG
     cases w:owner.getD ((bs mask h L).1+l) (some 0)with
     |none=>rw[w]at this;simp at this
     |some _=>rfl
  |none=>
   dsimp only;have b:=GS q;have hocc:∀l,l<=runEnd mask (bs mask h L).1 - (bs mask h L).1->fG owner ((bs mask h L).1+l):=by
    intro l hl;have:=b l (by omega);unfold fG
    cases w:owner.getD ((bs mask h L).1+l) (some 0)with
    |none=>rw[w]at this;simp at this
    |some _=>rfl
   have hne:L≠L':=by
    rintro rfl
    exact a3 (by simpa using hocc 0 (by omega))
   refine ih (L+1) _ (UD e) (λk hk=>?_) ⟨L',by omega,by omega,a3⟩
   rcases ij k n with z|z
   ·exact hb k z
   ·obtain⟨l,rfl⟩:∃l,k=n+l:=⟨k - n,by omega⟩
    have el:pr mask h (n+l)=(bs mask h L).1+l:=by unfold pr;rw[r l (by omega)]
    rw[el];exact hocc l (by omega)
structure LOk (mask:Nat) (hs:xu) (owner:Array (Option Nat)) (k:Nat):Prop where
 size:owner.size=mask+1
 own:∀(j i:Nat),owner[j]?=some (some i)->i<k/\∃h,hs[i]?=some h/\Way mask (fG owner) h j
 all:∀(i:Nat),i<k->∃j:Nat,owner[j]?=some (some i)
 inj:∀(j j' i:Nat),owner[j]?=some (some i)->owner[j']?=some (some i)->j=j'
theorem qT {owner:Array (Option Nat)}{j:Nat}(hj:j<owner.size):fG owner j↔∃i,owner[j]?=some (some i):=by
 unfold fG;rw[ey hj];simp only[jk,hj,dif_pos,Array.getInternal_eq_getElem,va]
 cases owner[j] <;> simp
theorem LOk.free {mask k:Nat}{hs:xu}{owner:Array (Option Nat)}(O:LOk mask hs owner k) (hk:k<=mask):∃j,j<=mask/\¬ fG owner j:=by
 rcases p9 (∃j,j<=mask/\¬ fG owner j)with h|h
 ·exact h
 ·exfalso
  have h1:∀j,j<=mask->∃i,owner[j]?=some (some i):=λj hj=>by
   rcases p9 (fG owner j)with q|q
   ·exact(qT (by rw[O.size];omega)).mp q
   ·exact absurd ⟨j,hj,q⟩ h
  let f:Nat->Nat:=λj=>match owner[j]? with|some (some i)=>i|_=>0
  have hf:∀j,j<=mask->owner[j]?=some (some (f j)):=λj hj=>by obtain⟨i,e⟩:=h1 j hj;show owner[j]?=some (some (match owner[j]? with|some (some i)=>i|_=>0));rw[e]
  have nd:((bx (mask+1)).map f).Nodup:=by rw[uv];rw[sj];refine sh ?_ (tm (n:=mask+1));intro a b ha hb Ah e;have ea:=hf a (by have:=bq.mp ha;omega);have eb:=hf b (by have:=bq.mp hb;omega);rw[e]at ea;exact Ah (O.inj _ _ _ ea eb)
  have sub:∀x,x∈(bx (mask+1)).map f->x∈bx k:=by intro x hx;obtain⟨j,hj,rfl⟩:=cw.mp hx;exact bq.mpr (O.own j _ (hf j (by have:=bq.mp hj;omega))).1
  have:=nd.length_le_of_subset sub;simp at this;omega
theorem LOk.step {mask k:Nat}{hs:xu}{owner:Array (Option Nat)}{h:Int}(g:jU mask) (O:LOk mask hs owner k) (hk:k<=mask) (hh:hs[k]?=some h):
  ∃j,layClean.free mask owner (turns mask) (bits h % (mask+1)) (bits h)=some j/\LOk mask hs (owner.setIfInBounds j (some k)) (k+1):=by
 obtain⟨j0,hj0,hn0⟩:=O.free hk;obtain⟨L,hL,eL⟩:=GL g h hj0;obtain⟨n,e,hn,hw⟩:=UE (mask:=mask) (h:=h) (owner:=owner) (turns mask) 0 0 rfl (λk hk=>absurd hk (by omega)) ⟨L,by omega,by unfold turns;omega,by rw[eL];exact hn0⟩;refine⟨pr mask h n,e, ?_⟩;have hjl:pr mask h n<owner.size:=by rw[O.size];have:=yX (mask:=mask) h n;omega
 have hjn:owner[pr mask h n]?=some none:=by
  rw[ey hjl];have:¬ ∃i,owner[pr mask h n]?=some (some i):=λq=>hn ((qT hjl).mpr q)
  cases w:owner[pr mask h n]with
  |none=>rfl
  |some i=>exact absurd ⟨i,by rw[ey hjl,w]⟩ this
 have get:∀j,(owner.setIfInBounds (pr mask h n) (some k))[j]?=if pr mask h n=j then some (some k)else owner[j]?:=by
  intro j;rw[Array.getElem?_setIfInBounds]
  by_cases q:pr mask h n=j
  ·rw[if_pos q,if_pos q,if_pos hjl]
  ·rw[if_neg q,if_neg q]
 have hsz:(owner.setIfInBounds (pr mask h n) (some k)).size=mask+1:=by rw[Array.size_setIfInBounds];exact O.size
 have occm:∀x,fG owner x->fG (owner.setIfInBounds (pr mask h n) (some k)) x:=by
  intro x hx
  by_cases hl:x<owner.size
  ·obtain⟨i,e⟩:=(qT hl).mp hx;refine(qT (by rw[hsz,<-O.size];exact hl)).mpr ?_;rw[get]
   by_cases q:pr mask h n=x
   ·exact⟨k,if_pos q⟩
   ·exact⟨i,by rw[if_neg q];exact e⟩
  ·unfold fG;simp[jk,hl]
 refine⟨hsz, ?_, ?_, ?_⟩
 ·intro j i e;rw[get]at e
  by_cases q:pr mask h n=j
  ·rw[if_pos q]at e;cases e;exact⟨by omega,h,hh,n,q,λm hm=>occm _ (hw m hm)⟩
  ·rw[if_neg q]at e;obtain⟨a,h',b,c⟩:=O.own j i e;exact⟨by omega,h',b,c.mono occm⟩
 ·intro i hi
  by_cases q:i=k
  ·subst q;exact⟨pr mask h n,by rw[get,if_pos rfl]⟩
  ·obtain⟨j,e⟩:=O.all i (by omega);refine⟨j, ?_⟩;rw[get]
   by_cases z:pr mask h n=j
   ·rw[<-z,hjn]at e;cases e
   ·rw[if_neg z];exact e
 ·intro j j' i e e';rw[get]at e e'
  by_cases z:pr mask h n=j
  ·rw[if_pos z]at e;cases e
   by_cases z':pr mask h n=j'
   ·exact z.symm.trans z'
   ·rw[if_neg z']at e';have:=(O.own j' _ e').1;omega
  ·rw[if_neg z]at e
   by_cases z':pr mask h n=j'
   ·rw[if_pos z']at e';cases e';have:=(O.own j _ e).1;omega
   ·rw[if_neg z']at e';exact O.inj _ _ _ e e'
theorem GU {mask:Nat}{hs:xu}(g:jU mask) (hl:hs.length<=mask):∀(l pre:xu) (owner:Array (Option Nat)),hs=pre++l->LOk mask hs owner pre.length->
  ∃owner',l.foldl (λ(acc:Option (Array (Option Nat)×Nat)) h=>do
    let (owner,k) <-acc
    let j <-layClean.free mask owner (turns mask) (bits h % (mask+1)) (bits h)
    pure (owner.setIfInBounds j (some k),k+1)) (some (owner,pre.length))=some (owner',hs.length)/\LOk mask hs owner' hs.length
 | [],pre,owner,e,O=>by rw[kr]at e;subst e;exact⟨owner,rfl,O⟩
 |h::l,pre,owner,e,O=>by
  have hh:hs[pre.length]?=some h:=by rw[e];simp
  obtain⟨j,e1,O1⟩:=O.step g (by rw[e]at hl;simp at hl;omega) hh;have e2:hs=(pre++[h])++l:=by rw[e];simp
  have hlen:(pre++[h]).length=pre.length+1:=by simp
  obtain⟨o',a,b⟩:=GU g hl l (pre++[h]) _ e2 (by rw[hlen];exact O1);refine⟨o', ?_,b⟩;rw[qj];rw[<-a,hlen]
  congr 1
  show(do let j <-layClean.free mask owner (turns mask) (bits h % (mask+1)) (bits h);pure (owner.setIfInBounds j (some pre.length),pre.length+1))=_;rw[e1];rfl
theorem UG {mask:Nat}{hs:Array Int}(g:jU mask) (hl:hs.size<=mask):∃owner,layClean mask hs=some owner/\LOk mask hs.toList owner hs.size:=by
 have O0:LOk mask hs.toList (Array.replicate (mask+1) none) 0:=by
  refine⟨by simp, ?_,λi hi=>absurd hi (by omega), ?_⟩
  ·intro j i e;rw[v8]at e
   split at e <;> simp at e
  ·intro j j' i e;rw[v8]at e
   split at e <;> simp at e
 obtain⟨o',a,b⟩:=GU g (by simpa using hl) hs.toList [] _ rfl O0;refine⟨o', ?_,by simpa using b⟩;unfold layClean;rw[<-Array.foldl_toList];simp only[o7]at a;rw[a];rfl
theorem Way.mono' {mask:Nat}{occ occ':Nat->Prop}{h:Int}{j:Nat}(w:Way mask occ h j) (k:∀x,x<=mask->occ x->occ' x):Way mask occ' h j:=let ⟨n,e,a⟩:=w;⟨n,e,λm hm=>k _ (yX h m) (a m hm)⟩
theorem GV (g:Nat->Option Nat):∀(l:xv),l.Pairwise (·<·)->((l.filterMap λj=>(g j).map ((j,·):Nat->Nat×Nat)).map ed).Pairwise (·<·)
 | [],_=>by simp
 |j::l,h=>by
  rw[dj]at h;have ih:=GV g l h.2
  cases e:g j with
  |none=>simpa[cj,e]using ih
  |some i=>
   simp only[cj,e,Option.map_some,dy,dj];refine⟨?_,ih⟩;intro a ha;obtain⟨⟨x,y⟩,hp,rfl⟩:=cw.mp ha;obtain⟨z,hz,ez⟩:=kz.mp hp
   cases q:g z with
   |none=>rw[q]at ez;simp at ez
   |some i'=>rw[q]at ez;simp at ez;have:=h.1 z hz;omega
theorem UH {mask finger moves:Nat}{led:Bool}{hs:Array Int}(g:jU mask) (hl:hs.size<=mask):
  ∃t order,laid mask finger moves led true hs=some (t,order)/\t.mask=mask/\t.led=led/\order.toList.Perm (bx hs.size)/\Ac t (order.toList.filterMap (hs.toList[·]?)):=by
 obtain⟨owner,e,O⟩:=UG g hl;generalize hlive:(bx (mask+1)).filterMap (λj=>(owner.getD j none).map ((j,·):Nat->Nat×Nat))=live;have Aa:∀j i,(j,i)∈live↔owner[j]?=some (some i):=by
  intro j i;rw[<-hlive,kz];constructor
  ·rintro ⟨x,hx,ex⟩
   have hx':x<owner.size:=by rw[O.size];exact bq.mp hx
   have eg:owner.getD x none=owner[x]:=by simp[jk,hx']
   rw[eg]at ex
   cases q:owner[x]with
   |none=>rw[q]at ex;simp at ex
   |some i'=>rw[q]at ex;simp at ex;obtain⟨rfl,rfl⟩:=ex;rw[ey hx',q]
  ·intro h;obtain⟨hx',q⟩:=df.mp h;refine⟨j,bq.mpr (by rw[<-O.size];exact hx'), ?_⟩;have eg:owner.getD j none=owner[j]:=by simp[jk,hx']
   rw[eg,q];rfl
 have hrise:(live.map ed).Pairwise (·<·):=by rw[<-hlive];exact GV _ _ (List.pairwise_lt_range)
 have zy:(live.map oz).Perm (bx hs.size):=by
  refine(kg ?_ tm).mpr ?_
  ·rw[uv,sj];rw[sj]at hrise;refine sh ?_ hrise
   rintro ⟨a,i⟩ ⟨b,i'⟩ ha hb Ah e
   have e':i=i':=e;subst e';have:=O.inj a b i ((Aa _ _).mp ha) ((Aa _ _).mp hb);have hab':a<b:=Ah;omega
  ·intro i;rw[bq];constructor
   ·intro h;obtain⟨⟨j,i'⟩,hp,rfl⟩:=cw.mp h;exact(O.own j i' ((Aa _ _).mp hp)).1
   ·intro h;obtain⟨j,ej⟩:=O.all i h;exact cw.mpr ⟨(j,i),(Aa _ _).mpr ej,rfl⟩
 have hlen:live.length=hs.size:=by simpa using zy.length_eq
 have hget:∀(i:Nat),((live.map oz).filterMap (hs.toList[·]?))[i]?=(live[i]?).bind λp=>hs.toList[p.2]?:=by
  have gen:∀(l:List (Nat×Nat)),(∀p∈l,p.2<hs.toList.length)->∀(i:Nat),((l.map oz).filterMap (hs.toList[·]?))[i]?=(l[i]?).bind λp=>hs.toList[p.2]?:=by
   intro l
   induction l with
   |nil=>intro _ i;simp
   |cons p l ih=>
    intro hp i;have h1:=hp p (bc ..);have e1:hs.toList[p.2]?=some hs.toList[p.2]:=bh h1;rw[dy,cj,e1]
    cases i with
    |zero=>simp[e1]
    |succ i=>simp only[pv];exact ih (λq hq=>hp q (az _ hq)) i
  intro i;refine gen live ?_ i
  rintro ⟨j,k⟩ hp
  have:=(O.own j k ((Aa _ _).mp hp)).1;simpa using this
 have hlen':((live.map oz).filterMap (hs.toList[·]?)).length=hs.size:=by
  have gen:∀(l:List (Nat×Nat)),(∀p∈l,p.2<hs.toList.length)->((l.map oz).filterMap (hs.toList[·]?)).length=l.length:=by
   intro l
   induction l with
   |nil=>intro _;rfl
   |cons p l ih=>intro hp;have h1:=hp p (bc ..);have e1:hs.toList[p.2]?=some hs.toList[p.2]:=bh h1;rw[dy,cj,e1];show(_::_).length=_;rw[cn,cn,ih (λq hq=>hp q (az _ hq))]
  rw[gen live ?_,hlen]
  rintro ⟨j,k⟩ hp
  have:=(O.own j k ((Aa _ _).mp hp)).1;simpa using this
 refine⟨{ mask,place:=(live.map ed).toArray,dummies:=#[],finger,led,moves,plain:=true },(live.map oz).toArray, ?_,rfl,rfl,zy, ?_⟩
 ·unfold laid;rw[e];show some _=some _;rw[hlive]
 ·refine⟨(by show(live.map ed).toArray.size=((live.map oz).filterMap (hs.toList[·]?)).length;rw[hlen',au,bf,hlen]),hrise,rfl, ?_,by rw[hlen'];exact hl,g, ?_,rfl⟩
  ·intro j hj;obtain⟨⟨x,y⟩,hp,rfl⟩:=cw.mp (show j∈live.map ed from hj);have:=(Aa _ _).mp hp;obtain⟨hx',_⟩:=df.mp this;have:=O.size;show x<=mask;omega
  ·intro i h j e1 e2;have e1':((live.map oz).filterMap (hs.toList[·]?))[i]?=some h:=e1;rw[hget]at e1';have Ap:(live.map ed)[i]?=some j:=e2;rw[dz]at Ap
   cases q:live[i]? with
   |none=>rw[q]at Ap;cases Ap
   |some p=>
    obtain⟨x,k⟩:=p;rw[q]at e1' Ap;simp at e1' Ap;subst Ap;have hp:=cm q;obtain⟨a,h',b,c⟩:=O.own x k ((Aa _ _).mp hp);have hh:h'=h:=by
     have:hs.toList[k]?=some h:=by simpa using e1'
     rw[b]at this;exact cq this
    subst hh;refine c.mono' λy hy ho=>?_;obtain⟨i',ei⟩:=(qT (by rw[O.size];omega)).mp ho;exact cw.mpr ⟨(y,i'),(Aa _ _).mpr ei,rfl⟩
end SM
namespace SR
open PySem PySem.Spec PyProof.Rows SM
section
variable{prog:bg}{w:cf}
def hk (prog:bg) (w:cf) (k:xu):Int:=tupleKeyHash (intKind prog w) k
abbrev KB:=List (xu×ah)
def eO (prog:bg) (w:cf) (kb:KB):List (Int×ae):=kb.map λp=>(hk prog w p.1,gm p.2)
structure yo (prog:bg) (w:cf) (h:ck) (a:ah) (kb:KB) (o:Obj) (es:Array (Int×ae)) (ep:Nat) (t:gp):Prop where
 obj:h.get? a=some o
 ex:o.ExactSet
 data:o.data=.set es ep t
 es:es.toList=eO prog w kb
 tab:Ac t (kb.map λp=>hk prog w p.1)
 nd:(kb.map ed).Nodup
 nf:kb.length*5<t.mask*3
 led:t.led=!w.params.followText "set-order"
def jB (prog:bg) (w:cf) (h:ck) (a:ah) (kb:KB):Prop:=∃o es ep t,yo prog w h a kb o es ep t
def tT (prog:bg) (w:cf) (h:ck) (kb:KB):Prop:=∀p∈kb,gb (intKind prog w) h p.1 p.2
variable{h:ck}{a:ah}{kb:KB}{o:Obj}{es:Array (Int×ae)}{ep:Nat}{t:gp}
theorem yo.size (P:yo prog w h a kb o es ep t):es.size=kb.length:=by have:=congrArg qr P.es;simpa[eO]using this
theorem yo.fits (P:yo prog w h a kb o es ep t):t.fits es.size=true:=by have:=P.tab.fits;rw[bf]at this;rw[P.size];exact this
theorem yo.at_ (P:yo prog w h a kb o es ep t) {i:Nat}{p:xu×ah}(e:kb[i]?=some p):es[i]?=some (hk prog w p.1,.ref p.2):=by
 have:es.toList[i]?=some (hk prog w p.1,gm p.2):=by rw[P.es];simp[eO,e]
 simpa using this
theorem yo.hash_at (P:yo prog w h a kb o es ep t) {i:Nat}{p:xu×ah}(e:kb[i]?=some p):(es[i]?.map (·.1)).getD 0=hk prog w p.1:=by rw[P.at_ e];rfl
end
section
variable{prog:bg}{w:cf}{A:bp}{E:ae->af->Prop}{s:af}{a:ah}{kb:KB}{o:Obj}{es:Array (Int×ae)}{ep:Nat}{t:gp}
theorem GW {ks:xu}{b:ah}{Q:Bool->af->Prop}(hb:gb (intKind prog w) s.heap ks b) (h:Q false s):wpAny (model prog w) A (ofAClassStatement 8 (.ref b)) Q E s:=by
 obtain⟨o,items,n,ho,hc,hd,hi⟩:=hb;unfold ofAClassStatement;refine aa (p8 (T := "tuple") ⟨o,ho,hc⟩ ?_);show wpAny _ _ ((if(("tuple" : String) == "tuple")=true then(pure true:Sem Bool)else isSubtype (.type "tuple") (.type "tuple")) >>= _) _ _ s;rw[if_pos (by decide)];refine aa (ai ?_);simp only[nq,bz,if_false];refine aa (iz ho hd ?_);refine aa ?_;show wpAny _ _ (forIn items _ _) _ _ s;rw[<-xk];refine qo _ (λrest r s'=>r.1=none/\s'=s/\∀v∈rest,carriedByValue v=true) _ ?_ ?_ _ _ ⟨rfl,rfl,hi.byValue⟩
 ·rintro v rest r s' ⟨hr,rfl,zb⟩
  have hv:=zb v bc;have e:ofAClassStatement 7 v=pure false:=by
   cases v with
   |ref a=>simp[carriedByValue]at hv
   |_=>rfl
  rw[e];refine aa (ai ?_);simp only[bz,if_false];exact ai ⟨rfl,rfl,λu yq=>zb u (az _ yq)⟩
 ·rintro ⟨r1,r2⟩ s' ⟨hr,rfl,_⟩
  simp only at hr;subst hr;exact ai h
theorem UI {k:xu}{b:ah}{Q:Bool->af->Prop}(hb:gb (intKind prog w) s.heap k b):∀(l:List ae),(∀y∈l,∃k' b',y=.ref b'/\gb (intKind prog w) s.heap k' b')->Q false s->
  wpAny (model prog w) A (searchCouldBeSeen (.ref b) l) Q E s:=by
 intro l hl h;unfold searchCouldBeSeen;refine aa ?_;refine qo _ (λrest r s'=>r.1=none/\s'=s/\∀y∈rest,∃k' b',y=.ref b'/\gb (intKind prog w) s.heap k' b') _ ?_ ?_ _ _ ⟨rfl,rfl,hl⟩
 ·rintro y rest r s' ⟨hr,rfl,zb⟩
  obtain⟨k',b',rfl,hb'⟩:=zb y bc;have fin:r.1=none/\s'=s'/\∀y∈rest,∃k' b',y=.ref b'/\gb (intKind prog w) s'.heap k' b':=⟨hr,rfl,λu hu=>zb u (az _ hu)⟩
  dsimp only
  split
  ·exact ai ⟨rfl,rfl,fin.2.2⟩
  ·refine aa (wpAny_eqIsQuiet_tuple hb ?_);simp only[nq,bz,if_false];refine aa (wpAny_eqIsQuiet_tuple hb' ?_);simp only[nq,bz,if_false];refine aa (GW hb ?_);simp only[bz,if_false];refine aa (GW hb' ?_);simp only[bz,if_false];exact ai ⟨rfl,rfl,fin.2.2⟩
 ·rintro ⟨r1,r2⟩ s' ⟨hr,rfl,_⟩
  simp only at hr;subst hr;exact ai h
end
section
variable{prog:bg}{w:cf}{A:bp}{E:ae->af->Prop}{s:af}{a:ah}{kb:KB}{o:Obj}{es:Array (Int×ae)}{ep:Nat}{t:gp}{k:xu}{b:ah}
theorem mem_keys {kb:KB}{k:xu}:k∈kb.map ed↔∃(i:Nat) (b:ah),kb[i]?=some (k,b):=by
 constructor
 ·intro h;obtain⟨⟨k',b⟩,hp,rfl⟩:=cw.mp h;obtain⟨i,hi,e⟩:=jg hp;exact⟨i,b,by rw[bh hi,e]⟩
 ·rintro ⟨i,b,e⟩
  exact cw.mpr ⟨(k,b),cm e,rfl⟩
theorem UJ (P:yo prog w s.heap a kb o es ep t) (T:tT prog w s.heap kb) (hb:gb (intKind prog w) s.heap k b) (hu:A.units<cLine) {Q:SetFound->af->Prop}
  (zv:k∈kb.map ed->Q (.there none) s)
  (zo:k∉kb.map ed->∀n,pr t.mask (hk prog w k) n∉t.place.toList->(∀m,m<n->pr t.mask (hk prog w k) m∈t.place.toList)->Q (.free (pr t.mask (hk prog w k) n) false) s)
  (N:Nat) (hN:N<10*qd t.mask) (hNe:pr t.mask (hk prog w k) N∉t.place.toList):
  ∀(fuel n:Nat) (stand:Option SetTable.Probe),stand.getD (t.probeStart (hk prog w k))=cD t.mask (hk prog w k) n->n<=N->N - n<fuel->
   (∀l,l<n->pr t.mask (hk prog w k) l∈t.place.toList/\∀(i:Nat) p,t.place.toList[i]?=some (pr t.mask (hk prog w k) l)->kb[i]?=some p->p.1≠k)->
   wpAny (model prog w) A (setSearchFrom a (.ref b) (hk prog w k) true fuel stand) Q E s:=by
 intro fuel
 induction fuel with
 |zero=>intro n stand _ _ h2;omega
 |succ f ih=>
  intro n stand Am h1 h2 hseen;have hlen:t.place.toList.length=kb.length:=by have:=P.tab.size;simpa using this
  have kbat:∀{i j:Nat},t.place.toList[i]?=some j->∃p,kb[i]?=some p:=λ{i j} e=>by obtain⟨hi,_⟩:=ay.mp e;exact⟨kb[i]'(by omega),bh (by omega)⟩
  unfold setSearchFrom;refine aa (jb P.obj P.data P.fits ?_);dsimp only;rw[P.tab.gave];simp only[bz,if_false];obtain⟨m,a1,a2,a3,a4⟩:=UA P.tab (λi=>(es[i]?.map (·.1)).getD 0) (hk prog w k) (10*qd t.mask) n N h1 (by omega) hNe;have pass:∀l,l<m->pr t.mask (hk prog w k) l∈t.place.toList/\∀(i:Nat) p,t.place.toList[i]?=some (pr t.mask (hk prog w k) l)->kb[i]?=some p->p.1≠k:=by
   intro l hl
   rcases ij l n with q|q
   ·exact hseen l q
   ·obtain⟨b1,b2⟩:=a3 l q hl;refine⟨b1,λi p e1 e2 e3=>b2 i e1 ?_⟩;show(es[i]?.map (·.1)).getD 0=_;rw[P.hash_at e2,e3]
  rcases a4 with⟨b1,b2⟩|⟨i,b1,b2,b3⟩
  ·have e:∀g:Nat->Int,g=(λi=>(es[i]?.map (·.1)).getD 0)->t.probe g (hk prog w k) (stand.getD (t.probeStart (hk prog w k)))=some (.empty (pr t.mask (hk prog w k) m) none):=by rintro g rfl;rw[Am];exact b2
   rw[e]
   rotate_left
   ·rfl
   refine ai (zo ?_ m b1 λl hl=>(pass l hl).1);intro Aa;obtain⟨i,b',ei⟩:=mem_keys.mp Aa;obtain⟨j,ej⟩:∃j,t.place.toList[i]?=some j:=by obtain⟨hi,_⟩:=ay.mp ei;exact⟨_,bh (by omega)⟩
   obtain⟨n',hn',e'⟩:=P.tab.before (i:=i) (h:=hk prog w k) (by rw[dz,ei];rfl) ej b1;exact(pass n' hn').2 i (k,b') (by rw[e'];exact ej) ei rfl
  ·have e:∀g:Nat->Int,g=(λi=>(es[i]?.map (·.1)).getD 0)->t.probe g (hk prog w k) (stand.getD (t.probeStart (hk prog w k)))=some (.candidate (pr t.mask (hk prog w k) m) i (cD t.mask (hk prog w k) (m+1))):=by rintro g rfl;rw[Am];exact b3
   rw[e]
   rotate_left
   ·rfl
   dsimp only;obtain⟨p,ep'⟩:=kbat b1;have hp:=T p (cm ep');have es1:t.sameMemory t.moves t.mask=some true:=by unfold SetTable.sameMemory;simp
   obtain⟨i2,e2,e3⟩:=P.tab.slot_live (cm b1);have hi2:i2=i:=yW P.tab.rise e3 b1;subst hi2;have nxt:¬ p.1=k->wpAny (model prog w) A (setSearchFrom a (.ref b) (hk prog w k) true f (some (cD t.mask (hk prog w k) (m+1)))) Q E s:=by
    intro hpk;have hmN:m≠N:=by rintro rfl;exact hNe (cm b1)
    refine ih (m+1) _ rfl (by omega) (by omega) ?_
    ·intro l hl
     rcases ij l m with q|q
     ·exact pass l q
     ·have:l=m:=by omega
      subst this;refine⟨cm b1,λi' p' z1 z2=>?_⟩;have:i'=i2:=yW P.tab.rise z1 b1;subst this;rw[ep']at z2;cases z2;exact hpk
   cases hl:t.led
   case' true=>simp only[nq,bz,if_false]
   case' false=>
    simp only[Bool.not_false,if_true];refine aa (UI hb _ ?_ ?_)
    ·intro y hy;obtain⟨e1,he1,rfl⟩:=cw.mp hy;have Ag:=(Array.mem_filter.mp (wt.mp he1)).1;have he3:e1∈eO prog w kb:=by rw[<-P.es];exact wt.mpr Ag
     obtain⟨q,hq,rfl⟩:=cw.mp he3;exact⟨q.1,q.2,rfl,T q hq⟩
    simp only[bz,if_false]
   all_goals
    rw[P.at_ ep'];dsimp only;refine aa (dv (wpAny_eqBool_tuple hu hp hb ?_));refine aa (jb P.obj P.data P.fits ?_);dsimp only
    by_cases hpk:p.1=k
    ·rw[decide_eq_true hpk];simp only[Bool.true_and,if_true];exact ai (zv (mem_keys.mpr ⟨i2,p.2,by rw[ep',<-hpk]⟩))
    ·rw[decide_eq_false hpk];simp only[ow,bz,if_false];rw[es1];dsimp only;simp only[if_true];rw[e2];dsimp only;rw[P.at_ ep'];dsimp only;refine aa (wpAny_isSame_ref_self ?_);refine aa (ai ?_);simp only[if_true];exact nxt hpk
theorem UK (P:yo prog w s.heap a kb o es ep t) (T:tT prog w s.heap kb) (hb:gb (intKind prog w) s.heap k b) (hu:A.units<cLine) {Q:SetFound->af->Prop}
  (zv:k∈kb.map ed->Q (.there none) s)
  (zo:k∉kb.map ed->∀n,pr t.mask (hk prog w k) n∉t.place.toList->(∀m,m<n->pr t.mask (hk prog w k) m∈t.place.toList)->Q (.free (pr t.mask (hk prog w k) n) false) s):
  wpAny (model prog w) A (setSearch a (.ref b) (hk prog w k) true) Q E s:=by
 obtain⟨N,hN,hNe⟩:=P.tab.stops (hk prog w k);have hm:10*qd t.mask<=1420:=by
  unfold qd
  rcases P.tab.msk with e|e|e <;> rw[e] <;> decide
 exact UJ P T hb hu zv zo N hN hNe 100000 0 none rfl (iq _) (by omega) λl hl=>absurd hl (by omega)
theorem UL {Q:Bool->af->Prop}(hb:gb (intKind prog w) s.heap k b) (h:Q true s):wpAny (model prog w) A (hashByValue 8 (.ref b)) Q E s:=by
 have hT:=hb.typeIs;obtain⟨o,items,n,ho,hc,hd,hi⟩:=hb;unfold hashByValue;refine aa (vj hT F.slot_tuple_hash.lookup ?_);dsimp only;refine aa (iz ho hd ?_);refine aa ?_;show wpAny _ _ (forIn items _ _) _ _ s;rw[<-xk];have hv:∀v∈items.toList,∃i t,v=.int i t:=by
  clear hd ho
  generalize items.toList=l at hi
  induction hi with
  |nil=>intro v h;cases h
  |cons h1 _ ih=>
   intro v hv
   rcases ba.mp hv with rfl|hv
   ·obtain⟨t,e⟩:=lg h1;exact⟨_,t,e⟩
   ·exact ih v hv
 refine qo _ (λrest r s'=>r.1=none/\s'=s/\∀v∈rest,∃i t,v=.int i t) _ ?_ ?_ _ _ ⟨rfl,rfl,hv⟩
 ·rintro v rest r s' ⟨hr,rfl,zb⟩
  obtain⟨i,t,rfl⟩:=zb v bc;refine aa (ai ?_);simp only[nq,bz,if_false];exact ai ⟨rfl,rfl,λu yq=>zb u (az _ yq)⟩
 ·rintro ⟨r1,r2⟩ s' ⟨hr,rfl,_⟩
  simp only at hr;subst hr;exact ai h
end
section
variable{prog:bg}{w:cf}{A:bp}{E:ae->af->Prop}{s:af}{a:ah}{kb:KB}{o:Obj}{es:Array (Int×ae)}{ep:Nat}{t:gp}{k:xu}{b:ah}
theorem UM (p:Nat):(eO prog w kb).take p++(hk prog w k,gm b)::(eO prog w kb).drop p=eO prog w (kb.take p++(k,b)::kb.drop p):=by simp[eO,rf,rg]
theorem UN (p:Nat):(kb.map λq=>hk prog w q.1).take p++hk prog w k::(kb.map λq=>hk prog w q.1).drop p=(kb.take p++(k,b)::kb.drop p).map λq=>hk prog w q.1:=by simp[rf,rg]
theorem lD {α:Type}(l:List α) (x:α) (p:Nat):(l.take p++x::l.drop p).Perm (x::l):=by have h:(l.take p++x::l.drop p).Perm (x::(l.take p++l.drop p)):=List.perm_middle;rwa [wq]at h
theorem yY {p:Nat}(h:(kb.map ed).Nodup) (hk:k∉kb.map ed):((kb.take p++(k,b)::kb.drop p).map ed).Nodup:=by have q:=(lD kb (k,b) p).map ed;exact q.nodup_iff.mpr (jo.mpr ⟨hk,h⟩)
theorem GX {es':Array (Int×ae)}{t':gp}(hd:o.data=.set es ep t) (ho:s.heap.get? a=some o):(s.heap.update a (Obj.putSet es' t')).get? a=some { o with data:=.set es' (ep+1) t' }:=by have:=my (Obj.putSet es' t') ho (by rw[putSet_of es' t' hd];rfl);rw[putSet_of es' t' hd]at this;exact this
theorem GY {α:Type}:∀(l:List α),(bx l.length).filterMap (λi=>l[i]?)=l
 | []=>rfl
 |x::l=>by
  rw[cn,vq,cj];simp only[List.getElem?_cons_zero,List.filterMap_map]
  congr 1
  exact GY l
theorem GZ {kb:KB}{mask' wanted:Nat}{Q:Unit->af->Prop}(ho:s.heap.get? a=some o) (hex:o.ExactSet) (hd:o.data=.set es ep t) (hes:es.toList=eO prog w kb) (hT:Ac t (kb.map λp=>hk prog w p.1)) (nd:(kb.map ed).Nodup) (hled:t.led=!w.params.followText "set-order")
  (hw:w9 wanted - 1=mask') (hg:jU mask') (hl:kb.length*5<mask'*3) (hz:w9 wanted<=bo)
  (h:∀h' Aq,gg a s.heap h'->jB prog w h' a Aq->Aq.Perm kb->Q () { s with heap:=h' }):
  wpAny (model prog w) A (setRelay a wanted) Q E s:=by
 have hsz:es.size=kb.length:=by have:=congrArg qr hes;simpa[eO]using this
 have hfit:t.fits es.size=true:=by have:=hT.fits;rw[bf]at this;rw[hsz];exact this
 have eh:(es.map (·.1)).toList=kb.map λp=>hk prog w p.1:=by rw[Array.toList_map,hes];simp[eO]
 have hs':(es.map (·.1)).size=kb.length:=by simp[hsz]
 unfold setRelay;refine aa (jb ho hd hfit ?_);dsimp only;rw[if_neg (by omega)];obtain⟨t',order,e1,e2,e3,e4,e5⟩:=UH (mask:=mask') (finger:=t.finger) (moves:=t.movedTo mask') (led:=t.led) (hs:=es.map (·.1)) hg (by rw[hs'];omega);have er:t.relaid (es.map (·.1)) wanted=some (t',order):=by unfold SetTable.relaid;rw[hw,hT.plain];exact e1
 rw[er];have hlt:∀i∈order.toList,i<kb.length:=λi hi=>by have:=bq.mp (e4.mem_iff.mp hi);omega
 have hfm:∀(l:xv),(∀i∈l,i<kb.length)->l.filterMap (λi=>es[i]?)=eO prog w (l.filterMap λi=>kb[i]?):=by
  intro l hl
  induction l with
  |nil=>rfl
  |cons i l ih=>
   have hi:=hl i bc;have q1:kb[i]?=some kb[i]:=bh hi;have q2:es[i]?=some (hk prog w kb[i].1,gm kb[i].2):=by
    have:es.toList[i]?=some (hk prog w kb[i].1,gm kb[i].2):=by rw[hes];simp[eO,q1]
    simpa using this
   rw[cj,cj,q1,q2];simp only;rw[ih λj hj=>hl j (az _ hj)];rfl
 have hkey:∀(l:xv),(∀i∈l,i<kb.length)->l.filterMap (λi=>(es.map (·.1)).toList[i]?)=(l.filterMap λi=>kb[i]?).map λp=>hk prog w p.1:=by
  intro l hl
  induction l with
  |nil=>rfl
  |cons i l ih=>
   have hi:=hl i bc;have q1:kb[i]?=some kb[i]:=bh hi;have q2:(es.map (·.1)).toList[i]?=some (hk prog w kb[i].1):=by rw[eh];simp[q1]
   rw[cj,cj,q1,q2];simp only;rw[ih λj hj=>hl j (az _ hj)];rfl
 have zy:(order.toList.filterMap λi=>kb[i]?).Perm kb:=by have q:=e4.filterMap (λi=>kb[i]?);rw[hs']at q;exact q.trans (List.Perm.of_eq (GY kb))
 have hes2:(order.filterMap (es[·]?)).toList=eO prog w (order.toList.filterMap λi=>kb[i]?):=by rw[Array.toList_filterMap];exact hfm _ hlt
 have hsz2:(order.filterMap (es[·]?)).size=es.size:=by have:=congrArg qr hes2;rw[iw]at this;rw[this,hsz];simp[eO,zy.length_eq]
 show wpAny _ _ ((if((order.filterMap (es[·]?)).size != es.size)=true then(unsupported "internal:set-table-lost-an-element" >>= λ_=>pure (order.filterMap (es[·]?),t'))else pure (order.filterMap (es[·]?),t')) >>= _) _ _ s;rw[if_neg (by rw[hsz2];simp)];refine aa (ai ?_);dsimp only;refine wpAny_storeSet_of ho hd ?_ (by rw[hsz2,hsz];rcases hg with q|q|q <;> (rw[q]at hl;rw[gr];omega));refine h _ (order.toList.filterMap λi=>kb[i]?) (mq ..) ⟨_,_,_,t',GX hd ho,hex,rfl,hes2, ?_, ?_, ?_,e3.trans hled⟩ zy
 ·rw[<-hkey _ hlt];exact e5
 ·exact(zy.map ed).nodup_iff.mpr nd
 ·rw[zy.length_eq,e2];exact hl
theorem UO (P:yo prog w s.heap a kb o es ep t) (T:tT prog w s.heap kb) (hb:gb (intKind prog w) s.heap k b) (hu:A.units<cLine) (h76:k∉kb.map ed->kb.length+1<=76) {Q:Bool->af->Prop}
  (h:∀h' Aq r,gg a s.heap h'->jB prog w h' a Aq->(k∈kb.map ed->Aq.Perm kb)->(k∉kb.map ed->Aq.Perm ((k,b)::kb))->Q r { s with heap:=h' }):
  wpAny (model prog w) A (setAddHashed a (.ref b) (hk prog w k)) Q E s:=by
 unfold setAddHashed;refine dv ?_;unfold setAddHashedIn;refine aa (jb P.obj P.data P.fits ?_);dsimp only;have hbs:byScan (.ref b) es=false:=by simp[byScan,Value.scannable]
 rw[hbs];simp only[bz,if_false];refine aa (UK P T hb hu (λzv=>?_) λzo n hn hw=>?_)
 ·dsimp only;refine ai ?_;have:=h s.heap kb false (qk ..) ⟨o,es,ep,t,P⟩ (λ_=>.refl _) λq=>absurd zv q;exact this
 ·dsimp only;refine aa (jb P.obj P.data P.fits ?_);dsimp only;rw[UB P.tab.nod];dsimp only;rw[if_pos P.tab.plain];refine aa (UL hb ?_);simp only[if_true];have hlen:=P.nf;have hmask:=P.tab.msk;have hroom:(kb.map λp=>hk prog w p.1).length+1<=t.mask:=by
   rw[bf]
   rcases hmask with q|q|q <;> (rw[q]at hlen ⊢;omega)
  have T2:=P.tab.put (h:=hk prog w k) (n:=n) hn hw hroom;have hbl:=(qR (j:=pr t.mask (hk prog w k) n) P.tab.rise).2.2;generalize hp:qe t.place (pr t.mask (hk prog w k) n)=p at T2 hbl ⊢;rw[UN (b:=b)]at T2;have hesl:(ik es p (hk prog w k,gm b)).toList=eO prog w (kb.take p++(k,b)::kb.drop p):=by rw[qS _ _ _ (by rw[P.size,<-show t.place.size=kb.length from by have:=P.tab.size;simpa using this];exact hbl),P.es,UM]
  have hsz:(ik es p (hk prog w k,gm b)).size=kb.length+1:=by have:=congrArg qr hesl;simp only[eO,bf,iw]at this;rw[this,(lD kb (k,b) p).length_eq];rfl
  refine aa (wpAny_storeSet_of P.obj P.data ?_ (by rw[hsz,gr];have:=h76 zo;omega));have Av:(kb.take p++(k,b)::kb.drop p).length=kb.length+1:=(lD kb (k,b) p).length_eq;have ho2:=GX (s:=s) (es':=ik es p (hk prog w k,gm b)) (t':={ t with place:=ik t.place p (pr t.mask (hk prog w k) n) }) P.data P.obj;have fill:({ t with place:=ik t.place p (pr t.mask (hk prog w k) n) }:gp).tooFull=decide ((kb.length+1)*5>=t.mask*3):=by unfold SetTable.tooFull SetTable.fill;have e1:=T2.size;rw[bf,Av]at e1;have e1':(ik t.place p (pr t.mask (hk prog w k) n)).size=kb.length+1:=e1;dsimp only;rw[P.tab.nod,e1'];rfl
  simp only[Bool.not_false,Bool.true_and];rw[fill];have fin:∀h' Aq,gg a (s.heap.update a (Obj.putSet (ik es p (hk prog w k,gm b)) { t with place:=ik t.place p (pr t.mask (hk prog w k) n) })) h'->jB prog w h' a Aq->
    Aq.Perm (kb.take p++(k,b)::kb.drop p)->Q true { s with heap:=h' }:=λh' Aq sb st pm=>
   h h' Aq true ((mq ..).trans sb) st (λq=>absurd q zo) λ_=>pm.trans (lD kb (k,b) p)
  by_cases full:(kb.length+1)*5>=t.mask*3
  ·rw[decide_eq_true full,if_pos rfl];have h76':=h76 zo;have hcase:(t.mask=7/\kb.length=4)∨(t.mask=31/\kb.length=18):=by
    rcases hmask with q|q|q
    ·left;rw[q]at hlen full;exact⟨q,by omega⟩
    ·right;rw[q]at hlen full;exact⟨q,by omega⟩
    ·rw[q]at full;omega
   have es0:es.size=kb.length:=P.size
   rcases hcase with⟨q1,q2⟩|⟨q1,q2⟩
   ·refine aa (GZ (mask':=31) (kb:=kb.take p++(k,b)::kb.drop p) ho2 P.ex rfl hesl T2 (yY P.nd zo) P.led (by rw[es0,q2];decide) (.inr (.inl rfl)) (by rw[Av,q2];decide) (by rw[es0,q2,gr];decide) λh' Aq sb st pm=>ai (fin h' Aq sb st pm))
   ·refine aa (GZ (mask':=127) (kb:=kb.take p++(k,b)::kb.drop p) ho2 P.ex rfl hesl T2 (yY P.nd zo) P.led (by rw[es0,q2];decide) (.inr (.inr rfl)) (by rw[Av,q2];decide) (by rw[es0,q2,gr];decide) λh' Aq sb st pm=>ai (fin h' Aq sb st pm))
  ·rw[decide_eq_false full,if_neg gu];refine ai (fin _ _ (qk ..) ⟨_,_,_,_,ho2,P.ex,rfl,hesl,T2,yY P.nd zo, ?_,P.led⟩ (.refl _));rw[Av];exact Nat.lt_of_not_le full
end
theorem yo.keep {prog:bg}{w:cf}{h h':ck}{a:ah}{kb:KB}(S:jB prog w h a kb) (k:∀o,h.get? a=some o->h'.get? a=some o):jB prog w h' a kb:=by obtain⟨o,es,ep,t,P⟩:=S;exact⟨o,es,ep,t,k o P.obj,P.ex,P.data,P.es,P.tab,P.nd,P.nf,P.led⟩
theorem tU {prog:bg}{w:cf}{h h':ck}{ks:xu}{a:ah}(x:gb (intKind prog w) h ks a) (k:∀o,h.get? a=some o->h'.get? a=some o):gb (intKind prog w) h' ks a:=by obtain⟨o,items,n,ho,r⟩:=x;exact⟨o,items,n,k o ho,r⟩
section
variable{prog:bg}{w:cf}{A:bp}{R:u6->af->Prop}{I:ah}{fp wr:List ah}{n:Nat}{P:Nat->ae->Prop}{St:Nat->ck->Prop}
structure Upto (ky:Nat->xu) (ad:Nat->ah) (i:Nat) (kb:KB):Prop where
 from_:∀p∈kb,∃j,j<i/\p=(ky j,ad j)
 all:∀j,j<i->ky j∈kb.map ed
theorem UP (W:Walks prog w A.in1 I fp wr n P St) (S:ah) (hSf:S∉fp) (ad:Nat->ah) (ky:Nat->xu) (hval:∀i v,P i v->v=.ref (ad i)) (hu:A.units+2<cLine)
  (U:xr) (hU:U.length<=76) (hky:∀i,i<n->ky i∈U) (hS:∀i,i<n->ad i≠S/\ad i∉wr):
  ∀(m i:Nat) (s:af) (kb:KB),n - i=m->i<=n->St i s.heap->jB prog w s.heap S kb->Upto ky ad i kb->(∀j,j<n->gb (intKind prog w) s.heap (ky j) (ad j))->
   (∀h' tk Aq,(∀b o,b∉S::wr->s.heap.get? b=some o->h'.get? b=some o)->jB prog w h' S Aq->Upto ky ad n Aq->R (.ok (.ret .none)) { s with heap:=h',toks:=tk })->
   codeAny (model prog w) A (.builtin "set.update.loop" ⟨[.ref S,.ref I],[]⟩) R s:=by
 have hSw:S∉wr:=λh=>hSf (W.sub _ h);intro m
 induction m with
 |zero=>
  intro i s kb hk hi Am hT A' Aw hR;have zv:i=n:=by omega
  subst zv;refine jz F.entry_set_update_loop ?_;rw[jd F.plain_set_update_loop _];show wpAny _ A.in1 (pyNext (.ref I) >>= _) _ _ s;refine aa (W.done s _ _ Am λh' tk hm=>?_);exact ai (hR h' tk kb (λb o hb e=>hm b o (λz=>hb (az _ z)) e) (yo.keep hT λo e=>hm S o hSw e) A')
 |succ m ih=>
  intro i s kb hk hi Am hT A' Aw hR;have hlt:i<n:=by omega
  refine jz F.entry_set_update_loop ?_;rw[jd F.plain_set_update_loop _];show wpAny _ A.in1 (pyNext (.ref I) >>= _) _ _ s;refine aa (W.item i s _ _ hlt Am λv h' tk hP hst' hm=>?_);have ev:=hval i v hP;subst ev;have hT':jB prog w h' S kb:=yo.keep hT λo e=>hm S o hSw e;have An:∀j,j<n->gb (intKind prog w) h' (ky j) (ad j):=λj hj=>tU (Aw j hj) λo e=>hm _ o (hS j hj).2 e;show wpAny _ A.in1 (holding [gm (ad i)] (setAdd S (.ref (ad i))) >>= _) _ _ _;refine aa (dv ?_);unfold setAdd;refine dv ?_;refine aa (wpAny_pyHash_tuple (s:={ s with heap:=h',toks:=tk }) (show A.in1.units<cLine by show A.units+1<cLine;omega) (An i hlt) ?_);obtain⟨o,es,ep,t,Pt⟩:=hT';have tups:tT prog w h' kb:=λp hp=>by obtain⟨j,hj,rfl⟩:=A'.from_ p hp;exact An j (by omega)
  have hsub:∀x∈kb.map ed,x∈U:=λx hx=>by obtain⟨p,hp,rfl⟩:=cw.mp hx;obtain⟨j,hj,rfl⟩:=A'.from_ p hp;exact hky j (by omega)
  refine UO (s:={ s with heap:=h',toks:=tk+((ky i).length+1) }) (a:=S) (k:=ky i) (b:=ad i) Pt tups (An i hlt) (by show A.units+1<cLine;omega) (λzo=>?_) λh2 kb2 r sb hT2 q1 q2=>?_
  ·have nd:(ky i::kb.map ed).Nodup:=jo.mpr ⟨zo,Pt.nd⟩;have:=nd.length_le_of_subset (l₂:=U) λx hx=>by
    rcases ba.mp hx with rfl|hx
    ·exact hky i hlt
    ·exact hsub x hx
   simp at this;omega
  ·have hup2:Upto ky ad (i+1) kb2:=by
    by_cases zv:ky i∈kb.map ed
    ·have pm:=q1 zv;refine⟨λp hp=>?_,λj hj=>?_⟩
     ·obtain⟨j,hj,e⟩:=A'.from_ p (pm.mem_iff.mp hp);exact⟨j,by omega,e⟩
     ·rw[(pm.map ed).mem_iff]
      rcases ij j i with z|z
      ·exact A'.all j z
      ·have:j=i:=by omega
       subst this;exact zv
    ·have pm:=q2 zv;refine⟨λp hp=>?_,λj hj=>?_⟩
     ·rcases ba.mp (pm.mem_iff.mp hp)with z|z
      ·exact⟨i,by omega,z⟩
      ·obtain⟨j,hj,e⟩:=A'.from_ p z;exact⟨j,by omega,e⟩
     ·rw[(pm.map ed).mem_iff,dy,ba]
      rcases ij j i with z|z
      ·exact .inr (A'.all j z)
      ·have:j=i:=by omega
       subst this;exact .inl rfl
   refine ai ⟨plainId_quiet F.plain_set_update_loop _,ih (i+1) _ kb2 (by omega) hlt (W.frame _ _ _ hst' λb hb o e=>?_) hT2 hup2 (λj hj=>?_) λh3 tk3 kb3 k3 hT3 hup3=>?_⟩
   ·rw[sb.2 b (λz:b=S=>hSf (by rw[<-z];exact hb))];exact e
   ·exact tU (An j hj) λo e=>(sb.2 _ (hS j hj).1).trans e
   ·refine hR h3 tk3 kb3 (λb o hb e=>k3 b o hb ?_) hT3 hup3;exact(sb.2 b λz=>hb (by rw[z];exact bc)).trans (hm b o (λz=>hb (az _ z)) e)
end
theorem walk_slots:Slot "set" "__iter__" "set.__iter__"/\Slot "set_iterator" "__next__" "set_iterator.__next__"/\Slot "set_iterator" "__iter__" "set_iterator.__iter__"/\Slot "set" "__len__" "set.__len__":=by
 refine⟨Slot.of (owner := "set") (n := "__iter__") ?_ ?_ ?_ ?_ ?_ ?_,Slot.of (owner := "set_iterator") (n := "__next__") ?_ ?_ ?_ ?_ ?_ ?_,Slot.of (owner := "set_iterator") (n := "__iter__") ?_ ?_ ?_ ?_ ?_ ?_,Slot.of (owner := "set") (n := "__len__") ?_ ?_ ?_ ?_ ?_ ?_⟩
 all_goals first
  |decide +kernel
  |(rw[typeLookup_type,builtinLookup_eq_fast];kernel_rfl)
  |(rw[isSubtype_type];kernel_rfl)
  |(left;decide +kernel)
  |(right;decide +kernel)
theorem tV (a:ae):argsOk "set.__iter__" ⟨[a],[]⟩/\argsOk "set_iterator.__next__" ⟨[a],[]⟩/\argsOk "set_iterator.__iter__" ⟨[a],[]⟩:=by refine⟨?_, ?_, ?_⟩ <;> unfold argsOk <;> kernel_rfl
theorem G1:entryFor table "set_iterator.__next__" = some lr.«set_iterator.__next__»:=entryFor_of_fast (by kernel_rfl)
theorem UQ:entryFor table "set.__iter__" = some lr.«frozenset.__iter__»:=entryFor_alias (id' := "frozenset.__iter__") (by kernel_rfl) rfl (by decide +kernel) (by kernel_rfl)
theorem UR:entryFor table "set_iterator.__iter__" = some lr.«dict_keyiterator.__iter__»:=entryFor_alias (id' := "dict_keyiterator.__iter__") (by kernel_rfl) rfl (by decide +kernel) (by kernel_rfl)
theorem erase_perm {α:Type}:∀(l:List α) (i:Nat) (h:i<l.length),(l[i]::l.eraseIdx i).Perm l
 | [],_,h=>absurd h (by simp)
 |x::r,0,_=>.refl _
 |x::r,i+1,h=>by have ih:=erase_perm r i (by simpa using h);show((r[i]'(by simpa using h))::x::r.eraseIdx i).Perm (x::r);exact(t9 _ _ _).trans (ih.cons x)
theorem G2 {α:Type}(next:Nat->Nat):∀(fuel k:Nat) (l:List α) (out:Array α),l.length<=fuel->(uj next fuel k l out).toList.Perm (out.toList++l)
 |0,k,l,out,h=>by have:l=[]:=vk.mp (by omega);subst this;rw[uj];simp
 |fuel+1,k,l,out,h=>by
  rw[uj]
  cases l with
  |nil=>simp
  |cons x r=>have hlt:next k % (x::r).length<(x::r).length:=Nat.mod_lt _ (by simp);rw[bh hlt];dsimp only;refine(G2 next fuel (k+1) _ _ (by rw[uw hlt];omega)).trans ?_;rw[Array.toList_push,sk];refine ux _ ?_;exact erase_perm _ _ hlt
theorem US {α:Type}(next:Nat->Nat) (xs:Array α):(pickOrder next xs).toList.Perm xs.toList:=by unfold pickOrder;have:=G2 next xs.size 0 xs.toList #[] (by simp);simpa using this
section
variable{prog:bg}{w:cf}
def fY (w:cf) (a:ah) (ep:Nat) (es:Array (Int×ae)):Array (Int×ae):=if w.params.followText "set-order" then pickOrder (w.params.setOrder a ep) es else es
theorem G3 (w:cf) (a:ah) (ep:Nat) (es:Array (Int×ae)):(fY w a ep es).toList.Perm es.toList:=by
 unfold fY
 split
 ·exact US _ _
 ·exact .refl _
theorem tW (w:cf) (a:ah) (ep:Nat) (es:Array (Int×ae)):(fY w a ep es).size=es.size:=by simpa using(G3 w a ep es).length_eq
def eQ (w:cf) (t:gp) (i:Nat):Nat:=if w.params.followText "set-order" then 0 else match i with|0=>0|j+1=>t.place.getD j 0+1
def iJ (a:ah) (slot i n ep:Nat):Obj:={ cls:=.type "set_iterator",data:=.fields #[rawInt slot,rawInt i,.ref a,rawInt n,rawInt ep] }
theorem UT {t:gp}{hs:xu}(T:Ac t hs) (hb:w.params.followText "set-order" = false) {i:Nat}(hi:i<=t.place.size):qe t.place (eQ w t i)=i:=by
 obtain⟨h1,h2,h3⟩:=qR (j:=eQ w t i) T.rise;have mono:∀a b (ha:a<t.place.size) (hb:b<t.place.size),a<b->t.place[a]<t.place[b]:=by intro a b ha hb Ah;have:=gj.mp T.rise a b (by simpa using ha) (by simpa using hb) Ah;simpa using this
 unfold eQ at h1 h2 h3 ⊢;rw[hb]at h1 h2 h3 ⊢;simp only[bz,if_false]at h1 h2 h3 ⊢
 cases i with
 |zero=>
  dsimp only at h1 h2 h3 ⊢;generalize qe t.place 0=r at h1 h2 h3 ⊢
  cases r with
  |zero=>rfl
  |succ r=>have:=h1 r (by omega) (by omega);omega
 |succ j=>
  dsimp only at h1 h2 h3 ⊢;have hj:j<t.place.size:=by omega
  have ej:t.place.getD j 0=t.place[j]:=by simp[jk,hj]
  rw[ej]at h1 h2 h3 ⊢;generalize qe t.place (t.place[j]+1)=r at h1 h2 h3 ⊢
  rcases Nat.lt_trichotomy r (j+1)with q|q|q
  ·have:=h2 j hj (by omega);omega
  ·exact q
  ·have:=h1 (j+1) (by omega) q;have:=mono j (j+1) hj (by omega) (by omega);omega
end
section
variable{prog:bg}{w:cf}{A:bp}{E:ae->af->Prop}{s:af}{a it:ah}{kb:KB}{o:Obj}{es:Array (Int×ae)}{ep:Nat}{t:gp}
theorem UU {Q:Bool->af->Prop}(P:yo prog w s.heap a kb o es ep t) (h:Q false s):wpAny (model prog w) A (setDrawn a) Q E s:=by
 unfold setDrawn setsByText;refine aa (jb P.obj P.data P.fits ?_);dsimp only;refine aa (aa (ku (ai ?_)));have e:(!(w.params.followText "set-order")&&((!t.plain)&&decide (es.size>1)))=false:=by rw[P.tab.plain];simp
 show wpAny _ _ (pure (!(w.params.followText "set-order")&&((!t.plain)&&decide (es.size>1)))) _ _ s;rw[e];exact ai h
theorem UW {Q:ae->af->Prop}(P:yo prog w s.heap a kb o es ep t) (h:Q (.ref s.heap.objs.size) { s with heap:=s.heap.push (iJ a 0 0 es.size ep) }):
  wpAny (model prog w) A (pyIter (.ref a)) Q E s:=by
 have hT:s.TypeIs (.ref a) "set" := ⟨o,P.obj,P.ex.1⟩;refine uk hT walk_slots.1 (fq walk_slots.1 hT UQ ?_ (tV _).1);unfold lr.«frozenset.__iter__» Builtin.Frozenset.slot0;refine aa (m:=(do Builtin.Frozenset.addrOf (<-slotArgs "__iter__" 0 ⟨[.ref a],[]⟩).1:Sem ah)) (ai ?_);unfold Builtin.Frozenset.sizeOf;refine aa (aa (td P.obj P.data P.fits (ai ?_)));refine aa (UU P ?_);simp only[bz,if_false];refine aa (ai ?_);refine aa (wpAny_setEpoch_of P.obj P.data P.fits ?_);refine aa (du ?_ (by size_fits));refine ai ⟨_,rfl,"set_iterator",_,⟨_,av _ rfl,rfl⟩,walk_slots.2.1.lookup,h⟩
end
section
variable{prog:bg}{w:cf}{A:bp}{E:ae->af->Prop}{s:af}{a it:ah}{kb:KB}{o:Obj}{es:Array (Int×ae)}{ep:Nat}{t:gp}
theorem G4 {i:Nat}{Q:Option (ae×Nat)->af->Prop}(P:yo prog w s.heap a kb o es ep t) (hi:i<=es.size)
  (h:Q (((fY w a ep es)[i]?).map λe=>(e.2,eQ w t (i+1))) s):wpAny (model prog w) A (setNext a (eQ w t i) i ep) Q E s:=by
 unfold setNext setsByText;refine aa (jb P.obj P.data P.fits ?_);dsimp only;refine aa (aa (ku (ai ?_)));have hps:t.place.size=es.size:=by have:=P.tab.size;rw[P.size];simpa using this
 show wpAny _ _ (if w.params.followText "set-order" = true then _ else _) _ _ s
 by_cases hb:w.params.followText "set-order" = true
 ·rw[if_pos hb,if_neg (by simp)];refine aa ?_;unfold setWalk setsByText;refine aa (jb P.obj P.data P.fits ?_);dsimp only;refine aa (aa (ku (ai ?_)));show wpAny _ _ (if w.params.followText "set-order" = true then _ else _) _ _ s;rw[if_pos hb];refine aa (ku (ai (ai ?_)));unfold fY eQ at h;unfold eQ;rw[if_pos hb]at h ⊢;rw[if_pos hb]at h;exact h
 ·have hb':w.params.followText "set-order" = false:=by simpa using hb
  rw[if_neg hb];have hl:t.led=true:=by rw[P.led,hb'];rfl
  have hd:((!t.plain)&&decide (es.size>1))=false:=by rw[P.tab.plain];rfl
  show wpAny _ _ (if((!t.plain)&&decide (es.size>1))=true then _ else _) _ _ s;rw[hd];simp only[bz,if_false];show wpAny _ _ ((if((!t.led)&&!es.isEmpty)=true then _ else _) >>= _) _ _ s;rw[hl];simp only[nq,Bool.false_and,bz,if_false];refine aa (ai ?_);have hbl:=UT (w:=w) P.tab hb' (i:=i) (by omega);rw[hbl];unfold fY at h;rw[if_neg hb]at h;refine ai ?_
  by_cases hlt:i<es.size
  ·have e1:es[i]?=some es[i]:=ey hlt;have e2:t.place[i]?=some t.place[i]:=ey (by omega);rw[e1]at h;rw[e1,e2];have e3:eQ w t (i+1)=t.place[i]+1:=by unfold eQ;rw[if_neg hb];simp[jk,show i<t.place.size by omega]
   rw[e3]at h;exact h
  ·have e1:es[i]?=none:=jl (by omega);rw[e1]at h ⊢;exact h
theorem UX {i:Nat}{x:Int×ae}{Q:Option ae->af->Prop}(P:yo prog w s.heap a kb o es ep t) (hit:s.heap.get? it=some (iJ a (eQ w t i) i es.size ep)) (hx:(fY w a ep es)[i]?=some x)
  (hQ:∀h',h'.get? it=some (iJ a (eQ w t (i+1)) (i+1) es.size ep)->gg it s.heap h'->Q (some x.2) { s with heap:=h' }):wpAny (model prog w) A (pyNext (.ref it)) Q E s:=by
 have hT:s.TypeIs (.ref it) "set_iterator" := ⟨_,hit,rfl⟩;have hlt:i<es.size:=by rw[<-tW w a ep es];exact(df.mp hx).1
 unfold pyNext;refine aa (qh (fj (name:=jn "__next__") hT walk_slots.2.1 (fq walk_slots.2.1 hT G1 ?_ (tV _).2.1)));unfold lr.«set_iterator.__next__»;refine aa (m:=slotArgs "__next__" 0 ⟨[.ref it],[]⟩) (ai ?_);refine aa (wu hit rfl ?_);dsimp only;show wpAny _ _ (setEntries a >>= _) _ _ s;refine aa (td P.obj P.data P.fits ?_);rw[if_neg (by simp)];show wpAny _ _ (setNext a ((eQ w t i:Nat):Int).toNat ((i:Nat):Int).toNat ((ep:Nat):Int).toNat >>= _) _ _ s;rw[di,di,di];refine aa (G4 P (fv hlt) ?_);rw[hx];show wpAny _ _ (setField (.ref it) 0 (rawInt ((eQ w t (i+1):Nat):Int)) >>= _) _ _ s;refine aa (gi hit (by simp) λh1 g1 b1=>?_);refine aa (gi g1 (by simp) λh2 g2 b2=>?_);refine ai ⟨_,rfl,ai (hQ h2 ?_ (b1.trans b2))⟩;rw[g2];rfl
theorem UY {i:Nat}{Q:Option ae->af->Prop}(hh:A.handled=none) (P:yo prog w s.heap a kb o es ep t) (hit:s.heap.get? it=some (iJ a (eQ w t i) i es.size ep)) (hi:i=es.size)
  (hQ:∀h',ub it s.heap h'->Q none { s with heap:=h' }):wpAny (model prog w) A (pyNext (.ref it)) Q E s:=by
 have hT:s.TypeIs (.ref it) "set_iterator" := ⟨_,hit,rfl⟩;unfold pyNext;refine aa (qh (fj (name:=jn "__next__") hT walk_slots.2.1 (fq walk_slots.2.1 hT G1 ?_ (tV _).2.1)));unfold lr.«set_iterator.__next__»;refine aa (m:=slotArgs "__next__" 0 ⟨[.ref it],[]⟩) (ai ?_);refine aa (wu hit rfl ?_);dsimp only;show wpAny _ _ (setEntries a >>= _) _ _ s;refine aa (td P.obj P.data P.fits ?_);rw[if_neg (by simp)];show wpAny _ _ (setNext a ((eQ w t i:Nat):Int).toNat ((i:Nat):Int).toNat ((ep:Nat):Int).toNat >>= _) _ _ s;rw[di,di,di];refine aa (G4 P (oq hi) ?_);rw[jl (by rw[tW];omega)];show wpAny _ _ (setField (.ref it) 2 ib >>= _) _ _ s;refine aa (gi hit (by simp) λh1 g1 b1=>?_);show wpAny _ _ (newExc (.type "StopIteration") [] >>= _) _ _ _;refine aa ?_;simp only[newExc,newTuple];refine aa (du ?_ (by size_fits));refine aa (m:=firstArgMember _ _) (ve (a:=ib) (by first|rfl|(simp only[firstArgMember];rfl)) ?_);refine du ?_ (by size_fits);simp only[raiseNew];refine aa (wpAny_handled ?_);rw[show A.in1.handled=none from hh];refine aa (ai (wpAny_throw ?_));refine aa (qp (T := "StopIteration") (b:=true) ⟨_,av _ rfl,rfl⟩ wo ?_);exact ai (hQ _ ((b1.extBut.push _).push _))
end
section
variable{prog:bg}{w:cf}{A:bp}{E:ae->af->Prop}{s:af}{a:ah}{kb:KB}{o:Obj}{es:Array (Int×ae)}{ep:Nat}{t:gp}
theorem yo.at' {h h':ck}(P:yo prog w h a kb o es ep t) (k:h'.get? a=some o):yo prog w h' a kb o es ep t:=⟨k,P.ex,P.data,P.es,P.tab,P.nd,P.nf,P.led⟩
theorem UZ (hh:A.handled=none) (I:ah) (hne:a≠I):
  Walks prog w A I [I,a] [I] es.size (λi v=>∃x,(fY w a ep es)[i]?=some x/\v=x.2) (λi h=>yo prog w h a kb o es ep t/\h.get? I=some (iJ a (eQ w t i) i es.size ep)) where
 sub:=λb hb=>by rw[cy.mp hb];exact bc ..
 frame:=λi h h' ⟨p,q⟩ k=>⟨p.at' (k a (by simp) _ p.obj),k I (by simp) _ q⟩
 item:=λi s Q E hi ⟨p,q⟩ hQ=>by
  have hi':i<(fY w a ep es).size:=by rw[tW];exact hi
  have hx:(fY w a ep es)[i]?=some (fY w a ep es)[i]:=ey hi';refine UX p q hx λh' q' sb=>hQ _ h' s.toks ⟨_,hx,rfl⟩ ⟨p.at' ((sb.2 a hne).trans p.obj),q'⟩ λb o hb e=>?_;exact(sb.2 b λz=>hb (by rw[z];exact bc ..)).trans e
 done:=λs Q E ⟨p,q⟩ hQ=>UY hh p q rfl λh' x=>hQ h' s.toks λb o hb e=>x b o (λz=>hb (by rw[z];exact bc ..)) e
 self:=λi s Q E ⟨_,q⟩ hQ=>by have hT:s.TypeIs (.ref I) "set_iterator" := ⟨_,q,rfl⟩;refine uk hT walk_slots.2.2.1 (fq walk_slots.2.2.1 hT UR ?_ (tV _).2.2);exact ai ⟨_,rfl,"set_iterator",_,⟨_,q,rfl⟩,walk_slots.2.1.lookup,hQ⟩
theorem VA {S:ah}{n:Nat}{Q:Unit->af->Prop}(h:s.heap.get? S=some (seqObj "list" #[] n)) (q:∀h' c,h'.get? S=some (seqObj "list" #[] c)->(∀b o,b≠S->s.heap.get? b=some o->h'.get? b=some o)->Q () { s with heap:=h' }):
  wpAny (model prog w) A (tq (.ref S)) Q E s:=by
 unfold tq;refine aa (tu h rfl ?_);have h1:=qz h (λx=>x.push ib);refine tu h1 rfl ?_;have h2:=qz h1 (λx=>x.pop);refine q _ _ h2 λb o hb e=>?_;rw[kn _ _ _ _ hb,kn _ _ _ _ hb];exact e
theorem VB {Q:List ae->af->Prop}(hh:A.handled=none) (P:yo prog w s.heap a kb o es ep t) (hn:es.size<=bo)
  (q:∀(h':ck) (tk:Nat),(∀b o,s.heap.get? b=some o->h'.get? b=some o)->s.heap.objs.size<=h'.objs.size->Q ((fY w a ep es).toList.map (·.2)) { s with heap:=h',toks:=tk }):wpAny (model prog w) A (collect (.ref a)) Q E s:=by
 have la:a<s.heap.objs.size:=ao P.obj;have up1:∀b o,s.heap.get? b=some o->(s.heap.push (seqObj "list" #[] 0)).get? b=some o:=λb o e=>aj _ e;have hS1:(s.heap.push (seqObj "list" #[] 0)).get? s.heap.objs.size=some (seqObj "list" #[] 0):=av _ rfl;have P1:yo prog w (s.heap.push (seqObj "list" #[] 0)) a kb o es ep t:=P.at' (up1 a o P.obj);have hT1:qv { s with heap:=s.heap.push (seqObj "list" #[] 0) } (.ref a) "set" := ⟨o,P1.obj,P1.ex.1⟩;unfold collect;refine aa (wx (jz entry_proto_collect' ?_));rw[jd F.plain_proto_collect _];refine aa (m:=newList []) (tw (ai ⟨rj _ (by decide +kernel),jz entry_list_iadd' ?_⟩));rw[jd F.plain_list_iadd _];show wpAny _ A.in1 (rh (.ref s.heap.objs.size) (.ref a) (.ref s.heap.objs.size)) _ _ { s with heap:=s.heap.push (seqObj "list" #[] 0) };unfold rh;refine aa (p8 hT1 ?_);have ne:sr (.ref s.heap.objs.size) (.ref a)=false:=by simp[sr,ig la]
 rw[if_neg (by rw[ne];decide)];refine aa (UW P1 ?_);have sz:(s.heap.push (seqObj "list" #[] 0)).objs.size=s.heap.objs.size+1:=wy _ _;rw[sz];have up2:∀b o,(s.heap.push (seqObj "list" #[] 0)).get? b=some o->((s.heap.push (seqObj "list" #[] 0)).push (iJ a 0 0 es.size ep)).get? b=some o:=λb o e=>aj _ e;have P2:yo prog w ((s.heap.push (seqObj "list" #[] 0)).push (iJ a 0 0 es.size ep)) a kb o es ep t:=P1.at' (up2 a o P1.obj);have hT2:qv { s with heap:=(s.heap.push (seqObj "list" #[] 0)).push (iJ a 0 0 es.size ep) } (.ref a) "set" := ⟨o,P2.obj,P2.ex.1⟩;have hI2:((s.heap.push (seqObj "list" #[] 0)).push (iJ a 0 0 es.size ep)).get? (s.heap.objs.size+1)=some (iJ a 0 0 es.size ep):=by rw[<-sz];exact av _ rfl
 refine aa (dv ?_);unfold Builtin.List.listLengthHint;refine aa (vj hT2 walk_slots.2.2.2.lookup ?_);have spl:splitId "set.__len__" = some ("set","__len__"):=by decide +kernel
 dsimp only;rw[spl];dsimp only;refine aa (qp (b:=true) hT2 sub_set_self ?_);rw[if_neg (by decide),if_pos (by decide +kernel)];refine aa (p8 hT2 (ai ?_));rw[if_pos (by decide +kernel)];refine aa (qu ?_);refine aa (VA (s:={ s with heap:=(s.heap.push (seqObj "list" #[] 0)).push (iJ a 0 0 es.size ep) }) (up2 _ _ hS1) λh3 c hS3 up3=>?_);have neS:∀b o,s.heap.get? b=some o->b≠s.heap.objs.size:=λb o e=>aw (ao e);have P3:yo prog w h3 a kb o es ep t:=P2.at' (up3 a o (aw la) P2.obj);have hI3:h3.get? (s.heap.objs.size+1)=some (iJ a 0 0 es.size ep):=up3 _ _ (q9 _) hI2;have hz:eQ w t 0=0:=by unfold eQ;split <;> rfl
 have hh2:A.in1.handled=none:=by simp[hh]
 have nin:s.heap.objs.size∉[s.heap.objs.size+1,a]:=λm=>by
  rcases ba.mp m with e|m
  ·exact q9 _ e.symm
  ·exact ig la (cy.mp m)
 refine ai ⟨plainId_quiet F.plain_extend_loop _,codeAny_extend_loopS (A:=A) ((UZ (kb:=kb) (o:=o) (t:=t) (ep:=ep) (es:=es) hh2 (s.heap.objs.size+1) (a:=a) (aw (jw la))).toS) hn s.heap.objs.size nin _ es.size 0 { s with heap:=h3 } #[] c rfl (iq _)
  ⟨P3,by rw[hz];exact hI3⟩ hS3 (ItemsOf.nil _) λs' acc c' mv hS' ia=>?_⟩
 have eacc:acc.toList=(fY w a ep es).toList.map (·.2):=by
  apply mj
  intro i;rw[gz,dz,gz]
  cases q:acc[i]? with
  |some v=>obtain⟨x,h1,h2⟩:=ia.2 i v q;rw[h1,h2];rfl
  |none=>have h1:acc.size<=i:=um.mp q;rw[jl (by rw[tW,<-ia.1];exact h1)];rfl
 obtain⟨hp,gs,dr,tk,os⟩:=s';have e1:gs=s.gens:=mv.gens;have e2:dr=s.drawn:=mv.drawn;have e3:os=s.os:=mv.os;subst e1;subst e2;subst e3;show wpAny _ A (load s.heap.objs.size >>= _) _ _ _;refine aa (wpAny_load hS' (ai ?_));rw[eacc];refine q hp tk (λb o e=>mv.heap b o (λm=>?_) (up3 b o (neS b o e) (up2 b o (up1 b o e)))) (fv (ao hS'))
 rcases ba.mp m with z|m
 ·exact neS b o e z
 ·exact aw (jw (ao e)) (cy.mp m)
end
open PySem.W SoM L2
section
variable{prog:bg}{w:cf}{A:bp}{E:ae->af->Prop}{s:af}
theorem G5 {fin:Bool}{Q:Bool->af->Prop}:∀{kx ky:xu}{vx vy:List ae}(i:Nat),ItemsAre (intKind prog w) kx vx->ItemsAre (intKind prog w) ky vy->fin=decide (vx.length<vy.length)->Q (bJ kx ky) s->KatLex prog w A true fin Q (vx.zip vy) i s
 |_,_,_,_,i,.nil,.nil,hf,h=>by subst hf;exact kat_nil h
 |_,_,_,_,i,.nil,.cons _ _,hf,h=>by subst hf;refine kat_nil ?_;rw[decide_eq_true (by simp)];exact h
 |_,_,_,_,i,.cons _ _,.nil,hf,h=>by subst hf;refine kat_nil ?_;rw[decide_eq_false (by simp)];exact h
 |_,_,_,_,i,.cons (k:=a) hu hx,.cons (k:=b) hv hy,hf,h=>by
  obtain⟨t,rfl⟩:=lg hu;obtain⟨t',rfl⟩:=lg hv;refine kat_cons (wpAny_eqBool_int (kat_go (λe=>?_) λe=>?_))
  ·refine kat_yes (G5 (i+1) hx hy (hf.trans (by simp)) ?_);rw[bJ,if_pos e]at h;exact h
  ·have h':Q (decide (a<b)) s:=by rw[bJ,if_neg (by rw[e];simp)]at h;exact h
   refine kat_no ?_
   cases q:i==0 with
   |true=>exact oneLt_int h'
   |false=>exact kat_one _ _ (ug h')
theorem VC {x y:ah}{kx ky:xu}{Q:Bool->af->Prop}(hx:gb (intKind prog w) s.heap kx x) (hy:gb (intKind prog w) s.heap ky y) (h:Q (bJ kx ky) s):wpAny (model prog w) A (keyLt' (tuples' true) (.ref x) (.ref y)) Q E s:=by obtain⟨ox,ix,nx,e1,_,d1,i1⟩:=hx;obtain⟨oy,iy,ny,e2,_,d2,i2⟩:=hy;exact kat_lt e1 d1 e2 d2 (G5 0 i1 i2 (by simp) h)
def zc (prog:bg) (w:cf) (h:ck) (n:Nat) (ad:Nat->ah) (ky:Nat->xu):Prop:=∀i,i<n->gb (intKind prog w) h (ky i) (ad i)/\ky i≠[]
def aX (n:Nat) (ad:Nat->ah):List ae:=(bx n).map λi=>.ref (ad i)
theorem iK (n:Nat) (ad:Nat->ah):(aX n ad).length=n:=by simp[aX]
theorem yZ {n:Nat}{ad:Nat->ah}{i:Nat}(h:i<n):(aX n ad).getD i ib=.ref (ad i):=by simp[aX,h]
theorem G6:∀(l:xv) {ad:Nat->ah}{ky:Nat->xu},(∀i∈l,gb (intKind prog w) s.heap (ky i) (ad i)/\ky i≠[])->∃fs:List ae,KatTups s.heap (l.map λi=>.ref (ad i)) fs/\fs.length=l.length/\∀v∈fs,∃a t,v=.int a t
 | [],_,_,_=>⟨[],trivial,rfl,by simp⟩
 |i::l,ad,ky,h=>by
  obtain⟨fs,t,hl,hv⟩:=G6 l (ad:=ad) (ky:=ky) λj hj=>h j (az _ hj);obtain⟨⟨o,its,n,e,c,d,r⟩,ne⟩:=h i (bc ..)
  cases q:its.toList with
  |nil=>rw[q]at r;cases hk:ky i with
   |nil=>exact absurd hk ne
   |cons a b=>rw[hk]at r;cases r
  |cons v vs=>
   rw[q]at r
   cases hk:ky i with
   |nil=>exact absurd hk ne
   |cons a b=>
    rw[hk]at r
    cases r with
    |cons hu _=>
     obtain⟨tk,rfl⟩:=lg hu;refine⟨.int a tk::fs,KatTups.cons e c d (by rw[<-gz,q];rfl) t,by simp[hl],λv hv'=>?_⟩
     rcases ba.mp hv' with rfl|hv'
     ·exact⟨_,_,rfl⟩
     ·exact hv v hv'
theorem VD {n:Nat}{ad:Nat->ah}{ky:Nat->xu}{G:Array Nat->af->Prop}(h2:2<=n) (hk:zc prog w s.heap n ad ky)
  (h:∀p,Ent n p->dE bJ (p.toList.map ky)->G p s):
  wpAny (model prog w) A (keyKind' (aX n ad).toArray) (λκ s'=>(kas_sort (aX n ad).length).kasWp (kas_ask prog w A κ (aX n ad)) G s') (λ_ _=>False) s:=by
 obtain⟨fs,t,hl,hv⟩:=G6 (prog:=prog) (w:=w) (s:=s) (bx n) (ad:=ad) (ky:=ky) λi hi=>hk i (bq.mp hi);refine kat_kind (T:=.type "int") t (by rw[hl,mf];omega) (λv hv'=>?_) (by decide) ?_
 ·obtain⟨a,tk,rfl⟩:=hv v hv';exact .now
 ·rw[iK]
  let ks:=(bx n).map ky
  have mem:∀i,i<n->ky i∈ks:=λi hi=>cw.mpr ⟨i,bq.mpr hi,rfl⟩;refine FY (n:=n) (f:=λi=>rk bJ ks (ky i)) (I:=λs'=>s'=s) (λi j C s' hs hi hj hC=>?_) (kas_sort n) (λp=>Ent n p/\dE bJ (p.toList.map ky)) G s s (TN (by omega) λp e inc=>⟨e, ?_⟩) rfl λp s' hp hs=>by subst hs;exact h p hp.1 hp.2
  ·subst hs;show wpAny (model prog w) A (keyLt' (tuples' true) ((aX n ad).getD i ib) ((aX n ad).getD j ib)) C (λ_ _=>False) s';rw[yZ hi,yZ hj];refine VC (hk i hi).1 (hk j hj).1 ?_;have:=hC s' rfl;rwa [F5 zm (mem i hi)]at this
  ·refine gj.mpr λi j hi hj zl=>?_;have hj':j<p.size:=by simpa using hj
   have hi':i<p.size:=by omega
   have z:=inc i j (fv zl) (by rw[<-e.1];exact hj');unfold SoM.F at z;have ei:p.getD i 0=p[i]:=by simp[jk,hi']
   have ej:p.getD j 0=p[j]:=by simp[jk,hj']
   rw[ei,ej]at z;have lt:∀k (hk:k<p.size),p[k]<n:=λk hk=>bq.mp (e.2.mem_iff.mp (by simp));have:=TR zm (mem _ (lt j hj')) z;simpa using this
end
section
variable{prog:bg}{w:cf}{A:bp}{E:ae->af->Prop}{s:af}
abbrev tX (h h':ck):Prop:=∀b o,h.get? b=some o->h'.get? b=some o
def zr (n:Nat) (ad:Nat->ah) (ky:Nat->xu) (out:List ae):Prop:=∃p:xv,p.Perm (bx n)/\dE bJ (p.map ky)/\out=p.map λi=>.ref (ad i)
theorem zr.len {n:Nat}{ad:Nat->ah}{ky:Nat->xu}{out:List ae}(h:zr n ad ky out):out.length=n:=by obtain⟨p,pp,_,e⟩:=h;rw[e,bf,pp.length_eq,mf]
theorem zc.keep {h h':ck}{n:Nat}{ad:Nat->ah}{ky:Nat->xu}(k:zc prog w h n ad ky) (g:∀i,i<n->∀o,h.get? (ad i)=some o->h'.get? (ad i)=some o):zc prog w h' n ad ky:=λi hi=>⟨tU (k i hi).1 (g i hi),(k i hi).2⟩
theorem VE {a:ah}{n c:Nat}{ad:Nat->ah}{ky:Nat->xu}{P:Fin->af->Prop}(ho:s.heap.get? a=some (seqObj "list" (aX n ad).toArray c)) (h64:n<64) (hk:zc prog w s.heap n ad ky)
  (q:∀h' e out,zr n ad ky out->h'.get? a=some (seqObj "list" out.toArray e)->(∀b o,b≠a->s.heap.get? b=some o->h'.get? b=some o)->P (.done (.ret .none)) { s with heap:=h' }):
  wpAny (model prog w) A (lr.«list.sort» ⟨[.ref a],[]⟩) P E s:=by
 have la:a<s.heap.objs.size:=ao ho;obtain⟨e1,g1⟩:∃e1,(s.heap.update a (ni λ_=>(#[]:Array ae))).get? a=some (seqObj "list" #[] e1):=⟨_,qz ho λ_=>#[]⟩
 have k1:∀b o,b≠a->s.heap.get? b=some o->(s.heap.update a (ni λ_=>(#[]:Array ae))).get? b=some o:=λb o hb e=>by rw[kn _ _ _ _ hb];exact e
 generalize hH1:s.heap.update a (ni λ_=>(#[]:Array ae))=H1 at g1 k1;have k3:tX H1 ((H1.push (seqObj "tuple" (aX n ad).toArray 0)).push (seqObj "list" #[] 0)):=λb o e=>aj _ (aj _ e);have ne:∀i,i<n->ad i≠a:=λi hi e=>by obtain⟨⟨o,its,m,e1,c1,_⟩,_⟩:=hk i hi;rw[e,ho]at e1;cases e1;exact absurd (Value.type.inj c1) (by decide)
 have K3:zc prog w ((H1.push (seqObj "tuple" (aX n ad).toArray 0)).push (seqObj "list" #[] 0)) n ad ky:=hk.keep λi hi o e=>k3 _ o (k1 _ o (ne i hi) e);have g3:=k3 a _ g1;have kk:∀b o,b≠a->s.heap.get? b=some o->((H1.push (seqObj "tuple" (aX n ad).toArray 0)).push (seqObj "list" #[] 0)).get? b=some o:=λb o hb e=>k3 b o (k1 b o hb e);have sl:n<=bo:=by rw[gr];omega
 have fin:∀(out:List ae),zr n ad ky out->wpAny (model prog w) A (do
   let touched:=(<-seqEpoch a) != e1
   Builtin.List.listUpdate (.ref a) λ_=>out.toArray
   if let some e:=(none:Option ae)then rule "list.sort.comparison-raised"; throw e
   if touched then rule "list.sort.modified"; raiseError "ValueError" "list modified during sort"
   ret .none) P E { s with heap:=(H1.push (seqObj "tuple" (aX n ad).toArray 0)).push (seqObj "list" #[] 0) }:=λout Ba=>by
  refine aa (seqEpoch_at g3 rfl ?_);refine aa (tu g3 rfl ?_ (iq _) (by rw[au,Ba.len];omega));simp only[bne_self_eq_false,bz,if_false];exact ai (q _ _ out Ba (qz g3 λ_=>out.toArray) λb o hb e=>by rw[kn _ _ _ _ hb];exact kk b o hb e)
 generalize hH3:(H1.push (seqObj "tuple" (aX n ad).toArray 0)).push (seqObj "list" #[] 0)=H3 at k3 K3 g3 kk fin;rw[list_sort_plain];refine aa (listItems_at ho rfl (aa (tu ho rfl ?_ (by rw[au,iK];exact sl) (iq _))));rw[hH1];refine aa (seqEpoch_at g1 rfl (aa (wpAny_newTuple (aa (tw (dv ?_) (iq _))) (by show(aX n ad).length<=_;rw[iK];exact sl))));show wpAny (model prog w) A _ P E { s with heap:=(H1.push (seqObj "tuple" (aX n ad).toArray 0)).push (seqObj "list" #[] 0) };rw[hH3];have hz:(aX n ad).toArray.size=n:=by rw[au,iK]
 dsimp only
 by_cases h2:n<2
 ·rw[if_pos (by rw[hz];exact h2),if_pos (by rw[hz];exact h2)];refine aa (ai ?_);rw[StateT.run_pure];refine aa (ai ?_);have e:(arrOf (SortSt.mk' general' ((aX n ad).toArray.zip (aX n ad).toArray) #[] 7 none)).map (·.2)=(aX n ad).toArray:=by show(((aX n ad).toArray.zip (aX n ad).toArray)).map (·.2)=_;rw[Array.map_snd_zip (ak _)]
  dsimp only;rw[e];refine fin _ ⟨bx n,.refl _, ?_,rfl⟩;refine gj.mpr λi j hi hj zl=>?_;rw[bf,mf]at hj;omega
 ·have h2':2<=n:=by omega
  rw[if_neg (by rw[hz];exact h2),if_neg (by rw[hz];exact h2)];refine aa (je (VD (A:=A) (s:={ s with heap:=H3 }) (G:=λp s'=>s'={ s with heap:=H3 }/\Ent n p/\dE bJ (p.toList.map ky)) h2' K3 λp e r=>⟨rfl,e,r⟩) (λκ s0 hκ=>?_) λ_ _ x=>x.elim);refine aa (je (kat_run (ks:=aX n ad) (vs:=aX n ad) (Q:=λAy s'=>∃p:Array Nat,p.size=(aX n ad).length/\arrOf Ay=p.map (kas_item ((aX n ad).toArray.zip (aX n ad).toArray))/\failedOf Ay=none/\s'={ s with heap:=H3 }/\Ent n p/\dE bJ (p.toList.map ky))
   rfl (by rw[iK];exact h2') (by rw[iK];exact h64) (λp Ay s' z1 z2 z3 z4=>⟨p,z1,z2,z3,z4⟩) hκ) ?_ λ_ _ e=>e)
  rintro ⟨⟨⟩,Ay⟩ s' ⟨p,_,z2,z3,rfl,z5,z6⟩
  dsimp only;rw[kat_snds rfl z2,z3];have e:(p.toList.map λi=>(aX n ad).getD i ib)=p.toList.map λi=>.ref (ad i):=List.map_congr_left λi hi=>yZ (bq.mp (z5.2.mem_iff.mp hi));rw[e];exact fin _ ⟨p.toList,z5.2,z6,rfl⟩
theorem zA {x:ae}{n:Nat}{ad:Nat->ah}{ky:Nat->xu}{Q:ae->af->Prop}(h64:n<64) (hk:zc prog w s.heap n ad ky)
  (hc:∀(Q':List ae->af->Prop) (E':ae->af->Prop),(∀h' tk,tX s.heap h'->s.heap.objs.size<=h'.objs.size->Q' (aX n ad) { s with heap:=h',toks:=tk })->wpAny (model prog w) A.in1 (collect x) Q' E' s)
  (q:∀h' tk D e out,zr n ad ky out->s.heap.objs.size<=D->h'.get? D=some (seqObj "list" out.toArray e)->tX s.heap h'->Q (.ref D) { s with heap:=h',toks:=tk }):
  wpAny (model prog w) A (call (.builtin "sorted") [x]) Q E s:=by
 refine Calls.call_function_entry kind_sorted plain_sorted entry_sorted (args_sorted1 _) ?_;unfold lr.«sorted»;refine aa (m:=checkCount "sorted" 1 1 _) (ai (aa (hc _ _ λh1 tk k1 sz=>aa (tw ?_ (by rw[iK,gr];omega)))));have g:(h1.push (seqObj "list" (aX n ad).toArray 0)).get? h1.objs.size=some (seqObj "list" (aX n ad).toArray 0):=av _ rfl;have k2:tX s.heap (h1.push (seqObj "list" (aX n ad).toArray 0)):=λb o e=>aj _ (k1 b o e);refine aa (dv (fq slot_list_sort ⟨_,g,rfl⟩ entry_list_sort (VE (s:={ s with heap:=h1.push (seqObj "list" (aX n ad).toArray 0),toks:=tk }) g h64 (hk.keep λi hi o e=>k2 _ o e) λh' e out so ho ke=>⟨_,rfl, ?_⟩) (args_list_sort _)));exact ai ⟨_,rfl,q h' tk h1.objs.size e out so sz ho λb o e=>ke b o (aw (aq (ao e) sz)) (k2 b o e)⟩
end
def bare (w:cf):Obj:={ cls:=.type "set",dict:=none,data:=.set #[] 0 (.fresh 0 0 (!w.params.followText "set-order")) }
section
variable{prog:bg}{w:cf}{A:bp}{E:ae->af->Prop}{s:af}
theorem VF {h:ck}{a:ah}(e:h.get? a=some (bare w)):jB prog w h a []:=by
 have tok:∀led:Bool,Ac (.fresh 0 0 led) []:=λled=>⟨rfl,.nil,rfl,(λj hj=>nomatch hj),iq _,.inl rfl,(λi h j e=>nomatch e),rfl⟩
 exact⟨bare w,#[],0,_,e,⟨rfl,rfl,rfl⟩,rfl,rfl,tok _,.nil,(by show 0*5<7*3;decide),rfl⟩
theorem VG (a:ae) {Q:ae->af->Prop}(q:Q (.ref s.heap.objs.size) { s with heap:=s.heap.push (bare w) }):
  codeAny (model prog w) A (.call (.builtin "set.__new__") ⟨[.type "set",a],[]⟩) (wants Q E) s:=by
 refine sd F.plain_set_new F.entry_set_new (ve (F.newCall_set_1 a) ?_);have self:=sub_set_self;unfold lr.«set.__new__» Builtin.Frozenset.newClass;cases s
 wp_walk
 exact ku (ai (aa (wpAny_alloc (ai (ai q)))))
theorem VH {v:ae}{Q N:ae->af->Prop}(hn:codeAny (model prog w) A.in1 (.call (.builtin "set.__new__") ⟨[.type "set",v],[]⟩) (wants N E) s)
  (hi:∀x s1,N x s1->s1.TypeIs x "set"/\codeAny (model prog w) A.in1 (.call (.builtin "set.__init__") ⟨[x,v],[]⟩) (wants (λr s2=>r=.none/\Q x s2) E) s1):wpAny (model prog w) A (call (.type "set") [v]) Q E s:=by
 have f:=F.called_set;obtain⟨_,_,fm⟩:=f.mro;have fd:=f.made;have fs:=f.sub;have ft:=f.notType;have fc:=f.canCreate;have fk:=F.typeCall_set_1 v;have fl:=f.init.lookup;have q:(Code.builtin "type.__call__" ⟨[.type "set",v],[]⟩).quiet=true:=rj _ (by decide +kernel);refine wb (codeAny_of_tree (ai ⟨q,jz F.entry_type_call ?_⟩));rw[Around.under_plain (weight_type_call_type "set" [v] []) rfl]
 repeat (any_goals (first|assumption|wp_step))
 refine nc hn ?_
 rintro (e|fl1) s1 h1
 ·exact h1
 ·cases fl1 <;> try exact h1.elim
  rename_i x;obtain⟨hx,hr⟩:=hi x s1 h1;have fb:=f.init.bind x
  repeat (any_goals (first|assumption|wp_step))
  refine nc hr ?_
  rintro (e|Bh) s2 h2
  ·exact h2
  ·cases Bh <;> try exact h2.elim
   obtain⟨rfl,h3⟩:=h2
   repeat (any_goals (first|assumption|wp_step))
theorem G7 {l:ah}{T:String}{it:Obj}{n:Nat}{P:Nat->ae->Prop}{St:Nat->ck->Prop}{fp wr:List ah}(ad:Nat->ah) (ky:Nat->xu) (U:xr) {Q:ae->af->Prop}
  (hu:A.units+8<cLine) (hT:s.TypeIs (.ref l) T) (n1:isSubtype (.type T) (.type "set")=pure false) (n2:isSubtype (.type T) (.type "frozenset")=pure false) (n3:(xg T==xg "dict")=false)
  (hi:∀(B:bp) (Q':ae->af->Prop) (E':ae->af->Prop),Q' (.ref (s.heap.objs.size+1)) { s with heap:=(s.heap.push (bare w)).push it }->wpAny (model prog w) B (pyIter (.ref l)) Q' E' { s with heap:=s.heap.push (bare w) })
  (W:Walks prog w A.in1.in1.in1 (s.heap.objs.size+1) fp wr n P St) (hfp:s.heap.objs.size∉fp) (hwr:∀b∈wr,s.heap.objs.size<b) (h0:St 0 ((s.heap.push (bare w)).push it))
  (hval:∀i v,P i v->v=.ref (ad i)) (hU:U.length<=76) (hky:∀i,i<n->ky i∈U) (Aw:∀j,j<n->gb (intKind prog w) s.heap (ky j) (ad j))
  (q:∀(h':ck) (tk:Nat) kb,jB prog w h' s.heap.objs.size kb->Upto ky ad n kb->(∀b o,s.heap.get? b=some o->h'.get? b=some o)->Q (.ref s.heap.objs.size) { s with heap:=h',toks:=tk }):
  wpAny (model prog w) A (call (.type "set") [.ref l]) Q E s:=by
 refine VH (N:=λx s1=>x=.ref s.heap.objs.size/\s1={ s with heap:=s.heap.push (bare w) }) (VG _ ⟨rfl,rfl⟩) ?_
 rintro x s1 ⟨rfl,rfl⟩
 have up:∀b o,s.heap.get? b=some o->(s.heap.push (bare w)).get? b=some o:=λb o e=>aj _ e;have hb:(s.heap.push (bare w)).get? s.heap.objs.size=some (bare w):=av _ rfl;have hS:qv { s with heap:=s.heap.push (bare w) } (.ref s.heap.objs.size) "set" := ⟨_,hb,rfl⟩;refine⟨hS,sd F.called_set.init.plain F.entry_set_init (check_set_init_1 hS ?_)⟩;obtain⟨ol,el,cl⟩:=hT;have hl1:qv { s with heap:=s.heap.push (bare w) } (.ref l) T:=⟨ol,up l ol el,cl⟩
 have lt:∀j,j<n->ad j<s.heap.objs.size:=λj hj=>let ⟨_,_,_,e,_⟩:=Aw j hj;ao e;have Bc:((s.heap.push (bare w)).push it).get? s.heap.objs.size=some (bare w):=aj _ hb;have run:∀(R:u6->af->Prop),(∀h' tk kb,jB prog w h' s.heap.objs.size kb->Upto ky ad n kb->(∀b o,s.heap.get? b=some o->h'.get? b=some o)->R (.ok (.ret .none)) { s with heap:=h',toks:=tk })->
   codeAny (model prog w) A.in1.in1 (.builtin "set.update.loop" ⟨[.ref s.heap.objs.size,.ref (s.heap.objs.size+1)],[]⟩) R { s with heap:=(s.heap.push (bare w)).push it }:=λR hR=>by
  refine UP W s.heap.objs.size hfp ad ky hval (by show A.units+1+1+2<cLine;omega) U hU hky (λj hj=>⟨aw (lt j hj),λm=>Nat.lt_asymm (lt j hj) (hwr _ m)⟩) n 0 _ [] rfl (iq _) h0 (VF Bc)
   ⟨(λp hp=>nomatch hp),λj hj=>absurd hj (Nat.not_lt_zero j)⟩ (λj hj=>tU (Aw j hj) λo e=>aj _ (up _ o e)) λh' tk kb keep S u=>hR h' tk kb S u λb o e=>?_
  have hlt:=ao e;exact keep b o (λm=>(ba.mp m).elim (aw hlt) λm=>Nat.lt_asymm hlt (hwr b m)) (aj _ (up b o e))
 unfold lr.«set.__init__» noKeywords Builtin.Frozenset.updateFrom;generalize hPI:pyIter=PI;unfold bare at hb
 wp_walk
 subst hPI;refine hi _ _ _ ?_;refine aa (wx (run _ λh' tk kb S u keep=>?_));exact ai (ai ⟨rfl,q h' tk kb S u keep⟩)
end
end SR
namespace L2.Mr
open PySem PySem.Spec PyProof.Rows SR
def yj (H:Hp):List V->xr->Prop
 | [],[]=>True
 |v::vs,k::ks=>(∃b,v=.ref b/\H b=some (.tup (k.map V.int)))/\yj H vs ks
 |_,_=>False
def G8:V->ah
 | .ref b=>b
 |_=>0
def cV (vs:List V) (i:Nat):ah:=G8 (vs.getD i .non)
section
variable{X:Cx}{pins:List (ah×Obj)}{σ:St}{H H':Hp}{s:af}
theorem yj.len:∀{vs:List V}{ks:xr},yj H vs ks->vs.length=ks.length
 | [],[],_=>rfl
 | [],_::_,h=>h.elim
 |_::_,[],h=>h.elim
 |v::vs,k::ks,h=>by rw[cn,cn,yj.len h.2]
theorem yj.at_:∀{vs:List V}{ks:xr}{i:Nat},yj H vs ks->i<ks.length->vs[i]?=some (.ref (cV vs i))/\H (cV vs i)=some (.tup ((ks.getD i []).map V.int))
 | [],[],_,_,h=>by simp at h
 | [],_::_,_,h,_=>h.elim
 |_::_,[],_,h,_=>h.elim
 |v::vs,k::ks,0,h,_=>by obtain⟨⟨b,rfl,e⟩,_⟩:=h;exact⟨rfl,e⟩
 |v::vs,k::ks,i+1,h,hi=>by
  obtain⟨e1,e2⟩:=yj.at_ (i:=i) h.2 (by simpa using hi);have ea:cV (v::vs) (i+1)=cV vs i:=by simp[cV]
  exact⟨by rw[ea];simpa using e1,by rw[ea];simpa using e2⟩
theorem G9:∀{k:xu}{its:List ae}{prog:bg}{w:cf},yg (k.map V.int) its->ItemsAre (intKind prog w) k its
 | [],_,_,_,.nil=>.nil
 |n::k,_,_,_,.cons h1 h2=>by obtain⟨t,rfl⟩:=h1;exact .cons (intKind_is _ _ _ _) (G9 h2)
theorem tY (I:Inv X pins σ H s) {b:ah}{k:xu}(e:H b=some (.tup (k.map V.int))):gb (intKind X.prog X.w) s.heap k b:=by obtain⟨_,its,r,o,e1,c,_,n,d⟩:=I.hok b _ e;exact⟨o,its.toArray,n,e1,c,d,G9 r⟩
theorem HE (I:Inv X pins σ H s) {vs:List V}{ks:xr}(h:yj H vs ks) (ne:∀k∈ks,k≠[]):zc X.prog X.w s.heap ks.length (cV vs) (λi=>ks.getD i []):=λi hi=>by refine⟨tY I (h.at_ hi).2,ne _ ?_⟩;simp[hi]
theorem zB {vs:List V}{ks:xr}{its:List ae}(h:yj H vs ks) (r:yg vs its):its=aX ks.length (cV vs):=by
 have hl:=r.length;have hl2:=h.len
 apply mj
 intro i
 by_cases hi:i<ks.length
 ·obtain⟨e1,_⟩:=h.at_ hi;obtain⟨u,e2,e3⟩:=r.get e1;cases e3;rw[e2];simp[aX,hi]
 ·rw[ql (by omega),ql (by rw[iK];omega)]
theorem zC {n:Nat}{ad:Nat->ah}{ky:Nat->xu}{out:List ae}(so:zr n ad ky out) (hH:∀i,i<n->H (ad i)=some (.tup ((ky i).map V.int))):
  ∃(p:xv) (yw:List V),p.Perm (bx n)/\dE bJ (p.map ky)/\yg yw out/\yj H yw (p.map ky):=by
 obtain⟨p,pp,r,rfl⟩:=so;refine⟨p,p.map λi=>V.ref (ad i),pp,r, ?_, ?_⟩
 ·clear pp r
  induction p with
  |nil=>exact .nil
  |cons i p ih=>exact .cons rfl ih
 ·have:∀q:xv,(∀i∈q,i<n)->yj H (q.map λi=>V.ref (ad i)) (q.map ky):=λq=>by
   induction q with
   |nil=>intro _;trivial
   |cons i q ih=>exact λh=>⟨⟨_,rfl,hH i (h i (bc ..))⟩,ih λj hj=>h j (az _ hj)⟩
  exact this p λi hi=>bq.mp (pp.mem_iff.mp hi)
theorem zD {α:Type}{p:xv}{n:Nat}{l:List α}{d:α}(h:p.Perm (bx n)) (hl:l.length=n):(p.map λi=>l.getD i d).Perm l:=by
 refine(h.map _).trans ?_;have:(bx n).map (λi=>l.getD i d)=l:=by
  apply tx (by simp[hl])
  intro i h1 h2;simp[h2]
 rw[this]
abbrev tZ:List V->Hp->VK->Prop:=λxs H Q=>∃(p:ah) (vs:List V) (ks:xr),xs=[.ref p]/\H p=some (.lst vs)/\yj H vs ks/\(∀k∈ks,k≠[])/\ks.length<64/\∀l yw,H l=none->yj H yw (fW bJ ks)->Q (.ref l) (aJ H l (.lst yw))
theorem VI:ym X (.builtin "sorted") tZ:=by
 intro pins s σ H xs us Q I rv ⟨p,vs,ks,e,hp,ht,ne,h64,q⟩;subst e;obtain⟨u,rfl,ru⟩:=gR rv;cases ru;obtain⟨its,rits,pl,hz⟩:=I.list (y9.of hp);have hits:=zB ht rits;refine zA h64 (HE I ht ne) (λQ' E' hQ=>?_) λh' tk D e out so hD ho k=>?_
 ·refine collect_list (vs:=aX ks.length (cV vs)) (by rw[<-hits];exact pl.isList) ?_ (by rw[iK,gr];omega);refine hQ _ s.toks (λb o e=>?_) ?_
  ·have hlt:=ao e;rw[kn _ _ _ _ (aw hlt),Heap.get?_push_ne _ _ _ (aw hlt)];exact e
  ·rw[Heap.size_update,wy];exact ue _
 ·obtain⟨pp,yw,h1,h2,h3,h4⟩:=zC (H:=H) so λi hi=>(ht.at_ hi).2;have e1:pp.map (λi=>ks.getD i [])=fW bJ ks:=yS zm h2 (zD h1 rfl);rw[e1]at h4;have hl:=h4.len;refine⟨.ref D,_,I.laid (t':=tk) k hD (show yi X.prog X.w _ _ _ (.lst yw) from⟨?_,out,e,h3,ho⟩),rfl,q D yw (I.hok.fresh hD) h4⟩;rw[hl,(qP ks).length_eq,gr];omega
def uA (prog:bg) (w:cf) (l:ah) (o:Obj) (kb:KB):Prop:=∃es ep t,∀h:ck,h.get? l=some o->yo prog w h l kb o es ep t
structure KbOk (H:Hp) (kb:KB) (ks:xr):Prop where
 tup:∀p∈kb,H p.2=some (.tup (p.1.map V.int))
 frm:∀p∈kb,p.1∈ks
 all:∀k∈ks,k∈kb.map ed
abbrev HF (X:Cx):List V->Hp->VK->Prop:=λxs H Q=>∃(p:ah) (vs:List V) (ks:xr),xs=[.ref p]/\H p=some (.lst vs)/\yj H vs ks/\(bT bJ ks).length<=76/\∀l o kb,H l=none->uA X.prog X.w l o kb->KbOk H kb ks->Q (.ref l) (aJ H l (.frz o (.own 0)))
theorem sub_list:isSubtype (.type "list") (.type "set")=pure false/\isSubtype (.type "list") (.type "frozenset")=pure false:=⟨F.sub_list_set,F.sub_list_frozenset⟩
theorem VJ {k:Nat}(rm:yv k X.A):ym X (.type "set") (HF X):=by
 intro pins s σ H xs us Q I rv ⟨p,vs,ks,e,hp,ht,hU,q⟩;subst e;obtain⟨u,rfl,ru⟩:=gR rv;cases ru;obtain⟨its,rits,pl,hz⟩:=I.list (y9.of hp);have hits:=zB ht rits;have lp:=I.hok.lt hp;have hI:s.heap.IsList p (aX ks.length (cV vs)).toArray:=by rw[<-hits];exact pl.isList
 have hsz:(aX ks.length (cV vs)).toArray.size=ks.length:=by rw[au,iK]
 have hh:X.A.in1.in1.in1.handled=none:=rm.hd;have hne:p≠s.heap.objs.size+1:=aw (jw lp);have hb:(s.heap.push (bare X.w)).IsList p (aX ks.length (cV vs)).toArray:=hI.push _;have hs1:(s.heap.push (bare X.w)).objs.size=s.heap.objs.size+1:=wy _ _;have W:=uh (prog:=X.prog) (w:=X.w) (A:=X.A.in1.in1.in1) hh (s.heap.objs.size+1) p hne (aX ks.length (cV vs)).toArray;rw[hsz]at W;refine G7 (T := "list") (it:={ cls:=.type "list_iterator",data:=.fields #[.ref p,.int 0 0] }) (cV vs) (λi=>ks.getD i []) (bT bJ ks) (by have:=rm.un;omega) hI.typeIs sub_list.1 sub_list.2 (by decide) (λB Q' E' hQ=>?_) W ?_ ?_ ?_ (λi v hv=>?_) hU (λi hi=>?_) (λj hj=>?_) λh' tk kb hS A' k=>?_
 ·refine n9 hb ?_;rw[<-hs1]at hQ;exact hQ
 ·intro m
  rcases ba.mp m with z|m
  ·exact q9 _ z.symm
  ·exact ig lp (cy.mp m)
 ·intro b hb;rw[cy.mp hb];exact jh _
 ·refine⟨⟨{ cls:=.type "list_iterator",data:=.fields #[.ref p,.int 0 0] }, ?_,rfl,rfl⟩,hb.push _⟩;rw[<-hs1];exact av _ rfl
 ·have hi:i<ks.length:=by have:=(df.mp hv).1;rwa [hsz]at this
  have:(aX ks.length (cV vs))[i]?=some (.ref (cV vs i)):=by simp[aX,hi]
  rw[wz,this]at hv;exact(cq hv).symm
 ·refine(jA zm _ _).mpr ?_;show ks.getD i []∈ks;simp[hi]
 ·exact tY I (ht.at_ hj).2
 ·obtain⟨o,es,ep,t,P⟩:=hS;refine⟨.ref s.heap.objs.size,_,I.laid (t':=tk) (o:=.frz o (.own 0)) k (ak _) ⟨P.obj,o,P.obj⟩,rfl,q _ o kb (I.hok.fresh (ak _)) ⟨es,ep,t,λh e=>P.at' e⟩ ⟨λz hz=>?_,λz hz=>?_,λz hz=>?_⟩⟩
  ·obtain⟨j,hj,rfl⟩:=A'.from_ z hz;exact(ht.at_ hj).2
  ·obtain⟨j,hj,rfl⟩:=A'.from_ z hz;show ks.getD j []∈ks;simp[hj]
  ·obtain⟨j,hj,rfl⟩:=jg hz;have:=A'.all j hj;simpa[hj]using this
abbrev HG (X:Cx):List V->Hp->VK->Prop:=λxs H Q=>∃(l:ah) (o:Obj) (kb:KB) (ks:xr),xs=[.ref l]/\H l=some (.frz o (.own 0))/\uA X.prog X.w l o kb/\KbOk H kb ks/\(∀k∈ks,k≠[])/\(bT bJ ks).length<64/\∀D yw,H D=none->yj H yw (bT bJ ks)->Q (.ref D) (aJ H D (.lst yw))
theorem VL {α β:Type}{f:α->β}:∀{l:List β}{l':List β},l.Perm l'->∀xs:List α,l'=xs.map f->∃ys:List α,ys.Perm xs/\l=ys.map f:=by
 intro l l' h
 induction h with
 |nil=>intro xs e;exact⟨xs,.refl _,e⟩
 |cons a _ ih=>
  intro xs e
  cases xs with
  |nil=>cases e
  |cons x xs=>simp only[dy,xb]at e;obtain⟨ys,p,e'⟩:=ih xs e.2;exact⟨x::ys,p.cons x,by simp[e.1,e']⟩
 |swap a b l=>
  intro xs e
  cases xs with
  |nil=>cases e
  |cons x xs=>
   cases xs with
   |nil=>simp at e
   |cons y xs=>simp only[dy,xb]at e;exact⟨y::x::xs,.swap ..,by simp[e.1,e.2.1,e.2.2]⟩
 |trans _ _ ih1 ih2=>intro xs e;obtain⟨ys,p,e'⟩:=ih2 xs e;obtain⟨zs,p',e''⟩:=ih1 ys e';exact⟨zs,p'.trans p,e''⟩
theorem VM {k:Nat}(rm:yv k X.A):ym X (.builtin "sorted") (HG X):=by
 intro pins s σ H xs us Q I rv ⟨l,o,kb,ks,e,hl,⟨es,ep,t,hP⟩,kO,ne,h64,q⟩;subst e;obtain⟨u,rfl,ru⟩:=gR rv;cases ru;have P:=hP s.heap (I.hok l _ hl).1;have pe:(fY X.w l ep es).toList.Perm (eO X.prog X.w kb):=by rw[<-P.es];exact G3 _ _ _ _
 obtain⟨kc,pk,ek⟩:=VL pe kb rfl;have mem:∀i,i<kc.length->kc.getD i ([],0)∈kb:=λi hi=>pk.mem_iff.mp (by simp[hi]);have hn:(kb.map ed).length=(bT bJ ks).length:=by refine List.Perm.length_eq ((kg P.nd (oE zm (lI zm ks))).mpr λz=>?_);rw[jA zm];refine⟨λh=>?_,λh=>kO.all z h⟩;obtain⟨p,hp,rfl⟩:=cw.mp h;exact kO.frm p hp
 have hlen:kc.length<64:=by rw[pk.length_eq];rw[bf]at hn;omega
 have hes:es.size=kc.length:=by rw[P.size,pk.length_eq]
 have KA:zc X.prog X.w s.heap kc.length (λi=>(kc.getD i ([],0)).2) (λi=>(kc.getD i ([],0)).1):=λi hi=>⟨tY I (kO.tup _ (mem i hi)),ne _ (kO.frm _ (mem i hi))⟩
 have er:(fY X.w l ep es).toList.map (·.2)=aX kc.length (λi=>(kc.getD i ([],0)).2):=by
  rw[ek,om]
  apply tx (by simp[iK])
  intro i h1 h2;have hi:i<kc.length:=by simpa using h1
  simp[aX,hi]
 refine zA hlen KA (λQ' E' hQ=>?_) λh' tk D e out so hD ho k=>?_
 ·refine VB (show X.A.in1.handled=none from rm.hd) P (by rw[hes,gr];omega) λh' tk kk sz=>?_;rw[er];exact hQ h' tk kk sz
 ·obtain⟨pp,yw,h1,h2,h3,h4⟩:=zC (H:=H) so λi hi=>kO.tup _ (mem i hi);have pm:(pp.map λi=>(kc.getD i ([],0)).1).Perm (kb.map ed):=by have:=((zD (d:=(([],0):xu×ah)) h1 rfl).trans pk).map ed;rwa [om]at this
  have nd:(pp.map λi=>(kc.getD i ([],0)).1).Nodup:=pm.nodup_iff.mpr P.nd;have rs:eN bJ (pp.map λi=>(kc.getD i ([],0)).1):=by
   refine(h2.and nd).imp λ{a b} ⟨x,y⟩=>?_
   cases q:bJ a b with
   |true=>rfl
   |false=>exact absurd (zm.tot a b q x) y
  have e1:(pp.map λi=>(kc.getD i ([],0)).1)=bT bJ ks:=TQ zm rs λz=>by rw[pm.mem_iff];refine⟨λh=>?_,λh=>kO.all z h⟩;obtain⟨p,hp,rfl⟩:=cw.mp h;exact kO.frm p hp
  rw[e1]at h4;refine⟨.ref D,_,I.laid (t':=tk) k hD (show yi X.prog X.w _ _ _ (.lst yw) from⟨?_,out,e,h3,ho⟩),rfl,q D yw (I.hok.fresh hD) h4⟩;rw[h4.len,gr];omega
end
def lK:Dv->Option xu 
 | .tup xs=>aY dZ xs
 |_=>none
def oG (k:xu):Dv:=.tup (k.map Dv.int)
section
variable{X:Cx}{G:Cfg}{E:XK}{k:Nat}{e a b:bj}{es:List bj}{ma mb:M Dv}{aQ:M yb }{p p2 pos zx:Pos}
theorem uB {μ:Nat->ah}{n:Nat}{H:Hp}:∀{xs:yb}{vs:List V}{ks:xr},RelDL G μ n H xs vs->aY lK xs=some ks->yj H vs ks
 | [],_,ks,r,e=>by cases e;rw[RelDL]at r;subst r;trivial
 |x::xs,_,ks,r,e=>by
  rw[RelDL]at r;obtain⟨v,rr,rfl,r1,r2⟩:=r;unfold aY at e
  cases x with
  |tup ds=>
   dsimp only[lK]at e
   cases q:aY dZ ds with
   |none=>rw[q]at e;cases e
   |some zs=>
    rw[q]at e;dsimp only at e
    cases q2:aY lK xs with
    |none=>rw[q2]at e;cases e
    |some ys=>rw[q2]at e;cases e;rw[yf]at r1;obtain⟨b,us,rfl,h1,h2⟩:=r1;rw[mH h2 q]at h1;exact⟨⟨b,rfl,h1⟩,uB r2 q2⟩
  |_=>cases e
theorem uC {μ:Nat->ah}{n:Nat}{H:Hp}:∀{vs:List V}{ks:xr},yj H vs ks->RelDL G μ n H (ks.map oG) vs
 | [],[],_=>RelDL.nil
 | [],_::_,h=>h.elim
 |_::_,[],h=>h.elim
 |v::vs,k::ks,h=>by obtain⟨⟨b,rfl,e⟩,h2⟩:=h;refine RelDL.cons ?_ (uC h2);unfold oG;rw[yf];exact⟨b,_,rfl,e,nG k⟩
def oH (ks:xr):Bool:=ks.all λk=>!k.isEmpty
theorem zE {ks:xr}(h:oH ks=true):∀k∈ks,k≠[]:=λk hk e=>by have:=ic.mp h k hk;rw[e]at this;cases this
def zF (x:Dv) (h:Hs):Rs Dv:=match x with
 | .ref i=>match getL h i with
  |some xs=>match aY lK xs with
   |some ks=>if(oH ks&&decide (ks.length<64))=true then .ok (.ref h.length) (h++[.lst ((fW bJ ks).map oG)])else .bad
   |none=>.bad
  |none=>.bad
 |_=>.bad
theorem HH:iB G (λx H Q=>tZ [x] H Q) zF:=by
 intro E μ h H x vx Q s r o
 cases x with
 |ref i=>
  dsimp only[zF]at o
  cases q:getL h i with
  |none=>rw[q]at o;exact o.elim
  |some xs=>
   rw[q]at o;dsimp only at o
   cases q2:aY lK xs with
   |none=>rw[q2]at o;exact o.elim
   |some ks=>
    rw[q2]at o;dsimp only at o
    split at o
    ·rename_i h0;rw[dh]at h0;obtain⟨vs,e1,r1⟩:=s.ob i _ (cE q);obtain⟨_,rfl⟩:=r;exact⟨_,vs,ks,rfl,e1,uB r1 q2,zE h0.1,by simpa using h0.2,λl yw hl ht=>kE s (uC ht) hl o⟩
    ·exact o.elim
 |_=>exact o.elim
def lL (x:Dv) (h:Hs):Rs Dv:=match qJ x h with
 | .ok d h1=>.ok d h1
 |_=>zF x h
abbrev HI:List V->Hp->VK->Prop:=λxs H Q=>∃(p:ah) (ns:xu),xs=[.ref p]/\H p=some (.lst (ns.map V.int))/\ns.length<64/\∀l,H l=none->Q (.ref l) (aJ H l (.lst ((iH ns).map V.int)))
theorem VN:iB G (λx H Q=>HI [x] H Q∨tZ [x] H Q) lL:=by
 intro E μ h H x vx Q s r o;unfold lL at o
 cases q:qJ x h with
 |ok d h1=>rw[q]at o;obtain⟨p,ns,e,r1⟩:=S9 E μ h H x vx Q s r (by rw[q];exact o);exact .inl ⟨p,ns,by rw[e],r1⟩
 |ex c h1=>rw[q]at o;exact .inr (HH E μ h H x vx Q s r o)
 |bad=>rw[q]at o;exact .inr (HH E μ h H x vx Q s r o)
theorem VO:ym X (.builtin "sorted") (λxs H Q=>HI xs H Q∨tZ xs H Q):=by
 intro pins s σ H xs us Q I rv h
 rcases h with h|h
 ·exact S8 pins s σ H xs us Q I rv h
 ·exact VI pins s σ H xs us Q I rv h
theorem VP (hg:Gl X "sorted") (hm:X.mg "sorted" = none) (ha:cX X G E [e] aQ)
  (he:ax [e] X.env=[(false,eval e X.env)]:=by rfl):aG X G E (.Call (.Name "sorted" p) [e] [] pos) (aE (f1 lL) aQ):=
 nI (ym.imp VO λxs H Q ⟨v,h1,h2⟩=>by rw[h1];exact h2) (nJ VN) hg hm yK ha (by decide) (by decide) he rfl
theorem VQ:dm "set" = some (.type "set"):=by decide +kernel
end
open PySem.SeqAt PySem.MeetsSeq PySem.MeetsSeq2 PySem.MeetsSeq3
section
variable{X:Cx}{G:Cfg}{E:XK}{k:Nat}{e a b o:bj}{es:List bj}{mo me ma mb:M Dv}{aQ:M yb }{p p2 pos zx apos cpos np:Pos}{y:Str}
theorem VR {prog:bg}{w:cf}{A:bp}{Ee:ae->af->Prop}{s:af}{t sl:ah}{items:Array ae}{vl vu:ae}{lo hi:Option Int}{Q:ae->af->Prop}(ht:IsTup s.heap t items) (hs:s.heap.IsSliceOf sl vl vu .none) (pl:rp vl lo) (pu:rp vu hi)
  (h0:HT.sIx items.size 0 lo=0) (h1:HT.sIx items.size items.size hi=items.size) (h:Q (.ref t) s):wpAny (model prog w) A (getItem (.ref t) (.ref sl)) Q Ee s:=by
 obtain⟨os,hos,hcs,hds⟩:=id hs;have hTs:s.TypeIs (.ref sl) "slice" := ⟨os,hos,hcs⟩;have tt:=ht.typeIs;obtain⟨ot,et,ct,_⟩:=id ht;unfold getItem
 try with_reducible refine dv ?_
 first|refine aa (ai ?_)|skip
 refine aa (wpAny_sequenceKey tt (by decide) (aa (fj (name:=jn "__getitem__") tt fz (fq fz tt PySem.F.entry_tuple_getitem ?_ (PySem.F.args_tuple_getitem_2 _ _)))));refine aa (m:=slotArgs "__getitem__" 1 ⟨[.ref t,.ref sl],[]⟩) (ai (aa (tupleItemsOf_ ht (aa (p8 hTs ?_)))));rw[if_pos (by decide)];refine aa (HT.sliceApplied_gen hs pl pu ?_);rw[h0,h1];show wpAny _ _ (if(((0:Nat):Int)==0&&(1:Int)==1&&(items.size - 0)==items.size)=true then _ else _) _ _ s;rw[if_pos (by simp)];unfold Builtin.Tuple.tupleIsExact;refine aa (aa (p8 tt (ai ?_)));rw[if_pos (by decide)];refine aa (qu (ai ⟨_,rfl,ai h⟩))
theorem VS:SlR X (λx lo hi H Q=>∃a xs,x=.ref a/\yt X.K H a xs/\HT.sIx xs.length 0 lo=0/\HT.sIx xs.length xs.length hi=xs.length/\Q (.ref a) H):=by
 intro pins s σ H x v vl vu lo hi sl Q I rx hs pl pu ⟨a,xs,ex,hx,h0,h1,q⟩;subst ex;cases rx;obtain⟨its,r,ht,hz⟩:=I.tuple hx;have hlen:its.toArray.size=xs.length:=by rw[au];exact r.length.symm
 exact⟨"tuple",_,fz.lookup,ht.typeIs,VR ht hs pl pu (by rw[hlen];exact h0) (by rw[hlen];exact h1) ⟨.ref a,H,I,rfl,q⟩⟩
def qU (x:Dv) (lo hi:Option Int) (h:Hs):Rs Dv:=match x with
 | .ref j=>match getL h j with
  |some xs=>.ok (.ref h.length) (h++[.lst (jP xs lo hi)])
  |none=>.bad
 | .tup xs=>.ok (.tup (jP xs lo hi)) h
 |_=>.bad
theorem VT {xs:yb}{lo hi:Option Int}(h0:HT.sIx xs.length 0 lo=0) (h1:HT.sIx xs.length xs.length hi=xs.length):jP xs lo hi=xs:=by unfold jP;rw[h0,h1];simp
def jC (m:M Dv) (lo hi:MO):M Dv:=λρ h=>(m ρ h).bind λx h1=>(lo ρ h1).bind λl h2=>(hi ρ h2).bind λu h3=>qU x l u h3
theorem uD {lo hi:Option bj}{ml mh:MO}(ho:aG X G E o mo) (hl:tJ X G E lo ml) (hh:tJ X G E hi mh):aG X G E (.Subscript o (.Slice lo hi none p2) pos) (jC mo ml mh):=λhK=>
 PE.imp (NX (SlR.or (SlR.or N9 NZ) VS) (ho hK) (hl hK) (hh hK)) λσ H Q ⟨μ,ρ,h,rs,s,oo⟩=>cY rs s oo λμ1 x h1 vx H1 x1 yr s1 r1 o1=>by
  refine⟨μ1,ρ,h1,yr,s1,(o1.bind (R1:=λ_ _ _ a b=>b=a)).mono λl' H2 ⟨μ2,l,h2,x2,s2,el,o2⟩=>?_⟩;subst el;refine⟨μ2,ρ,h2,yr.mono x2,s2,(o2.bind (R1:=λ_ _ _ a b=>b=a)).mono λu' H3 ⟨μ3,u,h3,x3,s3,eu,o3⟩=>?_⟩;subst eu;have r3:=yf.mono (x2.trans x3) _ _ r1
  cases x with
  |ref j=>
   dsimp only[qU]at o3
   cases q:getL h3 j with
   |none=>rw[q]at o3;exact o3.elim
   |some xs=>rw[q]at o3;obtain⟨vs,ea,ra⟩:=s3.ob j _ (cE q);obtain⟨_,rfl⟩:=r3;exact .inl (.inl ⟨_,vs,rfl,y9.of ea,λp hp=>kE s3 (FD ra _ _) hp o3⟩)
  |tup xs=>
   dsimp only[qU]at o3;obtain⟨a,vs,rfl,ea,ra⟩:=r3
   by_cases hw:HT.sIx xs.length 0 l'=0/\HT.sIx xs.length xs.length u'=xs.length
   ·refine .inr ⟨a,vs,rfl,yt.of ea,by rw[ra.length];exact hw.1,by rw[ra.length];exact hw.2,o3 μ3 _ _ Ext.refl s3 ?_⟩;rw[VT hw.1 hw.2];exact⟨a,vs,rfl,ea,ra⟩
   ·exact .inl (.inr ⟨a,vs,rfl,yt.of ea,by rw[ra.length];exact hw,λp hp=>o3 μ3 _ _ (Ext.same (bM hp)) (s3.same (bM hp)) ⟨p,_,rfl,bO,RelDL.mono (Ext.same (bM hp)) _ _ (FD ra _ _)⟩⟩)
  |_=>exact o3.elim
def kN (x y:Dv) (h:Hs):Rs Dv:=match x,y with
 | .int i,.int j=>.ok (.bl (decide (i<j))) h
 | .tup xs,.tup ys=>match aY dZ xs,aY dZ ys with
  |some ns,some ms=>.ok (.bl (HT.lexLt ns ms)) h
  |_,_=>.bad
 |_,_=>.bad
theorem VU:dW G (λx y H Q=>(iN λi j=>.bl (decide (i<j))) x y H Q∨CG G.K x y H Q) kN:=by
 intro E μ h H x y vx vy Q s rx ry o;unfold kN at o
 split at o
 ·rename_i i j;exact .inl (sO E μ h H (.int i) (.int j) vx vy Q s rx ry o)
 ·rename_i xs ys
  cases q1:aY dZ xs with
  |none=>rw[q1]at o;exact o.elim
  |some ns=>
   cases q2:aY dZ ys with
   |none=>rw[q1,q2]at o;exact o.elim
   |some ms=>rw[q1,q2]at o;obtain⟨a,us,rfl,ea,ra⟩:=rx;obtain⟨b,ws,rfl,eb,rb⟩:=ry;exact .inr ⟨a,b,ns,ms,rfl,rfl,yt.of (by rw[ea,mH ra q1]),yt.of (by rw[eb,mH rb q2]),o.val s rfl⟩
 ·exact o.elim
theorem HJ (g:Good X G E k) (ha:aG X G E a ma) (hb:aG X G E b mb):eW X G E (.Compare a [.Lt] [b] pos) (mB (m2 kN ma mb)):=λhK=>pN (zg.or MW (N0 (by have:=g.room.un;omega))) (by rw[hK];exact VU) ha hb (oZ _) hK
def bH (j:Int):xu:=(bx j.toNat).map λk:Nat=>(k:Int)
theorem VV:ym X (.type "range") (λxs H Q=>∃j:Int,xs=[.int j]/\∀l,H l=none->Q (.ref l) (aJ H l (.rng 0 j))):=by intro pins s σ H xs us Q I rv ⟨j,e,q⟩;subst e;obtain⟨u,rfl,ru⟩:=gR rv;obtain⟨t,rfl⟩:=ru;refine call_range_1 ⟨.ref s.heap.objs.size,_,I.laid (t':=s.toks+1+1) (o:=.rng 0 j) (λb ob q=>aj _ q) (ak _) ⟨_,_,_,av _ rfl⟩,rfl,q _ (I.hok.fresh (ak _))⟩
theorem VW (rm:yv k X.A):ym X (.type "list") (λxs H Q=>∃(l:ah) (j:Int),xs=[.ref l]/\H l=some (.rng 0 j)/\0<=j/\j<=1000/\∀D,H D=none->Q (.ref D) (aJ H D (.lst ((bH j).map V.int)))):=by
 intro pins s σ H xs us Q I rv ⟨l,j,e,hl,h0,h1,q⟩;subst e;obtain⟨u,rfl,ru⟩:=gR rv;cases ru;obtain⟨t,u,v,hr⟩:=I.hok l _ hl;refine call_list_range (n:=j.toNat) (a:=0) (b:=j) (c:=1) rm.hd hr (small_one (by omega) (by omega) (by omega) (by omega)) ?_ (by omega) λh' tk acc c ke ho ia=>?_
 ·rw[rangeSize_one]
  split <;> omega
 ·have hv:yg ((bH j).map V.int) acc.toList:=by
   have:∀(n:Nat) (as:List ae),as.length=n->(∀(i:Nat) (v:ae),as[i]?=some v->∃t,v=Value.int (0+(i:Int)*1) t)->yg (((bx n).map λk:Nat=>(k:Int)).map V.int) as:=λn=>by
    induction n with
    |zero=>intro as hl _;rw[vk.mp hl];exact .nil
    |succ n ih=>
     intro as hl hi;have hne:as≠[]:=λz=>by rw[z]at hl;cases hl
     have e:=List.dropLast_concat_getLast hne;rw[<-e,List.range_succ,js,js];have hlast:as[n]?=some (as.getLast hne):=by
      rw[List.getLast_eq_getElem,bh (by omega)]
      congr 2;omega
     obtain⟨t,ht⟩:=hi n _ hlast;refine yg.append (ih as.dropLast (by simp[hl]) λi v hv=>hi i v ?_) ?_
     ·rw[List.getElem?_dropLast]at hv
      split at hv
      ·exact hv
      ·cases hv
     ·refine .cons ?_ .nil;show RelV (.int (n:Int)) _;rw[ht];exact⟨t,by simp⟩
   refine this j.toNat acc.toList (by simpa using ia.1) λi v hv=>?_;exact ia.2 i v (by simpa using hv)
  refine⟨.ref s.heap.objs.size,_,I.laid (t':=tk) ke (ak _) (show yi X.prog X.w _ _ _ (.lst ((bH j).map V.int)) from⟨?_,acc.toList,c,hv, ?_⟩),rfl,q _ (I.hok.fresh (ak _))⟩
  ·rw[bf,bH,bf,mf,gr];omega
  ·rw[ho]
def kP:Dv->Hs->Rs Dv
 | .int j,h=>if(decide (0<=j)&&decide (j<=1000))=true then .ok (.ref h.length) (h++[.lst ((bH j).map Dv.int)])else .bad
 |_,_=>.bad
theorem VX (g:Good X G E k) (hg:Gl X "list") (hm:X.mg "list" = none) (hg2:Gl X "range") (hm2:X.mg "range" = none) (ha:cX X G E [e] aQ)
  (he:ax [e] X.env=[(false,eval e X.env)]:=by rfl) (Ag:ax [Expr.Call (.Name "range" p2) [e] [] zx] X.env=[(false,eval (.Call (.Name "range" p2) [e] [] zx) X.env)]:=by rfl):
  aG X G E (.Call (.Name "list" p) [.Call (.Name "range" p2) [e] [] zx] [] pos) (aE (f1 kP) aQ):=λhK=>
 PE.imp (rV (VW g.room) hg hm sR (eS (rV VV hg2 hm2 boot_range (ha hK) (by decide) (by decide) he rfl) gS Ag) (by decide) (by decide) Ag rfl) λσ H Q ⟨μ,ρ,h,rs,s,o⟩=>by
  refine kD rs s o λμ1 ds h1 vs H1 x1 yr s1 r1 o1=>?_;unfold f1 at o1
  split at o1
  ·rename_i d;obtain⟨v,rfl,rv⟩:=pS r1
   cases d with
   |int j=>
    dsimp only[kP]at o1
    split at o1
    ·rename_i h0;rw[dh]at h0;have j0:0<=j:=by simpa using h0.1
     have j1:j<=1000:=by simpa using h0.2
     rw[yf]at rv;subst rv;refine⟨j,rfl,λl hl=>?_⟩;have sm:=bM (o:=.rng 0 j) hl;refine⟨l,j,rfl,bO,j0,j1,λD hD=>?_⟩;exact kE (E:=E) (s1.same sm) (nG _) hD (λμ' H' v x'=>o1 μ' H' v ((Ext.same sm).trans x'))
    ·exact o1.elim
   |_=>exact o1.elim
  ·exact o1.elim
end
section
variable{X:Cx}{G:Cfg}{E:XK}{k:Nat}{e a b o:bj}{es:List bj}{mo me ma mb:M Dv}{aQ:M yb }{p p2 pos zx apos cpos np:Pos}{y:Str}
theorem sub_tuple:isSubtype (.type "tuple") (.type "set")=pure false/\isSubtype (.type "tuple") (.type "frozenset")=pure false:=by constructor <;> (rw[isSubtype_type];kernel_rfl)
abbrev HK (X:Cx):List V->Hp->VK->Prop:=λxs H Q=>∃(p:ah) (vs:List V) (ks:xr),xs=[.ref p]/\H p=some (.tup vs)/\yj H vs ks/\(bT bJ ks).length<=76/\∀l o kb,H l=none->uA X.prog X.w l o kb->KbOk H kb ks->Q (.ref l) (aJ H l (.frz o (.own 0)))
theorem VY (rm:yv k X.A):ym X (.type "set") (HK X):=by
 intro pins s σ H xs us Q I rv ⟨p,vs,ks,e,hp,ht,hU,q⟩;subst e;obtain⟨u,rfl,ru⟩:=gR rv;cases ru;obtain⟨its,rits,pl,hz⟩:=I.tuple (yt.of hp);have hits:=zB ht rits;have lp:=I.hok.lt hp;have hI:s.heap.IsTuple p (aX ks.length (cV vs)).toArray:=by rw[<-hits];exact pl
 have hsz:(aX ks.length (cV vs)).toArray.size=ks.length:=by rw[au,iK]
 have hne:p≠s.heap.objs.size+1:=aw (jw lp);have hb:(s.heap.push (bare X.w)).IsTuple p (aX ks.length (cV vs)).toArray:=IsTup.push (items:=(aX ks.length (cV vs)).toArray) hI _;have hs1:(s.heap.push (bare X.w)).objs.size=s.heap.objs.size+1:=wy _ _;have W:=Walks.tuple (prog:=X.prog) (w:=X.w) (A:=X.A.in1.in1.in1) (show X.A.in1.in1.in1.handled=none from rm.hd) (s.heap.objs.size+1) p hne (aX ks.length (cV vs)).toArray;rw[hsz]at W;refine G7 (T := "tuple") (it:={ cls:=.type "tuple_iterator",data:=.fields #[.ref p,.int 0 0] }) (cV vs) (λi=>ks.getD i []) (bT bJ ks) (by have:=rm.un;omega) hI.typeIs sub_tuple.1 sub_tuple.2 (by decide) (λB Q' E' hQ=>?_) W (λm=>?_) (λb hb=>?_) ⟨⟨{ cls:=.type "tuple_iterator",data:=.fields #[.ref p,.int 0 0] }, ?_,rfl,rfl⟩,IsTup.push (items:=(aX ks.length (cV vs)).toArray) hb _⟩ (λi v hv=>?_) hU (λi hi=>?_) (λj hj=>tY I (ht.at_ hj).2) λh' tk kb hS A' k=>?_
 ·refine pg hb ?_;rw[<-hs1]at hQ;exact hQ
 ·rcases ba.mp m with z|m
  ·exact q9 _ z.symm
  ·exact ig lp (cy.mp m)
 ·rw[cy.mp hb];exact jh _
 ·rw[<-hs1];exact av _ rfl
 ·have hi:i<ks.length:=by have:=(df.mp hv).1;rwa [hsz]at this
  have:(aX ks.length (cV vs))[i]?=some (.ref (cV vs i)):=by simp[aX,hi]
  rw[wz,this]at hv;exact(cq hv).symm
 ·refine(jA zm _ _).mpr ?_;show ks.getD i []∈ks;simp[hi]
 ·obtain⟨o,es,ep,t,P⟩:=hS;refine⟨.ref s.heap.objs.size,_,I.laid (t':=tk) (o:=.frz o (.own 0)) k (ak _) ⟨P.obj,o,P.obj⟩,rfl,q _ o kb (I.hok.fresh (ak _)) ⟨es,ep,t,λh e=>P.at' e⟩ ⟨λz hz=>?_,λz hz=>?_,λz hz=>?_⟩⟩
  ·obtain⟨j,hj,rfl⟩:=A'.from_ z hz;exact(ht.at_ hj).2
  ·obtain⟨j,hj,rfl⟩:=A'.from_ z hz;show ks.getD j []∈ks;simp[hj]
  ·obtain⟨j,hj,rfl⟩:=jg hz;have:=A'.all j hj;simpa[hj]using this
theorem VZ (rm:yv k X.A):ym X (.type "set") (λxs H Q=>HF X xs H Q∨HK X xs H Q):=by
 intro pins s σ H xs us Q I rv h
 rcases h with h|h
 ·exact VJ rm pins s σ H xs us Q I rv h
 ·exact VY rm pins s σ H xs us Q I rv h
def mM (x:Dv) (h:Hs):Option xr :=match x with
 | .ref i=>match getL h i with
  |some xs=>aY lK xs
  |none=>none
 | .tup xs=>aY lK xs
 |_=>none
def jV (x:Dv) (h:Hs):Rs Dv:=match mM x h with
 |some ks=>if(oH ks&&decide ((bT bJ ks).length<64))=true then .ok (.ref h.length) (h++[.lst ((bT bJ ks).map oG)])else .bad
 |none=>.bad
theorem HL (g:Good X G E k) (hg:Gl X "sorted") (hm:X.mg "sorted" = none) (hg2:Gl X "set") (hm2:X.mg "set" = none) (ha:cX X G E [e] aQ)
  (he:ax [e] X.env=[(false,eval e X.env)]:=by rfl) (Ag:ax [Expr.Call (.Name "set" p2) [e] [] zx] X.env=[(false,eval (.Call (.Name "set" p2) [e] [] zx) X.env)]:=by rfl):
  aG X G E (.Call (.Name "sorted" p) [.Call (.Name "set" p2) [e] [] zx] [] pos) (aE (f1 jV) aQ):=λhK=>
 PE.imp (pC (VM g.room) hg hm yK (eS (rV (VZ g.room) hg2 hm2 VQ (ha hK) (by decide) (by decide) he rfl) gS Ag) (by decide) (by decide) Ag rfl) λσ H Q ⟨μ,ρ,h,rs,s,o⟩=>by
  refine kD rs s o λμ1 ds h1 vs H1 x1 yr s1 r1 o1=>?_;unfold f1 at o1
  split at o1
  ·rename_i d;obtain⟨v,rfl,rv⟩:=pS r1;unfold jV at o1
   cases q:mM d h1 with
   |none=>rw[q]at o1;exact o1.elim
   |some ks=>
    rw[q]at o1;dsimp only at o1
    split at o1
    ·rename_i h0;rw[dh]at h0;have h64:(bT bJ ks).length<64:=by simpa using h0.2
     have fin:∀(l:ah) (o:Obj) (kb:KB),H1 l=none->uA X.prog X.w l o kb->KbOk H1 kb ks->HG X [.ref l] (aJ H1 l (.frz o (.own 0))) Q:=λl o kb hl so ko=>by have sm:=bM (o:=.frz o (.own 0)) hl;refine⟨l,o,kb,ks,rfl,bO,so,⟨λp hp=>sm _ _ (ko.tup p hp),ko.frm,ko.all⟩,zE h0.1,h64,λD yw hD ht=>?_⟩;exact kE (E:=E) (s1.same sm) (uC ht) hD (λμ' H' v x'=>o1 μ' H' v ((Ext.same sm).trans x'))
     cases d with
     |ref i=>
      dsimp only[mM]at q
      cases q1:getL h1 i with
      |none=>rw[q1]at q;cases q
      |some xs=>rw[q1]at q;obtain⟨vs,e1,r2⟩:=s1.ob i _ (cE q1);obtain⟨_,rfl⟩:=rv;exact .inl ⟨_,vs,ks,rfl,e1,uB r2 q,by omega,fin⟩
     |tup xs=>obtain⟨a,vs,rfl,e1,r2⟩:=rv;exact .inr ⟨_,vs,ks,rfl,e1,uB r2 q,by omega,fin⟩
     |_=>cases q
    ·exact o1.elim
  ·exact o1.elim
end
end L2.Mr
namespace L2.Mr.Com
open PySem PySem.Spec PyProof.Rows L2 L2.Mr
def zG:MS:=(aS (eX (m1 (aR oD) (aB 0)) (m1 sJ (m1 (aR kH) (aB 0)))))
def F_qp:ya:=bA 1 1 (zG)
def uE:MS:=(aS (eX (aE F_qp (aA (aB 0) aC)) (nC oB oB (aB 1) (aB 0) (aB 2))))
def F_qj:ya:=bA 3 3 (uE)
def HM:MS:=(aS (aE F_qj (aA (aB 1) (aA (mC (.int 0)) (aA (m2 oA (aB 0) (mC (.int 1))) aC)))))
def F_qo:ya:=bA 2 2 (HM)
def zH:MS:=(aS (eX (m1 (aR kJ) (aB 1)) (mL mD (dY (cO xM (aB 1)) [none,some 0] (aH 0) kF (dO (aE F_qo (aA (aB 1) (aA (aB 0) aC))))))))
def F_qi:ya:=bA 2 2 (zH)
def uF:MS:=(aS (eX (aE F_qi (aA (aB 0) (aA (aB 1) aC))) (m2 bZ (aE (f1 dP) (aA (aB 1) aC)) (mC (.int 2)))))
def F_qr:ya:=bA 2 2 (uF)
def uG (scr:xu):MS:=(aK (aV (mB (m2 kN (aB 1) (aE (f1 (gD scr)) (aA (aB 0) aC)))) (aS (m2 (iC scr) (aB 0) (aB 1))) bC) (aS (mC (.int 0))))
def F_qc (scr:xu):ya:=bA 2 2 (uG scr)
def uH (scr:xu):MS:=(aK (aN (aE (F_qc scr) (aA (aB 0) (aA (aB 1) aC))) (aH 2)) (aK (aV (mB (m2 tM (aB 2) (m2 iX (mC (.int 10)) (mC (.int 18))))) (aS (aO (aA (m2 oA (aB 2) (m2 iX (mC (.int 10)) (mC (.int 18)))) (aA (mC (.bl true)) aC)))) bC) (aS (aO (aA (m2 jR (aB 2) (mC (.int 2147483647))) (aA (mC (.bl false)) aC))))))
def F_qh (scr:xu):ya:=bA 2 3 (uH scr)
def zI:MS:=(aK (aV (bN (m2 cA (aB 0) (mC (.int 1)))) (aK (aN (m2 jR (m2 cA (aB 0) (mC (.int 0))) (aB 1)) (aH 2)) (aK (qA (aB 0) (mC (.int 0)) (m2 qL (m2 cA (aB 0) (mC (.int 0))) (aB 1))) (aS (aB 2)))) bC) (aK (qA (aB 0) (mC (.int 0)) (m2 jR (m2 bR (m2 mF (m2 cA (aB 0) (mC (.int 0))) (mC (.int 48271))) (mC (.int 29))) (mC (.int 2147483647)))) (aK (aN (m2 jR (m2 bR (m2 bR (m2 mF (m2 cA (aB 0) (mC (.int 0))) (m2 cA (aB 0) (mC (.int 0)))) (m2 mF (mC (.int 39373)) (m2 cA (aB 0) (mC (.int 0))))) (mC (.int 7))) (mC (.int 2147483629))) (aH 3)) (aK (aN (m2 jR (m2 bR (m2 mF (aB 3) (aB 3)) (m2 mF (mC (.int 16807)) (aB 3))) (mC (.int 2147483587))) (aH 3)) (aS (m2 jR (m2 qL (aB 3) (mC (.int 8))) (aB 1)))))))
def F_ql:ya:=bA 2 4 (zI)
def zJ:MS:=(aK (aN (aE (f1 fU) (aA (aB 1) aC)) (aH 2)) (aK (aN (aO aC) (aH 3)) (aK (fS (mB (m2 bV (aB 2) (aO aC))) (dD (lB (aB 3) (qE (aB 2) (aE F_ql (aA (aB 0) (aA (aE (f1 dP) (aA (aB 2) aC)) aC)))))) 40) (aS (aB 3)))))
def F_qb:ya:=bA 2 4 (zJ)
def gM:MS:=(aK (aN (aE (f1 jV) (aA (aB 0) aC)) (aH 1)) (fS (bN (mC (.bl true))) (aK (aN (aE (f1 fU) (aA (aB 1) aC)) (aH 2)) (aK (eZ (cO cZ (aB 1)) (eY 2 (bP (aH 3) (bP (aH 4) eK))) (dD (mE (aB 2) (dY (cO cZ (aB 1)) [none,none,some 3,some 4] (eY 2 (bP (aH 0) (bP (aH 1) eK))) (mB (m2 bZ (aB 3) (aB 0))) (dO (bD (aA (aB 2) (aA (aB 1) aC)))))))) (aK (aN (aE (f1 jV) (aA (aB 2) aC)) (aH 2)) (aK (aV (mB (m2 bZ (aB 2) (aB 1))) (aS (aB 1)) bC) (aN (aB 2) (aH 1)))))) 40))
def F_qf:ya:=bA 1 5 (gM)
def uI (Fs:ya):MS:=(aK (aV (bN (m1 (aR qI) (aB 1))) (aK (aV (fI (mB (m2 bV (m1 (aR kJ) (aB 0)) (m1 (aR kJ) (aB 1)))) (mB (m2 bV (m1 (aR fT) (aB 0)) (m1 (aR fT) (aB 1))))) (aS (mC (.bl false))) bC) (aK (aV (mB (m2 bV (aE (f1 dP) (aA (aB 0) aC)) (aE (f1 dP) (aA (aB 1) aC)))) (aS (mC (.bl false))) bC) (aS (mL mD (dY (aQ tG (aA (aB 0) (aA (aB 1) aC))) [none,none] (eY 2 (bP (aH 0) (bP (aH 1) eK))) kF (dO (aE Fs (aA (aB 0) (aA (aB 1) aC))))))))) bC) (aS (eX (m2 bZ (aB 0) (aB 1)) (m2 bZ (m1 (aR kH) (aB 0)) (m1 (aR kH) (aB 1))))))
def F_qk:Nat->ya
 |0=>λ_ _=>.bad
 |n+1=>bA 2 2 (uI (F_qk n))
end L2.Mr.Com
namespace L2.Mr
open PySem PySem.Spec PyProof.Rows L2
def lM:M Dv:=λ_ _=>.bad
def uJ (f:bj->M Dv):List bj->M yb 
 | []=>aC
 |e::es=>aA (f e) (uJ f es)
def mO (lk:Str->Option Nat):Nat->bj->M Dv
 |0,_=>lM
 |n+1,e=>match e with
  | .Constant c _ _=>match c with
   | .int i=>mC (.int i)
   | .bool b=>mC (.bl b)
   | .none=>mC .non
   | .str x=>mC (.str x)
   |_=>lM
  | .Tuple es _ _=>bD (uJ (mO lk n) es)
  | .List es _=>aO (uJ (mO lk n) es)
  | .Dict [] [] _=>mC .edc
  | .Name x _=>match lk x with
   |some i=>aB i
   |none=>lM
  | .UnaryOp .USub a _=>m1 jQ (mO lk n a)
  |_=>lM
def HN (e:bj):Prop:=∀es env,ax (e::es) env=(false,eval e env)::ax es env
section
variable{X:Cx}{G:Cfg}{E:XK}{lk:Str->Option Nat}
theorem uK {e:bj}:aG X G E e lM:=λ_ pins s σ H Q _ ⟨_,_,_,_,_,o⟩=>o.elim
theorem V0 {e:bj}{es:List bj}{ms:M yb }:cX X G E (e::es) (aA lM ms):=λ_ pos pins s σ H Q _ ⟨_,_,_,_,_,o⟩=>o.elim
theorem zK {f:bj->M Dv}(hf:∀e,aG X G E e (f e)/\(HN e∨f e=lM)):∀es,cX X G E es (uJ f es)
 | []=>aL
 |e::es=>by
  obtain⟨a,b|b⟩:=hf e
  ·exact aF a (zK hf es) (b es X.env)
  ·show cX X G E (e::es) (aA (f e) _);rw[b];exact V0
theorem uL (hv:∀x i pos,lk x=some i->aG X G E (.Name x pos) (aB i)):∀n e,aG X G E e (mO lk n e)/\(HN e∨mO lk n e=lM)
 |0,_=>⟨uK,.inr rfl⟩
 |n+1,e=>by
  unfold mO
  split
  ·split
   ·exact⟨aW,.inl λ_ _=>rfl⟩
   ·exact⟨fQ,.inl λ_ _=>rfl⟩
   ·exact⟨pJ,.inl λ_ _=>rfl⟩
   ·exact⟨pK,.inl λ_ _=>rfl⟩
   ·exact⟨uK,.inr rfl⟩
  ·exact⟨hZ (zK (uL hv n) _),.inl λ_ _=>rfl⟩
  ·exact⟨dU (zK (uL hv n) _),.inl λ_ _=>rfl⟩
  ·exact⟨FE,.inl λ_ _=>rfl⟩
  ·rename_i x pos
   split
   ·rename_i i q;exact⟨hv x i pos q,.inl λ_ _=>rfl⟩
   ·exact⟨uK,.inr rfl⟩
  ·exact⟨yE (uL hv n _).1,.inl λ_ _=>rfl⟩
  ·exact⟨uK,.inr rfl⟩
theorem kQ (n:Nat) {e:bj}{m:M Dv}(h:mO (λ_=>none) n e=m:=by rfl):aG X G E e m:=h▸(uL (λ_ _ _ h=>by cases h) n e).1
end
open SR
open PySem.SeqAt PySem.MeetsSeq PySem.MeetsSeq2 PySem.MeetsSeq3
end L2.Mr
namespace L2
open PySem PySem.Spec PyProof.Rows
def qV (kx vx:bj) (D:ah) (env:Env):Sem Unit:=do
 let kv <-eval kx env
 let vv <-holding [kv] (eval vx env)
 standAt { kx.pos with endLine:=vx.pos.endLine,endCol:=vx.pos.endCol }
 holding [kv,vv] (dictSet D kv vv)
theorem V1 (kx vx tg iter:bj) (sc:gn) (ps:Pos) (it:ae) (D:ah) (env:Env):
  compTurn (.DictComp kx vx [⟨tg,iter,[],0⟩] sc ps) 0 it (.ref D) env =
   lT iter.pos it tg [] env (qV kx vx D env) (.compLoop (.DictComp kx vx [⟨tg,iter,[],0⟩] sc ps) 0 it (.ref D) env):=by rfl
abbrev TD:=St->Hp->(St->Hp->Prop)->Prop
def PD (X:Cx) (m:Sem Unit) (t:TD):Prop:=∀(pins:List (ah×Obj)) (s:af) (σ:St) (H:Hp) (K:St->Hp->Prop),Inv X pins σ H s->t σ H K->
 wpAny (model X.prog X.w) X.A m (λ_ s'=>∃σ' H',Inv X pins σ' H' s'/\K σ' H') X.xe s
def zL (J:It) (g:TG) (inner:TD) (K:St->Hp->Prop) (σ:St) (H:Hp):Prop:=
 ∃W:Nat->Nat->St->Hp->Prop,(∃m,W 0 m σ H)/\∀i m σ H,W i m σ H->
  (J.stop i H/\K σ H)∨(J.go i H/\∃N:St->Hp->Prop,(∀σ' H',N σ' H'->∃m',m'<m/\W (i+1) m' σ' H')/\∀x H',J.yld i H x H'->g x σ H' λσ2 H2=>inner σ2 H2 N)
section
variable{X:Cx}{D:ah}
theorem V2 {kx vx tg iter:bj}{sc:gn}{ps:Pos}{it:ah}{g:TG}{ti:TD}{J:It}{fp:List ah}{tn:Nat->ck->Prop}
  (hx:X.xe=λ_ _=>False) (hc:X.calm=true) (hg:PG X tg g) (hi:PD X (qV kx vx D X.env) ti) (T:Turn X.prog X.w X.K tg J fp it tn)
  {pins:List (ah×Obj)}{s:af}{σ:St}{H:Hp}{K:St->Hp->Prop}{R:u6->af->Prop}(I:Inv X pins σ H s) (st:tn 0 s.heap) (hf:∀b∈fp,bU X pins H b)
  (h:zL J g ti K σ H) (hR:∀σ' H' s',Inv X pins σ' H' s'->K σ' H'->R (.ok .next) s'):
  codeAny (model X.prog X.w) X.A (.compLoop (.DictComp kx vx [⟨tg,iter,[],0⟩] sc ps) 0 (.ref it) (.ref D) X.env) R s:=by
 obtain⟨W,⟨m0,w0⟩,turn⟩:=h;have stat:∀{H':Hp},(∀b∈fp,H' b=none)->∀b∈fp,bU X pins H' b:=λhn b hb=>⟨hn b hb,(hf b hb).2⟩
 refine codeAny_loop rfl (λn s'=>∃i σ' H',Inv X pins σ' H' s'/\tn i s'.heap/\(∀b∈fp,H' b=none)/\W i n σ' H') ?_ m0 ⟨0,σ,H,I,st,λb hb=>(hf b hb).1,w0⟩
 rintro n s3 ⟨i,σ3,H3,I3,st3,fr3,w3⟩
 show wpAny _ X.A ((compTurn (.DictComp kx vx [⟨tg,iter,[],0⟩] sc ps) 0 (.ref it) (.ref D) X.env).onRaise (λx=>do noteFrame x X.env;theTreesLotGoes x)) _ _ s3;rw[V1];refine oj (je (Q:=λfin s'=>match fin with | .done f=>R (.ok f) s' | .again c'=>c'=.compLoop (.DictComp kx vx [⟨tg,iter,[],0⟩] sc ps) 0 (.ref it) (.ref D) X.env/\∃m,m<n/\∃i σ' H',Inv X pins σ' H' s'/\tn i s'.heap/\(∀b∈fp,H' b=none)/\W i m σ' H') (E:=λ_ _=>False) ?_ (λ_ _ z=>z) λ_ _ z=>z.elim);unfold lT;refine aa (lh (aa ?_));have xe':∀{α:Type}{m:Sem α}{Q:α->af->Prop}{s:af},wpAny (model X.prog X.w) X.A m Q X.xe s->wpAny (model X.prog X.w) X.A m Q (λ_ _=>False) s:=λ{α m Q s} z=>by rw[hx]at z;exact z
 rcases turn i n σ3 H3 w3 with⟨stop,qn⟩|⟨go,N,hN,step⟩
 ·refine aM (T.done X rfl rfl rfl hc i _ s3 σ3 H3 (λ_ _=>False) I3 (stat fr3) st3 stop) λr s4 ⟨hr,I4⟩=>?_;subst hr;exact ai (hR σ3 H3 s4 I4 qn)
 ·refine aM (T.item X rfl rfl rfl hc i _ s3 σ3 H3 (λ_ _=>False) I3 (stat fr3) st3 go) λr s4 ⟨u,hr,h4⟩=>?_;subst hr;refine aa (aM h4 λ_ s5 ⟨x,H5,I5,r5,y5,st5,fr5⟩=>?_);have I5p:=I5.pinned (stat fr5) (T.obj _ _ st5);refine aa (xe' (aM (hg _ s5 σ3 H5 x u _ I5p r5 (step x H5 y5)) λ_ s6 ⟨σ6,H6,I6,q6⟩=>?_));refine aa (wpAny_tests_nil ?_);rw[if_pos rfl];refine aa (xe' (aM (hi _ s6 σ6 H6 N I6 q6) λ_ s8 ⟨σ8,H8,I8,q8⟩=>?_));obtain⟨m',hm,w8⟩:=hN σ8 H8 q8;refine ai ⟨rfl,m',hm,i+1,σ8,H8,I8.unpinned,T.keep _ _ _ st5 λb hb o e=>(I8.pin (b,o) (br _ (br _ (lR hb e)))).1,λb hb=>?_,w8⟩;obtain⟨o,e,d⟩:=T.obj _ _ st5 b hb;exact(I8.pin (b,o) (br _ (br _ (lR hb e)))).2.1
theorem V3 {i:Nat}{x:Str}{px pos:Pos}{kx vx tg iter:bj}{sc:gn}{ps:Pos}{wi:TI}{g:TG}{ti:ah->TD}{N:xw}{cap:List (Option Nat)}
  (hsw:swapsWith (.DictComp kx vx [⟨tg,iter,[],0⟩] sc ps) (some (.Name x px)) pos.line X.env=pure true) (hN:X.N.Nodup) (hi':X.N[i]?=some x) (hx:X.env.scope.names.lookup x=some .local)
  (hc:X.calm=true) (C:ze X sc N cap) (hb:∀pins σ H s,Inv X pins σ H s->sysModules<s.heap.objs.size)
  (hi:PI X tg iter wi) (hg:∀s H ex,PG (cN X sc N s H ex) tg g) (zv:∀s H ex D,PD (cN X sc N s H ex) (qV kx vx D (cN X sc N s H ex).env) (ti D))
  (hs:∀x,foldedSetIterable iter X.env x=pure x):PS X (.Assign [.Name x px] (.DictComp kx vx [⟨tg,iter,[],0⟩] sc ps) pos)
   (λD σ H=>wi σ H λJ H1=>∀p,H1 p=none->zL J g (ti p) (λ_ H'=>D.nx (σ.set i (some (.ref p))) H') (lS cap σ) (aJ H1 p (.dT []))):=by
 intro pins s σ H D I h;rw[exec_Assign_Name_used _ _ _ _ hsw];have Bb:closureFor sc X.env=pure (bY X.env sc.names []):=wW λx hx=>I.ok.has x (C.free x hx);refine aa (lh (aa ?_));show wpAny _ X.A (do let _ <-comprehension (.DictComp kx vx [⟨tg,iter,[],0⟩] sc ps) sc X.env (firstIterPos [⟨tg,iter,[],0⟩] ps) newDict false (eval iter X.env) (some (assign (.Name x px) X.env))) _ _ s;refine aa (aM (xj (use:=some (assign (.Name x px) X.env)) (Q:=λ_ s'=>SP X pins D .next s') (g:=⟨tg,iter,[],0⟩) (gs:=[]) rfl hs Bb C.kind C.nd (aM (hi pins s σ H _ I h) λv s1 h1=>aM h1 λitv s2 h2=>?_)) λ_ s' hq=>ai (ai hq));obtain⟨it,fp,tn,J,H2,e,I2,T,st2,f2,lp⟩:=h2;subst e;refine du (CW ?_);dsimp only;have nD:H2 s2.heap.objs.size=none:=I2.hok.fresh (ak _);have I3:Inv X pins σ (aJ H2 s2.heap.objs.size (.dT [])) { s2 with heap:=s2.heap.push { cls:=.type "dict",dict:=none,data:=.dict #[] } }:=I2.laid (a:=s2.heap.objs.size) (o:=.dT []) (t':=s2.toks) (λ_ _ q=>aj _ q) (ak _) ⟨iq _,beq_eq_false_iff_ne.mpr (cu (aw (hb _ _ _ _ I2))),[],.nil,_,#[],0,av _ rfl,⟨rfl,rfl,rfl⟩,rfl,rfl,List.nodup_nil⟩;have eD:∃o,(s2.heap.push { cls:=.type "dict",dict:=none,data:=.dict #[] }).get? s2.heap.objs.size=some o:=⟨_,av _ rfl⟩
 generalize hs3:({ s2 with heap:=s2.heap.push { cls:=.type "dict",dict:=none,data:=.dict #[] } }:af)=s3 at I3;have kp:∀b o,s2.heap.get? b=some o->s3.heap.get? b=some o:=λb o e=>by rw[<-hs3];exact aj _ e
 have hlt:s2.heap.objs.size<s3.heap.objs.size:=by obtain⟨o,eD⟩:=eD;rw[<-hs3];exact ao eD
 have hex:∀b∈fp,bU X pins (aJ H2 s2.heap.objs.size (.dT [])) b/\b<s3.heap.objs.size:=λb hb=>by obtain⟨o,e,_⟩:=T.obj 0 _ st2 b hb;refine⟨⟨?_,(f2 b hb).2⟩,ao (kp b o e)⟩;rw[aT (aw (ao e))];exact(f2 b hb).1
 have I4:=CZ (N:=N) (ex:=fp) I3 C hex;have F4:=DA (N:=N) I3 C hex;have st4:tn 0 (pushCells (s3.heap.push { cls:=.type "dict",data:=.dict #[] }) sc.names):=T.keep 0 _ _ st2 λb hb o e=>ly _ _ _ _ (aj _ (kp b o e));have lp':=lp s2.heap.objs.size nD;have loop:codeAny (model X.prog X.w) X.A (.compLoop (.DictComp kx vx [⟨tg,iter,[],0⟩] sc ps) 0 (.ref it) (.ref s2.heap.objs.size) (cN X sc N s3 (aJ H2 s2.heap.objs.size (.dT [])) fp).env) (compPost (model X.prog X.w) X.A X.xe (some (assign (.Name x px) X.env)) (λ_ s'=>SP X pins D .next s') (.ref s2.heap.objs.size) s3.heap.objs.size)
   { s3 with heap:=pushCells (s3.heap.push { cls:=.type "dict",data:=.dict #[] }) sc.names }:=by
  refine V2 (X:=cN X sc N s3 (aJ H2 s2.heap.objs.size (.dT [])) fp) rfl hc (hg _ _ _) (zv _ _ _ _) T I4 st4 F4 lp' λσ' H' s' I' k=>?_;obtain⟨m,hn,_⟩:=I'.loc;have fC:bU X pins H' s3.heap.objs.size:=I3.fpOk (ak _) I'.free;have I5:Inv X pins σ H' s':=DB I3 hex I' (qk ..);show wpAny _ X.A (assign (.Name x px) X.env (.ref s2.heap.objs.size)) _ _ s';obtain⟨c0,c1,c2,c3,c4,c5⟩:=fC;refine wpAny_assign_Name (BB (v:=V.ref s2.heap.objs.size) I5 hN hi' (.inl hx) rfl (λs'' I7 ⟨a,sb,ha⟩=>?_) (.inr hx));have hCa:s3.heap.objs.size≠a:=by
   rcases ha with z|z
   ·rw[z];exact c1
   ·exact cu (c4 x a z)
  refine⟨m,hn.sameBut sb hCa,λh' hh=>?_⟩;have I8:Inv X pins (σ.set i (some (.ref s2.heap.objs.size))) H' { s'' with heap:=h' }:=I7.turned (t':=s''.toks) (λb o hb e=>(hh.2 b hb).trans e) c0 c1 c3 c4 c5;exact⟨_,_,I8,k⟩
 subst hs3;exact codeAny_compStart_dict loop (T.self _ 0 _ _ _ st4 loop)
end
end L2
namespace SR
open PySem PySem.Spec PySem.W PyProof.Rows SM
def DcO (h:ck) (d:ah) (es:Array DictEntry) (ep:Nat):Prop:=∃o,h.get? d=some o/\o.ExactDict/\o.data=.dict es ep
def qW (d:ah) (i n ep:Nat):Obj:={ cls:=.type "dict_keyiterator",data:=.fields #[.ref d,rawInt i,rawInt n,rawInt ep] }
section
variable{prog:bg}{w:cf}{A:bp}{E:ae->af->Prop}{s:af}{d it:ah}{es:Array DictEntry}{ep:Nat}
theorem DcO.at' {h h':ck}(D:DcO h d es ep) (k:∀o,h.get? d=some o->h'.get? d=some o):DcO h' d es ep:=let ⟨o,a,b⟩:=D;⟨o,k o a,b⟩
theorem DcO.ty (D:DcO s.heap d es ep):s.TypeIs (.ref d) "dict" := let ⟨o,a,b,_⟩:=D;⟨o,a,b.1⟩
theorem DcO.lt {h:ck}(D:DcO h d es ep):d<h.objs.size:=let ⟨o,a,_⟩:=D;ao a
theorem HP {i:Nat}{Q:Option ae->af->Prop}(hh:A.handled=none) (D:DcO s.heap d es ep) (hit:s.heap.get? it=some (qW d i es.size ep))
  (go:∀e h',es[i]?=some e->h'.get? it=some (qW d (i+1) es.size ep)->gg it s.heap h'->Q (some e.key) { s with heap:=h' })
  (no:∀h',es[i]?=none->ub it s.heap h'->Q none { s with heap:=h' }):wpAny (model prog w) A (pyNext (.ref it)) Q E s:=by
 have hT:s.TypeIs (.ref it) "dict_keyiterator" := ⟨_,hit,rfl⟩;have hb:(if Builtin.Dict_items.ownsTuple "dict_keyiterator" = true then 2 else 0)=0:=by decide
 have hi:(if((i:Nat):Int)<0 then none else es[((i:Nat):Int).toNat]?)=es[i]?:=by rw[if_neg (by omega),di]
 obtain⟨o,ho,hc,hd⟩:=D;unfold pyNext;refine aa (qh (fj (name:=jn "__next__") hT F.slot_dict_keyiterator_next (fq F.slot_dict_keyiterator_next hT F.entry_dict_keyiterator_next ?_ (F.args_dict_keyiterator_next_1 _))));refine aa (m:=Builtin.Dict_items.slot0 "__next__" ⟨[.ref it],[]⟩) (ai (aa (aa (aa (ou hT (ai (aa (wu hit rfl ?_))))))));rw[hb];show wpAny _ _ (Builtin.Dict_items.addrOf (.ref d) >>= _) _ _ s;refine aa (ai (aa (wpAny_dictEntries ho hd ?_)));rw[if_neg (by simp)];refine aa (ai (aa (wpAny_dictEpoch ho hd ?_)));rw[if_neg (by simp)];refine ai ?_;show wpAny _ _ (match (if((i:Nat):Int)<0 then none else es[((i:Nat):Int).toNat]?)with|some e=>_|none=>_) _ _ s;rw[hi]
 cases hx:es[i]? with
 |some e=>
  refine aa (aa (ou hT (ai (aa (wpAny_isOneOf_keyiter hT ?_)))));rw[hb];show wpAny _ _ (setField (.ref it) 1 (rawInt (((i:Nat):Int)+1)) >>= _) _ _ s;refine aa (gi hit (by simp) λh1 g1 b1=>?_);have g2:h1.get? it=some (qW d (i+1) es.size ep):=by rw[g1];rfl
  refine aa (dv (aa (wpAny_isOneOf_keyiter (s:={ s with heap:=h1 }) ⟨_,g2,rfl⟩ ?_)));show wpAny _ _ (pure e.key) _ _ _;exact ai (ai ⟨_,rfl,ai (go e h1 hx g2 b1)⟩)
 |none=>refine aa (aa (ou hT (ai ?_)));rw[hb];refine aa (m:=setField (.ref it) 0 ib) (gi hit (by simp) λh1 g1 b1=>?_);show wpAny _ _ (newExc (.type "StopIteration") [] >>= _) _ _ _;refine aa ?_;simp only[newExc,newTuple];refine aa (du ?_ (by size_fits));refine aa (m:=firstArgMember _ _) (ve (a:=ib) (by first|rfl|(simp only[firstArgMember];rfl)) ?_);refine du ?_ (by size_fits);simp only[raiseNew];refine aa (wpAny_handled ?_);rw[show A.in1.handled=none from hh];refine aa (ai (wpAny_throw ?_));refine aa (qp (T := "StopIteration") (b:=true) ⟨_,av _ rfl,rfl⟩ wo ?_);exact ai (no _ hx ((b1.extBut.push _).push _))
end
section
variable{prog:bg}{w:cf}{A:bp}{E:ae->af->Prop}{s:af}{d it:ah}{es:Array DictEntry}{ep:Nat}
theorem V4 (hh:A.handled=none) (I:ah) (hne:d≠I):
  Walks prog w A I [I,d] [I] es.size (λi v=>∃e,es[i]?=some e/\v=e.key) (λi h=>DcO h d es ep/\h.get? I=some (qW d i es.size ep)) where
 sub:=λb hb=>by rw[cy.mp hb];exact bc ..
 frame:=λi h h' ⟨p,q⟩ k=>⟨p.at' (k d (by simp)),k I (by simp) _ q⟩
 item:=λi s Q E hi ⟨p,q⟩ hQ=>HP hh p q (λe h' hx q' sb=>hQ _ h' s.toks ⟨_,hx,rfl⟩ ⟨p.at' λo e=>(sb.2 d hne).trans e,q'⟩ λb o hb e=>(sb.2 b λz=>hb (by rw[z];exact bc ..)).trans e) λh' hx _=>by rw[ey hi]at hx;cases hx
 done:=λs Q E ⟨p,q⟩ hQ=>HP hh p q (λe h' hx _ _=>by rw[jl (ak _)]at hx;cases hx) λh' _ x=>hQ h' s.toks λb o hb e=>x b o (λz=>hb (by rw[z];exact bc ..)) e
 self:=λi s Q E ⟨_,q⟩ hQ=>wpAny_pyIter_keyiter (d:=d) (i:=i) (n:=es.size) (ep:=ep) ⟨_,q,rfl,rfl⟩ hQ
theorem V5 {Q:ae->af->Prop}(lo:(d==sysModules)=false) (D:DcO s.heap d es ep) (h:Q (.ref s.heap.objs.size) { s with heap:=s.heap.push (qW d 0 es.size ep) }):wpAny (model prog w) A (pyIter (.ref d)) Q E s:=by obtain⟨o,ho,hc,hd⟩:=id D;refine uk D.ty F.slot_dict_iter (fq F.slot_dict_iter D.ty F.entry_dict_iter ?_ (F.args_dict_iter_1 _));show wpAny _ _ ((Builtin.Dict.notOrdered "__iter__" ⟨[.ref d],[]⟩ >>= _) >>= _) _ _ s;refine aa (aa (wpAny_notOrdered_dict D.ty (ai (aa (m:=Builtin.Dict.addrOf (.ref d)) (ai (aa ?_))))));unfold Builtin.Dict.showsAll;rw[lo,if_neg gu];exact ai (aa (wpAny_dictEntries ho hd (aa (wpAny_dictEpoch ho hd (aa (du (ai ⟨_,rfl,"dict_keyiterator",_,⟨_,av _ rfl,rfl⟩,F.slot_dict_keyiterator_next.lookup,h⟩)))))))
theorem V6 (lo:(d==sysModules)=false):KdlSrc prog w "dict" d d es.size (λi v=>∃e,es[i]?=some e/\v=e.key) (λh=>DcO h d es ep) where
 type:=λ_ hm=>hm.ty
 there:=λ_ hm=>⟨hm.lt,hm.lt⟩
 keep:=λ_ _ hm hk=>hm.at' λo e=>hk d (.inl rfl) o e
 notList:=by decide
 notTuple:=by decide
 hint:=λ_ _ _ _ hm hq=>kdl_hint_dict hm.ty hq
 iter:=λ_ _ hh hm=>⟨_,_,(λ_ _ hq=>V5 lo hm hq),V4 (ep:=ep) hh _ (aw hm.lt),⟨hm.at' λo e=>aj _ e,av _ rfl⟩⟩
theorem V7 {Q:List ae->af->Prop}(hh:A.handled=none) (lo:(d==sysModules)=false) (D:DcO s.heap d es ep) (hn:es.size<=bo)
  (q:∀(h':ck) (tk:Nat),(∀b o,s.heap.get? b=some o->h'.get? b=some o)->s.heap.objs.size<=h'.objs.size->Q (es.toList.map (·.key)) { s with heap:=h',toks:=tk }):wpAny (model prog w) A (collect (.ref d)) Q E s:=by
 have la:d<s.heap.objs.size:=D.lt;have up1:∀b o,s.heap.get? b=some o->(s.heap.push (seqObj "list" #[] 0)).get? b=some o:=λb o e=>aj _ e;have hS1:(s.heap.push (seqObj "list" #[] 0)).get? s.heap.objs.size=some (seqObj "list" #[] 0):=av _ rfl;unfold collect;refine aa (wx (jz entry_proto_collect' ?_));rw[jd F.plain_proto_collect _];refine aa (m:=newList []) (tw (ai ⟨rj _ (by decide +kernel),jz entry_list_iadd' ?_⟩));rw[jd F.plain_list_iadd _];refine je (kdl_extend (A:=A) (s:={ s with heap:=s.heap.push (seqObj "list" #[] 0) }) (R:=λr s'=>match r with
  | .ok (.ret v)=>wpAny (model prog w) A (match v with
   | .ref a=>do
    let o <-load a
    match o.data with
    | .seq xs _=>pure xs.toList
    |_=>unsupported "internal:collect"
   |_=>unsupported "internal:collect") Q E s'
  | .ok _=>False
  | .error e=>E e s') (V6 (es:=es) (ep:=ep) lo) hh (D.at' (up1 d)) s.heap.objs.size (ig la) (ig la) (.ref s.heap.objs.size) 0 hS1 (λh' tk acc c ke hS' ia=>?_) hn) (λfin s' z=>by cases fin <;> exact z) λ_ _ z=>z
 show wpAny _ A (load s.heap.objs.size >>= _) _ _ _;refine aa (wpAny_load hS' (ai ?_));have eacc:acc.toList=es.toList.map (·.key):=by
  apply mj
  intro i;rw[gz,dz,gz]
  cases q:acc[i]? with
  |some v=>obtain⟨x,h1,h2⟩:=ia.2 i v q;rw[h1,h2];rfl
  |none=>have h1:acc.size<=i:=um.mp q;rw[jl (by rw[<-ia.1];exact h1)];rfl
 rw[eacc];exact q h' tk (λb o e=>ke b o (aw (ao e)) (up1 b o e)) (fv (ao hS'))
end
end SR
namespace L2.Mr
open PySem PySem.Spec PyProof.Rows SR
def fM (ks:xr) (k:xu):xr:=if k∈ks then ks else ks++[k]
abbrev KD (H:Hp) (ks:xr) (xs:List (List cB×ah×ae)):Prop:=Paired (λ(p:List cB×V) (q:List cB×ah×ae)=>p.1=q.1/\H q.2.1=some (.tup (p.1.map kV))/\RelV p.2 q.2.2) (cK ks) xs
theorem zM (k:xu):(k.map iu:List cB).map kV=k.map V.int:=by rw[om];rfl
theorem inl_inj {k j:xu}:(k.map iu:List cB)=j.map iu↔k=j:=⟨λh=>(List.map_inj_right λa b e=>Sum.inl.inj e).mp h,λh=>by rw[h]⟩
theorem KD.at_ {H:Hp}{k:xu}:∀{ks:xr}{xs:List (List cB×ah×ae)},KD H ks xs->(atKey xs (k.map iu)).isSome=decide (k∈ks)
 | [],_,r=>by cases r;rfl
 |j::ks,_,r=>by
  cases r with
  | @cons p q _ qs h t=>
   have ih:=KD.at_ (k:=k) (ks:=ks) t;have e:q.1=j.map iu:=h.1.symm
   by_cases z:j=k
   ·subst z;simp[atKey,List.find?_cons,e]
   ·have z':¬ q.1=k.map iu:=λw=>z (inl_inj.mp (e.symm.trans w));have b:atKey (q::qs) (k.map iu)=atKey qs (k.map iu):=by simp[atKey,List.find?_cons,z']
    rw[b,ih];have z2:¬ k=j:=λw=>z w.symm;simp[z2]
theorem KD.repl {H:Hp}{k:List cB}:∀{ks:xr}{xs:List (List cB×ah×ae)},KD H ks xs->KD H ks (xs.map (putAt k (.bool true)))
 | [],_,r=>by cases r;exact .nil
 |j::ks,_,r=>by
  cases r with
  | @cons p q _ qs h t=>
   refine .cons ?_ (KD.repl (ks:=ks) t);obtain⟨h1,h2,h3⟩:=h;unfold putAt
   split
   ·exact⟨h1,h2,rfl⟩
   ·exact⟨h1,h2,h3⟩
theorem KD.snoc {H:Hp}{k:xu}{b:ah}(hb:H b=some (.tup (k.map V.int))):∀{ks:xr}{xs:List (List cB×ah×ae)},KD H ks xs->KD H (ks++[k]) (xs++[(k.map iu,b,.bool true)])
 | [],_,r=>by cases r;exact .cons ⟨rfl,by rw[zM];exact hb,rfl⟩ .nil
 |j::ks,_,r=>by
  cases r with
  |cons h t=>exact .cons h (KD.snoc hb (ks:=ks) t)
theorem KD.put {H:Hp}{k:xu}{b:ah}{ks:xr}{xs:List (List cB×ah×ae)}(r:KD H ks xs) (hb:H b=some (.tup (k.map V.int))):KD H (fM ks k) (storedH xs (k.map iu) b (.bool true)):=by
 unfold fM storedH;rw[r.at_]
 by_cases h:k∈ks
 ·rw[if_pos h,if_pos (by simpa using h)];exact r.repl
 ·rw[if_neg h,if_neg (by simpa using h)];exact r.snoc hb
theorem KD.keeps {H H':Hp}{ks:xr}{xs:List (List cB×ah×ae)}(r:KD H ks xs) (ht:∀b ys,H b=some (.tup ys)->H' b=some (.tup ys)):KD H' ks xs:=Paired.mapP r λ_ _ z=>⟨z.1,ht _ _ z.2.1,z.2.2⟩
theorem KD.tups {H:Hp}:∀{ks:xr}{xs:List (List cB×ah×ae)},KD H ks xs->yj H (xs.map λq=>V.ref q.2.1) ks
 | [],_,r=>by cases r;trivial
 |j::ks,_,r=>by
  cases r with
  | @cons p q _ qs h t=>refine⟨⟨q.2.1,rfl, ?_⟩,KD.tups (ks:=ks) t⟩;have:=h.2.1;rw[<-zM];exact this
theorem KD.len {H:Hp}{ks:xr}{xs:List (List cB×ah×ae)}(r:KD H ks xs):xs.length=ks.length:=by have:=r.tups.len;simpa using this
theorem V8 (ks:xr) (k:xu):(fM ks k).length<=ks.length+1:=by unfold fM;split <;> simp
section
variable{X:Cx}{pins:List (ah×Obj)}{σ:St}{H:Hp}{s:af}{a b:ah}{ks:xr}{k:xu}{A:bp}{E:ae->af->Prop}
theorem uM (I:Inv X pins σ H s) (e:H b=some (.tup (k.map V.int))):(tupleKind (jG X.prog X.w)).is s.heap (k.map iu) b:=by
 obtain⟨_,its,r,o,h1,h2,_,n,h3⟩:=(show yi X.prog X.w H s.heap b (.tup (k.map V.int)) from I.hok b _ e)
 refine⟨o,its.toArray,n,h1,h2,h3, ?_⟩;have all:∀{k:xu}{us:List ae},yg (k.map V.int) us->ItemsAre (jG X.prog X.w) (k.map iu) us:=by
  intro k
  induction k with
  |nil=>intro us r;cases r;exact .nil
  |cons i k ih=>
   intro us r
   cases r with
   |cons h t=>obtain⟨tt,rfl⟩:=h;exact .cons (KL X.prog X.w i tt) (ih t)
 simpa using all r
theorem uN (I:Inv X pins σ H s) (e:H a=some (.dT (cK ks))):ks.length<=bo/\(a==sysModules)=false/\∃xs,KD H ks xs/\s.heap.DictOfH (tupleKind (jG X.prog X.w)) a xs:=by
 obtain⟨z,y,xs,r,o,es,ep,h1,h2,h3,h4,h5⟩:=(show yi X.prog X.w H s.heap a (.dT (cK ks)) from I.hok a _ e)
 refine⟨by simpa[cK]using z,y,xs,r,o,es,ep,h1,h2,h3,h4,λx hx=>?_,h5⟩;have all:∀{ks:xr}{m:List (List cB×ah×ae)},KD H ks m->∀x∈m,(tupleKind (jG X.prog X.w)).is s.heap x.1 x.2.1:=by
  intro ks
  induction ks with
  |nil=>intro m q x hx;cases q;exact nomatch hx
  |cons j ks ih=>
   intro m q x hx
   cases q with
   | @cons p q _ qs hq t=>
    rcases ba.mp hx with e|hx
    ·subst e;have e1:x.1=j.map iu:=hq.1.symm;rw[e1];exact uM I (by rw[<-zM];exact hq.2.1)
    ·exact ih t x hx
 exact all r x hx
theorem V9 {Q:ae->af->Prop}(hu:A.units+1<cLine) (I:Inv X pins σ H s) (e:H a=some (.dT (cK ks))) (eb:H b=some (.tup (k.map V.int))) (h:∀s',Inv X pins σ H s'->Q (.bool (decide (k∈ks))) s'):
  wpAny (model X.prog X.w) A (compareOp .In (.ref b) (.ref a)) Q E s:=by
 obtain⟨z,hd,xs,rel,dd⟩:=uN I e;refine wpAny_in_heap (tupleKind_room_in1 hu) (uM I eb) hd dd ?_;rw[rel.at_];exact h _ (I.tok _)
theorem HQ {h':ck}{t':Nat}{xs:List (List cB×ah×ae)}(I:Inv X pins σ H s) (e:H a=some (.dT (cK ks))) (eb:H b=some (.tup (k.map V.int))) (hl:ks.length<bo) (rel:KD H ks xs) (hd:(a==sysModules)=false)
  (dd':h'.DictOfH (tupleKind (jG X.prog X.w)) a (storedH xs (k.map iu) b (.bool true))) (hs:gg a s.heap h'):Inv X pins σ (aJ H a (.dT (cK (fM ks k)))) { s with heap:=h',toks:=t' }:=by
 obtain⟨q,es,ep,hq,h2,h3,h4,_,h5⟩:=dd';refine I.write (x:=a) (e:=a) (by rw[e];exact True.intro) (.inl rfl) (λb q hb z=>(hs.2 b hb).trans z) ⟨q,hq⟩ ⟨?_,hd,_,(rel.put eb).keeps λc ys ec=>?_,q,es,ep,hq,h2,h3,h4,h5⟩
 ·have:=V8 ks k;show((fM ks k).map _).length<=_;rw[bf];omega
 ·rw[aT (jH ec e (λz=>nomatch z))];exact ec
theorem WA {Q:Unit->af->Prop}(hu:A.units+1<cLine) (I:Inv X pins σ H s) (e:H a=some (.dT (cK ks))) (eb:H b=some (.tup (k.map V.int))) (hl:ks.length<bo) (h:∀s',Inv X pins σ (aJ H a (.dT (cK (fM ks k)))) s'->Q () s'):
  wpAny (model X.prog X.w) A (setItem (.ref a) (.ref b) (.bool true)) Q E s:=by
 obtain⟨z,hd,xs,rel,dd⟩:=uN I e;exact wpAny_setItem_heap (hsz:=by rw[rel.len];exact z) (tupleKind_room_in1 hu) (uM I eb) dd λh' dd' hs=>h _ (HQ I e eb hl rel hd dd' hs)
theorem WB {Q:Unit->af->Prop}(hu:A.units<cLine) (I:Inv X pins σ H s) (e:H a=some (.dT (cK ks))) (eb:H b=some (.tup (k.map V.int))) (hl:ks.length<bo) (h:∀s',Inv X pins σ (aJ H a (.dT (cK (fM ks k)))) s'->Q () s'):
  wpAny (model X.prog X.w) A (dictSet a (.ref b) (.bool true)) Q E s:=by
 obtain⟨z,hd,xs,rel,dd⟩:=uN I e;exact wpAny_dictSet_heap (hsz:=by rw[rel.len];exact z) (knd:=tupleKind (jG X.prog X.w)) hu (uM I eb) dd λh' dd' hs=>h _ (HQ I e eb hl rel hd dd' hs)
theorem WC (rm:yv k' X.A):ym X (.builtin "sorted") (λxs H Q=>∃(a:ah) (ks:xr),xs=[.ref a]/\H a=some (.dT (cK ks))/\(∀k∈ks,k≠[])/\ks.length<64/\∀l yw,H l=none->yj H yw (fW bJ ks)->Q (.ref l) (aJ H l (.lst yw))):=by
 intro pins s σ H xs us Q I rv ⟨a,ks,e,ha,ne,h64,q⟩;subst e;obtain⟨u,rfl,ru⟩:=gR rv;cases ru;obtain⟨z,hd,xs,rel,⟨o,es,ep,h1,h2,h3,h4,h5,h6⟩⟩:=uN I ha;have ht:=rel.tups;have ekey:es.toList.map (·.key)=aX ks.length (cV (xs.map λq=>V.ref q.2.1)):=by
  rw[h4,om]
  apply tx
  ·simp[aX,rel.len]
  ·intro i hi hi';simp[aX,cV,G8,entryOfKey];have:i<xs.length:=by simpa using hi
   simp[this]
 refine zA h64 (HE I ht ne) (λQ' E' hQ=>?_) λh' tk D e out so hD ho k=>?_
 ·rw[<-ekey]at hQ;refine V7 (es:=es) (ep:=ep) rm.hd hd ⟨o,h1,h2,h3⟩ ?_ λh' tk k sz=>hQ h' tk k sz;have:es.size=xs.length:=by rw[<-iw,h4,bf]
  rw[this,rel.len];exact z
 ·obtain⟨pp,yw,g1,g2,g3,g4⟩:=zC (H:=H) so λi hi=>(ht.at_ hi).2;have e1:pp.map (λi=>ks.getD i [])=fW bJ ks:=yS zm g2 (zD g1 rfl);rw[e1]at g4;have hl:=g4.len;refine⟨.ref D,_,I.laid (t':=tk) k hD (show yi X.prog X.w _ _ _ (.lst yw) from⟨?_,out,e,g3,ho⟩),rfl,q D yw (I.hok.fresh hD) g4⟩;rw[hl,(qP ks).length_eq,gr];omega
end
def getD (h:Hs) (i:Nat):Option xr :=match h[i]? with
 |some (.dct ks)=>some ks
 |_=>none
theorem qX {h:Hs}{i:Nat}{ks:xr}(e:getD h i=some ks):h[i]?=some (.dct ks):=by
 unfold getD at e
 split at e
 ·rename_i q;rw[q];cases e;rfl
 ·cases e
section
variable{G:Cfg}{μ:Nat->ah}{h:Hs}{H H':Hp}{p:ah}{n:Nat}
theorem yn.allocD (s:yn G μ h H) (hp:H p=none) (ks:xr):
  Ext μ h.length H (λi=>if i=h.length then p else μ i) (h++[Ob.dct ks]).length (aJ H p (.dT (cK ks)))/\yn G (λi=>if i=h.length then p else μ i) (h++[.dct ks]) (aJ H p (.dT (cK ks))):=by
 have hl:(h++[Ob.dct ks]).length=h.length+1:=by simp
 have hq:=s.not hp;have x:Ext μ h.length H (λi=>if i=h.length then p else μ i) (h++[Ob.dct ks]).length (aJ H p (.dT (cK ks))):=⟨by omega,λi hi=>if_neg (aw hi),λa o _ e=>bM hp a o e⟩
 refine⟨x,λi j hi hj e=>?_,λi o q=>?_,s.tab.keep λa o _ _ q=>bM hp a o q⟩
 ·rw[hl]at hi hj
  by_cases h1:i=h.length <;> by_cases h2:j=h.length
  ·omega
  ·rw[if_pos h1,if_neg h2]at e;exact absurd e.symm (hq j (by omega))
  ·rw[if_neg h1,if_pos h2]at e;exact absurd e (hq i (by omega))
  ·rw[if_neg h1,if_neg h2]at e;exact s.inj i j (by omega) (by omega) e
 ·by_cases h1:i<h.length
  ·rw[dk h1]at q;have r1:=s.ob i o q;rw[if_neg (aw h1)]
   cases o with
   |lst xs=>obtain⟨ws,e1,r2⟩:=r1;exact⟨ws,bM hp _ _ e1,RelDL.mono x _ _ r2⟩
   |clo k t=>exact r1.clo x
   |dct ks=>exact bM hp _ _ r1
  ·rw[fh (by omega)]at q;have h2:i=h.length:=by have:=(ay.mp q).1;simp at this;omega
   subst h2;simp at q;subst q;rw[if_pos rfl];exact bO
theorem yn.writeD {i:Nat}{ks:xr}(s:yn G μ h H) (q:h[i]?=some (.dct ks)) (ks':xr):
  Ext μ h.length H μ (h.set i (.dct ks')).length (aJ H (μ i) (.dT (cK ks')))/\yn G μ (h.set i (.dct ks')) (aJ H (μ i) (.dT (cK ks'))):=by
 have e0:H (μ i)=some (.dT (cK ks)):=s.ob i _ q;have hi:i<h.length:=(ay.mp q).1;have im:∀a o,(∀kvs,o≠.dT kvs)->H a=some o->aJ H (μ i) (.dT (cK ks')) a=some o:=λa o m e=>by
  rw[aT];exact e
  rintro rfl;rw[e0]at e;cases e;exact m _ rfl
 have x:Ext μ h.length H μ (h.set i (.dct ks')).length (aJ H (μ i) (.dT (cK ks'))):=⟨by simp,λ_ _=>rfl,λa o m e=>im a o (λkvs z=>by subst z;exact m) e⟩
 refine⟨x,λa b ha hb=>?_,λj o e=>?_,λP e=>?_⟩
 ·rw[gy]at ha hb;exact s.inj a b ha hb
 ·by_cases zl:i=j
  ·subst zl;rw[cx hi]at e;cases e;exact bO
  ·rw[dw zl]at e;have hj:j<h.length:=(ay.mp e).1;have r1:=s.ob j o e;have ne:μ j≠μ i:=λz=>zl (s.inj j i hj hi z).symm
   cases o with
   |lst zs=>obtain⟨ws,e1,r2⟩:=r1;exact⟨ws,by rw[aT ne];exact e1,RelDL.mono x _ _ r2⟩
   |clo k t=>exact r1.clo x
   |dct ks=>exact(aT ne).trans r1
 ·obtain⟨ps,h1,h2,h3⟩:=s.tab P e;refine⟨ps,im P _ (λ_ z=>by cases z) h1,h2,λpos cv q=>?_⟩;obtain⟨a,oc,e1,e2,e3⟩:=h3 pos cv q;exact⟨a,oc,e1,im a _ (λ_ z=>by cases z) e2,e3⟩
end
section
variable{X:Cx}{G:Cfg}{E:XK}{k:Nat}{e a b o i kx vx tg iter:bj}{mo me mi ma mb mk mv:M Dv}{aQ:M yb }{pos p px ps:Pos}
def lN (x y:Dv) (h:Hs):Rs Dv:=match x,y with
 | .tup xs,.ref j=>match getD h j,aY dZ xs with
  |some ks,some k=>.ok (.bl (decide (k∈ks))) h
  |_,_=>.bad
 |_,_=>.bad
abbrev HR:R2:=λx y H Q=>∃a b ks k,y=.ref a/\x=.ref b/\H a=some (.dT (cK ks))/\H b=some (.tup (k.map V.int))/\Q (.bl (decide (k∈ks))) H
theorem WD (hu:X.A.units+64<cLine):zg X (compareOp .In) HR:=by
 intro pins s σ H x y v u Q I r1 r2 ⟨a,b,ks,k,e1,e2,h1,h2,q⟩;subst e1;subst e2
 cases r1;cases r2
 exact V9 (by omega) I h1 h2 λs' I'=>⟨.bl (decide (k∈ks)),H,I',rfl,q⟩
theorem WE:dW G HR lN:=by
 intro E μ h H x y vx vy Q s rx ry o;unfold lN at o
 split at o
 ·rename_i xs j
  cases q1:getD h j with
  |none=>rw[q1]at o;exact o.elim
  |some ks=>
   cases q2:aY dZ xs with
   |none=>rw[q1,q2]at o;exact o.elim
   |some k=>rw[q1,q2]at o;obtain⟨a,us,rfl,ea,ra⟩:=rx;obtain⟨_,rfl⟩:=ry;exact⟨_,a,ks,k,rfl,rfl,s.ob j _ (qX q1),by rw[ea,mH ra q2],o.val s rfl⟩
 ·exact o.elim
theorem HS (g:Good X G E k) (ha:aG X G E a ma) (hb:aG X G E b mb) (hm:behindInMarks .In b=false:=by rfl):eW X G E (.Compare a [.In] [b] pos) (mB (m2 lN ma mb)):=λhK=>pN (WD (by have:=g.room.un;omega)) WE ha hb hm hK
def mP (o i d:Dv) (h:Hs):Option Hs:=match o,i,d with
 | .ref j,.tup xs,.bl true=>match getD h j,aY dZ xs with
  |some ks,some k=>if ks.length<1000000 then some (h.set j (.dct (fM ks k)))else none
  |_,_=>none
 |_,_,_=>none
def uO (mo mi me:M Dv):MS:=λρ h=>(me ρ h).thenS λd h1=>(mo ρ h1).thenS λo h2=>(mi ρ h2).thenS λi h3=>match mP o i d h3 with
 |some h4=>.nx ρ h4
 |none=>.bad
theorem HU {μ:Nat->ah}{h h':Hs}{H:Hp}{o i d:Dv}{vo vi v:V}(s:yn G μ h H) (ro:yf G μ h.length H o vo) (ri:yf G μ h.length H i vi) (rd:yf G μ h.length H d v) (e:mP o i d h=some h'):
  ∃a b ks k,vo=.ref a/\vi=.ref b/\v=.bl true/\H a=some (.dT (cK ks))/\H b=some (.tup (k.map V.int))/\ks.length<bo/\Ext μ h.length H μ h'.length (aJ H a (.dT (cK (fM ks k))))/\yn G μ h' (aJ H a (.dT (cK (fM ks k)))):=by
 unfold mP at e
 split at e
 ·rename_i j xs
  cases q1:getD h j with
  |none=>rw[q1]at e;cases e
  |some ks=>
   cases q2:aY dZ xs with
   |none=>rw[q1,q2]at e;cases e
   |some k=>
    rw[q1,q2]at e;dsimp only at e
    split at e
    ·rename_i hl;cases e;obtain⟨_,rfl⟩:=ro;obtain⟨b,us,rfl,eb,rb⟩:=ri;rw[yf]at rd;obtain⟨x4,s4⟩:=s.writeD (qX q1) (fM ks k);exact⟨_,b,ks,k,rfl,rfl,rd,s.ob j _ (qX q1),by rw[eb,mH rb q2],by rw[gr];omega,x4,s4⟩
    ·cases e
 ·cases e
theorem WG (hu:X.A.units+64<cLine):vY X (λo i v H Q=>∃a b ks k,o=.ref a/\i=.ref b/\v=.bl true/\H a=some (.dT (cK ks))/\H b=some (.tup (k.map V.int))/\ks.length<bo/\Q (aJ H a (.dT (cK (fM ks k))))):=by
 intro pins s σ H o i v ov iv u Q I ro ri rv ⟨a,b,ks,k,e1,e2,e3,h1,h2,hl,q⟩;subst e1;subst e2;subst e3
 cases ro;cases ri;cases rv
 exact WA (by omega) I h1 h2 hl λs' I'=>⟨_,I',q⟩
theorem WH {spos:Pos}(g:Good X G E k) (ho:aG X G E o mo) (hi:aG X G E i mi) (he:aG X G E e me)
  (ha:∀v,assign (.Subscript o i spos) X.env v=(do
   let ov <-holding [v] (eval o X.env)
   let iv <-holding [v,ov] (eval i X.env)
   standAt spos
   holding [v,ov,iv] (setItem ov iv v)
   release [v,ov,iv] []):=by intro _;rfl)
  (hs:swapsWithSole [.Subscript o i spos] e pos.line X.env=pure false:=by rfl) (hw:swappedStores [.Subscript o i spos] e X.env=pure none:=by rfl)
  (h1:(assignEach [.Subscript o i spos] X.env).map (·.2)=[assign (.Subscript o i spos) X.env]:=by rfl):fK X G E (.Assign [.Subscript o i spos] e pos) (uO mo mi me):=λhK=>
 PS.imp (rP (he hK) (BK (ho hK) (hi hK) (WG (by have:=g.room.un;omega)) ha) hs hw h1) λD σ H ⟨μ,ρ,h,rs,s,oo⟩=>iQ rs s oo λμ1 d h1 v H1 x1 yr s1 r1 o1=>iQ yr s1 o1 λμ2 ob h2 vo H2 x2 zq s2 r2 o2=>iQ zq s2 o2 λμ3 ix h3 vi H3 x3 Az s3 r3 o3=>by
  cases q:mP ob ix d h3 with
  |none=>rw[q]at o3;exact o3.elim
  |some h4=>rw[q]at o3;obtain⟨a,b,ks,k,e1,e2,e3,g1,g2,g3,x4,s4⟩:=HU s3 (yf.mono x3 _ _ r2) r3 (yf.mono (x2.trans x3) _ _ r1) q;exact⟨a,b,ks,k,e1,e2,e3,g1,g2,g3,o3 μ3 _ σ x4 s4 (Az.mono x4)⟩
def mQ (x:Dv) (h:Hs):Rs Dv:=match x with
 | .ref j=>match getD h j with
  |some ks=>if(oH ks&&decide (ks.length<64))=true then .ok (.ref h.length) (h++[.lst ((fW bJ ks).map oG)])else .bad
  |none=>.bad
 |_=>.bad
theorem WI:iB G (λx H Q=>∃(a:ah) (ks:xr),x=.ref a/\H a=some (.dT (cK ks))/\(∀k∈ks,k≠[])/\ks.length<64/\∀l yw,H l=none->yj H yw (fW bJ ks)->Q (.ref l) (aJ H l (.lst yw))) mQ:=by
 intro E μ h H x vx Q s r o
 cases x with
 |ref j=>
  dsimp only[mQ]at o
  cases q2:getD h j with
  |none=>rw[q2]at o;exact o.elim
  |some ks=>
   rw[q2]at o;dsimp only at o
   split at o
   ·rename_i h0;rw[dh]at h0;obtain⟨_,rfl⟩:=r;exact⟨_,ks,rfl,s.ob j _ (qX q2),zE h0.1,by simpa using h0.2,λl yw hl ht=>kE s (uC ht) hl o⟩
   ·exact o.elim
 |_=>exact o.elim
theorem WJ (g:Good X G E k) (hg:Gl X "sorted") (hm:X.mg "sorted" = none) (ha:cX X G E [e] aQ)
  (he:ax [e] X.env=[(false,eval e X.env)]:=by rfl):aG X G E (.Call (.Name "sorted" p) [e] [] pos) (aE (f1 mQ) aQ):=
 nI (ym.imp (WC g.room) λxs H Q ⟨v,h1,a,ks,h2,h3⟩=>⟨a,ks,by rw[h1,h2],h3⟩) (nJ WI) hg hm yK ha (by decide) (by decide) he rfl
end
def qY (mk mv:M Dv) (j:Nat) (ρ:Ev) (h:Hs):Option Hs:=match mk ρ h with
 | .ok kd h1=>match mv ρ h1 with
  | .ok vd h2=>mP (.ref j) kd vd h2
  |_=>none
 |_=>none
def jW (src:Src) (st:cI) (mk mv:M Dv) (j:Nat):Nat->Nat->Ev->Hs->Option Hs
 |0,_=>λ_ h=>if src.fin h=true then some h else none
 |f+1,k=>λρ h=>match src.get k h with
  |none=>none
  |some d=>match st d ρ with
   |none=>none
   |some ρ1=>match qY mk mv j ρ1 h with
    |some h2=>jW src st mk mv j f (k+1) ρ1 h2
    |none=>none
def qZ (mi:M Src) (cap:List (Option Nat)) (st:cI) (mk mv:M Dv) (i:Nat):MS:=λρ h=>(mi ρ h).thenS λsrc h1=>match jW src st mk mv h1.length src.n 0 (iR cap ρ) (h1++[.dct []])with
 |some h2=>.nx (ρ.set i (some (.ref h1.length))) h2
 |none=>.bad
def zN (G:Cfg) (mk mv:M Dv) (D:ah):TD:=λσ H K=>∃μ ρ h h' j,yk G μ h.length H ρ σ/\yn G μ h H/\j<h.length/\μ j=D/\qY mk mv j ρ h=some h' /\
 ∀μ' H',Ext μ h.length H μ' h'.length H'->yn G μ' h' H'->yk G μ' h'.length H' ρ σ->K σ H'
section
variable{X Y:Cx}{G:Cfg}{E:XK}{k:Nat}{kx vx tg iter:bj}{mk mv:M Dv}{D:ah}{mi:M Src}{st:cI}{cap:List (Option Nat)}
theorem WK (hu:Y.A.units+64<cLine) (hk:aG Y G E0 kx mk) (hv:aG Y G E0 vx mv) (hK:Y.K=G.K):PD Y (qV kx vx D Y.env) (zN G mk mv D):=by
 intro pins s σ H K I ⟨μ,ρ,h,h',j,rs,sm,hj,eD,e,kk⟩;unfold qY at e
 cases q:mk ρ h with
 |bad=>rw[q]at e;cases e
 |ex c h1=>rw[q]at e;cases e
 |ok kd h1=>
  rw[q]at e;dsimp only at e
  cases q2:mv ρ h1 with
  |bad=>rw[q2]at e;cases e
  |ex c h2=>rw[q2]at e;cases e
  |ok vd h2=>
   rw[q2]at e;dsimp only at e;unfold qV;refine aa (aM (hk hK pins s σ H (λv H1=>∃μ1,Ext μ h.length H μ1 h1.length H1/\yn G μ1 h1 H1/\yf G μ1 h1.length H1 kd v) I ⟨μ,ρ,h,rs,sm,by rw[q];exact λμ1 H1 v x1 s1 r1=>⟨μ1,x1,s1,r1⟩⟩) λu s1 ⟨v,H1,I1,ru,μ1,x1,sm1,r1⟩=>?_);refine aa (dv (aM (hv hK pins s1 σ H1 (λv H2=>∃μ2,Ext μ1 h1.length H1 μ2 h2.length H2/\yn G μ2 h2 H2/\yf G μ2 h2.length H2 vd v) I1 ⟨μ1,ρ,h1,rs.mono x1,sm1,by rw[q2];exact λμ2 H2 v x2 s2 r2=>⟨μ2,x2,s2,r2⟩⟩) λu2 s2 ⟨v2,H2,I2,ru2,μ2,x2,sm2,r2⟩=>?_));have x12:=x1.trans x2;have ej:μ2 j=D:=(x12.mu j hj).trans eD;obtain⟨a,b,ks,k,e1,e2,e3,g1,g2,g3,x4,s4⟩:=HU (o:=.ref j) (vo:=.ref D) sm2 ⟨aq hj x12.le,by rw[ej]⟩ (yf.mono x2 _ _ r1) r2 e;cases e1;subst e2;subst e3
   cases ru;cases ru2
   exact aa (lh (dv (WB (by omega) I2 g1 g2 g3 λs' I'=>⟨σ,_,I',kk μ2 _ (x12.trans x4) s4 (rs.mono (x12.trans x4))⟩)))
theorem WL {src:Src}{J:It}{j:Nat}{μ0 μ1:Nat->ah}{n0:Nat}{h1 h':Hs}{H0 H1:Hp}{ρ:Ev}{σ:St}{K:St->Hp->Prop}
  (ok:zk G μ0 n0 H0 src J) (x0:Ext μ0 n0 H0 μ1 h1.length H1) (rs:yk G μ1 h1.length H1 ρ σ) (s1:yn G μ1 h1 H1) (hj:j<h1.length) (eD:μ1 j=D) (e:jW src st mk mv j src.n 0 ρ h1=some h')
  (k:∀μ' H' σ',Ext μ1 h1.length H1 μ' h'.length H'->yn G μ' h' H'->K σ' H'):zL J (pV G st) (zN G mk mv D) K σ H1:=by
 refine⟨λi m σ H=>∃μ2 ρ2 h2,Ext μ1 h1.length H1 μ2 h2.length H/\yk G μ2 h2.length H ρ2 σ/\yn G μ2 h2 H/\i+m=src.n/\jW src st mk mv j m i ρ2 h2=some h',⟨src.n,μ1,ρ,h1,Ext.refl,rs,s1,qg _,e⟩, ?_⟩
 rintro i m σ2 H2 ⟨μ2,ρ2,h2,x2,zq,s2,him,e2⟩
 cases m with
 |zero=>
  unfold jW at e2
  split at e2
  ·rename_i hf;cases e2;exact .inl ⟨(ok i μ2 _ H2 (x0.trans x2) s2).2 (by omega) hf,k μ2 H2 σ2 x2 s2⟩
  ·cases e2
 |succ m=>
  unfold jW at e2
  cases q:src.get i h2 with
  |none=>rw[q]at e2;cases e2
  |some d=>
   rw[q]at e2;dsimp only at e2
   cases q2:st d ρ2 with
   |none=>rw[q2]at e2;cases e2
   |some ρ3=>
    rw[q2]at e2;dsimp only at e2
    cases q3:qY mk mv j ρ3 h2 with
    |none=>rw[q3]at e2;cases e2
    |some h3=>rw[q3]at e2;obtain⟨go,yl⟩:=(ok i μ2 h2 H2 (x0.trans x2) s2).1 (by omega) d q;refine .inr ⟨go,λσ' H'=>∃μ3 ρ4 h4,Ext μ1 h1.length H1 μ3 h4.length H'/\yk G μ3 h4.length H' ρ4 σ'/\yn G μ3 h4 H'/\(i+1)+m=src.n/\jW src st mk mv j m (i+1) ρ4 h4=some h',λσ' H' z=>⟨m,jh m,z⟩,λx H' hy=>?_⟩;obtain⟨sm,rx⟩:=yl x H' hy;have xsm:Ext μ2 h2.length H2 μ2 h2.length H':=Ext.same sm;refine⟨μ2,ρ2,h2.length,d,ρ3,zq.mono xsm,rx,q2,λσ3 Az=>⟨μ2,ρ3,h2,h3,j,Az,s2.same sm,aq hj x2.le,(x2.mu j hj).trans eD,q3,λμ4 H4 x4 s4 jX=>?_⟩⟩;exact⟨μ4,ρ3,h3,(x2.trans xsm).trans x4,jX,s4,by omega,e2⟩
theorem Inv.big {pins:List (ah×Obj)}{σ:St}{H:Hp}{s:af}(I:Inv X pins σ H s):sysModules<s.heap.objs.size:=by have h:cp<s.heap.objs.size:=(I.mod.glob.keeps I.bk).lt;exact wj (by decide) h
theorem WM {i:Nat}{x:Str}{px pos ps:Pos}{sc:gn}{N:xw}(g:Good X G E k) (hN:X.N.Nodup) (hi':X.N[i]?=some x) (C:ze X sc N cap) (hi:lX X G E tg iter mi) (hg:∀s H ex,kY (cN X sc N s H ex) G tg st)
  (hkx:∀s H ex,aG (cN X sc N s H ex) G E0 kx mk) (hvx:∀s H ex,aG (cN X sc N s H ex) G E0 vx mv)
  (hx:X.env.scope.names.lookup x=some .local:=by rfl) (hsw:swapsWith (.DictComp kx vx [⟨tg,iter,[],0⟩] sc ps) (some (.Name x px)) pos.line X.env=pure true:=by rfl)
  (hs:∀x,foldedSetIterable iter X.env x=pure x:=by intro _;rfl):fK X G E (.Assign [.Name x px] (.DictComp kx vx [⟨tg,iter,[],0⟩] sc ps) pos) (qZ mi cap st mk mv i):=λhK=>
 PS.imp (V3 (ti:=zN G mk mv) hsw hN hi' hx g.calm C (λpins σ H s I=>Inv.big I) (hi hK) (λs H ex=>hg s H ex hK) (λs H ex D=>WK (Y:=cN X sc N s H ex) (by have:=g.room.un;show X.A.units+64<cLine;omega) (hkx s H ex) (hvx s H ex) hK) hs) λD σ H ⟨μ,ρ,h,rs,s,o⟩=>by
  refine⟨μ,ρ,h,rs,s,(o.thenS (R:=zk G)).mono λJ H1 ⟨μ1,src,h1,x1,s1,ok,o1⟩ p hp=>?_⟩
  cases q:jW src st mk mv h1.length src.n 0 (iR cap ρ) (h1++[.dct []])with
  |none=>rw[q]at o1;exact o1.elim
  |some h2=>
   rw[q]at o1;obtain⟨x2,s2⟩:=s1.allocD hp [];have eD:(if h1.length=h1.length then p else μ1 h1.length)=p:=if_pos rfl;refine WL (j:=h1.length) ok x2 ((DY (rs.mono x1) cap).mono x2) s2 (by simp) eD q λμ' H' σ' x3 s3=>?_;have x23:=x2.trans x3;refine o1 μ' H' _ x23 s3 ((rs.mono (x1.trans x23)).set i ⟨?_, ?_⟩)
   ·exact aq (by simp) x3.le
   ·have:=x3.mu h1.length (by simp);rw[this,eD]
end
section
variable{prog:bg}{w:cf}{A:bp}{E:ae->af->Prop}
theorem HV {I:ah}{fp wr:List ah}{n:Nat}{P:Nat->ae->Prop}{St:Nat->ck->Prop}(W:Walks prog w A I fp wr n P St):∀(m i:Nat) (s:af) (Q:List ae->af->Prop),i+m<=n->St i s.heap->
  (∀h' tk vs,vs.length=m->(∀j v,vs[j]?=some v->P (i+j) v)->St (i+m) h'->(∀b o,b∉wr->s.heap.get? b=some o->h'.get? b=some o)->Q vs { s with heap:=h',toks:=tk })->wpAny (model prog w) A (draw (.ref I) m) Q E s
 |0,i,s,Q,_,st,q=>ai (q s.heap s.toks [] rfl (λj v e=>by simp at e) st λ_ _ _ e=>e)
 |m+1,i,s,Q,h,st,q=>by
  refine aa (W.item i s _ _ (by omega) st λv h1 t1 p1 st1 k1=>?_);refine aa (dv (HV W m (i+1) { s with heap:=h1,toks:=t1 } _ (by omega) st1 λh2 t2 vs hl hp st2 k2=>ai ?_));refine q h2 t2 (v::vs) (by simp[hl]) (λj u e=>?_) (by rw[show i+(m+1)=i+1+m by omega];exact st2) λb o hb e=>k2 b o hb (k1 b o hb e)
  cases j with
  |zero=>simp at e;subst e;exact p1
  |succ j=>rw[show i+(j+1)=i+1+j by omega];exact hp j u (by simpa using e)
theorem WN {s:af}{l:ah}{items:Array ae}{targets:List (Bool×(ae->Sem Unit))}{Q:Unit->af->Prop}(hh:A.handled=none) (hl:s.heap.IsList l items) (hn:targets.length=items.size) (hstar:targets.findIdx? (·.1)=none)
  (h:∀h' tk,(∀b o,s.heap.get? b=some o->h'.get? b=some o)->wpAny (model prog w) A (assignInOrder (targets.map (·.2)) items.toList) Q E { s with heap:=h',toks:=tk }):wpAny (model prog w) A (unpack (.ref l) targets) Q E s:=by
 have lt:l<s.heap.objs.size:=by obtain⟨o,e,_⟩:=hl;exact ao e
 unfold unpack;rw[hn,hstar];refine aa (dv ?_);unfold unpackItems notIterableAtAll;refine aa (aa (vj hl.typeIs slot_list_iter.lookup (ai ?_)));simp only[bz,if_false];have W:=uh (prog:=prog) (w:=w) (A:=A) hh s.heap.objs.size l (aw lt) items;refine aa (dv (n9 hl ?_));refine aa (dv (HV W items.size 0 _ _ (by omega) ⟨⟨_,av _ rfl,rfl,rfl⟩,hl.at λo e=>aj _ e⟩ λh1 t1 vs hv hp st1 k1=>?_));rw[if_neg (by omega)];rw[qg]at st1;refine aa (dv (W.done { s with heap:=h1,toks:=t1 } _ _ st1 λh2 t2 k2=>?_));simp only[Option.isSome_none,bz,if_false];have ev:vs=items.toList:=by
  apply mj
  intro j
  cases q:vs[j]? with
  |some v=>have:=hp j v q;rw[qg]at this;rw[gz,this]
  |none=>have:=List.getElem?_eq_none_iff.mp q;rw[ql (by rw[iw];omega)]
 rw[ev];have nw:∀b o,s.heap.get? b=some o->b∉[s.heap.objs.size]:=λb o e z=>fy _ (by have:=ao e;rwa [cy.mp z]at this);exact ai (h h2 t2 λb o e=>k2 b o (nw b o e) (k1 b o (nw b o e) (aj _ e)))
end
section
variable{X:Cx}{G:Cfg}{E:XK}{e e2:bj}{es:List bj}{mo me me2:M Dv}{pos tpos apos cpos np:Pos}{y:Str}
def WO (K:ar) (n:Nat) (t:iM):TG:=λv σ H Q=>∃a xs,v=.ref a/\y9 K H a xs/\xs.length=n/\t xs σ H Q
theorem WQ {k:Nat}{t:iM}{n:Nat}(hc:X.calm=true) (h:PGs X es t) (hn:(assignEach es X.env).length=n) (Am:(assignEach es X.env).findIdx? (·.1)=none):PG X (.Tuple es k pos) (WO X.K n t):=by intro pins s σ H v u Q I r ⟨a,xs,e1,hq,hl,hw⟩;subst e1;cases r;obtain⟨its,rv,pl,hz⟩:=I.list hq;rw[assign_Tuple];refine aa (lh (WN (I.ok.hd hc) pl.isList (by rw[au,hn,<-hl,rv.length]) Am λh' tk kp=>?_));exact h pins _ σ H xs _ Q (I.kept (t':=tk) kp) (by simpa using rv) hw
def rA (n:Nat) (me:M Dv) (t:jL):MS:=λρ h=>(me ρ h).thenS λd h1=>match d with
 | .ref p=>match getL h1 p with
  |some xs=>if xs.length=n then match t xs ρ with
   |some ρ'=>.nx ρ' h1
   |none=>.bad
   else .bad
  |none=>.bad
 |_=>.bad
theorem WR {k n:Nat}{t:jL}(hc:X.calm=true) (he:aG X G E e me) (hg:pW X G es t) (hn:(assignEach es X.env).length=n:=by rfl) (Am:(assignEach es X.env).findIdx? (·.1)=none:=by rfl)
  (hs:swapsWithSole [.Tuple es k tpos] e pos.line X.env=pure false:=by rfl) (hw:swappedStores [.Tuple es k tpos] e X.env=pure none:=by rfl)
  (h1:(assignEach [.Tuple es k tpos] X.env).map (·.2)=[assign (.Tuple es k tpos) X.env]:=by rfl):fK X G E (.Assign [.Tuple es k tpos] e pos) (rA n me t):=λhK=>
 PS.imp (rP (he hK) (WQ hc (hg hK) hn Am) hs hw h1) λD σ H ⟨μ,ρ,h,rs,s,o⟩=>iQ rs s o λμ1 d h1 v H1 x1 yr s1 r1 o1=>by
  cases d with
  |ref p=>
   dsimp only at o1
   cases q:getL h1 p with
   |none=>rw[q]at o1;exact o1.elim
   |some xs=>
    rw[q]at o1;dsimp only at o1
    split at o1
    ·rename_i hl
     cases q2:t xs ρ with
     |none=>rw[q2]at o1;exact o1.elim
     |some ρ'=>rw[q2]at o1;obtain⟨vs,ea,ra⟩:=s1.ob p _ (cE q);obtain⟨_,rfl⟩:=r1;exact⟨_,vs,rfl,y9.of ea,by rw[ra.length];exact hl,μ1,ρ,h1.length,xs,ρ',yr,ra,q2,λσ' rs'=>o1 μ1 H1 σ' Ext.refl s1 rs'⟩
    ·exact o1.elim
  |_=>exact o1.elim
def eR {α:Type}(xs:List α) (k:Nat) (y:α):List α:=xs.take k++y::xs.drop k
theorem HW:∀{xs:List V}{us:List ae}{y:V}{u:ae}(k:Nat),yg xs us->RelV y u->yg (eR xs k y) (eR us k u)
 |_,_,_,_,0,r,ry=>.cons ry (by simpa using r)
 |_,_,_,_,k+1,.nil,ry=>.cons ry .nil
 |_,_,_,_,k+1,.cons h t,ry=>.cons h (HW k t ry)
theorem WS {μ:Nat->ah}{n:Nat}{H:Hp}{ds:yb}{vs:List V}{d:Dv}{v:V}(k:Nat) (r:RelDL G μ n H ds vs) (rd:yf G μ n H d v):RelDL G μ n H (eR ds k d) (eR vs k v):=(r.take k).append (RelDL.cons rd (r.drop k))
theorem WT:CI X "list.insert" (λx vs H Q=>∃(l:ah) (xs:List V) (k:Nat) (y:V),x=.ref l/\vs=[.int k,y]/\H l=some (.lst xs)/\k<=xs.length/\xs.length<1000000/\Q .non (aJ H l (.lst (eR xs k y)))):=by
 intro pins s σ H x vs v us Q I rx rv ⟨l,xs,k,y,e1,e2,hH,hk,hl,q⟩;subst e1;subst e2;cases rx
 cases rv with
 |cons r1 rv=>
  cases rv with
  |cons r2 rv=>
   cases rv;obtain⟨t,rfl⟩:=r1;rename_i u;obtain⟨z,its,n,r,hln,e⟩:=I.lstM hH;have hf:rn ((k:Nat):Int)=true:=fitsIndex_both (by omega) (by omega);have hsz:its.toArray.size<=bo:=by rw[au,<-hln];exact z
   have hc0:¬(!rn ((k:Nat):Int))=true:=by rw[hf];simp
   generalize hki:((k:Nat):Int)=ki at hc0;have M:=PySem.AutoSeq1.list_insert_list_int_val_1 l its.toArray n ki t u hc0 hsz;refine u9 uq ⟨_,e,rfl⟩ PySem.F.entry_list_insert (PySem.F.args_list_insert_3 _ _ _) M ⟨e, ?_⟩;refine⟨.non,_,I.lset (its':=eR its k u) hH e ?_ (HW k r r2) ?_,rfl,q⟩
   ·show(its.toArray.extract 0 (if ki<0 then _ else min ki.toNat its.toArray.size)).push u++its.toArray.extract (if ki<0 then _ else min ki.toNat its.toArray.size)=_;rw[if_neg (by omega),<-hki,di,au,Nat.min_eq_left (by omega)]
    apply Array.ext'
    simp[eR];exact md (by simp)
   ·unfold eR;rw[gr];simp;omega
def uP (x i d:Dv) (h:Hs):Rs Dv:=match x,i with
 | .ref j,.int n=>match getL h j with
  |some xs=>if 0<=n/\n<=xs.length/\xs.length<1000000 then .ok .non (h.set j (.lst (eR xs n.toNat d)))else .bad
  |none=>.bad
 |_,_=>.bad
def rB (mo me me2:M Dv):M Dv:=λρ h=>(mo ρ h).bind λx h1=>if gX x h1=true then(me ρ h1).bind λi h2=>(me2 ρ h2).bind λd h3=>uP x i d h3 else .bad
theorem WU (ho:aG X G E (.Name y np) mo) (he:aG X G E e me) (Ag:aG X G E e2 me2) (hs:ax [e,e2] X.env=[(false,eval e X.env),(false,eval e2 X.env)]:=by rfl) (hs2:ax [e2] X.env=[(false,eval e2 X.env)]:=by rfl) (hl:(apos.endLine==cpos.line)=true:=by rfl):
  aG X G E (.Call (.Attribute (.Name y np) "insert" apos) [e,e2] [] cpos) (rB mo me me2):=λhK=>
 PE.imp (rX kq uq PySem.F.type_list_insert WT (ho hK) (eS (he hK) (eS (Ag hK) gS hs2) (by rw[hs,hs2])) rfl (by rw[hs];rfl) hl (by rw[hs,hs2]) (by rw[hs2];rfl)) λσ H Q ⟨μ,ρ,h,rs,s,oo⟩=>cY rs s oo λμ1 x h1 vx H1 x1 yr s1 r1 o1=>by
  split at o1
  ·rename_i hl;refine⟨sY s1 r1 hl,cY yr s1 o1 λμ2 d h2 vd H2 x2 zq s2 r2 o2=>cY zq s2 o2 λμ3 d3 h3 vd3 H3 x3 Az s3 r3 o3=>?_⟩;unfold uP at o3
   split at o3
   ·rename_i j n
    cases q:getL h3 j with
    |none=>rw[q]at o3;exact o3.elim
    |some xs=>
     rw[q]at o3;dsimp only at o3
     split at o3
     ·rename_i hz;obtain⟨vs,ea,ra⟩:=s3.ob j _ (cE q);obtain⟨_,rfl⟩:=yf.mono (x2.trans x3) _ _ r1;rw[yf]at r2;subst r2;obtain⟨x4,s4⟩:=s3.write (cE q) (WS n.toNat ra r3);exact⟨_,vs,n.toNat,vd3,rfl,by rw[Int.toNat_of_nonneg hz.1],ea,by rw[ra.length];omega,by rw[ra.length];exact hz.2.2,o3 μ3 _ _ x4 s4 rfl⟩
     ·exact o3.elim
   ·exact o3.elim
  ·exact o1.elim
end
end L2.Mr
namespace L2.Mr.K02
open PySem PySem.Spec PyProof.Rows L2 L2.Mr
open L2.Mr.Com
def tblV:List (Nat×Bool):=[(1,true),(2,true),(3,true)]
def tbl0:List (Nat×Bool):=[(1,false),(2,false),(3,false)]
def tbl1:List (Nat×Bool):=[(1,true),(2,false),(3,false)]
def tbl2:List (Nat×Bool):=[(1,false),(2,true),(3,false)]
def tbl3:List (Nat×Bool):=[(1,false),(2,false),(3,true)]
def tbl4:List (Nat×Bool):=[(1,false),(2,false),(3,false)]
def tbl5:List (Nat×Bool):=[(1,false),(2,false),(3,false)]
def tbl6:List (Nat×Bool):=[(1,false),(2,false),(3,false)]
def tbl7:List (Nat×Bool):=[(1,false),(2,false),(3,false)]
def tbl8:List (Nat×Bool):=[(1,false),(2,false),(3,false)]
def tbl9:List (Nat×Bool):=[(1,false),(2,false),(3,false)]
def tbl10:List (Nat×Bool):=[(1,false),(2,false),(3,false)]
def zO:MS:=(aV (dQ (bN (aE F_qj (aA (aB 0) (aA (aB 1) (aA (aB 2) aC)))))) (sX 1 [1,2]) bC)
def F_qe:ya:=bA 3 3 (zO)
def HX:MS:=(aS (mL mD (dY (cO cZ (aB 1)) [none,some 0] (aH 0) kF (dO (aE F_qr (aA (aB 1) (aA (aB 0) aC)))))))
def F_qm:ya:=bA 2 2 (HX)
def HY:MS:=(aS (mL pY (dY (cO cZ (aB 0)) [none,none] (eY 2 (bP (aH 0) (bP (aH 1) eK))) kF (dO (m2 bZ (aB 0) (aB 1))))))
def F_qn:ya:=bA 1 1 (HY)
def zP:MS:=(aK (qZ (cO cZ (aB 1)) [none] (aH 0) (aB 0) (mC (.bl true)) 2) (aK (eZ (aQ dN (aA (aB 0) aC)) (aH 3) (eZ (aQ dN (aA (aB 0) aC)) (aH 4) (eZ (aQ dN (aA (aB 0) aC)) (aH 5) (aV (gU (mB (m2 lN (bD (aA (aB 4) (aA (aB 3) aC))) (aB 2))) (mB (m2 lN (bD (aA (aB 3) (aA (aB 5) aC))) (aB 2)))) (uO (aB 2) (bD (aA (aB 4) (aA (aB 5) aC))) (mC (.bl true))) bC)))) (aS (aE (f1 mQ) (aA (aB 2) aC)))))
def F_qa:ya:=bA 2 6 (zP)
def WV:MS:=(aK (dD (aE F_qe (aA (aB 0) (aA (mC (.int 1)) (aA (mC (.int 6)) aC))))) (aK (aV (fI (dQ (bN (m1 (aR fT) (aB 1)))) (dQ (bN (aE F_qm (aA (aB 0) (aA (aB 1) aC)))))) (iT 2 (aA (mC (.str "this is no list of tuples of two things")) aC)) bC) (aK (aN (aE F_qa (aA (aB 0) (aA (aB 1) aC))) (aH 2)) (aK (aV (bN (aE F_qn (aA (aB 2) aC))) (iT 3 (aA (mC (.str "the pairs lead from a thing to itself")) aC)) bC) (aS (bD (aA (aB 0) (aA (aE (f1 gE) (aA (aB 2) aC)) aC))))))))
def F_qq:ya:=bA 2 3 (WV)
def gN:MS:=(aK (aN (aO (aA (m1 (aR (cT none tbl0)) (aB 1)) (aA (m1 (aR (cT none tbl1)) (aB 1)) (aA (m1 (aR (cT none tbl2)) (aB 1)) aC)))) (aH 3)) (aK (aN (m2 bR (aB 3) (aO (aA (m1 (aR (cT none tbl3)) (aB 1)) (aA (m1 (aR (cT none tbl4)) (aB 1)) (aA (m1 (aR (cT none tbl5)) (aB 1)) aC))))) (aH 3)) (aK (aN (m2 bR (aB 3) (aO (aA (m1 (aR (cT none tbl6)) (aB 1)) (aA (m1 (aR (cT none tbl7)) (aB 1)) (aA (m1 (aR (cT none tbl8)) (aB 1)) aC))))) (aH 3)) (aK (aN (m2 bR (aB 3) (aO (aA (m1 (aR (cT none tbl9)) (aB 1)) (aA (m1 (aR (cT none tbl10)) (aB 1)) aC)))) (aH 3)) (aK (aV (dQ (bN (m1 (aR (cT none tblV)) (aB 1)))) (aS (mC .non)) bC) (aS (iS (dY (aQ dN (aA (mC (.int 11)) aC)) [none,some 3] (aH 0) (bN (m2 cA (aB 1) (aB 0))) (dO (aB 0))))))))))
def zQ:MS:=(aK (aN (aE F_qb (aA (aB 0) (aA (aE (f1 kP) (aA (aB 1) aC)) aC))) (aH 2)) (aK (aN (aO aC) (aH 3)) (aK (eZ (aQ dN (aA (aE F_ql (aA (aB 0) (aA (mC (.int 10)) aC))) aC)) (aH 4) (aK (rA 2 (aE (f1 lL) (aA (aO (aA (aE F_ql (aA (aB 0) (aA (aB 1) aC))) (aA (aE F_ql (aA (aB 0) (aA (aB 1) aC))) aC))) aC)) (bP (aH 5) (bP (aH 6) eK))) (aV (fI (mB (m2 kN (aB 5) (aB 6))) (mB (m2 bZ (aE F_ql (aA (aB 0) (aA (mC (.int 9)) aC))) (mC (.int 0))))) (dD (lB (aB 3) (bD (aA (m2 cA (aB 2) (aB 5)) (aA (m2 cA (aB 2) (aB 6)) aC))))) bC))) (aK (aV (gU (mB (m2 bV (aB 3) (aO aC))) (mB (m2 bZ (aE F_ql (aA (aB 0) (aA (mC (.int 3)) aC))) (mC (.int 0))))) (aK (aN (m2 cA (aB 3) (aE F_ql (aA (aB 0) (aA (aE (f1 dP) (aA (aB 3) aC)) aC)))) (eY 2 (bP (aH 7) (bP (aH 8) eK)))) (dD (rB (aB 3) (aE F_ql (aA (aB 0) (aA (m2 bR (aE (f1 dP) (aA (aB 3) aC)) (mC (.int 1))) aC))) (m2 cA (aO (aA (bD (aA (aB 8) (aA (aB 7) aC))) (aA (bD (aA (aB 7) (aA (aB 8) aC))) aC))) (aE F_ql (aA (aB 0) (aA (mC (.int 2)) aC))))))) bC) (aS (aB 3))))))
def F_qg:ya:=bA 2 9 (zQ)
def uQ:M Dv:=(aE F_qq (aA (aB 0) (aA (aB 1) aC)))
def uR:M Dv:=(aE F_qq (aA (aB 0) (aA (aB 1) aC)))
def uS:M Dv:=(aE F_qq (aA (aB 0) (aA (aB 1) aC)))
def uT (scr:xu):MS:=(aK (aN (aE (F_qh scr) (aA (aB 0) (aA (aB 1) aC))) (aH 2)) (aK (aN (m2 bR (mC (.int 1)) (aE F_ql (aA (aB 2) (aA (mC (.int 6)) aC)))) (aH 3)) (aK (aN (aE F_qg (aA (aB 2) (aA (aB 3) aC))) (aH 4)) (aK (aN (aE (f1 fU) (aA (aB 4) aC)) (aH 5)) (aK (aN (aE F_qf (aA (aB 4) aC)) (aH 6)) (aK (aV (mB (m2 bV (iS (dY (cO cZ (aB 6)) [none,none] (eY 2 (bP (aH 0) (bP (aH 1) eK))) (mB (m2 bZ (aB 0) (aB 1))) (dO (mC (.int 1))))) (aO aC))) (aV (mB (m2 bV (iE [3,5] 4 11 gN uQ) (aO (aA (mC (.int 3)) aC)))) (aS (mC (.bl false))) bC) (aV (dQ (bN (aE (F_qk 6) (aA (aE F_qq (aA (aB 3) (aA (aB 5) aC))) (aA (bD (aA (aB 3) (aA (aE (f1 gE) (aA (aB 6) aC)) aC))) aC))))) (aS (mC (.bl false))) bC)) (aK (aV (mB (m2 bV (aB 5) (aB 4))) (aS (mC (.bl false))) bC) (aK (aN (aE F_ql (aA (aB 2) (aA (m2 bR (aE (f1 dP) (aA (aB 4) aC)) (mC (.int 1))) aC))) (aH 7)) (aK (aN (m2 cA (aO (aA (bD (aA (mC (.int 0)) (aA (aB 3) aC))) (aA (bD (aA (m1 jQ (mC (.int 1))) (aA (mC (.int 0)) aC))) (aA (bD (aA (mC (.int 0)) (aA (mC (.bl true)) aC))) (aA (bD (aA (mC (.int 0)) aC)) (aA (bD (aA (mC (.int 0)) (aA (mC (.int 0)) (aA (mC (.int 0)) aC)))) (aA (aO (aA (mC (.int 0)) (aA (mC (.int 0)) aC))) (aA (mC .non) (aA (mC (.int 0)) (aA (mC (.str "00")) (aA (bD (aA (mC .non) (aA (mC (.int 0)) aC))) aC))))))))))) (aE F_ql (aA (aB 2) (aA (mC (.int 10)) aC)))) (aH 8)) (aK (aN (m2 cA (aO (aA (mC (.int 0)) (aA (mC (.int 7)) (aA (m1 jQ (mC (.int 1))) (aA (mC (.bl true)) (aA (mC .non) (aA (mC (.str "2")) (aA (bD (aA (mC (.int 2)) aC)) (aA (m2 iX (mC (.int 10)) (mC (.int 29))) aC))))))))) (aE F_ql (aA (aB 2) (aA (mC (.int 8)) aC)))) (aH 9)) (aK (aN (aO (aA (aE (f1 gE) (aA (aB 4) aC)) (aA (mC .non) (aA (mC .edc) (aA (mC (.int 3)) (aA (m2 bR (m2 bR (jC (aB 4) iU (iV (aB 7))) (aO (aA (aB 8) aC))) (jC (aB 4) (iV (aB 7)) iU)) (aA (m2 bR (m2 bR (jC (aB 4) iU (iV (aB 7))) (aO (aA (aB 8) aC))) (jC (aB 4) (iV (aB 7)) iU)) aC))))))) (aH 10)) (aK (aN (m2 cA (aB 10) (aE F_ql (aA (aB 2) (aA (mC (.int 6)) aC)))) (aH 10)) (aK (aV (mB (m2 bV (iE [3,10] 4 11 gN uR) (aO (aA (mC (.int 2)) aC)))) (aS (mC (.bl false))) bC) (aV (mB (m2 bV (iE [9,10] 4 11 gN uS) (aO (aA (mC (.int 1)) aC)))) (aS (mC (.bl false))) bC))))))))))))))
def HZ (scr:xu):MS:=(eZ (aQ dN (aA (aE nK (aA (mC (.int 1)) (aA (aE nL (aA (aE (f1 (gD scr)) (aA (aB 0) aC)) (aA (mC (.int 10)) aC))) aC))) aC)) (aH 1) (uT scr))
def WW:MS:=(aS (mC (.bl true)))
def uU (scr:xu):MS:=(aK (HZ scr) (WW))
def F_qs (scr:xu):ya:=bA 1 11 (uU scr)
end L2.Mr.K02
namespace L2.Mr
open PySem PySem.Spec PyProof.Rows L2
section
variable{X:Cx}{G:Cfg}{E:XK}{e:bj}{me:M Dv}{pos pos':Pos}{i:Nat}{x:Str}
theorem dF (hN:X.N.Nodup) (hi:X.N[i]?=some x:=by rfl) (hx:kU X.env.scope x:=by first|exact .inl rfl|exact .inr rfl) (hf:X.fn x=true∨X.env.scope.names.lookup x=some .local:=by first|exact .inl rfl|exact .inr rfl|assumption):kY X G (.Name x pos) (aH i):=P6 hN hi hx hf
theorem cQ (hN:X.N.Nodup) (he:aG X G E e me) (hi:X.N[i]?=some x:=by rfl) (hx:kU X.env.scope x:=by first|exact .inl rfl|exact .inr rfl) (hs:swapsWith e (some (.Name x pos')) pos.line X.env=pure false:=by rfl) (hf:X.fn x=true∨X.env.scope.names.lookup x=some .local:=by first|exact .inl rfl|exact .inr rfl|assumption):fK X G E (.Assign [.Name x pos'] e pos) (aN me (aH i)):=QA hN hi hx he hs hf
theorem lO {sc os:gn}{oN N:xw}{cap:List (Option Nat)}(hs:X.env.scope.names=os.names:=by rfl) (hN:X.N=oN:=by rfl) (h1:sc.kind=.function:=by rfl) (h2:∀p∈sc.names,p.2=.local->sc.names.lookup p.1=some .local:=by decide +kernel) (h3:cap.length=N.length:=by rfl)
  (h4:∀p∈sc.names,p.2=.free->os.names.lookup p.1=some .cell∨os.names.lookup p.1=some .free:=by decide +kernel) (h5:∀p∈sc.names,p.2=.free->(p.1,dg)∉sc.names:=by decide +kernel) (h6:∀q∈cap.zip N,∀j∈q.1,oN[j]?=some q.2/\sc.names.lookup q.2=some .free:=by decide +kernel):ze X sc N cap:=SD hs hN h1 h2 h3 h4 h5 h6
end
theorem eF {N P:xw}{sc:gn}(h1:sc.kind=.function:=by rfl) (h2:sc.isCoroutine=false:=by rfl) (h3:sc.isGenerator=false:=by rfl) (h4:N.Nodup:=by decide +kernel) (h5:N.take P.length=P:=by rfl) (h6:∀x∈P,sc.names.lookup x=some .local∨sc.names.lookup x=some .cell:=by decide +kernel) (h7:∀y∈sc.names,y.2≠.free:=by decide +kernel):yh N P sc:=⟨h1,h2,h3,h4,h5,h6,h7⟩
theorem bX {k:Nat}{f:ah}{X:Cx}{G:Cfg}{E:XK}{F:ya}{ps:xw}{fd:cg}{x:Str}{p pos:Pos}{e:bj}{es:List bj}{ms:M yb }{j:Nat}(g:Good X G E k) (Fn:yu X.prog X.w X.K X.mg X.base (bE X.prog X.w X.base) j f fd ps (cS G F))
  (hm:X.mg x=some (.ref f)) (hk:jt X.K (.ref f)=true) (hb:Binds X.K fd ps []) (ha:cX X G E (e::es) ms) (hj:j<=k:=by decide) (hg:Gl X x:=by exact rfl)
  (Ao:(x==("__debug__" : Str))=false:=by decide) (he:ax (e::es) X.env=(false,eval e X.env)::ax es X.env:=by rfl) (zh:(backTo pos (ax es X.env)).any (·.1)=false:=by rfl):
  aG X G E (.Call (.Name x p) (e::es) [] pos) (aE F ms):=EH g Fn hj hg hm hk hb ha Ao he zh
open PySem.W in
theorem eG {F:List (Frag->Bool)}{K:Frag}{l m:List (Option cg)}(hf:l=m) (hc:F.all (λf=>f K)=true) (f:ah) (st:ja) (n:Str) (c:ah) (ps:xw) (i j k:Nat)
  (hb:∀(kV doc pm:ae) (an:Option ah) (cdv ct:ae) (us:List ae),us.length=ps.length->bindArgs (fnOf n n (kX st) (hY st) (aU st) .none kV doc pm an cdv ct) ⟨us,[]⟩=pure (ps.zip us))
  (h1:l[i]?=some (dC K f):=by rfl) (h2:m[i]?=some (some (fnOf n n (kX st) (hY st) (aU st) .none .none .none .none none (.ref c) .none)):=by rfl) (h3:F[j]?=some (codeIn · (.ref c) n):=by rfl) (h4:F[k]?=some (keepIn · (.ref f)):=by rfl):
  ∃fd:cg,zu K n n st f fd/\Binds K fd ps []/\fd.code=.ref c/\∀us:List ae,us.length=ps.length->bindArgs fd ⟨us,[]⟩=pure (ps.zip us):=SA (J3 hf i h1 h2) (jF hc j h3) (jF hc k h4) hb
end L2.Mr
namespace L2.Mr.K02
open PySem PySem.Spec PyProof.Rows L2 L2.Mr
open L2.Mr.Com
def eI (i:Nat):ja:=ag.main.body.getD i (.Pass ⟨0,0,0,0⟩)
abbrev zR:ja:=eI 14
abbrev zS:ja:=eI 15
abbrev zT:ja:=eI 16
abbrev zU:ja:=eI 19
abbrev uV:ja:=eI 20
abbrev zV:ja:=eI 21
abbrev uW:ja:=eI 22
abbrev uX:ja:=eI 23
abbrev uY:ja:=eI 24
abbrev zW:ja:=eI 25
abbrev zX:ja:=eI 27
abbrev zY:ja:=eI 28
abbrev zZ:ja:=eI 29
abbrev AA:ja:=eI 30
abbrev uZ:ja:=eI 31
abbrev vA:ja:=eI 32
abbrev mR:ja:=eI 33
abbrev AB:ja:=eI 34
abbrev mS:ja:=eI 35
set_option genInjectivity false in
structure Ad where
 f_qp:ah
 fd_qp:cg
 f_qj:ah
 fd_qj:cg
 f_qe:ah
 fd_qe:cg
 f_qo:ah
 fd_qo:cg
 f_qi:ah
 fd_qi:cg
 f_qr:ah
 fd_qr:cg
 f_qm:ah
 fd_qm:cg
 f_qn:ah
 fd_qn:cg
 f_qa:ah
 fd_qa:cg
 f_qq:ah
 fd_qq:cg
 f_qc:ah
 fd_qc:cg
 f_qh:ah
 fd_qh:cg
 f_ql:ah
 fd_ql:cg
 f_qb:ah
 fd_qb:cg
 f_qf:ah
 fd_qf:cg
 f_qk:ah
 fd_qk:cg
 f_qd:ah
 fd_qd:cg
 f_qg:ah
 fd_qg:cg
 f_qs:ah
 fd_qs:cg
 c_NoOrder:ah
 c_NoNumber:ah
 c_NoPairs:ah
 c_Round:ah
 c_NoThing:ah
 c_NoRow:ah
 c_TooMany:ah
 c_TooFew:ah
 c_NoText:ah
 c_NoLine:ah
 c_NoDeed:ah
 t_MOST_THINGS:Tok
 NE:ah
 cc:ah
 P:ah
structure Tx (K:ar) (mg:Str->Option ae) (G:Cf0) (A:Ad):Prop where
 hK:K=G.K
 F_qp:zu K "is_whole" "is_whole" zR A.f_qp A.fd_qp
 B_qp:Binds K A.fd_qp ["thing"] []
 m_qp:mg "is_whole" = some (.ref A.f_qp)
 F_qj:zu K "is_between" "is_between" zS A.f_qj A.fd_qj
 B_qj:Binds K A.fd_qj ["thing","low","high"] []
 m_qj:mg "is_between" = some (.ref A.f_qj)
 F_qe:zu K "need_between" "need_between" zT A.f_qe A.fd_qe
 B_qe:Binds K A.fd_qe ["thing","low","high"] []
 m_qe:mg "need_between" = some (.ref A.f_qe)
 F_qo:zu K "is_thing" "is_thing" zU A.f_qo A.fd_qo
 B_qo:Binds K A.fd_qo ["many","thing"] []
 m_qo:mg "is_thing" = some (.ref A.f_qo)
 F_qi:zu K "are_things" "are_things" uV A.f_qi A.fd_qi
 B_qi:Binds K A.fd_qi ["many","thing"] []
 m_qi:mg "are_things" = some (.ref A.f_qi)
 F_qr:zu K "is_pair" "is_pair" zV A.f_qr A.fd_qr
 B_qr:Binds K A.fd_qr ["many","thing"] []
 m_qr:mg "is_pair" = some (.ref A.f_qr)
 F_qm:zu K "are_pairs" "are_pairs" uW A.f_qm A.fd_qm
 B_qm:Binds K A.fd_qm ["many","things"] []
 m_qm:mg "are_pairs" = some (.ref A.f_qm)
 F_qn:zu K "has_alike" "has_alike" uX A.f_qn A.fd_qn
 B_qn:Binds K A.fd_qn ["pairs"] []
 m_qn:mg "has_alike" = some (.ref A.f_qn)
 F_qa:zu K "with_all_that_follows" "with_all_that_follows" uY A.f_qa A.fd_qa
 B_qa:Binds K A.fd_qa ["many","pairs"] []
 m_qa:mg "with_all_that_follows" = some (.ref A.f_qa)
 F_qq:zu K "order_of" "order_of" zW A.f_qq A.fd_qq
 B_qq:Binds K A.fd_qq ["many","pairs"] []
 m_qq:mg "order_of" = some (.ref A.f_qq)
 F_qc:zu K "_law_cell_at" "_law_cell_at" zX A.f_qc A.fd_qc
 B_qc:Binds K A.fd_qc ["_law_script","_law_k"] []
 m_qc:mg "_law_cell_at" = some (.ref A.f_qc)
 F_qh:zu K "_law_state" "_law_state" zY A.f_qh A.fd_qh
 B_qh:Binds K A.fd_qh ["_law_script","_law_k"] []
 m_qh:mg "_law_state" = some (.ref A.f_qh)
 F_ql:zu K "_law_take" "_law_take" zZ A.f_ql A.fd_ql
 B_ql:Binds K A.fd_ql ["_law_state_here","_law_many"] []
 m_ql:mg "_law_take" = some (.ref A.f_ql)
 F_qb:zu K "_law_mixed_row" "_law_mixed_row" AA A.f_qb A.fd_qb
 B_qb:Binds K A.fd_qb ["_law_state_here","_law_things"] []
 m_qb:mg "_law_mixed_row" = some (.ref A.f_qb)
 F_qf:zu K "_law_closed" "_law_closed" uZ A.f_qf A.fd_qf
 B_qf:Binds K A.fd_qf ["_law_pairs_here"] []
 m_qf:mg "_law_closed" = some (.ref A.f_qf)
 F_qk:zu K "_law_same" "_law_same" vA A.f_qk A.fd_qk
 B_qk:Binds K A.fd_qk ["_law_found","_law_due"] []
 m_qk:mg "_law_same" = some (.ref A.f_qk)
 F_qd:zu K "_law_refused" "_law_refused" mR A.f_qd A.fd_qd
 B_qd:Binds K A.fd_qd ["_law_call"] []
 m_qd:mg "_law_refused" = some (.ref A.f_qd)
 F_qg:zu K "_law_pairs" "_law_pairs" AB A.f_qg A.fd_qg
 B_qg:Binds K A.fd_qg ["_law_state_here","_law_many"] []
 m_qg:mg "_law_pairs" = some (.ref A.f_qg)
 F_qs:zu K "law" "law" mS A.f_qs A.fd_qs
 B_qs:Binds K A.fd_qs ["_law_script"] []
 m_qs:mg "law" = some (.ref A.f_qs)
 z_ValueError:mg "ValueError" = none
 z_all:mg "all" = none
 z_any:mg "any" = none
 z_bool:mg "bool" = none
 z_int:mg "int" = none
 z_isinstance:mg "isinstance" = none
 z_len:mg "len" = none
 z_list:mg "list" = none
 z_max:mg "max" = none
 z_min:mg "min" = none
 z_range:mg "range" = none
 z_set:mg "set" = none
 z_sorted:mg "sorted" = none
 z_tuple:mg "tuple" = none
 z_zip:mg "zip" = none
 c_MOST_THINGS:mg "MOST_THINGS" = some (.int 6 A.t_MOST_THINGS)
 n_NoOrder:mg "NoOrder" = some (.ref A.c_NoOrder)
 n_NoNumber:mg "NoNumber" = some (.ref A.c_NoNumber)
 n_NoPairs:mg "NoPairs" = some (.ref A.c_NoPairs)
 n_Round:mg "Round" = some (.ref A.c_Round)
 n_NoThing:mg "NoThing" = some (.ref A.c_NoThing)
 n_NoRow:mg "NoRow" = some (.ref A.c_NoRow)
 n_TooMany:mg "TooMany" = some (.ref A.c_TooMany)
 n_TooFew:mg "TooFew" = some (.ref A.c_TooFew)
 n_NoText:mg "NoText" = some (.ref A.c_NoText)
 n_NoLine:mg "NoLine" = some (.ref A.c_NoLine)
 n_NoDeed:mg "NoDeed" = some (.ref A.c_NoDeed)
 ns_NoNumber:nv K cp "NoNumber" = some (some (.ref A.c_NoNumber))
 x_NoNumber:mw K A.c_NoNumber nW "ValueError.__new__" = true
 ce_NoNumber:A.c_NoNumber=G.cl 1
 ns_NoPairs:nv K cp "NoPairs" = some (some (.ref A.c_NoPairs))
 x_NoPairs:mw K A.c_NoPairs nW "ValueError.__new__" = true
 ce_NoPairs:A.c_NoPairs=G.cl 2
 ns_Round:nv K cp "Round" = some (some (.ref A.c_Round))
 x_Round:mw K A.c_Round nW "ValueError.__new__" = true
 ce_Round:A.c_Round=G.cl 3
 ktV:∀c b,tblV.lookup c=some b->cz G.K (.ref (G.cl c)) (.type "ValueError")=some b/\zw G.K (G.cl c)
 kt0:∀c b,tbl0.lookup c=some b->cz G.K (.ref (G.cl c)) (.ref A.c_NoOrder)=some b/\zw G.K (G.cl c)
 kt1:∀c b,tbl1.lookup c=some b->cz G.K (.ref (G.cl c)) (.ref A.c_NoNumber)=some b/\zw G.K (G.cl c)
 kt2:∀c b,tbl2.lookup c=some b->cz G.K (.ref (G.cl c)) (.ref A.c_NoPairs)=some b/\zw G.K (G.cl c)
 kt3:∀c b,tbl3.lookup c=some b->cz G.K (.ref (G.cl c)) (.ref A.c_Round)=some b/\zw G.K (G.cl c)
 kt4:∀c b,tbl4.lookup c=some b->cz G.K (.ref (G.cl c)) (.ref A.c_NoThing)=some b/\zw G.K (G.cl c)
 kt5:∀c b,tbl5.lookup c=some b->cz G.K (.ref (G.cl c)) (.ref A.c_NoRow)=some b/\zw G.K (G.cl c)
 kt6:∀c b,tbl6.lookup c=some b->cz G.K (.ref (G.cl c)) (.ref A.c_TooMany)=some b/\zw G.K (G.cl c)
 kt7:∀c b,tbl7.lookup c=some b->cz G.K (.ref (G.cl c)) (.ref A.c_TooFew)=some b/\zw G.K (G.cl c)
 kt8:∀c b,tbl8.lookup c=some b->cz G.K (.ref (G.cl c)) (.ref A.c_NoText)=some b/\zw G.K (G.cl c)
 kt9:∀c b,tbl9.lookup c=some b->cz G.K (.ref (G.cl c)) (.ref A.c_NoLine)=some b/\zw G.K (G.cl c)
 kt10:∀c b,tbl10.lookup c=some b->cz G.K (.ref (G.cl c)) (.ref A.c_NoDeed)=some b/\zw G.K (G.cl c)
 n_NearError:mg "NearError" = some (.ref A.NE)
 e1:jf K (.ref A.NE) (.type "BaseException")=some true
 e2:jf K (.type "type") (.type "tuple")=some false
 e3:uc K (.ref A.NE) (.ref A.NE)=some true
 e4:∀c,c<11->jf K (.ref (G.cl c)) (.ref A.NE)=some true
 lq:(("law" : Str) ++ ".<locals>.") ++ "<lambda>" = G.lq
 tab:G.tab=some A.P
 code:A.fd_qs.code=.ref A.cc
theorem WX:(["part","many"]:xw).Nodup:=by decide +kernel
theorem WY:(["thing","many"]:xw).Nodup:=by decide +kernel
theorem IA:(["a","b"]:xw).Nodup:=by decide +kernel
theorem vB:(["many","pairs","found","middle","a","b"]:xw).Nodup:=by decide +kernel
theorem WZ:(["pair"]:xw).Nodup:=by decide +kernel
theorem W0:(["many","pairs","found"]:xw).Nodup:=by decide +kernel
theorem W2:(["_law_script","_law_k","_law_cell"]:xw).Nodup:=by decide +kernel
theorem AD:(["_law_state_here","_law_many","_law_found","_law_stirred"]:xw).Nodup:=by decide +kernel
theorem IB:(["_law_state_here","_law_things","_law_left","_law_found"]:xw).Nodup:=by decide +kernel
abbrev ye:List PySem.Str:=["_law_pairs_here","_law_found","_law_later","_law_a","_law_b"]
theorem oI:(ye:xw).Nodup:=by decide +kernel
theorem IC:(["_law_c","_law_d","_law_a","_law_b"]:xw).Nodup:=by decide +kernel
theorem ID:(["_law_one","_law_other"]:xw).Nodup:=by decide +kernel
theorem vC:(["_law_call","_law_error","e","_law_marks"]:xw).Nodup:=by decide +kernel
theorem W3:(["_law_k","_law_marks"]:xw).Nodup:=by decide +kernel
theorem mT:(["_law_state_here","_law_many","_law_row","_law_found","_law_turn","_law_i","_law_j","_law_a","_law_b"]:xw).Nodup:=by decide +kernel
abbrev yd:List PySem.Str:=["_law_script","_law_k","_law_state_here","_law_many","_law_pairs_here","_law_handed","_law_due","_law_at","_law_odd","_law_bad","_law_none"]
theorem jD:(yd:xw).Nodup:=by decide +kernel
theorem IE:(["_law_a","_law_b"]:xw).Nodup:=by decide +kernel
section
variable{P:bg}{w:cf}{K:ar}{mg:Str->Option ae}{base:ck}{G:Cfg}{A:Ad}
theorem W4:yh ["thing"] ["thing"] (aU zR):=eF
theorem W5 (T:Tx K mg G A):yu P w K mg base (bE P w base) 1 A.f_qp A.fd_qp ["thing"] (cS G F_qp):=fF (k:=0) T.F_qp W4 T.hK λ_ _ _ _ _ _ _ g=>(bB (cH (pQ (SS rfl T.z_isinstance rfl T.z_int (aD 0)) (pP (O9 (yF rfl T.z_isinstance rfl T.z_bool (aD 0)))))))
theorem W6:yh ["thing","low","high"] ["thing","low","high"] (aU zS):=eF
theorem IF (T:Tx K mg G A):yu P w K mg base (bE P w base) 2 A.f_qj A.fd_qj ["thing","low","high"] (cS G F_qj):=fF (k:=1) T.F_qj W6 T.hK λ_ _ _ _ _ _ _ g=>(bB (cH (pQ (bX g (W5 T) T.m_qp T.F_qp.kp T.B_qp (aF (aD 0) aL)) (pP (SF (aD 1) (aD 0) (aD 2))))))
theorem W7:yh ["thing","low","high"] ["thing","low","high"] (aU zT):=eF
theorem W8 (T:Tx K mg G A):yu P w K mg base (bE P w base) 3 A.f_qe A.fd_qe ["thing","low","high"] (cS G F_qe):=fF (k:=2) T.F_qe W7 T.hK λ_ _ _ _ _ _ _ g=>(bB (dR (pO (jI (bX g (IF T) T.m_qj T.F_qj.kp T.B_qj (aF (aD 0) (aF (aD 1) (aF (aD 2) aL)))))) (bB (QQ (slots:=[1,2]) g rfl T.n_NoNumber T.ns_NoNumber T.x_NoNumber T.ce_NoNumber (Af.cons (EL (by decide)) (Af.cons (EN (oV (i:=1) rfl (by first|exact x8 rfl|exact Or.inr (x8 rfl)))) (Af.cons (EL (by decide)) (Af.cons (EN (oV (i:=2) rfl (by first|exact x8 rfl|exact Or.inr (x8 rfl)))) Af.nil)))) (λσ hh=>⟨trivial,hh 1 (by decide),trivial,hh 2 (by decide),trivial⟩))) dX))
theorem W9:yh ["many","thing"] ["many","thing"] (aU zU):=eF
theorem XA (T:Tx K mg G A):yu P w K mg base (bE P w base) 3 A.f_qo A.fd_qo ["many","thing"] (cS G F_qo):=fF (k:=2) T.F_qo W9 T.hK λ_ _ _ _ _ _ _ g=>(bB (cH (bX g (IF T) T.m_qj T.F_qj.kp T.B_qj (aF (aD 1) (aF aW (aF (FH (aD 0) aW) aL))))))
theorem XB:yh ["many","thing"] ["many","thing"] (aU uV):=eF
theorem XC (T:Tx K mg G A):yu P w K mg base (bE P w base) 4 A.f_qi A.fd_qi ["many","thing"] (cS G F_qi):=fF (k:=3) T.F_qi XB T.hK λ_ _ _ _ _ _ _ g=>(bB (cH (pQ (yG rfl T.z_isinstance rfl T.z_tuple (aD 1)) (pP (xY g.calm rfl T.z_all (lY g.calm (lO (N:=["part","many"]) (cap:=[none,some 0]) (os:=(aU uV)) (oN:=["many","thing"])) (QB (aD 1)) (λ_ _ _=>(dF (i:=0) WX)) (λ_ _ _=>sU) (λ_ _ _=>(bX (jM g) (XA T) T.m_qo T.F_qo.kp T.B_qo (aF (aD 1) (aF (aD 0) aL))))))))))
theorem XD:yh ["many","thing"] ["many","thing"] (aU zV):=eF
theorem XE (T:Tx K mg G A):yu P w K mg base (bE P w base) 5 A.f_qr A.fd_qr ["many","thing"] (cS G F_qr):=fF (k:=4) T.F_qr XD T.hK λ_ _ _ _ _ _ _ g=>(bB (cH (pQ (bX g (XC T) T.m_qi T.F_qi.kp T.B_qi (aF (aD 0) (aF (aD 1) aL))) (pP (tN g (mG rfl T.z_len (aF (aD 1) aL)) aW)))))
theorem XF:yh ["many","things"] ["many","things"] (aU uW):=eF
theorem XG (T:Tx K mg G A):yu P w K mg base (bE P w base) 6 A.f_qm A.fd_qm ["many","things"] (cS G F_qm):=fF (k:=5) T.F_qm XF T.hK λ_ _ _ _ _ _ _ g=>(bB (cH (xY g.calm rfl T.z_all (lY g.calm (lO (N:=["thing","many"]) (cap:=[none,some 0]) (os:=(aU uW)) (oN:=["many","things"])) (nO (aD 1)) (λ_ _ _=>(dF (i:=0) WY)) (λ_ _ _=>sU) (λ_ _ _=>(bX (jM g) (XE T) T.m_qr T.F_qr.kp T.B_qr (aF (aD 1) (aF (aD 0) aL))))))))
theorem XH:yh ["pairs"] ["pairs"] (aU uX):=eF
theorem XI (T:Tx K mg G A):yu P w K mg base (bE P w base) 1 A.f_qn A.fd_qn ["pairs"] (cS G F_qn):=fF (k:=0) T.F_qn XH T.hK λ_ _ _ _ _ _ _ g=>(bB (cH (Q9 g.calm rfl T.z_any (lY g.calm (lO (N:=["a","b"]) (cap:=[none,none]) (os:=(aU uX)) (oN:=["pairs"])) (nO (aD 0)) (λ_ _ _=>(nM (jM g).calm (gF (dF (i:=0) IA) (gF (dF (i:=1) IA) lW)))) (λ_ _ _=>sU) (λ_ _ _=>(tN (jM g) (aD 0) (aD 1)))))))
theorem XJ:yh ["many","pairs","found","middle","a","b"] ["many","pairs"] (aU uY):=eF
theorem XM (T:Tx K mg G A):yu P w K mg base (bE P w base) 1 A.f_qa A.fd_qa ["many","pairs"] (cS G F_qa):=fF (k:=0) T.F_qa XJ T.hK λ_ _ _ _ _ _ _ g=>(aZ (WM (i:=2) g vB rfl (lO (N:=["pair"]) (cap:=[none]) (os:=(aU uY)) (oN:=["many","pairs","found","middle","a","b"])) (nO (aD 1)) (λ_ _ _=>(dF (i:=0) WZ)) (λ_ _ _=>(aD 0)) (λ_ _ _=>fQ)) (aZ (nU g.own g.calm (nS rfl T.z_range (aF (aD 0) aL)) (dF (i:=3) vB) (bB (nU g.own g.calm (nS rfl T.z_range (aF (aD 0) aL)) (dF (i:=4) vB) (bB (nU g.own g.calm (nS rfl T.z_range (aF (aD 0) aL)) (dF (i:=5) vB) (bB (dR (zt.t (DJ (HS g (hZ (aF (aD 4) (aF (aD 3) aL))) (aD 2)) (DI (HS g (hZ (aF (aD 3) (aF (aD 5) aL))) (aD 2))))) (bB (WH g (aD 2) (hZ (aF (aD 4) (aF (aD 5) aL))) fQ)) dX))))))) (bB (cH (WJ g rfl T.z_sorted (aF (aD 2) aL))))))
theorem XN:yh ["many","pairs","found"] ["many","pairs"] (aU zW):=eF
theorem vD (T:Tx K mg G A):yu P w K mg base (bE P w base) 7 A.f_qq A.fd_qq ["many","pairs"] (cS G F_qq):=fF (k:=6) T.F_qq XN T.hK λ_ _ _ _ _ _ _ g=>(aZ (pU (bX g (W8 T) T.m_qe T.F_qe.kp T.B_qe (aF (aD 0) (aF aW (aF (R7 rfl T.c_MOST_THINGS) aL))))) (aZ (dR (zt.t (xG (pO (jI (yH rfl T.z_isinstance rfl T.z_list (aD 1)))) (xF (pO (jI (bX g (XG T) T.m_qm T.F_qm.kp T.B_qm (aF (aD 0) (aF (aD 1) aL)))))))) (bB (EK g rfl T.n_NoPairs T.ns_NoPairs T.x_NoPairs T.ce_NoPairs (aF pK aL))) dX) (aZ (cQ (i:=2) W0 (bX g (XM T) T.m_qa T.F_qa.kp T.B_qa (aF (aD 0) (aF (aD 1) aL)))) (aZ (dR (jI (bX g (XI T) T.m_qn T.F_qn.kp T.B_qn (aF (aD 2) aL))) (bB (EK g rfl T.n_Round T.ns_Round T.x_Round T.ce_Round (aF pK aL))) dX) (bB (cH (hZ (aF (aD 0) (aF (xK rfl T.z_tuple (aF (aD 2) aL)) aL)))))))))
theorem XO:yh ["_law_script","_law_k"] ["_law_script","_law_k"] (aU zX):=eF
theorem XQ (T:Tx K mg G A):yu P w K mg base (bE P w base) 1 A.f_qc A.fd_qc ["_law_script","_law_k"] (cS G (F_qc G.scr)):=fF (k:=0) (N:=["_law_script","_law_k"]) (mb:=(uG G.scr)) T.F_qc XO T.hK λ_ _ _ _ _ _ _ g=>(aZ (dR (HJ g (aD 1) (DU rfl T.z_len (aF (aD 0) aL))) (bB (cH (PQ (aD 0) (aD 1)))) dX) (bB (cH aW)))
theorem XR:yh ["_law_script","_law_k","_law_cell"] ["_law_script","_law_k"] (aU zY):=eF
theorem XS (T:Tx K mg G A):yu P w K mg base (bE P w base) 2 A.f_qh A.fd_qh ["_law_script","_law_k"] (cS G (F_qh G.scr)):=fF (k:=1) (N:=["_law_script","_law_k","_law_cell"]) (mb:=(uH G.scr)) T.F_qh XR T.hK λ_ _ _ _ _ _ _ g=>(aZ (cQ (i:=2) W2 (bX g (XQ T) T.m_qc T.F_qc.kp T.B_qc (aF (aD 0) (aF (aD 1) aL)))) (aZ (dR (SE (aD 2) (yD aW aW)) (bB (cH (dU (aF (FH (aD 2) (yD aW aW)) (aF fQ aL))))) dX) (bB (cH (dU (aF (oC (aD 2) aW) (aF fQ aL)))))))
theorem XT:yh ["_law_state_here","_law_many","_law_found","_law_stirred"] ["_law_state_here","_law_many"] (aU zZ):=eF
theorem gO (T:Tx K mg G A):yu P w K mg base (bE P w base) 1 A.f_ql A.fd_ql ["_law_state_here","_law_many"] (cS G F_ql):=fF (k:=0) T.F_ql XT T.hK λ_ _ _ _ _ _ _ g=>(aZ (dR (jI (fV (aD 0) aW)) (aZ (cQ (i:=2) AD (oC (fV (aD 0) aW) (aD 1))) (aZ (EZ (aD 0) aW (FN (fV (aD 0) aW) (aD 1))) (bB (cH (aD 2))))) dX) (aZ (EZ (aD 0) aW (oC (gK (qG (fV (aD 0) aW) aW) aW) aW)) (aZ (cQ (i:=3) AD (oC (gK (gK (qG (fV (aD 0) aW) (fV (aD 0) aW)) (qG aW (fV (aD 0) aW))) aW) aW)) (aZ (cQ (i:=3) AD (oC (gK (qG (aD 3) (aD 3)) (qG aW (aD 3))) aW)) (bB (cH (oC (FN (aD 3) aW) (aD 1))))))))
theorem XU:yh ["_law_state_here","_law_things","_law_left","_law_found"] ["_law_state_here","_law_things"] (aU AA):=eF
theorem XW (T:Tx K mg G A):yu P w K mg base (bE P w base) 2 A.f_qb A.fd_qb ["_law_state_here","_law_things"] (cS G F_qb):=fF (k:=1) T.F_qb XU T.hK λ_ _ _ _ _ _ _ g=>(aZ (cQ (i:=2) IB (yJ rfl T.z_list (aF (aD 1) aL))) (aZ (cQ (i:=3) IB (dU aL)) (aZ (FA 40 g.own (jS g (aD 2) (dU aL)) (bB (pU (EY (aD 3) (R5 (aD 2) (bX g (gO T) T.m_ql T.F_ql.kp T.B_ql (aF (aD 0) (aF (mG rfl T.z_len (aF (aD 2) aL)) aL)))))))) (bB (cH (aD 3))))))
theorem XX:yh ye ["_law_pairs_here"] (aU uZ):=eF
theorem XY (T:Tx K mg G A):yu P w K mg base (bE P w base) 1 A.f_qf A.fd_qf ["_law_pairs_here"] (cS G F_qf):=fF (k:=0) T.F_qf XX T.hK λ_ _ _ _ _ _ _ g=>(aZ (cQ (i:=1) oI (HL g rfl T.z_sorted rfl T.z_set (aF (aD 0) aL))) (bB (FA 40 g.own (jI fQ) (aZ (cQ (i:=2) oI (yJ rfl T.z_list (aF (aD 1) aL))) (aZ (nU g.own g.calm (nO (aD 1)) (nM g.calm (gF (dF (i:=3) oI) (gF (dF (i:=4) oI) lW))) (bB (pU (RC (aD 2) (lY g.calm (lO (N:=["_law_c","_law_d","_law_a","_law_b"]) (cap:=[none,none,some 3,some 4]) (os:=(aU uZ)) (oN:=ye)) (nO (aD 1)) (λ_ _ _=>(nM (jM g).calm (gF (dF (i:=0) IC) (gF (dF (i:=1) IC) lW)))) (λ_ _ _=>(xP (qH (jM g) (aD 3) (aD 0)))) (λ_ _ _=>(hZ (aF (aD 2) (aF (aD 1) aL))))))))) (aZ (cQ (i:=2) oI (HL g rfl T.z_sorted rfl T.z_set (aF (aD 2) aL))) (aZ (dR (qH g (aD 2) (aD 1)) (bB (cH (aD 1))) dX) (bB (cQ (i:=1) oI (aD 2))))))))))
theorem XZ:yh ["_law_found","_law_due"] ["_law_found","_law_due"] (aU vA):=eF
theorem IG (T:Tx K mg G A):∀n,yu P w K mg base (bE P w base) n A.f_qk A.fd_qk ["_law_found","_law_due"] (cS G (F_qk n))
 |0=>SY
 |n+1=>by have okS:=IG T n;exact fF (N:=["_law_found","_law_due"]) (mb:=uI (F_qk n)) T.F_qk XZ T.hK λ_ _ _ _ _ _ _ g=>(aZ (dR (jI (SV rfl T.z_isinstance rfl T.z_tuple rfl T.z_list (aD 1))) (aZ (dR (zt.t (xG (jS g (yG rfl T.z_isinstance rfl T.z_tuple (aD 0)) (yG rfl T.z_isinstance rfl T.z_tuple (aD 1))) (xF (jS g (yH rfl T.z_isinstance rfl T.z_list (aD 0)) (yH rfl T.z_isinstance rfl T.z_list (aD 1)))))) (bB (cH fQ)) dX) (aZ (dR (jS g (mG rfl T.z_len (aF (aD 0) aL)) (mG rfl T.z_len (aF (aD 1) aL))) (bB (cH fQ)) dX) (bB (cH (xY g.calm rfl T.z_all (lY g.calm (lO (N:=["_law_one","_law_other"]) (cap:=[none,none]) (os:=(aU vA)) (oN:=["_law_found","_law_due"])) (RQ rfl T.z_zip (aF (aD 0) (aF (aD 1) aL))) (λ_ _ _=>(nM (jM g).calm (gF (dF (i:=0) ID) (gF (dF (i:=1) ID) lW)))) (λ_ _ _=>sU) (λ_ _ _=>(EH (jM g) okS (ak _) rfl T.m_qk T.F_qk.kp T.B_qk (aF (aD 0) (aF (aD 1) aL)))))))))) dX) (bB (cH (pQ (tN g (aD 0) (aD 1)) (pP (tN g (yF rfl T.z_isinstance rfl T.z_bool (aD 0)) (yF rfl T.z_isinstance rfl T.z_bool (aD 1))))))))
theorem X0:yh ["_law_call","_law_error","e","_law_marks"] ["_law_call"] (aU mR):=eF
theorem X1 {k:Nat}(T:Tx K mg G A) (cdv:ae) (Ar:bp) (outer:List Env) (s:af) (H:Hp) (E₀ E:XK) (g:Good (eU (bE P w base) P w K mg base ["_law_call","_law_error","e","_law_marks"] "_law_refused" (aU mR) A.f_qd cdv Ar outer s H E₀) G E k):iD (eU (bE P w base) P w K mg base ["_law_call","_law_error","e","_law_marks"] "_law_refused" (aU mR) A.f_qd cdv Ar outer s H E₀) G E ((hY mR).drop 2) gN:=(aZ (cQ (i:=3) vC (dU (aF (iY rfl T.z_isinstance rfl T.n_NoOrder (aD 1) (λ_ h=>by cases h) T.kt0) (aF (iY rfl T.z_isinstance rfl T.n_NoNumber (aD 1) (λ_ h=>by cases h) T.kt1) (aF (iY rfl T.z_isinstance rfl T.n_NoPairs (aD 1) (λ_ h=>by cases h) T.kt2) aL))))) (aZ (cQ (i:=3) vC (gK (aD 3) (dU (aF (iY rfl T.z_isinstance rfl T.n_Round (aD 1) (λ_ h=>by cases h) T.kt3) (aF (iY rfl T.z_isinstance rfl T.n_NoThing (aD 1) (λ_ h=>by cases h) T.kt4) (aF (iY rfl T.z_isinstance rfl T.n_NoRow (aD 1) (λ_ h=>by cases h) T.kt5) aL)))))) (aZ (cQ (i:=3) vC (gK (aD 3) (dU (aF (iY rfl T.z_isinstance rfl T.n_TooMany (aD 1) (λ_ h=>by cases h) T.kt6) (aF (iY rfl T.z_isinstance rfl T.n_TooFew (aD 1) (λ_ h=>by cases h) T.kt7) (aF (iY rfl T.z_isinstance rfl T.n_NoText (aD 1) (λ_ h=>by cases h) T.kt8) aL)))))) (aZ (cQ (i:=3) vC (gK (aD 3) (dU (aF (iY rfl T.z_isinstance rfl T.n_NoLine (aD 1) (λ_ h=>by cases h) T.kt9) (aF (iY rfl T.z_isinstance rfl T.n_NoDeed (aD 1) (λ_ h=>by cases h) T.kt10) aL))))) (aZ (dR (pO (jI (SW rfl T.z_isinstance rfl T.z_ValueError (aD 1) (λ_ h=>by cases h) T.ktV))) (bB (cH pJ)) dX) (bB (cH (DZ (lY g.calm (lO (N:=["_law_k","_law_marks"]) (cap:=[none,some 3]) (os:=(aU mR)) (oN:=["_law_call","_law_error","e","_law_marks"])) (nS rfl T.z_range (aF aW aL)) (λ_ _ _=>(dF (i:=0) W3)) (λ_ _ _=>(xP (jI (fV (aD 1) (aD 0))))) (λ_ _ _=>(aD 0)))))))))))
theorem AE {k:Nat}{Nl:xw}{params:ka}{body:bj}{scope:gn}{me:M Dv}(T:Tx K mg G A) (LS:yx Nl scope) (hb:∀(cl:List (Str×ah)) (pm cdv ct:ae),bindArgs (oh "<lambda>" G.lq params body scope cl pm cdv ct) ⟨[],[]⟩=pure [])
  (y8:∀(f:ah) (cdv:ae) (cl:List (Str×ah)) (A:bp) (outer:List Env) (s:af) (H:Hp) (E₀ E:XK),Good (gY P w K mg base Nl G.lq scope f cdv cl A outer s H E₀) G E k->aG (gY P w K mg base Nl G.lq scope f cdv cl A outer s H E₀) G E body me):
  yu P w K mg base (bE P w base) (k+2) A.f_qd A.fd_qd ["_law_call"] (tH G base Nl params body scope me 4 11 gN):=
 RY T.F_qd X0 T.hK rfl rfl rfl rfl rfl rfl rfl (by decide) (by decide) (by decide) (by decide) (by decide) (λ_ _=>rfl) (λ_ _=>rfl) (λ_ _=>rfl) rfl T.n_NearError T.e1 T.e2 T.e3 T.e4 LS hb y8 (X1 T)
theorem X2:yh ["_law_state_here","_law_many","_law_row","_law_found","_law_turn","_law_i","_law_j","_law_a","_law_b"] ["_law_state_here","_law_many"] (aU AB):=eF
theorem X3 (T:Tx K mg G A):yu P w K mg base (bE P w base) 3 A.f_qg A.fd_qg ["_law_state_here","_law_many"] (cS G F_qg):=fF (k:=2) T.F_qg X2 T.hK λ_ _ _ _ _ _ _ g=>(aZ (cQ (i:=2) mT (bX g (XW T) T.m_qb T.F_qb.kp T.B_qb (aF (aD 0) (aF (VX g rfl T.z_list rfl T.z_range (aF (aD 1) aL)) aL)))) (aZ (cQ (i:=3) mT (dU aL)) (aZ (nU g.own g.calm (nS rfl T.z_range (aF (bX g (gO T) T.m_ql T.F_ql.kp T.B_ql (aF (aD 0) (aF aW aL))) aL)) (dF (i:=4) mT) (aZ (WR g.calm (VP rfl T.z_sorted (aF (dU (aF (bX g (gO T) T.m_ql T.F_ql.kp T.B_ql (aF (aD 0) (aF (aD 1) aL))) (aF (bX g (gO T) T.m_ql T.F_ql.kp T.B_ql (aF (aD 0) (aF (aD 1) aL))) aL))) aL)) (gF (dF (i:=5) mT) (gF (dF (i:=6) mT) lW))) (bB (dR (zt.t (xG (HJ g (aD 5) (aD 6)) (xF (qH g (bX g (gO T) T.m_ql T.F_ql.kp T.B_ql (aF (aD 0) (aF aW aL))) aW)))) (bB (pU (EY (aD 3) (hZ (aF (fV (aD 2) (aD 5)) (aF (fV (aD 2) (aD 6)) aL)))))) dX)))) (aZ (dR (zt.t (DJ (jS g (aD 3) (dU aL)) (DI (qH g (bX g (gO T) T.m_ql T.F_ql.kp T.B_ql (aF (aD 0) (aF aW aL))) aW)))) (aZ (P9 (fV (aD 3) (bX g (gO T) T.m_ql T.F_ql.kp T.B_ql (aF (aD 0) (aF (mG rfl T.z_len (aF (aD 3) aL)) aL)))) (nM g.calm (gF (dF (i:=7) mT) (gF (dF (i:=8) mT) lW)))) (bB (pU (WU (aD 3) (bX g (gO T) T.m_ql T.F_ql.kp T.B_ql (aF (aD 0) (aF (gK (mG rfl T.z_len (aF (aD 3) aL)) aW) aL))) (fV (dU (aF (hZ (aF (aD 8) (aF (aD 7) aL))) (aF (hZ (aF (aD 7) (aF (aD 8) aL))) aL))) (bX g (gO T) T.m_ql T.F_ql.kp T.B_ql (aF (aD 0) (aF aW aL)))))))) dX) (bB (cH (aD 3)))))))
theorem X4:yh yd ["_law_script"] (aU mS):=eF
theorem X5 (T:Tx K mg G A) (hT:∀μ n H k t a,G.clo μ n H k t a) (hC:jv base A.cc A.P) (hB:jO mg base):yu P w K mg base (bE P w base) 11 A.f_qs A.fd_qs ["_law_script"] (cS G (F_qs G.scr)):=SX (k:=10) (N:=yd) (mb:=uU G.scr) T.F_qs X4 T.hK λcdv Ar outer s H E₀ E hcd g=>(aZ (nU g.own g.calm (nS rfl T.z_range (aF (P4 g.calm rfl T.z_max (aF aW (aF (P5 g.calm rfl T.z_min (aF (DU rfl T.z_len (aF (aD 0) aL)) (aF aW aL))) aL))) aL)) (dF (i:=1) jD) (aZ (cQ (i:=2) jD (bX g (XS T) T.m_qh T.F_qh.kp T.B_qh (aF (aD 0) (aF (aD 1) aL)))) (aZ (cQ (i:=3) jD (gK aW (bX g (gO T) T.m_ql T.F_ql.kp T.B_ql (aF (aD 2) (aF aW aL))))) (aZ (cQ (i:=4) jD (bX g (X3 T) T.m_qg T.F_qg.kp T.B_qg (aF (aD 2) (aF (aD 3) aL)))) (aZ (cQ (i:=5) jD (yJ rfl T.z_list (aF (aD 4) aL))) (aZ (cQ (i:=6) jD (bX g (XY T) T.m_qf T.F_qf.kp T.B_qf (aF (aD 4) aL))) (aZ (dR (jS g (DZ (lY g.calm (lO (N:=["_law_a","_law_b"]) (cap:=[none,none]) (os:=(aU mS)) (oN:=yd)) (nO (aD 6)) (λ_ _ _=>(nM (jM g).calm (gF (dF (i:=0) IE) (gF (dF (i:=1) IE) lW)))) (λ_ _ _=>(xP (qH (jM g) (aD 0) (aD 1)))) (λ_ _ _=>aW))) (dU aL)) (bB (dR (jS g (yI (Nl:=["_law_many","_law_handed"]) (caps:=[3,5]) (me:=uQ) (os:=aU mS) (oN:=yd) g (j:=7+2) (by decide) (λ_=>rfl) (λbase _ _=>AE (k:=7) T ⟨rfl,rfl,rfl,by decide +kernel,by decide +kernel,by decide +kernel⟩ (λ_ _ _ _=>rfl) (λ_ _ _ _ _ _ _ _ _ g=>(bX g (vD T) T.m_qq T.F_qq.kp T.B_qq (aF (aD 0) (aF (aD 1) aL))))) rfl T.m_qd T.F_qd.kp T.B_qd rfl T.lq T.tab (hcd.symm.trans T.code) hC hB ⟨rfl,rfl,rfl,by decide +kernel,by decide +kernel,by decide +kernel⟩ rfl rfl (by decide +kernel) rfl (by decide +kernel)) (kQ 2)) (bB (cH fQ)) dX)) (bB (dR (pO (jI (bX g (IG T 6) T.m_qk T.F_qk.kp T.B_qk (aF (bX g (vD T) T.m_qq T.F_qq.kp T.B_qq (aF (aD 3) (aF (aD 5) aL))) (aF (hZ (aF (aD 3) (aF (xK rfl T.z_tuple (aF (aD 6) aL)) aL))) aL))))) (bB (cH fQ)) dX))) (aZ (dR (jS g (aD 5) (aD 4)) (bB (cH fQ)) dX) (aZ (cQ (i:=7) jD (bX g (gO T) T.m_ql T.F_ql.kp T.B_ql (aF (aD 2) (aF (gK (mG rfl T.z_len (aF (aD 4) aL)) aW) aL)))) (aZ (cQ (i:=8) jD (fV (dU (aF (hZ (aF aW (aF (aD 3) aL))) (aF (hZ (aF (yE aW) (aF aW aL))) (aF (kQ 2) (aF (kQ 2) (aF (kQ 2) (aF (kQ 2) (aF pJ (aF aW (aF pK (aF (kQ 2) aL))))))))))) (bX g (gO T) T.m_ql T.F_ql.kp T.B_ql (aF (aD 2) (aF aW aL))))) (aZ (cQ (i:=9) jD (fV (dU (aF aW (aF aW (aF (yE aW) (aF fQ (aF pJ (aF pK (aF (kQ 2) (aF (yD aW aW) aL))))))))) (bX g (gO T) T.m_ql T.F_ql.kp T.B_ql (aF (aD 2) (aF aW aL))))) (aZ (cQ (i:=10) jD (dU (aF (xK rfl T.z_tuple (aF (aD 4) aL)) (aF pJ (aF FE (aF aW (aF (gK (gK (uD (aD 4) tK (tL (aD 7))) (dU (aF (aD 8) aL))) (uD (aD 4) (tL (aD 7)) tK)) (aF (gK (gK (uD (aD 4) tK (tL (aD 7))) (dU (aF (aD 8) aL))) (uD (aD 4) (tL (aD 7)) tK)) aL)))))))) (aZ (cQ (i:=10) jD (fV (aD 10) (bX g (gO T) T.m_ql T.F_ql.kp T.B_ql (aF (aD 2) (aF aW aL))))) (aZ (dR (jS g (yI (Nl:=["_law_many","_law_none"]) (caps:=[3,10]) (me:=uR) (os:=aU mS) (oN:=yd) g (j:=7+2) (by decide) (λ_=>rfl) (λbase _ _=>AE (k:=7) T ⟨rfl,rfl,rfl,by decide +kernel,by decide +kernel,by decide +kernel⟩ (λ_ _ _ _=>rfl) (λ_ _ _ _ _ _ _ _ _ g=>(bX g (vD T) T.m_qq T.F_qq.kp T.B_qq (aF (aD 0) (aF (aD 1) aL))))) rfl T.m_qd T.F_qd.kp T.B_qd rfl T.lq T.tab (hcd.symm.trans T.code) hC hB ⟨rfl,rfl,rfl,by decide +kernel,by decide +kernel,by decide +kernel⟩ rfl rfl (by decide +kernel) rfl (by decide +kernel)) (kQ 2)) (bB (cH fQ)) dX) (bB (dR (jS g (yI (Nl:=["_law_bad","_law_none"]) (caps:=[9,10]) (me:=uS) (os:=aU mS) (oN:=yd) g (j:=7+2) (by decide) (λ_=>rfl) (λbase _ _=>AE (k:=7) T ⟨rfl,rfl,rfl,by decide +kernel,by decide +kernel,by decide +kernel⟩ (λ_ _ _ _=>rfl) (λ_ _ _ _ _ _ _ _ _ g=>(bX g (vD T) T.m_qq T.F_qq.kp T.B_qq (aF (aD 0) (aF (aD 1) aL))))) rfl T.m_qd T.F_qd.kp T.B_qd rfl T.lq T.tab (hcd.symm.trans T.code) hC hB ⟨rfl,rfl,rfl,by decide +kernel,by decide +kernel,by decide +kernel⟩ rfl rfl (by decide +kernel) rfl (by decide +kernel)) (kQ 2)) (bB (cH fQ)) dX)))))))))))))))) (bB (cH fQ)))
end
end L2.Mr.K02
namespace L2.Mr
open PySem PySem.Spec PyProof.Rows L2
theorem AF {α:Type}{src:Src}{sg:cI}{t:M Bool}{m:MC}(xs:List α) (out:α->yb) (S:Ev->Hs->Prop)
  (fin:∀ρ h,S ρ h->src.fin h=true)
  (step:∀k (hk:k<xs.length) ρ h,S ρ h->∃d ρ1,src.get k h=some d/\sg d ρ=some ρ1 /\
   ((∃h2,t ρ1 h=.ok false h2/\out xs[k]=[]/\S ρ1 h2)∨∃h2,t ρ1 h=.ok true h2/\∀acc:yb,acc.length+(out xs[k]).length<=900000->∃ρ3 h3,m ρ1 h2 acc=.ok (ρ3,acc++out xs[k]) h3/\S ρ3 h3)):
  ∀(f k:Nat) (ρ:Ev) (h:Hs) (acc:yb),f+k=xs.length->S ρ h->acc.length+((xs.drop k).flatMap out).length<=900000->∃ρ' h',gW src sg t m f k ρ h acc=.ok (ρ',acc++(xs.drop k).flatMap out) h'/\S ρ' h'
 |0,k,ρ,h,acc,e,s,hl=>by have:xs.drop k=[]:=List.drop_eq_nil_of_le (by omega);exact⟨ρ,h,by simp[gW,fin ρ h s,this],s⟩
 |f+1,k,ρ,h,acc,e,s,hl=>by
  have hk:k<xs.length:=by omega
  obtain⟨d,ρ1,e1,e2,e3⟩:=step k hk ρ h s;rw[v9 hk,pb]at hl ⊢;rw[de]at hl
  rcases e3 with⟨h2,e3,e4,s2⟩|⟨h2,e3,e4⟩
  ·obtain⟨ρ',h',e5,s5⟩:=AF xs out S fin step f (k+1) ρ1 h2 acc (by omega) s2 (by omega);exact⟨ρ',h',by simp[gW,e1,e2,e3,e4,e5],s5⟩
  ·obtain⟨ρ3,h3,e6,s3⟩:=e4 acc (by omega);obtain⟨ρ',h',e5,s5⟩:=AF xs out S fin step f (k+1) ρ3 h3 (acc++out xs[k]) (by omega) s3 (by rw[de];omega);exact⟨ρ',h',by simp[gW,e1,e2,e3,e6,e5],s5⟩
theorem X6 {α:Type}{mi:M Src}{cap:List (Option Nat)}{src:Src}{sg:cI}{t:M Bool}{m:MC}{ρ:Ev}{H H1:Hs}(xs:List α) (out:α->yb) (S:Ev->Hs->Prop)
  (hi:mi ρ H=.ok src H1) (hn:src.n=xs.length) (s0:S (iR cap ρ) H1) (fin:∀ρ h,S ρ h->src.fin h=true)
  (step:∀k (hk:k<xs.length) ρ h,S ρ h->∃d ρ1,src.get k h=some d/\sg d ρ=some ρ1 /\
   ((∃h2,t ρ1 h=.ok false h2/\out xs[k]=[]/\S ρ1 h2)∨∃h2,t ρ1 h=.ok true h2/\∀acc:yb,acc.length+(out xs[k]).length<=900000->∃ρ3 h3,m ρ1 h2 acc=.ok (ρ3,acc++out xs[k]) h3/\S ρ3 h3))
  (hl:(xs.flatMap out).length<=900000):∃ρ' H',dY mi cap sg t m ρ H=.ok (xs.flatMap out) H'/\S ρ' H':=by
 obtain⟨ρ',h',e,s⟩:=AF xs out S fin step xs.length 0 (iR cap ρ) H1 [] (by omega) s0 (by simpa using hl);refine⟨ρ',h', ?_,s⟩;unfold dY;rw[hi,Rs.bind_ok,hn,e];simp
theorem X7 {e:M Dv}{ρ:Ev}{h h1:Hs}{d:Dv}{acc:yb}(he:e ρ h=.ok d h1) (hl:acc.length+[d].length<=900000):dO e ρ h acc=.ok (ρ,acc++[d]) h1:=by
 have:acc.length<1000000:=by simp at hl;omega
 simp[dO,he,this]
theorem mU {α:Type}{mi:M Src}{cap:List (Option Nat)}{src:Src}{sg:cI}{t:M Bool}{e:M Dv}{ρ:Ev}{H H1:Hs}(xs:List α) (g:α->yc) (S:Ev->Prop)
  (hi:mi ρ H=.ok src H1) (hn:src.n=xs.length) (s0:S (iR cap ρ)) (fin:src.fin H1=true)
  (step:∀k (hk:k<xs.length) ρ,S ρ->∃d ρ1,src.get k H1=some d/\sg d ρ=some ρ1/\S ρ1/\match g xs[k]with
   |none=>t ρ1 H1=.ok false H1
   |some v=>t ρ1 H1=.ok true H1/\e ρ1 H1=.ok v H1)
  (hl:xs.length<=900000):dY mi cap sg t (dO e) ρ H=.ok (xs.filterMap g) H1:=by
 have fm:∀l:List α,l.flatMap (λx=>(g x).toList)=l.filterMap g:=λl=>by
  induction l with
  |nil=>rfl
  |cons x l ih=>rw[pb,ih,cj];cases g x <;> rfl
 have len:(xs.filterMap g).length<=xs.length:=List.length_filterMap_le g xs;obtain⟨ρ',H',h,_,rfl⟩:=X6 (mi:=mi) (cap:=cap) (src:=src) (sg:=sg) (t:=t) (m:=dO e) (ρ:=ρ) (H:=H) (H1:=H1) xs (λx=>(g x).toList) (λρ h=>S ρ/\h=H1) hi hn ⟨s0,rfl⟩ (λρ h s=>by rw[s.2];exact fin)
  (λk hk ρ h ⟨s,e1⟩=>by
   subst e1;obtain⟨d,ρ1,e1,e2,s1,e3⟩:=step k hk ρ s;refine⟨d,ρ1,e1,e2, ?_⟩
   cases q:g xs[k]with
   |none=>rw[q]at e3;exact .inl ⟨h,e3,rfl,s1,rfl⟩
   |some v=>rw[q]at e3;exact .inr ⟨h,e3.1,λacc hl=>⟨ρ1,h,X7 e3.2 hl,s1,rfl⟩⟩) (by rw[fm];omega)
 rw[h,fm]
theorem X8 {c:M Bool}{b:MS}{f:Nat}{ρ:Ev}{h h1:Hs}(e:c ρ h=.ok false h1):fS c b (f+1) ρ h=.nx ρ h1:=by show(c ρ h).thenS _=_;rw[e];rfl
theorem IH {c:M Bool}{b:MS}{f:Nat}{ρ ρ2:Ev}{h h1 h2:Hs}(e:c ρ h=.ok true h1) (q:b ρ h1=.nx ρ2 h2):fS c b (f+1) ρ h=fS c b f ρ2 h2:=by show(c ρ h).thenS _=_;rw[e];simp[Rs.thenS,q]
theorem X9 {c:M Bool}{b:MS}{f:Nat}{ρ:Ev}{d:Dv}{h h1 h2:Hs}(e:c ρ h=.ok true h1) (q:b ρ h1=.rt d h2):fS c b (f+1) ρ h=.rt d h2:=by show(c ρ h).thenS _=_;rw[e];simp[Rs.thenS,q]
theorem AG:∀bs:List Bool,aY lA (bs.map Dv.bl)=some bs
 | []=>rfl
 |b::bs=>by rw[dy,aY,AG bs];rfl
end L2.Mr
namespace L2.Mr.Com
open PySem PySem.Spec PyProof.Rows L2 L2.Mr
def rC (n:Nat) (ps:xq):Dv:=.tup [.int n,.tup (ps.map aI)]
theorem AH {α:Type}{ml:M yb }{ρ:Ev}{H H1:Hs}{xs:List α}{f:α->Bool}(h:ml ρ H=.ok (xs.filterMap λx=>some (.bl (f x))) H1):mL mD ml ρ H=.ok (.bl (xs.all f)) H1:=by
 have e:(xs.filterMap λx=>some (Dv.bl (f x)))=(xs.map f).map Dv.bl:=by simp
 unfold mL;rw[h,Rs.bind_ok,e];unfold mD;rw[AG];simp[vt]
theorem YA {α:Type}{ml:M yb }{ρ:Ev}{H H1:Hs}{xs:List α}{f:α->Bool}(h:ml ρ H=.ok (xs.filterMap λx=>some (.bl (f x))) H1):mL pY ml ρ H=.ok (.bl (xs.any f)) H1:=by
 have e:(xs.filterMap λx=>some (Dv.bl (f x)))=(xs.map f).map Dv.bl:=by simp
 unfold mL;rw[h,Rs.bind_ok,e];unfold pY;rw[AG];simp[List.any_map]
section
variable{H:Hs}{n x:Int}{ps:xq}
theorem II:F_qp [.int x] H=.ok (.bl true) H:=by simp[F_qp,zG,bA,bS,aS,eX,m1,aB,aR,gG,oD,kH,sJ,bW]
theorem YB {lo hi:Int}:F_qj [.int x,.int lo,.int hi] H=.ok (.bl (decide (lo<=x)&&decide (x<=hi))) H:=by
 by_cases h:lo<=x
 ·simp[F_qj,uE,bA,bS,aS,eX,aE,aA,aB,aC,II,nC,oB,jJ,h,bW]
 ·simp[F_qj,uE,bA,bS,aS,eX,aE,aA,aB,aC,II,nC,oB,jJ,h,bW]
end
section
variable{n:Nat}{ps:xq}{H:Hs}
def AI (n:Nat):xq:=(bx n).flatMap λa:Nat=>(bx n).map λb:Nat=>((a:Int),(b:Int))
theorem YC (n:Nat):(AI n).length=n*n:=by
 unfold AI;have:∀l:xv,(l.flatMap λa:Nat=>(bx n).map λb:Nat=>((a:Int),(b:Int))).length=l.length*n:=λl=>by
  induction l with
  |nil=>simp
  |cons a l ih=>rw[pb,de,ih,cn,Nat.succ_mul];simp;omega
 rw[this];simp
theorem YD {p:Int×Int}(h:0<=p.1/\p.1<n/\0<=p.2/\p.2<n):p∈AI n:=by obtain⟨a,b⟩:=p;simp only at h;refine List.mem_flatMap.mpr ⟨a.toNat,bq.mpr (by omega),cw.mpr ⟨b.toNat,bq.mpr (by omega), ?_⟩⟩;simp;omega
theorem mV (hr:eN cU ps) (hp:∀p∈ps,0<=p.1/\p.1<n/\0<=p.2/\p.2<n):ps.length<=n*n:=by rw[<-YC n];exact(oE fX hr).length_le_of_subset λp h=>YD (hp p h)
end
theorem YE (H:Hs) (n:Nat) (a:Int) (b:Bool) (m:Int) (h0:0<m) (h1:m<18446744073709551616) (e:getL H n=some [.int a,.bl b]):
  ∃r a',0<=r/\r<m/\F_ql [.ref n,.int m] H=.ok (.int r) (H.set n (.lst [.int a',.bl b])):=by
 cases b with
 |true=>refine⟨a % m,a / m,Int.emod_nonneg _ (by omega),Int.emod_lt_of_pos _ h0, ?_⟩;simp[F_ql,zI,bA,bS,aK,aV,bN,m2,aB,mC,cA,hJ,iC,e,jK,fP,eJ,gC,aN,jR,iP,nE,h0,aH,qA,qL,qK,h1,tD,aS,bW]
 |false=>
  have q1:∀ys,getL (H.set n (.lst ys)) n=some ys:=λys=>lE e;generalize hs:(a*48271+29) % 2147483647=s;have s0:0<=s:=by omega
  have s1:s<2147483647:=by omega
  generalize ht:(s*s+39373*s+7) % 2147483629=t;have t0:0<=t:=by omega
  have t1:t<2147483629:=by omega
  generalize hu:(t*t+16807*t) % 2147483587=u;refine⟨u / 8 % m,s,Int.emod_nonneg _ (by omega),Int.emod_lt_of_pos _ h0, ?_⟩;have w1:fJ s=true:=by simp[fJ];omega
  have w2:fJ t=true:=by simp[fJ];omega
  have w3:fJ 48271=true:=by decide
  have w4:fJ 39373=true:=by decide
  have w5:fJ 16807=true:=by decide
  simp[F_ql,zI,bA,bS,aK,aV,bN,m2,aB,mC,cA,hJ,iC,e,jK,fP,eJ,gC,aN,jR,iP,nE,h0,aH,qA,qL,qK,h1,tD,aS,bW,bC,bR,nF,mF,sQ,w1,w2,w3,w4,w5,q1,hs,ht,hu]
def St (n:Nat) (H:Hs):Prop:=∃a b,getL H n=some [.int a,.bl b]
theorem St.fr {n:Nat}{S:xv}{H H':Hs}(s:St n H) (f:Fr S H H') (h:n∉S):St n H':=let ⟨a,b,e⟩:=s;⟨a,b,f.getL e h⟩
theorem AJ {H:Hs}{n:Nat}(m:Int) (s:St n H) (h0:0<m:=by decide) (h1:m<18446744073709551616:=by decide):
  ∃r H',0<=r/\r<m/\F_ql [.ref n,.int m] H=.ok (.int r) H'/\Fr [n] H H'/\St n H':=by
 obtain⟨a,b,e⟩:=s;obtain⟨r,a',r0,r1,ht⟩:=YE H n a b m h0 h1 e;exact⟨r,_,r0,r1,ht,Fr.set,a',b,lE e⟩
theorem YF (scr:xu) (k:Nat) (h:Hs):∃H',F_qh scr [.scr,.int k] h=.ok (.ref h.length) H'/\Fr [] h H'/\St h.length H':=by
 have cell:∃c,F_qc scr [.scr,.int k] h=.ok (.int c) h:=by
  by_cases hk:k<scr.length
  ·refine⟨scr[k], ?_⟩;have hk':(k:Int)<scr.length:=by omega
   simp[F_qc,uG,bA,bS,aK,aV,mB,m2,aB,mC,kN,aE,f1,gD,fR,aA,aC,iA,hk',hk,iC,jK,fP,eJ,aS,bW]
  ·refine⟨0, ?_⟩;have hk':¬ (k:Int)<scr.length:=by omega
   simp[F_qc,uG,bA,bS,aK,aV,mB,m2,aB,mC,kN,aE,f1,gD,fR,aA,aC,iA,hk',hk,iC,jK,fP,eJ,aS,bW,bC]
 obtain⟨c,hc⟩:=cell;have fin:∀a b,Fr [] h (h++[Ob.lst [.int a,.bl b]])/\St h.length (h++[Ob.lst [.int a,.bl b]]):=λa b=>⟨Fr.app,a,b,by rw[S5];rfl⟩
 by_cases hg:c>=1000000000000000000
 ·refine⟨_, ?_,fin (c - 1000000000000000000) true⟩;simp[F_qh,uH,bA,bS,aK,aN,aE,aA,aB,aC,hc,aH,aV,mB,m2,tM,jJ,iX,iP,pR,mC,iA,hg,aS,aO,oA,lim,bW]
 ·refine⟨_, ?_,fin (c % 2147483647) false⟩;simp[F_qh,uH,bA,bS,aK,aN,aE,aA,aB,aC,hc,aH,aV,mB,m2,tM,jJ,iX,iP,pR,mC,iA,hg,aS,aO,oA,lim,bW,bC,jR,nE]
theorem St.lt {st:Nat}{H:Hs}(s:St st H):st<H.length:=let ⟨_,_,e⟩:=s;mJ e
theorem YG {H:Hs}{q:Nat}{ks:xu}(e:getL H q=some (ks.map Dv.int)):bV (.ref q) (.ref H.length) (H++[.lst []])=.ok (.bl (!ks.isEmpty)) (H++[.lst []]):=by
 have p1:bI dI (H++[.lst []]) (.ref q)=some (.lst (ks.map Dt.int)):=by show bI (28+1+1) (H++[.lst []]) (.ref q)=_;rw[bI];simp only[iI (l:=[.lst []]) e,FR]
 have p2:bI dI (H++[.lst []]) (.ref H.length)=some (.lst []):=by
  show bI (28+1+1) (H++[.lst []]) (.ref H.length)=_;rw[bI];have:getL (H++[.lst []]) H.length=some []:=by simp[getL]
  simp only[this];rfl
 unfold bV;rw[p1,p2]
 cases ks <;> simp[bG,eV]
def vE:M Bool:=mB (m2 bV (aB 2) (aO aC))
def vF:MS:=dD (lB (aB 3) (qE (aB 2) (aE F_ql (aA (aB 0) (aA (aE (f1 dP) (aA (aB 2) aC)) aC)))))
theorem YH:zJ=aK (aN (aE (f1 fU) (aA (aB 1) aC)) (aH 2)) (aK (aN (aO aC) (aH 3)) (aK (fS vE vF 40) (aS (aB 3)))):=rfl
section
variable{st a b:Nat}{d:Dv}
theorem IJ (Ah:a≠b) (has:a≠st) (hbs:b≠st):∀(f:Nat) (ls fs:xu) (H:Hs),ls.length<f->ls.length+fs.length<=100->getL H a=some (ls.map Dv.int)->getL H b=some (fs.map Dv.int)->St st H->
  ∃(H':Hs) (ys:xu),fS vE vF f [some (.ref st),some d,some (.ref a),some (.ref b)] H=.nx [some (.ref st),some d,some (.ref a),some (.ref b)] H'/\getL H' b=some (ys.map Dv.int)/\ys.Perm (fs++ls)/\St st H'/\Fr [st,a,b] H H'
 |0,ls,fs,H,h,_,_,_,_=>by omega
 |f+1,ls,fs,H,h,hl,ea,eb,s=>by
  have tc:vE [some (.ref st),some d,some (.ref a),some (.ref b)] H=.ok (!ls.isEmpty) (H++[.lst []]):=by simp[vE,mB,m2,aB,aO,aC,lim,YG ea,iA]
  have ea1:=iI (l:=[Ob.lst []]) ea;have eb1:=iI (l:=[Ob.lst []]) eb;have g1:Fr [st,a,b] H (H++[Ob.lst []]):=Fr.app;have s1:=s.fr (Fr.app (S:=[]) (l:=[Ob.lst []])) (by simp);generalize H++[Ob.lst []]=H1 at tc ea1 eb1 g1 s1
  cases hls:ls with
  |nil=>subst hls;refine⟨H1,fs, ?_,eb1,by simp,s1,g1⟩;exact X8 tc
  |cons x r=>
   have hne:ls.isEmpty=false:=by rw[hls];rfl
   have hpos:(0:Int)<ls.length:=by rw[hls];simp
   obtain⟨k,H2,k0,k1,ht,f2,s2⟩:=AJ (ls.length:Int) s1 hpos (by omega);have ea2:=f2.getL ea1 (by simpa using has);have eb2:=f2.getL eb1 (by simpa using hbs);have hk:k.toNat<ls.length:=by omega
   have ixk:eJ (ls.map Dv.int).length k=some k.toNat:=by unfold eJ;rw[if_pos k0,bf,if_pos k1]
   have getk:(ls.map Dv.int)[k.toNat]?=some (.int ls[k.toNat]):=by simp[hk]
   have hlen:f1 dP [.ref a] H1=.ok (.int ls.length) H1:=by show(if hJ (.ref a)=true then gD [] (.ref a) H1 else .bad)=_;simp[hJ,gD,fR,ea1]
   have hz:(ls.map Dv.int).length<=1000000:=by rw[bf];omega
   have pop:tI (.ref a) (.int k) H2=.ok (.int ls[k.toNat]) (H2.set a (.lst ((ls.eraseIdx k.toNat).map Dv.int))):=by
    simp only[tI,ea2,ixk,getk,hz,if_true];have em:(ls.map Dv.int).eraseIdx k.toNat=(ls.eraseIdx k.toNat).map Dv.int:=by rw[tj,tj,js,rf,rg]
    rw[em]
   have eb3:getL (H2.set a (.lst ((ls.eraseIdx k.toNat).map Dv.int))) b=some (fs.map Dv.int):=by rw[lF Ah];exact eb2
   have ea3:getL (H2.set a (.lst ((ls.eraseIdx k.toNat).map Dv.int))) a=some ((ls.eraseIdx k.toNat).map Dv.int):=lE ea2;have f3:Fr [st,a,b] H2 (H2.set a (.lst ((ls.eraseIdx k.toNat).map Dv.int))):=Fr.set.mono (by simp);have s3:St st (H2.set a (.lst ((ls.eraseIdx k.toNat).map Dv.int))):=s2.fr Fr.set (by simpa using cu has);generalize hH3:H2.set a (.lst ((ls.eraseIdx k.toNat).map Dv.int))=H3 at pop eb3 ea3 f3 s3;have hfl:(fs.map Dv.int).length<1000000:=by rw[bf];omega
   have body:vF [some (.ref st),some d,some (.ref a),some (.ref b)] H1=.nx [some (.ref st),some d,some (.ref a),some (.ref b)] (H3.set b (.lst ((fs++[ls[k.toNat]]).map Dv.int))):=by
    have isA:gX (.ref a) H1=true:=by simp[gX,ea1]
    have isB:gX (.ref b) H1=true:=by simp[gX,eb1]
    have hpop:qE (aB 2) (aE F_ql (aA (aB 0) (aA (aE (f1 dP) (aA (aB 2) aC)) aC))) [some (.ref st),some d,some (.ref a),some (.ref b)] H1=.ok (.int ls[k.toNat]) H3:=by simp[qE,aB,isA,aE,aA,aC,hlen,ht,pop]
    have happ:pZ (.ref b) (.int ls[k.toNat]) H3=.ok .non (H3.set b (.lst ((fs++[ls[k.toNat]]).map Dv.int))):=by simp only[pZ,eb3,hfl,if_true,js];rfl
    simp[vF,dD,lB,aB,isB,hpop,happ]
   have Av:(ls.eraseIdx k.toNat).length=ls.length - 1:=uw hk;obtain⟨H',ys,w,e',pm,s',f'⟩:=IJ Ah has hbs f (ls.eraseIdx k.toNat) (fs++[ls[k.toNat]]) (H3.set b (.lst ((fs++[ls[k.toNat]]).map Dv.int))) (by omega) (by rw[de];simp;omega) (by rw[lF (cu Ah)];exact ea3) (lE eb3) (s3.fr Fr.set (by simpa using cu hbs));refine⟨H',ys, ?_,e', ?_,s', ?_⟩
   ·rw[hne]at tc;rw[IH tc body];exact w
   ·rw[<-hls];refine pm.trans ?_;rw[sk];refine ux fs ?_;have:=SR.erase_perm ls k.toNat hk;simpa using this
   ·exact(((g1.trans f2 (by simp)).trans f3 (by simp)).trans (T:=[b]) Fr.set (by simp)).trans f' (by simp)
theorem YI {H:Hs}{j:Nat}{xs:xu}(s:St st H) (e:getL H j=some (xs.map Dv.int)) (hl:xs.length<=20):∃(i:Nat) (ys:xu) (H':Hs),F_qb [.ref st,.ref j] H=.ok (.ref i) H'/\getL H' i=some (ys.map Dv.int)/\ys.Perm xs/\H.length<=i/\St st H'/\Fr [st] H H':=by
 have lt:=s.lt;have w0:aN (aE (f1 fU) (aA (aB 1) aC)) (aH 2) [some (.ref st),some (.ref j),none,none] H=.nx [some (.ref st),some (.ref j),some (.ref H.length),none] (H++[.lst (xs.map Dv.int)]):=by simp[aN,aE,f1,fU,hJ,lV,fR,aA,aB,aC,e,aH]
 have w1:aN (aO aC) (aH 3) [some (.ref st),some (.ref j),some (.ref H.length),none] (H++[.lst (xs.map Dv.int)])=.nx [some (.ref st),some (.ref j),some (.ref H.length),some (.ref (H.length+1))] (H++[.lst (xs.map Dv.int)]++[.lst []]):=by simp[aN,aO,aC,lim,aH]
 have ea:getL (H++[.lst (xs.map Dv.int)]++[.lst []]) H.length=some (xs.map Dv.int):=iI (by simp[getL]);have eb:getL (H++[.lst (xs.map Dv.int)]++[.lst []]) (H.length+1)=some (([]:xu).map Dv.int):=by simp[getL]
 have f0:Fr [st] H (H++[.lst (xs.map Dv.int)]++[.lst []]):=Fr.trans (T:=[]) Fr.app Fr.app (by simp);have s0:St st (H++[.lst (xs.map Dv.int)]++[.lst []]):=(s.fr (Fr.app (S:=[]) (l:=[.lst (xs.map Dv.int)])) (by simp)).fr (Fr.app (S:=[])) (by simp);obtain⟨H',ys,w2,e2,pm,s2,f2⟩:=IJ (st:=st) (a:=H.length) (b:=H.length+1) (d:=.ref j) (by omega) (by omega) (by omega) 40 xs [] _ (by omega) (by simp;omega) ea eb s0;refine⟨H.length+1,ys,H', ?_,e2,by simpa using pm,by omega,s2,f0.trans f2 (by simp)⟩;show bW (zJ [some (.ref st),some (.ref j),none,none] H)=_;rw[YH,bF w0,bF w1,bF w2];rfl
end
def cW (ps:xq) (p:Int×Int):xq:=(ps.filter λq=>decide (p.2=q.1)).map λq=>(p.1,q.2)
def cR (ps:xq):xq:=bT cU (ps++ps.flatMap (cW ps))
def rD:Nat->xq->Option xq 
 |0,_=>none
 |f+1,ps=>if cR ps=ps then some ps else rD f (cR ps)
def fN (n:Nat) (ps:xq):Prop:=∀p∈ps,0<=p.1/\p.1<n/\0<=p.2/\p.2<n
def Tr (ps:xq):Prop:=∀p∈ps,∀q∈ps,p.2=q.1->(p.1,q.2)∈ps
theorem YJ {ps:xq}{p r:Int×Int}:r∈cW ps p↔∃q∈ps,p.2=q.1/\r=(p.1,q.2):=by
 simp only[cW,cw,o6,decide_eq_true_eq];constructor
 ·rintro ⟨q,⟨h1,h2⟩,h3⟩;exact⟨q,h1,h2,h3.symm⟩
 ·rintro ⟨q,h1,h2,h3⟩;exact⟨q,⟨h1,h2⟩,h3.symm⟩
theorem step_mem {ps:xq}{r:Int×Int}:r∈cR ps↔r∈ps∨∃p∈ps,∃q∈ps,p.2=q.1/\r=(p.1,q.2):=by unfold cR;rw[jA fX,fg,List.mem_flatMap];simp only[YJ]
theorem AK {n:Nat}{ps:xq}(h:fN n ps):fN n (cR ps):=λr hr=>by
 rcases step_mem.mp hr with hr|⟨p,hp,q,hq,_,rfl⟩
 ·exact h r hr
 ·exact⟨(h p hp).1,(h p hp).2.1,(h q hq).2.2.1,(h q hq).2.2.2⟩
theorem rE (ps:xq):eN cU (cR ps):=lI fX _
theorem YK {ps:xq}(hr:eN cU ps):cR ps=ps↔Tr ps:=by
 constructor
 ·intro h p hp q hq e;rw[<-h];exact step_mem.mpr (.inr ⟨p,hp,q,hq,e,rfl⟩)
 ·intro h;refine tQ fX (rE ps) hr λr=>?_;rw[step_mem];constructor
  ·rintro (hr|⟨p,hp,q,hq,e,rfl⟩)
   ·exact hr
   ·exact h p hp q hq e
  ·exact λh=>.inl h
theorem YL {ps:xq}(hr:eN cU ps) (hne:cR ps≠ps):ps.length<(cR ps).length:=by
 have nd:=oE fX hr;have sub:∀r∈ps,r∈cR ps:=λr h=>step_mem.mpr (.inl h);have h1:=nd.length_le_of_subset sub
 rcases ij ps.length (cR ps).length with h|h
 ·exact h
 ·exfalso
  apply hne
  have sub2:∀r∈cR ps,r∈ps:=λr hr'=>by
   by_cases hm:r∈ps
   ·exact hm
   ·exfalso
    have nd2:(r::ps).Nodup:=jo.mpr ⟨hm,nd⟩;have:=nd2.length_le_of_subset (l₂:=cR ps) λx hx=>by
     rcases ba.mp hx with rfl|hx
     ·exact hr'
     ·exact sub x hx
    simp at this;omega
  exact tQ fX (rE ps) hr λr=>⟨sub2 r,sub r⟩
theorem IK {n:Nat}(hn:n<=6):∀(f:Nat) (ps:xq),eN cU ps->fN n ps->36<f+ps.length->∃cs,rD f ps=some cs/\eN cU cs/\fN n cs/\Tr cs/\(∀p∈ps,p∈cs)/\∀R:Int->Int->Prop,(∀a b c,R a b->R b c->R a c)->(∀p∈ps,R p.1 p.2)->∀p∈cs,R p.1 p.2
 |0,ps,hr,hi,h=>by have h1:=mV hr hi;have h2:n*n<=6*6:=kh hn hn;omega
 |f+1,ps,hr,hi,h=>by
  unfold rD
  split
  ·rename_i e;exact⟨ps,rfl,hr,hi,(YK hr).mp e,λp hp=>hp,λR _ h=>h⟩
  ·rename_i e;have:=YL hr e;obtain⟨cs,h1,h2,h3,h4,h5,h6⟩:=IK hn f (cR ps) (rE ps) (AK hi) (by omega);refine⟨cs,h1,h2,h3,h4,λp hp=>h5 p (step_mem.mpr (.inl hp)),λR ht hR=>h6 R ht λr hr'=>?_⟩
   rcases step_mem.mp hr' with hr'|⟨p,hp,q,hq,e,rfl⟩
   ·exact hR r hr'
   ·refine ht _ p.2 _ (hR p hp) ?_;rw[e];exact hR q hq
theorem YM {α:Type}{f:α->Dv}{H:Hs}{i k:Nat}{xs:List α}(e:getL H i=some (xs.map f)) (hk:k<xs.length):(cC i xs.length).get k H=some (f xs[k]):=by simp[cC,e,hk]
theorem YN {α:Type}{f:α->Dv}{H:Hs}{i:Nat}{xs:List α}(e:getL H i=some (xs.map f)):(cC i xs.length).fin H=true:=by simp[cC,e]
theorem IL:∀ps:xq,aY lK (ps.map aI)=some (ps.map bK)
 | []=>rfl
 |p::ps=>by rw[dy,aY,IL ps];rfl
theorem IM (ps:xq):oH (ps.map bK)=true:=by simp[oH,bK]
theorem IP (ps:xq):(ps.map bK).map oG=ps.map aI:=by rw[om];rfl
section
variable{H:Hs}{ps:xq}{d:Dv}
theorem IQ (h:mM d H=some (ps.map bK)) (hl:(bT cU ps).length<64):jV d H=.ok (.ref H.length) (H++[.lst ((bT cU ps).map aI)]):=by unfold jV;rw[h];dsimp only;rw[GA qQ,bf,if_pos (by rw[IM];simpa using hl),IP]
theorem AL {i j:Nat}{ps qs:xq}(ei:getL H i=some (ps.map aI)) (ej:getL H j=some (qs.map aI)):bZ (.ref i) (.ref j) H=.ok (.bl (decide (ps=qs))) H:=by
 have p:∀(i:Nat) (ps:xq),getL H i=some (ps.map aI)->bI dI H (.ref i)=some (.lst (ps.map lG)):=λi ps e=>by show bI (27+2+1) H (.ref i)=_;rw[bI];simp only[e,FT]
 have dq:∀ps qs:xq,eV (ps.map lG) (qs.map lG)=decide (ps=qs):=λps=>by
  induction ps with
  |nil=>intro qs;cases qs <;> simp[eV]
  |cons p ps ih=>
   intro qs
   cases qs with
   |nil=>simp[eV]
   |cons q qs=>simp only[dy,eV,TL,ih];rw[jr];simp
 unfold bZ;rw[p i ps ei,p j qs ej];simp only[bG,dq]
def oJ:M yb :=dY (cO cZ (aB 1)) [none,none,some 3,some 4] (eY 2 (bP (aH 0) (bP (aH 1) eK))) (mB (m2 bZ (aB 3) (aB 0))) (dO (bD (aA (aB 2) (aA (aB 1) aC))))
def oK:MS:=aK (aN (aE (f1 fU) (aA (aB 1) aC)) (aH 2)) (aK (eZ (cO cZ (aB 1)) (eY 2 (bP (aH 3) (bP (aH 4) eK))) (dD (mE (aB 2) oJ))) (aK (aN (aE (f1 jV) (aA (aB 2) aC)) (aH 2)) (aK (aV (mB (m2 bZ (aB 2) (aB 1))) (aS (aB 1)) bC) (aN (aB 2) (aH 1)))))
theorem YO:gM=aK (aN (aE (f1 jV) (aA (aB 0) aC)) (aH 1)) (fS (bN (mC (.bl true))) oK 40):=rfl
theorem YQ {x0 x2:yc}{i:Nat}{p:Int×Int}(hl:ps.length<=1000) (e:getL H i=some (ps.map aI)):oJ [x0,some (.ref i),x2,some (.int p.1),some (.int p.2)] H=.ok ((cW ps p).map aI) H:=by
 have hi:cO cZ (aB 1) [x0,some (.ref i),x2,some (.int p.1),some (.int p.2)] H=.ok (cC i ps.length) H:=by simp[cO,aB,cZ,e]
 have h:oJ [x0,some (.ref i),x2,some (.int p.1),some (.int p.2)] H=.ok (ps.filterMap λq=>if p.2=q.1 then some (aI (p.1,q.2))else none) H:=
  mU ps (λq=>if p.2=q.1 then some (aI (p.1,q.2))else none) (λρ=>∃a b,ρ=[a,b,some (.int p.1),some (.int p.2)]) hi rfl ⟨_,_,rfl⟩ (by simp[cC,e]) (λk hk ρ ⟨a,b,er⟩=>by
   subst er;refine⟨aI ps[k],[some (.int ps[k].1),some (.int ps[k].2),some (.int p.1),some (.int p.2)],by simp[cC,e,hk],rfl,⟨_,_,rfl⟩, ?_⟩;have te:mB (m2 bZ (aB 3) (aB 0)) [some (.int ps[k].1),some (.int ps[k].2),some (.int p.1),some (.int p.2)] H=.ok (decide (p.2=ps[k].1)) H:=by simp[mB,m2,aB,bZ,dI,bI,bG,iA];rw[jr];simp
   by_cases c:p.2=ps[k].1
   ·rw[if_pos c];rw[decide_eq_true c]at te;exact⟨te,rfl⟩
   ·rw[if_neg c];rw[decide_eq_false c]at te;exact te) (by omega)
 rw[h]
 congr 1
 unfold cW;rw[om];have:∀l:xq,l.filterMap (λq=>if p.2=q.1 then some (aI (p.1,q.2))else none)=(l.filter λq=>decide (p.2=q.1)).map (aI∘λq=>(p.1,q.2)):=λl=>by
  induction l with
  |nil=>rfl
  |cons q l ih=>
   rw[cj,List.filter_cons,ih]
   by_cases c:p.2=q.1 <;> simp[c]
 exact this ps
theorem IS (ps:xq) (p:Int×Int):(cW ps p).length<=ps.length:=by unfold cW;rw[bf];exact List.length_filter_le _ _
theorem IT (ps:xq):∀l:xq,(l.flatMap (cW ps)).length<=l.length*ps.length
 | []=>by simp
 |p::l=>by have h1:=IS ps p;have h2:=IT ps l;rw[pb,de,cn,Nat.succ_mul];omega
theorem YR {x0 x3 x4:yc}{i j:Nat}(zl:i≠j) (hl:ps.length<=40) (ei:getL H i=some (ps.map aI)) (ej:getL H j=some (ps.map aI)):
  ∃y3 y4,eZ (cO cZ (aB 1)) (eY 2 (bP (aH 3) (bP (aH 4) eK))) (dD (mE (aB 2) oJ)) [x0,some (.ref i),some (.ref j),x3,x4] H=.nx [x0,some (.ref i),some (.ref j),y3,y4] (H.set j (.lst ((ps++ps.flatMap (cW ps)).map aI))):=by
 have hi:cO cZ (aB 1) [x0,some (.ref i),some (.ref j),x3,x4] H=.ok (cC i ps.length) H:=by simp[cO,aB,cZ,ei]
 have self:H.set j (.lst (ps.map aI))=H:=by
  apply mj
  intro k
  by_cases hk:j=k
  ·subst hk;rw[cx (mJ ej),cE ej]
  ·rw[dw hk]
 obtain⟨ρ',H',h1,y3,y4,h2,h3⟩:=FQ (b:=dD (mE (aB 2) oJ)) (sg:=eY 2 (bP (aH 3) (bP (aH 4) eK))) hi (λk ρ H'=>∃(y3 y4:yc),ρ=[x0,some (.ref i),some (.ref j),y3,y4]/\H'=H.set j (.lst ((ps++(ps.take k).flatMap (cW ps)).map aI)))
  (λk ρ H' hk ⟨y3,y4,e1,e2⟩=>by
   subst e1;subst e2;have hk':k<ps.length:=hk;have ei':getL (H.set j (.lst ((ps++(ps.take k).flatMap (cW ps)).map aI))) i=some (ps.map aI):=by rw[lF (cu zl)];exact ei
   have ej':getL (H.set j (.lst ((ps++(ps.take k).flatMap (cW ps)).map aI))) j=some ((ps++(ps.take k).flatMap (cW ps)).map aI):=lE ej;have hlen:(ps++(ps.take k).flatMap (cW ps)).length<=40+40*40:=by have h1:=IT ps (ps.take k);have h2:(ps.take k).length*ps.length<=40*40:=kh (by rw[jc];omega) hl;rw[de];omega
   have hf:=IS ps ps[k];refine⟨aI ps[k],[x0,some (.ref i),some (.ref j),some (.int ps[k].1),some (.int ps[k].2)],[x0,some (.ref i),some (.ref j),some (.int ps[k].1),some (.int ps[k].2)],_,YM ei' hk',rfl, ?_,_,_,rfl,rfl⟩;have hc:=YQ (x0:=x0) (x2:=some (.ref j)) (p:=ps[k]) (by omega) ei';generalize hG:H.set j (.lst ((ps++(ps.take k).flatMap (cW ps)).map aI))=G at ei' ej' hc;have isJ:gX (.ref j) G=true:=by simp[gX,ej']
   have hz:((ps++(ps.take k).flatMap (cW ps)).map aI).length+((cW ps ps[k]).map aI).length<=1000000:=by rw[bf,bf];omega
   have hx:sZ (.ref j) ((cW ps ps[k]).map aI) G=.ok .non (G.set j (.lst ((ps++(ps.take (k+1)).flatMap (cW ps)).map aI))):=by unfold sZ;simp only[ej',lim,hz,if_true];rw[List.take_succ_eq_append_getElem hk',List.flatMap_append,<-js];simp[sk]
   have:mE (aB 2) oJ [x0,some (.ref i),some (.ref j),some (.int ps[k].1),some (.int ps[k].2)] G=.ok .non (G.set j (.lst ((ps++(ps.take (k+1)).flatMap (cW ps)).map aI))):=by unfold mE;show(Rs.ok (Dv.ref j) G).bind _=_;rw[Rs.bind_ok,if_pos isJ,hc,Rs.bind_ok,hx]
   unfold dD;rw[this,<-hG,List.set_set];rfl)
  (λρ H' ⟨_,_,_,e2⟩=>by
   subst e2;have ei':getL (H.set j (.lst ((ps++(ps.take (cC i ps.length).n).flatMap (cW ps)).map aI))) i=some (ps.map aI):=by rw[lF (cu zl)];exact ei
   exact YN ei') ⟨x3,x4,rfl,by simp[self]⟩
 refine⟨y3,y4, ?_⟩;rw[h1,h2,h3];simp[cC]
end
section
variable{H:Hs}{ps:xq}
theorem IU {i:Nat}(e:getL H i=some (ps.map aI)):mM (.ref i) H=some (ps.map bK):=by simp only[mM,e,IL]
theorem AM {x0 x2 x3 x4:yc}{i:Nat}(hl:ps.length<=40) (hs:(cR ps).length<64) (e:getL H i=some (ps.map aI)):
  ∃H',Fr [] H H'/\getL H' i=some (ps.map aI)/\if cR ps=ps then oK [x0,some (.ref i),x2,x3,x4] H=.rt (.ref i) H' else ∃(j:Nat) (y2 y3 y4:yc),oK [x0,some (.ref i),x2,x3,x4] H=.nx [x0,some (.ref j),y2,y3,y4] H'/\getL H' j=some ((cR ps).map aI):=by
 have li:=mJ e;have w0:aN (aE (f1 fU) (aA (aB 1) aC)) (aH 2) [x0,some (.ref i),x2,x3,x4] H=.nx [x0,some (.ref i),some (.ref H.length),x3,x4] (H++[.lst (ps.map aI)]):=by simp[aN,aE,f1,fU,hJ,lV,fR,aA,aB,aC,e,aH]
 have ei:=iI (l:=[Ob.lst (ps.map aI)]) e;have ej:getL (H++[Ob.lst (ps.map aI)]) H.length=some (ps.map aI):=by simp[getL]
 have f0:Fr [] H (H++[Ob.lst (ps.map aI)]):=Fr.app;generalize H++[Ob.lst (ps.map aI)]=H0 at w0 ei ej f0;obtain⟨y3,y4,w1⟩:=YR (x0:=x0) (x3:=x3) (x4:=x4) (i:=i) (j:=H.length) (by omega) hl ei ej;have ei1:getL (H0.set H.length (.lst ((ps++ps.flatMap (cW ps)).map aI))) i=some (ps.map aI):=by rw[lF (by omega)];exact ei
 have ej1:getL (H0.set H.length (.lst ((ps++ps.flatMap (cW ps)).map aI))) H.length=some ((ps++ps.flatMap (cW ps)).map aI):=lE ej;have f1':Fr [] H (H0.set H.length (.lst ((ps++ps.flatMap (cW ps)).map aI))):=f0.trans (T:=[H.length]) Fr.set (by simp);generalize H0.set H.length (.lst ((ps++ps.flatMap (cW ps)).map aI))=H1 at w1 ei1 ej1 f1';have w2:aN (aE (f1 jV) (aA (aB 2) aC)) (aH 2) [x0,some (.ref i),some (.ref H.length),y3,y4] H1=.nx [x0,some (.ref i),some (.ref H1.length),y3,y4] (H1++[.lst ((cR ps).map aI)]):=by have hq:=IQ (IU ej1) hs;simp[aN,aE,f1,aA,aB,aC,hq,aH,cR]
 have ei2:=iI (l:=[Ob.lst ((cR ps).map aI)]) ei1;have ej2:getL (H1++[Ob.lst ((cR ps).map aI)]) H1.length=some ((cR ps).map aI):=by simp[getL]
 have f2:Fr [] H (H1++[Ob.lst ((cR ps).map aI)]):=f1'.trans (T:=[]) Fr.app (by simp);generalize hH2:H1++[Ob.lst ((cR ps).map aI)]=H2 at w2 ei2 ej2 f2;have t:mB (m2 bZ (aB 2) (aB 1)) [x0,some (.ref i),some (.ref H1.length),y3,y4] H2=.ok (decide (cR ps=ps)) H2:=by simp[mB,m2,aB,AL ej2 ei2,iA]
 refine⟨H2,f2,ei2, ?_⟩
 by_cases c:cR ps=ps
 ·rw[if_pos c];unfold oK;rw[bF w0,bF w1,bF w2];unfold aK;rw[qM (t.trans (by rw[decide_eq_true c]))];rfl
 ·rw[if_neg c];refine⟨H1.length,some (.ref H1.length),y3,y4, ?_,ej2⟩;unfold oK;rw[bF w0,bF w1,bF w2,bF (ρ1:=[x0,some (.ref i),some (.ref H1.length),y3,y4]) (h1:=H2) (by rw[kK (t.trans (by rw[decide_eq_false c]))];rfl)];rfl
theorem IV {n:Nat}(hn:n<=6) {cs:xq}:∀(f:Nat) (ps:xq) (H:Hs) (i:Nat) (x0 x2 x3 x4:yc),eN cU ps->fN n ps->rD f ps=some cs->getL H i=some (ps.map aI)->
  ∃(j:Nat) (H':Hs),fS (bN (mC (.bl true))) oK f [x0,some (.ref i),x2,x3,x4] H=.rt (.ref j) H'/\getL H' j=some (cs.map aI)/\Fr [] H H'
 |0,ps,H,i,x0,x2,x3,x4,hr,hi,h,e=>by cases h
 |f+1,ps,H,i,x0,x2,x3,x4,hr,hi,h,e=>by
  have sq:n*n<=6*6:=kh hn hn;have l1:=mV hr hi;have l2:=mV (rE ps) (AK hi);obtain⟨H1,f1,e1,c1⟩:=AM (x0:=x0) (x2:=x2) (x3:=x3) (x4:=x4) (by omega) (by omega) e;have tt:bN (mC (.bl true)) [x0,some (.ref i),x2,x3,x4] H=.ok true H:=rfl;unfold rD at h
  split at h
  ·rename_i c;cases h;rw[if_pos c]at c1;exact⟨i,H1,X9 tt c1,e1,f1⟩
  ·rename_i c;rw[if_neg c]at c1;obtain⟨j,y2,y3,y4,c2,ej⟩:=c1;obtain⟨k,H2,w,ek,f2⟩:=IV hn f (cR ps) H1 j x0 y2 y3 y4 (rE ps) (AK hi) h ej;exact⟨k,H2,by rw[IH tt c2];exact w,ek,f1.trans f2 (by simp)⟩
def kR (n:Nat) (ps cs:xq):Prop:=eN cU cs/\fN n cs/\Tr cs/\(∀p∈ps,p∈cs)/\∀R:Int->Int->Prop,(∀a b c,R a b->R b c->R a c)->(∀p∈ps,R p.1 p.2)->∀p∈cs,R p.1 p.2
theorem YS {n:Nat}{d:Dv}(hn:n<=6) (hi:fN n ps) (h:mM d H=some (ps.map bK)):∃(cs:xq) (j:Nat) (H':Hs),kR n ps cs/\F_qf [d] H=.ok (.ref j) H'/\getL H' j=some (cs.map aI)/\Fr [] H H':=by
 have hs:fN n (bT cU ps):=λp hp=>hi p ((jA fX p ps).mp hp);have hr:=lI fX ps;have sq:n*n<=6*6:=kh hn hn;have l1:=mV hr hs;obtain⟨cs,c1,c2,c3,c4,c5,c6⟩:=IK hn 40 _ hr hs (by omega);have w0:aN (aE (f1 jV) (aA (aB 0) aC)) (aH 1) [some d,none,none,none,none] H=.nx [some d,some (.ref H.length),none,none,none] (H++[.lst ((bT cU ps).map aI)]):=by have hq:=IQ h (by omega);simp[aN,aE,f1,aA,aB,aC,hq,aH]
 obtain⟨j,H',w1,ej,f1'⟩:=IV hn 40 (bT cU ps) (H++[.lst ((bT cU ps).map aI)]) H.length (some d) none none none hr hs c1 (by simp[getL]);refine⟨cs,j,H',⟨c2,c3,c4,λp hp=>c5 p ((jA fX p ps).mpr hp),λR ht hR=>c6 R ht λp hp=>hR p ((jA fX p ps).mp hp)⟩, ?_,ej,(Fr.app (S:=[]) (l:=[.lst ((bT cU ps).map aI)])).trans f1' (by simp)⟩;show bW (gM [some d,none,none,none,none] H)=_;rw[YO,bF w0,w1];rfl
end
theorem eq_int (x y:Int) (H:Hs):bZ (.int x) (.int y) H=.ok (.bl (x==y)) H:=by simp[bZ,dI,bI,bG]
theorem YT {m:Int}(h0:0<=m) (h:m<=100):nQ m=true:=by
 have h1:(-4611686018427387904:Int)<=m:=by omega
 have h2:m<4611686018427387904:=by omega
 unfold nQ;rw[decide_eq_true h1,decide_eq_true h2];rfl
theorem IW {H:Hs}{j:Int}(h0:0<=j) (h1:j<=100):dN [.int j] H=.ok (dM 0 j) H:=by simp only[dN,YT h0 h1,if_true]
end L2.Mr.Com
namespace L2
open PySem PySem.Spec PyProof.Rows
end L2
namespace L2.Mr
open PySem PySem.Spec PyProof.Rows
end L2.Mr
namespace L2.Mr.Cod
open PySem PySem.Spec PyProof.Rows L2 L2.Mr L2.Mr.Com
open L2.Mr.Com hiding gM F_qf
section
variable{st n:Nat}
theorem AN {H:Hs}(hn:n<=6):kP (.int n) H=.ok (.ref H.length) (H++[.lst ((bH n).map Dv.int)]):=by
 have c:(decide (0<=(n:Int))&&decide ((n:Int)<=1000))=true:=by simp;omega
 simp only[kP,c,if_true]
def wS (m:Int) (S:xq) (a b:Int):xq:=if(a,m)∈S/\(m,b)∈S/\(a,b)∉S then S++[(a,b)]else S
def wB (m a:Int) (bs:xu) (S:xq):xq:=bs.foldl (λS b=>wS m S a b) S
def wA (m:Int) (as bs:xu) (S:xq):xq:=as.foldl (λS a=>wB m a bs S) S
def wM (ms xs:xu) (S:xq):xq:=ms.foldl (λS m=>wA m xs xs S) S
theorem rG {m a b:Int}{S:xq}{p:Int×Int}(h:p∈S):p∈wS m S a b:=by unfold wS;split <;> simp[h]
theorem vG {m a b:Int}{S:xq}{p:Int×Int}(h:p∈wS m S a b):p∈S∨(p=(a,b)/\(a,m)∈S/\(m,b)∈S):=by
 unfold wS at h
 split at h
 ·rename_i c
  rcases fg.mp h with h|h
  ·exact .inl h
  ·exact .inr ⟨cy.mp h,c.1,c.2.1⟩
 ·exact .inl h
theorem wS_in {m a b x:Int}{S:xq}:(x,m)∈wS m S a b↔(x,m)∈S:=by
 refine⟨λh=>?_,rG⟩
 rcases vG h with h|⟨e,h1,_⟩
 ·exact h
 ·cases e;exact h1
theorem wS_out {m a b x:Int}{S:xq}:(m,x)∈wS m S a b↔(m,x)∈S:=by
 refine⟨λh=>?_,rG⟩
 rcases vG h with h|⟨e,_,h1⟩
 ·exact h
 ·cases e;exact h1
theorem rH {m a:Int}{p:Int×Int}:∀{bs:xu}{S:xq},p∈S->p∈wB m a bs S
 | [],_,h=>h
 |b::bs,S,h=>rH (bs:=bs) (rG (b:=b) h)
theorem wB_in {m a x:Int}:∀{bs:xu}{S:xq},(x,m)∈wB m a bs S↔(x,m)∈S
 | [],_=>Iff.rfl
 |b::bs,S=>(wB_in (bs:=bs) (S:=wS m S a b)).trans wS_in
theorem Bd {m a x:Int}:∀{bs:xu}{S:xq},(m,x)∈wB m a bs S↔(m,x)∈S
 | [],_=>Iff.rfl
 |b::bs,S=>(Bd (bs:=bs) (S:=wS m S a b)).trans wS_out
theorem IX {m a:Int}{p:Int×Int}:∀{bs:xu}{S:xq},p∈wB m a bs S->p∈S∨(p.1,m)∈S/\(m,p.2)∈S
 | [],_,h=>.inl h
 |b::bs,S,h=>by
  rcases IX (bs:=bs) (S:=wS m S a b) h with h|⟨h1,h2⟩
  ·rcases vG h with h|⟨e,h1,h2⟩
   ·exact .inl h
   ·subst e;exact .inr ⟨h1,h2⟩
  ·exact .inr ⟨wS_in.mp h1,wS_out.mp h2⟩
theorem IY {m a b:Int}:∀{bs:xu}{S:xq},b∈bs->(a,m)∈S->(m,b)∈S->(a,b)∈wB m a bs S
 |c::bs,S,hb,h1,h2=>by
  rcases ba.mp hb with rfl|hb
  ·refine rH (bs:=bs) ?_;show(a,b)∈wS m S a b;unfold wS
   by_cases q:(a,b)∈S
   ·rw[if_neg (λz=>z.2.2 q)];exact q
   ·rw[if_pos ⟨h1,h2,q⟩];simp
  ·exact IY (bs:=bs) hb (rG h1) (rG h2)
theorem vH {m:Int}{bs:xu}{p:Int×Int}:∀{as:xu}{S:xq},p∈S->p∈wA m as bs S
 | [],_,h=>h
 |a::as,S,h=>vH (as:=as) (rH h)
theorem wA_in {m x:Int}{bs:xu}:∀{as:xu}{S:xq},(x,m)∈wA m as bs S↔(x,m)∈S
 | [],_=>Iff.rfl
 |a::as,S=>(wA_in (as:=as) (S:=wB m a bs S)).trans wB_in
theorem Be {m x:Int}{bs:xu}:∀{as:xu}{S:xq},(m,x)∈wA m as bs S↔(m,x)∈S
 | [],_=>Iff.rfl
 |a::as,S=>(Be (as:=as) (S:=wB m a bs S)).trans Bd
theorem oM {m:Int}{bs:xu}{p:Int×Int}:∀{as:xu}{S:xq},p∈wA m as bs S->p∈S∨(p.1,m)∈S/\(m,p.2)∈S
 | [],_,h=>.inl h
 |a::as,S,h=>by
  rcases oM (as:=as) (S:=wB m a bs S) h with h|⟨h1,h2⟩
  ·exact IX h
  ·exact .inr ⟨wB_in.mp h1,Bd.mp h2⟩
theorem rJ {m a b:Int}{bs:xu}(hb:b∈bs):∀{as:xu}{S:xq},a∈as->(a,m)∈S->(m,b)∈S->(a,b)∈wA m as bs S
 |c::as,S,ha,h1,h2=>by
  rcases ba.mp ha with rfl|ha
  ·exact vH (as:=as) (IY hb h1 h2)
  ·exact rJ hb (as:=as) ha (rH h1) (rH h2)
def mW (xs:xu) (S:xq):Prop:=∀p∈S,p.1∈xs/\p.2∈xs
theorem YU {m:Int}{xs as bs:xu}{S:xq}(h:mW xs S):mW xs (wA m as bs S):=λp hp=>by
 rcases oM hp with hp|⟨h1,h2⟩
 ·exact h p hp
 ·exact⟨(h _ h1).1,(h _ h2).2⟩
theorem YV {m k:Int}{xs:xu}{S:xq}(hX:mW xs S) (hk:∀a b,(a,k)∈S->(k,b)∈S->(a,b)∈S):∀a b,(a,k)∈wA m xs xs S->(k,b)∈wA m xs xs S->(a,b)∈wA m xs xs S:=λa b h1 h2=>by
 rcases oM h1 with h1|⟨h1,h1'⟩ <;> rcases oM h2 with h2|⟨h2,h2'⟩
 ·exact vH (hk a b h1 h2)
 ·exact rJ (hX _ h2').2 (hX _ h1).1 (hk _ _ h1 h2) h2'
 ·exact rJ (hX _ h2).2 (hX _ h1).1 h1 (hk _ _ h1' h2)
 ·exact rJ (hX _ h2').2 (hX _ h1).1 h1 h2'
theorem AO {xs:xu}:∀{ms:xu}{S:xq}(D:Int->Prop),mW xs S->(∀k,D k->∀a b,(a,k)∈S->(k,b)∈S->(a,b)∈S)->
  mW xs (wM ms xs S)/\(∀p∈S,p∈wM ms xs S)/\∀k,D k∨k∈ms->∀a b,(a,k)∈wM ms xs S->(k,b)∈wM ms xs S->(a,b)∈wM ms xs S
 | [],S,D,hX,h=>⟨hX,λ_ hp=>hp,λk hk=>h k (hk.resolve_right (by simp))⟩
 |m::ms,S,D,hX,h=>by
  obtain⟨h1,h2,h3⟩:=AO (ms:=ms) (S:=wA m xs xs S) (λk=>D k∨k=m) (YU hX) (λk hk=>by
   rcases hk with hk|rfl
   ·exact YV hX (h k hk)
   ·exact λa b q1 q2=>rJ (hX _ (Be.mp q2)).2 (hX _ (wA_in.mp q1)).1 (wA_in.mp q1) (Be.mp q2))
  refine⟨h1,λp hp=>h2 p (vH hp),λk hk=>h3 k ?_⟩
  rcases hk with hk|hk
  ·exact .inl (.inl hk)
  ·rcases ba.mp hk with hk|hk
   ·exact .inl (.inr hk)
   ·exact .inr hk
end
section
variable{n i:Nat}{H:Hs}{S:xq}{m a b:Int}{x0 x1 x3 x4 x5:yc}
theorem vI {bd:MS}{k:Nat}{ρ:Ev}(h0:∀H,aQ dN (aA (aB 0) aC) ρ H=.ok (dM 0 n) H) (P:Nat->xq->Ev->Hs->Prop) (g:xq->Int->xq)
  (step:∀(j:Nat) S ρ H,j<n->P j S ρ H->∃ρ1 ρ2 H',aH k (.int j) ρ=some ρ1/\bd ρ1 H=.nx ρ2 H'/\P (j+1) (g S j) ρ2 H') (hP:P 0 S ρ H):
  ∃ρ' H',eZ (aQ dN (aA (aB 0) aC)) (aH k) bd ρ H=.nx ρ' H'/\P n ((bH n).foldl g S) ρ' H':=by
 obtain⟨ρ',H',w,h⟩:=FQ (sg:=aH k) (b:=bd) (h0 H) (λj ρ H=>P j (((bH n).take j).foldl g S) ρ H)
  (λj ρ H hj h=>by
   have hj':j<n:=by simpa[dM]using hj
   obtain⟨ρ1,ρ2,H',e1,e2,e3⟩:=step j _ ρ H hj' h;refine⟨.int j,ρ1,ρ2,H',by simp[dM],e1,e2, ?_⟩;have hq:(bH n).take (j+1)=(bH n).take j++[(j:Int)]:=by
    have hl:j<(bH n).length:=by simp[bH];omega
    rw[List.take_add_one];have:(bH n)[j]?=some (j:Int):=by rw[bh hl];simp[bH]
    rw[this];rfl
   rw[hq,List.foldl_append];exact e3) (λ_ _ _=>rfl) (by simpa using hP)
 refine⟨ρ',H',w, ?_⟩;have:(dM 0 (n:Int)).n=n:=by simp[dM]
 rw[this,md (by simp[bH])]at h;exact h
theorem vJ (hn:n<=6) {ρ:Ev}:∀H,aQ dN (aA (aB 0) aC) (some (.int n)::ρ) H=.ok (dM 0 n) H:=λH=>by have q:aA (aB 0) aC (some (.int (n:Int))::ρ) H=.ok [.int n] H:=rfl;unfold aQ;rw[q,Rs.bind_ok];exact IW (by omega) (by omega)
theorem IZ:(wS m S a b).length<=S.length+1:=by unfold wS;split <;> simp
end
end L2.Mr.Cod
namespace L2.Mr.K02
open PySem PySem.Spec PyProof.Rows L2 L2.Mr
open L2.Mr.Com
open L2.Mr.Cod (wS wB wA wM vG oM AO mW vI vJ IZ)
section
variable{n i q:Nat}{H:Hs}{S ps:xq}{m a b:Int}{x0 x1 x3 x4 x5:yc}
theorem YW {ks:xr}(e:getD H q=some ks):q<H.length:=(ay.mp (qX e)).1
theorem I0 {ks ks':xr}(e:getD H q=some ks):getD (H.set q (.dct ks')) q=some ks':=by unfold getD;rw[cx (YW e)]
def dG (S:xq) (p:Int×Int):xq:=if p∈S then S else S++[p]
theorem Al {p:Int×Int}:bK p∈S.map bK↔p∈S:=by rw[cw];exact⟨λ⟨r,h,e⟩=>F6 e▸h,λh=>⟨p,h,rfl⟩⟩
theorem YX (S:xq) (p:Int×Int):fM (S.map bK) (bK p)=(dG S p).map bK:=by
 unfold fM dG
 by_cases h:p∈S
 ·rw[if_pos h,if_pos (Al.mpr h)]
 ·rw[if_neg h,if_neg (λz=>h (Al.mp z)),js];rfl
theorem JA (p:Int×Int):aY dZ [Dv.int p.1,.int p.2]=some (bK p):=rfl
theorem JB (p:Int×Int) (e:getD H q=some (S.map bK)):lN (aI p) (.ref q) H=.ok (.bl (decide (p∈S))) H:=by
 have h:decide (bK p∈S.map bK)=decide (p∈S):=by simp only[Al]
 show(match getD H q,aY dZ [Dv.int p.1,.int p.2]with
  |some ks,some k=>Rs.ok (Dv.bl (decide (k∈ks))) H
  |_,_=>.bad)=_
 rw[e,JA];dsimp only;rw[h]
theorem JC (p:Int×Int) (e:getD H q=some (S.map bK)) (hl:S.length<1000000):mP (.ref q) (aI p) (.bl true) H=some (H.set q (.dct ((dG S p).map bK))):=by
 show(match getD H q,aY dZ [Dv.int p.1,.int p.2]with
  |some ks,some k=>if ks.length<1000000 then some (H.set q (.dct (fM ks k)))else none
  |_,_=>none)=_
 rw[e,JA];dsimp only;rw[if_pos (by rw[bf];exact hl),YX]
def oO:MS:=aV (gU (mB (m2 lN (bD (aA (aB 4) (aA (aB 3) aC))) (aB 2))) (mB (m2 lN (bD (aA (aB 3) (aA (aB 5) aC))) (aB 2)))) (uO (aB 2) (bD (aA (aB 4) (aA (aB 5) aC))) (mC (.bl true))) bC
def AQ:MS:=eZ (aQ dN (aA (aB 0) aC)) (aH 5) oO
def AR:MS:=eZ (aQ dN (aA (aB 0) aC)) (aH 4) AQ
theorem YY:zP=aK (qZ (cO cZ (aB 1)) [none] (aH 0) (aB 0) (mC (.bl true)) 2) (aK (eZ (aQ dN (aA (aB 0) aC)) (aH 3) AR) (aS (aE (f1 mQ) (aA (aB 2) aC)))):=rfl
theorem YZ (e:getD H q=some (S.map bK)) (hl:S.length<=500):
  ∃H',oO [x0,x1,some (.ref q),some (.int m),some (.int a),some (.int b)] H=.nx [x0,x1,some (.ref q),some (.int m),some (.int a),some (.int b)] H'/\getD H' q=some ((wS m S a b).map bK)/\Fr [q] H H':=by
 have t1:=JB (a,m) e;have t2:=JB (m,b) e;have t3:=JC (a,b) e (by omega);simp only[aI]at t1 t2 t3
 by_cases c1:(a,m)∈S
 ·by_cases c2:(m,b)∈S
  ·refine⟨H.set q (.dct ((dG S (a,b)).map bK)), ?_, ?_,Fr.set⟩
   ·simp[oO,aV,gU,mB,m2,bD,aA,aB,aC,mC,lim,t1,t2,t3,c1,c2,iA,uO]
   ·rw[I0 e];unfold wS dG
    by_cases c3:(a,b)∈S
    ·rw[if_pos c3,if_neg (λz=>z.2.2 c3)]
    ·rw[if_neg c3,if_pos ⟨c1,c2,c3⟩]
  ·refine⟨H, ?_,by unfold wS;rw[if_neg (λz=>c2 z.2.1)];exact e,Fr.refl⟩;simp[oO,aV,gU,mB,m2,bD,aA,aB,aC,lim,t1,t2,c1,c2,iA,bC]
 ·refine⟨H, ?_,by unfold wS;rw[if_neg (λz=>c1 z.1)];exact e,Fr.refl⟩;simp[oO,aV,gU,mB,m2,bD,aA,aB,aC,lim,t1,c1,iA,bC]
theorem Y0 (hn:n<=6) (e:getD H q=some (S.map bK)) (hl:S.length<=400):
  ∃y5 H',AQ [some (.int n),x1,some (.ref q),some (.int m),some (.int a),x5] H=.nx [some (.int n),x1,some (.ref q),some (.int m),some (.int a),y5] H'/\getD H' q=some ((wB m a (bH n) S).map bK)/\(wB m a (bH n) S).length<=S.length+n/\Fr [q] H H':=by
 obtain⟨ρ',H',w,y5,e1,e2,e3,e4⟩:=vI (S:=S) (H:=H) (bd:=oO) (k:=5) (ρ:=[some (.int n),x1,some (.ref q),some (.int m),some (.int a),x5]) (vJ hn) (λj S' ρ H'=>∃y5,ρ=[some (.int n),x1,some (.ref q),some (.int m),some (.int a),y5]/\getD H' q=some (S'.map bK)/\S'.length<=S.length+j/\Fr [q] H H') (λS b=>wS m S a b)
  (λj S' ρ H' hj ⟨y5,e1,e2,e3,e4⟩=>by subst e1;obtain⟨H2,w2,e5,f5⟩:=YZ (x0:=some (.int n)) (x1:=x1) (m:=m) (a:=a) (b:=(j:Int)) e2 (by omega);have:=IZ (m:=m) (a:=a) (b:=(j:Int)) (S:=S');exact⟨_,_,H2,rfl,w2,_,rfl,e5,by omega,e4.trans f5 (by simp)⟩) ⟨x5,rfl,e,by omega,Fr.refl⟩
 subst e1;exact⟨y5,H',w,e2,e3,e4⟩
theorem Y1 (hn:n<=6) (e:getD H q=some (S.map bK)) (hl:S.length<=300):
  ∃y4 y5 H',AR [some (.int n),x1,some (.ref q),some (.int m),x4,x5] H=.nx [some (.int n),x1,some (.ref q),some (.int m),y4,y5] H'/\getD H' q=some ((wA m (bH n) (bH n) S).map bK)/\(wA m (bH n) (bH n) S).length<=S.length+6*n/\Fr [q] H H':=by
 obtain⟨ρ',H',w,y4,y5,e1,e2,e3,e4⟩:=vI (S:=S) (H:=H) (bd:=AQ) (k:=4) (ρ:=[some (.int n),x1,some (.ref q),some (.int m),x4,x5]) (vJ hn) (λj S' ρ H'=>∃y4 y5,ρ=[some (.int n),x1,some (.ref q),some (.int m),y4,y5]/\getD H' q=some (S'.map bK)/\S'.length<=S.length+6*j/\Fr [q] H H') (λS a=>wB m a (bH n) S)
  (λj S' ρ H' hj ⟨y4,y5,e1,e2,e3,e4⟩=>by subst e1;obtain⟨z5,H2,w2,e5,l5,f5⟩:=Y0 (x1:=x1) (x5:=y5) (m:=m) (a:=(j:Int)) hn e2 (by omega);exact⟨_,_,H2,rfl,w2,_,_,rfl,e5,by omega,e4.trans f5 (by simp)⟩) ⟨x4,x5,rfl,e,by omega,Fr.refl⟩
 subst e1;exact⟨y4,y5,H',w,e2,e3,e4⟩
theorem Y2 {p r:Int×Int}:r∈dG S p↔r∈S∨r=p:=by
 unfold dG
 split
 ·rename_i h;exact⟨.inl,λz=>z.elim id λe=>e▸h⟩
 ·simp
theorem Y3 {p:Int×Int}(h:S.Nodup):(dG S p).Nodup:=by
 unfold dG
 split
 ·exact h
 ·rename_i hp;exact List.nodup_append.mpr ⟨h,by simp,λx hx y hy e=>hp (by rw[cy.mp hy]at e;exact e▸hx)⟩
theorem JD {p:Int×Int}:(dG S p).length<=S.length+1:=by unfold dG;split <;> simp
theorem JE {r:Int×Int}:∀{l S:xq},r∈l.foldl dG S↔r∈S∨r∈l
 | [],S=>by simp
 |p::l,S=>by rw[qj,JE,Y2,ba,or_assoc]
theorem JF:∀{l S:xq},S.Nodup->(l.foldl dG S).Nodup
 | [],_,h=>h
 |p::l,_,h=>JF (l:=l) (Y3 h)
theorem JG:∀{l S:xq},(l.foldl dG S).length<=S.length+l.length
 | [],S=>by simp
 |p::l,S=>by have:=JG (l:=l) (S:=dG S p);have:=JD (S:=S) (p:=p);rw[qj,cn];omega
theorem JH {j:Nat}(hj:j≠q):∀(f k:Nat) (S:xq) (H:Hs) (x:yc),k+f=ps.length->S.length+f<=1000->getL H j=some (ps.map aI)->getD H q=some (S.map bK)->
  ∃H',jW (cC j ps.length) (aH 0) (aB 0) (mC (.bl true)) q f k [x] H=some H'/\getD H' q=some (((ps.drop k).foldl dG S).map bK)/\Fr [q] H H'
 |0,k,S,H,x,h,hl,e1,e2=>by refine⟨H, ?_,by rw[qf (by omega)];exact e2,Fr.refl⟩;show(if(cC j ps.length).fin H=true then some H else none)=some H;rw[if_pos];simp[cC,e1]
 |f+1,k,S,H,x,h,hl,e1,e2=>by
  have hk:k<ps.length:=by omega
  have g1:(cC j ps.length).get k H=some (aI ps[k]):=by simp[cC,e1,hk]
  have p1:qY (aB 0) (mC (.bl true)) q [some (aI ps[k])] H=some (H.set q (.dct ((dG S ps[k]).map bK))):=by show mP (.ref q) (aI ps[k]) (.bl true) H=_;exact JC _ e2 (by omega)
  have a1:=JD (S:=S) (p:=ps[k]);obtain⟨H',w,r,fr⟩:=JH hj f (k+1) (dG S ps[k]) (H.set q (.dct ((dG S ps[k]).map bK))) (some (aI ps[k])) (by omega) (by omega) (by rw[lF (cu hj)];exact e1) (I0 e2);refine⟨H', ?_, ?_,Fr.set.trans fr (by simp)⟩
  ·unfold jW;rw[g1];dsimp only;have s1:aH 0 (aI ps[k]) [x]=some [some (aI ps[k])]:=rfl;rw[s1];dsimp only;rw[p1];exact w
  ·rw[r,v9 hk,qj]
theorem JI {R:Int->Int->Prop}(ht:∀a b c,R a b->R b c->R a c) {xs:xu}:∀{ms:xu}{S:xq},(∀p∈S,R p.1 p.2)->∀p∈wM ms xs S,R p.1 p.2
 | [],_,h=>h
 |m::ms,S,h=>JI ht (ms:=ms) (S:=wA m xs xs S) λp hp=>by
  rcases oM hp with hp|⟨h1,h2⟩
  ·exact h p hp
  ·exact ht p.1 m p.2 (h (p.1,m) h1) (h (m,p.2) h2)
theorem Y4 (h:S.Nodup):(wS m S a b).Nodup:=by
 unfold wS
 split
 ·rename_i c;exact List.nodup_append.mpr ⟨h,by simp,λx hx y hy e=>c.2.2 (by rw[cy.mp hy]at e;exact e▸hx)⟩
 ·exact h
theorem JJ:∀{bs:xu}{S:xq},S.Nodup->(wB m a bs S).Nodup
 | [],_,h=>h
 |b::bs,S,h=>JJ (bs:=bs) (S:=wS m S a b) (Y4 h)
theorem JK {bs:xu}:∀{as:xu}{S:xq},S.Nodup->(wA m as bs S).Nodup
 | [],_,h=>h
 |a::as,S,h=>JK (as:=as) (S:=wB m a bs S) (JJ h)
theorem JL {xs:xu}:∀{ms:xu}{S:xq},S.Nodup->(wM ms xs S).Nodup
 | [],_,h=>h
 |m::ms,S,h=>JL (ms:=ms) (S:=wA m xs xs S) (JK h)
theorem Y5 {j:Nat}(n1:1<=n) (hn:n<=6) (e:getL H j=some (ps.map aI)) (hl:ps.length<=40) (hi:fN n ps):
  ∃(cs:xq) (k:Nat) (H':Hs),F_qa [.int n,.ref j] H=.ok (.ref k) H'/\getL H' k=some (cs.map aI)/\kR n ps cs/\Fr [] H H':=by
 have lj:=mJ e;have e':getL (H++[Ob.dct []]) j=some (ps.map aI):=iI e;obtain⟨q,hq⟩:∃q,q=H.length:=⟨_,rfl⟩
 have g0:getD (H++[Ob.dct []]) q=some (([]:xq).map bK):=by rw[hq];simp[getD]
 have f0:Fr [] H (H++[Ob.dct []]):=Fr.app;obtain⟨H0,hH0⟩:∃H0,H0=H++[Ob.dct []]:=⟨_,rfl⟩
 rw[<-hH0]at e' g0 f0;obtain⟨H1,w1,g1,fr1⟩:=JH (ps:=ps) (j:=j) (q:=q) (by omega) ps.length 0 [] H0 none (by omega) (by simp;omega) e' g0;rw[List.drop_zero]at g1;have w0:qZ (cO cZ (aB 1)) [none] (aH 0) (aB 0) (mC (.bl true)) 2 [some (.int n),some (.ref j),none,none,none,none] H=.nx [some (.int n),some (.ref j),some (.ref q),none,none,none] H1:=by
  have ei:cO cZ (aB 1) [some (.int (n:Int)),some (.ref j),none,none,none,none] H=.ok (cC j ps.length) H:=by simp[cO,aB,cZ,e]
  unfold qZ;rw[ei,Rs.thenS_ok,<-hq,<-hH0];have:(cC j ps.length).n=ps.length:=rfl;rw[this];have c:iR [none] [some (Dv.int (n:Int)),some (.ref j),none,none,none,none]=[none]:=rfl;rw[c,w1];rfl
 have nd:(ps.foldl dG []).Nodup:=JF List.nodup_nil;have hm0:∀r,r∈ps.foldl dG []↔r∈ps:=λr=>by rw[JE];simp
 have hl0:(ps.foldl dG []).length<=40:=by have:=JG (l:=ps) (S:=[]);simp at this;omega
 generalize ps.foldl dG []=S0 at g1 nd hm0 hl0;obtain⟨ρ',H2,w2,y3,y4,y5,e1,e2,e3,e4⟩:=vI (S:=S0) (H:=H1) (bd:=AR) (k:=3) (ρ:=[some (.int n),some (.ref j),some (.ref q),none,none,none]) (vJ hn) (λk S' ρ H'=>∃y3 y4 y5,ρ=[some (.int n),some (.ref j),some (.ref q),y3,y4,y5]/\getD H' q=some (S'.map bK)/\S'.length<=S0.length+36*k/\Fr [q] H1 H') (λS m=>wA m (bH n) (bH n) S)
  (λk S' ρ H' hj ⟨y3,y4,y5,e1,e2,e3,e4⟩=>by subst e1;obtain⟨z4,z5,H2,w2,e5,l5,f5⟩:=Y1 (x1:=some (.ref j)) (x4:=y4) (x5:=y5) (m:=(k:Int)) hn e2 (by omega);exact⟨_,_,H2,rfl,w2,_,_,_,rfl,e5,by omega,e4.trans f5 (by simp)⟩) ⟨none,none,none,rfl,g1,by omega,Fr.refl⟩
 subst e1;have hX:mW (bH n) S0:=λp hp=>by have:=hi p ((hm0 p).mp hp);simp only[bH,cw,bq,di];exact⟨⟨p.1.toNat,by omega,by omega⟩,p.2.toNat,by omega,by omega⟩
 obtain⟨k1,k2,k3⟩:=AO (xs:=bH n) (ms:=bH n) (S:=S0) (λ_=>False) hX (λ_ h=>h.elim);have k4:∀R:Int->Int->Prop,(∀a b c,R a b->R b c->R a c)->(∀p∈S0,R p.1 p.2)->∀p∈wM (bH n) (bH n) S0,R p.1 p.2:=λR ht h=>JI ht h;have k5:(wM (bH n) (bH n) S0).Nodup:=JL nd;change getD H2 q=some ((wM (bH n) (bH n) S0).map bK)at e2;generalize wM (bH n) (bH n) S0=W at e2 k1 k2 k3 k4 k5;have hr:=lI fX W;have hm:∀p,p∈bT cU W↔p∈W:=λp=>jA fX p W;have zv:fN n (bT cU W):=λp hp=>by have:=k1 p ((hm p).mp hp);simp only[bH,cw,bq,di]at this;obtain⟨⟨k,hk,e⟩,k',hk',e'⟩:=this;omega
 have cl:kR n ps (bT cU W):=by refine⟨hr,zv,λp hp r hr' e=>?_,λp hp=>(hm p).mpr (k2 p ((hm0 p).mpr hp)),λR ht hR p hp=>k4 R ht (λp hp=>hR p ((hm0 p).mp hp)) p ((hm p).mp hp)⟩;refine(hm _).mpr (k3 p.2 (.inr (k1 p ((hm p).mp hp)).2) p.1 r.2 ((hm p).mp hp) ?_);rw[e];exact(hm r).mp hr'
 have sq:n*n<=6*6:=kh hn hn;have hlen:=mV hr zv;have hWl:W.length<64:=by
  have:(bT cU W).length=W.length:=by rw[F2 fX W k5];exact(qP W).length_eq
  omega
 have hs:mQ (.ref q) H2=.ok (.ref H2.length) (H2++[.lst ((bT cU W).map aI)]):=by unfold mQ;dsimp only;rw[e2];dsimp only;rw[if_pos (by rw[IM,bf];simpa using hWl),F8 qQ,IP,F2 fX W k5]
 refine⟨bT cU W,H2.length,H2++[.lst ((bT cU W).map aI)], ?_,by simp[getL],cl, ?_⟩
 ·show bW (zP [some (.int n),some (.ref j),none,none,none,none] H)=_;rw[YY,bF w0,bF w2];simp[aS,aE,f1,aA,aB,aC,hs,bW]
 ·have hw:∀x∈[q],x∈([]:xv)∨H.length<=x:=λx hx=>.inr (by rw[cy.mp hx,hq];exact ak _);exact((f0.trans fr1 hw).trans e4 hw).trans (T:=[]) Fr.app (by simp)
end
end L2.Mr.K02
namespace L2.Mr
open PySem PySem.Spec PyProof.Rows L2
end L2.Mr
namespace L2.Mr.Cod
open PySem PySem.Spec PyProof.Rows L2 L2.Mr
open L2.Mr.Com hiding gM F_qf
end L2.Mr.Cod
namespace L2.Mr.K01
open PySem PySem.Spec PyProof.Rows L2 L2.Mr L2.Mr.Com
end L2.Mr.K01
namespace L2.Mr.Com
open PySem PySem.Spec PyProof.Rows L2 L2.Mr
def T0 (H:Hs):Dv->Prop
 | .ref i=>∃xs,getL H i=some xs
 | .exc _=>False
 | .scr=>False
 |_=>True
def TK:Nat->Hs->Dv->Prop
 |0,H,d=>T0 H d
 |k+1,H,d=>T0 H d/\∀ds,d=.tup ds->ds.length<=500/\∀x∈ds,TK k H x
theorem TK.tup {k:Nat}{H:Hs}{ds:yb}(hl:ds.length<=500) (h:∀x∈ds,TK k H x):TK (k+1) H (.tup ds):=⟨trivial,λ_ e=>by cases e;exact⟨hl,h⟩⟩
theorem TK.of {k:Nat}{H:Hs}{d:Dv}(h0:T0 H d) (h:∀ds,d≠.tup ds):TK k H d:=by
 cases k with
 |zero=>exact h0
 |succ k=>exact⟨h0,λds e=>absurd e (h ds)⟩
def AS:Dv->Bool
 | .tup _=>true
 |_=>false
def isInt:Dv->Bool
 | .int _=>true
 |_=>false
section
variable{H:Hs}{d:Dv}{n:Int}
theorem Y6 (h:T0 H d):aR kJ d H=.ok (.bl (AS d)) H:=by
 cases d with
 |ref i=>obtain⟨xs,e⟩:=h;simp[aR,gG,e,kJ,AS]
 |exc c=>exact h.elim
 |scr=>exact h.elim
 |_=>rfl
theorem Y7 (h:T0 H d):aR oD d H=.ok (.bl (match d with | .int _=>true | .bl _=>true|_=>false)) H:=by
 cases d with
 |ref i=>obtain⟨xs,e⟩:=h;simp[aR,gG,e,oD]
 |exc c=>exact h.elim
 |scr=>exact h.elim
 |_=>rfl
theorem Y8 (h:T0 H d):aR kH d H=.ok (.bl (match d with | .bl _=>true|_=>false)) H:=by
 cases d with
 |ref i=>obtain⟨xs,e⟩:=h;simp[aR,gG,e,kH]
 |exc c=>exact h.elim
 |scr=>exact h.elim
 |_=>rfl
theorem Y9 (h:T0 H d):F_qp [d] H=.ok (.bl (isInt d)) H:=by
 have e1:=Y7 h;have e2:=Y8 h
 cases d <;> simp[F_qp,zG,bA,bS,aS,eX,m1,aB,e1,e2,sJ,bW,isInt]
def hO (lo hi:Int):Dv->Bool
 | .int x=>decide (lo<=x)&&decide (x<=hi)
 |_=>false
theorem AU {lo hi:Int}(h:T0 H d):F_qj [d,.int lo,.int hi] H=.ok (.bl (hO lo hi d)) H:=by
 have w:=Y9 h
 cases d with
 |int x=>exact YB
 |_=>simp[F_qj,uE,bA,bS,aS,eX,aE,aA,aB,aC,w,isInt,bW,hO]
def tB (n:Int) (d:Dv):Bool:=hO 0 (n - 1) d
theorem ZA (h:T0 H d):F_qo [.int n,d] H=.ok (.bl (tB n d)) H:=by simp[F_qo,HM,bA,bS,aS,aE,aA,aB,aC,mC,m2,oA,jJ,AU h,bW,tB]
def oP (n:Int):Dv->Bool
 | .tup ys=>ys.all (tB n)
 |_=>false
theorem ZC (h:TK 1 H d):F_qi [.int n,d] H=.ok (.bl (oP n d)) H:=by
 have e:=Y6 h.1
 cases d with
 |tup xs=>obtain⟨hl,hx⟩:=h.2 xs rfl;have h:dY (cO xM (aB 1)) [none,some 0] (aH 0) kF (dO (aE F_qo (aA (aB 1) (aA (aB 0) aC)))) [some (.int n),some (.tup xs)] H=.ok (xs.filterMap λx=>some (.bl (tB n x))) H:=mU xs (λx=>some (.bl (tB n x))) (λρ=>∃a,ρ=[a,some (.int n)]) rfl (by simp[kZ]) ⟨_,rfl⟩ rfl (λk hk ρ ⟨a,e⟩=>by subst e;exact⟨xs[k],_,by simp[kZ,hk],rfl,⟨_,rfl⟩,rfl,by simp[aE,aA,aB,aC,ZA (hx xs[k] (gh hk))]⟩) (by omega);simp[F_qi,zH,bA,bS,aS,eX,m1,aR,aB,gG,kJ,AH h,bW,oP]
 |_=>simp[F_qi,zH,bA,bS,aS,eX,m1,aB,e,AS,bW,oP]
def pB (n:Int):Dv->Bool
 | .tup ys=>ys.all (tB n)&&decide (ys.length=2)
 |_=>false
theorem ZD (ys:yb):f1 dP [.tup ys] H=.ok (.int ys.length) H:=rfl
theorem ZE (h:TK 1 H d):F_qr [.int n,d] H=.ok (.bl (pB n d)) H:=by
 have h1:=ZC (n:=n) h
 cases d with
 |tup ys=>
  cases q:ys.all (tB n)with
  |false=>simp[F_qr,uF,bA,bS,aS,eX,aE,aA,aB,aC,h1,oP,pB,q,bW]
  |true=>
   have e:((ys.length:Int)==2)=decide (ys.length=2):=by rw[jr];simp;omega
   simp[F_qr,uF,bA,bS,aS,eX,aE,aA,aB,aC,h1,oP,pB,q,bW,m2,ZD,mC,eq_int,e]
 |_=>simp[F_qr,uF,bA,bS,aS,eX,aE,aA,aB,aC,h1,oP,pB,bW]
end
theorem ZF {ρ:Ev}{H H1 H2:Hs}{st i j:Nat}{ml:M Dv}(hv:aB st ρ H=.ok (.ref i) H) (e1:ml ρ H=.ok (.ref j) H1) (e2:bR (.ref i) (.ref j) H1=.ok (.ref H1.length) H2):m2 bR (aB st) ml ρ H=.ok (.ref H1.length) H2:=by unfold m2;rw[hv,Rs.bind_ok,e1,Rs.bind_ok,e2]
end L2.Mr.Com
namespace L2.Mr.Cod
open PySem PySem.Spec PyProof.Rows L2 L2.Mr
open L2.Mr.Com hiding gM F_qf
section
variable{H:Hs}
theorem AV {n:Nat}{x:Int}:F_qk (n+1) [.int x,.int x] H=.ok (.bl true) H:=by simp[F_qk,uI,bA,bS,aK,aV,bN,m1,aR,aB,gG,qI,gC,bC,aS,eX,m2,bZ,dI,bI,bG,kH,bW]
theorem vK {n:Nat}{xs:yb}(hl:xs.length<=1000) (h:∀x∈xs,F_qk n [x,x] H=.ok (.bl true) H):F_qk (n+1) [.tup xs,.tup xs] H=.ok (.bl true) H:=by
 have hc:dY (aQ tG (aA (aB 0) (aA (aB 1) aC))) [none,none] (eY 2 (bP (aH 0) (bP (aH 1) eK))) kF (dO (aE (F_qk n) (aA (aB 0) (aA (aB 1) aC)))) [some (.tup xs),some (.tup xs)] H=.ok (xs.filterMap λx=>some (.bl ((λ_=>true) x))) H:=mU xs (λx=>some (.bl ((λ_=>true) x))) (λρ=>∃a b,ρ=[a,b]) rfl (by simp[nY,kZ]) ⟨_,_,rfl⟩ rfl (λk hk ρ ⟨a,b,e⟩=>by subst e;refine⟨.tup [xs[k],xs[k]],[some xs[k],some xs[k]],by simp[nY,kZ,hk],rfl,⟨_,_,rfl⟩,rfl, ?_⟩;simp[aE,aA,aB,aC,h xs[k] (gh hk)]) (by omega);have hz:=AH hc;have ht:xs.all (λ_=>true)=true:=by simp
 rw[ht]at hz;have e1:aR qI (.tup xs) H=.ok (.bl true) H:=rfl;have e2:aR kJ (.tup xs) H=.ok (.bl true) H:=rfl;have e3:aR fT (.tup xs) H=.ok (.bl false) H:=rfl;have e4:f1 dP [.tup xs] H=.ok (.int xs.length) H:=rfl;have n1:bV (.bl true) (.bl true) H=.ok (.bl false) H:=rfl;have n2:bV (.bl false) (.bl false) H=.ok (.bl false) H:=rfl;have n3:∀i:Int,bV (.int i) (.int i) H=.ok (.bl false) H:=λi=>by simp[bV,dI,bI,bG]
 simp[F_qk,uI,bA,bS,aK,aV,bN,m1,aB,e1,e2,e3,gC,fI,mB,m2,n1,n2,iA,bC,aE,aA,aC,e4,n3,aS,hz,bW]
theorem lQ {i j:Nat}{xs ys:yb}(e1:getL H i=some xs) (e2:getL H j=some ys) (hl:xs.length+ys.length<=500):bR (.ref i) (.ref j) H=.ok (.ref H.length) (H++[.lst (xs++ys)]):=by simp[bR,nF,e1,e2,lim];omega
theorem hV {i j:Nat}{ds:yb}(e:getL H i=some ds) (hj:j<ds.length):cA (.ref i) (.int j) H=.ok ds[j] H:=by
 have h1:eJ ds.length (j:Int)=some j:=by unfold eJ;rw[if_pos (by omega),if_pos (by omega)];simp
 have h2:fP ds (j:Int)=some ds[j]:=by unfold fP;rw[h1];simp[hj]
 simp only[cA,hJ,iC,e,jK,h2,if_true]
theorem cM {x:yb}:getL (H++[.lst x]) H.length=some x:=by simp[getL]
end
end L2.Mr.Cod
namespace L2.Mr
open PySem PySem.Spec PyProof.Rows L2
end L2.Mr
namespace L2.Mr.Cod
open PySem PySem.Spec PyProof.Rows L2 L2.Mr
open L2.Mr.Com hiding gM F_qf
end L2.Mr.Cod
namespace L2.Mr.Com
open PySem PySem.Spec PyProof.Rows L2 L2.Mr
end L2.Mr.Com
namespace L2.Mr.Gen
open PySem PySem.Spec PyProof.Rows L2 L2.Mr L2.Mr.Com
theorem ZG {t u:M Bool}{ρ:Ev}{h h1:Hs}(e:t ρ h=.ok true h1):fI t u ρ h=.ok true h1:=by unfold fI;rw[e];rfl
theorem JM {t u:M Bool}{ρ:Ev}{h h1:Hs}(e:t ρ h=.ok false h1):fI t u ρ h=u ρ h1:=by unfold fI;rw[e];rfl
theorem ZH (ds:yb) (k:Nat):jP ds none (some (k:Int))=ds.take k:=by unfold jP;rw[HT.sIx_none,HT.sIx_nat];simp
theorem ZI (ds:yb) (k:Nat):jP ds (some (k:Int)) none=ds.drop k:=by
 unfold jP;rw[HT.sIx_none,HT.sIx_nat]
 by_cases h:k<=ds.length
 ·rw[Nat.min_eq_left h];exact md (by simp)
 ·rw[Nat.min_eq_right (by omega),qf (ak _),qf (by omega)];simp
section
variable{H:Hs}{xs:xu}
theorem ZJ {S:ya}{ma mb:M Dv}{v:Dv}{ρ:Ev}{H H1 H2:Hs}(ha:ma ρ H=.ok v H1) (hb:mb ρ H1=.ok v H2) (hs:S [v,v] H2=.ok (.bl true) H2):
  aV (dQ (bN (aE S (aA ma (aA mb aC))))) (aS (mC (.bl false))) bC ρ H=.nx ρ H2:=by
 simp[aV,dQ,bN,aE,aA,ha,hb,aC,hs,gC,bC]
theorem ZK {m:M Dv}{ρ ρ1:Ev}{i:Nat}{H H':Hs}{v:Dv}(e:m ρ H=.ok v H') (hs:aH i v ρ=some ρ1):aN m (aH i) ρ H=.nx ρ1 H':=by simp[aN,e,hs]
theorem dS {f:Dv->Dv->Hs->Rs Dv}{ma mb:M Dv}{ρ:Ev}{H H1 H2 H3:Hs}{x y z:Dv}(ha:ma ρ H=.ok x H1) (hb:mb ρ H1=.ok y H2) (hf:f x y H2=.ok z H3):m2 f ma mb ρ H=.ok z H3:=by unfold m2;rw[ha,Rs.bind_ok,hb,Rs.bind_ok,hf]
end
abbrev At (ρ:Ev) (i:Nat) (d:Dv):Prop:=ρ[i]?=some (some d)
section
variable{ρ:Ev}{i j:Nat}{d:Dv}{H H':Hs}
theorem At.v (h:At ρ i d):aB i ρ=λH=>.ok d H:=by funext H;unfold aB;rw[h]
theorem At.new (h:i<ρ.length):At (ρ.set i (some d)) i d:=by simp[At,h]
theorem At.o (h:At ρ j d) {x:yc}(hn:i≠j:=by decide):At (ρ.set i x) j d:=(dw hn).trans h
theorem jE {m:M Dv}{v:Dv}(e:m ρ H=.ok v H'):aN m (aH i) ρ H=.nx (ρ.set i (some v)) H':=ZK e rfl
end
end L2.Mr.Gen
namespace L2.Mr.K02
open PySem PySem.Spec PyProof.Rows L2 L2.Mr L2.Mr.Com L2.Mr.Gen
open L2.Mr.Cod (cM lQ hV)
def rq (a b c:Nat):yb:=[.bl (a==c),.bl (a+1==c),.bl (a+2==c)].take b
def yr:M yb :=(aA (m1 (aR (cT none tbl0)) (aB 1)) (aA (m1 (aR (cT none tbl1)) (aB 1)) (aA (m1 (aR (cT none tbl2)) (aB 1)) aC)))
def zq:M yb :=(aA (m1 (aR (cT none tbl3)) (aB 1)) (aA (m1 (aR (cT none tbl4)) (aB 1)) (aA (m1 (aR (cT none tbl5)) (aB 1)) aC)))
def Az:M yb :=(aA (m1 (aR (cT none tbl6)) (aB 1)) (aA (m1 (aR (cT none tbl7)) (aB 1)) (aA (m1 (aR (cT none tbl8)) (aB 1)) aC)))
def jX:M yb :=(aA (m1 (aR (cT none tbl9)) (aB 1)) (aA (m1 (aR (cT none tbl10)) (aB 1)) aC))
def vL:M yb :=dY (aQ dN (aA (mC (.int 11)) aC)) [none,some 3] (aH 0) (bN (m2 cA (aB 1) (aB 0))) (dO (aB 0))
def JN:MS:=aV (dQ (bN (m1 (aR (cT none tblV)) (aB 1)))) (aS (mC .non)) bC
theorem ZL:gN=aK (aN (aO yr) (aH 3)) (aK (aN (m2 bR (aB 3) (aO zq)) (aH 3)) (aK (aN (m2 bR (aB 3) (aO Az)) (aH 3)) (aK (aN (m2 bR (aB 3) (aO jX)) (aH 3)) (aK JN (aS (iS vL)))))):=rfl
section
variable{c:Nat}(hc:c=1∨c=2∨c=3) {H:Hs}{x0 x2 x3:yc}
include hc
theorem ZM:aO yr [x0,some (.exc c),x2,x3] H=.ok (.ref H.length) (H++[.lst (rq 0 3 c)]):=by rcases hc with rfl|rfl|rfl <;> rfl
theorem ZN:aO zq [x0,some (.exc c),x2,x3] H=.ok (.ref H.length) (H++[.lst (rq 3 3 c)]):=by rcases hc with rfl|rfl|rfl <;> rfl
theorem ZO:aO Az [x0,some (.exc c),x2,x3] H=.ok (.ref H.length) (H++[.lst (rq 6 3 c)]):=by rcases hc with rfl|rfl|rfl <;> rfl
theorem ZP:aO jX [x0,some (.exc c),x2,x3] H=.ok (.ref H.length) (H++[.lst (rq 9 2 c)]):=by rcases hc with rfl|rfl|rfl <;> rfl
theorem ZQ:JN [x0,some (.exc c),x2,x3] H=.nx [x0,some (.exc c),x2,x3] H:=by rcases hc with rfl|rfl|rfl <;> rfl
theorem ZR {i:Nat}(e:getL H i=some ((bx 11).map λk=>Dv.bl (k==c))):vL [x0,some (.exc c),x2,some (.ref i)] H=.ok [.int c] H:=by
 have h:vL [x0,some (.exc c),x2,some (.ref i)] H=.ok ((bx 11).filterMap λk=>if k==c then some (.int k)else none) H:=
  mU (bx 11) (λk=>if k==c then some (.int (k:Nat))else none) (λρ=>∃a,ρ=[a,some (.ref i)]) (src:=dM 0 11) rfl rfl ⟨_,rfl⟩ rfl (λk hk ρ ⟨a,e'⟩=>by
   subst e';have hk':k<11:=by simpa using hk
   refine⟨.int (0+k),[some (.int (0+k)),some (.ref i)],rfl,rfl,⟨_,rfl⟩, ?_⟩;have ht:=hV (H:=H) (j:=k) e (by simpa using hk');rw[u0,List.getElem_range]at ht;have h0:(0+(k:Int))=(k:Int):=by omega
   rw[h0,List.getElem_range]
   cases q:k==c with
   |true=>simp[bN,m2,aB,ht,q,gC]
   |false=>simp[bN,m2,aB,ht,q,gC]) (by simp)
 rw[h]
 rcases hc with rfl|rfl|rfl <;> rfl
theorem ZS:∃i H',qD 4 11 gN (.ex c H)=.ok (.ref i) H'/\getL H' i=some [.int c]/\Fr [] H H':=by
 obtain⟨H1,hH1⟩:∃H1,H1=H++[Ob.lst (rq 0 3 c)]:=⟨_,rfl⟩
 have g1:getL H1 H.length=some (rq 0 3 c):=by rw[hH1];exact cM
 have f1:Fr [] H H1:=by rw[hH1];exact Fr.app
 have w1:∀x0 x2 x3,aN (aO yr) (aH 3) [x0,some (.exc c),x2,x3] H=.nx [x0,some (.exc c),x2,some (.ref H.length)] H1:=λx0 x2 x3=>by unfold aN;rw[ZM hc,hH1];rfl
 have step:∀(G0:Hs) (i:Nat) (xs ys:yb) (m:M yb ),getL G0 i=some xs->(∀x0 x2 x3 (G:Hs),aO m [x0,some (.exc c),x2,x3] G=.ok (.ref G.length) (G++[.lst ys]))->xs.length+ys.length<=500->
   ∃G' j,(∀x0 x2,aN (m2 bR (aB 3) (aO m)) (aH 3) [x0,some (.exc c),x2,some (.ref i)] G0=.nx [x0,some (.exc c),x2,some (.ref j)] G')/\getL G' j=some (xs++ys)/\Fr [] G0 G':=by
  intro G0 i xs ys m e hm hl;refine⟨_,_,λx0 x2=>?_,cM (H:=G0++[.lst ys]) (x:=xs++ys),Fr.trans (T:=[]) Fr.app Fr.app (by simp)⟩;have a:=lQ (H:=G0++[.lst ys]) (iI e) (cM (H:=G0) (x:=ys)) hl;unfold aN;rw[ZF rfl (hm _ _ _ _) a];rfl
 obtain⟨H2,i2,w2,g2,f2⟩:=step H1 H.length (rq 0 3 c) (rq 3 3 c) zq g1 (λ_ _ _ _=>ZN hc) (by simp[rq]);obtain⟨H3,i3,w3,g3,f3⟩:=step H2 i2 _ (rq 6 3 c) Az g2 (λ_ _ _ _=>ZO hc) (by simp[rq]);obtain⟨H4,i4,w4,g4,f4⟩:=step H3 i3 _ (rq 9 2 c) jX g3 (λ_ _ _ _=>ZP hc) (by simp[rq]);have g5':getL H4 i4=some ((bx 11).map λk=>Dv.bl (k==c)):=by rw[g4];rfl
 refine⟨H4.length,H4++[.lst [.int c]], ?_,cM,((f1.trans f2 (by simp)).trans f3 (by simp)).trans (T:=[]) (f4.trans (T:=[]) Fr.app (by simp)) (by simp)⟩;have hlt:c<11:=by omega
 show(if c<11 then qC (gN (lC 4 (.exc c)) H)else .bad)=_;rw[if_pos hlt,ZL];show qC (aK _ _ [none,some (.exc c),none,none] H)=_;rw[bF (w1 _ _ _),bF (w2 _ _),bF (w3 _ _),bF (w4 _ _),bF (ZQ hc)];have hr:iS vL [none,some (.exc c),none,some (.ref i4)] H4=.ok (.ref H4.length) (H4++[.lst [.int c]]):=by unfold iS;rw[ZR hc g5'];rfl
 unfold aS;rw[hr];rfl
theorem AW {caps:xv}{vs:yb}{me:M Dv}{ρ:Ev}{H0:Hs}(hρ:kG caps ρ=some vs) (hm:me (vs.map some) H0=.ex c H) (f0:Fr [] H0 H):
  ∃H',mB (m2 bV (iE caps 4 11 gN me) (aO (aA (mC (.int c)) aC))) ρ H0=.ok false H'/\Fr [] H0 H':=by
 obtain⟨i,H1,e1,g1,f1⟩:=ZS hc (H:=H);refine⟨H1++[.lst [.int c]], ?_,f0.trans (f1.trans (T:=[]) Fr.app (by simp)) (by simp)⟩;have a:iE caps 4 11 gN me ρ H0=.ok (.ref i) H1:=by unfold iE;rw[hρ];show qD 4 11 gN (me (vs.map some) H0)=_;rw[hm,e1]
 have b:aO (aA (mC (.int c)) aC) ρ H1=.ok (.ref H1.length) (H1++[.lst [.int c]]):=rfl;have d:bV (.ref i) (.ref H1.length) (H1++[.lst [.int c]])=.ok (.bl false) (H1++[.lst [.int c]]):=by have q1:=iI (l:=[.lst [.int c]]) g1;have q2:=cM (H:=H1) (x:=[.int c]);simp[bV,dI,bI,q1,q2,aY,bG,eV]
 unfold mB m2;rw[a,Rs.bind_ok,b,Rs.bind_ok,d];rfl
end
section
variable{n:Nat}{ps cs:xq}{H:Hs}{d y:Dv}{ρ:Ev}
theorem ZT (h:T0 H y) (hb:hO 1 6 y=false):F_qe [y,.int 1,.int 6] H=.ex 1 H:=by have e:=AU (lo:=1) (hi:=6) h;rw[hb]at e;simp[F_qe,zO,bA,bS,aV,dQ,bN,aE,aA,aB,aC,e,gC,sX,fJ,bW]
theorem AX (n1:1<=n) (hn:n<=6):F_qe [.int n,.int 1,.int 6] H=.ok .non H:=by
 have e:=AU (lo:=1) (hi:=6) (H:=H) (d:=.int n) trivial;have hb:hO 1 6 (.int n)=true:=by simp[hO];omega
 rw[hb]at e;simp[F_qe,zO,bA,bS,aV,dQ,bN,aE,aA,aB,aC,e,gC,bC,bW]
theorem JO {xs:yb}{j:Nat}(e:getL H j=some xs) (hl:xs.length<=500) (hx:∀x∈xs,TK 1 H x):F_qm [.int n,.ref j] H=.ok (.bl (xs.all (pB n))) H:=by have h:dY (cO cZ (aB 1)) [none,some 0] (aH 0) kF (dO (aE F_qr (aA (aB 1) (aA (aB 0) aC)))) [some (.int n),some (.ref j)] H=.ok (xs.filterMap λp=>some (.bl (pB n p))) H:=mU xs (λp=>some (.bl (pB n p))) (λρ=>∃a,ρ=[a,some (.int n)]) (src:=cC j xs.length) (by simp[cO,aB,cZ,e]) (by simp[cC]) ⟨_,rfl⟩ (by simp[cC,e]) (λk hk ρ ⟨a,e'⟩=>by subst e';exact⟨xs[k],_,by simp[cC,e,hk],rfl,⟨_,rfl⟩,rfl,by simp[aE,aA,aB,aC,ZE (hx xs[k] (gh hk))]⟩) (by omega);simp[F_qm,HX,bA,bS,aS,AH h,bW]
theorem ZU {j:Nat}(e:getL H j=some (ps.map aI)) (hl:ps.length<=500):F_qn [.ref j] H=.ok (.bl (ps.any λp=>decide (p.1=p.2))) H:=by have h:dY (cO cZ (aB 0)) [none,none] (eY 2 (bP (aH 0) (bP (aH 1) eK))) kF (dO (m2 bZ (aB 0) (aB 1))) [some (.ref j)] H=.ok (ps.filterMap λp=>some (.bl (decide (p.1=p.2)))) H:=mU ps (λp=>some (.bl (decide (p.1=p.2)))) (λρ=>∃a b,ρ=[a,b]) (src:=cC j ps.length) (by simp[cO,aB,cZ,e]) (by simp[cC]) ⟨_,_,rfl⟩ (by simp[cC,e]) (λk hk ρ ⟨a,b,e'⟩=>by subst e';exact⟨aI ps[k],[some (.int ps[k].1),some (.int ps[k].2)],by simp[cC,e,hk],rfl,⟨_,_,rfl⟩,rfl,by have q:((ps[k].1:Int)==ps[k].2)=decide (ps[k].1=ps[k].2):=rfl;simp[m2,aB,Com.eq_int,q]⟩) (by omega);simp[F_qn,HY,bA,bS,aS,YA h,bW]
abbrev o1:MS:=dD (aE F_qe (aA (aB 0) (aA (mC (.int 1)) (aA (mC (.int 6)) aC))))
abbrev o2:MS:=aV (fI (dQ (bN (m1 (aR fT) (aB 1)))) (dQ (bN (aE F_qm (aA (aB 0) (aA (aB 1) aC)))))) (iT 2 (aA (mC (.str "this is no list of tuples of two things")) aC)) bC
abbrev o3:MS:=aN (aE F_qa (aA (aB 0) (aA (aB 1) aC))) (aH 2)
abbrev o4:MS:=aV (bN (aE F_qn (aA (aB 2) aC))) (iT 3 (aA (mC (.str "the pairs lead from a thing to itself")) aC)) bC
abbrev o5:MS:=aS (bD (aA (aB 0) (aA (aE (f1 gE) (aA (aB 2) aC)) aC)))
theorem of_eq:F_qq [d,y] H=bW (aK o1 (aK o2 (aK o3 (aK o4 o5))) [some d,some y,none] H):=rfl
theorem vM {a b:MS}{c:Nat}{H':Hs}(h:a ρ H=.ex c H'):aK a b ρ H=.ex c H':=by unfold aK;rw[h]
theorem ZV {F:ya}{x:Dv}{c:Nat}(q:F [y,.int 1,.int 6] H=.ex c H):dD (aE F (aA (aB 0) (aA (mC (.int 1)) (aA (mC (.int 6)) aC)))) [some y,some x,none] H=.ex c H:=by simp[dD,aE,aA,aB,mC,aC,q]
theorem AY {F:ya}{x:Dv}(q:F [y,.int 1,.int 6] H=.ok .non H):dD (aE F (aA (aB 0) (aA (mC (.int 1)) (aA (mC (.int 6)) aC)))) [some y,some x,none] H=.nx [some y,some x,none] H:=by simp[dD,aE,aA,aB,mC,aC,q]
theorem ZW (h:T0 H d) (hb:hO 1 6 d=false):F_qq [d,y] H=.ex 1 H:=by rw[of_eq,vM (show o1 _ H=_ from ZV (ZT h hb))];rfl
theorem ZX {F:ya}{x:Dv}(q:aR fT y H=.ok (.bl false) H):aV (fI (dQ (bN (m1 (aR fT) (aB 1)))) (dQ (bN (aE F (aA (aB 0) (aA (aB 1) aC)))))) (iT 2 (aA (mC (.str "this is no list of tuples of two things")) aC)) bC [some x,some y,none] H=.ex 2 H:=by simp[aV,fI,dQ,bN,m1,aB,q,gC,iT,aA,mC,aC]
theorem JP {F:ya}{x:Dv}{b:Bool}(q:aR fT y H=.ok (.bl true) H) (e:F [x,y] H=.ok (.bl b) H):aV (fI (dQ (bN (m1 (aR fT) (aB 1)))) (dQ (bN (aE F (aA (aB 0) (aA (aB 1) aC)))))) (iT 2 (aA (mC (.str "this is no list of tuples of two things")) aC)) bC [some x,some y,none] H=if b then .nx [some x,some y,none] H else .ex 2 H:=by cases b <;> simp[aV,fI,dQ,bN,m1,aB,q,e,gC,iT,aA,mC,aC,aE,bC]
theorem JQ {j:Nat}{xs:yb}(e:getL H j=some xs):aR fT (.ref j) H=.ok (.bl true) H:=by simp[aR,gG,e,fT]
theorem ZY (n1:1<=n) (hn:n<=6) (h:aR fT y H=.ok (.bl false) H):F_qq [.int n,y] H=.ex 2 H:=by rw[of_eq,bF (show o1 _ H=_ from AY (AX n1 hn)),vM (show o2 _ H=_ from ZX h)];rfl
theorem ZZ {j:Nat}{xs:yb}(n1:1<=n) (hn:n<=6) (e:getL H j=some xs) (hl:xs.length<=500) (hx:∀x∈xs,TK 1 H x) (hb:xs.all (pB n)=false):F_qq [.int n,.ref j] H=.ex 2 H:=by have q:=JP (F:=F_qm) (x:=.int n) (JQ e) (JO (n:=n) e hl hx);rw[hb]at q;rw[of_eq,bF (show o1 _ H=_ from AY (AX n1 hn)),vM (show o2 _ H=_ from q)];rfl
theorem AZ (p:Int×Int):TK 1 H (aI p):=TK.tup (by simp) λx hx=>by
 simp only[ba,u5,or_false]at hx
 rcases hx with rfl|rfl <;> trivial
theorem Z0 {p:Int×Int}(h:0<=p.1/\p.1<n/\0<=p.2/\p.2<n):pB n (aI p)=true:=by
 obtain⟨a,b⟩:=p;have h1:Com.tB n (.int a)=true:=by simp only[Com.tB,hO,dh,decide_eq_true_eq];have:=h.1;have:=h.2.1;simp only at *;omega
 have h2:Com.tB n (.int b)=true:=by simp only[Com.tB,hO,dh,decide_eq_true_eq];have:=h.2.2;simp only at *;omega
 simp[pB,aI,h1,h2]
theorem Z1 {F:ya}{a b w:Dv}{H':Hs}{r:Ev}(e:F [a,b] H=.ok w H'):aN (aE F (aA (aB 0) (aA (aB 1) aC))) (aH 2) (some a::some b::none::r) H=.nx (some a::some b::some w::r) H':=by simp[aN,aE,aA,aB,aC,e,aH]
theorem Z2 {F:ya}{a b w:Dv}{c:Bool}(e:F [w] H=.ok (.bl c) H):aV (bN (aE F (aA (aB 2) aC))) (iT 3 (aA (mC (.str "the pairs lead from a thing to itself")) aC)) bC [some a,some b,some w] H=if c then .ex 3 H else .nx [some a,some b,some w] H:=by cases c <;> simp[aV,bN,aE,aA,aB,aC,e,gC,iT,mC,bC]
theorem Z3 {j:Nat}(n1:1<=n) (hn:n<=6) (e:getL H j=some (ps.map aI)) (hl:ps.length<=40) (hi:fN n ps):∃(cs:xq) (H':Hs),kR n ps cs/\Fr [] H H' /\
  F_qq [.int n,.ref j] H=if(cs.any λp=>decide (p.1=p.2))then .ex 3 H' else .ok (rC n cs) H':=by
 obtain⟨cs,k,H',e1,g,cl,f⟩:=Y5 n1 hn e hl hi;have sq:n*n<=6*6:=kh hn hn;have Bb:=mV cl.1 cl.2.1;refine⟨cs,H',cl,f, ?_⟩;have q:=JP (F:=F_qm) (x:=.int n) (JQ e) (JO (n:=n) e (by simp;omega) (λx hx=>by obtain⟨p,_,rfl⟩:=cw.mp hx;exact AZ p));have hb:(ps.map aI).all (pB n)=true:=by rw[vt,ic];intro p hp;have:=hi p hp;exact Z0 (by omega)
 rw[hb]at q;rw[of_eq,bF (show o1 _ H=_ from AY (AX n1 hn)),bF (show o2 _ H=_ from q),bF (show o3 _ H=_ from Z1 (F:=F_qa) e1)];have r:=Z2 (F:=F_qn) (a:=.int n) (b:=.ref j) (ZU g (by omega))
 cases hc:(cs.any λp=>decide (p.1=p.2))with
 |true=>rw[hc]at r;rw[vM (show o4 _ H'=_ from r)];rfl
 |false=>rw[hc]at r;rw[bF (show o4 _ H'=_ from r)];simp[aS,bD,aA,aB,aC,aE,f1,gE,g,lim,bW,rC]
theorem A0 {F:ya}{c:Nat}{H':Hs}(e:F [d,y] H=.ex c H'):aE F (aA (aB 0) (aA (aB 1) aC)) ([d,y].map some) H=.ex c H':=by simp[aE,aA,aB,aC,e]
end
open L2.Mr.Cod (cM lQ hV AN)
section
variable{n st ir ip m:Nat}{ps:xq}{H:Hs}{ρ:Ev}{ys:xu}
theorem v {i:Nat}{d:Dv}(h:At ρ i d):aB i ρ H=.ok d H:=by rw[h.v]
theorem mX {m:M Dv}{c:Bool}{H':Hs}(h:m ρ H=.ok (.bl c) H'):mB m ρ H=.ok c H':=by unfold mB;rw[h];rfl
theorem JR {t u:M Bool}{H':Hs}(h:t ρ H=.ok true H'):gU t u ρ H=u ρ H':=by unfold gU;rw[h];rfl
theorem Z4 {t u:M Bool}{H':Hs}(h:t ρ H=.ok false H'):gU t u ρ H=.ok false H':=by unfold gU;rw[h];rfl
theorem oQ {F:ya}{ma mb:M Dv}{a b w:Dv}{H1 H2 H':Hs}(ha:ma ρ H=.ok a H1) (hb:mb ρ H1=.ok b H2) (e:F [a,b] H2=.ok w H'):aE F (aA ma (aA mb aC)) ρ H=.ok w H':=by simp[aE,aA,ha,hb,aC,e]
theorem kS {F:ya}{m:M Dv}{a w:Dv}{H1 H':Hs}(ha:m ρ H=.ok a H1) (e:F [a] H1=.ok w H'):aE F (aA m aC) ρ H=.ok w H':=by simp[aE,aA,ha,aC,e]
theorem vN {ma mb:M Dv}{a b:Dv}{H1 H2:Hs}(ha:ma ρ H=.ok a H1) (hb:mb ρ H1=.ok b H2):bD (aA ma (aA mb aC)) ρ H=.ok (.tup [a,b]) H2:=by simp[bD,aA,ha,hb,aC,lim]
theorem JS {ma mb:M Dv}{a b:Dv}{H1 H2:Hs}(ha:ma ρ H=.ok a H1) (hb:mb ρ H1=.ok b H2):aO (aA ma (aA mb aC)) ρ H=.ok (.ref H2.length) (H2++[.lst [a,b]]):=by simp[aO,aA,ha,hb,aC,lim]
theorem jY {j:Nat}{mm:M Dv}{k:Int}(s:Com.St st H) (a:At ρ j (.ref st)) (em:∀H,mm ρ H=.ok (.int k) H) (h0:0<k) (h1:k<1000):∃(r:Nat) (H':Hs),r<k/\aE F_ql (aA (aB j) (aA mm aC)) ρ H=.ok (.int r) H'/\Fr [st] H H'/\Com.St st H':=by
 obtain⟨r,H',r0,r1,e,f,s'⟩:=AJ k s h0 (by omega);obtain⟨q,rfl⟩:∃q:Nat,r=q:=⟨r.toNat,by omega⟩
 exact⟨q,H',r1,oQ (v a) (em H) e,f,s'⟩
theorem Z5 {i:Nat}{a b:Int}(e:getL H i=some [.int a,.int b]):f1 lL [.ref i] H=.ok (.ref H.length) (H++[.lst ((iH [a,b]).map Dv.int)]):=by simp[f1,lL,qJ,e,aY,dZ]
theorem Z6 {l:xu}{a b:Int}(h:l.Perm [a,b]):∃x y,l=[x,y]/\(x=a∨x=b)/\(y=a∨y=b):=by
 have hl:=h.length_eq
 match l,hl with
 | [x,y],_=>have hx:=h.mem_iff.mp (show x∈[x,y]by simp);have hy:=h.mem_iff.mp (show y∈[x,y]by simp);exact⟨x,y,rfl,by simpa using hx,by simpa using hy⟩
abbrev tk (j:Int):M Dv:=aE F_ql (aA (aB 0) (aA (mC (.int j)) aC))
abbrev JT:M Dv:=aE F_ql (aA (aB 0) (aA (aB 1) aC))
abbrev p1:MS:=rA 2 (aE (f1 lL) (aA (aO (aA JT (aA JT aC))) aC)) (bP (aH 5) (bP (aH 6) eK))
abbrev pT:M Dv:=bD (aA (m2 cA (aB 2) (aB 5)) (aA (m2 cA (aB 2) (aB 6)) aC))
abbrev p2:MS:=aV (fI (mB (m2 kN (aB 5) (aB 6))) (mB (m2 bZ (tk 9) (mC (.int 0))))) (dD (lB (aB 3) pT)) bC
structure Kp (n st ir ip:Nat) (ρ:Ev):Prop where
 L:ρ.length=9
 a0:At ρ 0 (.ref st)
 a1:At ρ 1 (.int n)
 a2:At ρ 2 (.ref ir)
 a3:At ρ 3 (.ref ip)
theorem Kp.set (K:Kp n st ir ip ρ) {i:Nat}{y:yc}(h:4<=i):Kp n st ir ip (ρ.set i y):=⟨by simp[K.L],K.a0.o (by omega),K.a1.o (by omega),K.a2.o (by omega),K.a3.o (by omega)⟩
structure Hd (n st ir ip m:Nat) (ys:xu) (ps:xq) (H:Hs):Prop where
 s:Com.St st H
 r:getL H ir=some (ys.map Dv.int)
 p:getL H ip=some (ps.map aI)
 i:fN n ps
 l:ps.length<=m
theorem Hd.fr {H':Hs}(D:Hd n st ir ip m ys ps H) (f:Fr [st] H H') (s':Com.St st H') (h1:ir≠st) (h2:ip≠st):Hd n st ir ip m ys ps H':=⟨s',f.getL D.r (by simpa using h1),f.getL D.p (by simpa using h2),D.i,D.l⟩
theorem Z7 (n1:1<=n) (hn:n<=6) (K:Kp n st ir ip ρ) (s:Com.St st H):∃(a b:Nat) (H':Hs),a<n/\b<n/\p1 ρ H=.nx ((ρ.set 5 (some (.int a))).set 6 (some (.int b))) H'/\Com.St st H'/\Fr [st] H H':=by
 obtain⟨a,H1,ha,e1,f1',s1⟩:=jY (ρ:=ρ) (mm:=aB 1) (k:=n) s K.a0 (λH=>v K.a1) (by omega) (by omega);obtain⟨b,H2,hb,e2,f2,s2⟩:=jY (ρ:=ρ) (mm:=aB 1) (k:=n) s1 K.a0 (λH=>v K.a1) (by omega) (by omega);have e3:=JS (ρ:=ρ) e1 e2;have f3:Fr [] H2 (H2++[Ob.lst [.int (a:Int),.int (b:Int)]]):=Fr.app;have g3:getL (H2++[Ob.lst [.int (a:Int),.int (b:Int)]]) H2.length=some [.int a,.int b]:=cM;generalize H2.length=q at e3 g3;generalize H2++[Ob.lst [.int (a:Int),.int (b:Int)]]=H3 at e3 f3 g3;have e4:=kS (F:=f1 lL) e3 (Z5 g3);obtain⟨x,y,hl,hx,hy⟩:=Z6 (tO [(a:Int),b]);rw[hl]at e4;have g4:getL (H3++[Ob.lst ([x,y].map Dv.int)]) H3.length=some ([x,y].map Dv.int):=cM;have f4:Fr [] H3 (H3++[Ob.lst ([x,y].map Dv.int)]):=Fr.app;generalize H3.length=q' at e4 g4;generalize H3++[Ob.lst ([x,y].map Dv.int)]=H4 at e4 f4 g4;obtain⟨x',rfl⟩:∃x':Nat,x=x':=⟨x.toNat,by omega⟩
 obtain⟨y',rfl⟩:∃y':Nat,y=y':=⟨y.toNat,by omega⟩
 refine⟨x',y',H4,by omega,by omega, ?_,(s2.fr f3 (by simp)).fr f4 (by simp),((f1'.trans f2 (by simp)).trans f3 (by simp)).trans f4 (by simp)⟩;show rA 2 _ _ ρ H=_;unfold rA;rw[e4,Rs.thenS_ok];dsimp only;rw[g4];rfl
theorem Z8 (K:Kp n st ir ip ρ) (D:Hd n st ir ip m ys ps H) (h1:ir≠st) (h2:ip≠st) (h3:ir≠ip) (hm:m<=100) (hy:ys.length=n) (hr:∀x∈ys,0<=x/\x<n) {a b:Nat}(ha:a<n) (hb:b<n) (a5:At ρ 5 (.int a)) (a6:At ρ 6 (.int b)):
  ∃ps' H',p2 ρ H=.nx ρ H'/\Hd n st ir ip (m+1) ys ps' H'/\Fr [st,ip] H H':=by
 have e1:mB (m2 kN (aB 5) (aB 6)) ρ H=.ok (decide ((a:Int)<b)) H:=mX (dS (v a5) (v a6) rfl);have app:∀{H1:Hs},Hd n st ir ip m ys ps H1->∃ps' H',dD (lB (aB 3) pT) ρ H1=.nx ρ H'/\Hd n st ir ip (m+1) ys ps' H'/\Fr [ip] H1 H':=by
  intro H1 D1;have i1:=hV (H:=H1) D1.r (j:=a) (by simp;omega);have i2:=hV (H:=H1) D1.r (j:=b) (by simp;omega);rw[u0]at i1 i2;have t:pT ρ H1=.ok (aI (ys[a],ys[b])) H1:=vN (dS (v K.a2) (v a5) i1) (dS (v K.a2) (v a6) i2);have hl:(ps.map aI).length<1000000:=by have:=D1.l;simp;omega
  refine⟨ps++[(ys[a],ys[b])],H1.set ip (.lst (ps.map aI++[aI (ys[a],ys[b])])), ?_,⟨D1.s.fr (S:=[ip]) Fr.set (by simpa using cu h2), ?_, ?_, ?_, ?_⟩,Fr.set⟩
  ·have g:=D1.p;have ev:aB 3 ρ H1=.ok (.ref ip) H1:=v K.a3;generalize pT=M at t;generalize ps.map aI=zs at g hl;generalize aI (ys[a],ys[b])=z at t;unfold dD lB;rw[ev,Rs.bind_ok,if_pos (by simp[gX,g]),t,Rs.bind_ok];simp[pZ,g,hl]
  ·rw[lF (cu h3)];exact D1.r
  ·rw[js];exact lE D1.p
  ·intro p hp
   rcases fg.mp hp with hp|hp
   ·exact D1.i p hp
   ·rw[cy.mp hp];have q1:=hr _ (gh (show a<ys.length by omega));have q2:=hr _ (gh (show b<ys.length by omega));exact⟨q1.1,q1.2,q2⟩
  ·have:=D1.l;simp;omega
 by_cases c:(a:Int)<b
 ·rw[decide_eq_true c]at e1;obtain⟨ps',H',w,D',f⟩:=app D;exact⟨ps',H',(qM (ZG e1)).trans w,D',f.mono (by simp)⟩
 ·rw[decide_eq_false c]at e1;obtain⟨r,H1,hr1,e2,f2,s2⟩:=jY (ρ:=ρ) (mm:=mC (.int 9)) (k:=9) D.s K.a0 (λH=>rfl) (by decide) (by decide);have e3:mB (m2 bZ (tk 9) (mC (.int 0))) ρ H=.ok ((r:Int)==0) H1:=mX (dS e2 rfl (Com.eq_int _ _ _));have D1:=D.fr f2 s2 h1 h2
  cases hq:((r:Int)==0)with
  |true=>rw[hq]at e3;obtain⟨ps',H',w,D',f⟩:=app D1;exact⟨ps',H',(qM ((JM e1).trans e3)).trans w,D',(f2.mono (by simp)).trans f (by simp)⟩
  |false=>rw[hq]at e3;exact⟨ps,H1,(kK ((JM e1).trans e3)).trans rfl,⟨D1.s,D1.r,D1.p,D1.i,by have:=D1.l;omega⟩,f2.mono (by simp)⟩
theorem JU (n1:1<=n) (hn:n<=6) (h1:ir≠st) (h2:ip≠st) (h3:ir≠ip) (hy:ys.length=n) (hr:∀x∈ys,0<=x/\x<n) {c:Int}:∀(f k m:Nat) (ps:xq) (ρ:Ev) (H:Hs),m+f<=100->Kp n st ir ip ρ->Hd n st ir ip m ys ps H->
  ∃ps' ρ' H',eM (dM 0 c) (aH 4) (aK p1 p2) f k ρ H=.nx ρ' H'/\Kp n st ir ip ρ'/\Hd n st ir ip (m+f) ys ps' H'/\Fr [st,ip] H H'
 |0,k,m,ps,ρ,H,_,K,D=>⟨ps,ρ,H,by unfold eM;simp[dM],K,D,Fr.refl⟩
 |f+1,k,m,ps,ρ,H,hm,K,D=>by
  have K4:Kp n st ir ip (ρ.set 4 (some (.int (0+(k:Int))))):=K.set (by omega);have hg:(dM 0 c).get k H=some (.int (0+(k:Int))):=by simp[dM]
  have hset:aH 4 (.int (0+(k:Int))) ρ=some (ρ.set 4 (some (.int (0+(k:Int))))):=rfl;generalize ρ.set 4 (some (.int (0+(k:Int))))=ρ4 at K4 hset;obtain⟨a,b,H1,ha,hb,w1,s1,f1'⟩:=Z7 n1 hn K4 D.s;have K6:Kp n st ir ip ((ρ4.set 5 (some (.int a))).set 6 (some (.int b))):=(K4.set (by omega)).set (by omega);have b5:At ((ρ4.set 5 (some (.int a))).set 6 (some (.int b))) 5 (.int a):=At.o (At.new (by rw[K4.L];decide));have b6:At ((ρ4.set 5 (some (.int a))).set 6 (some (.int b))) 6 (.int b):=At.new (by rw[gy,K4.L];decide);generalize (ρ4.set 5 (some (.int a))).set 6 (some (.int b))=ρ6 at K6 b5 b6 w1;obtain⟨ps1,H2,w2,D2,f2⟩:=Z8 K6 (D.fr f1' s1 h1 h2) h1 h2 h3 (by omega) hy hr ha hb b5 b6;obtain⟨ps',ρ',H',w3,K',D',f3⟩:=JU n1 hn h1 h2 h3 hy hr f (k+1) (m+1) ps1 ρ6 H2 (by omega) K6 D2;refine⟨ps',ρ',H', ?_,K',by rw[show m+(f+1)=m+1+f by omega];exact D',((f1'.mono (by simp)).trans f2 (by simp)).trans f3 (by simp)⟩;rw[<-w3];exact yN hg hset ((bF w1).trans w2)
end
section
variable{n st ir ip m:Nat}{ps:xq}{H:Hs}{ρ:Ev}{ys:xu}
theorem A1 {x y:Dv}{b:Bool}(e:bZ x y H=.ok (.bl b) H):bV x y H=.ok (.bl (!b)) H:=by
 unfold bZ at e;unfold bV
 cases h1:bI dI H x with
 |none=>rw[h1]at e;cases e
 |some s=>
  cases h2:bI dI H y with
  |none=>rw[h1,h2]at e;cases e
  |some t=>rw[h1,h2]at e;cases e;rfl
theorem A2 {j:Nat}{xs:yb}(e:getL H j=some xs):f1 dP [.ref j] H=.ok (.int xs.length) H:=by simp[f1,dP,hJ,gD,fR,e]
abbrev mY:M Dv:=aE (f1 dP) (aA (aB 3) aC)
abbrev i1:MS:=aN (m2 cA (aB 3) (aE F_ql (aA (aB 0) (aA mY aC)))) (eY 2 (bP (aH 7) (bP (aH 8) eK)))
abbrev i2:MS:=dD (rB (aB 3) (aE F_ql (aA (aB 0) (aA (m2 bR mY (mC (.int 1))) aC))) (m2 cA (aO (aA (bD (aA (aB 8) (aA (aB 7) aC))) (aA (bD (aA (aB 7) (aA (aB 8) aC))) aC))) (tk 2)))
abbrev p3:MS:=aV (gU (mB (m2 bV (aB 3) (aO aC))) (mB (m2 bZ (tk 3) (mC (.int 0))))) (aK i1 i2) bC
theorem A3 {j:Nat}{mm:M Dv}{k:Int}(s:Com.St st H) (a:At ρ j (.ref st)) (em:mm ρ H=.ok (.int k) H) (h0:0<k) (h1:k<1000):∃(r:Nat) (H':Hs),r<k/\aE F_ql (aA (aB j) (aA mm aC)) ρ H=.ok (.int r) H'/\Fr [st] H H'/\Com.St st H':=by
 obtain⟨r,H',r0,r1,e,f,s'⟩:=AJ k s h0 (by omega);obtain⟨q,rfl⟩:∃q:Nat,r=q:=⟨r.toNat,by omega⟩
 exact⟨q,H',r1,oQ (v a) em e,f,s'⟩
theorem Z9 {me:M Dv}{p:Int×Int}{H':Hs}(e:me ρ H=.ok (aI p) H'):aN me (eY 2 (bP (aH 7) (bP (aH 8) eK))) ρ H=.nx ((ρ.set 7 (some (.int p.1))).set 8 (some (.int p.2))) H':=by unfold aN;rw[e];rfl
theorem a9 {l:xq}{k:Nat}{p:Int×Int}(h:fN n l) (hp:0<=p.1/\p.1<n/\0<=p.2/\p.2<n):fN n (eR l k p):=λq hq=>by
 unfold eR at hq
 rcases fg.mp hq with hq|hq
 ·exact h q (xc hq)
 ·rcases ba.mp hq with rfl|hq
  ·exact hp
  ·exact h q (qt hq)
theorem b9 {α:Type}{l:List α}{k:Nat}{p:α}:(eR l k p).length=l.length+1:=by unfold eR;simp;omega
theorem c9 {α β:Type}{l:List α}{k:Nat}{p:α}(f:α->β):eR (l.map f) k (f p)=(eR l k p).map f:=by simp[eR,rf,rg]
theorem d6 (K:Kp n st ir ip ρ) (D:Hd n st ir ip m ys ps H) (h1:ir≠st) (h2:ip≠st) (h3:ir≠ip) (hm:m<=200) {p:Int×Int}(hp:0<=p.1/\p.1<n/\0<=p.2/\p.2<n) (a7:At ρ 7 (.int p.1)) (a8:At ρ 8 (.int p.2)):
  ∃ps' H',i2 ρ H=.nx ρ H'/\Hd n st ir ip (m+1) ys ps' H'/\Fr [st,ip] H H':=by
 have dl:=D.l;have el:mY ρ H=.ok (.int (ps.map aI).length) H:=kS (v K.a3) (A2 D.p);have el1:m2 bR mY (mC (.int 1)) ρ H=.ok (.int ((ps.map aI).length+1)) H:=dS el rfl rfl;obtain⟨r,H1,hr,e1,f1',s1⟩:=A3 (ρ:=ρ) (mm:=m2 bR mY (mC (.int 1))) D.s K.a0 el1 (by omega) (by rw[bf];omega);have D1:=D.fr f1' s1 h1 h2;have e2:=JS (ρ:=ρ) (H:=H1) (vN (v a8) (v a7)) (vN (v a7) (v a8));have f2:Fr [] H1 (H1++[Ob.lst [aI (p.2,p.1),aI p]]):=Fr.app;have g2:getL (H1++[Ob.lst [aI (p.2,p.1),aI p]]) H1.length=some [aI (p.2,p.1),aI p]:=cM;have Ap:aO (aA (bD (aA (aB 8) (aA (aB 7) aC))) (aA (bD (aA (aB 7) (aA (aB 8) aC))) aC)) ρ H1=.ok (.ref H1.length) (H1++[Ob.lst [aI (p.2,p.1),aI p]]):=e2;have lt:H1.length≠st:=by have:=s1.lt;omega
 generalize H1.length=q at Ap g2 lt;generalize H1++[Ob.lst [aI (p.2,p.1),aI p]]=H2 at Ap g2 f2;have s2:=s1.fr f2 (by simp);have D2:Hd n st ir ip m ys ps H2:=⟨s2,f2.getL D1.r (by simp),f2.getL D1.p (by simp),D1.i,D1.l⟩
 obtain⟨r2,H3,hr2,e3,f3,s3⟩:=jY (ρ:=ρ) (mm:=mC (.int 2)) (k:=2) s2 K.a0 (λH=>rfl) (by decide) (by decide);have g3:=f3.getL g2 (by simpa using lt);have D3:=D2.fr f3 s3 h1 h2;have e4:∃p':Int×Int,(0<=p'.1/\p'.1<n/\0<=p'.2/\p'.2<n)/\cA (.ref q) (.int r2) H3=.ok (aI p') H3:=by
  have:=hV (H:=H3) g3 (j:=r2) (by simp;omega)
  rcases(show r2=0∨r2=1 by omega)with rfl|rfl
  ·exact⟨(p.2,p.1),⟨hp.2.2.1,hp.2.2.2,hp.1,hp.2.1⟩,this⟩
  ·exact⟨p,hp,this⟩
 obtain⟨p',hp',e4⟩:=e4;have e5:=dS Ap e3 e4;have hl:(ps.map aI).length=ps.length:=bf ..;refine⟨eR ps r p',H3.set ip (.lst (eR (ps.map aI) r (aI p'))), ?_,⟨D3.s.fr (S:=[ip]) Fr.set (by simpa using cu h2),by rw[lF (cu h3)];exact D3.r,by rw[c9];exact lE D3.p,a9 D3.i hp',by rw[b9];omega⟩,(((f1'.mono (by simp)).trans f2 (by simp)).trans f3 (by simp)).trans (T:=[ip]) Fr.set (by simp)⟩;have gI:=D.p;have gJ:=D3.p;have ev:aB 3 ρ H=.ok (.ref ip) H:=v K.a3;rw[hl]at hr;have hz:0<=(r:Int)/\(r:Int)<=(ps.map aI).length/\(ps.map aI).length<1000000:=⟨by omega,by omega,by omega⟩
 generalize ps.map aI=zs at gI gJ hz;generalize aI p'=z at e5;show dD (rB _ _ _) ρ H=_;unfold dD rB;rw[ev,Rs.bind_ok,if_pos (by simp[gX,gI]),e1,Rs.bind_ok,e5,Rs.bind_ok];show(uP (.ref ip) (.int r) z H3).thenS _=_;unfold uP;dsimp only;rw[gJ];dsimp only;rw[if_pos hz,di];rfl
theorem h8 (K:Kp n st ir ip ρ) (D:Hd n st ir ip m ys ps H) (h1:ir≠st) (h2:ip≠st) (h3:ir≠ip) (hm:m<=100):∃ps' ρ' H',p3 ρ H=.nx ρ' H'/\Kp n st ir ip ρ'/\Hd n st ir ip (m+1) ys ps' H'/\Fr [st,ip] H H':=by
 have eb:aO aC ρ H=.ok (.ref H.length) (H++[.lst []]):=rfl;have f0:Fr [] H (H++[Ob.lst []]):=Fr.app;have g0:getL (H++[Ob.lst []]) H.length=some (([]:xq).map aI):=cM;generalize H.length=q at eb g0;generalize H++[Ob.lst []]=H0 at eb g0 f0;have D0:Hd n st ir ip m ys ps H0:=⟨D.s.fr f0 (by simp),f0.getL D.r (by simp),f0.getL D.p (by simp),D.i,D.l⟩
 have t1:mB (m2 bV (aB 3) (aO aC)) ρ H=.ok (!decide (ps=[])) H0:=mX (dS (v K.a3) eb (A1 (AL D0.p g0)));have wk:∀{H:Hs},Hd n st ir ip m ys ps H->Hd n st ir ip (m+1) ys ps H:=λD=>⟨D.s,D.r,D.p,D.i,by have:=D.l;omega⟩
 by_cases c:ps=[]
 ·rw[decide_eq_true c]at t1;exact⟨ps,ρ,H0,(kK (Z4 t1)).trans rfl,K,wk D0,f0.mono (by simp)⟩
 ·rw[decide_eq_false c]at t1;obtain⟨r,H1,hr,e1,f1',s1⟩:=jY (ρ:=ρ) (mm:=mC (.int 3)) (k:=3) D0.s K.a0 (λH=>rfl) (by decide) (by decide);have t2:mB (m2 bZ (tk 3) (mC (.int 0))) ρ H0=.ok ((r:Int)==0) H1:=mX (dS e1 rfl (Com.eq_int _ _ _));have D1:=D0.fr f1' s1 h1 h2;have f01:Fr [st,ip] H H1:=(f0.mono (by simp)).trans f1' (by simp)
  cases hq:((r:Int)==0)with
  |false=>rw[hq]at t2;exact⟨ps,ρ,H1,(kK ((JR t1).trans t2)).trans rfl,K,wk D1,f01⟩
  |true=>
   rw[hq]at t2;have dl:=D1.l;have pos:0<ps.length:=List.length_pos_iff.mpr c;have el:mY ρ H1=.ok (.int (ps.map aI).length) H1:=kS (v K.a3) (A2 D1.p);obtain⟨j,H2,hj,e2,f2,s2⟩:=A3 (ρ:=ρ) (mm:=mY) D1.s K.a0 el (by rw[bf];omega) (by rw[bf];omega);have D2:=D1.fr f2 s2 h1 h2;rw[bf]at hj;have hj':j<ps.length:=by omega
   have e3:=hV (H:=H2) D2.p (j:=j) (by simp;omega);rw[u0]at e3;have w1:=Z9 (ρ:=ρ) (dS (v K.a3) e2 e3);have hp:=D2.i _ (gh hj');generalize ps[j]=p at w1 hp;have K8:Kp n st ir ip ((ρ.set 7 (some (.int p.1))).set 8 (some (.int p.2))):=(K.set (by omega)).set (by omega);have b7:At ((ρ.set 7 (some (.int p.1))).set 8 (some (.int p.2))) 7 (.int p.1):=At.o (At.new (by rw[K.L];decide));have b8:At ((ρ.set 7 (some (.int p.1))).set 8 (some (.int p.2))) 8 (.int p.2):=At.new (by rw[gy,K.L];decide);generalize (ρ.set 7 (some (.int p.1))).set 8 (some (.int p.2))=ρ8 at K8 b7 b8 w1;obtain⟨ps',H3,w2,D3,f3⟩:=d6 K8 D2 h1 h2 h3 (by omega) hp b7 b8;exact⟨ps',ρ8,H3,(qM ((JR t1).trans t2)).trans ((bF w1).trans w2),K8,D3,(f01.trans f2 (by simp)).trans f3 (by simp)⟩
abbrev pL:MS:=eZ (aQ dN (aA (tk 10) aC)) (aH 4) (aK p1 p2)
theorem h9:zQ=aK (aN (aE F_qb (aA (aB 0) (aA (aE (f1 kP) (aA (aB 1) aC)) aC))) (aH 2)) (aK (aN (aO aC) (aH 3)) (aK pL (aK p3 (aS (aB 3))))):=rfl
theorem i0 (s:Com.St st H) (n1:1<=n) (hn:n<=6):∃(i:Nat) (ps:xq) (H':Hs),F_qg [.ref st,.int n] H=.ok (.ref i) H'/\getL H' i=some (ps.map aI)/\fN n ps/\ps.length<=11/\H.length<=i/\Com.St st H'/\Fr [st] H H':=by
 have lt:=s.lt;have hL:=AN (H:=H) (n:=n) hn;have fL:Fr [] H (H++[Ob.lst ((bH n).map Dv.int)]):=Fr.app;have gL:getL (H++[Ob.lst ((bH n).map Dv.int)]) H.length=some ((bH n).map Dv.int):=cM;obtain⟨ir,ys,H2,t2,er,pm,hir,s2,f2⟩:=YI (s.fr fL (by simp)) gL (by simp[bH];omega);have hir':H.length<ir:=by simp at hir;omega
 have w1:aN (aE F_qb (aA (aB 0) (aA (aE (f1 kP) (aA (aB 1) aC)) aC))) (aH 2) [some (.ref st),some (.int n),none,none,none,none,none,none,none] H=.nx [some (.ref st),some (.int n),some (.ref ir),none,none,none,none,none,none] H2:=by refine(jE (i:=2) (oQ (F:=F_qb) (ma:=aB 0) (a:=.ref st) (b:=.ref H.length) rfl (kS (F:=f1 kP) (m:=aB 1) (a:=.int n) rfl (show f1 kP [.int n] H=_ from hL)) t2)).trans rfl
 have w2:aN (aO aC) (aH 3) [some (.ref st),some (.int n),some (.ref ir),none,none,none,none,none,none] H2=.nx [some (.ref st),some (.int n),some (.ref ir),some (.ref H2.length),none,none,none,none,none] (H2++[.lst []]):=rfl;have lir:=mJ er;have f3:Fr [] H2 (H2++[Ob.lst []]):=Fr.app;have g3:getL (H2++[Ob.lst []]) H2.length=some (([]:xq).map aI):=cM;have f02:Fr [st] H H2:=(fL.mono (by simp)).trans f2 (by simp);obtain⟨ip,hip⟩:∃ip,ip=H2.length:=⟨_,rfl⟩
 rw[<-hip]at w2 g3;have hipH:H.length<=ip:=by have:=f02.le;omega
 generalize H2++[Ob.lst []]=H3 at w2 f3 g3;have hy:ys.length=n:=by rw[pm.length_eq];simp[bH]
 have hr:∀x∈ys,0<=x/\x<n:=λx hx=>by have:=pm.mem_iff.mp hx;simp only[bH,cw,bq,di]at this;obtain⟨k,hk,rfl⟩:=this;omega
 have D3:Hd n st ir ip 0 ys [] H3:=⟨s2.fr f3 (by simp),f3.getL er (by simp),g3,λ_ h=>by simp at h,by simp⟩
 have K3:Kp n st ir ip [some (.ref st),some (.int n),some (.ref ir),some (.ref ip),none,none,none,none,none]:=⟨rfl,rfl,rfl,rfl,rfl⟩
 generalize [some (Dv.ref st),some (.int n),some (.ref ir),some (.ref ip),none,none,none,none,none]=ρ3 at w2 K3;obtain⟨c,H4,hc,e4,f4,s4⟩:=jY (ρ:=ρ3) (mm:=mC (.int 10)) (k:=10) D3.s K3.a0 (λH=>rfl) (by decide) (by decide);have h1:ir≠st:=by omega
 have h2:ip≠st:=by omega
 have h3:ir≠ip:=by omega
 have D4:=D3.fr f4 s4 h1 h2;have e5:aQ dN (aA (tk 10) aC) ρ3 H3=.ok (dM 0 c) H4:=by
  have q:aA (tk 10) aC ρ3 H3=.ok [.int c] H4:=by simp[aA,e4,aC]
  unfold aQ;rw[q,Rs.bind_ok];exact IW (by omega) (by omega)
 obtain⟨ps5,ρ5,H5,w5,K5,D5,f5⟩:=JU n1 hn h1 h2 h3 hy hr (c:=c) c 0 0 [] ρ3 H4 (by omega) K3 D4;have w5':pL ρ3 H3=.nx ρ5 H5:=by
  refine(yM e5).trans ?_;have:(dM 0 (c:Int)).n=c:=by simp[dM]
  rw[this];exact w5
 obtain⟨ps6,ρ6,H6,w6,K6,D6,f6⟩:=h8 K5 D5 h1 h2 h3 (by omega);have hw:∀x∈[st,ip],x∈[st]∨H.length<=x:=λx hx=>by
  rcases ba.mp hx with rfl|hx
  ·exact .inl (by simp)
  ·exact .inr (by rw[cy.mp hx];exact hipH)
 refine⟨ip,ps6,H6, ?_,D6.p,D6.i,by have:=D6.l;omega,hipH,D6.s,(((f02.trans f3 (by simp)).trans f4 (by simp)).trans f5 hw).trans f6 hw⟩;show bW (zQ [some (.ref st),some (.int n),none,none,none,none,none,none,none] H)=_;rw[h9,bF w1,bF w2,bF w5',bF w6];unfold aS;rw[v K6.a3];rfl
end
open L2.Mr.Cod (cM lQ hV vK AV)
section
variable{n st:Nat}{ps cs:xq}{H:Hs}{ρ:Ev}
theorem i6 {cs':xq}(h:kR n ps cs) (h':kR n ps cs'):cs=cs':=by have sub:∀{cs cs':xq},kR n ps cs->kR n ps cs'->∀z∈cs,z∈cs':=λ{cs cs'} h h' z hz=>h.2.2.2.2 (λa b=>(a,b)∈cs') (λa b c x y=>h'.2.2.1 (a,b) x (b,c) y rfl) (λp hp=>h'.2.2.2.1 p hp) z hz;exact tQ fX h.1 h'.1 λz=>⟨sub h h' z,sub h' h z⟩
abbrev vO:M yb :=dY (cO cZ (aB 6)) [none,none] (eY 2 (bP (aH 0) (bP (aH 1) eK))) (mB (m2 bZ (aB 0) (aB 1))) (dO (mC (.int 1)))
theorem i7 {j:Nat}(a6:At ρ 6 (.ref j)) (e:getL H j=some (cs.map aI)) (hl:cs.length<=500):vO ρ H=.ok (cs.filterMap λp=>if p.1=p.2 then some (.int 1)else none) H:=
 mU cs (λp=>if p.1=p.2 then some (.int 1)else none) (λρ=>∃a b,ρ=[a,b]) (src:=cC j cs.length) (by simp[cO,a6.v,cZ,e]) (by simp[cC]) ⟨_,_,rfl⟩ (by simp[cC,e]) (λk hk ρ ⟨a,b,e'⟩=>by
  subst e';refine⟨aI cs[k],[some (.int cs[k].1),some (.int cs[k].2)],by simp[cC,e,hk],rfl,⟨_,_,rfl⟩, ?_⟩;have q:mB (m2 bZ (aB 0) (aB 1)) [some (.int cs[k].1),some (.int cs[k].2)] H=.ok (cs[k].1==cs[k].2) H:=mX (dS rfl rfl (Com.eq_int _ _ _))
  by_cases c:cs[k].1=cs[k].2
  ·rw[if_pos c];rw[show(cs[k].1==cs[k].2)=true by simpa using c]at q;exact⟨q,rfl⟩
  ·rw[if_neg c];rw[show(cs[k].1==cs[k].2)=false by simpa using c]at q;exact q) (by omega)
theorem i8 {j:Nat}(a6:At ρ 6 (.ref j)) (e:getL H j=some (cs.map aI)) (hl:cs.length<=500):∃H',mB (m2 bV (iS vO) (aO aC)) ρ H=.ok (cs.any λp=>decide (p.1=p.2)) H'/\Fr [] H H':=by
 have e1:iS vO ρ H=.ok (.ref H.length) (H++[.lst (cs.filterMap λp=>if p.1=p.2 then some (.int 1)else none)]):=by unfold iS;rw[i7 a6 e hl];rfl
 have hz:(cs.filterMap λp=>if p.1=p.2 then some (Dv.int 1)else none)=(gw (cs.countP λp=>decide (p.1=p.2)) (Dv.int 1)):=by
  clear e hl e1
  induction cs with
  |nil=>rfl
  |cons p cs ih=>
   by_cases c:p.1=p.2
   ·rw[cj,if_pos c,List.countP_cons_of_pos (by simpa using c),ih];rfl
   ·rw[cj,if_neg c,List.countP_cons_of_neg (by simpa using c),ih]
 have ha:(cs.any λp=>decide (p.1=p.2))=decide (0<cs.countP λp=>decide (p.1=p.2)):=by rw[jr];simp[List.countP_pos_iff]
 rw[hz]at e1;rw[ha];generalize (cs.countP λp=>decide (p.1=p.2))=m at e1;have g1:getL (H++[Ob.lst (gw m (Dv.int 1))]) H.length=some (gw m (Dv.int 1)):=cM;have f1':Fr [] H (H++[Ob.lst (gw m (Dv.int 1))]):=Fr.app;generalize H.length=q at e1 g1;generalize H++[Ob.lst (gw m (Dv.int 1))]=H1 at e1 f1' g1;have e2:aO aC ρ H1=.ok (.ref H1.length) (H1++[.lst []]):=rfl;have g2:getL (H1++[Ob.lst []]) H1.length=some []:=cM;have f2:Fr [] H1 (H1++[Ob.lst []]):=Fr.app;generalize H1.length=q2 at e2 g2;generalize H1++[Ob.lst []]=H2 at e2 f2 g2;refine⟨H2,mX (dS e1 e2 ?_),f1'.trans f2 (by simp)⟩;have g1':=f2.getL g1 (by simp)
 cases m with
 |zero=>refine(A1 (b:=true) ?_).trans rfl;simp[bZ,dI,bI,g1',g2,aY,bG,eV]
 |succ m=>
  have o:∀m,aY (bI 29 H2) (gw m (Dv.int 1))=some (gw m (Dt.int 1)):=λm=>by
   induction m with
   |zero=>rfl
   |succ m ih=>have p1:bI 29 H2 (.int 1)=some (.int 1):=rfl;rw[xl,xl];simp only[aY,p1,ih]
  have e3:bI dI H2 (.ref q)=some (.lst (gw (m+1) (Dt.int 1))):=by show bI (29+1) H2 (.ref q)=_;rw[bI];simp only[g1',o]
  have e4:bI dI H2 (.ref q2)=some (.lst []):=by show bI (29+1) H2 (.ref q2)=_;rw[bI];simp only[g2];rfl
  unfold bV;rw[e3,e4];rfl
theorem i9 {k:Nat}(p:Int×Int):F_qk (k+2) [aI p,aI p] H=.ok (.bl true) H:=
 vK (by simp) λx hx=>by
  simp only[ba,u5,or_false]at hx
  rcases hx with rfl|rfl <;> exact AV
theorem j3 (hl:cs.length<=500):F_qk 6 [rC n cs,rC n cs] H=.ok (.bl true) H:=
 vK (by simp) λx hx=>by
  simp only[ba,u5,or_false]at hx
  rcases hx with rfl|rfl
  ·exact AV
  ·exact vK (by simp;omega) λy hy=>by obtain⟨p,_,rfl⟩:=cw.mp hy;exact i9 p
def JV:Dv->Bool
 | .ref _=>false
 | .exc _=>false
 | .scr=>false
 |_=>true
theorem j4 {d:Dv}(h:JV d=true):T0 H d:=by cases d <;> first|trivial|cases h
theorem oR {xs:yb}(hl:xs.length<=500) (h:xs.all JV=true):TK 1 H (.tup xs):=TK.tup hl λx hx=>j4 (ic.mp h x hx)
def gQ (n q:Nat):yb:=[.tup [.int 0,.int n],.tup [.int (-1),.int 0],.tup [.int 0,.bl true],.tup [.int 0],.tup [.int 0,.int 0,.int 0],.ref q,.non,.int 0,.str "00",.tup [.non,.int 0]]
theorem j5 {q:Nat}(g:getL H q=some [.int 0,.int 0]):∀x∈gQ n q,TK 1 H x/\pB n x=false:=by
 have h1:pB n (.tup [.int 0,.int n])=false:=by
  have:Com.tB n (.int n)=false:=by simp only[Com.tB,hO,Bool.and_eq_false_iff,decide_eq_false_iff_not];omega
  simp[pB,this]
 have h2:pB n (.tup [.int (-1),.int 0])=false:=by
  have:Com.tB n (.int (-1))=false:=by simp only[Com.tB,hO];rfl
  simp[pB,this]
 have h3:pB n (.tup [.int 0,.bl true])=false:=by have:Com.tB n (.bl true)=false:=rfl;simp[pB,this]
 have h4:pB n (.tup [.int 0])=false:=by simp[pB]
 have h5:pB n (.tup [.int 0,.int 0,.int 0])=false:=by simp[pB]
 have h6:pB n (.tup [.non,.int 0])=false:=by have:Com.tB n .non=false:=rfl;simp[pB,this]
 refine bw.mpr ⟨⟨oR (by simp) rfl,h1⟩,bw.mpr ⟨⟨oR (by simp) rfl,h2⟩,bw.mpr ⟨⟨oR (by simp) rfl,h3⟩,bw.mpr ⟨⟨oR (by simp) rfl,h4⟩,bw.mpr ⟨⟨oR (by simp) rfl,h5⟩,bw.mpr ⟨⟨TK.of ⟨_,g⟩ (λ_ z=>by cases z),rfl⟩,
  bw.mpr ⟨⟨TK.of trivial (λ_ z=>by cases z),rfl⟩,bw.mpr ⟨⟨TK.of trivial (λ_ z=>by cases z),rfl⟩,bw.mpr ⟨⟨TK.of trivial (λ_ z=>by cases z),rfl⟩,bw.mpr ⟨⟨oR (by simp) rfl,h6⟩,xm _⟩⟩⟩⟩⟩⟩⟩⟩⟩⟩
abbrev A4:M yb :=(aA (bD (aA (mC (.int 0)) (aA (aB 3) aC))) (aA (bD (aA (m1 jQ (mC (.int 1))) (aA (mC (.int 0)) aC))) (aA (bD (aA (mC (.int 0)) (aA (mC (.bl true)) aC))) (aA (bD (aA (mC (.int 0)) aC)) (aA (bD (aA (mC (.int 0)) (aA (mC (.int 0)) (aA (mC (.int 0)) aC)))) (aA (aO (aA (mC (.int 0)) (aA (mC (.int 0)) aC))) (aA (mC .non) (aA (mC (.int 0)) (aA (mC (.str "00")) (aA (bD (aA (mC .non) (aA (mC (.int 0)) aC))) aC))))))))))
theorem j6 (a3:At ρ 3 (.int n)):aO A4 ρ H=.ok (.ref (H.length+1)) ((H++[.lst [.int 0,.int 0]])++[.lst (gQ n H.length)]):=by simp[aO,bD,aA,mC,aC,a3.v,lim,m1,jQ,gQ]
theorem j7 (s:Com.St st H) (a2:At ρ 2 (.ref st)) (a3:At ρ 3 (.int n)):∃(x:Dv) (q:Nat) (H':Hs),m2 cA (aO A4) (aE F_ql (aA (aB 2) (aA (mC (.int 10)) aC))) ρ H=.ok x H'/\x∈gQ n q/\getL H' q=some [.int 0,.int 0]/\q≠st/\Com.St st H'/\Fr [st] H H':=by
 have lt:=s.lt;have e1:=j6 (H:=H) a3;have g1:getL ((H++[Ob.lst [.int 0,.int 0]])++[Ob.lst (gQ n H.length)]) (H.length+1)=some (gQ n H.length):=by have:=cM (H:=H++[Ob.lst [.int 0,.int 0]]) (x:=gQ n H.length);simpa using this
 have g0:getL ((H++[Ob.lst [.int 0,.int 0]])++[Ob.lst (gQ n H.length)]) H.length=some [.int 0,.int 0]:=iI cM;have f1':Fr [] H ((H++[Ob.lst [.int 0,.int 0]])++[Ob.lst (gQ n H.length)]):=Fr.trans (T:=[]) Fr.app Fr.app (by simp);generalize (H++[Ob.lst [.int 0,.int 0]])++[Ob.lst (gQ n H.length)]=H1 at e1 g1 g0 f1';generalize hq:H.length=q at e1 g1 g0;obtain⟨r,H2,hr,e2,f2,s2⟩:=jY (ρ:=ρ) (mm:=mC (.int 10)) (k:=10) (s.fr f1' (by simp)) a2 (λH=>rfl) (by decide) (by decide);have g2:=f2.getL g1 (by simp;omega);have hj:r<(gQ n q).length:=by simp[gQ];omega
 exact⟨(gQ n q)[r],q,H2,dS e1 e2 (hV g2 hj),gh hj,f2.getL g0 (by simp;omega),by omega,s2,(f1'.mono (by simp)).trans f2 (by simp)⟩
def Ai:yb:=[.int 0,.int 7,.int (-1),.bl true,.non,.str "2",.tup [.int 2],.int (10 ^ 29)]
theorem JW {H:Hs}:∀y∈Ai,T0 H y/\hO 1 6 y=false:=by refine bw.mpr ⟨⟨trivial,rfl⟩,bw.mpr ⟨⟨trivial,rfl⟩,bw.mpr ⟨⟨trivial,rfl⟩,bw.mpr ⟨⟨trivial,rfl⟩,bw.mpr ⟨⟨trivial,rfl⟩,bw.mpr ⟨⟨trivial,rfl⟩,bw.mpr ⟨⟨trivial,rfl⟩,bw.mpr ⟨⟨trivial,by decide +kernel⟩,xm _⟩⟩⟩⟩⟩⟩⟩⟩
abbrev A5:M yb :=(aA (mC (.int 0)) (aA (mC (.int 7)) (aA (m1 jQ (mC (.int 1))) (aA (mC (.bl true)) (aA (mC .non) (aA (mC (.str "2")) (aA (bD (aA (mC (.int 2)) aC)) (aA (m2 iX (mC (.int 10)) (mC (.int 29))) aC))))))))
theorem j8:m2 iX (mC (.int 10)) (mC (.int 29)) ρ H=.ok (.int (10 ^ 29)) H:=by refine dS rfl rfl ?_;unfold iX iP;dsimp only;rw[if_pos (by decide +kernel)];rfl
theorem j9:aO A5 ρ H=.ok (.ref H.length) (H++[.lst Ai]):=by have e:=j8 (ρ:=ρ) (H:=H);show aO (aA (mC (.int 0)) (aA (mC (.int 7)) (aA (m1 jQ (mC (.int 1))) (aA (mC (.bl true)) (aA (mC .non) (aA (mC (.str "2")) (aA (bD (aA (mC (.int 2)) aC)) (aA (m2 iX (mC (.int 10)) (mC (.int 29))) aC)))))))) ρ H=_;unfold Ai;generalize (10:Int) ^ 29=z at e;generalize m2 iX (mC (.int 10)) (mC (.int 29))=M at e;simp[aO,bD,aA,mC,aC,lim,m1,jQ,e]
theorem k6 (s:Com.St st H) (a2:At ρ 2 (.ref st)):∃(y:Dv) (H':Hs),m2 cA (aO A5) (aE F_ql (aA (aB 2) (aA (mC (.int 8)) aC))) ρ H=.ok y H'/\(∀H,T0 H y)/\hO 1 6 y=false/\Com.St st H'/\Fr [st] H H':=by
 have lt:=s.lt;have e1:=j9 (ρ:=ρ) (H:=H);have f1':Fr [] H (H++[Ob.lst Ai]):=Fr.app;have g1:getL (H++[Ob.lst Ai]) H.length=some Ai:=cM;generalize H++[Ob.lst Ai]=H1 at e1 f1' g1;generalize hk:H.length=kk at e1 g1 lt;obtain⟨r,H2,hr,e2,f2,s2⟩:=jY (ρ:=ρ) (mm:=mC (.int 8)) (k:=8) (s.fr f1' (by simp)) a2 (λH=>rfl) (by decide) (by decide);have g2:=f2.getL g1 (by simp;omega);have hj:r<Ai.length:=by simp[Ai];omega
 exact⟨Ai[r],H2,dS e1 e2 (hV g2 hj),λH=>(JW _ (gh hj)).1,(JW (H:=H2) _ (gh hj)).2,s2,(f1'.mono (by simp)).trans f2 (by simp)⟩
abbrev A6:M Dv:=m2 bR (m2 bR (jC (aB 4) iU (iV (aB 7))) (aO (aA (aB 8) aC))) (jC (aB 4) (iV (aB 7)) iU)
theorem JX {i a:Nat}{x:Dv}{zs:yb}(a4:At ρ 4 (.ref i)) (a7:At ρ 7 (.int a)) (a8:At ρ 8 x) (g:getL H i=some zs) (hl:zs.length<=100):∃(q:Nat) (H':Hs),A6 ρ H=.ok (.ref q) H'/\getL H' q=some (zs.take a++[x]++zs.drop a)/\H.length<=q/\Fr [] H H':=by
 have e1:jC (aB 4) iU (iV (aB 7)) ρ H=.ok (.ref H.length) (H++[.lst (zs.take a)]):=by simp[jC,a4.v,iU,iV,a7.v,yB,qU,g,ZH]
 have g1:getL (H++[Ob.lst (zs.take a)]) H.length=some (zs.take a):=cM;have f1':Fr [] H (H++[Ob.lst (zs.take a)]):=Fr.app;generalize hk:H.length=q1 at e1 g1;generalize H++[Ob.lst (zs.take a)]=H1 at e1 g1 f1';have e2:aO (aA (aB 8) aC) ρ H1=.ok (.ref H1.length) (H1++[.lst [x]]):=by simp[aO,aA,a8.v,aC,lim]
 have g2:getL (H1++[Ob.lst [x]]) H1.length=some [x]:=cM;have f2:Fr [] H1 (H1++[Ob.lst [x]]):=Fr.app;generalize H1.length=q2 at e2 g2;generalize H1++[Ob.lst [x]]=H2 at e2 g2 f2;have e3:=lQ (f2.getL g1 (by simp)) g2 (by simp;omega);have g3:getL (H2++[Ob.lst (zs.take a++[x])]) H2.length=some (zs.take a++[x]):=cM;have f3:Fr [] H2 (H2++[Ob.lst (zs.take a++[x])]):=Fr.app;have e3':=dS e1 e2 e3;generalize H2.length=q3 at e3' g3;generalize H2++[Ob.lst (zs.take a++[x])]=H3 at e3' g3 f3;have f03:Fr [] H H3:=(f1'.trans f2 (by simp)).trans f3 (by simp);have e4:jC (aB 4) (iV (aB 7)) iU ρ H3=.ok (.ref H3.length) (H3++[.lst (zs.drop a)]):=by simp[jC,a4.v,iU,iV,a7.v,yB,qU,f03.getL g (by simp),ZI]
 have g4:getL (H3++[Ob.lst (zs.drop a)]) H3.length=some (zs.drop a):=cM;have f4:Fr [] H3 (H3++[Ob.lst (zs.drop a)]):=Fr.app;generalize H3.length=q4 at e4 g4;generalize H3++[Ob.lst (zs.drop a)]=H4 at e4 g4 f4;have e5:=lQ (f4.getL g3 (by simp)) g4 (by simp;omega);exact⟨_,_,dS e3' e4 e5,cM,by have:=(f03.trans f4 (by simp)).le;omega,(f03.trans f4 (by simp)).trans (T:=[]) Fr.app (by simp)⟩
theorem k7 {m1 m2 m3 m4 m5 m6:M Dv}{a b c d e f:Dv}{H1 H2:Hs}(e1:m1 ρ H=.ok a H) (e2:m2 ρ H=.ok b H) (e3:m3 ρ H=.ok c H) (e4:m4 ρ H=.ok d H) (e5:m5 ρ H=.ok e H1) (e6:m6 ρ H1=.ok f H2):
  aO (aA m1 (aA m2 (aA m3 (aA m4 (aA m5 (aA m6 aC)))))) ρ H=.ok (.ref H2.length) (H2++[.lst [a,b,c,d,e,f]]):=by
 simp[aO,aA,e1,e2,e3,e4,e5,e6,aC,lim]
def JY (n:Nat) (zs:yb) (x d:Dv) (H:Hs):Prop:=aR fT d H=.ok (.bl false) H∨∃j a,d=.ref j/\getL H j=some (zs.take a++[x]++zs.drop a)
abbrev JZ:M Dv:=aO (aA (aE (f1 gE) (aA (aB 4) aC)) (aA (mC .non) (aA (mC .edc) (aA (mC (.int 3)) (aA A6 (aA A6 aC))))))
theorem k8 {i a:Nat}{x:Dv}{zs:yb}(a4:At ρ 4 (.ref i)) (a7:At ρ 7 (.int a)) (a8:At ρ 8 x) (g:getL H i=some zs) (hl:zs.length<=100):∃(q q1 q2:Nat) (H':Hs),JZ ρ H=.ok (.ref q) H'/\getL H' q=some [.tup zs,.non,.edc,.int 3,.ref q1,.ref q2]/\getL H' q1=some (zs.take a++[x]++zs.drop a)/\getL H' q2=some (zs.take a++[x]++zs.drop a)/\H.length<=q/\H.length<=q1/\H.length<=q2/\Fr [] H H':=by have e1:aE (f1 gE) (aA (aB 4) aC) ρ H=.ok (.tup zs) H:=kS (v a4) (by simp[f1,gE,g]);obtain⟨q1,H1,e5,g5,l5,f5⟩:=JX (H:=H) a4 a7 a8 g hl;obtain⟨q2,H2,e6,g6,l6,f6⟩:=JX (H:=H1) a4 a7 a8 (f5.getL g (by simp)) hl;have e7:=k7 (ρ:=ρ) (m2:=mC .non) (m3:=mC .edc) (m4:=mC (.int 3)) e1 rfl rfl rfl e5 e6;exact⟨H2.length,q1,q2,_,e7,cM,iI (f6.getL g5 (by simp)),iI g6,(f5.trans f6 (by simp)).le,l5,da f5.le l6,(f5.trans f6 (by simp)).trans (T:=[]) Fr.app (by simp)⟩
theorem l4 {q:Nat}{x d:Dv}(n1:1<=n) (hn:n<=6) (hl:ps.length<=100) (hx:x∈gQ n q) (g:getL H q=some [.int 0,.int 0]) (h:JY n (ps.map aI) x d H):F_qq [.int n,d] H=.ex 2 H:=by
 obtain⟨t1,t2⟩:=j5 (n:=n) g x hx
 rcases h with h|⟨j,a,rfl,e⟩
 ·exact ZY n1 hn h
 ·refine ZZ n1 hn e (by simp;omega) (λy hy=>?_) ?_
  ·rcases fg.mp hy with hy|hy
   ·rcases fg.mp hy with hy|hy
    ·obtain⟨p,_,rfl⟩:=cw.mp (xc hy);exact AZ p
    ·rw[cy.mp hy];exact t1
   ·obtain⟨p,_,rfl⟩:=cw.mp (qt hy);exact AZ p
  ·rw[List.all_eq_false];exact⟨x,by simp,by rw[t2];decide⟩
end
open L2.Mr.Cod (cM lQ hV)
section
variable{n st:Nat}{ps cs:xq}{H:Hs}{ρ:Ev}
abbrev rF:MS:=aS (mC (.bl false))
abbrev tA:MS:=aV (mB (m2 bV (iE [3,5] 4 11 gN uQ) (aO (aA (mC (.int 3)) aC)))) rF bC
abbrev fO:MS:=aV (dQ (bN (aE (F_qk 6) (aA (aE F_qq (aA (aB 3) (aA (aB 5) aC))) (aA (bD (aA (aB 3) (aA (aE (f1 gE) (aA (aB 6) aC)) aC))) aC))))) rF bC
abbrev t6:MS:=aV (mB (m2 bV (iS vO) (aO aC))) tA fO
abbrev t7:MS:=aV (mB (m2 bV (aB 5) (aB 4))) rF bC
abbrev J0:MS:=aV (mB (m2 bV (iE [3,10] 4 11 gN uR) (aO (aA (mC (.int 2)) aC)))) rF bC
abbrev l7:MS:=aV (mB (m2 bV (iE [9,10] 4 11 gN uS) (aO (aA (mC (.int 1)) aC)))) rF bC
theorem l8 (scr:xu):uT scr=aK (aN (aE (F_qh scr) (aA (aB 0) (aA (aB 1) aC))) (aH 2)) (aK (aN (m2 bR (mC (.int 1)) (aE F_ql (aA (aB 2) (aA (mC (.int 6)) aC)))) (aH 3)) (aK (aN (aE F_qg (aA (aB 2) (aA (aB 3) aC))) (aH 4)) (aK (aN (aE (f1 fU) (aA (aB 4) aC)) (aH 5)) (aK (aN (aE F_qf (aA (aB 4) aC)) (aH 6)) (aK t6 (aK t7
 (aK (aN (aE F_ql (aA (aB 2) (aA (m2 bR (aE (f1 dP) (aA (aB 4) aC)) (mC (.int 1))) aC))) (aH 7)) (aK (aN (m2 cA (aO A4) (aE F_ql (aA (aB 2) (aA (mC (.int 10)) aC)))) (aH 8)) (aK (aN (m2 cA (aO A5) (aE F_ql (aA (aB 2) (aA (mC (.int 8)) aC)))) (aH 9)) (aK (aN JZ (aH 10)) (aK (aN (m2 cA (aB 10) (aE F_ql (aA (aB 2) (aA (mC (.int 6)) aC)))) (aH 10)) (aK J0 l7)))))))))))):=rfl
structure Kn (n st i4 i5:Nat) (ρ:Ev):Prop where
 L:ρ.length=11
 a0:At ρ 0 .scr
 a2:At ρ 2 (.ref st)
 a3:At ρ 3 (.int n)
 a4:At ρ 4 (.ref i4)
 a5:At ρ 5 (.ref i5)
theorem Kn.set {i4 i5:Nat}(K:Kn n st i4 i5 ρ) {i:Nat}{y:yc}(h:6<=i):Kn n st i4 i5 (ρ.set i y):=⟨by simp[K.L],K.a0.o (by omega),K.a2.o (by omega),K.a3.o (by omega),K.a4.o (by omega),K.a5.o (by omega)⟩
theorem A7 {i j:Nat}{a b:Dv}(h1:At ρ i a) (h2:At ρ j b):kG [i,j] ρ=some [a,b]:=by simp[kG,show ρ[i]?=some (some a) from h1,show ρ[j]?=some (some b) from h2]
theorem l9 {i4 i5 j:Nat}(n1:1<=n) (hn:n<=6) (K:Kn n st i4 i5 ρ) (a6:At ρ 6 (.ref j)) (g5:getL H i5=some (ps.map aI)) (g6:getL H j=some (cs.map aI)) (hl:ps.length<=11) (hi:fN n ps) (cl:kR n ps cs):∃H',t6 ρ H=.nx ρ H'/\Fr [] H H':=by
 have sq:n*n<=6*6:=kh hn hn;have Bb:=mV cl.1 cl.2.1;obtain⟨H1,e1,f1'⟩:=i8 (ρ:=ρ) a6 g6 (by omega);obtain⟨cs',H2,cl',f2,e2⟩:=Z3 n1 hn (f1'.getL g5 (by simp)) (by omega) hi;have hc:=i6 cl' cl;subst hc
 cases hb:(cs'.any λp=>decide (p.1=p.2))with
 |true=>rw[hb]at e1 e2;obtain⟨H3,e3,f3⟩:=AW (c:=3) (.inr (.inr rfl)) (caps:=[3,5]) (me:=uQ) (ρ:=ρ) (H0:=H1) (H:=H2) (vs:=[.int n,.ref i5]) (A7 K.a3 K.a5) (A0 (F:=F_qq) e2) f2;refine⟨H3, ?_,f1'.trans f3 (by simp)⟩;rw[show t6 ρ H=tA ρ H1 from qM e1];exact(kK e3).trans rfl
 |false=>rw[hb]at e1 e2;have e3:bD (aA (aB 3) (aA (aE (f1 gE) (aA (aB 6) aC)) aC)) ρ H2=.ok (rC n cs') H2:=vN (v K.a3) (kS (v a6) (by simp[f1,gE,f2.getL (f1'.getL g6 (by simp)) (by simp)]));refine⟨H2, ?_,f1'.trans f2 (by simp)⟩;rw[show t6 ρ H=fO ρ H1 from kK e1];exact ZJ (S:=F_qk 6) (oQ (F:=F_qq) (v K.a3) (v K.a5) e2) e3 (j3 (by omega))
theorem AM (scr:xu) (k:Nat) (hL:ρ.length=11) (a0:At ρ 0 .scr) (a1:At ρ 1 (.int k)):∃ρ' H',uT scr ρ H=.nx ρ' H'/\ρ'.length=11/\At ρ' 0 .scr:=by
 obtain⟨H1,h1,f1',s1⟩:=YF scr k H;have w1:=jE (i:=2) (oQ (F:=F_qh scr) (v (H:=H) a0) (v a1) h1);have b0:At (ρ.set 2 (some (.ref H.length))) 0 .scr:=a0.o;have b2:At (ρ.set 2 (some (.ref H.length))) 2 (.ref H.length):=.new (by omega);have bL:(ρ.set 2 (some (.ref H.length))).length=11:=by simp[hL]
 rw[l8,bF w1];generalize H.length=st at *;generalize ρ.set 2 (some (.ref st))=ρ1 at b0 b2 bL
 clear w1
 obtain⟨r,H2,hr,e2,f2,s2⟩:=jY (ρ:=ρ1) (mm:=mC (.int 6)) (k:=6) s1 b2 (λH=>rfl) (by decide) (by decide);obtain⟨n,rfl⟩:∃n,n=r+1:=⟨_,rfl⟩
 have w2:=jE (i:=3) (dS (ma:=mC (.int 1)) (ρ:=ρ1) (H:=H1) rfl e2 (show bR (.int 1) (.int r) H2=.ok (.int ((r+1:Nat):Int)) H2 by
  show Rs.ok (Dv.int (1+(r:Int))) H2=_
  congr 2;omega))
 have n1:1<=r+1:=by omega
 have hn:r+1<=6:=by omega
 generalize r+1=n at w2 n1 hn;have c0:At (ρ1.set 3 (some (.int n))) 0 .scr:=b0.o;have c2:At (ρ1.set 3 (some (.int n))) 2 (.ref st):=b2.o;have c3:At (ρ1.set 3 (some (.int n))) 3 (.int n):=.new (by omega);have cL:(ρ1.set 3 (some (.int n))).length=11:=by simp[bL]
 rw[bF w2]
 clear w2
 generalize ρ1.set 3 (some (.int n))=ρ2 at c0 c2 c3 cL;obtain⟨i4,ps,H3,e3,g4,hi,hl,hi4,s3,f3⟩:=i0 s2 n1 hn;have w3:=jE (i:=4) (oQ (F:=F_qg) (v (H:=H2) c2) (v c3) e3);have h4:i4≠st:=by have:=s2.lt;omega
 have d0:At (ρ2.set 4 (some (.ref i4))) 0 .scr:=c0.o;have d2:At (ρ2.set 4 (some (.ref i4))) 2 (.ref st):=c2.o;have d3:At (ρ2.set 4 (some (.ref i4))) 3 (.int n):=c3.o;have d4:At (ρ2.set 4 (some (.ref i4))) 4 (.ref i4):=.new (by omega);have dL:(ρ2.set 4 (some (.ref i4))).length=11:=by simp[cL]
 rw[bF w3]
 clear w3
 generalize ρ2.set 4 (some (.ref i4))=ρ3 at d0 d2 d3 d4 dL;have e5:aE (f1 fU) (aA (aB 4) aC) ρ3 H3=.ok (.ref H3.length) (H3++[.lst (ps.map aI)]):=kS (v d4) (by simp[f1,fU,hJ,lV,fR,g4]);have w4:=jE (i:=5) e5;have g5:getL (H3++[Ob.lst (ps.map aI)]) H3.length=some (ps.map aI):=cM;have f4:Fr [] H3 (H3++[Ob.lst (ps.map aI)]):=Fr.app;have K:Kn n st i4 H3.length (ρ3.set 5 (some (.ref H3.length))):=⟨by simp[dL],d0.o,d2.o,d3.o,d4.o,.new (by omega)⟩
 have h5:H3.length≠st:=by have:=s3.lt;omega
 rw[bF w4]
 clear w4 e5
 generalize H3.length=i5 at K g5 h5;generalize ρ3.set 5 (some (.ref i5))=ρ4 at K;generalize H3++[Ob.lst (ps.map aI)]=H4 at g5 f4;have s4:=s3.fr f4 (by simp);have g4':=f4.getL g4 (by simp);obtain⟨cs,j,H5,cl,e6,g6,f5⟩:=YS (H:=H4) (d:=.ref i4) hn hi (IU g4');have w5:=jE (i:=6) (kS (F:=F_qf) (v (H:=H4) K.a4) e6);have K6:Kn n st i4 i5 (ρ4.set 6 (some (.ref j))):=K.set (by omega);have b6:At (ρ4.set 6 (some (.ref j))) 6 (.ref j):=.new (by rw[K.L];decide);rw[bF w5]
 clear w5
 generalize ρ4.set 6 (some (.ref j))=ρ5 at K6 b6;have g5':=f5.getL g5 (by simp);have g4'':=f5.getL g4' (by simp);obtain⟨H6,w6,f6⟩:=l9 n1 hn K6 b6 g5' g6 hl hi cl;rw[bF w6];have g5a:=f6.getL g5' (by simp);have g4a:=f6.getL g4'' (by simp);have s6:=(s4.fr f5 (by simp)).fr f6 (by simp);have w7:t7 ρ5 H6=.nx ρ5 H6:=by have q:=A1 (AL g5a g4a);rw[decide_eq_true rfl]at q;exact(kK (mX (dS (v K6.a5) (v K6.a4) q))).trans rfl
 rw[bF w7];have el:m2 bR (aE (f1 dP) (aA (aB 4) aC)) (mC (.int 1)) ρ5 H6=.ok (.int ((ps.map aI).length+1)) H6:=dS (kS (v K6.a4) (A2 g4a)) rfl rfl;obtain⟨a,H7,ha,e7,f7,s7⟩:=A3 (ρ:=ρ5) (mm:=m2 bR (aE (f1 dP) (aA (aB 4) aC)) (mC (.int 1))) s6 K6.a2 el (by omega) (by rw[bf];omega);rw[bF (jE (i:=7) e7)];have K7:Kn n st i4 i5 (ρ5.set 7 (some (.int a))):=K6.set (by omega);have b7:At (ρ5.set 7 (some (.int a))) 7 (.int a):=.new (by rw[K6.L];decide);generalize ρ5.set 7 (some (.int a))=ρ7 at K7 b7;have g4b:=f7.getL g4a (by simpa using h4);obtain⟨x,q,H8,e8,hx,g8,hq,s8,f8⟩:=j7 (n:=n) s7 K7.a2 K7.a3;rw[bF (jE (i:=8) e8)];have K8:Kn n st i4 i5 (ρ7.set 8 (some x)):=K7.set (by omega);have c7:At (ρ7.set 8 (some x)) 7 (.int a):=b7.o;have c8:At (ρ7.set 8 (some x)) 8 x:=.new (by rw[K7.L];decide);generalize ρ7.set 8 (some x)=ρ8 at K8 c7 c8;have g4c:=f8.getL g4b (by simpa using h4);obtain⟨y,H9,e9,ty,hy,s9,f9⟩:=k6 s8 K8.a2;rw[bF (jE (i:=9) e9)];have K9:Kn n st i4 i5 (ρ8.set 9 (some y)):=K8.set (by omega);have d7:At (ρ8.set 9 (some y)) 7 (.int a):=c7.o;have d8:At (ρ8.set 9 (some y)) 8 x:=c8.o;have d9:At (ρ8.set 9 (some y)) 9 y:=.new (by rw[K8.L];decide);generalize ρ8.set 9 (some y)=ρ9 at K9 d7 d8 d9;have g4d:=f9.getL g4c (by simpa using h4);have g9:=f9.getL g8 (by simpa using hq);obtain⟨qq,q1,q2,HA,eA,gA,gA1,gA2,hqq,hq1,hq2,fA⟩:=k8 K9.a4 d7 d8 g4d (by rw[bf];omega);have lt9:=s9.lt;rw[bF (jE (i:=10) eA)];have KA:Kn n st i4 i5 (ρ9.set 10 (some (.ref qq))):=K9.set (by omega);have k9:At (ρ9.set 10 (some (.ref qq))) 9 y:=d9.o;have kA:At (ρ9.set 10 (some (.ref qq))) 10 (.ref qq):=.new (by rw[K9.L];decide);generalize ρ9.set 10 (some (.ref qq))=ρA at KA k9 kA;have sA:=s9.fr fA (by simp);obtain⟨r,HB,hr',eB,fB,sB⟩:=jY (ρ:=ρA) (mm:=mC (.int 6)) (k:=6) sA KA.a2 (λH=>rfl) (by decide) (by decide);have gB:=fB.getL gA (by simp;omega);have gB1:=fB.getL gA1 (by simp;omega);have gB2:=fB.getL gA2 (by simp;omega);have eC:=hV gB (j:=r) (by simp;omega);have hN:JY n (ps.map aI) x ([Dv.tup (ps.map aI),.non,.edc,.int 3,.ref q1,.ref q2][r]'(by simp;omega)) HB:=by
  rcases(show r=0∨r=1∨r=2∨r=3∨r=4∨r=5 by omega)with rfl|rfl|rfl|rfl|rfl|rfl
  ·exact .inl rfl
  ·exact .inl rfl
  ·exact .inl rfl
  ·exact .inl rfl
  ·exact .inr ⟨q1,a,rfl,gB1⟩
  ·exact .inr ⟨q2,a,rfl,gB2⟩
 generalize ([Dv.tup (ps.map aI),.non,.edc,.int 3,.ref q1,.ref q2][r]'(by simp;omega))=d at eC hN;rw[bF (jE (i:=10) (dS (v kA) eB eC))];have KB:Kn n st i4 i5 (ρA.set 10 (some d)):=KA.set (by omega);have m9:At (ρA.set 10 (some d)) 9 y:=k9.o;have mA:At (ρA.set 10 (some d)) 10 d:=.new (by rw[KA.L];decide);generalize ρA.set 10 (some d)=ρB at KB m9 mA;have gq:=fB.getL (fA.getL g9 (by simp)) (by simpa using hq);obtain⟨HC,eD,fC⟩:=AW (c:=2) (.inr (.inl rfl)) (caps:=[3,10]) (me:=uR) (ρ:=ρB) (H0:=HB) (H:=HB) (vs:=[.int n,d]) (A7 KB.a3 mA) (A0 (F:=F_qq) (l4 n1 hn (by omega) hx gq hN)) Fr.refl;obtain⟨HD,eE,fD⟩:=AW (c:=1) (.inl rfl) (caps:=[9,10]) (me:=uS) (ρ:=ρB) (H0:=HC) (H:=HC) (vs:=[y,d]) (A7 m9 mA) (A0 (F:=F_qq) (ZW (ty _) hy)) Fr.refl;refine⟨ρB,HD, ?_,KB.L,KB.a0⟩;rw[bF (show J0 ρB HB=.nx ρB HC from(kK eD).trans rfl)];exact(kK eE).trans rfl
end
theorem loop (scr:xu) (m:Int):∀(f k:Nat) (ρ:Ev) (H:Hs),ρ.length=11->At ρ 0 .scr->∃ρ' H',eM (dM 0 m) (aH 1) (uT scr) f k ρ H=.nx ρ' H'
 |0,k,ρ,H,_,_=>⟨_,H,rfl⟩
 |f+1,k,ρ,H,hL,a0=>by obtain⟨ρ1,H1,h,l1,b0⟩:=AM (H:=H) (ρ:=ρ.set 1 (some (.int k))) scr k (by simp[hL]) a0.o (.new (by omega));obtain⟨ρ',H2,h2⟩:=loop scr m f (k+1) ρ1 H1 l1 b0;refine⟨ρ',H2, ?_⟩;rw[<-h2];exact yN (d:=.int k) (by simp[dM]) rfl h
theorem m7 (scr:xu):∃hh,F_qs scr [.scr] []=.ok (.bl true) hh:=by
 have hi:∃m:Int,aQ dN (aA (aE nK (aA (mC (.int 1)) (aA (aE nL (aA (aE (f1 (gD scr)) (aA (aB 0) aC)) (aA (mC (.int 10)) aC))) aC))) aC) [some .scr,none,none,none,none,none,none,none,none,none,none] []=.ok (dM 0 m) []:=by
  generalize hz:(if(10:Int)<scr.length then(10:Int)else scr.length)=z;have z0:0<=z:=by split at hz <;> omega
  have z1:z<=10:=by split at hz <;> omega
  generalize hm:(if z>(1:Int)then z else 1)=m;have m0:1<=m:=by split at hm <;> omega
  have m1':m<=10:=by split at hm <;> omega
  have hr:nQ m=true:=by simp[nQ];omega
  refine⟨m, ?_⟩;have e1:nL [.int scr.length,.int 10] []=.ok (.int z) []:=by rw[<-hz];rfl
  have e2:nK [.int 1,.int z] []=.ok (.int m) []:=by rw[<-hm];rfl
  simp[aQ,aA,aE,mC,aB,aC,f1,gD,fR,e1,e2,dN,hr]
 obtain⟨m,hi⟩:=hi;obtain⟨ρ',H',h⟩:=loop scr m (dM 0 m).n 0 [some .scr,none,none,none,none,none,none,none,none,none,none] [] rfl rfl;refine⟨H', ?_⟩;show bW (uU scr [some .scr,none,none,none,none,none,none,none,none,none,none] [])=_;unfold uU HZ;rw[bF ((yM hi).trans h)];rfl
open PySem.Calls PySem.W
theorem mk_of {l:OpenLaw}{w:cf}{K:Frag}{h:ck}{mg:Str->Option ae}{fa:ah}(hob:ob K=obE) (hnt:noTabs K=true) (X:K.In h) (G:h.Ns cp mg) (hfa:mg "law" = some (.ref fa)):
  ∃(fd:cg) (c P:ah),(∀(s:af) (u:ae),vn s fd ⟨[u],[]⟩ [("_law_script",u)])/\tabIn K "law" = some (c,P)/\noTabs K=true /\
   ∀(base:ck) (a:ah) (ns:xu),ns.length<=63->K.In base->base.Ns cp mg->CodeHd base c P->jO mg base->Lawful l.prog w K mg base 11 fa fd "_law_script" P a ns:=by
 have hc:obF.all (λf=>f K)=true:=congrArg ed hob;have hf:vT K=vU:=congrArg oz hob;have e:=hfa.symm.trans (mg_of X G (v:=.ref 276) (dB hc 18));cases e;refine(λ(z:∀R:Prop,(_->R)->R)=>z _ id) λR hR=>?_;obtain⟨g0,U0,B0,C0,D0⟩:=eG hf hc 166 zR "is_whole" 165 ["thing"] 0 46 65 λ_ _ _ _ _ _=>qF λ_=>rfl;obtain⟨g1,U1,B1,C1,D1⟩:=eG hf hc 173 zS "is_between" 172 ["thing","low","high"] 1 47 66 λ_ _ _ _ _ _=>FG λ_ _ _=>rfl;obtain⟨g2,U2,B2,C2,D2⟩:=eG hf hc 180 zT "need_between" 179 ["thing","low","high"] 2 48 67 λ_ _ _ _ _ _=>FG λ_ _ _=>rfl;obtain⟨g3,U3,B3,C3,D3⟩:=eG hf hc 187 zU "is_thing" 186 ["many","thing"] 3 49 68 λ_ _ _ _ _ _=>iF λ_ _=>rfl;obtain⟨g4,U4,B4,C4,D4⟩:=eG hf hc 192 uV "are_things" 191 ["many","thing"] 4 50 69 λ_ _ _ _ _ _=>iF λ_ _=>rfl;obtain⟨g5,U5,B5,C5,D5⟩:=eG hf hc 199 zV "is_pair" 198 ["many","thing"] 5 51 70 λ_ _ _ _ _ _=>iF λ_ _=>rfl;obtain⟨g6,U6,B6,C6,D6⟩:=eG hf hc 204 uW "are_pairs" 203 ["many","things"] 6 52 71 λ_ _ _ _ _ _=>iF λ_ _=>rfl;obtain⟨g7,U7,B7,C7,D7⟩:=eG hf hc 209 uX "has_alike" 208 ["pairs"] 7 53 72 λ_ _ _ _ _ _=>qF λ_=>rfl;obtain⟨g8,U8,B8,C8,D8⟩:=eG hf hc 214 uY "with_all_that_follows" 213 ["many","pairs"] 8 54 73 λ_ _ _ _ _ _=>iF λ_ _=>rfl;obtain⟨g9,U9,B9,C9,D9⟩:=eG hf hc 221 zW "order_of" 220 ["many","pairs"] 9 55 74 λ_ _ _ _ _ _=>iF λ_ _=>rfl;obtain⟨g10,U10,B10,C10,D10⟩:=eG hf hc 228 zX "_law_cell_at" 227 ["_law_script","_law_k"] 10 56 75 λ_ _ _ _ _ _=>iF λ_ _=>rfl;obtain⟨g11,U11,B11,C11,D11⟩:=eG hf hc 235 zY "_law_state" 234 ["_law_script","_law_k"] 11 57 76 λ_ _ _ _ _ _=>iF λ_ _=>rfl;obtain⟨g12,U12,B12,C12,D12⟩:=eG hf hc 242 zZ "_law_take" 241 ["_law_state_here","_law_many"] 12 58 77 λ_ _ _ _ _ _=>iF λ_ _=>rfl;obtain⟨g13,U13,B13,C13,D13⟩:=eG hf hc 249 AA "_law_mixed_row" 248 ["_law_state_here","_law_things"] 13 59 78 λ_ _ _ _ _ _=>iF λ_ _=>rfl;obtain⟨g14,U14,B14,C14,D14⟩:=eG hf hc 254 uZ "_law_closed" 253 ["_law_pairs_here"] 14 60 79 λ_ _ _ _ _ _=>qF λ_=>rfl;obtain⟨g15,U15,B15,C15,D15⟩:=eG hf hc 259 vA "_law_same" 258 ["_law_found","_law_due"] 15 61 80 λ_ _ _ _ _ _=>iF λ_ _=>rfl;obtain⟨g16,U16,B16,C16,D16⟩:=eG hf hc 264 mR "_law_refused" 263 ["_law_call"] 16 62 81 λ_ _ _ _ _ _=>qF λ_=>rfl;obtain⟨g17,U17,B17,C17,D17⟩:=eG hf hc 271 AB "_law_pairs" 270 ["_law_state_here","_law_many"] 17 63 82 λ_ _ _ _ _ _=>iF λ_ _=>rfl;obtain⟨g18,U18,B18,C18,D18⟩:=eG hf hc 276 mS "law" 275 ["_law_script"] 18 64 83 λ_ _ _ _ _ _=>qF λ_=>rfl;obtain⟨t_MOST_THINGS,c_MOST_THINGS⟩:=J4 (n := "MOST_THINGS") (v:=6) (jF hc 84 rfl);have ex_NoNumber:zw K 49:=⟨dB hc 133,dB hc 134,dB hc 135,dB hc 136,dB hc 137,dB hc 138,vP (jF hc 139 rfl)⟩
 have ex_NoPairs:zw K 61:=⟨dB hc 140,dB hc 141,dB hc 142,dB hc 143,dB hc 144,dB hc 145,vP (jF hc 146 rfl)⟩
 have ex_Round:zw K 73:=⟨dB hc 147,dB hc 148,dB hc 149,dB hc 150,dB hc 151,dB hc 152,vP (jF hc 153 rfl)⟩
 refine hR ⟨g18,275,273,λs v=>.of_eq (D18 [v] rfl),dB hc 85,hnt,λbase a ns hlen _ _ hC hB=>⟨?_⟩⟩;obtain⟨hh,hl⟩:=m7 ns;refine⟨{ K:=K,cl:=λc=>match c with|0=>37|1=>49|2=>61|3=>73|4=>85|5=>97|6=>109|7=>121|8=>133|9=>145|10=>157|_=>24,scr:=ns,sa:=a,tab:=some 273,lq:=(("law" : Str) ++ ".<locals>.") ++ "<lambda>" },F_qs ns,hh,rfl,rfl,rfl,rfl,hl, ?_⟩;refine X5 (A:=⟨166,g0,173,g1,180,g2,187,g3,192,g4,199,g5,204,g6,209,g7,214,g8,221,g9,228,g10,235,g11,242,g12,249,g13,254,g14,259,g15,264,g16,271,g17,276,g18,37,49,61,73,85,97,109,121,133,145,157,t_MOST_THINGS,24,275,273⟩) ?_ (λ_ _ _ _ _ _=>trivial) hC hB;exact⟨rfl,U0,B0,cF X G hc 0,U1,B1,cF X G hc 1,U2,B2,cF X G hc 2,U3,B3,cF X G hc 3,U4,B4,cF X G hc 4,U5,B5,cF X G hc 5,U6,B6,cF X G hc 6,U7,B7,cF X G hc 7,U8,B8,cF X G hc 8,U9,B9,cF X G hc 9,U10,B10,cF X G hc 10,U11,B11,cF X G hc 11,U12,B12,cF X G hc 12,U13,B13,cF X G hc 13,U14,B14,cF X G hc 14,U15,B15,cF X G hc 15,U16,B16,cF X G hc 16,U17,B17,cF X G hc 17,U18,B18,cF X G hc 18,mg_none_of X G (dB hc 31),mg_none_of X G (dB hc 32),mg_none_of X G (dB hc 33),mg_none_of X G (dB hc 34),mg_none_of X G (dB hc 35),mg_none_of X G (dB hc 36),mg_none_of X G (dB hc 37),mg_none_of X G (dB hc 38),mg_none_of X G (dB hc 39),mg_none_of X G (dB hc 40),mg_none_of X G (dB hc 41),mg_none_of X G (dB hc 42),mg_none_of X G (dB hc 43),mg_none_of X G (dB hc 44),mg_none_of X G (dB hc 45),mg_of X G c_MOST_THINGS,cF X G hc 19,cF X G hc 20,cF X G hc 21,cF X G hc 22,cF X G hc 23,cF X G hc 24,cF X G hc 25,cF X G hc 26,cF X G hc 27,cF X G hc 28,cF X G hc 29,dB hc 20,jF hc 86 rfl,rfl,dB hc 21,jF hc 87 rfl,rfl,dB hc 22,jF hc 88 rfl,rfl,bQ ⟨dB hc 154,ex_NoNumber⟩ (bQ ⟨dB hc 155,ex_NoPairs⟩ (bQ ⟨dB hc 156,ex_Round⟩ iG)),bQ ⟨dB hc 100,ex_NoNumber⟩ (bQ ⟨dB hc 111,ex_NoPairs⟩ (bQ ⟨dB hc 122,ex_Round⟩ iG)),bQ ⟨dB hc 101,ex_NoNumber⟩ (bQ ⟨dB hc 112,ex_NoPairs⟩ (bQ ⟨dB hc 123,ex_Round⟩ iG)),bQ ⟨dB hc 102,ex_NoNumber⟩ (bQ ⟨dB hc 113,ex_NoPairs⟩ (bQ ⟨dB hc 124,ex_Round⟩ iG)),bQ ⟨dB hc 103,ex_NoNumber⟩ (bQ ⟨dB hc 114,ex_NoPairs⟩ (bQ ⟨dB hc 125,ex_Round⟩ iG)),bQ ⟨dB hc 104,ex_NoNumber⟩ (bQ ⟨dB hc 115,ex_NoPairs⟩ (bQ ⟨dB hc 126,ex_Round⟩ iG)),bQ ⟨dB hc 105,ex_NoNumber⟩ (bQ ⟨dB hc 116,ex_NoPairs⟩ (bQ ⟨dB hc 127,ex_Round⟩ iG)),bQ ⟨dB hc 106,ex_NoNumber⟩ (bQ ⟨dB hc 117,ex_NoPairs⟩ (bQ ⟨dB hc 128,ex_Round⟩ iG)),bQ ⟨dB hc 107,ex_NoNumber⟩ (bQ ⟨dB hc 118,ex_NoPairs⟩ (bQ ⟨dB hc 129,ex_Round⟩ iG)),bQ ⟨dB hc 108,ex_NoNumber⟩ (bQ ⟨dB hc 119,ex_NoPairs⟩ (bQ ⟨dB hc 130,ex_Round⟩ iG)),bQ ⟨dB hc 109,ex_NoNumber⟩ (bQ ⟨dB hc 120,ex_NoPairs⟩ (bQ ⟨dB hc 131,ex_Round⟩ iG)),bQ ⟨dB hc 110,ex_NoNumber⟩ (bQ ⟨dB hc 121,ex_NoPairs⟩ (bQ ⟨dB hc 132,ex_Round⟩ iG)),cF X G hc 30,dB hc 157,dB hc 158,dB hc 159,iW (dB hc 89) (iW (dB hc 90) (iW (dB hc 91) (iW (dB hc 92) (iW (dB hc 93) (iW (dB hc 94) (iW (dB hc 95) (iW (dB hc 96) (iW (dB hc 97) (iW (dB hc 98) (iW (dB hc 99) R9)))))))))),rfl,rfl,C18⟩
end L2.Mr.K02
open PySem PySem.W PyProof.Rows
set_option maxRecDepth 100000 in
set_option maxHeartbeats 0 in
theorem PySem.Challenge.cw_nearorders_k02_orders_made_holds : PySem.Challenge.rw_nearorders_k02_orders_made.Holds := by
  w_on; o_law
  refine holds_open (XP := XL L2.Mr.K02.vw []) (YP := L2.Mr.Ys L2.Mr.K02.ob L2.Mr.K02.obE) L2.Mr.K02.left L2.Mr.ys_of L2.Mr.ys_keeps (fun s e => xl_of s (Bool.and_eq_true_iff.mp e).1) XL.keeps (by rfl) (by rfl) (by rfl) (fun s e => recFacts_of (Bool.and_eq_true_iff.mp e).2) (by rfl) (by first | assumption | decide +kernel) (by decide +kernel) ⟨rfl,rfl,rfl,rfl,rfl,by decide +kernel⟩ ?hw ?hc
  case hw => w_witness2
  case hc => exact L2.Mr.walkK2 (l := PySem.Challenge.rw_nearorders_k02_orders_made) (n := 63) (k := 11) (x := "_law_script") "law" rfl (by decide) rfl ⟨rfl,by decide,by decide⟩ ⟨_,rfl,rfl⟩ (fun K w mg fa h hob hnt X G hmg => L2.Mr.K02.mk_of hob hnt X G hmg)
