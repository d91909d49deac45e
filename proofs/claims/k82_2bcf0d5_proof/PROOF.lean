import PyProof.Rows.All
import Wide.All
import OpenK.AllK
import Wide.FinOn
import Lean
import PyProof.EqAt
import PyProof.EqKinds
import PyProof.TupleCall
import PyProof.NeKinds
import PyProof.StationsW
import PyProof.ExcClass3
import PyProof.ExcBaseAll.ValueError
import PyProof.ExcArgsOwn
import KE.KIsAll
import PyProof.ZipIter
import PyProof.RulesAs
import KE.KLam
import PyProof.NsDelKeeps
import PyProof.Rows.Range3
import PyProof.SumWalkG
import PyProof.EnumMake
import PyProof.EnumFor
import PyProof.WalkInts
import PyProof.Rows.SortWalk
import KE.KSortAsk
import PySem.SetOps
import KE.KSortTup
import PyProof.Rows.SetFrom
import PyProof.SetRoads
import PyProof.Rows.CallKwBuiltin
import PySem.Challenge.RW_nearorders_k82_whole_spans_put_together
abbrev y':=List (Int×Int)
abbrev zm:=List (List Int)
abbrev zo:=List Int
abbrev zq:=List Nat
abbrev zr:=List PySem.Str
set_option genSizeOf false
set_option compiler.extract_closed false
noncomputable section
open Array renaming getElem?_eq_some_iff->dw,getElem?_eq_getElem->fj,getElem?_setIfInBounds_self_of_lt->jb,getD->ka,length_toList->lb,getElem?_toList->nt,getElem?_eq_none->rj,perm_iff_toList_perm->wz,getElem?_replicate->xq,mem_toList_iff->yq,forIn_toList->zj
open Bool renaming false_eq_true->cu,and_eq_true->cw,eq_iff_iff->ed,false_ne_true->iz,not_true->om,and_false->qd,not_eq_true'->uy
open Classical renaming em->qm
open False renaming elim->ly
open ForInStep renaming yield->qp
open Function renaming comp->wg
open Int renaming toNat_natCast->gb,le_trans->lh,le_refl->wk
open List renaming mem_cons_of_mem->ao,size_toArray->au,mem_cons->aw,mem_cons_self->ax,range->ay,length_map->ba,getElem?_eq_some_iff->bg,mem_map->bo,getElem?_eq_getElem->br,mem_range->bu,length_append->bw,mem_append_right->bz,mem_singleton->cg,mem_append->cm,filterMap_cons->cq,length_cons->cy,mem_filter->cz,pairwise_cons->de,map_cons->df,mem_of_getElem?->di,all_eq_true->dz,getElem_mem->fe,mem_append_left->fi,getElem?_append_left->fo,getElem?_map->fw,map_append->gg,pairwise_iff_getElem->gm,flatMap_cons->gn,map_map->gw,mem_filterMap->gy,getElem?_set_ne->ib,getElem?_set_self->ie,getElem?_append_right->ig,length_pos_iff->ik,nodup_cons->iq,lookup_cons->iw,length_take->jj,perm_ext_iff_of_nodup->jm,getElem_of_mem->jr,any_eq_true->jt,mem_flatMap->ju,filter_cons->jv,length_range->kj,nodup_append->kl,mem_iff_getElem->kr,getElem_range->mq,ne_nil_of_mem->mr,length_eq_zero_iff->my,filter_cons_of_pos->mz,pairwise_lt_range->nh,take_succ_eq_append_getElem->ni,filterMap_eq_map'->nj,length_drop->oh,length_nil->oz,forIn_cons->pf,getD->pz,map_filterMap->qf,length->qj,pairwise_map->qo,length_filterMap_le->qr,countP_cons->qw,nodup_range->qz,append_nil->rz,length_set->sd,range_succ->sj,length_filter_le->sv,drop_zero->tj,map_drop->ui,any_map->uu,append_assoc->uv,ext_getElem?->ux,eraseIdx_eq_take_drop_succ->vj,of_mem_zip->wd,dropLast_concat_getLast->wj,nodup_iff_pairwise_ne->xf,length_eraseIdx_of_lt->xg,getElem?_zip_eq_some->xp,exists_mem_of_ne_nil->xr,getElem?_take_of_lt->xv,map_take->xx,getElem?_replicate->ya,getElem?_cons_succ->yc,filter_cons_of_neg->ye,map_nil->yg,range_succ_eq_map->yh,length_singleton->ym,take_append_drop->yp,getElem?_eq_none->yu,getElem?_toArray->yv,filterMap_eq_map->yx,pairwise_append->zb,flatMap_append->zl
open List.Pairwise renaming map->jw,nil->oq,imp_of_mem->ur
open List.Perm renaming refl->ve,swap->vf,append_left->xh
open List.cons renaming injEq->zc
open Nat renaming le_refl->ak,lt_of_lt_of_le->bc,ne_of_lt->bf,le_trans->dm,lt_succ_of_lt->gr,lt_irrefl->gv,le_of_lt->ij,zero_le->iu,ne_of_gt->jd,lt_or_ge->je,lt_succ_self->jl,mul_le_mul->ku,succ_ne_self->lj,le_add_right->rh,le_of_eq->sh,succ_mul->vh,le_succ->we,min_self->yn,lt_asymm->yt,pow_le_pow_right->zi
open Ne renaming symm->dh
open Option renaming isSome_iff_exists->xc
open Option.some renaming inj->cx,injEq->xu
open Prod renaming fst->dy,snd->qe
open PyProof.Rows renaming slot_tuple_getitem->fv,callWith_type1->jx,IntsAre->kd,AllBare->rl,size_push'->tq,get?_update_seq->ub,listUpdate_at->vp,assignInOrder_cons->vq,lt_int->wu,IsTup->yj,tupleItemsOf_->zf
open PyProof.Rows.IsTup renaming push->xb
open PySem renaming wpAny_bind->ae,Value->af,Shared->ag,Addr->ah,wpAny_pure->ai,starEach->ar,Program->bh,FuncData->bj,Expr->bq,sizeLine->cf,Around->cn,World->cp,Heap->da,bootBuiltins->dj,mainGlobals->du,wpAny_newObj_type->fg,wpAny_field->fq,wpAny_holding->fz,wpAny_call_entry->gc,IsTupleKey->gd,Stmt->gf,wpAny_callSpecial?_slot->gh,SetTable->gu,wpAny_seqItems->gz,Scope->ic,sizeLine_eq->ja,wpAny_setField_rec->jg,mem_of_lookup->jh,wpAny_setState_of->ji,wpAny_truthy_bool->jq,Comprehension->jy,wpAny_passesOwn->km,NameKind->kn,codeAny_builtin->kq,wpAny_pyIter_list->kv,Builtin->kz,codeAny_call_builtin->lr,wpAny_askSetting->mm,wpAny_pyIter_tuple->nq,IsPair->oj,Arguments->pg,wpAny_rule->ph,wpAny_forIn_list->pq,wpAny_standAt->pw,wpAny_letGo->qc,pushCells_keeps->qh,wpAny_typeOf->ql,wpAny_mono->qt,wpAny_Call_Name_kw->qu,wpAny_of_eq->rn,wpAny_onRaise->sf,codeAny_mono->tm,wpAny_execs_nil->tw,IsPart->uk,wpAny_updateSeq_pair->uq,wpAny_setEntries_of->vg,wpAny_attempt->vk,plainId_quiet->vm,Result->vt,call_meets->vz,Model->wm,boot_len->wx,wpAny_eqBool_int->xj,PassesOwn->xk,noFill_tuple_add->xm,wpAny_isInstance->xo,IsZip->xw,wpAny_updateSeq->yd,BindsTo->yf,wpAny_setField->yo,wpAny_runValue->yr,wpAny_tryCatch->yw,seq_tuple_add->ze,call->zg,wpAny_comprehension_free->zh,wpAny_newList->zk
open PySem.Around renaming under_plainId->jo
open PySem.Builtin.Builtins renaming bindParams->td
open PySem.Builtin.Frozenset renaming updateFrom->sk
open PySem.Builtin.List renaming listTooLong->pd,listExtendWith->uj,listSameRef->uw,listTouch->vn
open PySem.Builtin.Slice renaming slicePlaces->kh,sliceAdjust->oi,sliceApplied->uf
open PySem.Builtin.SmallTypes renaming nextOf->fh,ownedTupleIsFree->qi,stopIteration->qq
open PySem.Builtin.Tuple renaming tupleExact->ki,tupleItemsOf->ug
open PySem.Calls renaming evalArgs_plain->sy,Name_function_global->wq,callWith_builtin->yb,spliced_cons->zd
open PySem.Challenge renaming pw_nearorders_k82_whole_spans_put_together->aa
open PySem.EntryCells renaming newEntry->xn
open PySem.F renaming plainAttrs_list->lx,args_tuple_add_2->qg,entry_tuple_add->qk,slot_tuple_add->qv,excBase_ValueError->wa,slot_tuple_index->wy,slot_list_index->xi
open PySem.Heap renaming get?_push_of_some->aj,lt_size->av,get?_push_size->az,size_push->ff,SameBut->jc,get?_update_self->jn,get?_update_other->kg,get?_update_ne->ll,ExtBut->yz
open PySem.Heap.SameBut renaming update->nr,refl->sr
open PySem.IsL renaming update->yk
open PySem.NameKind renaming free->dg,cell->dk
open PySem.Obj renaming mapSeq->mw,data_mapFields->um,isFreed_of_fields->yy
open PySem.SeqAt renaming EqAt->jz,RcAt->rf
open PySem.SetTable renaming insertAt->jf,turns->rp,below->rq,sizeAbove->yi
open PySem.Shared renaming TypeIs->nv
open PySem.Str renaming ofString->lg
open PySem.Value renaming ref->gq,none->jk,isInt_shape->nc,builtin->ua,bool->uc,type->ud
open PySem.W renaming Frag->aq,excIn->nu,fnOf->ou,nsIn->ow,keepIn->pj,CodeHd->si,methodObj->ue,codeIn->vv,tabObj->wb,kitOne->wc,cellsFrom_some->xl
open PySem.Walks renaming list->uh
open PySem.pickOrder renaming go->xa
open Sum renaming inl->uz,inr->vc
set_option Elab.async false
set_option linter.all false
set_option maxRecDepth 100000
set_option maxHeartbeats 4000000
namespace L2.Mr
open PySem PySem.Spec PySem.Calls PyProof.Rows PySem.W
def PC (o:Obj):Bool:=match o.cls,o.data with
 | .none,.fields _=>false
 |_,_=>true
def nF (h:da):List ah->Frag
 | []=>[]
 |a::as=>match h.get? a with
  |some o=>match PC o with
   |true=>(a,o)::nF h as
   |false=>nF h as
  |none=>nF h as
def rX (h:da):Frag:=nF h (ay h.objs.size)
theorem uY (h:da):∀as,(nF h as).In h
 | [],_,_,e=>nomatch e
 |a::as,b,o,e=>by
  unfold nF at e
  split at e
  ·rename_i o' q
   split at e
   ·rw[iw]at e
    cases z:b==a with
    |true=>rw[z]at e;cases e;rw[eq_of_beq z];exact q
    |false=>rw[z]at e;exact uY h as b o e
   ·exact uY h as b o e
  ·exact uY h as b o e
theorem uZ (h:da):∀as,noTabs (nF h as)=true
 | []=>rfl
 |a::as=>by
  unfold nF
  split
  ·split
   ·rename_i q;show(_&&_)=true;rw[cw];refine⟨?_,uZ h as⟩;exact q
   ·exact uZ h as
  ·exact uZ h as
def cG (K:Frag) (f:ah):Option bj:=match K.lookup f with
 |some o=>match o.data with
  | .func fd=>some { fd with kwdefaults:=.none,doc:=.none,pyModule:=.none,annotations:=none,closureTuple:=.none }
  |_=>none
 |none=>none
theorem PD {K:Frag}{f:ah}{n q:Str}{A:pg}{B:List gf}{S:ic}{dV cd:af}(h:cG K f=some (fnOf n q A B S dV .none .none .none none cd .none)):
  ∃(oc:af) (od:Option ah) (kV dc pm:af) (an:Option ah) (ct:af) (sl:Array (Option af)),K.lookup f=some ⟨oc,od,.func (fnOf n q A B S dV kV dc pm an cd ct),sl⟩:=by
 unfold cG at h
 split at h
 ·rename_i o e
  split at h
  ·rename_i fd q;obtain⟨oc,od,dt,sl⟩:=o;cases fd;simp only[xu,FuncData.mk.injEq]at h;obtain⟨rfl,rfl,rfl,rfl,rfl,rfl,rfl,rfl,_,_,_,_,rfl,_,rfl⟩:=h;simp only at q;subst q;exact⟨_,_,_,_,_,_,_,_,e⟩
  ·cases h
 ·cases h
theorem nG {F:List (Frag->Bool)}{K:Frag}(h:F.all (λf=>f K)=true) (i:Nat) {f:Frag->Bool}(e:F[i]?=some f):f K=true:=dz.mp h f (di e)
theorem PF {l m:List (Option bj)}(h:l=m) (i:Nat) {a b:Option bj}(e:l[i]?=some a) (e':m[i]?=some b):a=b:=by subst h;rw[e]at e';exact cx e'
def zI (K:Frag) (n:Str) (v:Int):Bool:=match nsIn K du n with
 |some (some (.int i _))=>i==v
 |_=>false
theorem PH {K:Frag}{n:Str}{v:Int}(h:zI K n v=true):∃t,nsIn K du n=some (some (.int v t)):=by
 unfold zI at h
 split at h
 ·rename_i i t e;rw[eq_of_beq h]at e;exact⟨t,e⟩
 ·cases h
theorem zJ (p:bh) (w:cp) (N:Nat) {α:Type}(f:ag->α):(openEnds treeTable p w N).map f=(((Fast.tw10274390034422433532 Fast.tw14364793385576792824 (opening p) w N (PySem.start (opening p)).1 (PySem.start (opening p)).2).bind (Fast.tw14289696077712309145 p)).bind λs₀=>match s₀.heap.isNs du&&s₀.gens.size==0 with
 |true=>(Fast.tw14082659384304107361 Fast.tw14364793385576792824 p w s₀.heap.objs.size (s₀.heap.nsMap du "__annotations__") N s₀ (topStub p)).bind λs₁=>match staticsOk (importedModules p.main.body) s₀.heap s₁.heap&&namesBound p s₁.heap&&gensDone s₁&&laidKept s₀.heap s₁.heap with
   |true=>some s₁
   |false=>none
 |false=>none).map f:=by
 rw[<-Fast.te10274390034422433532,<-Fast.te14364793385576792824,<-Fast.te14289696077712309145,<-Fast.te14082659384304107361];rfl
abbrev vA:List af:=[.type "ValueError",.type "Exception",.type "BaseException",.type "object"]
def PJ (s:gf) (cd:ah):Option bj:=match s with
 | .FunctionDef n a b _ _ _ sc _ _ _=>some (fnOf n n a b sc .none .none .none .none none (.ref cd) .none)
 |_=>none
def fE (p:bh) (i:Nat) (cd:ah):Option bj:=PJ (p.main.body.getD i (.Pass ⟨0,0,0,0⟩)) cd
def nR (K:Frag) (n:Str) (a:ah):Bool:=decide (nsIn K du n=some (some (.ref a)))
def nN (K:Frag) (n:Str):Bool:=decide (nsIn K du n=some none)
theorem dA {F:List (Frag->Bool)}{K:Frag}(h:F.all (λf=>f K)=true) (i:Nat) {g:Frag->Prop}[∀K,Decidable (g K)] (e:F[i]?=some (λK=>decide (g K))):g K:=of_decide_eq_true (nG h i e)
end L2.Mr
namespace L2.Mr.K82
open PySem PySem.Spec PySem.Calls PySem.W PyProof.Rows L2.Mr
def vw:bh:={ aa with main:={ aa.main with body:=List.filterMap (λi=>aa.main.body[i]?) [1,2,3,4,5,6,8,9,10,12,13,14,15,16,17,18,19,20,21,22,23,24,25,27,28,29,30,31,32,33,35,36,37,38,39,40,42,43,44,45,47,48,49,50,51,52,53,54] } }
def Xw:ag->Bool:=λs=>xlAt vw [] s&&recOk (RowW.records (OpenRow.toRowW PySem.Challenge.rw_nearorders_k82_whole_spans_put_together.row)) s
def obF:List (Frag->Bool):=[(nR · "is_whole" 94),(nR · "is_between" 101),(nR · "is_rising" 106),(nR · "is_thing" 113),(nR · "are_things" 118),(nR · "is_pair" 125),(nR · "are_pairs" 130),(nR · "has_alike" 135),(nR · "is_complete" 140),(nR · "is_order" 147),(nR · "need_order" 154),(nR · "need_thing" 161),(nR · "need_few" 168),(nR · "are_loose" 175),(nR · "loose_pairs" 180),(nR · "turned" 185),(nR · "is_row" 190),(nR · "need_row" 197),(nR · "may_come" 202),(nR · "all_rows" 207),(nR · "apart" 214),(nR · "greatest_apart" 219),(nR · "span_of" 226),(nR · "need_both" 233),(nR · "pairs_of_both" 238),(nR · "stacked" 243),(nR · "side_by" 250),(nR · "without" 255),(nR · "rows_stacked" 260),(nR · "rows_with_spans" 265),(nR · "least_span" 270),(nR · "best_rows" 275),(nR · "first_best" 282),(nR · "_law_cell_at" 289),(nR · "_law_state" 296),(nR · "_law_take" 303),(nR · "_law_mixed_row" 310),(nR · "_law_closed" 315),(nR · "_law_order" 320),(nR · "_law_right" 327),(nR · "law" 334),(nR · "NoOrder" 37),(nR · "NoThing" 49),(nR · "NoRow" 61),(nR · "TooFew" 85),(nN · "abs"),(nN · "all"),(nN · "any"),(nN · "bool"),(nN · "int"),(nN · "isinstance"),(nN · "len"),(nN · "list"),(nN · "max"),(nN · "min"),(nN · "range"),(nN · "set"),(nN · "sorted"),(nN · "tuple"),(nN · "zip"),(codeIn · (.ref 93) "is_whole"),(codeIn · (.ref 100) "is_between"),(codeIn · (.ref 105) "is_rising"),(codeIn · (.ref 112) "is_thing"),(codeIn · (.ref 117) "are_things"),(codeIn · (.ref 124) "is_pair"),(codeIn · (.ref 129) "are_pairs"),(codeIn · (.ref 134) "has_alike"),(codeIn · (.ref 139) "is_complete"),(codeIn · (.ref 146) "is_order"),(codeIn · (.ref 153) "need_order"),(codeIn · (.ref 160) "need_thing"),(codeIn · (.ref 167) "need_few"),(codeIn · (.ref 174) "are_loose"),(codeIn · (.ref 179) "loose_pairs"),(codeIn · (.ref 184) "turned"),(codeIn · (.ref 189) "is_row"),(codeIn · (.ref 196) "need_row"),(codeIn · (.ref 201) "may_come"),(codeIn · (.ref 206) "all_rows"),(codeIn · (.ref 213) "apart"),(codeIn · (.ref 218) "greatest_apart"),(codeIn · (.ref 225) "span_of"),(codeIn · (.ref 232) "need_both"),(codeIn · (.ref 237) "pairs_of_both"),(codeIn · (.ref 242) "stacked"),(codeIn · (.ref 249) "side_by"),(codeIn · (.ref 254) "without"),(codeIn · (.ref 259) "rows_stacked"),(codeIn · (.ref 264) "rows_with_spans"),(codeIn · (.ref 269) "least_span"),(codeIn · (.ref 274) "best_rows"),(codeIn · (.ref 281) "first_best"),(codeIn · (.ref 288) "_law_cell_at"),(codeIn · (.ref 295) "_law_state"),(codeIn · (.ref 302) "_law_take"),(codeIn · (.ref 309) "_law_mixed_row"),(codeIn · (.ref 314) "_law_closed"),(codeIn · (.ref 319) "_law_order"),(codeIn · (.ref 326) "_law_right"),(codeIn · (.ref 333) "law"),(keepIn · (.ref 94)),(keepIn · (.ref 101)),(keepIn · (.ref 106)),(keepIn · (.ref 113)),(keepIn · (.ref 118)),(keepIn · (.ref 125)),(keepIn · (.ref 130)),(keepIn · (.ref 135)),(keepIn · (.ref 140)),(keepIn · (.ref 147)),(keepIn · (.ref 154)),(keepIn · (.ref 161)),(keepIn · (.ref 168)),(keepIn · (.ref 175)),(keepIn · (.ref 180)),(keepIn · (.ref 185)),(keepIn · (.ref 190)),(keepIn · (.ref 197)),(keepIn · (.ref 202)),(keepIn · (.ref 207)),(keepIn · (.ref 214)),(keepIn · (.ref 219)),(keepIn · (.ref 226)),(keepIn · (.ref 233)),(keepIn · (.ref 238)),(keepIn · (.ref 243)),(keepIn · (.ref 250)),(keepIn · (.ref 255)),(keepIn · (.ref 260)),(keepIn · (.ref 265)),(keepIn · (.ref 270)),(keepIn · (.ref 275)),(keepIn · (.ref 282)),(keepIn · (.ref 289)),(keepIn · (.ref 296)),(keepIn · (.ref 303)),(keepIn · (.ref 310)),(keepIn · (.ref 315)),(keepIn · (.ref 320)),(keepIn · (.ref 327)),(keepIn · (.ref 334)),(zI · "MOST_THINGS" 6),λK=>decide (tabIn K "law" = some (333,329)),(excIn · 37 vA "ValueError.__new__"),(excIn · 49 vA "ValueError.__new__"),(excIn · 61 vA "ValueError.__new__"),(excIn · 85 vA "ValueError.__new__")]
def zK (K:Frag):List (Option bj):=[cG K 94,cG K 101,cG K 106,cG K 113,cG K 118,cG K 125,cG K 130,cG K 135,cG K 140,cG K 147,cG K 154,cG K 161,cG K 168,cG K 175,cG K 180,cG K 185,cG K 190,cG K 197,cG K 202,cG K 207,cG K 214,cG K 219,cG K 226,cG K 233,cG K 238,cG K 243,cG K 250,cG K 255,cG K 260,cG K 265,cG K 270,cG K 275,cG K 282,cG K 289,cG K 296,cG K 303,cG K 310,cG K 315,cG K 320,cG K 327,cG K 334]
def zL:List (Option bj):=[fE aa 8 93,fE aa 9 100,fE aa 10 105,fE aa 13 112,fE aa 14 117,fE aa 15 124,fE aa 16 129,fE aa 17 134,fE aa 18 139,fE aa 19 146,fE aa 20 153,fE aa 21 160,fE aa 22 167,fE aa 23 174,fE aa 24 179,fE aa 25 184,fE aa 27 189,fE aa 28 196,fE aa 29 201,fE aa 30 206,fE aa 31 213,fE aa 32 218,fE aa 33 225,fE aa 35 232,fE aa 36 237,fE aa 37 242,fE aa 38 249,fE aa 39 254,fE aa 40 259,fE aa 42 264,fE aa 43 269,fE aa 44 274,fE aa 45 281,fE aa 47 288,fE aa 48 295,fE aa 49 302,fE aa 50 309,fE aa 51 314,fE aa 52 319,fE aa 53 326,fE aa 54 333]
def ob (K:Frag):Bool×List (Option bj):=(obF.all (λf=>f K),zK K)
abbrev obE:Bool×List (Option bj):=(true,zL)
theorem FG {α β γ:Type}{o:Option α}{f:α->β}{g:α->γ}{a:β}{b:γ}(h1:o.map f=some a) (h2:o.map g=some b):o.map (λs=>(f s,g s))=some (a,b):=by
 cases o with
 |none=>cases h1
 |some s=>cases h1;cases h2;rfl
theorem PK (w:cp):(openEnds treeTable aa w 8000).map (λs=>openSeen vw [] (importedModules (aa).main.body) Xw true s)=some (openGood vw []):=by rw[zJ,Fast.te4187177175401517315];kernel_rfl
theorem PL (w:cp):(openEnds treeTable aa w 8000).map (λs=>obF.all (λf=>f (rX s.heap)))=some true:=by rw[zJ];kernel_rfl
theorem PM (w:cp):(openEnds treeTable aa w 8000).map (λs=>zK (rX s.heap))=some zL:=by rw[zJ];kernel_rfl
theorem left:LeftO aa vw [] Xw (λs=>ob (rX s.heap)) (λ_=>obE) 8000:=λw=>FG (PK w) (FG (PL w) (PM w))
end L2.Mr.K82
namespace L2
open PySem PySem.Spec PyProof.Rows
abbrev hW:=Sum Int Str
def FH:hW->af->Bool
 | .inl k,v=>Value.isInt k v
 | .inr x,v=>Value.isStrOf x v
def PN (w:cp):hW->Int
 | .inl k=>hashInt k
 | .inr x=>hashStr w x
theorem mD:∀{k:hW}{v:af},FH k v=true->(∃i t,k=uz i/\v=Value.int i t)∨(∃x t,k=vc x/\v=Value.str x t)
 | .inl i,v,h=>by obtain⟨t,e⟩:=nc (k:=i) (v:=v) h;exact .inl ⟨i,t,rfl,e⟩
 | .inr x,v,h=>by obtain⟨t,e⟩:=Value.isStrOf_shape (x:=x) (v:=v) h;exact .inr ⟨x,t,rfl,e⟩
theorem PQ (a b:Int):decide ((uz a:hW)=uz b)=(a==b):=by
 by_cases e:a=b
 ·subst e;simp
 ·have h:¬ (uz a:hW)=uz b:=λq=>e (Sum.inl.inj q);rw[decide_eq_false h];exact(beq_eq_false_iff_ne.mpr e).symm
theorem PR (a b:Str):decide ((vc a:hW)=vc b)=decide (a=b):=by
 by_cases e:a=b
 ·subst e;simp
 ·have h:¬ (vc a:hW)=vc b:=λq=>e (Sum.inr.inj q);rw[decide_eq_false h,decide_eq_false e]
theorem PU (a:Int) (b:Str):decide ((uz a:hW)=vc b)=false:=decide_eq_false (λq=>nomatch q)
theorem PV (a:Str) (b:Int):decide ((vc a:hW)=uz b)=false:=decide_eq_false (λq=>nomatch q)
def zM (prog:bh) (w:cp):PySem.KeyKind prog w hW where
 is:=FH
 hash:=PN w
 inj:=λv a b ha hb=>by
  rcases mD ha with⟨i,t,rfl,rfl⟩|⟨x,t,rfl,rfl⟩
  ·rcases mD hb with⟨j,u,rfl,e⟩|⟨y,u,rfl,e⟩
   ·injection e with e1 _;rw[e1]
   ·exact nomatch e
  ·rcases mD hb with⟨j,u,rfl,e⟩|⟨y,u,rfl,e⟩
   ·exact nomatch e
   ·injection e with e1 _;rw[e1]
 byValue:=λk v h=>by rcases mD h with⟨i,t,rfl,rfl⟩|⟨x,t,rfl,rfl⟩ <;> rfl
 pyHash:=λhv h=>by
  rcases mD hv with⟨i,t,rfl,rfl⟩|⟨x,t,rfl,rfl⟩
  ·exact wpAny_pyHash_int h
  ·exact wpAny_pyHash_str h
 eqBool:=λhu hv h=>by
  rcases mD hu with⟨i,t,rfl,rfl⟩|⟨x,t,rfl,rfl⟩
  ·rcases mD hv with⟨j,u,rfl,rfl⟩|⟨y,u,rfl,rfl⟩
   ·rw[PQ]at h;exact xj h
   ·rw[PU]at h;exact SeqAt.EqAt.int_str i t y u _ _ _ _ h
  ·rcases mD hv with⟨j,u,rfl,rfl⟩|⟨y,u,rfl,rfl⟩
   ·rw[PV]at h;exact SeqAt.EqAt.str_int x t j u _ _ _ _ h
   ·rw[PR]at h;exact wpAny_eqBool_str h
 «strs»:=λk x t v h=>by
  rcases mD h with⟨i,u,rfl,e⟩|⟨y,u,rfl,e⟩
  ·exact nomatch e
  ·injection e with e1 _;subst e1
   cases v <;> rfl
inductive V where
 |non|bl (b:Bool)|int (i:Int)|str (x:Str)|byt (b:Array UInt8)|flt (b:UInt64)|ref (a:ah)|ty (n:String)
 deriving DecidableEq
def RelV:V->af->Prop
 | .non,u=>u=jk
 | .bl b,u=>u=uc b
 | .int i,u=>∃t,u=Value.int i t
 | .str x,u=>∃t,u=Value.str x t
 | .byt b,u=>∃t,u=Value.bytes b t
 | .flt b,u=>∃t,u=Value.float b t
 | .ref a,u=>u=gq a
 | .ty n,u=>u=ud n
abbrev Ae:List V->List af->Prop:=Paired RelV
theorem Ae.length {xs:List V}{us:List af}(r:Ae xs us):xs.length=us.length:=Paired.length r
theorem Ae.get:∀{xs:List V}{us:List af}{i:Nat}{x:V},Ae xs us->xs[i]?=some x->∃u,us[i]?=some u/\RelV x u
 |_,_,_,_,.nil,e=>by simp at e
 |_,_,0,_,.cons r _,e=>by simp at e;subst e;exact⟨_,rfl,r⟩
 |_,_,i+1,x,.cons _ t,e=>by obtain⟨u,h1,h2⟩:=Ae.get (i:=i) (x:=x) t (by simpa using e);exact⟨u,by simpa using h1,h2⟩
theorem Ae.set {x:V}{u:af}(r:RelV x u):∀{xs:List V}{us:List af}(i:Nat),Ae xs us->Ae (xs.set i x) (us.set i u)
 |_,_,_,.nil=>.nil
 |_,_,0,.cons _ t=>.cons r t
 |_,_,i+1,.cons q t=>.cons q (Ae.set r i t)
theorem Ae.append:∀{xs ys:List V}{us ws:List af},Ae xs us->Ae ys ws->Ae (xs++ys) (us++ws)
 |_,_,_,_,.nil,s=>s
 |_,_,_,_,.cons r t,s=>.cons r (Ae.append t s)
theorem Ae.take:∀{xs:List V}{us:List af}(n:Nat),Ae xs us->Ae (xs.take n) (us.take n)
 |_,_,0,_=>.nil
 |_,_,_+1,.nil=>.nil
 |_,_,n+1,.cons r t=>.cons r (Ae.take n t)
theorem Ae.drop:∀{xs:List V}{us:List af}(n:Nat),Ae xs us->Ae (xs.drop n) (us.drop n)
 |_,_,0,r=>r
 |_,_,_+1,.nil=>.nil
 |_,_,n+1,.cons _ t=>Ae.drop n t
def FI:Option V->Option af->Prop
 |some v,some u=>RelV v u
 |none,none=>True
 |_,_=>False
def KV {κ:Type}:List (κ×V)->List (κ×af)->Prop:=Paired λ(p:κ×V) (q:κ×af)=>p.1=q.1/\RelV p.2 q.2
def kV:hW->V
 | .inl i=>.int i
 | .inr x=>.str x
inductive HO where
 |lst (xs:List V)
 |tup (xs:List V)
 |dK (kvs:List (hW×V))|dT (kvs:List (List hW×V))
 |set (S:Int->Bool) (n:Nat)
 |ins (C dx:ah) (fs:List (Str×V))
 |own (x:ah)
 |xd (fs:List (Str×V))
 |met (f x:ah)
 |rng (lo hi:Int)
 |frz (o:Obj) (u:HO)
 |tbl (ps:Array af)
 |ext (φ:da->Prop)
abbrev Hp:=ah->Option HO
def aZ (H:Hp) (a:ah) (o:HO):Hp:=λb=>if b=a then some o else H b
theorem eG {H:Hp}{a:ah}{o:HO}:aZ H a o a=some o:=by unfold aZ;rw[if_pos rfl]
theorem cF {H:Hp}{a b:ah}{o:HO}(h:b≠a):aZ H a o b=H b:=by unfold aZ;rw[if_neg h]
theorem nI {H:Hp}{a b:ah}{o u:HO}(h:H a=some o) (h':H b=some u) (d:o≠u):a≠b:=by intro e;subst e;rw[h]at h';exact d (cx h')
theorem fG {H:Hp}{a b:ah}{o:HO}(h:H a=some o) (h':H b=none):a≠b:=by intro e;subst e;rw[h]at h';cases h'
def Az (h:da) (a:ah) (items:Array af):Prop:=∃o,h.get? a=some o/\o.cls=.type "tuple"/\o.dict=none/\∃n,o.data=.seq items n
theorem Az.tup {h:da}{a:ah}{items:Array af}(x:Az h a items):yj h a items:=let ⟨o,e,c,_,d⟩:=x;⟨o,e,c,d⟩
theorem Az.lt {h:da}{a:ah}{items:Array af}(x:Az h a items):a<h.objs.size:=let ⟨_,e,_⟩:=x;av e
theorem Az.new (h:da) (items:Array af):Az (h.push { cls:=.type "tuple",data:=.seq items }) h.objs.size items:=⟨_,az _ rfl,rfl,rfl,_,rfl⟩
section
variable(P:bh) (w:cp)
def Ai (H:Hp) (h:da) (a:ah):HO->Prop
 | .lst xs=>xs.length<=cf/\∃(its:List af) (n:Nat),Ae xs its/\h.get? a=some { cls:=.type "list",data:=.seq its.toArray n }
 | .tup xs=>xs.length<=cf/\∃its:List af,Ae xs its/\Az h a its.toArray
 | .dK kvs=>kvs.length<=cf/\(a==sysModules)=false/\∃vs,KV kvs vs/\h.DictOf (zM P w) a vs
 | .dT kvs=>kvs.length<=cf/\(a==sysModules)=false/\∃xs:List (List hW×ah×af),
   Paired (λ(p:List hW×V) (q:List hW×ah×af)=>p.1=q.1/\H q.2.1=some (.tup (p.1.map kV))/\RelV p.2 q.2.2) kvs xs /\
   ∃o es ep,h.get? a=some o/\o.ExactDict/\o.data=.dict es ep/\es.toList=xs.map (entryOfKey (tupleKind (zM P w)))/\(xs.map (·.1)).Nodup
 | .set S n=>h.SetOf (intKind P w) a S n
 | .ins C dx fs=>H dx=some (.own a)/\fs.length<=1000/\dx≠a/\h.get? a=some (PySem.W.instObj C dx) /\
   ∃mA,h.Ns1 dx mA/\(∀f,FI (fs.lookup f) (mA f))/\PySem.Within mA (fs.map (·.1))
 | .own _=>∃o,h.get? a=some o
 | .xd fs=>∃mA,h.Ns1 a mA/\∀f,FI (fs.lookup f) (mA f)
 | .rng lo hi=>∃t u v,h.get? a=some { cls:=.type "range",data:=.fields #[.int lo t,.int hi u,.int 1 v] }
 | .frz o u=>h.get? a=some o/\Ai H h a u
 | .tbl ps=>h.get? a=some { cls:=.none,data:=.fields ps }
 | .met f x=>h.get? a=some (ue (.ref f) (.ref x))
 | .ext φ=>φ h/\(∃o,h.get? a=some o)/\∀h1 h2:da,φ h1->(∀o,h1.get? a=some o->h2.get? a=some o)->φ h2
def Bk (H:Hp) (h:da):Prop:=∀a o,H a=some o->Ai P w H h a o
end
section
variable{P:bh}{w:cp}{H H':Hp}{h h':da}{a:ah}{o:HO}
theorem Ai.lt (x:Ai P w H h a o):a<h.objs.size:=by
 cases o with
 |lst xs=>obtain⟨_,_,_,_,e⟩:=x;exact av e
 |tup xs=>obtain⟨_,_,_,p⟩:=x;exact p.lt
 |dK kvs=>obtain⟨_,_,_,_,o,_,_,e,_⟩:=x;exact av e
 |dT kvs=>obtain⟨_,_,_,_,o,_,_,e,_⟩:=x;exact av e
 |set S n=>obtain⟨o,_,_,_,e,_⟩:=x;exact av e
 |ins C dx fs=>obtain⟨_,_,_,e,_⟩:=x;exact av e
 |own y=>obtain⟨_,e⟩:=x;exact av e
 |xd fs=>obtain⟨_,⟨_,_,_,e,_⟩,_⟩:=x;exact av e
 |rng lo hi=>obtain⟨_,_,_,e⟩:=x;exact av e
 |frz ob u=>obtain⟨e,_⟩:=x;exact av e
 |tbl ps=>exact av (show h.get? a=some _ from x)
 |met f y=>exact av (show h.get? a=some _ from x)
 |ext φ=>obtain⟨_,⟨_,e⟩,_⟩:=x;exact av e
theorem Paired.mapP {α β:Type}{F G:α->β->Prop}:∀{l₁:List α}{l₂:List β},Paired F l₁ l₂->(∀a b,F a b->G a b)->Paired G l₁ l₂
 |_,_,.nil,_=>.nil
 |_,_,.cons r t,f=>.cons (f _ _ r) (Paired.mapP t f)
theorem Ai.stay (x:Ai P w H h a o) (k:∀b u,(b=a∨H b=some (.own a))->h.get? b=some u->h'.get? b=some u)
  (ho:∀b,H b=some (.own a)->H' b=some (.own a)) (ht:∀b xs,H b=some (.tup xs)->H' b=some (.tup xs)):Ai P w H' h' a o:=by
 induction o with
 |lst xs=>obtain⟨z,its,n,r,e⟩:=x;exact⟨z,its,n,r,k _ _ (.inl rfl) e⟩
 |tup xs=>obtain⟨z,its,r,ob,e,c⟩:=x;exact⟨z,its,r,ob,k _ _ (.inl rfl) e,c⟩
 |dK kvs=>obtain⟨z,y,vs,r,ob,es,ep,e,c⟩:=x;exact⟨z,y,vs,r,ob,es,ep,k _ _ (.inl rfl) e,c⟩
 |dT kvs=>obtain⟨z,y,xs,r,ob,es,ep,e,c⟩:=x;exact⟨z,y,xs,Paired.mapP r λp q z=>⟨z.1,ht _ _ z.2.1,z.2.2⟩,ob,es,ep,k _ _ (.inl rfl) e,c⟩
 |set S n=>obtain⟨ob,es,ep,t,e,c⟩:=x;exact⟨ob,es,ep,t,k _ _ (.inl rfl) e,c⟩
 |ins C dx fs=>obtain⟨d,z,ne,e,mA,⟨od,es,ep,e2,c⟩,r⟩:=x;exact⟨ho _ d,z,ne,k _ _ (.inl rfl) e,mA,⟨od,es,ep,k _ _ (.inr d) e2,c⟩,r⟩
 |own y=>obtain⟨ob,e⟩:=x;exact⟨ob,k _ _ (.inl rfl) e⟩
 |xd fs=>obtain⟨mA,⟨od,es,ep,e,c⟩,r⟩:=x;exact⟨mA,⟨od,es,ep,k _ _ (.inl rfl) e,c⟩,r⟩
 |rng lo hi=>obtain⟨t,u,v,e⟩:=x;exact⟨t,u,v,k _ _ (.inl rfl) e⟩
 |frz ob u ih=>obtain⟨e,q⟩:=x;exact⟨k _ _ (.inl rfl) e,ih q⟩
 |tbl ps=>have e:h.get? a=some { cls:=.none,data:=.fields ps }:=x;show h'.get? a=some { cls:=.none,data:=.fields ps };exact k a _ (.inl rfl) e
 |met f y=>have e:h.get? a=some (ue (.ref f) (.ref y)):=x;show h'.get? a=some (ue (.ref f) (.ref y));exact k a _ (.inl rfl) e
 |ext φ=>obtain⟨p,⟨o,e⟩,st⟩:=x;exact⟨st _ _ p λo q=>k _ _ (.inl rfl) q,⟨o,k _ _ (.inl rfl) e⟩,st⟩
theorem Bk.lt (x:Bk P w H h) (e:H a=some o):a<h.objs.size:=(x a o e).lt
theorem Bk.fresh (x:Bk P w H h) (e:h.objs.size<=a):H a=none:=by
 cases q:H a with
 |none=>rfl
 |some u=>exact absurd (bc (x.lt q) e) (gv _)
theorem Bk.kept (x:Bk P w H h) (k:∀b u,h.get? b=some u->h'.get? b=some u):Bk P w H h':=λa o e=>(x a o e).stay (λb u _ q=>k b u q) (λ_ q=>q) λ_ _ q=>q
theorem Bk.laid (x:Bk P w H h) (k:∀b u,h.get? b=some u->h'.get? b=some u) (hp:h.objs.size<=a) (new:Ai P w (aZ H a o) h' a o):Bk P w (aZ H a o) h':=λb u e=>by
 have hn:=x.fresh hp
 by_cases hb:b=a
 ·subst hb;rw[eG]at e;cases e;exact new
 ·rw[cF hb]at e;exact(x b u e).stay (λc v _ q=>k c v q) (λc q=>by rw[cF (fG q hn)];exact q) λc xs q=>by rw[cF (fG q hn)];exact q
end
def Rd (H:Hp) (a:ah) (u:HO):Prop:=H a=some u∨∃o,H a=some (.frz o u)
theorem Rd.ok {P:bh}{w:cp}{H:Hp}{h:da}{a:ah}{u:HO}(r:Rd H a u) (x:Bk P w H h):Ai P w H h a u:=by
 rcases r with r|⟨o,r⟩
 ·exact x a u r
 ·obtain⟨_,q⟩:=x a _ r;exact q
def vB:Option HO->Prop
 |some (.lst _)=>True
 |some (.dK _)=>True
 |some (.dT _)=>True
 |some (.set _ _)=>True
 |some (.ins _ _ _)=>True
 |some (.ext _)=>True
 |_=>False
section
variable{P:bh}{w:cp}{H:Hp}{h h':da}{x e:ah}{o':HO}
theorem Bk.write (ok:Bk P w H h) (mu:vB (H x)) (he:e=x∨H e=some (.own x)) (k:∀b u,b≠e->h.get? b=some u->h'.get? b=some u) (heo:∃u,h'.get? e=some u)
  (new:Ai P w (aZ H x o') h' x o'):Bk P w (aZ H x o') h':=λb u q=>by
 have nown:∀c y,H c=some (.own y)->c≠x:=λc y r z=>by subst z;rw[r]at mu;exact mu
 have ntup:∀c xs,H c=some (.tup xs)->c≠x:=λc xs r z=>by subst z;rw[r]at mu;exact mu
 by_cases hb:b=x
 ·subst hb;rw[eG]at q;cases q;exact new
 ·rw[cF hb]at q
  by_cases hbe:b=e
  ·have q':H b=some (.own x):=by
    rcases he with z|z
    ·exact absurd (hbe.trans z) hb
    ·rw[hbe];exact z
   rw[q]at q';cases q';obtain⟨v,hv⟩:=heo;exact⟨v,by rw[hbe];exact hv⟩
  ·refine(ok b u q).stay (λc v hc r=>k c v ?_ r) (λc r=>by rw[cF (nown c b r)];exact r) λc xs r=>by rw[cF (ntup c xs r)];exact r
   rcases hc with rfl|hc
   ·exact hbe
   ·rintro rfl
    rcases he with z|z
    ·exact nown c b hc z
    ·rw[hc]at z;cases z;exact hb rfl
end
structure Un (fs ex:List ah) (H H':Hp) (h h':da):Prop where
 keep:∀b o,h.get? b=some o->H b=none->b∉fs->b∉ex->h'.get? b=some o
 slot:∀b o,h.get? b=some o->H b=none->b∈fs->b∉ex->∃sl,h'.get? b=some { o with slots:=sl }
 free:∀b o,h.get? b=some o->H b=none->b∉ex->H' b=none
 there:∀b o,h.get? b=some o->b∉ex->∃o',h'.get? b=some o'
 tups:∀b xs,H b=some (.tup xs)->H' b=some (.tup xs)
 frzs:∀b o u,H b=some (.frz o u)->H' b=some (.frz o u)
 tbls:∀b ps,H b=some (.tbl ps)->∃more,H' b=some (.tbl (ps++more))
section
variable{fs fs' ex ex':List ah}{H H1 H2:Hp}{h h1 h2 h':da}{a x e:ah}{o:HO}
theorem Un.any (u:Un fs ex H H1 h h1) {b:ah}{ob:Obj}(q:h.get? b=some ob) (n:H b=none) (hx:b∉ex):∃sl,h1.get? b=some { ob with slots:=sl }:=by
 by_cases hb:b∈fs
 ·exact u.slot b ob q n hb hx
 ·exact⟨ob.slots,u.keep b ob q n hb hx⟩
theorem Un.kept (k:∀b u,h.get? b=some u->h'.get? b=some u):Un fs ex H H h h':=⟨λb ob q _ _ _=>k b ob q,λb ob q _ _ _=>⟨ob.slots,k b ob q⟩,λ_ _ _ n _=>n,λb ob q _=>⟨ob,k b ob q⟩,λ_ _ q=>q,λ_ _ _ q=>q,λ_ ps q=>⟨#[],by rw[q];simp⟩⟩
theorem Un.refl:Un fs ex H H h h:=Un.kept λ_ _ q=>q
theorem Un.laid (k:∀b u,h.get? b=some u->h'.get? b=some u) (hp:h.objs.size<=a) (hn:H a=none):Un fs ex H (aZ H a o) h h' where
 keep:=λb u q _ _ _=>k b u q
 slot:=λb u q _ _ _=>⟨u.slots,k b u q⟩
 free:=λb u q n _=>by rw[cF (bf (bc (av q) hp))];exact n
 there:=λb u q _=>⟨u,k b u q⟩
 tups:=λb xs q=>by rw[cF (fG q hn)];exact q
 frzs:=λb u xs q=>by rw[cF (fG q hn)];exact q
 tbls:=λb ps q=>⟨#[],by rw[cF (fG q hn),q];simp⟩
theorem Un.write (mu:vB (H x)) (he:e=x∨H e=some (.own x)) (k:∀b u,b≠e->h.get? b=some u->h'.get? b=some u) (heo:∃u,h'.get? e=some u):Un fs ex H (aZ H x o) h h':=by
 have hx:∀b,H b=none->b≠x:=λb n z=>by subst z;rw[n]at mu;exact mu
 have hb:∀b,H b=none->b≠e:=λb n z=>by
  subst z
  rcases he with r|r
  ·exact hx b n r
  ·rw[n]at r;cases r
 have hm:∀b u,H b=some u->¬ vB (some u)->b≠x:=λb u q nm z=>by subst z;rw[q]at mu;exact nm mu
 refine⟨λb u q n _ _=>k b u (hb b n) q,λb u q n _ _=>⟨u.slots,k b u (hb b n) q⟩,λb u q n _=>by rw[cF (hx b n)];exact n,λb u q _=>?_,
  λb xs q=>by rw[cF (hm b _ q λz=>z)];exact q,λb u xs q=>by rw[cF (hm b _ q λz=>z)];exact q,λb ps q=>⟨#[],by rw[cF (hm b _ q λz=>z),q];simp⟩⟩
 by_cases hbe:b=e
 ·subst hbe;exact heo
 ·exact⟨u,k b u hbe q⟩
end
def vC (h:da) (H:Hp):List ah:=(ay h.objs.size).filter λa=>(H a).isSome
def kA (h:da) (H:Hp):da:=PySem.W.hideAll h (vC h H)
theorem PX (h:da) (H:Hp):(kA h H).objs.size=h.objs.size:=PySem.W.hideAll_size _ _
theorem PY {h:da}{H:Hp}{b:ah}{o:Obj}(e:h.get? b=some o) (n:H b=none):(kA h H).get? b=some o:=PySem.W.hideAll_get _ e λhm=>by have q:(H b).isSome=true:=(cz.mp hm).2;rw[n]at q;simp at q
theorem PZ {h:da}{H:Hp}{b:ah}{o:Obj}(e:(kA h H).get? b=some o):h.get? b=some o/\H b=none:=by
 have e':h.get? b=some o:=PySem.W.of_hideAll (vC h H) e;refine⟨e', ?_⟩
 cases q:H b with
 |none=>rfl
 |some x=>have hm:b∈vC h H:=cz.mpr ⟨bu.mpr (av e'),by simp[q]⟩;have z:(kA h H).get? b=none:=PySem.W.hideAll_none (vC h H) hm;rw[z]at e;cases e
structure Mod (K:aq) (mg:Str->Option af) (base:da):Prop where
 kin:K.In base
 glob:base.Ns du mg
 blt:∃mb,base.Ns builtinsNs mb/\∀x:Str,x ≠ "__name__"->mb x=dj x
 nolimit:base.NoLimit
structure Cx where
 prog:bh
 w:cp
 K:aq
 mg:Str->Option af
 base:da
 A:cn
 N:zr
 s₀:ag
 H₀:Hp
 env:Env
 outer:List Env
 stack:List Env
 ex:List ah
 fn:Str->Bool
 calm:Bool
 pn:List (ah×Obj)
 xe:af->ag->Prop
def eQ (l:List Env):List ah:=l.filterMap (·.frame)
abbrev Cx.fs (X:Cx):List ah:=eQ X.outer
def rY (sc:ic) (x:Str):Prop:=sc.names.lookup x=some .local∨sc.names.lookup x=some .cell∨sc.names.lookup x=some .free
def nJ (sc:ic) (x:Str):Prop:=sc.names.lookup x=some .local∨sc.names.lookup x=some .cell
def P0 (env:Env) (h:da) (m:Str->Option af) (x:Str) (u:af):Prop:=(env.kindOf x=some .local/\m x=some u)∨((env.kindOf x=some .cell∨env.kindOf x=some .free)/\∃c,env.cells.lookup x=some c/\h.IsCell c (some u))
structure Cx.Ok (X:Cx):Prop where
 mod:Mod X.K X.mg X.base
 kind:X.env.scope.kind=.function
 glob:X.env.globals=du
 blt:X.env.builtins=builtinsNs
 above:X.s₀.heap.objs.size<=X.env.locals
 inj:∀x y c,X.env.cells.lookup x=some c->X.env.cells.lookup y=some c->x=y
 has:∀x,(X.env.kindOf x=some .cell∨X.env.kindOf x=some .free)->∃c,X.env.cells.lookup x=some c
 cab:∀x c,X.fn x=true->X.env.cells.lookup x=some c->X.s₀.heap.objs.size<=c
 hd:X.calm=true->X.A.handled=none
 frames:X.A.frames=some X.stack
 stk:X.stack=X.outer∨(X.stack=X.env::X.outer/\X.env.frame=some X.env.locals)
 exf:∀b∈X.ex,b≠X.env.locals/\∀x c,X.env.cells.lookup x=some c->c≠b
 bs:∀b o,X.base.get? b=some o->X.s₀.heap.get? b=some o/\X.H₀ b=none
 bsz:X.base.objs.size<=X.s₀.heap.objs.size
 noex:∀b o,X.base.get? b=some o->b∉X.ex
 exfs:∀b∈X.ex,b∉X.fs
 funs:X.s₀.heap.FunFrames X.base X.outer
 frf:∀b∈X.fs,X.H₀ b=none
structure Inv (X:Cx) (pins:List (ah×Obj)) (σ:List (Option V)) (H:Hp) (s:ag):Prop where
 ok:X.Ok
 os:s.os=X.s₀.os
 bare:rl s.gens
 base:Un X.fs X.ex X.H₀ H X.s₀.heap s.heap
 loc:∃m,s.heap.Ns X.env.locals m/\∀(i:Nat) (x:Str) (v:V),X.N[i]?=some x->σ[i]?=some (some v)->rY X.env.scope x->∃u,RelV v u/\P0 X.env s.heap m x u
 cell:∀x c,X.env.cells.lookup x=some c->∃v,s.heap.IsCell c v
 free:H X.env.locals=none
 freeC:∀x c,X.env.cells.lookup x=some c->H c=none
 pin:∀p∈X.pn++pins,s.heap.get? p.1=some p.2/\H p.1=none/\p.1≠X.env.locals/\p.1∉X.fs/\∀v,p.2.data≠.cell v
 hok:Bk X.prog X.w H s.heap
 len:σ.length=X.N.length
section
variable{X:Cx}{pins:List (ah×Obj)}{σ:List (Option V)}{H H':Hp}{s:ag}{h':da}
theorem Cx.Ok.nofr (ok:X.Ok) {b:ah}{o:Obj}(e:X.base.get? b=some o):b∉X.fs:=λhb=>by have:=(ok.funs.mem hb).1;rw[e]at this;cases this
theorem Inv.bs (I:Inv X pins σ H s):∀b o,X.base.get? b=some o->s.heap.get? b=some o/\H b=none:=λb o e=>⟨I.base.keep b o (I.ok.bs b o e).1 (I.ok.bs b o e).2 (I.ok.nofr e) (I.ok.noex b o e),I.base.free b o (I.ok.bs b o e).1 (I.ok.bs b o e).2 (I.ok.noex b o e)⟩
theorem Inv.bk (I:Inv X pins σ H s):∀b o,X.base.get? b=some o->s.heap.get? b=some o:=λb o e=>(I.bs b o e).1
theorem Inv.mod (I:Inv X pins σ H s):Mod X.K X.mg X.base:=I.ok.mod
theorem Inv.kIn (I:Inv X pins σ H s):X.K.In s.heap:=I.ok.mod.kin.keeps I.bk
theorem Inv.lt (I:Inv X pins σ H s):X.env.locals<s.heap.objs.size:=let ⟨_,hn,_⟩:=I.loc;hn.lt
theorem Inv.sz (I:Inv X pins σ H s):X.s₀.heap.objs.size<=s.heap.objs.size:=dm I.ok.above (ij I.lt)
theorem Inv.nofs (I:Inv X pins σ H s) {a:ah}(h:s.heap.objs.size<=a):a∉X.fs:=λhb=>by obtain⟨_,o,ho,_⟩:=I.ok.funs.mem hb;exact absurd (bc (av ho) (dm I.sz h)) (gv _)
theorem Inv.cne (I:Inv X pins σ H s):∀x c,X.env.cells.lookup x=some c->c≠X.env.locals:=λx c e z=>by obtain⟨v,o,ho,hd⟩:=I.cell x c e;obtain⟨m,⟨o',es,ep,ho',hd',_⟩,_⟩:=I.loc;rw[z,ho']at ho;cases ho;rw[hd']at hd;cases hd
theorem Inv.funs (I:Inv X pins σ H s):s.heap.FunFrames X.base X.outer:=by
 have all:∀(l:List Env),(∀b∈eQ l,b∈X.fs)->X.s₀.heap.FunFrames X.base l->s.heap.FunFrames X.base l:=by
  intro l
  induction l with
  |nil=>intro _ _;trivial
  |cons env r ih=>intro hs hl;obtain⟨hk,⟨L,o,hf,hn,ho,hd⟩,hr⟩:=hl;have hL:L∈X.fs:=hs L (by unfold eQ;rw[cq,hf];exact ax);obtain⟨sl,e⟩:=I.base.slot L o ho (I.ok.frf L hL) hL λz=>I.ok.exfs L z hL;exact⟨hk,⟨L,_,hf,hn,e,hd⟩,ih (λb hb=>hs b (by unfold eQ;rw[cq,hf];exact ao _ hb)) hr⟩
 exact all X.outer (λ_ hb=>hb) I.ok.funs
theorem Inv.stack (I:Inv X pins σ H s):s.heap.FunFrames X.base X.stack:=by
 rcases I.ok.stk with e|⟨e,hf⟩
 ·rw[e];exact I.funs
 ·rw[e];obtain⟨m,hn,_⟩:=I.loc;refine .cons (by rw[I.ok.kind];decide) hf hn ?_ I.funs;exact Heap.get?_none_of_le (dm I.ok.bsz I.ok.above)
theorem Inv.stkSub (I:Inv X pins σ H s):∀b∈eQ X.stack,b∈X.env.locals::X.fs:=λb hb=>by
 rcases I.ok.stk with e|⟨e,hf⟩
 ·rw[e]at hb;exact ao _ hb
 ·rw[e]at hb;unfold eQ at hb;rw[cq,hf]at hb;exact hb
theorem Inv.stkFree (I:Inv X pins σ H s):∀b∈eQ X.stack,H b=none:=λb hb=>by
 rcases aw.mp (I.stkSub b hb)with e|hb
 ·rw[e];exact I.free
 ·obtain⟨_,o,ho,_⟩:=I.ok.funs.mem hb;exact I.base.free b o ho (I.ok.frf b hb) λz=>I.ok.exfs b z hb
theorem Inv.step {g':Array GenState}{t':Nat}{d':Drawn}{ch:List ah}(I:Inv X pins σ H s)
  (Cy:∀b∈ch,(b∈X.ex∨X.s₀.heap.objs.size<=b)/\b≠X.env.locals/\(∀x c,X.env.cells.lookup x=some c->c≠b)/\∀p∈X.pn++pins,p.1≠b)
  (keep:∀b o,b≠X.env.locals->b∉X.fs->b∉ch->s.heap.get? b=some o->H b=none->h'.get? b=some o)
  (slot:∀b o,b≠X.env.locals->b∈X.fs->b∉ch->s.heap.get? b=some o->H b=none->∃sl,h'.get? b=some { o with slots:=sl }) (free:∀b o,b∉ch->s.heap.get? b=some o->H b=none->H' b=none)
  (there:∀b o,b∉ch->s.heap.get? b=some o->∃o',h'.get? b=some o')
  (tups:∀b xs,H b=some (.tup xs)->H' b=some (.tup xs)) (frzs:∀b o u,H b=some (.frz o u)->H' b=some (.frz o u)) (tbls:∀b ps,H b=some (.tbl ps)->∃more,H' b=some (.tbl (ps++more)))
  (ns:∀m,s.heap.Ns X.env.locals m->h'.Ns X.env.locals m) (hok:Bk X.prog X.w H' h') (hg:rl g'):
  Inv X pins σ H' { s with heap:=h',gens:=g',drawn:=d',toks:=t' }:=by
 have neL:∀b o,X.s₀.heap.get? b=some o->b≠X.env.locals:=λb o e=>bf (bc (av e) I.ok.above);have neC:∀b o,X.s₀.heap.get? b=some o->b∉X.ex->b∉ch:=λb o e hx hb=>by
  rcases(Cy b hb).1 with z|z
  ·exact hx z
  ·exact absurd (bc (av e) z) (gv _)
 have cellK:∀x c,X.env.cells.lookup x=some c->∀v,s.heap.IsCell c v->h'.IsCell c v:=λx c e v ⟨o,ho,hd⟩=>by
  have nch:c∉ch:=λz=>(Cy c z).2.2.1 x c e rfl
  by_cases hc:c∈X.fs
  ·obtain⟨sl,q⟩:=slot c o (I.cne x c e) hc nch ho (I.freeC x c e);exact⟨_,q,hd⟩
  ·exact⟨o,keep c o (I.cne x c e) hc nch ho (I.freeC x c e),hd⟩
 refine⟨I.ok,I.os,hg,⟨λb o e n hb hx=>?_,λb o e n hb hx=>?_,λb o e n hx=>?_,λb o e hx=>?_,λb xs e=>tups b xs (I.base.tups b xs e),λb o xs e=>frzs b o xs (I.base.frzs b o xs e),λb ps e=>?_⟩, ?_,λx c e=>?_, ?_,λx c e=>?_,λp hp=>?_,hok,I.len⟩
 ·exact keep b o (neL b o e) hb (neC b o e hx) (I.base.keep b o e n hb hx) (I.base.free b o e n hx)
 ·obtain⟨sl,e1⟩:=I.base.slot b o e n hb hx;obtain⟨sl',e2⟩:=slot b _ (neL b o e) hb (neC b o e hx) e1 (I.base.free b o e n hx);exact⟨sl',e2⟩
 ·obtain⟨o',e1⟩:=I.base.there b o e hx;exact free b o' (neC b o e hx) e1 (I.base.free b o e n hx)
 ·obtain⟨o',e1⟩:=I.base.there b o e hx;exact there b o' (neC b o e hx) e1
 ·obtain⟨m1,e1⟩:=I.base.tbls b ps e;obtain⟨m2,e2⟩:=tbls b _ e1;exact⟨m1++m2,by rw[e2,Array.append_assoc]⟩
 ·obtain⟨m,hn,hl⟩:=I.loc;refine⟨m,ns m hn,λi x v e1 e2 e3=>?_⟩;obtain⟨u,r,l⟩:=hl i x v e1 e2 e3;refine⟨u,r, ?_⟩
  rcases l with l|⟨k,c,e,z⟩
  ·exact .inl l
  ·exact .inr ⟨k,c,e,cellK x c e _ z⟩
 ·obtain⟨v,z⟩:=I.cell x c e;exact⟨v,cellK x c e v z⟩
 ·obtain⟨m,⟨o,_,_,ho,_⟩,_⟩:=I.loc;exact free _ o (λz=>(Cy _ z).2.1 rfl) ho I.free
 ·obtain⟨v,o,ho,hd⟩:=I.cell x c e;exact free c o (λz=>(Cy c z).2.2.1 x c e rfl) ho (I.freeC x c e)
 ·obtain⟨e,n,ne,nf,d⟩:=I.pin p hp;have nch:p.1∉ch:=λz=>(Cy p.1 z).2.2.2 p hp rfl;exact⟨keep p.1 p.2 ne nf nch e n,free p.1 p.2 nch e n,ne,nf,d⟩
theorem Inv.un {t':Nat}(I:Inv X pins σ H s) (u:Un X.fs [] H H' s.heap h') (hok:Bk X.prog X.w H' h'):Inv X pins σ H' { s with heap:=h',toks:=t' }:=by obtain⟨m,⟨o,es,ep,ho,r⟩,_⟩:=id I.loc;obtain⟨sl,hL⟩:=u.any ho I.free (by simp);exact I.step (g':=s.gens) (d':=s.drawn) (ch:=[]) (λ_ z=>nomatch z) (λb o _ hb _ e n=>u.keep b o e n hb (by simp)) (λb o _ hb _ e n=>u.slot b o e n hb (by simp)) (λb o _ e n=>u.free b o e n (by simp)) (λb o _ e=>u.there b o e (by simp)) u.tups u.frzs u.tbls (λm' hm=>by obtain⟨o',es',ep',ho',r'⟩:=hm;rw[ho]at ho';cases ho';exact⟨_,es',ep',hL,r'⟩) hok I.bare
theorem Inv.call {g':Array GenState}{t':Nat}{d':Drawn}{ch:List ah}(I:Inv X pins σ H s) (u:Un (eQ X.stack) ch H H' s.heap h') (hok:Bk X.prog X.w H' h') (hg:rl g')
  (Cy:∀b∈ch,(b∈X.ex∨X.s₀.heap.objs.size<=b)/\b≠X.env.locals/\(∀x c,X.env.cells.lookup x=some c->c≠b)/\∀p∈X.pn++pins,p.1≠b):
  Inv X pins σ H' { s with heap:=h',gens:=g',drawn:=d',toks:=t' }:=by
 obtain⟨m,⟨o,es,ep,ho,r⟩,_⟩:=id I.loc;obtain⟨sl,hL⟩:=u.any ho I.free λz=>(Cy _ z).2.1 rfl;exact I.step (ch:=ch) Cy (λb o hL hb hc e n=>u.keep b o e n (λz=>(aw.mp (I.stkSub b z)).elim hL hb) hc) (λb o _ _ hc e n=>u.any e n hc) (λb o hc e n=>u.free b o e n hc) (λb o hc e=>u.there b o e hc) u.tups u.frzs u.tbls (λm' hm=>by obtain⟨o',es',ep',ho',r'⟩:=hm;rw[ho]at ho';cases ho';exact⟨_,es',ep',hL,r'⟩) hok hg
theorem Inv.turned {t':Nat}{it:ah}(I:Inv X pins σ H s) (k:∀b o,b≠it->s.heap.get? b=some o->h'.get? b=some o) (hn:H it=none) (hL:it≠X.env.locals)
  (h1:it∈X.ex∨X.s₀.heap.objs.size<=it) (h2:∀x c,X.env.cells.lookup x=some c->c≠it) (h3:∀p∈X.pn++pins,p.1≠it):Inv X pins σ H { s with heap:=h',toks:=t' }:=by
 have nit:∀b u,H b=some u->b≠it:=λb u e z=>by rw[z,hn]at e;cases e
 refine I.step (g':=s.gens) (d':=s.drawn) (ch:=[it]) (λb hb=>?_) (λb o _ _ hc e _=>k b o (λz=>hc (by simp[z])) e) (λb o _ _ hc e _=>⟨o.slots,k b o (λz=>hc (by simp[z])) e⟩) (λ_ _ _ _ n=>n)
  (λb o hc e=>⟨o,k b o (λz=>hc (by simp[z])) e⟩) (λ_ _ e=>e) (λ_ _ _ e=>e) (λb ps e=>⟨#[],by rw[e];simp⟩) (λm hm=>?_) (λb u e=>?_) I.bare
 ·have e:b=it:=by simpa using hb
  subst e;exact⟨h1,hL,h2,h3⟩
 ·obtain⟨o,es,ep,ho,r⟩:=hm;exact⟨o,es,ep,k _ o (dh hL) ho,r⟩
 ·refine(I.hok b u e).stay (λc v hc q=>k c v ?_ q) (λ_ q=>q) λ_ _ q=>q
  rcases hc with z|z
  ·rw[z];exact nit b u e
  ·exact nit c _ z
theorem Inv.tok (I:Inv X pins σ H s) (t:Nat):Inv X pins σ H { s with toks:=t }:=I.un (h':=s.heap) (t':=t) Un.refl I.hok
theorem Inv.kept {t':Nat}(I:Inv X pins σ H s) (k:∀b u,s.heap.get? b=some u->h'.get? b=some u):Inv X pins σ H { s with heap:=h',toks:=t' }:=I.un (Un.kept k) (I.hok.kept k)
theorem Inv.laid {a:ah}{o:HO}{t':Nat}(I:Inv X pins σ H s) (k:∀b u,s.heap.get? b=some u->h'.get? b=some u) (hp:s.heap.objs.size<=a) (new:Ai X.prog X.w (aZ H a o) h' a o):
  Inv X pins σ (aZ H a o) { s with heap:=h',toks:=t' }:=I.un (Un.laid k hp (I.hok.fresh hp)) (I.hok.laid k hp new)
theorem Inv.write {x e:ah}{o:HO}{t':Nat}(I:Inv X pins σ H s) (mu:vB (H x)) (he:e=x∨H e=some (.own x)) (k:∀b u,b≠e->s.heap.get? b=some u->h'.get? b=some u) (heo:∃u,h'.get? e=some u)
  (new:Ai X.prog X.w (aZ H x o) h' x o):Inv X pins σ (aZ H x o) { s with heap:=h',toks:=t' }:=I.un (Un.write mu he k heo) (I.hok.write mu he k heo new)
theorem Inv.pins_of {pins':List (ah×Obj)}(I:Inv X pins σ H s) (h:∀p∈pins',s.heap.get? p.1=some p.2/\H p.1=none/\p.1≠X.env.locals/\p.1∉X.fs/\∀v,p.2.data≠.cell v):Inv X pins' σ H s:=⟨I.ok,I.os,I.bare,I.base,I.loc,I.cell,I.free,I.freeC,λp hp=>(cm.mp hp).elim (λz=>I.pin p (fi _ z)) (h p),I.hok,I.len⟩
theorem FJ {N:zr}(hN:N.Nodup) {i j:Nat}{x:Str}(a:N[i]?=some x) (b:N[j]?=some x):i=j:=by obtain⟨h1,e1⟩:=bg.mp a;obtain⟨h2,e2⟩:=bg.mp b;exact(List.getElem_inj hN).mp (e1.trans e2.symm)
theorem FK {M:wm}{A:cn}{E:af->ag->Prop}{i:Nat}{x:Str}{v:V}{u:af}{Q:Unit->ag->Prop}(I:Inv X pins σ H s) (hN:X.N.Nodup) (hi:X.N[i]?=some x) (hx:nJ X.env.scope x) (r:RelV v u)
  (h:∀s',Inv X pins (σ.set i (some v)) H s'->(∃a,jc a s.heap s'.heap/\(a=X.env.locals∨X.env.cells.lookup x=some a))->Q () s') (hf:X.fn x=true∨X.env.scope.names.lookup x=some .local:=by first|exact .inl rfl|exact .inr rfl|assumption):wpAny M A (storeName X.env x u) Q E s:=by
 obtain⟨m,hn,hl⟩:=id I.loc;have hcls:(X.env.scope.kind==.class||(X.env.scope.kind==.module&&X.env.locals != X.env.globals))=false:=by rw[I.ok.kind];rfl
 have hiσ:i<σ.length:=by rw[I.len];exact(bg.mp hi).1
 have cne:=I.cne;have tracked:∀{a:ah}{h':da},(∃o,s.heap.get? a=some o/\H a=none)->jc a s.heap h'->Bk X.prog X.w H h':=λ{a h'} ha hs b ob e=>by
  obtain⟨_,_,hfree⟩:=ha;refine(I.hok b ob e).stay (λc w' hc q=>(hs.2 c ?_).trans q) (λ_ q=>q) λ_ _ q=>q
  rintro rfl
  rcases hc with rfl|hc
  ·rw[hfree]at e;cases e
  ·rw[hfree]at hc;cases hc
 rcases hx with hk|hk
 ·refine wpAny_storeName_local hk hn (λh' hn' hs=>?_) hcls;obtain⟨oL,_,_,hoL,_⟩:=id hn;refine h _ ⟨I.ok,I.os,I.bare,⟨λb o e n hb hx=>?_,λb o e n hb hx=>?_,I.base.free,λb o e hx=>?_,I.base.tups,I.base.frzs,I.base.tbls⟩,⟨_,hn',λj y v' e1 e2 e3=>?_⟩,λy c e=>?_,I.free,I.freeC,λp hp=>?_,tracked ⟨oL,hoL,I.free⟩ hs,by simpa using I.len⟩ ⟨_,hs,.inl rfl⟩
  ·exact(hs.2 b (bf (bc (av e) I.ok.above))).trans (I.base.keep b o e n hb hx)
  ·obtain⟨sl,e1⟩:=I.base.slot b o e n hb hx;exact⟨sl,(hs.2 b (bf (bc (av e) I.ok.above))).trans e1⟩
  ·obtain⟨o',e1⟩:=I.base.there b o e hx;exact⟨o',(hs.2 b (bf (bc (av e) I.ok.above))).trans e1⟩
  ·by_cases hj:j=i
   ·subst hj;rw[hi]at e1;cases e1;rw[ie hiσ]at e2;cases e2;exact⟨u,r,.inl ⟨hk,by simp⟩⟩
   ·rw[ib (dh hj)]at e2;obtain⟨u',r',q⟩:=hl j y v' e1 e2 e3;refine⟨u',r', ?_⟩
    rcases q with⟨k,e⟩|⟨k,c,e,z⟩
    ·refine .inl ⟨k, ?_⟩;have:y≠x:=λe=>hj (FJ hN e1 (e▸hi));simp[this,e]
    ·exact .inr ⟨k,c,e,z.sameBut hs (cne y c e)⟩
  ·obtain⟨w',z⟩:=I.cell y c e;exact⟨w',z.sameBut hs (cne y c e)⟩
  ·obtain⟨e,n,ne,nf,d⟩:=I.pin p hp;exact⟨(hs.2 p.1 ne).trans e,n,ne,nf,d⟩
 ·have hfn:X.fn x=true:=by
   rcases hf with z|z
   ·exact z
   ·rw[z]at hk;cases hk
  obtain⟨c,hc⟩:=I.ok.has x (.inl hk);obtain⟨w',z⟩:=I.cell x c hc;refine wpAny_storeName_cell I.ok.kind hk hc z (λh' hc' hs=>?_);obtain⟨oc,hoc,hocd⟩:=id z;refine h { s with heap:=h' } ⟨I.ok,I.os,I.bare,⟨λb o e n hb hx=>?_,λb o e n hb hx=>?_,I.base.free,λb o e hx=>?_,I.base.tups,I.base.frzs,I.base.tbls⟩,⟨m,hn.sameBut hs (dh (cne x c hc)),λj y v' e1 e2 e3=>?_⟩,λy c' e=>?_,I.free,I.freeC,λp hp=>?_,tracked ⟨oc,hoc,I.freeC x c hc⟩ hs,by simpa using I.len⟩ ⟨c,hs,.inr hc⟩
  ·exact(hs.2 b (bf (bc (av e) (I.ok.cab x c hfn hc)))).trans (I.base.keep b o e n hb hx)
  ·obtain⟨sl,e1⟩:=I.base.slot b o e n hb hx;exact⟨sl,(hs.2 b (bf (bc (av e) (I.ok.cab x c hfn hc)))).trans e1⟩
  ·obtain⟨o',e1⟩:=I.base.there b o e hx;exact⟨o',(hs.2 b (bf (bc (av e) (I.ok.cab x c hfn hc)))).trans e1⟩
  ·by_cases hj:j=i
   ·subst hj;rw[hi]at e1;cases e1;rw[ie hiσ]at e2;cases e2;exact⟨u,r,.inr ⟨.inl hk,c,hc,hc'⟩⟩
   ·rw[ib (dh hj)]at e2;obtain⟨u',r',q⟩:=hl j y v' e1 e2 e3;refine⟨u',r', ?_⟩
    rcases q with q|⟨k,c',e,z'⟩
    ·exact .inl q
    ·refine .inr ⟨k,c',e,z'.sameBut hs ?_⟩
     rintro rfl
     exact hj (FJ hN e1 (I.ok.inj _ _ _ e hc▸hi))
  ·by_cases hcc:c'=c
   ·subst hcc;exact⟨_,hc'⟩
   ·obtain⟨w2,z2⟩:=I.cell y c' e;exact⟨w2,z2.sameBut hs hcc⟩
  ·obtain⟨e,n,ne,nf,d⟩:=I.pin p hp;refine⟨(hs.2 p.1 ?_).trans e,n,ne,nf,d⟩;intro q;rw[q,hoc]at e;have q':oc=p.2:=cx e;exact d w' (by rw[<-q'];exact hocd)
theorem vD {M:wm}{A:cn}{E:af->ag->Prop}{i:Nat}{x:Str}{v:V}{u:af}{Q:Unit->ag->Prop}(I:Inv X pins σ H s) (hN:X.N.Nodup) (hi:X.N[i]?=some x) (hx:nJ X.env.scope x) (r:RelV v u)
  (h:∀s',Inv X pins (σ.set i (some v)) H s'->Q () s') (hf:X.fn x=true∨X.env.scope.names.lookup x=some .local:=by first|exact .inl rfl|exact .inr rfl|assumption):wpAny M A (storeName X.env x u) Q E s:=
 FK I hN hi hx r (λs' I' _=>h s' I') hf
theorem Inv.call' {s':ag}{ch:List ah}(I:Inv X pins σ H s) (ho:s'.os=s.os) (u:Un (eQ X.stack) ch H H' s.heap s'.heap) (hok:Bk X.prog X.w H' s'.heap) (hg:rl s'.gens)
  (Cy:∀b∈ch,(b∈X.ex∨X.s₀.heap.objs.size<=b)/\b≠X.env.locals/\(∀x c,X.env.cells.lookup x=some c->c≠b)/\∀p∈X.pn++pins,p.1≠b):Inv X pins σ H' s':=by
 obtain⟨h',g',d',t',o'⟩:=s';have e:o'=s.os:=ho;subst e;exact I.call (g':=g') (t':=t') (d':=d') u hok hg Cy
end
abbrev XK:=af->Option ah->Hp->Prop
abbrev St:=List (Option V)
abbrev VK:=V->Hp->Prop
abbrev TE:=St->Hp->VK->Prop
abbrev TT:=St->Hp->(Bool->Hp->Prop)->Prop
abbrev TA:=St->Hp->(List V->Hp->Prop)->Prop
structure Ends where
 nx:St->Hp->Prop
 rt:VK
 bk:St->Hp->Prop:=λ_ _=>False
 ct:St->Hp->Prop:=λ_ _=>False
abbrev TS:=Ends->St->Hp->Prop
def EP (X:Cx) (pins:List (ah×Obj)) (σ:St) (Q:VK) (u:af) (s':ag):Prop:=∃v H',Inv X pins σ H' s'/\RelV v u/\Q v H'
def TP (X:Cx) (pins:List (ah×Obj)) (σ:St) (Q:Bool->Hp->Prop) (b:Bool) (s':ag):Prop:=∃H',Inv X pins σ H' s'/\Q b H'
def AP (X:Cx) (pins:List (ah×Obj)) (σ:St) (Q:List V->Hp->Prop) (us:List af) (s':ag):Prop:=∃vs H',Inv X pins σ H' s'/\Ae vs us/\Q vs H'
def SP (X:Cx) (pins:List (ah×Obj)) (D:Ends) (f:Flow) (s':ag):Prop:=
 match f with
 | .next=>∃σ' H',Inv X pins σ' H' s'/\D.nx σ' H'
 | .brk=>∃σ' H',Inv X pins σ' H' s'/\D.bk σ' H'
 | .cont=>∃σ' H',Inv X pins σ' H' s'/\D.ct σ' H'
 | .ret u=>∃v σ' H',Inv X pins σ' H' s'/\RelV v u/\D.rt v H'
def PE (X:Cx) (e:bq) (t:TE):Prop:=∀(pins:List (ah×Obj)) (s:ag) (σ:St) (H:Hp) (Q:VK),Inv X pins σ H s->t σ H Q->wpAny (model X.prog X.w) X.A (eval e X.env) (EP X pins σ Q) X.xe s
def PT (X:Cx) (e:bq) (t:TT):Prop:=∀(pins:List (ah×Obj)) (s:ag) (σ:St) (H:Hp) (Q:Bool->Hp->Prop),Inv X pins σ H s->t σ H Q->wpAny (model X.prog X.w) X.A (isTrue e X.env (eval e X.env)) (TP X pins σ Q) X.xe s
def PW (X:Cx) (e:bq) (t:TT):Prop:=∀(whole:Sem af) (pins:List (ah×Obj)) (s:ag) (σ:St) (H:Hp) (Q:Bool->Hp->Prop),Inv X pins σ H s->t σ H Q->wpAny (model X.prog X.w) X.A (isTrue e X.env whole) (TP X pins σ Q) X.xe s
theorem PW.pt {X:Cx}{e:bq}{t:TT}(h:PW X e t):PT X e t:=h _
def PA (X:Cx) (es:List bq) (t:TA):Prop:=∀(pos:Pos) (pins:List (ah×Obj)) (s:ag) (σ:St) (H:Hp) (Q:List V->Hp->Prop),Inv X pins σ H s->t σ H Q->wpAny (model X.prog X.w) X.A (spliced (backTo pos (ar es X.env))) (AP X pins σ Q) X.xe s
def PS (X:Cx) (st:gf) (t:TS):Prop:=∀(pins:List (ah×Obj)) (s:ag) (σ:St) (H:Hp) (D:Ends),Inv X pins σ H s->t D σ H->wpAny (model X.prog X.w) X.A (exec st X.env) (SP X pins D) X.xe s
def Di (X:Cx) (st:List gf) (t:TS):Prop:=∀(pins:List (ah×Obj)) (s:ag) (σ:St) (H:Hp) (D:Ends),Inv X pins σ H s->t D σ H->wpAny (model X.prog X.w) X.A (execs st X.env) (SP X pins D) X.xe s
theorem bD {α:Type}{t:Sem α}{Q Q':α->ag->Prop}{M:wm}{A:cn}{E:af->ag->Prop}{s:ag}(h:wpAny M A t Q E s) (hQ:∀a s,Q a s->Q' a s):wpAny M A t Q' E s:=qt h hQ λ_ _ x=>x
section
variable{X:Cx}
def P4 (i:Nat):TE:=λσ H Q=>∃v,σ[i]?=some (some v)/\Q v H
def tC (v:V):TE:=λ_ H Q=>Q v H
theorem P5 {i:Nat}{x:Str}{pos:Pos}(hN:X.N[i]?=some x) (hv:rY X.env.scope x) (hd:(x==("__debug__" : Str))=false:=by decide) (hcd:(x==("__classdict__" : Str))=false:=by decide):PE X (.Name x pos) (P4 i):=by
 intro pins s σ H Q I h;obtain⟨v,e,h⟩:=h;obtain⟨m,hn,hl⟩:=I.loc;obtain⟨u,r,l⟩:=hl i x v hN e hv;have fin:EP X pins σ Q u s:=⟨v,H,I,r,h⟩
 rcases l with⟨hk,hm⟩|⟨hk,c,hc,hcell⟩
 ·exact wpAny_Name (wpAny_loadName_local I.ok.kind hk hn hm fin) hd
 ·rcases hk with hk|hk
  ·exact wpAny_Name (wpAny_loadName_cell I.ok.kind hk hc hcell fin) hd
  ·exact wpAny_Name (wpAny_loadName_free I.ok.kind hk hc hcell fin hcd) hd
theorem FL {i j pos}:PE X (.Constant (.int i) j pos) (tC (.int i)):=λ_ _ _ H _ I h=>wpAny_Constant_int ⟨.int i,H,I.tok _,⟨_,rfl⟩,h⟩
theorem P6 {b j pos}:PE X (.Constant (.bool b) j pos) (tC (.bl b)):=λ_ _ _ H _ I h=>Constant_bool ⟨.bl b,H,I,rfl,h⟩
theorem P7 {j pos}:PE X (.Constant .none j pos) (tC .non):=λ_ _ _ H _ I h=>Constant_none ⟨.non,H,I,rfl,h⟩
theorem P8 {x j pos}:PE X (.Constant (.str x) j pos) (tC (.str x)):=λ_ _ _ H _ I h=>Calls.Constant_str ⟨.str x,H,I.tok _,⟨_,rfl⟩,h⟩
def Gl (X:Cx) (x:Str):Prop:=X.env.kindOf x=some .globalImplicit
theorem zN {E:af->ag->Prop}{pins:List (ah×Obj)}{s:ag}{σ:St}{H:Hp}{x:Str}{u:af}{pos:Pos}{Q:af->ag->Prop}(I:Inv X pins σ H s) (hg:Gl X x) (hm:X.mg x=some u) (h:Q u s)
  (hd:(x==("__debug__" : Str))=false:=by decide):wpAny (model X.prog X.w) X.A (eval (.Name x pos) X.env) Q E s:=
 wq I.ok.kind hg (Calls.loadGlobal_global (by rw[I.ok.glob];exact I.mod.glob.keeps I.bk) hm h) hd
theorem oJ {E:af->ag->Prop}{pins:List (ah×Obj)}{s:ag}{σ:St}{H:Hp}{x:Str}{u:af}{pos:Pos}{Q:af->ag->Prop}(I:Inv X pins σ H s) (hg:Gl X x) (hm:X.mg x=none) (hv:dj x=some u) (h:Q u s)
  (hn:x ≠ "__name__" := by decide) (hd:(x==("__debug__" : Str))=false:=by decide):wpAny (model X.prog X.w) X.A (eval (.Name x pos) X.env) Q E s:=by
 obtain⟨mb,h1,h2⟩:=I.mod.blt;exact wq I.ok.kind hg (Calls.loadGlobal_builtin (by rw[I.ok.glob];exact I.mod.glob.keeps I.bk) hm (by rw[I.ok.blt];exact h1.keeps I.bk) ((h2 x hn).trans hv) h) hd
theorem P9 {x:Str}{v:V}{u:af}{pos:Pos}(hg:Gl X x) (hm:X.mg x=some u) (r:RelV v u) (hd:(x==("__debug__" : Str))=false:=by decide):PE X (.Name x pos) (tC v):=λ_ _ _ H _ I h=>zN I hg hm ⟨v,H,I,r,h⟩ hd
variable{a b:bq}{ta tb:TE}{pos:Pos}
def tB (t:TE):TT:=λσ H Q=>t σ H λx H1=>∃c,x=.bl c/\Q c H1
variable{tA tB':TT}{rest:List bq}
def FN (t u:TT):TT:=λσ H Q=>t σ H λc H1=>if c=true then u σ H1 Q else Q false H1
def FO (t u:TT):TT:=λσ H Q=>t σ H λc H1=>if c=true then Q true H1 else u σ H1 Q
def QA (t:TT):TT:=λσ H Q=>t σ H λc H1=>Q (!c) H1
theorem QB (ha:PT X a tA):PW X (.BoolOp .And [a] pos) tA:=by
 intro wh pins s σ H Q I h;refine isTrue_and (bD (ha pins s σ H Q I h) λc s1 e=>?_)
 cases c with
 |true=>exact isTrue_and_nil e
 |false=>exact e
theorem QC (ha:PT X a tA):PW X (.BoolOp .Or [a] pos) tA:=by
 intro wh pins s σ H Q I h;refine isTrue_or (bD (ha pins s σ H Q I h) λc s1 e=>?_)
 cases c with
 |false=>exact isTrue_or_nil e
 |true=>exact e
theorem QD (ha:PT X a tA) (hb:PW X (.BoolOp .And (b::rest) pos) tB'):PW X (.BoolOp .And (a::b::rest) pos) (FN tA tB'):=by
 intro wh pins s σ H Q I h;refine isTrue_and (bD (ha pins s σ H _ I h) λc s1 ⟨H1,I1,q1⟩=>?_)
 cases c with
 |true=>exact hb wh pins s1 σ H1 Q I1 q1
 |false=>exact⟨H1,I1,q1⟩
theorem QE (ha:PT X a tA) (hb:PW X (.BoolOp .Or (b::rest) pos) tB'):PW X (.BoolOp .Or (a::b::rest) pos) (FO tA tB'):=by
 intro wh pins s σ H Q I h;refine isTrue_or (bD (ha pins s σ H _ I h) λc s1 ⟨H1,I1,q1⟩=>?_)
 cases c with
 |true=>exact⟨H1,I1,q1⟩
 |false=>exact hb wh pins s1 σ H1 Q I1 q1
theorem QF (ha:PT X a tA):PT X (.UnaryOp .Not a pos) (QA tA):=by intro pins s σ H Q I h;exact isTrue_not (ha pins s σ H (λc H1=>Q (!c) H1) I h)
def QG (ta tb:TE):TE:=λσ H Q=>ta σ H λx H1=>∃c,x=.bl c/\if c=true then tb σ H1 Q else Q (.bl false) H1
def QH (ta:TE):TE:=λσ H Q=>ta σ H λx H1=>∃c,x=.bl c/\Q (.bl (!c)) H1
theorem QI {op} {t:TE}(h:PE X a t):PE X (.BoolOp op [a] pos) t:=λpins s σ H Q I hw=>BoolOp_one (h pins s σ H Q I hw)
theorem QJ (ha:PE X a ta) (hb:PE X (.BoolOp .And (b::rest) pos) tb):PE X (.BoolOp .And (a::b::rest) pos) (QG ta tb):=by
 intro pins s σ H Q I h;refine BoolOp_and (bD (ha pins s σ H _ I h) λv s1 ⟨x,H1,I1,r1,q1⟩=>?_);obtain⟨c,rfl,q1⟩:=q1;cases r1;refine jq ?_
 cases c with
 |true=>exact hb pins s1 σ H1 Q I1 q1
 |false=>exact⟨.bl false,H1,I1,rfl,q1⟩
theorem QK (ha:PE X a ta):PE X (.UnaryOp .Not a pos) (QH ta):=by intro pins s σ H Q I h;refine UnaryOp_ (bD (ha pins s σ H _ I h) λv s1 ⟨x,H1,I1,r1,q1⟩=>?_);obtain⟨c,rfl,q1⟩:=q1;cases r1;exact not_of (jq ⟨.bl (!c),H1,I1,rfl,q1⟩)
end
def Bd (K:aq) (H:Hp) (a:ah) (xs:List V):Prop:=
 Rd H a (.lst xs) ∨
  ∃(o:Obj) (its:Array af) (n:Nat),K.lookup a=some o/\o.cls=.type "list"/\o.dict=none/\o.data=.seq its n/\its.size<=cf/\Ae xs its.toList
def Aq (K:aq) (H:Hp) (a:ah) (xs:List V):Prop:=
 Rd H a (.tup xs) ∨
  ∃(o:Obj) (its:Array af) (n:Nat),K.lookup a=some o/\o.cls=.type "tuple"/\o.data=.seq its n/\its.size<=cf/\Ae xs its.toList
def QL:af->Option V
 | .none=>some .non
 | .bool b=>some (.bl b)
 | .int i _=>some (.int i)
 | .str x _=>some (.str x)
 | .bytes b _=>some (.byt b)
 | .float b _=>some (.flt b)
 | .ref a=>some (.ref a)
 | .type n=>some (.ty n)
 |_=>none
theorem RelV.abs {x:V}{u:af}(r:RelV x u):QL u=some x:=by
 cases x with
 |non=>cases r;rfl
 |bl _=>cases r;rfl
 |int _=>obtain⟨t,rfl⟩:=r;rfl
 |str _=>obtain⟨t,rfl⟩:=r;rfl
 |byt _=>obtain⟨t,rfl⟩:=r;rfl
 |flt _=>obtain⟨t,rfl⟩:=r;rfl
 |ref _=>cases r;rfl
 |ty _=>cases r;rfl
theorem RelV.inj {x y:V}{u:af}(r:RelV x u) (q:RelV y u):x=y:=cx (r.abs.symm.trans q.abs)
theorem Ae.inj:∀{xs ys:List V}{us:List af},Ae xs us->Ae ys us->xs=ys
 |_,_,_,.nil,.nil=>rfl
 |_,_,_,.cons r t,.cons r' t'=>by rw[r.inj r',Ae.inj t t']
section
variable{X:Cx}{pins:List (ah×Obj)}{σ:St}{H:Hp}{s:ag}{a:ah}{xs ys:List V}
theorem Bd.of {K:aq}(h:H a=some (.lst xs)):Bd K H a xs:=.inl (.inl h)
theorem Aq.of {K:aq}(h:H a=some (.tup xs)):Aq K H a xs:=.inl (.inl h)
theorem Inv.list (I:Inv X pins σ H s) (h:Bd X.K H a xs):∃its:List af,Ae xs its/\PlainL s.heap a its.toArray/\xs.length<=cf:=by
 rcases h with h|⟨o,its,n,hk,hc,hd,hs,hz,r⟩
 ·obtain⟨z,its,n,r,e⟩:=h.ok I.hok;exact⟨its,r,⟨_,n,e,rfl,rfl,rfl⟩,z⟩
 ·refine⟨its.toList,r,⟨o,n,I.kIn a o hk,hc,hd,by simpa using hs⟩, ?_⟩;have e:=r.length;simp only[lb]at e;omega
theorem Inv.tuple (I:Inv X pins σ H s) (h:Aq X.K H a xs):∃its:List af,Ae xs its/\yj s.heap a its.toArray/\xs.length<=cf:=by
 rcases h with h|⟨o,its,n,hk,hc,hs,hz,r⟩
 ·obtain⟨z,its,r,p⟩:=h.ok I.hok;exact⟨its,r,p.tup,z⟩
 ·refine⟨its.toList,r,⟨o,I.kIn a o hk,hc,n,by simpa using hs⟩, ?_⟩;have e:=r.length;simp only[lb]at e;omega
theorem Inv.list_inj (I:Inv X pins σ H s) (h:Bd X.K H a xs) (h':Bd X.K H a ys):xs=ys:=by
 obtain⟨its,r,⟨o,n,e,_,_,d⟩,_⟩:=I.list h;obtain⟨its',r',⟨o',n',e',_,_,d'⟩,_⟩:=I.list h';rw[e]at e';cases e';rw[d]at d';injection d' with d1 _;have:its=its':=by simpa using congrArg Array.toList d1
 subst this;exact r.inj r'
theorem Inv.tuple_inj (I:Inv X pins σ H s) (h:Aq X.K H a xs) (h':Aq X.K H a ys):xs=ys:=by
 obtain⟨its,r,⟨o,e,_,n,d⟩,_⟩:=I.tuple h;obtain⟨its',r',⟨o',e',_,n',d'⟩,_⟩:=I.tuple h';rw[e]at e';cases e';rw[d]at d';injection d' with d1 _;have:its=its':=by simpa using congrArg Array.toList d1
 subst this;exact r.inj r'
end
section
variable{X:Cx}{pins:List (ah×Obj)}{σ:St}{H:Hp}{s:ag}{E:af->ag->Prop}
end
section
variable{X:Cx}{st:gf}{rest:List gf}{t u:TS}{e:bq}{te:TE}{pos:Pos}
def QM:TS:=λD σ H=>D.nx σ H
def QN (t u:TS):TS:=λD σ H=>t { D with nx:=u D } σ H
theorem QO:Di X [] QM:=λ_ _ σ H _ I h=>tw ⟨σ,H,I,h⟩
theorem QP (h1:PS X st t) (h2:Di X rest u):Di X (st::rest) (QN t u):=by
 intro pins s σ H D I h;refine wpAny_execs_cons (bD (h1 pins s σ H { D with nx:=u D } I h) λf s1 q=>?_)
 cases f with
 |next=>obtain⟨σ',H',I',q⟩:=q;exact h2 pins s1 σ' H' D I' q
 |ret v=>exact q
 |brk=>exact q
 |cont=>exact q
theorem QQ (h1:PS X st t):Di X [st] t:=by
 intro pins s σ H D I h;refine wpAny_execs_cons (bD (h1 pins s σ H D I h) λf s1 q=>?_)
 cases f with
 |next=>exact tw q
 |ret v=>exact q
 |brk=>exact q
 |cont=>exact q
theorem Inv.quiet {pins:List (ah×Obj)}{σ:St}{H:Hp}{s:ag}(I:Inv X pins σ H s):interactive X.env=false:=by simp[interactive,I.ok.kind]
def QR (te:TE):TS:=λD σ H=>te σ H λ_ H1=>D.nx σ H1
theorem QS (he:PE X e te) (hs:swapsWith e none pos.line X.env=pure false:=by rfl):PS X (.Expr e pos) (QR te):=by intro pins s σ H D I h;exact wpAny_Expr_any (bD (he pins s σ H _ I h) λv s1 ⟨x,H1,I1,r1,q1⟩=>⟨σ,H1,I1,q1⟩) I.quiet hs
def QT (te:TE):TS:=λD σ H=>te σ H D.rt
theorem QU (he:PE X e te):PS X (.Return (some e) pos) (QT te):=by intro pins s σ H D I h;exact wpAny_Return_some (bD (he pins s σ H _ I h) λv s1 ⟨x,H1,I1,r1,q1⟩=>⟨x,σ,H1,I1,r1,q1⟩)
def QV (c:TT) (t u:TS):TS:=λD σ H=>c σ H λb H1=>if b=true then t D σ H1 else u D σ H1
theorem QW {c:bq}{a b:List gf}{tc:TT}(hc:PT X c tc) (ha:Di X a t) (hb:Di X b u):PS X (.If c a b pos) (QV tc t u):=by
 intro pins s σ H D I h;refine wpAny_If (bD (hc pins s σ H _ I h) λd s1 ⟨H1,I1,q1⟩=>?_)
 cases d with
 |true=>exact ha pins s1 σ H1 D I1 q1
 |false=>exact hb pins s1 σ H1 D I1 q1
end
abbrev TG:=V->St->Hp->(St->Hp->Prop)->Prop
abbrev mE:=List V->St->Hp->(St->Hp->Prop)->Prop
def PG (X:Cx) (target:bq) (t:TG):Prop:=
 ∀(pins:List (ah×Obj)) (s:ag) (σ:St) (H:Hp) (v:V) (u:af) (Q:St->Hp->Prop),Inv X pins σ H s->RelV v u->t v σ H Q->
  wpAny (model X.prog X.w) X.A (assign target X.env u) (λ_ s'=>∃σ' H',Inv X pins σ' H' s'/\Q σ' H') X.xe s
def PGs (X:Cx) (ts:List bq) (t:mE):Prop:=
 ∀(pins:List (ah×Obj)) (s:ag) (σ:St) (H:Hp) (vs:List V) (us:List af) (Q:St->Hp->Prop),Inv X pins σ H s->Ae vs us->t vs σ H Q->
  wpAny (model X.prog X.w) X.A (assignInOrder ((assignEach ts X.env).map (·.2)) us) (λ_ s'=>∃σ' H',Inv X pins σ' H' s'/\Q σ' H') X.xe s
abbrev zO:=V->V->V->Hp->(Hp->Prop)->Prop
def FP (X:Cx) (t:zO):Prop:=
 ∀(pins:List (ah×Obj)) (s:ag) (σ:St) (H:Hp) (o i v:V) (ov iv u:af) (Q:Hp->Prop),Inv X pins σ H s->RelV o ov->RelV i iv->RelV v u->t o i v H Q->
  wpAny (model X.prog X.w) X.A (setItem ov iv u) (λ_ s'=>∃H',Inv X pins σ H' s'/\Q H') X.xe s
section
variable{X:Cx}{pos:Pos}
def zP (i:Nat):TG:=λv σ H Q=>Q (σ.set i (some v)) H
theorem QX {i:Nat}{x:Str}(hN:X.N.Nodup) (hi:X.N[i]?=some x) (hx:nJ X.env.scope x) (hf:X.fn x=true∨X.env.scope.names.lookup x=some .local:=by first|exact .inl rfl|exact .inr rfl|assumption):PG X (.Name x pos) (zP i):=by intro pins s σ H v u Q I r h;exact wpAny_assign_Name (vD I hN hi hx r (λs' I'=>⟨_,H,I',h⟩) hf)
def QY:mE:=λvs σ H Q=>vs=[]/\Q σ H
def QZ (t:TG) (u:mE):mE:=λvs σ H Q=>∃v r,vs=v::r/\t v σ H λσ' H'=>u r σ' H' Q
theorem Q0:PGs X [] QY:=by intro pins s σ H vs us Q I r h;obtain⟨e,h⟩:=h;subst e;cases r;exact assignInOrder_nil ⟨σ,H,I,h⟩
theorem Q2 {e:bq}{es:List bq}{t:TG}{u:mE}(h1:PG X e t) (h2:PGs X es u)
  (hs:(assignEach (e::es) X.env).map (·.2)=assign e X.env::(assignEach es X.env).map (·.2):=by rfl):PGs X (e::es) (QZ t u):=by
 intro pins s σ H vs us Q I r h;obtain⟨v,vr,e1,h⟩:=h;subst e1
 cases r with
 |cons r rr=>rw[hs];refine vq (bD (h1 pins s σ H _ _ _ I r h) λ_ s1 ⟨σ1,H1,I1,q1⟩=>?_);exact h2 pins s1 σ1 H1 _ _ Q I1 rr q1
def Q3 (K:aq) (n:Nat) (t:mE):TG:=λv σ H Q=>∃a xs,v=.ref a/\Aq K H a xs/\xs.length=n/\t xs σ H Q
theorem Q4 {es:List bq}{k:Nat}{t:mE}{n:Nat}(hc:X.calm=true) (h:PGs X es t)
  (hn:(assignEach es X.env).length=n:=by rfl) (hst:(assignEach es X.env).findIdx? (·.1)=none:=by rfl):PG X (.Tuple es k pos) (Q3 X.K n t):=by
 intro pins s σ H v u Q I r hw;obtain⟨a,xs,e1,hq,hl,hw⟩:=hw;subst e1;cases r;obtain⟨its,rv,ht,hz⟩:=I.tuple hq;refine assign_Tuple_tuple (I.ok.hd hc) ht (by simp[hn,<-hl,rv.length]) hst λh' hx=>?_;have I1:Inv X pins σ H { s with heap:=h' }:=I.kept (t':=s.toks) λb o e=>hx b o (bf (av e)) e;exact h pins _ σ H xs _ Q I1 (by simpa using rv) hw
def Q5 (to ti:TE) (t:zO):TG:=λv σ H Q=>to σ H λo H1=>ti σ H1 λi H2=>t o i v H2 λH3=>Q σ H3
theorem Q6 {o i:bq}{to ti:TE}{t:zO}(ho:PE X o to) (hi:PE X i ti) (hs:FP X t)
  (ha:∀v,assign (.Subscript o i pos) X.env v=(do
   let ov <-holding [v] (eval o X.env)
   let iv <-holding [v,ov] (eval i X.env)
   standAt pos
   holding [v,ov,iv] (setItem ov iv v)
   release [v,ov,iv] []):=by intro _;rfl):PG X (.Subscript o i pos) (Q5 to ti t):=by
 intro pins s σ H v u Q I r h;rw[ha];refine ae (fz (bD (ho pins s σ H _ I h) λov s1 ⟨x,H1,I1,r1,q1⟩=>?_));refine ae (fz (bD (hi pins s1 σ H1 _ I1 q1) λiv s2 ⟨y,H2,I2,r2,q2⟩=>?_));refine ae (pw (ae (fz (bD (hs pins s2 σ H2 x y v ov iv u _ I2 r1 r2 r q2) λ_ s3 ⟨H3,I3,q3⟩=>?_))));exact wpAny_release ⟨σ,H3,I3,q3⟩
def vE (te:TE) (g:TG):TS:=λD σ H=>te σ H λx H1=>g x σ H1 D.nx
theorem FQ {tg e:bq}{te:TE}{g:TG}(he:PE X e te) (hg:PG X tg g) (hs:swapsWithSole [tg] e pos.line X.env=pure false:=by rfl) (hw:swappedStores [tg] e X.env=pure none:=by rfl)
  (h1:(assignEach [tg] X.env).map (·.2)=[assign tg X.env]:=by rfl):PS X (.Assign [tg] e pos) (vE te g):=by
 intro pins s σ H D I h;refine wpAny_Assign_stores (bD (he pins s σ H _ I h) λv s1 ⟨x,H1,I1,r1,q1⟩=>?_) hs hw;rw[h1];exact bD (hg pins s1 σ H1 x v _ I1 r1 q1) λ_ s2 q=>q
theorem Q7 {i:Nat}{x:Str}{e:bq}{te:TE}{pos':Pos}(hN:X.N.Nodup) (hi:X.N[i]?=some x) (hx:nJ X.env.scope x) (he:PE X e te) (hs:swapsWith e (some (.Name x pos')) pos.line X.env=pure false:=by rfl) (hf:X.fn x=true∨X.env.scope.names.lookup x=some .local:=by first|exact .inl rfl|exact .inr rfl|assumption):
  PS X (.Assign [.Name x pos'] e pos) (vE te (zP i)):=by
 intro pins s σ H D I h;refine wpAny_Assign_Name (bD (he pins s σ H _ I h) λv s1 ⟨y,H1,I1,r1,q1⟩=>?_) hs;exact vD I1 hN hi hx r1 (λs2 I2=>⟨_,H1,I2,q1⟩) hf
def Q8 (i j:Nat) (ta:TA):TS:=λD σ H=>ta σ H λvs H1=>∃v w,vs=[v,w]/\D.nx ((σ.set i (some v)).set j (some w)) H1
theorem Q9 {i j:Nat}{x y:Str}{a b:bq}{ta:TA}{px py pt:Pos}{kt k2 pt2} (hc:X.calm=true) (hN:X.N.Nodup) (hi:X.N[i]?=some x) (hj:X.N[j]?=some y) (Bo:i≠j)
  (hx:X.env.scope.names.lookup x=some .local) (hy:X.env.scope.names.lookup y=some .local) (ha:PA X [a,b] ta)
  (hw:swappedStores [.Tuple [.Name x px,.Name y py] kt pt] (.Tuple [a,b] k2 pt2) X.env=pure (some [x,y]))
  (hs:swapsWithSole [.Tuple [.Name x px,.Name y py] kt pt] (.Tuple [a,b] k2 pt2) pos.line X.env=pure false:=by rfl):
  PS X (.Assign [.Tuple [.Name x px,.Name y py] kt pt] (.Tuple [a,b] k2 pt2) pos) (Q8 i j ta):=by
 intro pins s σ H D I h;rw[exec_Assign_arm];refine ae (pw ?_);rw[hs];refine ae (ai ?_);rw[if_neg (by decide)];refine ae (Tuple_ (bD (ha _ pins s σ H _ I h) λus s1 ⟨vs,H1,I1,r1,q1⟩=>?_));obtain⟨v,w,e1,q1⟩:=q1;subst e1;obtain⟨u1,u2,rfl,rv,rw'⟩:∃u1 u2,us=[u1,u2]/\RelV v u1/\RelV w u2:=by
  cases r1 with
  |cons p q=>
   cases q with
   |cons p' q'=>cases q';exact⟨_,_,rfl,p,p'⟩
 refine fg ?_ (by show 2<=cf;decide);have I2:Inv X pins σ H1 { s1 with heap:=s1.heap.push { cls:=.type "tuple",data:=.seq [u1,u2].toArray } }:=I1.kept (t':=s1.toks) λb o e=>aj _ e;rw[hw];refine ae (ai ?_);show wpAny (model X.prog X.w) X.A (do rule "assign.swapped-stores"; let items <-unpackItems (.ref s1.heap.objs.size) 2 none;assignInOrder [λv=>bindName X.env y v,λv=>bindName X.env x v] items.reverse;pure Flow.next) _ _ _;refine ae (ph (ae (unpackItems_tuple (items:=#[u1,u2]) (I.ok.hd hc) (IsTup.new s1.heap _) λh' hx'=>?_)));have I3:=I2.kept (h':=h') (t':=s1.toks) λb o e=>hx' b o (bf (av e)) e;show wpAny _ _ (assignInOrder [λv=>bindName X.env y v,λv=>bindName X.env x v] [u2,u1] >>= λ_=>pure Flow.next) _ _ _;refine ae (vq (wpAny_bindName (vD I3 hN hj (.inl hy) rw' (λs2 I4=>?_) (.inr hy))));refine vq (wpAny_bindName (vD I4 hN hi (.inl hx) rv (λs3 I5=>assignInOrder_nil (ai ?_)) (.inr hx)));rw[List.set_comm _ _ (dh Bo)]at I5;exact⟨_,H1,I5,q1⟩
end
section
variable{X:Cx}{pos:Pos}
def RA (c:TT) (tb:TS):TS:=λD σ H=>∃W:Nat->St->Hp->Prop,(∃m,W m σ H)/\∀m σ H,W m σ H->
 c σ H λb H1=>if b=true then ∃N:St->Hp->Prop,(∀σ' H',N σ' H'->∃m',m'<m/\W m' σ' H')/\tb { D with nx:=N,ct:=N,bk:=D.nx } σ H1 else D.nx σ H1
theorem RC {c:bq}{body:List gf}{tc:TT}{tb:TS}(hp:xk (model X.prog X.w) X.A X.env X.xe) (hc:PT X c tc) (hb:Di X body tb):PS X (.While c body [] pos) (RA tc tb):=by
 intro pins s σ H D I h;obtain⟨W,⟨m0,w0⟩,turn⟩:=h;refine wpAny_While (codeAny_whileLoop (λn s'=>∃σ' H',Inv X pins σ' H' s'/\W n σ' H') ?_ m0 ⟨σ,H,I,w0⟩)
 rintro n s1 ⟨σ1,H1,I1,w1⟩
 refine km hp (bD (hc pins s1 σ1 H1 _ I1 (turn n σ1 H1 w1)) λb s2 ⟨H2,I2,q2⟩=>?_)
 cases b with
 |true=>
  obtain⟨N,hN,q2⟩:=q2;rw[if_pos rfl];refine km hp (bD (hb pins s2 σ1 H2 _ I2 q2) λf s3 q3=>?_)
  cases f with
  |next=>obtain⟨σ3,H3,I3,n3⟩:=q3;obtain⟨m',hm,w3⟩:=hN σ3 H3 n3;exact⟨m',hm,σ3,H3,I3,w3⟩
  |cont=>obtain⟨σ3,H3,I3,n3⟩:=q3;obtain⟨m',hm,w3⟩:=hN σ3 H3 n3;exact⟨m',hm,σ3,H3,I3,w3⟩
  |brk=>exact q3
  |ret v=>exact q3
 |false=>rw[if_neg iz];exact tw ⟨σ1,H2,I2,q2⟩
end
structure It where
 go:Nat->Hp->Prop
 yld:Nat->Hp->V->Hp->Prop
 stop:Nat->Hp->Prop
def dJ (X:Cx) (pins:List (ah×Obj)) (H:Hp) (b:ah):Prop:=H b=none/\b≠X.env.locals/\b∉X.fs/\(b∈X.ex∨X.s₀.heap.objs.size<=b)/\(∀x c,X.env.cells.lookup x=some c->c≠b)/\∀p∈X.pn++pins,p.1≠b
theorem Inv.fpOk {X:Cx}{pins:List (ah×Obj)}{σ:St}{H H':Hp}{s:ag}{b:ah}(I:Inv X pins σ H s) (hb:s.heap.objs.size<=b) (hn:H' b=none):dJ X pins H' b:=by
 refine⟨hn,jd (bc I.lt hb),I.nofs hb,.inr (dm I.sz hb),λx c e z=>?_,λp hp z=>?_⟩
 ·obtain⟨v,q⟩:=I.cell x c e;exact absurd (bc q.lt (by rw[z];exact hb)) (gv _)
 ·exact absurd (bc (av (I.pin p hp).1) (by rw[z];exact hb)) (gv _)
structure Turn (P:bh) (w:cp) (K:aq) (tg:bq) (J:It) (fp:List ah) (it:ah) (tn:Nat->da->Prop):Prop where
 mem:it∈fp
 obj:∀i h,tn i h->∀b∈fp,∃o,h.get? b=some o/\∀v,o.data≠.cell v
 keep:∀i h h',tn i h->(∀b∈fp,∀o,h.get? b=some o->h'.get? b=some o)->tn i h'
 item:∀(X:Cx),X.prog=P->X.w=w->X.K=K->X.calm=true->∀(i:Nat) (pins:List (ah×Obj)) (s:ag) (σ:St) (H:Hp) (E:af->ag->Prop),Inv X pins σ H s->(∀b∈fp,dJ X pins H b)->tn i s.heap->J.go i H->
  wpAny (model P w) X.A (pyNext (.ref it)) (λr s1=>∃u,r=some u /\
   wpAny (model P w) X.A (letOwnedTupleGo tg (.ref it) u) (λ_ s2=>∃x H',Inv X pins σ H' s2/\RelV x u/\J.yld i H x H'/\tn (i+1) s2.heap/\∀b∈fp,H' b=none) E s1) E s
 done:∀(X:Cx),X.prog=P->X.w=w->X.K=K->X.calm=true->∀(i:Nat) (pins:List (ah×Obj)) (s:ag) (σ:St) (H:Hp) (E:af->ag->Prop),Inv X pins σ H s->(∀b∈fp,dJ X pins H b)->tn i s.heap->J.stop i H->
  wpAny (model P w) X.A (pyNext (.ref it)) (λr s1=>r=none/\Inv X pins σ H s1) E s
 self:∀(A:cn) (i:Nat) (s:ag) (Q:af->ag->Prop) (E:af->ag->Prop),tn i s.heap->Q (.ref it) s->wpAny (model P w) A (pyIter (.ref it)) Q E s
abbrev TI:=St->Hp->(It->Hp->Prop)->Prop
def FR (X:Cx) (pins:List (ah×Obj)) (σ:St) (tg:bq) (R:It->Hp->Prop) (itv:af) (s2:ag):Prop:=∃(it:ah) (fp:List ah) (tn:Nat->da->Prop) (J:It) (H':Hp),itv=.ref it/\Inv X pins σ H' s2/\Turn X.prog X.w X.K tg J fp it tn/\tn 0 s2.heap/\(∀b∈fp,dJ X pins H' b)/\R J H'
def PI (X:Cx) (tg iter:bq) (wi:TI):Prop:=
 ∀(pins:List (ah×Obj)) (s:ag) (σ:St) (H:Hp) (R:It->Hp->Prop),Inv X pins σ H s->wi σ H R->
  wpAny (model X.prog X.w) X.A (eval iter X.env) (λv s1=>wpAny (model X.prog X.w) X.A (pyIter v) (FR X pins σ tg R) X.xe s1) X.xe s
theorem zQ {M:wm}{A:cn}{E:af->ag->Prop}{s:ag}{tg:bq}{it:ah}{u:af}{o:Obj}{n:String}{vs:Array af}{Q:Unit->ag->Prop}(ho:s.heap.get? it=some o) (hc:o.cls=.type n) (hd:o.data=.fields vs)
  (hn:["enumerate","zip","dict_itemiterator","dict_reverseitemiterator","odict_iterator","itertools.zip_longest","itertools.pairwise"].contains n=false) (hQ:Q () s):wpAny M A (letOwnedTupleGo tg (.ref it) u) Q E s:=by
 unfold letOwnedTupleGo
 cases tg <;> first
  |exact ai hQ
  |(cases u <;> first
    |exact ai hQ
    |(refine ae (wpAny_load ho ?_);rw[hc,hd];show wpAny M A (if(["enumerate","zip","dict_itemiterator","dict_reverseitemiterator","odict_iterator","itertools.zip_longest","itertools.pairwise"].contains n&&vs[0]?==some (rawInt _))=true then _ else _) Q E s;rw[if_neg (by intro h;rw[hn,Bool.false_and]at h;cases h)];exact ai hQ))
def FT (K:aq) (a:ah):It:=⟨λi H=>∃xs x,Bd K H a xs/\xs[i]?=some x,λi H x H'=>H'=H/\∀xs,Bd K H a xs->xs[i]?=some x,λi H=>∃xs,Bd K H a xs/\xs.length<=i⟩
def zR (K:aq) (a:ah):It:=⟨λi H=>∃xs x,Aq K H a xs/\xs[i]?=some x,λi H x H'=>H'=H/\∀xs,Aq K H a xs->xs[i]?=some x,λi H=>∃xs,Aq K H a xs/\xs.length<=i⟩
def rZ (lo:Int) (n:Nat):It:=⟨λi _=>i<n,λi H x H'=>H'=H/\x=.int (lo+i),λi _=>n<=i⟩
theorem RD {P:bh}{w:cp}{K:aq}{tg:bq}(a it:ah):Turn P w K tg (FT K a) [it] it (λi h=>h.IsListIter it a i) where
 mem:=by simp
 obj:=λi h st b hb=>by
  have e:b=it:=by simpa using hb
  subst e;obtain⟨o,e,c,d⟩:=st;exact⟨o,e,λv z=>by rw[d]at z;cases z⟩
 keep:=λi h h' st k=>st.at λo e=>k it (by simp) o e
 item:=by intro X hP hw hK hc i pins s σ H E I hf st hg;subst hP hw hK;obtain⟨xs,x,hq,hx⟩:=hg;obtain⟨its,rv,p,hz⟩:=I.list hq;obtain⟨u,hu,ru⟩:=rv.get hx;obtain⟨f0,f1,f2,f3,f4,f5⟩:=hf it (by simp);refine wpAny_pyNext_list_item st p.isList (x:=u) (by simpa using hu) λh' Cj sb=>?_;have I1:Inv X pins σ H { s with heap:=h' }:=I.turned (t':=s.toks) (λb o hb e=>(sb.2 b hb).trans e) f0 f1 f3 f4 f5;obtain⟨o,e,c,d⟩:=id Cj;exact⟨u,rfl,zQ (s:={ s with heap:=h' }) e c d (by decide) ⟨x,H,I1,ru,⟨rfl,λys hy=>by rw[I.list_inj hy hq];exact hx⟩,Cj,λb hb=>(hf b hb).1⟩⟩
 done:=by intro X hP hw hK hc i pins s σ H E I hf st hg;subst hP hw hK;obtain⟨xs,hq,hx⟩:=hg;obtain⟨its,rv,p,hz⟩:=I.list hq;obtain⟨f0,f1,f2,f3,f4,f5⟩:=hf it (by simp);have hl:=rv.length;exact wpAny_pyNext_list_end (I.ok.hd hc) st p.isList (by simp;omega) λh' eb=>⟨rfl,I.turned (t':=s.toks) (λb o hb e=>eb b o hb e) f0 f1 f3 f4 f5⟩
 self:=λ_ _ _ _ _ st h=>wpAny_pyIter_listiter st h
theorem RE {P:bh}{w:cp}{K:aq}{tg:bq}(a it:ah):Turn P w K tg (zR K a) [it] it (λi h=>h.IsTupleIter it a i) where
 mem:=by simp
 obj:=λi h st b hb=>by
  have e:b=it:=by simpa using hb
  subst e;obtain⟨o,e,c,d⟩:=st;exact⟨o,e,λv z=>by rw[d]at z;cases z⟩
 keep:=λi h h' st k=>st.at λo e=>k it (by simp) o e
 item:=by intro X hP hw hK hc i pins s σ H E I hf st hg;subst hP hw hK;obtain⟨xs,x,hq,hx⟩:=hg;obtain⟨its,rv,p,hz⟩:=I.tuple hq;obtain⟨u,hu,ru⟩:=rv.get hx;obtain⟨f0,f1,f2,f3,f4,f5⟩:=hf it (by simp);refine wpAny_pyNext_tuple_item st (show s.heap.IsTuple a its.toArray from p) (x:=u) (by simpa using hu) λh' Cj sb=>?_;have I1:Inv X pins σ H { s with heap:=h' }:=I.turned (t':=s.toks) (λb o hb e=>(sb.2 b hb).trans e) f0 f1 f3 f4 f5;obtain⟨o,e,c,d⟩:=id Cj;exact⟨u,rfl,zQ (s:={ s with heap:=h' }) e c d (by decide) ⟨x,H,I1,ru,⟨rfl,λys hy=>by rw[I.tuple_inj hy hq];exact hx⟩,Cj,λb hb=>(hf b hb).1⟩⟩
 done:=by intro X hP hw hK hc i pins s σ H E I hf st hg;subst hP hw hK;obtain⟨xs,hq,hx⟩:=hg;obtain⟨its,rv,p,hz⟩:=I.tuple hq;obtain⟨f0,f1,f2,f3,f4,f5⟩:=hf it (by simp);have hl:=rv.length;exact wpAny_pyNext_tuple_end (I.ok.hd hc) st (show s.heap.IsTuple a its.toArray from p) (by simp;omega) λh' eb=>⟨rfl,I.turned (t':=s.toks) (λb o hb e=>eb b o hb e) f0 f1 f3 f4 f5⟩
 self:=λ_ _ _ _ _ st h=>wpAny_pyIter_tupleiter st h
theorem RF {P:bh}{w:cp}{K:aq}{tg:bq}(it:ah) (lo:Int) (n:Nat):Turn P w K tg (rZ lo n) [it] it (λi h=>IsRangeIter h it (lo+(i:Nat)*1) ((n:Int) - (i:Nat)) 1) where
 mem:=by simp
 obj:=λi h st b hb=>by
  have e:b=it:=by simpa using hb
  subst e;exact⟨_,st,λv z=>by
   have z':Data.fields _=Data.cell v:=z
   cases z'⟩
 keep:=λi h h' st k=>k it (by simp) _ st
 item:=by intro X hP hw hK hc i pins s σ H E I hf st hg;subst hP hw hK;obtain⟨f0,f1,f2,f3,f4,f5⟩:=hf it (by simp);have W:=Walks.range (prog:=X.prog) (w:=X.w) (I.ok.hd hc) it lo 1 n;refine W.item i s _ _ hg st λv h' tk hv Cj kk=>?_;obtain⟨t,rfl⟩:=hv;have I1:Inv X pins σ H { s with heap:=h',toks:=tk }:=I.turned (λb o hb e=>kk b o (by simpa using hb) e) f0 f1 f3 f4 f5;refine⟨_,rfl,zQ (s:={ s with heap:=h',toks:=tk }) (n := "range_iterator") Cj rfl rfl (by decide) ⟨.int (lo+i),H,I1,⟨t, ?_⟩,⟨rfl,rfl⟩,Cj,λb hb=>(hf b hb).1⟩⟩;rw[Int.mul_one]
 done:=by intro X hP hw hK hc i pins s σ H E I hf st hg;subst hP hw hK;obtain⟨f0,f1,f2,f3,f4,f5⟩:=hf it (by simp);exact wpAny_pyNext_range_end (I.ok.hd hc) st (by have:n<=i:=hg;omega) λh' eb=>⟨rfl,I.turned (t':=s.toks) (λb o hb e=>eb b o hb e) f0 f1 f3 f4 f5⟩
 self:=λ_ _ _ _ _ st h=>wpAny_pyIter_rangeiter st h
section
variable{X:Cx}{tg:bq}
def RG (K:aq) (tl:TE):TI:=λσ H R=>tl σ H λx H1=>∃a,x=.ref a/\(∃xs,Bd K H1 a xs)/\R (FT K a) H1
def RH (K:aq) (tl:TE):TI:=λσ H R=>tl σ H λx H1=>∃a,x=.ref a/\(∃xs,Aq K H1 a xs)/\R (zR K a) H1
theorem RI {l:bq}{tl:TE}(hl:PE X l tl):PI X tg l (RG X.K tl):=by
 intro pins s σ H R I h;refine bD (hl pins s σ H _ I h) λv s1 ⟨x,H1,I1,r1,q1⟩=>?_;obtain⟨a,e,⟨xs,hq⟩,q⟩:=q1;subst e;cases r1;obtain⟨its,rv,p,hz⟩:=I1.list hq;refine kv p.isList ?_;refine⟨s1.heap.objs.size,[s1.heap.objs.size],_,_,H1,rfl,I1.kept (t':=s1.toks) λb o e=>aj _ e,RD a _,⟨_,az _ rfl,rfl,rfl⟩,λb hb=>?_,q⟩;have e:b=s1.heap.objs.size:=by simpa using hb
 subst e;exact I1.fpOk (ak _) (I1.hok.fresh (ak _))
theorem RJ {l:bq}{tl:TE}(hl:PE X l tl):PI X tg l (RH X.K tl):=by
 intro pins s σ H R I h;refine bD (hl pins s σ H _ I h) λv s1 ⟨x,H1,I1,r1,q1⟩=>?_;obtain⟨a,e,⟨xs,hq⟩,q⟩:=q1;subst e;cases r1;obtain⟨its,rv,p,hz⟩:=I1.tuple hq;refine nq (show s1.heap.IsTuple a its.toArray from p) ?_;refine⟨s1.heap.objs.size,[s1.heap.objs.size],_,_,H1,rfl,I1.kept (t':=s1.toks) λb o e=>aj _ e,RE a _,⟨_,az _ rfl,rfl,rfl⟩,λb hb=>?_,q⟩;have e:b=s1.heap.objs.size:=by simpa using hb
 subst e;exact I1.fpOk (ak _) (I1.hok.fresh (ak _))
theorem FU {pins:List (ah×Obj)}{σ:St}{H:Hp}{s:ag}{R:It->Hp->Prop}{E:af->ag->Prop}{lo hi:Int}{t u v:Tok}{tk:Nat}(I:Inv X pins σ H s) (h1 : -(2 ^ 62)<=lo) (h2:lo<2 ^ 62) (h3 : -(2 ^ 62)<=hi) (h4:hi<2 ^ 62)
  (q:R (rZ lo (hi - lo).toNat) H):wpAny (model X.prog X.w) X.A (pyIter (.ref s.heap.objs.size)) (FR X pins σ tg R) E { s with heap:=s.heap.push { cls:=.type "range",data:=.fields #[.int lo t,.int hi u,.int 1 v] },toks:=tk }:=by
 refine wpAny_pyIter_range (IsRange.new ..) (small_one h1 h2 h3 h4) ?_;have I1:Inv X pins σ H { s with heap:=s.heap.push { cls:=.type "range",data:=.fields #[.int lo t,.int hi u,.int 1 v] },toks:=tk }:=I.kept λb o e=>aj _ e;refine⟨(s.heap.push { cls:=.type "range",data:=.fields #[.int lo t,.int hi u,.int 1 v] }).objs.size,[(s.heap.push { cls:=.type "range",data:=.fields #[.int lo t,.int hi u,.int 1 v] }).objs.size],_,_,H,rfl,
  I1.kept (t':=tk) λb o e=>aj _ e,RF _ lo (hi - lo).toNat, ?_,λb hb=>?_,q⟩
 ·have e1:lo+((0:Nat):Int)*1=lo:=by simp
  have e2:(((hi - lo).toNat:Nat):Int) - ((0:Nat):Int)=Builtin.Range.rangeSize lo hi 1:=by rw[rangeSize_one];split <;> omega
  show IsRangeIter _ _ (lo+((0:Nat):Int)*1) ((((hi - lo).toNat:Nat):Int) - ((0:Nat):Int)) 1;rw[e1,e2];exact az _ rfl
 ·have e:b=(s.heap.push { cls:=.type "range",data:=.fields #[.int lo t,.int hi u,.int 1 v] }).objs.size:=by simpa using hb
  subst e;exact I1.fpOk (ak _) (I1.hok.fresh (ak _))
def RK (ta:TA):TI:=λσ H R=>ta σ H λvs H1=>∃j:Int,vs=[.int j]/\-(2 ^ 62)<=j/\j<2 ^ 62/\R (rZ 0 j.toNat) H1
def RM (ta:TA):TI:=λσ H R=>ta σ H λvs H1=>∃i j:Int,vs=[.int i,.int j]/\(-(2 ^ 62)<=i/\i<2 ^ 62/\-(2 ^ 62)<=j/\j<2 ^ 62)/\R (rZ i (j - i).toNat) H1
theorem RN {a:bq}{ta:TA}{p pos:Pos}(hg:Gl X "range") (hm:X.mg "range" = none) (ha:PA X [a] ta) (hs:ar [a] X.env=[(false,eval a X.env)]:=by rfl):PI X tg (.Call (.Name "range" p) [a] [] pos) (RK ta):=by
 intro pins s σ H R I h;refine Call_ (oJ I hg hm boot_range (jx (bD (ha pos pins s σ H _ I h) λus s1 ⟨vs,H1,I1,r1,q1⟩=>?_) hs rfl));obtain⟨j,e,q1,q2,q⟩:=q1;subst e
 cases r1 with
 |cons r rr=>cases rr;obtain⟨t,rfl⟩:=r;exact call_range_1 (FU I1 (by omega) (by omega) q1 q2 (by simpa using q))
theorem RO {a b:bq}{ta:TA}{p pos:Pos}(hg:Gl X "range") (hm:X.mg "range" = none) (ha:PA X [a,b] ta) (hs:ar [a,b] X.env=[(false,eval a X.env),(false,eval b X.env)]:=by rfl) (hs2:ar [b] X.env=[(false,eval b X.env)]:=by rfl):
  PI X tg (.Call (.Name "range" p) [a,b] [] pos) (RM ta):=by
 intro pins s σ H R I h;refine Call_ (oJ I hg hm boot_range (jx (bD (ha pos pins s σ H _ I h) λus s1 ⟨vs,H1,I1,r1,q1⟩=>?_) (by rw[hs,hs2]) (by rw[hs2];rfl)));obtain⟨i,j,e,⟨q1,q2,q3,q4⟩,q⟩:=q1;subst e
 cases r1 with
 |cons r rr=>
  cases rr with
  |cons r' rr=>cases rr;obtain⟨t,rfl⟩:=r;obtain⟨t',rfl⟩:=r';exact call_range_2 (FU I1 q1 q2 q3 q4 q)
def RP (wi:TI) (g:TG) (tb:TS):TS:=λD σ H=>wi σ H λJ H1=>∃W:Nat->Nat->St->Hp->Prop,(∃m,W 0 m σ H1)/\∀i m σ H,W i m σ H->
 (J.stop i H/\D.nx σ H)∨(J.go i H/\∃N:St->Hp->Prop,(∀σ' H',N σ' H'->∃m',m'<m/\W (i+1) m' σ' H')/\∀x H',J.yld i H x H'->g x σ H' λσ2 H2=>tb { D with nx:=N,ct:=N,bk:=D.nx } σ2 H2)
def jK (fp:List ah) (h:da):List (ah×Obj):=fp.filterMap λb=>(h.get? b).map λo=>(b,o)
theorem pZ {fp:List ah}{h:da}{b:ah}{o:Obj}(hb:b∈fp) (e:h.get? b=some o):(b,o)∈jK fp h:=gy.mpr ⟨b,hb,by rw[e];rfl⟩
theorem zS {fp:List ah}{h:da}{p:ah×Obj}(hp:p∈jK fp h):p.1∈fp/\h.get? p.1=some p.2:=by
 obtain⟨b,hb,e⟩:=gy.mp hp
 cases q:h.get? b with
 |none=>rw[q]at e;cases e
 |some o=>rw[q]at e;have e':(b,o)=p:=cx e;subst e';exact⟨hb,q⟩
theorem Inv.pinned {pins:List (ah×Obj)}{σ:St}{H:Hp}{s:ag}{fp:List ah}(I:Inv X pins σ H s) (hf:∀b∈fp,dJ X pins H b) (ho:∀b∈fp,∃o,s.heap.get? b=some o/\∀v,o.data≠.cell v):Inv X (pins++jK fp s.heap) σ H s:=I.pins_of λp hp=>(cm.mp hp).elim (λz=>I.pin p (bz _ z)) λz=>by obtain⟨hb,e⟩:=zS z;obtain⟨f0,f1,f2,_⟩:=hf p.1 hb;obtain⟨o,e',d⟩:=ho p.1 hb;rw[e]at e';cases e';exact⟨e,f0,f1,f2,d⟩
theorem Inv.unpinned {pins pl:List (ah×Obj)}{σ:St}{H:Hp}{s:ag}(I:Inv X (pins++pl) σ H s):Inv X pins σ H s:=I.pins_of λp hp=>I.pin p (bz _ (fi _ hp))
theorem RQ {iter:bq}{body:List gf}{wi:TI}{g:TG}{tb:TS}{pos:Pos}(hp:xk (model X.prog X.w) X.A X.env X.xe) (hc:X.calm=true) (hi:PI X tg iter wi) (hg:PG X tg g) (hb:Di X body tb)
  (hs:∀x,foldedSetIterable iter X.env x=pure x:=by intro _;rfl):PS X (.For tg iter body [] pos) (RP wi g tb):=by
 intro pins s σ H D I h;refine wpAny_For (bD (hi pins s σ H _ I h) λv s1 h1=>bD h1 λitv s2 h2=>?_) hs;obtain⟨it,fp,tn,J,H2,e,I2,T,st2,f2,W,⟨m0,w0⟩,turn⟩:=h2;subst e;have stat:∀{H':Hp},(∀b∈fp,H' b=none)->∀b∈fp,dJ X pins H' b:=λhn b hb=>⟨hn b hb,(f2 b hb).2⟩
 refine codeAny_forLoop_any (λn s'=>∃i σ' H',Inv X pins σ' H' s'/\tn i s'.heap/\(∀b∈fp,H' b=none)/\W i n σ' H') ?_ m0 ⟨0,σ,H2,I2,st2,λb hb=>(f2 b hb).1,w0⟩
 rintro n s3 ⟨i,σ3,H3,I3,st3,fr3,w3⟩
 rcases turn i n σ3 H3 w3 with⟨stop,qn⟩|⟨go,N,hN,step⟩
 ·refine km hp (bD (T.done X rfl rfl rfl hc i pins s3 σ3 H3 X.xe I3 (stat fr3) st3 stop) λr s4 ⟨hr,I4⟩=>?_);subst hr;exact tw ⟨σ3,H3,I4,qn⟩
 ·refine km hp (bD (T.item X rfl rfl rfl hc i pins s3 σ3 H3 X.xe I3 (stat fr3) st3 go) λr s4 ⟨u,hr,h4⟩=>?_);subst hr;refine km hp (bD h4 λ_ s5 ⟨x,H5,I5,r5,y5,st5,fr5⟩=>?_);have I5':=I5.pinned (stat fr5) (T.obj _ _ st5);refine km hp (bD (hg _ s5 σ3 H5 x u _ I5' r5 (step x H5 y5)) λ_ s6 ⟨σ6,H6,I6,q6⟩=>?_);refine km hp (bD (hb _ s6 σ6 H6 _ I6 q6) λf s7 q7=>?_);have again:∀{σ7:St}{H7:Hp},Inv X (pins++jK fp s5.heap) σ7 H7 s7->N σ7 H7->∃m,m<n/\∃i σ' H',Inv X pins σ' H' s7/\tn i s7.heap/\(∀b∈fp,H' b=none)/\W i m σ' H':=λ{σ7 H7} I7 n7=>by obtain⟨m',hm,w7⟩:=hN σ7 H7 n7;refine⟨m',hm,i+1,σ7,H7,I7.unpinned,T.keep _ _ _ st5 λb hb o e=>(I7.pin (b,o) (bz _ (bz _ (pZ hb e)))).1,λb hb=>?_,w7⟩;obtain⟨o,e,d⟩:=T.obj _ _ st5 b hb;exact(I7.pin (b,o) (bz _ (bz _ (pZ hb e)))).2.1
  cases f with
  |next=>obtain⟨σ7,H7,I7,n7⟩:=q7;exact again I7 n7
  |cont=>obtain⟨σ7,H7,I7,n7⟩:=q7;exact again I7 n7
  |brk=>obtain⟨σ7,H7,I7,q7⟩:=q7;exact⟨σ7,H7,I7.unpinned,q7⟩
  |ret v=>obtain⟨x7,σ7,H7,I7,r7,q7⟩:=q7;exact⟨x7,σ7,H7,I7.unpinned,r7,q7⟩
end
abbrev R2:=V->V->Hp->VK->Prop
def Be (X:Cx) (f:af->af->Sem af) (r:R2):Prop:=
 ∀(pins:List (ah×Obj)) (s:ag) (σ:St) (H:Hp) (x y:V) (v u:af) (Q:VK),Inv X pins σ H s->RelV x v->RelV y u->r x y H Q->
  wpAny (model X.prog X.w) X.A (f v u) (EP X pins σ Q) X.xe s
def vF (X:Cx) (f:af->Sem af) (r:V->Hp->VK->Prop):Prop:=
 ∀(pins:List (ah×Obj)) (s:ag) (σ:St) (H:Hp) (x:V) (v:af) (Q:VK),Inv X pins σ H s->RelV x v->r x H Q->
  wpAny (model X.prog X.w) X.A (f v) (EP X pins σ Q) X.xe s
def Af (X:Cx) (f:af) (r:List V->Hp->VK->Prop):Prop:=
 ∀(pins:List (ah×Obj)) (s:ag) (σ:St) (H:Hp) (xs:List V) (us:List af) (Q:VK),Inv X pins σ H s->Ae xs us->r xs H Q->
  wpAny (model X.prog X.w) X.A (call f us) (EP X pins σ Q) X.xe s
def RR (X:Cx) (r:V->Hp->(Bool->Hp->Prop)->Prop):Prop:=
 ∀(pins:List (ah×Obj)) (s:ag) (σ:St) (H:Hp) (x:V) (v:af) (Q:Bool->Hp->Prop),Inv X pins σ H s->RelV x v->r x H Q->
  wpAny (model X.prog X.w) X.A (truthy v) (TP X pins σ Q) X.xe s
def sC (r:R2) (ta tb:TE):TE:=λσ H Q=>ta σ H λx H1=>tb σ H1 λy H2=>r x y H2 Q
def RS (r:V->Hp->VK->Prop) (ta:TE):TE:=λσ H Q=>ta σ H λx H1=>r x H1 Q
def rI (C:Int->Int->Prop) (g:Int->Int->V):R2:=λx y H Q=>∃i j,x=.int i/\y=.int j/\C i j/\Q (g i j) H
def jL (g:Int->Int->V):R2:=λx y H Q=>∃i j,x=.int i/\y=.int j/\Q (g i j) H
def rU (g:Int->V):V->Hp->VK->Prop:=λx H Q=>∃i,x=.int i/\Q (g i) H
section
variable{X:Cx}{a b c:bq}{ta tb tc:TE}{pos:Pos}
theorem zT (ha:PE X a ta) (hb:PE X b tb) {pins:List (ah×Obj)}{s:ag}{σ:St}{H:Hp}{R:V->V->Hp->Prop}(I:Inv X pins σ H s)
  (h:ta σ H λx H1=>tb σ H1 λy H2=>R x y H2) {Q:af->ag->Prop}{f:af->af->Sem af}
  (hf:∀v u s2 x y H2,Inv X pins σ H2 s2->RelV x v->RelV y u->R x y H2->wpAny (model X.prog X.w) X.A (f v u) Q X.xe s2):
  wpAny (model X.prog X.w) X.A (eval a X.env) (λv s₁=>wpAny (model X.prog X.w) X.A (eval b X.env) (λu s₂=>wpAny (model X.prog X.w) X.A (f v u) Q X.xe s₂) X.xe s₁) X.xe s:=by
 refine bD (ha pins s σ H _ I h) λv s1 ⟨x,H1,I1,r1,q1⟩=>?_;refine bD (hb pins s1 σ H1 _ I1 q1) λu s2 ⟨y,H2,I2,r2,q2⟩=>?_;exact hf v u s2 x y H2 I2 r1 r2 q2
theorem RT {op:Operator}{r:R2}(ho:Be X (binaryOp op) r) (ha:PE X a ta) (hb:PE X b tb):PE X (.BinOp a op b pos) (sC r ta tb):=by intro pins s σ H Q I h;exact wpAny_BinOp (zT ha hb I h λv u s2 x y H2 I2 rx ry q=>ho pins s2 σ H2 x y v u Q I2 rx ry q)
theorem RU {op:UnaryOp}{r:V->Hp->VK->Prop}(ho:vF X (unaryOp op) r) (ha:PE X a ta):PE X (.UnaryOp op a pos) (RS r ta):=by intro pins s σ H Q I h;exact UnaryOp_ (bD (ha pins s σ H _ I h) λv s1 ⟨x,H1,I1,r1,q1⟩=>ho pins s1 σ H1 x v Q I1 r1 q1)
theorem vG {f:af->af->Sem af}{C:Int->Int->Prop}{g:Int->Int->Int}
  (rule:∀(i j:Int) (t u:Tok) (s:ag) (Q:af->ag->Prop) (E:af->ag->Prop),C i j->Q (.int (g i j) s.toks) { s with toks:=s.toks+1 }->wpAny (model X.prog X.w) X.A (f (.int i t) (.int j u)) Q E s):
  Be X f (rI C λi j=>.int (g i j)):=by
 intro pins s σ H x y v u Q I rx ry h;obtain⟨i,j,rfl,rfl,hc,q⟩:=h;obtain⟨t,rfl⟩:=rx;obtain⟨t',rfl⟩:=ry;exact rule i j t t' s _ _ hc ⟨.int (g i j),H,I.tok _,⟨_,rfl⟩,q⟩
theorem FV {f:af->af->Sem af}{g:Int->Int->Int}
  (rule:∀(i j:Int) (t u:Tok) (s:ag) (Q:af->ag->Prop) (E:af->ag->Prop),Q (.int (g i j) s.toks) { s with toks:=s.toks+1 }->wpAny (model X.prog X.w) X.A (f (.int i t) (.int j u)) Q E s):
  Be X f (jL λi j=>.int (g i j)):=by
 intro pins s σ H x y v u Q I rx ry h;obtain⟨i,j,rfl,rfl,q⟩:=h;obtain⟨t,rfl⟩:=rx;obtain⟨t',rfl⟩:=ry;exact rule i j t t' s _ _ ⟨.int (g i j),H,I.tok _,⟨_,rfl⟩,q⟩
theorem vH {f:af->af->Sem af}{g:Int->Int->Bool}
  (rule:∀(i j:Int) (t u:Tok) (s:ag) (Q:af->ag->Prop) (E:af->ag->Prop),Q (.bool (g i j)) s->wpAny (model X.prog X.w) X.A (f (.int i t) (.int j u)) Q E s):
  Be X f (jL λi j=>.bl (g i j)):=by
 intro pins s σ H x y v u Q I rx ry h;obtain⟨i,j,rfl,rfl,q⟩:=h;obtain⟨t,rfl⟩:=rx;obtain⟨t',rfl⟩:=ry;exact rule i j t t' s _ _ ⟨.bl (g i j),H,I,rfl,q⟩
def zU (i j:Int):Prop:=0<=j/\j<=1000000/\i.natAbs<2 ^ 64
def CMul (i j:Int):Prop:=(-(2 ^ 64)<i/\i<2 ^ 64)∨(-(2 ^ 64)<j/\j<2 ^ 64)
theorem CMul.ok {i j:Int}(h:CMul i j):IntMulOk i j:=by
 rcases h with⟨h1,h2⟩|⟨h1,h2⟩
 ·exact .of_left (intBits_le_64 h1 h2)
 ·exact .of_right (intBits_le_64 h1 h2)
theorem op_add:Be X (binaryOp .Add) (jL λi j=>.int (i+j)):=FV λ_ _ _ _ _ _ _ q=>add_int q
theorem RV:Be X (binaryOp .Sub) (jL λi j=>.int (i - j)):=FV λ_ _ _ _ _ _ _ q=>sub_int q
theorem RW:Be X (binaryOp .Mult) (rI CMul λi j=>.int (i*j)):=vG λ_ _ _ _ _ _ _ hc q=>mul_int q hc.ok
theorem RX:Be X (binaryOp .Mod) (rI (λ_ j=>0<j) λi j=>.int (i % j)):=vG λi j _ _ _ _ _ hc q=>by have h1:(0:Int)<j:=hc;exact mod_int' (by omega) (by rw[Int.fmod_eq_emod_of_nonneg i (by omega)];exact q)
theorem RY:Be X (binaryOp .Pow) (rI zU λi j=>.int (i ^ j.toNat)):=vG λ_ _ _ _ _ _ _ hc q=>pow_int_small hc.1 hc.2.1 hc.2.2 q
theorem RZ {f:af->Sem af}{g:Int->Int}
  (rule:∀(i:Int) (t:Tok) (s:ag) (Q:af->ag->Prop) (E:af->ag->Prop),Q (.int (g i) s.toks) { s with toks:=s.toks+1 }->wpAny (model X.prog X.w) X.A (f (.int i t)) Q E s):
  vF X f (rU λi=>.int (g i)):=by
 intro pins s σ H x v Q I rx h;obtain⟨i,rfl,q⟩:=h;obtain⟨t,rfl⟩:=rx;exact rule i t s _ _ ⟨.int (g i),H,I.tok _,⟨_,rfl⟩,q⟩
theorem R0:vF X (unaryOp .USub) (rU λi=>.int (-i)):=RZ λ_ _ _ _ _ q=>neg_int q
end
section
variable{X:Cx}{a b c:bq}{ta tb tc:TE}{pos:Pos}
theorem R3 {pins:List (ah×Obj)}{σ:St}{H:Hp}{s:ag}{Q:VK}{k k':Bool}(I:Inv X pins σ H s) (q:Q (.bl k) H) (e:k=k'):EP X pins σ Q (.bool k') s:=by subst e;exact⟨.bl k,H,I,rfl,q⟩
theorem FW:Be X (compareOp .Lt) (jL λi j=>.bl (decide (i<j))):=vH λ_ _ _ _ _ _ _ q=>lt_int q
theorem zV:Be X (compareOp .LtE) (jL λi j=>.bl (decide (i<=j))):=vH λ_ _ _ _ _ _ _ q=>le_int q
theorem FX:Be X (compareOp .Gt) (jL λi j=>.bl (decide (j<i))):=vH λ_ _ _ _ _ _ _ q=>gt_int q
theorem R4:Be X (compareOp .GtE) (jL λi j=>.bl (decide (j<=i))):=vH λ_ _ _ _ _ _ _ q=>ge_int q
theorem R5:Be X (compareOp .IsNot) (λx y H Q=>y=.non/\Q (.bl (!decide (x=.non))) H):=by
 intro pins s σ H x y v u Q I rx ry h;obtain⟨rfl,q⟩:=h;cases ry;refine isnot_none_gen (R3 I q ?_)
 cases x <;> first
  |(cases rx;rfl)
  |(obtain⟨t,rfl⟩:=rx;rfl)
theorem Be.or {f:af->af->Sem af}{r r':R2}(h:Be X f r) (h':Be X f r'):Be X f (λx y H Q=>r x y H Q∨r' x y H Q):=by
 intro pins s σ H x y v u Q I rx ry q
 rcases q with q|q
 ·exact h pins s σ H x y v u Q I rx ry q
 ·exact h' pins s σ H x y v u Q I rx ry q
theorem kB (b:bq) {op:CmpOp}(h:op≠.In:=by decide) (h2:op≠.NotIn:=by decide):behindInMarks op b=false:=by
 have e1:(op==CmpOp.In)=false:=by cases op <;> first|rfl|exact absurd rfl h
 have e2:(op==CmpOp.NotIn)=false:=by cases op <;> first|rfl|exact absurd rfl h2
 cases b <;> simp[behindInMarks,e1,e2]
theorem R6 {op:CmpOp}{r:R2}(ho:Be X (compareOp op) r) (ha:PE X a ta) (hb:PE X b tb) (hm:behindInMarks op b=false):PE X (.Compare a [op] [b] pos) (sC r ta tb):=by intro pins s σ H Q I h;exact wpAny_Compare1 (zT ha hb I h λv u s2 x y H2 I2 rx ry q=>ho pins s2 σ H2 x y v u Q I2 rx ry q) hm
def R7 (t:TE):TT:=λσ H Q=>t σ H λx H'=>∃k,x=.bl k/\Q k H'
theorem R8 {op:CmpOp}{r:R2}(ho:Be X (compareOp op) r) (ha:PE X a ta) (hb:PE X b tb) (hm:behindInMarks op b=false):PT X (.Compare a [op] [b] pos) (R7 (sC r ta tb)):=by intro pins s σ H Q I h;refine wpAny_isTrue_Compare1 (bD (ha pins s σ H _ I h) λv s1 ⟨x,H1,I1,r1,q1⟩=>bD (hb pins s1 σ H1 _ I1 q1) λu s2 ⟨y,H2,I2,r2,q2⟩=>bD (ho pins s2 σ H2 x y v u _ I2 r1 r2 q2) λc s3 ⟨z,H3,I3,r3,k,e,q3⟩=>?_) hm;subst e;cases r3;exact jq ⟨H3,I3,q3⟩
def FY (r r':R2) (ta tb tc:TE):TE:=λσ H Q=>ta σ H λx H1=>tb σ H1 λy H2=>r x y H2 λz H3=>∃k,z=.bl k /\
 (if k=true then tc σ H3 λw' H4=>r' y w' H4 Q else Q (.bl false) H3)
theorem R9 {op op':CmpOp}{r r':R2}(ho:Be X (compareOp op) r) (ho':Be X (compareOp op') r') (ha:PE X a ta) (hb:PE X b tb) (hc:PE X c tc)
  (hm:lastMarks [op,op'] [b,c]=false:=by with_unfolding_all rfl):PE X (.Compare a [op,op'] [b,c] pos) (FY r r' ta tb tc):=by
 intro pins s σ H Q I h;refine Compare_chain (bD (ha pins s σ H _ I h) λv s1 ⟨x,H1,I1,r1,q1⟩=>chain_link (bD (hb pins s1 σ H1 _ I1 q1) λu s2 ⟨y,H2,I2,r2,q2⟩=>bD (ho pins s2 σ H2 x y v u _ I2 r1 r2 q2) λd s3 ⟨z,H3,I3,r3,k,e,q3⟩=>?_)) hm;subst e;cases r3;refine jq ?_
 cases k with
 |false=>exact ite_ff ⟨.bl false,H3,I3,rfl,q3⟩
 |true=>exact ite_tt (chain_last (bD (hc pins s3 σ H3 _ I3 q3) λw' s4 ⟨z',H4,I4,r4,q4⟩=>ho' pins s4 σ H4 y z' u w' Q I4 r2 r4 q4))
def FZ (K:aq) (x:V) (H:Hp) (k:Bool):Prop:=
 match x with
 | .non=>k=false
 | .bl b=>k=b
 | .int i=>k=(i != 0)
 | .str y=>y.length<=cf/\k=((y.length:Int) != 0)
 | .byt y=>y.size<=cf/\k=((y.size:Int) != 0)
 | .ref p=>(∃xs,Bd K H p xs/\k=!xs.isEmpty)∨(∃xs,Aq K H p xs/\k=!xs.isEmpty)∨∃kvs,H p=some (.dK kvs)/\k=!kvs.isEmpty
 |_=>False
theorem SA {κ:Type}{kvs:List (κ×V)}{vs:List (κ×af)}(r:KV kvs vs):(!vs.isEmpty)=!kvs.isEmpty:=by cases r <;> rfl
theorem F0 {xs:List V}{its:List af}(r:Ae xs its):(!its.toArray.isEmpty)=!xs.isEmpty:=by cases r <;> simp
theorem qA:(cf:Nat)<2 ^ 63:=by rw[ja];decide
theorem SD:RR X (λx H Q=>∃k,FZ X.K x H k/\Q k H):=by
 intro pins s σ H x v Q I rx h;obtain⟨k,e,q⟩:=h;have hl:=qA;have hs:cf=16777216:=ja
 cases x with
 |non=>cases rx;have e':k=false:=e;subst e';exact truthy_none ⟨H,I,q⟩
 |bl b=>cases rx;have e':k=b:=e;subst e';exact jq ⟨H,I,q⟩
 |int i=>obtain⟨t,rfl⟩:=rx;have e':k=(i != 0):=e;subst e';exact PySem.P.truthy_int ⟨H,I,q⟩
 |str y=>obtain⟨t,rfl⟩:=rx;obtain⟨hy,e'⟩:y.length<=cf/\k=((y.length:Int) != 0):=e;subst e';exact PySem.P.truthy_str (by omega) ⟨H,I.tok _,q⟩
 |byt y=>obtain⟨t,rfl⟩:=rx;obtain⟨hy,e'⟩:y.size<=cf/\k=((y.size:Int) != 0):=e;subst e';exact PySem.W.truthy_bytes (by omega) ⟨H,I.tok _,q⟩
 |ref p=>
  cases rx;have e':(∃xs,Bd X.K H p xs/\k=!xs.isEmpty)∨(∃xs,Aq X.K H p xs/\k=!xs.isEmpty)∨∃kvs,H p=some (.dK kvs)/\k=!kvs.isEmpty:=e
  rcases e' with⟨xs,hx,e'⟩|⟨xs,hx,e'⟩|⟨kvs,hx,e'⟩
  ·subst e';obtain⟨its,r,pl,hz⟩:=I.list hx;have hlen:=r.length;exact wpAny_truthy_list pl.isList (by simp only[au];omega) ⟨H,I.tok _,by rw[F0 r];exact q⟩
  ·subst e';obtain⟨its,r,pl,hz⟩:=I.tuple hx;have hlen:=r.length;exact truthy_tuple pl (by simp only[au];omega) ⟨H,I.tok _,by rw[F0 r];exact q⟩
  ·subst e';obtain⟨hz,hS,vs,r,m⟩:kvs.length<=cf/\(p==sysModules)=false/\∃vs,KV kvs vs/\s.heap.DictOf (zM X.prog X.w) p vs:=I.hok p _ hx;have hlen:kvs.length=vs.length:=Paired.length r;exact wpAny_truthy_dict hS m (by omega) ⟨H,I.tok _,by rw[SA r];exact q⟩
 |_=>exact(show False from e).elim
theorem SE (ha:PE X a ta) (he:∀whole,isTrue a X.env whole=(do let v <-whole;standAt a.pos;holding [v] (truthy v))):
  PT X a (λσ H Q=>ta σ H λx H'=>∃k,FZ X.K x H' k/\Q k H'):=by
 intro pins s σ H Q I h;exact isTrue_plain (bD (ha pins s σ H _ I h) λv s1 ⟨x,H1,I1,r1,q1⟩=>SD pins s1 σ H1 x v Q I1 r1 q1) (he _)
theorem gG {x:V}{us:List af}(r:Ae [x] us):∃u,us=[u]/\RelV x u:=by
 cases r with
 |cons r1 r2=>cases r2;exact⟨_,rfl,r1⟩
theorem sD {x y:V}{us:List af}(r:Ae [x,y] us):∃u w',us=[u,w']/\RelV x u/\RelV y w':=by
 cases r with
 |cons r1 r2=>
  cases r2 with
  |cons r3 r4=>cases r4;exact⟨_,_,rfl,r1,r3⟩
theorem SF:Af X (.builtin "abs") (λxs H Q=>∃i,xs=[.int i]/\Q (.int (if i<0 then -i else i)) H):=by intro pins s σ H xs us Q I r h;obtain⟨i,rfl,q⟩:=h;obtain⟨u,rfl,t,rfl⟩:=gG r;exact call_abs_int λu tk=>⟨.int (if i<0 then -i else i),H,I.tok _,⟨_,rfl⟩,q⟩
theorem SG (hc:X.calm=true):Af X (.builtin "max") (λxs H Q=>∃i j,xs=[.int i,.int j]/\Q (.int (if j>i then j else i)) H):=by
 intro pins s σ H xs us Q I r h;obtain⟨i,j,rfl,q⟩:=h;obtain⟨u,w',rfl,⟨t,rfl⟩,⟨t',rfl⟩⟩:=sD r;refine max_two_ints (I.ok.hd hc) λh' tk k=>⟨_,H,I.kept k, ?_,q⟩
 by_cases hj:j>i
 ·rw[if_pos hj,if_pos hj];exact⟨_,rfl⟩
 ·rw[if_neg hj,if_neg hj];exact⟨_,rfl⟩
theorem SH (hc:X.calm=true):Af X (.builtin "min") (λxs H Q=>∃i j,xs=[.int i,.int j]/\Q (.int (if j<i then j else i)) H):=by
 intro pins s σ H xs us Q I r h;obtain⟨i,j,rfl,q⟩:=h;obtain⟨u,w',rfl,⟨t,rfl⟩,⟨t',rfl⟩⟩:=sD r;refine min_two_ints (I.ok.hd hc) λh' tk k=>⟨_,H,I.kept k, ?_,q⟩
 by_cases hj:j<i
 ·rw[if_pos hj,if_pos hj];exact⟨_,rfl⟩
 ·rw[if_neg hj,if_neg hj];exact⟨_,rfl⟩
end
section
variable{prog:bh}{w:cp}{A:cn}{E:af->ag->Prop}{s:ag}{K:aq}{x dx C f:ah}{mA:Str->Option af}{name:Str}{v:af}
end
section
variable{P:bh}{w:cp}{H H':Hp}{h h':da}{a C dx:ah}{fs fs':List (Str×V)}
end
section
variable{X:Cx}{pins:List (ah×Obj)}{σ:St}{H:Hp}{s:ag}{a C dx:ah}{fs:List (Str×V)}{f:Str}{v:V}{A:cn}{E:af->ag->Prop}
end
section
variable{X:Cx}{o e value:bq}{f:Str}{pos pos' tpos:Pos}{ta tv:TE}
end
section
variable{X:Cx}{pins:List (ah×Obj)}{σ:St}{H:Hp}{s:ag}{A:cn}{E:af->ag->Prop}{Q:af->ag->Prop}{c:af}{b:Bool}
end
structure Aw (k:Nat) (A:cn):Prop where
 hd:A.handled=none
 dp:A.depth+3*k+5<recursionLimit
 un:A.units+16*k+200<cLine
theorem Aw.mono {j k:Nat}{A:cn}(r:Aw k A) (h:j<=k):Aw j A:=⟨r.hd,by have:=r.dp;omega,by have:=r.un;omega⟩
theorem Aw.deeper {k:Nat}{A:cn}(r:Aw (k+1) A) (env:Env):Aw k (A.deeper env):=⟨r.hd,by have:=r.dp;show A.depth+1+3*k+5<_;omega,by have:=r.un;show A.units+3+16*k+200<_;omega⟩
theorem Aw.depth {k:Nat}{A:cn}(r:Aw k A):A.depth<recursionLimit:=by have:=r.dp;omega
theorem Aw.units {k:Nat}{A:cn}(r:Aw k A):A.units+64<cLine:=by have:=r.un;omega
def F1:TA:=λ_ H Q=>Q [] H
def F2 (ta:TE) (tr:TA):TA:=λσ H Q=>ta σ H λx H1=>tr σ H1 λxs H2=>Q (x::xs) H2
section
variable{X:Cx}{e:bq}{es:List bq}{te:TE}{t:TA}{pos:Pos}
theorem jM:PA X [] F1:=λ_ _ _ _ H Q I h=>Calls.spliced_nil ⟨[],H,I,.nil,h⟩
theorem jC (ha:PE X e te) (hr:PA X es t) (hs:ar (e::es) X.env=(false,eval e X.env)::ar es X.env:=by rfl):PA X (e::es) (F2 te t):=by intro pos pins s σ H Q I h;rw[hs];show wpAny _ _ (spliced ((false,eval e X.env)::backTo pos (ar es X.env))) _ _ s;refine zd (bD (ha pins s σ H _ I h) λu s1 ⟨x,H1,I1,r1,q1⟩=>?_);exact bD (hr pos pins s1 σ H1 _ I1 q1) λus s2 ⟨xs,H2,I2,r2,q2⟩=>⟨x::xs,H2,I2,.cons r1 r2,q2⟩
def SI (t:TA):TE:=λσ H Q=>t σ H λxs H1=>xs.length<=cf/\∀p,H1 p=none->Q (.ref p) (aZ H1 p (.tup xs))
def SJ (t:TA):TE:=λσ H Q=>t σ H λxs H1=>xs.length<=cf/\∀p,H1 p=none->Q (.ref p) (aZ H1 p (.lst xs))
theorem SK {x1} (h:PA X es t):PE X (.Tuple es x1 pos) (SI t):=by intro pins s σ H Q I hq;refine wpAny_Tuple_spliced (bD (h pos pins s σ H _ I hq) λus s1 ⟨xs,H1,I1,r,z,q⟩=>⟨by rw[<-r.length];exact z, ?_⟩);have hf:H1 s1.heap.objs.size=none:=I1.hok.fresh (ak _);refine⟨.ref s1.heap.objs.size,aZ H1 s1.heap.objs.size (.tup xs),I1.laid (t':=s1.toks) (λb u e=>aj _ e) (ak _) ?_,rfl,q _ hf⟩;exact⟨z,us,r,⟨_,az _ rfl,rfl,rfl,_,rfl⟩⟩
theorem SN (h:PA X es t):PE X (.List es pos) (SJ t):=by intro pins s σ H Q I hq;refine wpAny_List_spliced (bD (h pos pins s σ H _ I hq) λus s1 ⟨xs,H1,I1,r,z,q⟩=>⟨by rw[<-r.length];exact z, ?_⟩);have hf:H1 s1.heap.objs.size=none:=I1.hok.fresh (ak _);refine⟨.ref s1.heap.objs.size,aZ H1 s1.heap.objs.size (.lst xs),I1.laid (t':=s1.toks) (λb u e=>aj _ e) (ak _) ?_,rfl,q _ hf⟩;exact⟨z,us,0,r,az _ rfl⟩
end
abbrev Sp:=List V->Hp->VK->XK->Prop
abbrev mF:=List Env->Hp->ag->XK->af->ag->Prop
structure Env0 (P:bh) (w:cp) (K:aq) (mg:Str->Option af) (base:da) (A:cn) (outer:List Env) (s:ag) (H:Hp):Prop where
 frames:A.frames=some outer
 mod:Mod K mg base
 bs:∀b o,base.get? b=some o->s.heap.get? b=some o/\H b=none
 bsz:base.objs.size<=s.heap.objs.size
 funs:s.heap.FunFrames base outer
 frf:∀b∈eQ outer,H b=none
 hok:Bk P w H s.heap
 bare:rl s.gens
def CE (outer:List Env) (P:bh) (w:cp) (H:Hp) (s:ag) (Q:VK) (u:af) (s':ag):Prop:=∃v H',s'.os=s.os/\rl s'.gens/\Un (eQ outer) [] H H' s.heap s'.heap/\Bk P w H' s'.heap/\RelV v u/\Q v H'
def CR (CX:mF) (outer:List Env) (P:bh) (w:cp) (H:Hp) (s:ag) (Q:VK) (E:XK) (r:vt) (s':ag):Prop:=
 match r with
 | .ok (.ret u)=>CE outer P w H s Q u s'
 | .ok _=>False
 | .error e=>CX outer H s E e s'
structure Ah (P:bh) (w:cp) (K:aq) (mg:Str->Option af) (base:da) (CX:mF) (k:Nat) (f:ah) (fd:bj) (ps:zr) (sp:Sp):Prop where
 len:∀vs H Q E,sp vs H Q E->vs.length=ps.length
 run:∀(A:cn) (outer:List Env) (s:ag) (H:Hp) (args:Args) (us:List af) (vs:List V) (Q:VK) (E:XK),Aw k A->Env0 P w K mg base A outer s H->yf s fd args (ps.zip us)->Ae vs us->sp vs H Q E->
  codeAny (model P w) A (.call (.ref f) args) (CR CX outer P w H s Q E) s
section
variable{X:Cx}{pins:List (ah×Obj)}{σ:St}{H:Hp}{s s':ag}
theorem Inv.env0 (I:Inv X pins σ H s):Env0 X.prog X.w X.K X.mg X.base X.A X.stack s H:=⟨I.ok.frames,I.ok.mod,I.bs,dm I.ok.bsz I.sz,I.stack,I.stkFree,I.hok,I.bare⟩
theorem Inv.after {Q:VK}{u:af}(I:Inv X pins σ H s) (h:CE X.stack X.prog X.w H s Q u s'):EP X pins σ Q u s':=by obtain⟨v,H',os,bare,un,hok,r,q⟩:=h;obtain⟨hh,g,d,t,os'⟩:=s';obtain rfl:os'=s.os:=os;exact⟨v,H',I.call (h':=hh) (g':=g) (d':=d) (t':=t) (ch:=[]) un hok bare (λb z=>absurd z (by simp)),r,q⟩
end
def SO (sp:Sp) (dvs:List V) (E:XK) (t:TA):TE:=λσ H Q=>t σ H λvs H1=>sp (vs++dvs) H1 Q E
def Binds (K:aq) (fd:bj) (ps:zr) (ds:List af):Prop:=∀(s:ag) (us:List af),K.In s.heap->(us++ds).length=ps.length->yf s fd ⟨us,[]⟩ (ps.zip (us++ds))
theorem Binds.all {K:aq}{fd:bj}{ps:zr}(h:∀us:List af,us.length=ps.length->bindArgs fd ⟨us,[]⟩=pure (ps.zip us)):Binds K fd ps []:=λs us _ hl=>by rw[rz]at hl ⊢;exact .of_eq (h us hl)
def zW (CX:mF) (X:Cx) (E:XK):Prop:=∀(pins:List (ah×Obj)) (σ:St) (H:Hp) (s:ag) (e:af) (s':ag),Inv X pins σ H s->CX X.stack H s E e s'->X.xe e s'
section
variable{X:Cx}{CX:mF}{k:Nat}{f C:ah}{fd:bj}{ps:zr}{sp:Sp}{dvs:List V}{ds:List af}{E:XK}{x m:Str}{p pos apos:Pos}{e o:bq}{es:List bq}{ta:TE}{t:TA}
theorem SQ {pins:List (ah×Obj)}{σ:St}{H:Hp}{s:ag}{Q:VK}{us:List af}{vs:List V}(F:Ah X.prog X.w X.K X.mg X.base CX k f fd ps sp) (hr:Aw k X.A) (hb:Binds X.K fd ps ds) (hd:Ae dvs ds) (hx:zW CX X E)
  (I:Inv X pins σ H s) (r:Ae vs us) (h:sp (vs++dvs) H Q E):wpAny (model X.prog X.w) X.A (call (.ref f) us) (EP X pins σ Q) X.xe s:=by
 have r2:Ae (vs++dvs) (us++ds):=r.append hd;have hl:(us++ds).length=ps.length:=by rw[<-r2.length];exact F.len _ _ _ _ h
 refine wpAny_call (tm (F.run X.A X.stack s H ⟨us,[]⟩ (us++ds) (vs++dvs) Q E hr I.env0 (hb s us I.kIn hl) r2 h) λr s' hq=>?_)
 cases r with
 |error e=>exact hx pins σ H s e s' I hq
 |ok fl=>
  cases fl with
  |ret u=>exact I.after hq
  |next=>exact ly hq
  |brk=>exact ly hq
  |cont=>exact ly hq
theorem SS (F:Ah X.prog X.w X.K X.mg X.base CX k f fd ps sp) (hr:Aw k X.A) (hg:Gl X x) (hm:X.mg x=some (.ref f)) (hk:pj X.K (.ref f)=true) (hb:Binds X.K fd ps ds) (hd:Ae dvs ds) (hx:zW CX X E)
  (ha:PA X (e::es) t) (Cu:(x==("__debug__" : Str))=false:=by decide) (he:ar (e::es) X.env=(false,eval e X.env)::ar es X.env:=by rfl) (Bj:(backTo pos (ar es X.env)).any (·.1)=false:=by rfl):
  PE X (.Call (.Name x p) (e::es) [] pos) (SO sp dvs E t):=by
 intro pins s σ H Q I h;refine qu (zN I hg hm ?_ Cu);refine PySem.W.callWith_K (h₀:=X.base) I.ok.mod.kin hk (bD (ha pos pins s σ H _ I h) λus s1 ⟨vs,H1,I1,r,q⟩=>⟨I1.kIn, ?_⟩) he Bj;exact SQ F hr hb hd hx I1 r q
end
section
variable{X:Cx}{CX:mF}{k:Nat}{f C:ah}{fd:bj}{ps ks:zr}{sp:Sp}{E:XK}{x m:Str}{p pos apos kpos:Pos}{e o:bq}{es:List bq}{kws:List Keyword}{te ta:TE}{t tk:TA}{nm:Option Str}
variable{g:List af->List af->List af}{gV:List V->List V->List V}
end
structure Ab (N P:zr) (sc:ic):Prop where
 kind:sc.kind=.function
 co:sc.isCoroutine=false
 gen:sc.isGenerator=false
 nd:N.Nodup
 pre:N.take P.length=P
 par:∀x∈P,sc.names.lookup x=some .local∨sc.names.lookup x=some .cell
 nofree:∀y∈sc.names,y.2≠.free
theorem F3 {kindOf:Str->Option kn}{x:Str}:∀{binds:List (Str×af)}{m:Str->Option af},(∀v,(x,v)∉binds)->bindL kindOf binds m x=m x
 | [],_,_=>rfl
 |(n,v)::r,m,h=>by
  unfold bindL;rw[F3 λw hw=>h w (ao _ hw)]
  split
  ·have:x≠n:=by rintro rfl;exact h v ax
   simp[this]
  ·rfl
theorem F5 {kindOf:Str->Option kn}{x:Str}:∀{binds:List (Str×af)}{m:Str->Option af},(∀v,(x,v)∉binds)->bindC kindOf binds m x=m x
 | [],_,_=>rfl
 |(n,v)::r,m,h=>by
  unfold bindC;rw[F5 λw hw=>h w (ao _ hw)]
  split
  ·rfl
  ·have:x≠n:=by rintro rfl;exact h v ax
   simp[this]
theorem F6 {kindOf:Str->Option kn}{x:Str}{v:af}:∀{P:zr}{vs:List af}{i:Nat}{m:Str->Option af},P.Nodup->P[i]?=some x->vs[i]?=some v->kindOf x=some .local->
  bindL kindOf (P.zip vs) m x=some v
 | [],_,_,_,_,h,_,_=>by simp at h
 |_::_,[],_,_,_,_,h,_=>by simp at h
 |p::P,w::vs,0,m,nd,h1,h2,hk=>by simp at h1 h2;subst h1;subst h2;show bindL kindOf ((p,w)::P.zip vs) m p=_;unfold bindL;rw[F3 λv hv=>(iq.mp nd).1 (wd hv).1,if_pos hk];simp
 |p::P,w::vs,i+1,m,nd,h1,h2,hk=>by show bindL kindOf ((p,w)::P.zip vs) m x=_;unfold bindL;exact F6 (i:=i) (iq.mp nd).2 (by simpa using h1) (by simpa using h2) hk
theorem F7 {kindOf:Str->Option kn}{x:Str}{v:af}:∀{P:zr}{vs:List af}{i:Nat}{m:Str->Option af},P.Nodup->P[i]?=some x->vs[i]?=some v->kindOf x≠some .local->
  bindC kindOf (P.zip vs) m x=some v
 | [],_,_,_,_,h,_,_=>by simp at h
 |_::_,[],_,_,_,_,h,_=>by simp at h
 |p::P,w::vs,0,m,nd,h1,h2,hk=>by simp at h1 h2;subst h1;subst h2;show bindC kindOf ((p,w)::P.zip vs) m p=_;unfold bindC;rw[F5 λv hv=>(iq.mp nd).1 (wd hv).1,if_neg hk];simp
 |p::P,w::vs,i+1,m,nd,h1,h2,hk=>by show bindC kindOf ((p,w)::P.zip vs) m x=_;unfold bindC;exact F7 (i:=i) (iq.mp nd).2 (by simpa using h1) (by simpa using h2) hk
def start (N:zr) (vs:List V):St:=vs.map some++List.replicate (N.length - vs.length) none
def kP (CX:mF) (P:bh) (w:cp) (K:aq) (mg:Str->Option af) (base:da) (N:zr) (qual:Str) (scope:ic) (f:ah) (cd:af) (A:cn) (outer:List Env) (s:ag) (H:Hp) (E:XK):Cx where
 prog:=P
 w:=w
 K:=K
 mg:=mg
 base:=base
 A:=A.deeper (envOfC qual scope s.heap.objs.size f cd)
 N:=N
 s₀:=s
 H₀:=H
 env:=envOfC qual scope s.heap.objs.size f cd
 outer:=outer
 stack:=envOfC qual scope s.heap.objs.size f cd::outer
 ex:=[]
 calm:=true
 fn:=λ_=>true
 pn:=[]
 xe:=λe s'=>wpAny (model P w) (A.deeper (envOfC qual scope s.heap.objs.size f cd)) (leaving (envOfC qual scope s.heap.objs.size f cd) e) (λ_ s''=>CX outer H s E e s'') (λe' s''=>CX outer H s E e' s'') s'
theorem F8 {sc:ic}{n:Nat}{x:Str}(h:sc.names.lookup x=some .cell):∃c,(cellsFrom n sc.names []).lookup x=some c:=by have q:=xl sc.names n [] (.inl h);exact xc.mp q
theorem SU {CX:mF}{P:bh}{w:cp}{K:aq}{mg:Str->Option af}{base:da}{N ps:zr}{qual:Str}{scope:ic}{f:ah}{cd:af}{A:cn}{outer:List Env}{s s1:ag}{H:Hp}{E:XK}{us:List af}{vs:List V}
  (S:Ab N ps scope) (hd:A.handled=none) (e0:Env0 P w K mg base A outer s H) (hl:vs.length=ps.length) (r:Ae vs us)
  (x:InCallC s s.heap.objs.size (bindL (envOfC qual scope s.heap.objs.size f cd).kindOf (ps.zip us) λ_=>none) (cellsFrom (s.heap.objs.size+1) scope.names []) (bindC (envOfC qual scope s.heap.objs.size f cd).kindOf (ps.zip us) λ_=>none) s1):
  Inv (kP CX P w K mg base N qual scope f cd A outer s H E) [] (start N vs) H s1:=by
 have Bj:ps.length<=N.length:=by have:=congrArg qj S.pre;rw[jj]at this;omega
 obtain⟨h1,tk,rfl,hk⟩:=x.done;have noA:∀b:ah,b∉(kP CX P w K mg base N qual scope f cd A outer s H E).ex:=λb z=>absurd (show b∈([]:List ah) from z) (by simp);refine⟨⟨e0.mod,S.kind,rfl,rfl,ak _,λy z c h1 h2=>?_,λy hy=>?_,λy c _ h=>?_,λ_=>hd,Around.frames_deeper e0.frames,.inr ⟨rfl,rfl⟩,λb z=>absurd z (noA b),e0.bs,e0.bsz,λb _ _=>noA b,λb z=>absurd z (noA b),e0.funs,e0.frf⟩,
  rfl,e0.bare,Un.kept hk,⟨_,x.toInCall.ns,λi y v h1 h2 h3=>?_⟩,λy c h=>⟨_,x.cell y c h⟩,e0.hok.fresh (ak _),λy c h=>?_,λp hp=>absurd (show p∈([]:List (ah×Obj)) from hp) (by simp),e0.hok.kept hk, ?_⟩
 ·exact name_of_addr x.apart (jh h1) (jh h2)
 ·have hy:scope.names.lookup y=some .cell∨scope.names.lookup y=some .free:=hy
  rcases hy with hy|hy
  ·exact F8 hy
  ·exact absurd rfl (S.nofree _ (jh hy))
 ·exact ij (x.above y c (jh h))
 ·have hi:i<vs.length:=by
   unfold start at h2
   by_cases hi:i<vs.length
   ·exact hi
   ·rw[ig (by simpa using hi)]at h2;rw[ya]at h2
    split at h2 <;> cases h2
  have ha:vs[i]?=some v:=by
   unfold start at h2;rw[fo (by simpa using hi),fw]at h2
   cases e:vs[i]? with
   |none=>rw[e]at h2;cases h2
   |some a=>rw[e]at h2;cases h2;rfl
  obtain⟨u,hu,rv⟩:=r.get ha;have hp:ps[i]?=some y:=by rw[<-S.pre,xv (by omega)];exact h1
  have ndP:ps.Nodup:=by rw[<-S.pre];exact S.nd.sublist (List.take_sublist _ _)
  refine⟨u,rv, ?_⟩
  rcases S.par y (di hp)with k|k
  ·exact .inl ⟨k,F6 ndP hp hu k⟩
  ·obtain⟨c,e⟩:=F8 (n:=s.heap.objs.size+1) k;refine .inr ⟨.inl k,c,e, ?_⟩;have q:=x.cell y c e;rw[F7 ndP hp hu (by show scope.names.lookup y≠_;rw[k];decide)]at q;exact q
 ·exact e0.hok.fresh (ij (x.above y c (jh h)))
 ·unfold start;show _=N.length;rw[bw,ba,List.length_replicate];omega
theorem F9 {CX:mF}{P:bh}{w:cp}{K:aq}{mg:Str->Option af}{base:da}{k:Nat}{f:ah}{name qual:Str}{params:pg}{body:List gf}{scope:ic}{dV kV doc pm cdv ct oc:af}{an od:Option ah}
  {osl:Array (Option af)}{N ps:zr}{sp:Sp}(lk:K.lookup f=some ⟨oc,od,.func (ou name qual params body scope dV kV doc pm an cdv ct),osl⟩) (hcd:vv K cdv qual=true) (S:Ab N ps scope)
  (len:∀vs H Q E,sp vs H Q E->vs.length=ps.length)
  (Cv:∀(A:cn) (outer:List Env) (s:ag) (H:Hp) (vs:List V) (Q:VK) (E:XK),Aw k (A.deeper (envOfC qual scope s.heap.objs.size f cdv))->sp vs H Q E->
   ∃t,Di (kP CX P w K mg base N qual scope f cdv A outer s H E) body t/\t { nx:=λ_ H'=>Q .non H',rt:=Q } (start N vs) H):
  Ah P w K mg base CX (k+1) f (ou name qual params body scope dV kV doc pm an cdv ct) ps sp:=by
 refine⟨len,λA outer s H args us vs Q E hr e0 hb r hsp=>?_⟩;have hl:=len _ _ _ _ hsp;have KX:K.In s.heap:=e0.mod.kin.keeps λb o e=>(e0.bs b o e).1;have lim:s.heap.NoLimit:=e0.mod.nolimit.keeps λb o e=>(e0.bs b o e).1;have hkind:∀y∈ps.zip us,scope.names.lookup y.1=some .local∨(scope.names.lookup y.1=some .cell/\((cellsFrom (s.heap.objs.size+1) scope.names []).lookup y.1).isSome=true):=λ⟨n,v⟩ hy=>by
  rcases S.par n (wd hy).1 with q|q
  ·exact .inl q
  ·exact .inr ⟨q,xl _ _ _ (.inl q)⟩
 refine codeAny_call_function hr.depth (KX _ _ lk) rfl S.co S.gen rfl (PySem.W.codeRec_of KX hcd) (hb _ _ _ _ ?_);refine wpAny_newFunctionEnv_cells S.kind hkind λenv he s1 x=>?_;subst he;refine⟨lim.keeps x.toInCall.keep,codeAny_func ?_⟩;obtain⟨t,ht,hq⟩:=Cv A outer s H vs Q E (hr.deeper _) hsp;have I:Inv (kP CX P w K mg base N qual scope f cdv A outer s H E) [] (start N vs) H s1:=SU S hr.hd e0 hl r x;refine qt (ht [] s1 (start N vs) H _ I hq) (λfl s' hs=>?_) λe s' hs=>hs;have fin:∀{σ':St}{H':Hp}{v:V}{u:af},Inv (kP CX P w K mg base N qual scope f cdv A outer s H E) [] σ' H' s'->RelV v u->Q v H'->CE outer P w H s Q u s':=λ{σ' H' v u} J rv q=>⟨v,H',J.os,J.bare,J.base,J.hok,rv,q⟩
 cases fl with
 |ret u=>obtain⟨v,σ',H',J,rv,q⟩:=hs;exact fin J rv q
 |next=>obtain⟨σ',H',J,q⟩:=hs;exact fin (v:=V.non) (u:=jk) J rfl q
 |brk=>obtain⟨_,_,_,q⟩:=hs;exact ly q
 |cont=>obtain⟨_,_,_,q⟩:=hs;exact ly q
section
variable{X:Cx}{x:Str}{p pos:Pos}{e:bq}{es:List bq}{t:TA}{id T:String}{r:List V->Hp->VK->Prop}
def vI (r:List V->Hp->VK->Prop) (t:TA):TE:=λσ H Q=>t σ H λvs H1=>r vs H1 Q
theorem sE (hc:Af X (.builtin id) r) (hg:Gl X x) (hm:X.mg x=none) (hv:dj x=some (.builtin id)) (ha:PA X (e::es) t) (hn:x ≠ "__name__" := by decide) (Cu:(x==("__debug__" : Str))=false:=by decide)
  (he:ar (e::es) X.env=(false,eval e X.env)::ar es X.env:=by rfl) (Bj:(backTo pos (ar es X.env)).any (·.1)=false:=by rfl):PE X (.Call (.Name x p) (e::es) [] pos) (vI r t):=by
 intro pins s σ H Q I h;refine qu (oJ I hg hm hv ?_ hn Cu);exact PyProof.Rows.callWith_builtin1 (bD (ha pos pins s σ H _ I h) λus s1 ⟨vs,H1,I1,r1,q1⟩=>hc pins s1 σ H1 vs us Q I1 r1 q1) he Bj
theorem qB (hc:Af X (.type T) r) (hg:Gl X x) (hm:X.mg x=none) (hv:dj x=some (.type T)) (ha:PA X (e::es) t) (hn:x ≠ "__name__" := by decide) (Cu:(x==("__debug__" : Str))=false:=by decide)
  (he:ar (e::es) X.env=(false,eval e X.env)::ar es X.env:=by rfl) (Bj:(backTo pos (ar es X.env)).any (·.1)=false:=by rfl):PE X (.Call (.Name x p) (e::es) [] pos) (vI r t):=by
 intro pins s σ H Q I h;refine qu (oJ I hg hm hv ?_ hn Cu);exact jx (bD (ha pos pins s σ H _ I h) λus s1 ⟨vs,H1,I1,r1,q1⟩=>hc pins s1 σ H1 vs us Q I1 r1 q1) he Bj
end
end L2
namespace HT
open PySem PyProof.Rows
def lexLt:zo->zo->Bool
 | [],[]=>false
 | [],_::_=>true
 |_::_,[]=>false
 |x::xs,y::ys=>if x=y then lexLt xs ys else decide (x<y)
theorem lexLt_cons (x y:Int) (xs ys:zo):lexLt (x::xs) (y::ys)=if x=y then lexLt xs ys else decide (x<y):=rfl
theorem SV:lexLt [] []=false:=rfl
theorem SW (y:Int) (ys:zo):lexLt [] (y::ys)=true:=rfl
theorem SX (x:Int) (xs:zo):lexLt (x::xs) []=false:=rfl
theorem SY (A:cn) (s:ag) (a:Int) (t:Tok) (c:Int) (u:Tok):∃e,jz A s (.int a t) (.int c u) e/\(e=true↔a=c):=⟨(a==c),SeqAt.EqAt.int_int a t c u,by simp⟩
theorem S0 (A:cn) (s:ag) (a:Int) (t:Tok) (c:Int) (u:Tok) (prog:bh) (w:cp) (E:af->ag->Prop) (Q:af->ag->Prop) (h:Q (.bool (decide (a<c))) s):
  wpAny (model prog w) A (richCompare .Lt (.int a t) (.int c u)) Q E s:=
 (wu h:wpAny (model prog w) A (compareOp .Lt (.int a t) (.int c u)) Q E s)
section
open PySem.SeqAt
open PySem.AutoSeq1 (wpAny_loadPart')
open PySem.MeetsSeq PySem.MeetsSeq2 PySem.MeetsSeq3
theorem S1 (l b:ah) (items Bb:Array af) (n n2:Nat) (dd dd2:Option ah) (sl sl2:Array (Option af)) (ns ms:zo) (hi:kd items.toList ns) (hj:kd Bb.toList ms):
  Meets (kz.«tuple.__lt__» ⟨[.ref l,.ref b],[]⟩)
   (λ_ R s=>s.heap.get? l=some { cls:=.type "tuple",dict:=dd,data:=.seq items n,slots:=sl }/\s.heap.get? b=some { cls:=.type "tuple",dict:=dd2,data:=.seq Bb n2,slots:=sl2 } /\
    R (.ok (.ret (.bool (lexLt ns ms)))) s):=
 .of_wp λprog w A R s h=>by
  obtain⟨hp,g,d,tk,os⟩:=s;obtain⟨hl,hb,h⟩:=h;have f2:=AutoSeq1.sub_tuple_tuple;have z1:items.size=ns.length:=by rw[<-hi.length];simp
  have z2:Bb.size=ms.length:=by rw[<-hj.length];simp
  wp_walk using wpAny_loadPart' hl,wpAny_loadPart' hb,pq _ (λrest b s'=>b.1=none/\s'=⟨hp,g,d,tk,os⟩/\∃(vs ws:List af) (ns' ms':zo),rest=vs.zip ws /\
   kd vs ns'/\kd ws ms'/\ns'.length+Bb.size=ms'.length+items.size/\R (.ok (.ret (.bool (lexLt ns' ms')))) ⟨hp,g,d,tk,os⟩) _
  case turn=>
   rintro ⟨y,x⟩ rest b s' ⟨hb',rfl,vs,ws,ns',ms',hz,hvi,hwi,hlen,hR⟩
   cases hvi with
   |nil=>rw[List.zip_nil_left]at hz;cases hz
   |cons a t hvi'=>
    cases hwi with
    |nil=>rw[List.zip_nil_right]at hz;cases hz
    |cons c u hwi'=>
     rw[List.zip_cons_cons]at hz;injection hz with hyx hrest;injection hyx with hy hx;subst hy hx;rw[lexLt_cons]at hR;simp only[cy]at hlen;obtain⟨e,he,hiff⟩:=SY A.in1 ⟨hp,g,d,tk,os⟩ a t c u;refine ae (he prog w _ _ ?_)
     cases e with
     |true=>
      rw[if_pos (hiff.mp rfl)]at hR
      wp_walk
      exact⟨rfl,rfl,_,_,_,_,hrest,hvi',hwi',by omega,hR⟩
     |false=>
      rw[if_neg (λq=>absurd (hiff.mpr q) iz)]at hR;have hri:=S0 A.in1 ⟨hp,g,d,tk,os⟩ a t c u prog w
      wp_walk using hri
      exact⟨_,rfl,by simpa using hR⟩
  case fin=>
   rintro ⟨b1,b2⟩ s' ⟨hb',rfl,vs,ws,ns',ms',hz,hvi,hwi,hlen,hR⟩
   simp only at hb';subst hb';have hv:lexLt ns' ms'=decide (items.size<Bb.size):=by
    cases hvi with
    |nil=>
     cases hwi with
     |nil=>simp only[oz]at hlen;rw[SV];exact(decide_eq_false (by omega)).symm
     |cons c u hw=>simp only[oz,cy]at hlen;rw[SW];exact(decide_eq_true (by omega)).symm
    |cons a t hv=>
     cases hwi with
     |nil=>simp only[oz,cy]at hlen;rw[SX];exact(decide_eq_false (by omega)).symm
     |cons c u hw=>rw[List.zip_cons_cons]at hz;cases hz
   rw[hv]at hR
   wp_walk
   exact⟨_,rfl,by simpa[Builtin.Tuple.tupleCompareSizes]using hR⟩
  case h=>exact⟨rfl,rfl,items.toList,Bb.toList,ns,ms,rfl,hi,hj,by omega,h⟩
end
section
variable{prog:bh}{w:cp}{A:cn}{E:af->ag->Prop}{s:ag}
theorem lt_tupInts {l b:ah}{items Bb:Array af}{ns ms:zo}{Q:af->ag->Prop}(hl:yj s.heap l items) (hb:yj s.heap b Bb) (hi:kd items.toList ns) (hj:kd Bb.toList ms)
  (hu:A.units<cLine) (h:Q (.bool (lexLt ns ms)) s):wpAny (model prog w) A (compareOp .Lt (.ref l) (.ref b)) Q E s:=by
 obtain⟨⟨cls,dd,data,sl⟩,ho,hc,n,hd⟩:=id hl;obtain⟨⟨cls2,dd2,data2,sl2⟩,ho2,hc2,n2,hd2⟩:=id hb;simp only at hc hd hc2 hd2;subst hc hd hc2 hd2;exact richCompare_meets_room (op:=.Lt) ⟨_,ho,rfl⟩ ⟨_,ho2,rfl⟩ PySem.F.slot_tuple_lt PySem.F.entry_tuple_lt (PySem.F.args_tuple_lt_2 _ _) (S1 l b items Bb n n2 dd dd2 sl sl2 ns ms hi hj)
  ⟨ho,ho2,show uc (lexLt ns ms)≠Value.notImplemented/\Q (.bool (lexLt ns ms)) s from⟨(λx=>nomatch x),h⟩⟩ hu
theorem cat_tup {t b:ah}{vs ws:List af}{Q:af->ag->Prop}(ht:yj s.heap t vs.toArray) (hb:yj s.heap b ws.toArray) (hv:vs≠[])
  (h1:ws=[]->Q (.ref t) s) (h2:ws≠[]->Q (.ref s.heap.objs.size) { s with heap:=s.heap.push { cls:=.type "tuple",data:=.seq (vs++ws).toArray } })
  (Bl:vs.length+ws.length<=cf):wpAny (model prog w) A (binaryOp .Add (.ref t) (.ref b)) Q E s:=by
 obtain⟨⟨cls,dd,data,sl⟩,ho,hc,n,hd⟩:=id ht;obtain⟨⟨cls2,dd2,data2,sl2⟩,ho2,hc2,n2,hd2⟩:=id hb;simp only at hc hd hc2 hd2;subst hc hd hc2 hd2;have e:vs.toArray++ws.toArray=(vs++ws).toArray:=by simp
 by_cases hw:ws=[]
 ·exact concat_meets ⟨_,ho,rfl⟩ ⟨_,ho2,rfl⟩ xm ze qv qk (qg _ _)
   (tuple_addW1 t b vs.toArray ws.toArray n n2 dd dd2 sl sl2 (by simpa using hv) (by simp[hw])) ⟨ho,ho2,h1 hw⟩
 ·refine concat_meets ⟨_,ho,rfl⟩ ⟨_,ho2,rfl⟩ xm ze qv qk (qg _ _)
   (tuple_addW2 t b vs.toArray ws.toArray n n2 dd dd2 sl sl2 (by simpa using hv) (by simpa using hw) (by rw[au,au];exact Bl)) ⟨ho,ho2, ?_⟩
  rw[e];exact h2 hw
def sIx (n d:Nat):Option Int->Nat
 |none=>d
 |some v=>if v<0 then(v+(n:Int)).toNat else min v.toNat n
theorem sIx_none (n d:Nat):sIx n d none=d:=rfl
theorem sIx_nat (n d k:Nat):sIx n d (some (k:Int))=min k n:=by show(if(k:Int)<0 then((k:Int)+(n:Int)).toNat else min (k:Int).toNat n)=min k n;rw[if_neg (by omega),gb]
theorem S3 (n d:Nat) (hd:d<=n) (o:Option Int):sIx n d o<=n:=by
 cases o with
 |none=>exact hd
 |some v=>
  show(if v<0 then(v+(n:Int)).toNat else min v.toNat n)<=n
  by_cases hv:v<0
  ·rw[if_pos hv];omega
  ·rw[if_neg hv];exact Nat.min_le_right _ _
theorem GA (v:Int) (n d:Nat):(if v<0 then max (v+(n:Int)) 0 else min v (n:Int))=((sIx n d (some v):Nat):Int):=by
 show(if v<0 then max (v+(n:Int)) 0 else min v (n:Int))=(((if v<0 then(v+(n:Int)).toNat else min v.toNat n):Nat):Int)
 by_cases hv:v<0
 ·simp only[if_pos hv];omega
 ·simp only[if_neg hv];omega
theorem S4 (lo hi:Option Int) (n:Nat):oi lo hi 1 (n:Int)=(((sIx n 0 lo:Nat):Int),((sIx n n hi:Nat):Int)):=by
 have h1:¬ ((1:Int)<0):=by omega
 unfold oi;simp only[h1,if_false];refine Prod.ext ?_ ?_
 ·cases lo with
  |none=>rfl
  |some v=>exact GA v n 0
 ·cases hi with
  |none=>rfl
  |some v=>exact GA v n n
theorem S5 (i j:Nat):kh (i:Int) (j:Int) 1=j - i:=by
 unfold kh;have h1:(1:Int)>0:=by omega
 simp only[h1,if_true,Int.ediv_one]
 split <;> omega
theorem GB {v:af}{o:Option Int}{Q:Option Int->ag->Prop}(p:uk v o) (h:Q o s):wpAny (model prog w) A (Builtin.Slice.slicePartIndex v) Q E s:=by
 cases p with
 |none=>exact slicePart_none h
 |int i t=>exact slicePart_int h
theorem sliceApplied_gen {sl:ah}{vl vu:af}{lo hi:Option Int}{n:Nat}{Q:Int×Int×Nat->ag->Prop}(hs:s.heap.IsSliceOf sl vl vu .none) (pl:uk vl lo) (pu:uk vu hi)
  (h:Q (((sIx n 0 lo:Nat):Int),1,sIx n n hi - sIx n 0 lo) s):wpAny (model prog w) A (uf (.ref sl) (pure (n:Int))) Q E s:=by
 obtain⟨os,hos,hcs,hds⟩:=id hs;unfold uf Builtin.Slice.sliceFields;refine ae (ae (fq hos hds (x:=vl) rfl (ae (fq hos hds (x:=vu) rfl (ae (fq hos hds (x:=.none) rfl (ai ?_)))))));refine ae (slicePart_none ?_);show wpAny _ _ (if((1:Int)==0)=true then _ else _) _ _ s;rw[if_neg (by decide)];refine ae (GB pl (ae (GB pu (ae (ai ?_)))));show wpAny _ _ (match oi lo hi 1 (n:Int)with|(lo,hi)=>pure (lo,(1:Int),kh lo hi 1)) _ _ s;rw[S4 lo hi n];show wpAny _ _ (pure (((sIx n 0 lo:Nat):Int),(1:Int),kh ((sIx n 0 lo:Nat):Int) ((sIx n n hi:Nat):Int) 1)) _ _ s;rw[S5];exact ai h
theorem S6 (xs:Array af) (i k:Nat):((ay k).filterMap λ(m:Nat)=>xs[((i:Int)+(m:Int)*1).toNat]?).toArray=((xs.toList.drop i).take k).toArray:=by
 have e:(λ(m:Nat)=>xs[((i:Int)+(m:Int)*1).toNat]?)=λm=>xs[i+m]?:=by
  funext m
  have:((i:Int)+(m:Int)*1).toNat=i+m:=by omega
  rw[this]
 rw[e];have:=pick_run xs i k;rw[List.filterMap_map]at this;have e2:((λx=>xs[x]?)∘λx=>i+x)=λm=>xs[i+m]?:=rfl;rw[e2]at this;rw[this]
theorem getItem_tuple_cut {t sl:ah}{items:Array af}{vl vu:af}{lo hi:Option Int}{Q:af->ag->Prop}(ht:yj s.heap t items) (hs:s.heap.IsSliceOf sl vl vu .none) (pl:uk vl lo) (pu:uk vu hi)
  (hw:¬ (sIx items.size 0 lo=0/\sIx items.size items.size hi=items.size))
  (h:Q (.ref s.heap.objs.size) { s with heap:=s.heap.push { cls:=.type "tuple",data:=.seq ((items.toList.drop (sIx items.size 0 lo)).take (sIx items.size items.size hi - sIx items.size 0 lo)).toArray } })
  (Bl:items.size<=cf):wpAny (model prog w) A (getItem (.ref t) (.ref sl)) Q E s:=by
 have htake:sizeOk (.seq ((items.toList.drop (sIx items.size 0 lo)).take (sIx items.size items.size hi - sIx items.size 0 lo)).toArray):=by show((items.toList.drop (sIx items.size 0 lo)).take (sIx items.size items.size hi - sIx items.size 0 lo)).toArray.size<=cf;rw[au,jj,oh,lb];omega
 have hj:sIx items.size items.size hi<=items.size:=S3 _ _ (ak _) hi;obtain⟨os,hos,hcs,hds⟩:=id hs;have hTs:s.TypeIs (.ref sl) "slice" := ⟨os,hos,hcs⟩;unfold getItem
 try with_reducible refine fz ?_
 first|refine ae (ai ?_)|skip
 refine ae (wpAny_sequenceKey ht.typeIs (by decide) ?_);refine ae (gh (name:=lg "__getitem__") ht.typeIs fv
  (gc fv ht.typeIs entry_tuple_getitem ?_ (args_tuple_getitem _ _)))
 show wpAny _ _ (ug (.ref t) >>= _) _ _ s;refine ae (zf ht ?_);refine ae (ql hTs ?_);rw[if_pos (by decide)];refine ae (sliceApplied_gen hs pl pu ?_);have hno:¬ ((((sIx items.size 0 lo:Nat):Int)==0&&(1:Int)==1&&(sIx items.size items.size hi - sIx items.size 0 lo)==items.size)=true):=by intro q;rw[cw,cw]at q;have q1:((sIx items.size 0 lo:Nat):Int)=0:=eq_of_beq q.1.1;have q2:sIx items.size items.size hi - sIx items.size 0 lo=items.size:=eq_of_beq q.2;exact hw ⟨by omega,by omega⟩
 show wpAny _ _ (if(((sIx items.size 0 lo:Nat):Int)==0&&(1:Int)==1&&(sIx items.size items.size hi - sIx items.size 0 lo)==items.size)=true then _ else _) _ _ s;rw[if_neg hno,S6]
 first
  |exact ae (m:=ki _) (fg (ai ⟨_,rfl,ai h⟩) htake)
  |exact ae (m:=ki _) (fg (ae (ai (ai ⟨_,rfl,ai h⟩))) htake)
  |exact ae (ae (m:=ki _) (fg (ai (ai ⟨_,rfl,ai h⟩)) htake))
  |exact ae (ae (m:=ki _) (fg (ai ⟨_,rfl,ai h⟩) htake))
end
end HT
namespace L2
open PySem PySem.Spec PyProof.Rows
abbrev TO:=St->Hp->(Option Int->Hp->Prop)->Prop
def PO (X:Cx) (e:Option bq) (t:TO):Prop:=
 ∀(pins:List (ah×Obj)) (s:ag) (σ:St) (H:Hp) (Q:Option Int->Hp->Prop),Inv X pins σ H s->t σ H Q->
  wpAny (model X.prog X.w) X.A (evalPart e X.env) (λu s'=>∃o H',Inv X pins σ H' s'/\uk u o/\Q o H') X.xe s
def S7:TO:=λ_ H Q=>Q none H
def S8 (t:TE):TO:=λσ H Q=>t σ H λx H1=>∃i,x=.int i/\Q (some i) H1
theorem GC {ns:zo}:∀{us:List af},Ae (ns.map V.int) us->kd us ns:=by
 induction ns with
 |nil=>intro us r;rw[yg]at r;cases r;exact .nil
 |cons n ns ih=>
  intro us r;rw[df]at r
  cases r with
  |cons r1 r2=>obtain⟨t,e⟩:=r1;subst e;exact .cons n t (ih r2)
section
variable{X:Cx}{e:bq}{te:TE}{lo hi:Option bq}{tl th:TO}{pos p2:Pos}
theorem S9:PO X none S7:=by intro pins s σ H Q I h;rw[evalPart_none];exact ai ⟨none,H,I,.none,h⟩
theorem TB (h:PE X e te):PO X (some e) (S8 te):=by intro pins s σ H Q I hw;rw[evalPart_some];refine bD (h pins s σ H _ I hw) λu s1 ⟨x,H1,I1,r1,q1⟩=>?_;obtain⟨i,rfl,q⟩:=q1;obtain⟨t,rfl⟩:=r1;exact⟨some i,H1,I1,.int i t,q⟩
def SlR (X:Cx) (r:V->Option Int->Option Int->Hp->VK->Prop):Prop:=
 ∀(pins:List (ah×Obj)) (s:ag) (σ:St) (H:Hp) (x:V) (v vl vu:af) (lo hi:Option Int) (sl:ah) (Q:VK),Inv X pins σ H s->RelV x v->s.heap.IsSliceOf sl vl vu .none->uk vl lo->uk vu hi->r x lo hi H Q->
  ∃T id,typeLookup (.type T) "__getitem__" = pure (some (.builtin id))/\s.TypeIs v T/\wpAny (model X.prog X.w) X.A (getItem v (.ref sl)) (EP X pins σ Q) X.xe s
theorem SlR.or {r r':V->Option Int->Option Int->Hp->VK->Prop}(h:SlR X r) (h':SlR X r'):SlR X (λx lo hi H Q=>r x lo hi H Q∨r' x lo hi H Q):=by
 intro pins s σ H x v vl vu lo hi sl Q I rx hs pl pu q
 rcases q with q|q
 ·exact h pins s σ H x v vl vu lo hi sl Q I rx hs pl pu q
 ·exact h' pins s σ H x v vl vu lo hi sl Q I rx hs pl pu q
def TF (r:V->Option Int->Option Int->Hp->VK->Prop) (te:TE) (tl th:TO):TE:=λσ H Q=>te σ H λx H1=>tl σ H1 λl H2=>th σ H2 λu H3=>r x l u H3 Q
theorem TH {r:V->Option Int->Option Int->Hp->VK->Prop}(hr:SlR X r) (he:PE X e te) (hl:PO X lo tl) (hu:PO X hi th):PE X (.Subscript e (.Slice lo hi none p2) pos) (TF r te tl th):=by intro pins s σ H Q I h;refine Subscript_ (bD (he pins s σ H _ I h) λv s1 ⟨x,H1,I1,r1,q1⟩=>?_);refine wpAny_Slice (bD (hl pins s1 σ H1 _ I1 q1) λvl s2 ⟨l,H2,I2,pl,q2⟩=>bD (hu pins s2 σ H2 _ I2 q2) λvu s3 ⟨u,H3,I3,pu,q3⟩=>?_);rw[evalPart_none];refine ai ?_;have I4:Inv X pins σ H3 { s3 with heap:=s3.heap.push { cls:=.type "slice",data:=.fields #[vl,vu,.none] } }:=I3.kept (t':=s3.toks) λb ob q=>aj _ q;obtain⟨T,id,hT,ht,hg⟩:=hr pins { s3 with heap:=s3.heap.push { cls:=.type "slice",data:=.fields #[vl,vu,.none] } } σ H3 x v vl vu l u s3.heap.objs.size Q I4 r1 (Heap.IsSliceOf.new ..) pl pu q3;show wpAny (model X.prog X.w) X.A (subscriptTail e (.Slice lo hi none p2) v (.ref s3.heap.objs.size)) (EP X pins σ Q) X.xe { s3 with heap:=s3.heap.push { cls:=.type "slice",data:=.fields #[vl,vu,.none] } };exact tail_any (ops:=[.ref s3.heap.objs.size,v]) ht hT hg (by with_unfolding_all rfl)
def nK (xs:List V) (lo hi:Option Int):List V:=(xs.drop (HT.sIx xs.length 0 lo)).take (HT.sIx xs.length xs.length hi - HT.sIx xs.length 0 lo)
theorem GD (xs:List V) (lo hi:Option Int):(nK xs lo hi).length<=xs.length:=by unfold nK;rw[jj,oh];omega
def TJ (K:aq):V->Option Int->Option Int->Hp->VK->Prop:=λx lo hi H Q=>∃a xs,x=.ref a/\Aq K H a xs /\
 ¬ (HT.sIx xs.length 0 lo=0/\HT.sIx xs.length xs.length hi=xs.length)/\∀p,H p=none->Q (.ref p) (aZ H p (.tup (nK xs lo hi)))
theorem TL:SlR X (TJ X.K):=by
 intro pins s σ H x v vl vu lo hi sl Q I rx hs pl pu h;obtain⟨a,xs,rfl,hx,hw,q⟩:=h;cases rx;obtain⟨its,r,ht,hz⟩:=I.tuple hx;have hlen:its.toArray.size=xs.length:=by rw[au];exact r.length.symm
 refine⟨"tuple",_,fv.lookup,ht.typeIs, ?_⟩;refine HT.getItem_tuple_cut ht hs pl pu (by rw[hlen];exact hw) ?_ (by rw[hlen];exact hz);rw[hlen];refine⟨.ref s.heap.objs.size,_,I.laid (t':=s.toks) (o:=.tup (nK xs lo hi)) (λb ob q=>aj _ q) (ak _) ?_,rfl,q _ (I.hok.fresh (ak _))⟩;exact⟨dm (GD xs lo hi) hz,_,(r.drop (HT.sIx xs.length 0 lo)).take (HT.sIx xs.length xs.length hi - HT.sIx xs.length 0 lo),Az.new _ _⟩
def GF (K:aq):R2:=λx y H Q=>∃a b ns ms,x=.ref a/\y=.ref b/\Aq K H a (ns.map V.int)/\Aq K H b (ms.map V.int)/\Q (.bl (HT.lexLt ns ms)) H
theorem GG (hu:X.A.units<cLine):Be X (compareOp .Lt) (GF X.K):=by intro pins s σ H x y v u Q I rx ry h;obtain⟨a,b,ns,ms,rfl,rfl,ha,hb,q⟩:=h;cases rx;cases ry;obtain⟨its,r1,p1,_⟩:=I.tuple ha;obtain⟨Bm,r2,p2,_⟩:=I.tuple hb;have i1:kd its.toArray.toList ns:=GC r1;have i2:kd Bm.toArray.toList ms:=GC r2;exact HT.lt_tupInts p1 p2 i1 i2 hu ⟨.bl (HT.lexLt ns ms),H,I,rfl,q⟩
def GH (K:aq):R2:=λx y H Q=>∃a b xs ys,x=.ref a/\y=.ref b/\Aq K H a xs/\Aq K H b ys/\xs≠[]/\xs.length+ys.length<=cf /\
 (ys=[]->Q (.ref a) H)/\(ys≠[]->∀p,H p=none->Q (.ref p) (aZ H p (.tup (xs++ys))))
theorem Ae.nil_iff {xs:List V}{us:List af}(r:Ae xs us):us=[]↔xs=[]:=by
 cases r with
 |nil=>simp
 |cons _ _=>simp
theorem TM:Be X (binaryOp .Add) (GH X.K):=by intro pins s σ H x y v u Q I rx ry h;obtain⟨a,b,xs,ys,rfl,rfl,ha,hb,hx,hz,q1,q2⟩:=h;cases rx;cases ry;obtain⟨its,r1,p1,_⟩:=I.tuple ha;obtain⟨Bm,r2,p2,_⟩:=I.tuple hb;refine HT.cat_tup p1 p2 (λz=>hx (r1.nil_iff.mp z)) (λz=>⟨.ref a,H,I,rfl,q1 (r2.nil_iff.mp z)⟩) (λz=>?_) (by rw[<-r1.length,<-r2.length];exact hz);refine⟨.ref s.heap.objs.size,_,I.laid (t':=s.toks) (o:=.tup (xs++ys)) (λb ob q=>aj _ q) (ak _) ?_,rfl,q2 (λw=>z (r2.nil_iff.mpr w)) _ (I.hok.fresh (ak _))⟩;exact⟨by rw[bw];exact hz,_,r1.append r2,Az.new _ _⟩
end
def fT (n:Nat) (i:Int):Option Nat:=if 0<=i then(if i<n then some i.toNat else none)else if -(n:Int)<=i then some (i+n).toNat else none
def gX {α:Type}(xs:List α) (i:Int):Option α:=(fT xs.length i).bind λj=>xs[j]?
theorem zX {n:Nat}{i:Int}{j:Nat}(h:fT n i=some j):seqIndex? i n=some j/\j<n/\-(n:Int)<=i/\i<n:=by
 unfold fT at h
 by_cases h0:0<=i
 ·rw[if_pos h0]at h
  by_cases h1:i<n
  ·rw[if_pos h1]at h;have e:i.toNat=j:=cx h;exact⟨by rw[seqIndex_of h0 h1,e],by omega,by omega,h1⟩
  ·rw[if_neg h1]at h;cases h
 ·rw[if_neg h0]at h
  by_cases h1 : -(n:Int)<=i
  ·rw[if_pos h1]at h;have e:(i+n).toNat=j:=cx h;exact⟨by rw[seqIndex_neg (by omega) h1,e],by omega,h1,by omega⟩
  ·rw[if_neg h1]at h;cases h
theorem zY {α:Type}{xs:List α}{i:Int}{v:α}(h:gX xs i=some v):∃j,seqIndex? i xs.length=some j/\xs[j]?=some v/\j<xs.length/\-(xs.length:Int)<=i/\i<xs.length:=by
 unfold gX at h
 cases e:fT xs.length i with
 |none=>rw[e]at h;cases h
 |some j=>rw[e]at h;obtain⟨h1,h2,h3,h4⟩:=zX e;exact⟨j,h1,h,h2,h3,h4⟩
def zZ (b:bq):Prop:=∀o i,subscripted b false o i=operate [o,i] (getItem o i)
def IxR (X:Cx) (r:R2):Prop:=
 ∀(value slice:bq) (pins:List (ah×Obj)) (s:ag) (σ:St) (H:Hp) (x y:V) (v u:af) (Q:VK),Inv X pins σ H s->RelV x v->RelV y u->r x y H Q->
  subscripted slice false v u=operate [v,u] (getItem v u)->wpAny (model X.prog X.w) X.A (subscriptTail value slice v u) (EP X pins σ Q) X.xe s
def vJ (X:Cx) (id:String) (r:V->List V->Hp->VK->Prop):Prop:=
 ∀(pins:List (ah×Obj)) (s:ag) (σ:St) (H:Hp) (x:V) (xs:List V) (v:af) (us:List af) (Q:VK),Inv X pins σ H s->RelV x v->Ae xs us->r x xs H Q->
  wpAny (model X.prog X.w) X.A (call (.builtin id) (v::us)) (EP X pins σ Q) X.xe s
section
variable{X:Cx}{a b:bq}{ta tb:TE}{pos:Pos}
theorem IxR.or {r r':R2}(h:IxR X r) (h':IxR X r'):IxR X (λx y H Q=>r x y H Q∨r' x y H Q):=by
 intro value slice pins s σ H x y v u Q I rx ry q hs
 rcases q with q|q
 ·exact h value slice pins s σ H x y v u Q I rx ry q hs
 ·exact h' value slice pins s σ H x y v u Q I rx ry q hs
theorem GI {r:R2}(hr:IxR X r) (ha:PE X a ta) (hb:PE X b tb) (hs:zZ b):PE X (.Subscript a b pos) (sC r ta tb):=by intro pins s σ H Q I h;exact Subscript_ (zT ha hb I h λv u s2 x y H2 I2 rx ry q=>hr a b pins s2 σ H2 x y v u Q I2 rx ry q (hs _ _))
def GJ (K:aq):R2:=λx y H Q=>∃p xs i v,x=.ref p/\y=.int i/\Bd K H p xs/\gX xs i=some v/\Q v H
def GK (K:aq):R2:=λx y H Q=>∃p xs i v,x=.ref p/\y=.int i/\Aq K H p xs/\gX xs i=some v/\Q v H
def GL:R2:=λx y H Q=>∃z i c,x=.str z/\y=.int i/\z.length<=cf/\gX z.cps.toList i=some c/\Q (.str ⟨#[c]⟩) H
theorem ix_list:IxR X (GJ X.K):=by
 intro value slice pins s σ H x y v u Q I rx ry h hs;obtain⟨p,xs,i,z,rfl,rfl,hq,he,q⟩:=h;cases rx;obtain⟨t,rfl⟩:=ry;obtain⟨its,r,pl,hz⟩:=I.list hq;obtain⟨j,h1,h2,h3,h4,h5⟩:=zY he;obtain⟨w,ew,rw'⟩:=r.get h2;have hl:=r.length;have hn:=qA;have fin:EP X pins σ Q w s:=⟨z,H,I,rw',q⟩
 by_cases h0:0<=i
 ·have hj:i.toNat=j:=by rw[seqIndex_of h0 h5]at h1;exact cx h1
  exact item_listR pl.isList h0 (by omega) (by rw[hj];simpa using ew) fin hs
 ·have hj:(i+(its.toArray.size:Int)).toNat=j:=by rw[seqIndex_neg (by omega) h4]at h1;rw[au,<-hl];exact cx h1
  exact subscriptTail_builtinR (x:=w) pl.isList.typeIs slot_list_getitem.lookup
   (wpAny_getItem_list_neg (Q:=λr s'=>r=w/\EP X pins σ Q r s') pl.isList (by omega) (by rw[au] <;> omega) (by omega) (by rw[hj];simpa using ew) ⟨rfl,fin⟩) hs
theorem ix_tup:IxR X (GK X.K):=by
 intro value slice pins s σ H x y v u Q I rx ry h hs;obtain⟨p,xs,i,z,rfl,rfl,hq,he,q⟩:=h;cases rx;obtain⟨t,rfl⟩:=ry;obtain⟨its,r,pl,hz⟩:=I.tuple hq;obtain⟨j,h1,h2,h3,h4,h5⟩:=zY he;obtain⟨w,ew,rw'⟩:=r.get h2;have hl:=r.length;have hn:=qA;have fin:EP X pins σ Q w s:=⟨z,H,I,rw',q⟩
 exact subscriptTail_builtinR (x:=w) pl.typeIs slot_tuple_getitem.lookup
  (getItem_tuple (j:=j) (Q:=λr s'=>r=w/\EP X pins σ Q r s') pl (by omega) (by omega) (by rw[au,<-hl];exact h1) (by simpa using ew) ⟨rfl,fin⟩) hs
theorem TN:IxR X GL:=by
 intro value slice pins s σ H x y v u Q I rx ry h hs;obtain⟨z,i,c,rfl,rfl,hz,he,q⟩:=h;obtain⟨t,rfl⟩:=rx;obtain⟨t',rfl⟩:=ry;obtain⟨j,h1,h2,h3,h4,h5⟩:=zY he;have hl:z.cps.toList.length=z.length:=by simp[Str.length]
 rw[hl]at h1 h4 h5;have hn:=qA;exact tail_any (typeIs_str s z t) slot_str_getitem.lookup (getItem_str (c:=c) (by have e1:decide (i < -(2 ^ 63:Int))=false:=decide_eq_false (by omega);have e2:decide (i>=2 ^ 63)=false:=decide_eq_false (by omega);rw[e1,e2,Bool.or_false]) (by rw[h1];simpa using h2) ⟨.str ⟨#[c]⟩,H,I.tok _,⟨_,rfl⟩,q⟩) hs
def AA (K:aq):R2:=λx y H Q=>GJ K x y H Q∨GK K x y H Q∨GL x y H Q
theorem GN:IxR X (AA X.K):=ix_list.or (ix_tup.or TN)
theorem TQ (its:List af) (n j:Nat) (u:af):mw (·.setIfInBounds j u) { cls:=.type "list",data:=.seq its.toArray n }={ cls:=.type "list",data:=.seq (its.set j u).toArray n }:=by simp[mw]
theorem Inv.lst {pins:List (ah×Obj)}{σ:St}{H:Hp}{s:ag}{p:ah}{xs:List V}(I:Inv X pins σ H s) (h:H p=some (.lst xs)):
  ∃(its:List af) (n:Nat),Ae xs its/\s.heap.get? p=some { cls:=.type "list",data:=.seq its.toArray n }/\xs.length<=cf:=by
 obtain⟨z,its,n,r,e⟩:=I.hok p _ h;exact⟨its,n,r,e,z⟩
theorem Inv.lstUpd {pins:List (ah×Obj)}{σ:St}{H:Hp}{s:ag}{p:ah}{xs ys:List V}{its its':List af}{n n':Nat}{f:Obj->Obj}(I:Inv X pins σ H s) (h:H p=some (.lst xs))
  (ho:s.heap.get? p=some { cls:=.type "list",data:=.seq its.toArray n }) (hf:f { cls:=.type "list",data:=.seq its.toArray n }={ cls:=.type "list",data:=.seq its'.toArray n' }) (r:Ae ys its') (hz:ys.length<=cf) (t:Nat):
  Inv X pins σ (aZ H p (.lst ys)) { s with heap:=s.heap.update p f,toks:=t }:=by
 have e:(s.heap.update p f).get? p=some { cls:=.type "list",data:=.seq its'.toArray n' }:=by rw[jn f ho (by rw[hf] <;> rfl),hf]
 refine I.write (x:=p) (e:=p) (by rw[h];trivial) (.inl rfl) (λb u hb q=>(kg _ _ (dh hb)).trans q) ⟨_,e⟩ ?_;exact⟨hz,its',n',r,e⟩
def TR:V->V->V->Hp->(Hp->Prop)->Prop:=λo i v H Q=>∃p xs k j,o=.ref p/\i=.int k/\H p=some (.lst xs)/\fT xs.length k=some j/\Q (aZ H p (.lst (xs.set j v)))
theorem TU:FP X TR:=by
 intro pins s σ H o i v ov iv u Q I ro ri rv h;obtain⟨p,xs,k,j,rfl,rfl,hp,hj,q⟩:=h;cases ro;obtain⟨t,rfl⟩:=ri;obtain⟨its,n,r,ho,hz⟩:=I.lst hp;obtain⟨h1,h2,h3,h4⟩:=zX hj;have hl:=r.length;have hn:=qA;have I':Inv X pins σ (aZ H p (.lst (xs.set j v))) { s with heap:=s.heap.update p (mw (·.setIfInBounds j u)) }:=I.lstUpd hp ho (TQ its n j u) (r.set rv j) (by rw[sd];exact hz) s.toks
 by_cases h0:0<=k
 ·have hk:k.toNat=j:=by rw[seqIndex_of h0 h4]at h1;exact cx h1
  exact PySem.W.ki_setAt ho h0 (by omega) (by rw[au,<-hl];exact h4) (by rw[hk];exact⟨_,I',q⟩)
 ·have hk:(k+(its.toArray.size:Int)).toNat=j:=by rw[seqIndex_neg (by omega) h3]at h1;rw[au,<-hl];exact cx h1
  exact PySem.W.ki_setBack ho (by omega) (by rw[au,<-hl];exact h3) (by omega) (by rw[hk];exact⟨_,I',q⟩)
theorem TV (lo hi:Option Int) (n:Nat):(sliceBounds lo hi none n).1=((HT.sIx n 0 lo:Nat):Int)/\(sliceBounds lo hi none n).2.1=((HT.sIx n n hi:Nat):Int)/\(sliceBounds lo hi none n).2.2=1:=by
 refine⟨?_, ?_,rfl⟩
 ·cases lo with
  |none=>simp[sliceBounds,HT.sIx]
  |some i=>
   simp only[sliceBounds,HT.sIx,Option.getD_none,show(1:Int)>0 by decide,if_true]
   by_cases h:i<0
   ·simp only[h,if_true] <;> omega
   ·simp only[h,if_false] <;> omega
 ·cases hi with
  |none=>simp[sliceBounds,HT.sIx]
  |some i=>
   simp only[sliceBounds,HT.sIx,Option.getD_none,show(1:Int)>0 by decide,if_true]
   by_cases h:i<0
   ·simp only[h,if_true] <;> omega
   ·simp only[h,if_false] <;> omega
theorem TX (its:List af) (lo hi:Option Int):slicePick its.toArray lo hi none=((its.drop (HT.sIx its.length 0 lo)).take (HT.sIx its.length its.length hi - HT.sIx its.length 0 lo)).toArray:=by obtain⟨h1,h2,h3⟩:=TV lo hi its.toArray.size;unfold slicePick;rw[h1,h2,h3];simp only[sliceRange_one,pick_run,au] <;> rfl
def TY (K:aq):V->Option Int->Option Int->Hp->VK->Prop:=λx lo hi H Q=>∃a xs,x=.ref a/\Bd K H a xs/\∀p,H p=none->Q (.ref p) (aZ H p (.lst (nK xs lo hi)))
theorem TZ:SlR X (TY X.K):=by intro pins s σ H x v vl vu lo hi sl Q I rx hs pl pu h;obtain⟨a,xs,rfl,hx,q⟩:=h;cases rx;obtain⟨its,r,ht,hz⟩:=I.list hx;have hlen:=r.length;refine⟨"list",_,slot_list_getitem.lookup,ht.isList.typeIs, ?_⟩;refine wpAny_getItem_list_slice ht.isList hs pl pu .none (by simp) ?_ (by rw[au] <;> omega);rw[TX,<-hlen];refine⟨.ref s.heap.objs.size,_,I.laid (t':=s.toks) (o:=.lst (nK xs lo hi)) (λb ob q=>aj _ q) (ak _) ?_,rfl,q _ (I.hok.fresh (ak _))⟩;exact⟨dm (GD xs lo hi) hz,_,0,(r.drop (HT.sIx xs.length 0 lo)).take (HT.sIx xs.length xs.length hi - HT.sIx xs.length 0 lo),az _ rfl⟩
theorem GO:Af X (.builtin "len") (λxs H Q=>∃p ys,xs=[.ref p]/\(Bd X.K H p ys∨Aq X.K H p ys)/\Q (.int ys.length) H):=by
 intro pins s σ H xs us Q I r h;obtain⟨p,ys,rfl,hq,q⟩:=h;obtain⟨u,rfl,rx⟩:=gG r;cases rx;have hn:=qA
 rcases hq with hq|hq
 ·obtain⟨its,r',pl,hz⟩:=I.list hq;have hlen:=r'.length;exact Calls.call_len_list pl.isList (by simp only[au] <;> omega) ⟨.int ys.length,H,I.tok _,⟨s.toks+1,by rw[au,hlen]⟩,q⟩
 ·obtain⟨its,r',pl,hz⟩:=I.tuple hq;have hlen:=r'.length;exact len_tuple pl (by simp only[au] <;> omega) ⟨.int ys.length,H,I.tok _,⟨s.toks+1,by rw[au,hlen]⟩,q⟩
theorem T1:Af X (.type "list") (λxs H Q=>∃p ys,xs=[.ref p]/\(Bd X.K H p ys∨Aq X.K H p ys)/\∀l,H l=none->Q (.ref l) (aZ H l (.lst ys))):=by
 intro pins s σ H xs us Q I r h;obtain⟨p,ys,rfl,hq,q⟩:=h;obtain⟨u,rfl,rx⟩:=gG r;cases rx;have fin:∀(its:List af),Ae ys its->ys.length<=cf->∀(h':da) (c':Nat),(∀b o',s.heap.get? b=some o'->h'.get? b=some o')->
   h'.get? s.heap.objs.size=some { cls:=.type "list",dict:=none,data:=.seq its.toArray c',slots:=#[] }->EP X pins σ Q (.ref s.heap.objs.size) { s with heap:=h' }:=λits r' hz h' c' kp e=>
  ⟨.ref s.heap.objs.size,_,I.laid (t':=s.toks) kp (ak _) (show Ai X.prog X.w _ h' _ (.lst ys) from⟨hz,its,c',r',e⟩),rfl,q _ (I.hok.fresh (ak _))⟩
 rcases hq with hq|hq
 ·obtain⟨its,r',pl,hz⟩:=I.list hq;have hlen:=r'.length;obtain⟨o,ho,hc,n,hd⟩:=pl.isList;exact call_list_seq p (.inl rfl) ho hc hd (λh' c' kp e=>fin its r' hz h' c' kp e) (by simp only[au] <;> omega)
 ·obtain⟨its,r',pl,hz⟩:=I.tuple hq;have hlen:=r'.length;obtain⟨o,ho,hc,n,hd⟩:=pl;exact call_list_seq p (.inr rfl) ho hc hd (λh' c' kp e=>fin its r' hz h' c' kp e) (by simp only[au] <;> omega)
theorem GP:Af X (.type "tuple") (λxs H Q=>∃p ys,xs=[.ref p]/\((Bd X.K H p ys/\∀l,H l=none->Q (.ref l) (aZ H l (.tup ys)))∨(Aq X.K H p ys/\Q (.ref p) H))):=by
 intro pins s σ H xs us Q I r h;obtain⟨p,ys,rfl,h⟩:=h;obtain⟨u,rfl,rx⟩:=gG r;cases rx
 rcases h with⟨hq,q⟩|⟨hq,q⟩
 ·obtain⟨its,r',pl,hz⟩:=I.list hq;have hlen:=r'.length;refine call_tuple_list pl.isList (λh' kp=>?_) (by simp only[au] <;> omega);have I1:Inv X pins σ H { s with heap:=h' }:=I.kept (t':=s.toks) kp;have I2:Inv X pins σ (aZ H h'.objs.size (.tup ys)) { s with heap:=h'.push { cls:=.type "tuple",data:=.seq its.toArray } }:=I1.laid (t':=s.toks) (λb o e=>aj _ e) (ak _) (show Ai X.prog X.w _ _ _ (.tup ys) from⟨hz,its,r',Az.new _ _⟩);exact⟨.ref h'.objs.size,_,I2,rfl,q _ (I1.hok.fresh (ak _))⟩
 ·obtain⟨its,r',pl,hz⟩:=I.tuple hq;exact call_tuple_same pl ⟨.ref p,H,I,rfl,q⟩
def vK (K:aq) (T:String) (x:V) (H:Hp):Prop:=match x with
 | .str _=>T = "str"
 | .int _=>T = "int"
 | .ref p=>(T = "list"/\∃xs,Bd K H p xs)∨(T = "tuple"/\∃o,K.lookup p=some o/\o.cls=.type "tuple"/\o.dict=none) ∨
   (T = "dict"/\((∃kvs,H p=some (.dK kvs))∨∃kvs,H p=some (.dT kvs)))∨(T = "set"/\∃S n,H p=some (.set S n))
 |_=>False
theorem T3 {pins:List (ah×Obj)}{σ:St}{H:Hp}{s:ag}{T:String}{x:V}{v:af}(I:Inv X pins σ H s) (r:RelV x v) (ty:vK X.K T x H):
  s.TypeIs v T/\∀a,v=.ref a->∃ob,s.heap.get? a=some ob/\ob.dict=none:=by
 cases x with
 |str z=>
  obtain⟨t,rfl⟩:=r
  cases (show T = "str" from ty)
  exact⟨typeIs_str s z t,λ_ e=>nomatch e⟩
 |int i=>
  obtain⟨t,rfl⟩:=r
  cases (show T = "int" from ty)
  exact⟨typeIs_int s i t,λ_ e=>nomatch e⟩
 |ref p=>
  cases r
  rcases ty with⟨rfl,xs,hq⟩|⟨rfl,o,hk,hc,hd⟩|⟨rfl,hk⟩|⟨rfl,S,n,hk⟩
  ·obtain⟨its,_,pl,_⟩:=I.list hq;refine⟨pl.isList.typeIs,λa e=>?_⟩;cases e;obtain⟨o,n,e,c,hd,_⟩:=pl;exact⟨o,e,hd⟩
  ·refine⟨⟨o,I.kIn p o hk,hc⟩,λa e=>?_⟩;cases e;exact⟨o,I.kIn _ o hk,hd⟩
  ·have z:∃o,s.heap.get? p=some o/\o.ExactDict:=by
    rcases hk with⟨kvs,hk⟩|⟨kvs,hk⟩
    ·obtain⟨_,_,_,_,o,_,_,e,ex,_⟩:=I.hok p _ hk;exact⟨o,e,ex⟩
    ·obtain⟨_,_,_,_,o,_,_,e,ex,_⟩:=I.hok p _ hk;exact⟨o,e,ex⟩
   obtain⟨o,e,ex⟩:=z;refine⟨⟨o,e,ex.1⟩,λa e2=>?_⟩;cases e2;exact⟨o,e,ex.2.1⟩
  ·obtain⟨o,_,_,_,e,ex,_⟩:=I.hok p _ hk;refine⟨⟨o,e,ex.1⟩,λa e2=>?_⟩;cases e2;exact⟨o,e,ex.2.1⟩
 |_=>exact ly ty
def T4 (K:aq) (T:String) (r:V->List V->Hp->VK->Prop) (to:TE) (t:TA):TE:=λσ H Q=>to σ H λx H1=>vK K T x H1/\t σ H1 λxs H2=>r x xs H2 Q
variable{o e:bq}{es:List bq}{to:TE}{t:TA}{name:Str}{apos cpos:Pos}{T id:String}{r:V->List V->Hp->VK->Prop}
theorem vL (pa:PlainAttrs T) (slot:Slot T name id) (hty:typeOf (.builtin id)=pure (.type "method_descriptor")) (hm:vJ X id r) (ho:PE X o to) (ha:PA X (e::es) t)
  (hbase:attributeBase o name X.env (eval o X.env)=eval o X.env:=by rfl)
  (hfew:((backTo cpos (ar (e::es) X.env)).all (λx=>!x.1)&&(backToKw cpos (keywordEach [] X.env)).all (λx=>x.1.isSome)
   && decide ((e::es).length+([]:List Keyword).length+(if([]:List Keyword).isEmpty then 0 else 1)<30))=true:=by rfl)
  (hline:(apos.endLine==cpos.line)=true:=by rfl) (hs:ar (e::es) X.env=(false,eval e X.env)::ar es X.env:=by rfl) (hplain:(backTo cpos (ar es X.env)).any (·.1)=false:=by rfl):
  PE X (.Call (.Attribute o name apos) (e::es) [] cpos) (T4 X.K T r to t):=by
 intro pins s σ H Q I h;refine wpAny_Call_method_late hbase hfew hline rfl (bD (ho pins s σ H _ I h) λv s1 ⟨x,H1,I1,r1,ty,q1⟩=>?_);obtain⟨h1,h2⟩:=T3 I1 r1 ty;refine⟨T,id,pa,slot,hty,h1,h2, ?_⟩;have hA:=ha cpos pins s1 σ H1 _ I1 q1;rw[hs]at hA ⊢;refine yb (by show(false||(backTo cpos (ar es X.env)).any (·.1))=false;rw[hplain] <;> rfl) (sy ?_);exact bD hA λus s2 ⟨vs,H2,I2,r2,q2⟩=>hm pins s2 σ H2 x vs v us Q I2 r1 r2 q2
end
def AB (X:Cx) (id:String) (r:V->List V->Hp->VK->Prop):Prop:=
 ∀(pins:List (ah×Obj)) (s:ag) (σ:St) (H:Hp) (x:V) (xs:List V) (v:af) (us:List af) (Q:VK),Inv X pins σ H s->RelV x v->Ae xs us->r x xs H Q->
  wpAny (model X.prog X.w) X.A (call (.builtin id) (v::us)) (EP X pins σ Q) X.xe s
theorem Ae.one:∀{x:V}{us:List af},Ae [x] us->∃u,us=[u]/\RelV x u
 |_,_,.cons r .nil=>⟨_,rfl,r⟩
theorem Ae.eraseIdx:∀{xs:List V}{us:List af}(i:Nat),Ae xs us->Ae (xs.eraseIdx i) (us.eraseIdx i)
 |_,_,_,.nil=>.nil
 |_,_,0,.cons _ t=>t
 |_,_,i+1,.cons r t=>.cons r (Ae.eraseIdx i t)
theorem GQ {α:Type}:∀(l:List α) (i:Nat),(l.eraseIdx i).length<=l.length
 | [],_=>ak _
 |_::_,0=>we _
 |_::r,i+1=>Nat.succ_le_succ (GQ r i)
section
variable{X:Cx}{pins:List (ah×Obj)}{σ:St}{H:Hp}{s:ag}{l b:ah}{xs ys zs:List V}
theorem Inv.lset {its its':List af}{n:Nat}{f:Array af->Array af}{t':Nat}(I:Inv X pins σ H s) (hH:H l=some (.lst xs))
  (e:s.heap.get? l=some { cls:=.type "list",data:=.seq its.toArray n }) (hf:f its.toArray=its'.toArray) (hv:Ae ys its') (hz:ys.length<=cf):
  Inv X pins σ (aZ H l (.lst ys)) { s with heap:=s.heap.update l (mw f),toks:=t' }:=by
 have q:=yk e f;rw[hf]at q;refine I.write (x:=l) (e:=l) (by rw[hH];exact trivial) (.inl rfl) (λb' u hb hu=>(kg s.heap (mw f) (dh hb)).trans hu) ⟨_,q⟩ ?_;exact⟨hz,its',_,hv,q⟩
theorem Inv.lnew {its:List af}{t':Nat}(I:Inv X pins σ H s) (hv:Ae ys its) (hz:ys.length<=cf):
  Inv X pins σ (aZ H s.heap.objs.size (.lst ys)) { s with heap:=s.heap.push { cls:=.type "list",data:=.seq its.toArray },toks:=t' }:=
 I.laid (λ_ _ q=>aj _ q) (ak _) ⟨hz,its,0,hv,az _ rfl⟩
theorem Inv.fresh (I:Inv X pins σ H s):H s.heap.objs.size=none:=I.hok.fresh (ak _)
theorem Inv.lstM (I:Inv X pins σ H s) (hH:H l=some (.lst xs)):xs.length<=cf/\∃(its:List af) (n:Nat),Ae xs its/\xs.length=its.length/\s.heap.get? l=some { cls:=.type "list",data:=.seq its.toArray n }:=by obtain⟨z,its,n,r,e⟩:=I.hok l _ hH;exact⟨z,its,n,r,r.length,e⟩
theorem T5 {n:Nat}(h:n<=cf):pd n=false:=by unfold pd;exact decide_eq_false (by omega)
end
section
variable{X:Cx}
def T6:V->List V->Hp->VK->Prop:=λx vs H Q=>∃l xs y,x=.ref l/\vs=[y]/\H l=some (.lst xs)/\xs.length<cf/\Q .non (aZ H l (.lst (xs++[y])))
theorem T7:AB X "list.append" T6:=by intro pins s σ H x vs v us Q I rx rv h;obtain⟨l,xs,y,rfl,rfl,hH,hz,q⟩:=h;cases rx;obtain⟨u,rfl,ru⟩:=rv.one;obtain⟨z,its,n,r,hl,e⟩:=I.lstM hH;refine vz F.slot_list_append ⟨_,e,rfl⟩ F.entry_list_append (F.args_list_append_2 _ _) (PySem.list_append l its.toArray n u (by rw[au];omega)) ⟨e, ?_⟩;refine⟨.non,_,I.lset (its':=its++[u]) hH e (by simp) (r.append (.cons ru .nil)) ?_,rfl,q⟩;rw[bw,ym];omega
def T9:V->List V->Hp->VK->Prop:=λx vs H Q=>∃l b xs zs,x=.ref l/\vs=[.ref b]/\H l=some (.lst xs)/\H b=some (.lst zs)/\xs.length+zs.length<=cf/\Q .non (aZ H l (.lst (xs++zs)))
theorem UA:AB X "list.extend" T9:=by
 intro pins s σ H x vs v us Q I rx rv h;obtain⟨l,b,xs,zs,rfl,rfl,hH,hB,hz,q⟩:=h;cases rx;obtain⟨u,rfl,ru⟩:=rv.one;cases ru;obtain⟨z,its,n,r,hl,e⟩:=I.lstM hH;obtain⟨z2,Bm,n2,r2,hl2,e2⟩:=I.lstM hB;have Bl:its.toArray.size+Bm.toArray.size<=cf:=by rw[au,au];omega
 have hlong:¬ (!its.toArray.isEmpty&&pd (its.toArray.size+Bm.toArray.size))=true:=by rw[T5 Bl,qd];exact iz
 refine vz F.slot_list_extend ⟨_,e,rfl⟩ F.entry_list_extend (F.args_list_extend_2 _ _)
  (AutoSeq1.list_extend_list_list_0 l its.toArray n b Bm.toArray n2 hlong (by rw[au];omega) (by omega)) ⟨e,e2, ?_⟩
 refine⟨.non,_,I.lset (its':=its++Bm) hH e (by simp) (r.append r2) ?_,rfl,q⟩;rw[bw];omega
def UB:V->List V->Hp->VK->Prop:=λx vs H Q=>∃l xs i k y,x=.ref l/\vs=[.int i]/\H l=some (.lst xs)/\-(2 ^ 63)<=i/\i<2 ^ 63/\seqIndex? i xs.length=some k/\xs[k]?=some y/\Q y (aZ H l (.lst (xs.eraseIdx k)))
theorem UC:AB X "list.pop" UB:=by
 intro pins s σ H x vs v us Q I rx rv h;obtain⟨l,xs,i,k,y,rfl,rfl,hH,h1,h2,hk,hy,q⟩:=h;cases rx;obtain⟨u,rfl,ru⟩:=rv.one;obtain⟨t,rfl⟩:=ru;obtain⟨z,its,n,r,hl,e⟩:=I.lstM hH;obtain⟨w,hw,rw'⟩:=r.get hy;refine vz F.slot_list_pop ⟨_,e,rfl⟩ F.entry_list_pop (F.args_list_pop_2 _ _)
  (MeetsSeq.list_pop_at l its.toArray n i t k w (fitsIndex_both h1 h2) (by rw[au,<-hl];exact hk) (by rw[<-nt];exact hw) (by rw[au];omega)) ⟨e, ?_⟩
 refine⟨y,_,I.lset (its':=its.eraseIdx k) hH e ?_ (r.eraseIdx k) ?_,rw',q⟩
 ·show its.toArray.eraseIdxIfInBounds k=(its.eraseIdx k).toArray;rw[List.eraseIdxIfInBounds_toArray]
 ·have:=GQ xs k;omega
def GR:R2:=λx y H Q=>∃l b xs zs,x=.ref l/\y=.ref b/\H l=some (.lst xs)/\H b=some (.lst zs)/\xs.length+zs.length<=cf/\∀p,H p=none->Q (.ref p) (aZ H p (.lst (xs++zs)))
theorem op_cat:Be X (binaryOp .Add) GR:=by
 intro pins s σ H x y v u Q I rx ry h;obtain⟨l,b,xs,zs,rfl,rfl,hH,hB,hz,q⟩:=h;cases rx;cases ry;obtain⟨z,its,n,r,hl,e⟩:=I.lstM hH;obtain⟨z2,Bm,n2,r2,hl2,e2⟩:=I.lstM hB;refine PySem.P.add_list e e2 ?_ (by rw[au,au];omega);have ea:its.toArray++Bm.toArray=(its++Bm).toArray:=by simp
 rw[ea];exact⟨.ref _,_,I.lnew (t':=s.toks) (r.append r2) (by rw[bw];omega),rfl,q _ I.fresh⟩
end
section
variable{prog:bh}{w:cp}{A:cn}{E:af->ag->Prop}{s:ag}
set_option maxRecDepth 100000 in
end
section
variable{X:Cx}
end
end L2
namespace Att
open PySem PySem.W PySem.Calls PyProof.Rows
theorem UD {P:Params}{h:da}:∀(ns:zo) (vs:List af),WellAll P h vs (ns.map WData.int)->kd vs ns:=by
 intro ns
 induction ns with
 |nil=>intro vs w;rw[yg]at w;cases w;exact .nil
 |cons n ns ih=>
  intro vs w;rw[df]at w
  cases w with
  |cons a b=>cases a;exact .cons _ _ (ih _ b)
theorem UE {l:OpenLaw}{n:Nat}(hn:l.most=some n) {P:Params}{h:da}{args:List WData}{vals:List af}
  (hpre:l.row.toRowW.claim.pre args=true) (hwl:WellAll P h vals args):
  ∃a vs ns,vals=[gq a]/\args=[WData.list (ns.map WData.int)]/\h.get? a=some { cls:=.type "list",data:=.seq vs.toArray }/\kd vs ns/\ns.length<=n:=by
 have hsh:WShape.hasAll [] args [.list .int]=true:=(pre_splitW hpre).1;have hc:l.pre.holds [] { args:=args }=true:=(pre_splitW hpre).2;obtain⟨d,r,rfl,h1,h2⟩:=hasAllW_cons hsh;obtain rfl:=hasAllW_nil h2;obtain⟨xs,rfl,h3⟩:=hasW_list h1;obtain⟨ns,rfl⟩:=items_int h3;have hlen:ns.length<=n:=by
  unfold OpenLaw.pre at hc;have h4:(WTm.not (.lt (.lit (.int (n:Int))) (.len (.arg 0)))).holds [] { args:=[.list (ns.map .int)] }=true:=by have h4:=(holds_andW hc).1;rw[hn]at h4;exact h4
  have h5:=condW_of h4 (w_not (w_lt w_lit (w_len_list (w_arg rfl))));rw[ba]at h5;refine Nat.le_of_not_lt λq=>?_;have q':(n:Int)<((ns.length:Nat):Int):=by omega
  first
   |(rw[decide_eq_true q']at h5;exact absurd h5 (by decide))
   |(simp at h5;omega)
 cases hwl with
 |cons w1 w2=>
  cases w2
  cases w1 with
  |list ho Bw=>exact⟨_,_,ns,rfl,rfl,ho,UD ns _ Bw,hlen⟩
theorem UG (l:OpenLaw) (args:List WData):l.row.toRowW.claim.post args (.bool true) args=true:=
 postW_of (r:=l.row.toRowW) (X:=(true==true))
  (show WShape.has [] (.bool true) .bool=true by first|rfl|decide|simp[WShape.has,WShape.arms,WShape.armsAll])
  (show(WTm.eq .res (.lit (.bool true))).value [] { args:=args,res:=some (.bool true),after:=args }=some (.bool (true==true)) from w_eq_bool (w_res rfl) w_lit) rfl
theorem attach_call {l:OpenLaw}{n:Nat}{q:bh}{bT:zr}{XP:(Str->Option af)->da->Prop}{YP:cp->da->Prop}{d:DefRec}
  (hn:l.most=some n) (hdf:d.params.defaults=[])
  (call:∀(w:cp) (s₀ s₁:ag) (mg mb:Str->Option af) (fa:ah) (o:Obj) (pm cd doc:af) (a:ah) (vs:List af) (ns:zo),
   Ground q bT [] XP w s₀ mg mb s₁.heap->YP w s₁.heap->
   s₁.heap.get? fa=some o->o.data=.func (docDef d.name d.params d.body d.scope pm cd doc)->s₁.heap.CodeRec cd d.name->mg d.name=some (.ref fa)->
   s₁.heap.get? a=some { cls:=.type "list",data:=.seq vs.toArray }->kd vs ns->ns.length<=n->s₁.gens=#[]->
   codeAny (model l.prog w) callerA (.call (.ref fa) ⟨[.ref a],[]⟩) (λr s'=>r=.ok (.ret (.bool true))/\OldK s₁.heap s'.heap/\s'.os=s₁.os/\rl s'.gens) s₁):
  WalkO q bT XP YP l.row.toRowW d [] (λf vs=>zg f vs):=by
 intro w s₀ s₁ mg mb G Y fa o pm cd doc dV kV ho hd hcd hD hmg hg args vals as hpre hlay hrd hwl hlo;obtain rfl:dV=.none:=Dflts.none hD hdf;obtain rfl:kV=.none:=Dflts.noKw hD;obtain⟨a,vs,ns,rfl,rfl,hobj,hints,hlen⟩:=UE hn hpre hwl;refine enter_call (tm (call w s₀ s₁ mg mb fa o pm cd doc a vs ns G Y ho (fd_plain hd) hcd hmg hobj hints hlen hg) λr s' hq=>?_);obtain⟨rfl,h2,h3,h4⟩:=hq;exact⟨.inl ⟨.bool true,.bool true,[],rfl,λ_=>rfl,.bool true,UG l _,λ_=>⟨oq,λ_ hm=>(nomatch hm)⟩⟩,h2,h3,h4⟩
section
variable{prog:bh}{w:cp}{A:cn}{E:af->ag->Prop}{s:ag}{K:Frag}
end
end Att
namespace L2
open PySem PySem.Spec PyProof.Rows
theorem sF:∀{vs:List af}{ns:zo},kd vs ns->Ae (ns.map V.int) vs
 |_,_,.nil=>.nil
 |_,_,.cons n t h=>.cons ⟨t,rfl⟩ (sF h)
def nL (s:gf):pg:=match s with
 | .FunctionDef _ a _ _ _ _ _ _ _ _=>a
 |_=>{ posonlyargs:=[],args:=[],vararg:=none,kwonlyargs:=[],kw_defaults:=[],kwarg:=none,defaults:=[] }
def kQ (s:gf):List gf:=match s with
 | .FunctionDef _ _ b _ _ _ _ _ _ _=>b
 |_=>[]
def bA (s:gf):ic:=match s with
 | .FunctionDef _ _ _ _ _ _ sc _ _ _=>sc
 |_=>{ kind:=.function,names:=[],isGenerator:=false,isCoroutine:=false }
abbrev E0:XK:=λ_ _ _=>False
structure Ax (K:aq) (x qual:Str) (st:gf) (f:ah) (fd:bj):Prop where
 ex:∃(oc:af) (od:Option ah) (kV doc pm:af) (an:Option ah) (cdv ct:af) (osl:Array (Option af)),
  fd=ou x qual (nL st) (kQ st) (bA st) .none kV doc pm an cdv ct/\K.lookup f=some ⟨oc,od,.func fd,osl⟩/\vv K cdv qual=true
 kp:pj K (.ref f)=true
section
variable{P:bh}{w:cp}{K:aq}{mg:Str->Option af}{base:da}
theorem Ax.binds {x qual:Str}{st:gf}{f:ah}{fd:bj}{ps:zr}(F:Ax K x qual st f fd)
  (h:∀(kV doc pm:af) (an:Option ah) (cdv ct:af) (us:List af),us.length=ps.length->bindArgs (ou x qual (nL st) (kQ st) (bA st) .none kV doc pm an cdv ct) ⟨us,[]⟩=pure (ps.zip us)):Binds K fd ps []:=by
 obtain⟨oc,od,kV,doc,pm,an,cdv,ct,osl,rfl,lk,hcd⟩:=F.ex;exact .all (h kV doc pm an cdv ct)
theorem GS {x qual:Str}{st:gf}{f:ah}{oc:af}{od an:Option ah}{osl:Array (Option af)}{kV doc pm cdv ct:af}(l:K.lookup f=some ⟨oc,od,.func (ou x qual (nL st) (kQ st) (bA st) .none kV doc pm an cdv ct),osl⟩)
  (c:vv K cdv qual=true) (k:pj K (.ref f)=true):Ax K x qual st f (ou x qual (nL st) (kQ st) (bA st) .none kV doc pm an cdv ct):=⟨⟨oc,od,kV,doc,pm,an,cdv,ct,osl,rfl,l,c⟩,k⟩
end
section
variable{X:Cx}
end
theorem GU {A B:Prop}(h:B):if false=true then A else B:=by rw[if_neg iz];exact h
theorem GV {A B:Prop}(h:A):if true=true then A else B:=by rw[if_pos rfl];exact h
def Bx (H H':Hp):Prop:=∀b o,H b=some o->H' b=some o
theorem Bx.refl (H:Hp):Bx H H:=λ_ _ h=>h
theorem vM {β:Type}(x y:Str) (c:β) (acc:List (Str×β)):((y,c)::acc).lookup x=if x=y then some c else acc.lookup x:=by
 rw[iw]
 by_cases e:x=y
 ·have hb:(x==y)=true:=beq_iff_eq.mpr e;rw[hb,if_pos e]
 ·have hb:(x==y)=false:=beq_eq_false_iff_ne.mpr e;rw[hb,if_neg e]
def fH (env:Env):List (Str×kn)->List (Str×ah)->List (Str×ah)
 | [],acc=>acc
 |(x,k)::r,acc=>fH env r (if k==.free then(x,(env.cells.lookup x).getD 0)::acc else acc)
theorem AD {env:Env}:∀(l:List (Str×kn)) (acc:List (Str×ah)),(∀x,(x,dg)∈l->∃c,env.cells.lookup x=some c)->
  (forIn l acc (λ(x:Str×kn) (r:List (Str×ah))=>match x with
   |(name,kind)=>if(kind==dg)=true then(do let a <-cellOf env name;pure (qp ((name,a)::r)))else(pure (qp r):Sem (ForInStep (List (Str×ah))))))=(pure (fH env l acc):Sem (List (Str×ah)))
 | [],acc,_=>rfl
 |(x,k)::l,acc,h=>by
  rw[pf];dsimp only
  cases hk:k==dg with
  |true=>
   have e:k=.free:=by cases k <;> first|rfl|cases hk
   subst e;obtain⟨c,hc⟩:=h x (ax ..);rw[if_pos rfl,show fH env ((x,dg)::l) acc=fH env l ((x,c)::acc)by rw[fH,if_pos hk,hc];rfl,<-AD l ((x,c)::acc) λy hy=>h y (ao _ hy)];unfold cellOf;rw[hc];rfl
  |false=>rw[if_neg (by simp),show fH env ((x,k)::l) acc=fH env l acc by rw[fH,hk];rfl,<-AD l acc λy hy=>h y (ao _ hy)];rfl
theorem GW {env:Env}{scope:ic}(h:∀x,(x,dg)∈scope.names->∃c,env.cells.lookup x=some c):closureFor scope env=pure (fH env scope.names []):=by unfold closureFor;have:=AD (env:=env) scope.names [] h;show(forIn scope.names [] _ >>= λcs=>pure cs)=_;exact(congrArg (λ(m:Sem (List (Str×ah)))=>m >>= λcs=>pure cs) this)
theorem vN {env:Env}{x:Str}:∀(l:List (Str×kn)) (acc:List (Str×ah)),((x,dg)∈l∨acc.lookup x=some ((env.cells.lookup x).getD 0))->(fH env l acc).lookup x=some ((env.cells.lookup x).getD 0)
 | [],acc,h=>h.elim (λz=>nomatch z) id
 |(y,k)::l,acc,h=>by
  rw[fH]
  cases hk:k==dg with
  |true=>
   refine vN l _ ?_;rw[if_pos rfl]
   by_cases e:x=y
   ·subst e;right;rw[vM,if_pos rfl]
   ·rcases h with h|h
    ·rcases aw.mp h with h|h
     ·cases h;exact absurd rfl e
     ·exact .inl h
    ·right;rw[vM,if_neg e];exact h
  |false=>
   refine vN l _ ?_
   rcases h with h|h
   ·rcases aw.mp h with h|h
    ·cases h;simp at hk
    ·exact .inl h
   ·exact .inr h
structure BlkCells (h h':da) (names:List (Str×kn)) (acc cs:List (Str×ah)):Prop where
 cases:∀x c,cs.lookup x=some c->acc.lookup x=some c∨(h.objs.size<=c/\h'.IsCell c none/\(x,dk)∈names)
 own:∀x,(x,dk)∈names->∃c,cs.lookup x=some c
 old:∀x,(x,dk)∉names->cs.lookup x=acc.lookup x
 inj:(∀x y c,acc.lookup x=some c->acc.lookup y=some c->x=y)->(∀x c,acc.lookup x=some c->c<h.objs.size)->∀x y c,cs.lookup x=some c->cs.lookup y=some c->x=y
theorem sG:∀(names:List (Str×kn)) (h:da) (acc:List (Str×ah)),BlkCells h (pushCells h names) names acc (cellsFrom h.objs.size names acc)
 | [],h,acc=>{ cases:=λ_ _ e=>.inl e,own:=λ_ z=>(nomatch z),old:=λ_ _=>rfl,inj:=λa _=>a }
 |(y,k)::r,h,acc=>by
  cases hk:k==dk with
  |true=>
   have ek:k=.cell:=by cases k <;> first|rfl|cases hk
   subst ek;have ih:=sG r (h.push { cls:=.type "cell",data:=.cell none }) ((y,h.objs.size)::acc);have e1:pushCells h ((y,dk)::r)=pushCells (h.push { cls:=.type "cell",data:=.cell none }) r:=rfl;have e2:cellsFrom h.objs.size ((y,dk)::r) acc=cellsFrom (h.push { cls:=.type "cell",data:=.cell none }).objs.size r ((y,h.objs.size)::acc):=by rw[ff];rfl
   rw[e1,e2];have look:∀x,((y,h.objs.size)::acc).lookup x=if x=y then some h.objs.size else acc.lookup x:=λx=>vM ..
   refine⟨λx c e=>?_,λx hx=>?_,λx hx=>?_,λh1 h2 x z c ex ez=>?_⟩
   ·rcases ih.cases x c e with q|⟨q1,q2,q3⟩
    ·rw[look]at q
     by_cases exy:x=y
     ·rw[if_pos exy]at q;cases q;refine .inr ⟨ak _,⟨_,qh r _ _ _ (az _ rfl),rfl⟩,by rw[exy];exact ax ..⟩
     ·rw[if_neg exy]at q;exact .inl q
    ·rw[ff]at q1;exact .inr ⟨Nat.le_of_succ_le q1,q2,ao _ q3⟩
   ·by_cases hr:(x,dk)∈r
    ·exact ih.own x hr
    ·rw[ih.old x hr,look]
     rcases aw.mp hx with z|z
     ·cases z;exact⟨_,if_pos rfl⟩
     ·exact absurd z hr
   ·rw[ih.old x λz=>hx (ao _ z),look,if_neg]
    rintro rfl
    exact hx (ax ..)
   ·refine ih.inj ?_ ?_ x z c ex ez
    ·intro a b c ea eb;rw[look]at ea eb
     by_cases qa:a=y
     ·rw[if_pos qa]at ea;cases ea
      by_cases qb:b=y
      ·exact qa.trans qb.symm
      ·rw[if_neg qb]at eb;exact absurd (h2 b _ eb) (gv _)
     ·rw[if_neg qa]at ea
      by_cases qb:b=y
      ·rw[if_pos qb]at eb;cases eb;exact absurd (h2 a _ ea) (gv _)
      ·rw[if_neg qb]at eb;exact h1 a b c ea eb
    ·intro a c ea;rw[ff];rw[look]at ea
     by_cases qa:a=y
     ·rw[if_pos qa]at ea;cases ea;exact jl _
     ·rw[if_neg qa]at ea;exact gr (h2 a c ea)
  |false=>
   have ih:=sG r h acc;have e1:pushCells h ((y,k)::r)=pushCells h r:=by rw[pushCells,hk];rfl
   have e2:cellsFrom h.objs.size ((y,k)::r) acc=cellsFrom h.objs.size r acc:=by rw[cellsFrom,hk];rfl
   rw[e1,e2];have nk:∀x,(x,dk)∈(y,k)::r->(x,dk)∈r:=λx z=>by
    rcases aw.mp z with z|z
    ·cases z;simp at hk
    ·exact z
   exact⟨λx c e=>(ih.cases x c e).imp id λ⟨a,b,c⟩=>⟨a,b,ao _ c⟩,λx hx=>ih.own x (nk x hx),λx hx=>ih.old x λz=>hx (ao _ z),ih.inj⟩
def GX (scope:ic) (env:Env) (L:ah):Env:={ scope:=relabel scope env,locals:=L,globals:=env.globals,cells:=cellsFrom (L+1) scope.names (fH env scope.names []),qual:=env.qual,func:=none,code:=env.code,frame:=env.frame,builtins:=env.builtins }
theorem UH {M:wm}{A:cn}{E:af->ag->Prop}{s:ag}{scope:ic}{env:Env}{cl:List (Str×ah)}{qual:Str}{g:ah}{Q:Env->ag->Prop}
  (h:Q { scope:=scope,locals:=s.heap.objs.size,globals:=g,cells:=cellsFrom (s.heap.objs.size+1) scope.names cl,qual:=qual,func:=none,code:=env.code,frame:=env.frame,builtins:=env.builtins }
   { s with heap:=pushCells (s.heap.push { cls:=.type "dict",data:=.dict #[] }) scope.names }):
  wpAny M A (newFunctionEnv scope g cl [] qual none .none (some env)) Q E s:=by
 simp only[newFunctionEnv,Option.isSome_some,if_true];refine ae (wpAny_alloc ?_);refine ae (wpAny_layCells _ (λname kind cells=>by cases hkc:kind==dk <;> simp[hkc]) _ _ _ _ ?_);rw[show({ s with heap:=s.heap.push { cls:=.type "dict",data:=.dict #[] } }:ag).heap.objs.size=s.heap.objs.size+1 from ff ..];exact ae (ai (ai h))
def cY (X:Cx) (scope:ic) (N:zr) (s:ag) (H:Hp) (ex:List ah):Cx:={ X with N:=N,s₀:=s,H₀:=H,env:=GX scope X.env s.heap.objs.size,outer:=X.stack,stack:=X.stack,ex:=ex,fn:=λx=>scope.names.lookup x==some .cell,xe:=λ_ _=>False }
def qC (cap:List (Option Nat)) (σ:St):St:=cap.map λo=>match o with|some j=>(σ[j]?).getD none|none=>none
structure Bg (X:Cx) (scope:ic) (N:zr) (cap:List (Option Nat)):Prop where
 kind:scope.kind=.function
 nd:∀x∈scope.names,x.2=.local->scope.names.lookup x.1=some .local
 len:cap.length=N.length
 free:∀x,(x,dg)∈scope.names->X.env.kindOf x=some .cell∨X.env.kindOf x=some .free
 apart:∀x,(x,dg)∈scope.names->(x,dk)∉scope.names
 cap:∀(i j:Nat) (x:Str),cap[i]?=some (some j)->N[i]?=some x->X.N[j]?=some x/\(x,dg)∈scope.names/\(relabel scope X.env).names.lookup x≠some .local
theorem AE {scope:ic}{env:Env}{x:Str}:∀{l:List (Str×kn)}{k:kn},(l.map λ(n,k)=>if(k==dg&&env.scope.kind==.function&&env.kindOf n==some .cell)then(n,dk)else(n,k)).lookup x=some k->
  (x,k)∈l∨(k=.cell/\(x,dg)∈l)
 | [],_,h=>by simp at h
 |(n,q)::r,k,h=>by
  have ih:=@AE scope env x r k;rw[df]at h
  by_cases hc:(q==dg&&env.scope.kind==.function&&env.kindOf n==some .cell)=true
  ·have hq:q=.free:=by
    have:(q==dg)=true:=by
     cases z:q==dg with
     |true=>rfl
     |false=>rw[z]at hc;simp at hc
    cases q <;> first|rfl|cases this
   dsimp only at h;rw[if_pos hc,iw]at h
   cases e:x==n with
   |true=>rw[e]at h;have h':dk=k:=cx h;subst h';have ex:=beq_iff_eq.mp e;subst ex;subst hq;exact .inr ⟨rfl,ax ..⟩
   |false=>rw[e]at h;exact(ih h).imp (ao _) λ⟨a,b⟩=>⟨a,ao _ b⟩
  ·dsimp only at h;rw[if_neg hc,iw]at h
   cases e:x==n with
   |true=>rw[e]at h;have h':q=k:=cx h;subst h';have ex:=beq_iff_eq.mp e;subst ex;exact .inl (ax ..)
   |false=>rw[e]at h;exact(ih h).imp (ao _) λ⟨a,b⟩=>⟨a,ao _ b⟩
theorem AF {env:Env}{x:Str}{c:ah}:∀(l:List (Str×kn)) (acc:List (Str×ah)),(fH env l acc).lookup x=some c->acc.lookup x=some c∨((x,dg)∈l/\c=(env.cells.lookup x).getD 0)
 | [],acc,h=>.inl h
 |(y,k)::l,acc,h=>by
  rw[fH]at h
  cases hk:k==dg with
  |true=>
   have ek:k=.free:=by cases k <;> first|rfl|cases hk
   subst ek;rw[if_pos hk]at h
   rcases AF l _ h with q|⟨q1,q2⟩
   ·rw[vM]at q
    by_cases e:x=y
    ·rw[if_pos e]at q;subst e;exact .inr ⟨ax ..,(cx q).symm⟩
    ·rw[if_neg e]at q;exact .inl q
   ·exact .inr ⟨ao _ q1,q2⟩
  |false=>rw[if_neg (by rw[hk];exact iz)]at h;exact(AF l _ h).imp id λ⟨a,b⟩=>⟨ao _ a,b⟩
section
variable{X:Cx}{pins:List (ah×Obj)}{σ:St}{H:Hp}{s:ag}{scope:ic}{N:zr}{cap:List (Option Nat)}{ex:List ah}
theorem vO (I:Inv X pins σ H s) (C:Bg X scope N cap) {x:Str}{c:ah}(e:(fH X.env scope.names []).lookup x=some c):(x,dg)∈scope.names/\X.env.cells.lookup x=some c:=by
 rcases AF _ _ e with q|⟨q1,q2⟩
 ·cases q
 ·obtain⟨c',h'⟩:=I.ok.has x (C.free x q1);rw[h']at q2;subst q2;exact⟨q1,h'⟩
theorem vP (I:Inv X pins σ H s) (C:Bg X scope N cap) {x:Str}{c:ah}(e:(GX scope X.env s.heap.objs.size).cells.lookup x=some c):
  (X.env.cells.lookup x=some c/\(x,dg)∈scope.names)∨(s.heap.objs.size<c/\(pushCells (s.heap.push { cls:=.type "dict",data:=.dict #[] }) scope.names).IsCell c none/\(x,dk)∈scope.names):=by
 have B:=sG scope.names (s.heap.push { cls:=.type "dict",data:=.dict #[] }) (fH X.env scope.names []);rw[ff]at B
 rcases B.cases x c e with q|⟨q1,q2,q3⟩
 ·obtain⟨a,b⟩:=vO I C q;exact .inl ⟨b,a⟩
 ·rw[ff]at q1;exact .inr ⟨q1,q2,q3⟩
theorem GY (I:Inv X pins σ H s) (C:Bg X scope N cap) (hex:∀b∈ex,dJ X pins H b/\b<s.heap.objs.size):(cY X scope N s H ex).Ok:=by
 have B:=sG scope.names (s.heap.push { cls:=.type "dict",data:=.dict #[] }) (fH X.env scope.names []);rw[ff]at B;have kf:∀x,(x,dg)∈scope.names->∃c,X.env.cells.lookup x=some c:=λx hx=>I.ok.has x (C.free x hx);refine⟨I.ok.mod,C.kind,I.ok.glob,I.ok.blt,ak _, ?_, ?_, ?_,I.ok.hd,I.ok.frames,.inl rfl, ?_,I.bs,dm I.ok.bsz I.sz, ?_, ?_,I.stack,I.stkFree⟩
 ·refine B.inj (λx y c e1 e2=>?_) λx c e=>?_
  ·exact I.ok.inj x y c (vO I C e1).2 (vO I C e2).2
  ·obtain⟨v,q⟩:=I.cell x c (vO I C e).2;rw[ff];exact gr q.lt
 ·intro x hx;have hx':(relabel scope X.env).names.lookup x=some .cell∨(relabel scope X.env).names.lookup x=some .free:=hx;have mem:(x,dk)∈scope.names∨(x,dg)∈scope.names:=by
   rcases hx' with h|h
   ·rcases AE (scope:=scope) h with q|⟨_,q⟩
    ·exact .inl q
    ·exact .inr q
   ·rcases AE (scope:=scope) h with q|⟨z,q⟩
    ·exact .inr q
    ·exact .inr q
  by_cases hc:(x,dk)∈scope.names
  ·exact B.own x hc
  ·rcases mem with h|h
   ·exact absurd h hc
   ·exact⟨_,(B.old x hc).trans (vN _ _ (.inl h))⟩
 ·intro x c hf e;have hf':(scope.names.lookup x==some .cell)=true:=hf;have hm:(x,dk)∈scope.names:=jh (eq_of_beq hf')
  rcases vP I C e with⟨_,q⟩|⟨q,_⟩
  ·exact absurd hm (C.apart x q)
  ·exact ij q
 ·intro b hb;obtain⟨⟨f0,f1,f2,f3,f4,f5⟩,hlt⟩:=hex b hb;refine⟨bf hlt,λx c e z=>?_⟩
  rcases vP I C e with⟨q,_⟩|⟨q,_⟩
  ·exact f4 x c q z
  ·subst z;exact gv _ (Nat.lt_trans q hlt)
 ·intro b o e hb;obtain⟨⟨f0,f1,f2,f3,f4,f5⟩,hlt⟩:=hex b hb
  rcases f3 with q|q
  ·exact I.ok.noex b o e q
  ·exact gv _ (bc (av e) (dm I.ok.bsz q))
 ·intro b hb z;obtain⟨⟨f0,f1,f2,f3,f4,f5⟩,hlt⟩:=hex b hb
  rcases aw.mp (I.stkSub b z)with q|q
  ·exact f1 q
  ·exact f2 q
theorem UI (I:Inv X pins σ H s) (C:Bg X scope N cap) (hex:∀b∈ex,dJ X pins H b/\b<s.heap.objs.size):
  Inv (cY X scope N s H ex) pins (qC cap σ) H { s with heap:=pushCells (s.heap.push { cls:=.type "dict",data:=.dict #[] }) scope.names }:=by
 have B:=sG scope.names (s.heap.push { cls:=.type "dict",data:=.dict #[] }) (fH X.env scope.names []);rw[ff]at B;have kp:∀b o,s.heap.get? b=some o->(pushCells (s.heap.push { cls:=.type "dict",data:=.dict #[] }) scope.names).get? b=some o:=λb o e=>qh _ _ _ _ (aj _ e);have ns:(pushCells (s.heap.push { cls:=.type "dict",data:=.dict #[] }) scope.names).Ns s.heap.objs.size (λ_=>none):=⟨_,#[],_,qh _ _ _ _ (az _ rfl),rfl,(λe he=>absurd he (by simp)),λ_=>rfl⟩
 obtain⟨m,hn,hl⟩:=I.loc;refine⟨GY I C hex,rfl,I.bare,Un.kept kp,⟨_,ns,λi x v h1 h2 h3=>?_⟩,λx c e=>?_,I.hok.fresh (ak _),λx c e=>?_,λp hp=>?_,I.hok.kept kp, ?_⟩
 ·have h2':(cap.map λo=>match o with|some j=>(σ[j]?).getD none|none=>none)[i]?=some (some v):=h2;rw[fw]at h2'
  cases q:cap[i]? with
  |none=>rw[q]at h2';cases h2'
  |some o=>
   rw[q]at h2'
   cases o with
   |none=>cases h2'
   |some j=>
    have e1:(σ[j]?).getD none=some v:=cx h2';have e2:σ[j]?=some (some v):=by
     cases z:σ[j]? with
     |none=>rw[z]at e1;cases e1
     |some w=>rw[z]at e1;exact congrArg some e1
    obtain⟨c1,c2,c3⟩:=C.cap i j x q h1;have vis:rY X.env.scope x:=by
     rcases C.free x c2 with z|z
     ·exact .inr (.inl z)
     ·exact .inr (.inr z)
    obtain⟨u,r,l⟩:=hl j x v c1 e2 vis;refine⟨u,r, ?_⟩
    rcases l with⟨hk,hm⟩|⟨hk,c,hc,hcell⟩
    ·rcases C.free x c2 with z|z
     ·rw[z]at hk;cases hk
     ·rw[z]at hk;cases hk
    ·refine .inr ⟨?_,c, ?_, ?_⟩
     ·have h3':rY (relabel scope X.env) x:=h3
      rcases h3' with z|z|z
      ·exact absurd z c3
      ·exact .inl z
      ·exact .inr z
     ·have:=(B.old x (C.apart x c2)).trans (vN _ _ (.inl c2));rw[hc]at this;exact this
     ·obtain⟨o,ho,hd⟩:=hcell;exact⟨o,kp _ _ ho,hd⟩
 ·rcases vP I C e with⟨q,_⟩|⟨_,q,_⟩
  ·obtain⟨v,o,ho,hd⟩:=I.cell x c q;exact⟨v,o,kp _ _ ho,hd⟩
  ·exact⟨none,q⟩
 ·rcases vP I C e with⟨q,_⟩|⟨q,_⟩
  ·exact I.freeC x c q
  ·exact I.hok.fresh (ij q)
 ·obtain⟨a1,a2,a3,a4,a5⟩:=I.pin p hp;refine⟨kp _ _ a1,a2,bf (av a1),λz=>?_,a5⟩
  rcases aw.mp (I.stkSub _ z)with q|q
  ·exact a3 q
  ·exact a4 q
 ·show(cap.map _).length=N.length;rw[ba];exact C.len
theorem UJ (I:Inv X pins σ H s) (C:Bg X scope N cap) (hex:∀b∈ex,dJ X pins H b/\b<s.heap.objs.size):∀b∈ex,dJ (cY X scope N s H ex) pins H b:=by intro b hb;obtain⟨⟨f0,f1,f2,f3,f4,f5⟩,hlt⟩:=hex b hb;have ok:=GY (N:=N) I C hex;exact⟨f0,(ok.exf b hb).1,ok.exfs b hb,.inl hb,(ok.exf b hb).2,f5⟩
theorem UK {σ':St}{H':Hp}{s':ag}{h':da}(I:Inv X pins σ H s) (hex:∀b∈ex,dJ X pins H b/\b<s.heap.objs.size) (I':Inv (cY X scope N s H ex) pins σ' H' s') (hh:jc s.heap.objs.size s'.heap h'):
  Inv X pins σ H' { s' with heap:=h' }:=by
 have u:Un (eQ X.stack) ex H H' s.heap s'.heap:=I'.base;have up:∀b o o',s.heap.get? b=some o->s'.heap.get? b=some o'->h'.get? b=some o':=λb o o' e e'=>(hh.2 b (bf (av e))).trans e';have hL:H' s.heap.objs.size=none:=I'.free;refine I.call' (s':={ s' with heap:=h' }) (ch:=ex) I'.os ⟨λb o q n hb hx=>up b o o q (u.keep b o q n hb hx),λb o q n hb hx=>?_,u.free,λb o q hx=>?_,u.tups,u.frzs,u.tbls⟩ (λb o e=>?_) I'.bare λb hb=>?_
 ·obtain⟨sl,e⟩:=u.slot b o q n hb hx;exact⟨sl,up b o _ q e⟩
 ·obtain⟨o',e⟩:=u.there b o q hx;exact⟨o',up b o _ q e⟩
 ·refine(I'.hok b o e).stay (λc v hc q=>(hh.2 c ?_).trans q) (λ_ q=>q) λ_ _ q=>q
  rcases hc with z|z
  ·rw[z];rintro rfl;rw[hL]at e;cases e
  ·rintro rfl;rw[hL]at z;cases z
 ·obtain⟨⟨f0,f1,f2,f3,f4,f5⟩,hlt⟩:=hex b hb;exact⟨f3,f1,f4,f5⟩
theorem Inv.adopt {a:ah}{o:HO}(I:Inv X pins σ H s) (f:dJ X pins H a) (ha:X.s₀.heap.objs.size<=a) (new:Ai X.prog X.w (aZ H a o) s.heap a o):Inv X pins σ (aZ H a o) s:=by
 obtain⟨f0,f1,f2,f3,f4,f5⟩:=f;have ne0:∀b ob,X.s₀.heap.get? b=some ob->b≠a:=λb ob e z=>by subst z;exact gv _ (bc (av e) ha)
 refine⟨I.ok,I.os,I.bare,⟨I.base.keep,I.base.slot,λb ob e n hx=>by rw[cF (ne0 b ob e)];exact I.base.free b ob e n hx,I.base.there,λb xs e=>?_,λb ob u e=>?_,λb ps e=>?_⟩,I.loc,I.cell,by rw[cF (dh f1)];exact I.free,
  λx c e=>by rw[cF (f4 x c e)];exact I.freeC x c e,λp hp=>?_,λb u e=>?_,I.len⟩
 ·have:=I.base.tups b xs e;rw[cF (fG this f0)];exact this
 ·have:=I.base.frzs b ob u e;rw[cF (fG this f0)];exact this
 ·obtain⟨more,this⟩:=I.base.tbls b ps e;exact⟨more,by rw[cF (fG this f0)];exact this⟩
 ·obtain⟨a1,a2,a3,a4,a5⟩:=I.pin p hp;exact⟨a1,by rw[cF (f5 p hp)];exact a2,a3,a4,a5⟩
 ·by_cases hb:b=a
  ·subst hb;rw[eG]at e;cases e;exact new
  ·rw[cF hb]at e;exact(I.hok b u e).stay (λ_ _ _ q=>q) (λc q=>by rw[cF (fG q f0)];exact q) λc xs q=>by rw[cF (fG q f0)];exact q
end
def AccAt (s:ag) (D:ah) (xs:List V):Prop:=xs.length<=cf/\∃(its:List af) (n:Nat),Ae xs its/\s.heap.get? D=some { cls:=.type "list",data:=.seq its.toArray n }
abbrev TC:=St->Hp->List V->(St->Hp->List V->Prop)->Prop
def Dj (X:Cx) (D:ah) (m:Sem Unit) (t:TC):Prop:=
 ∀(pins:List (ah×Obj)) (s:ag) (σ:St) (H:Hp) (xs:List V) (K:St->Hp->List V->Prop),Inv X pins σ H s->AccAt s D xs->dJ X pins H D->t σ H xs K->
  wpAny (model X.prog X.w) X.A m (λ_ s'=>∃σ' H' xs',Inv X pins σ' H' s'/\AccAt s' D xs'/\H' D=none/\K σ' H' xs') X.xe s
section
variable{X:Cx}{D:ah}
theorem AccAt.obj {s:ag}{xs:List V}(a:AccAt s D xs):∃o,s.heap.get? D=some o/\∀v,o.data≠.cell v:=by obtain⟨_,its,n,_,e⟩:=a;exact⟨_,e,λv z=>nomatch z⟩
theorem Inv.pinD {pins:List (ah×Obj)}{s:ag}{σ:St}{H:Hp}{xs:List V}(I:Inv X pins σ H s) (a:AccAt s D xs) (f:dJ X pins H D):Inv X (pins++jK [D] s.heap) σ H s:=
 I.pinned (λb hb=>by (have e:b=D:=by simpa using hb);subst e;exact f) λb hb=>by
  have e:b=D:=by simpa using hb
  subst e;exact a.obj
theorem Inv.atD {pins:List (ah×Obj)}{s s':ag}{σ':St}{H':Hp}{xs:List V}(a:AccAt s D xs) (I:Inv X (pins++jK [D] s.heap) σ' H' s'):AccAt s' D xs/\H' D=none:=by obtain⟨z,its,n,r,e⟩:=a;have:=I.pin (D,_) (bz _ (bz _ (pZ (by simp) e)));exact⟨⟨z,its,n,r,this.1⟩,this.2.1⟩
def GZ (te:TE):TC:=λσ H xs K=>te σ H λv H1=>xs.length<cf/\K σ H1 (xs++[v])
theorem AG {elt:bq}{te:TE}(he:PE X elt te):Dj X D (do let x <-eval elt X.env;let _ <-call (.builtin "list.append") [.ref D,x];pure ()) (GZ te):=by
 intro pins s σ H xs K I a f h;refine ae (bD (he _ s σ H _ (I.pinD a f) h) λu s1 ⟨v,H1,I1,r1,hz,q1⟩=>?_);obtain⟨a1,n1⟩:=Inv.atD a I1;have I1':=I1.unpinned;obtain⟨z,its,n,r,e⟩:=a1;have hl:=r.length;refine ae (vz F.slot_list_append ⟨_,e,rfl⟩ F.entry_list_append (F.args_list_append_2 _ _) (PySem.list_append D its.toArray n u (by rw[au];omega)) ⟨e, ?_⟩);have q:=yk e (·.push u);have e2:its.toArray.push u=(its++[u]).toArray:=by simp
 rw[e2]at q;refine ai ⟨σ,H1,xs++[v], ?_,⟨by rw[bw,ym];omega,its++[u],_,r.append (.cons r1 .nil),q⟩,n1,q1⟩;obtain⟨f0,f1,f2,f3,f4,f5⟩:=f;exact I1'.turned (t':=s1.toks) (λb o hb z=>(kg s1.heap _ (dh hb)).trans z) n1 f1 f3 f4 f5
def G0 (ifs:List bq) (env:Env):Sem Bool:=forIn ifs true λc r=>if r=true then do let ok <-isTrue c env (eval c env);pure (qp ok)else pure (qp r)
def PTs (X:Cx) (ifs:List bq) (t:TT):Prop:=∀(pins:List (ah×Obj)) (s:ag) (σ:St) (H:Hp) (Q:Bool->Hp->Prop),Inv X pins σ H s->t σ H Q->wpAny (model X.prog X.w) X.A (G0 ifs X.env) (TP X pins σ Q) X.xe s
def UL:TT:=λ_ H Q=>Q true H
theorem UM:PTs X [] UL:=λpins s σ H Q I h=>wpAny_tests_nil ⟨H,I,h⟩
theorem UN {c:bq}{t:TT}(h:PT X c t):PTs X [c] t:=λpins s σ H Q I q=>wpAny_tests_one (h pins s σ H Q I q)
def kR (p:Pos) (it:af) (tg:bq) (ifs:List bq) (env:Env) (inner:Sem Unit) (c:Code):Sem PySem.Fin:=do
 standAt p
 match <-pyNext it with
 |none=>pure (.done .next)
 |some v=>do
  letOwnedTupleGo tg it v
  assign tg env v
  let ok <-G0 ifs env
  if ok=true then do inner;again c
  else again c
def sH (J:It) (g:TG) (tt:TT) (inner:TC) (K:St->Hp->List V->Prop) (σ:St) (H:Hp) (xs:List V):Prop:=
 ∃W:Nat->Nat->St->Hp->List V->Prop,(∃m,W 0 m σ H xs)/\∀i m σ H xs,W i m σ H xs->
  (J.stop i H/\K σ H xs)∨(J.go i H/\∃N:St->Hp->List V->Prop,(∀σ' H' xs',N σ' H' xs'->∃m',m'<m/\W (i+1) m' σ' H' xs') /\
   ∀x H',J.yld i H x H'->g x σ H' λσ2 H2=>tt σ2 H2 λb H3=>if b=true then inner σ2 H3 xs N else N σ2 H3 xs)
theorem G1 {elt:bq}{gens:List jy}{sc:ic}{ps:Pos}{d:Nat}{it:ah}{tg:bq}{ifs:List bq}{p:Pos}{inner:Sem Unit}{g:TG}{tt:TT}{ti:TC}{J:It}{fp:List ah}{tn:Nat->da->Prop}
  (hx:X.xe=λ_ _=>False) (hc:X.calm=true)
  (ht:compTurn (.ListComp elt gens sc ps) d (.ref it) (.ref D) X.env=kR p (.ref it) tg ifs X.env inner (.compLoop (.ListComp elt gens sc ps) d (.ref it) (.ref D) X.env))
  (hg:PG X tg g) (Dd:PTs X ifs tt) (hi:Dj X D inner ti) (T:Turn X.prog X.w X.K tg J fp it tn)
  {pins:List (ah×Obj)}{s:ag}{σ:St}{H:Hp}{xs:List V}{K:St->Hp->List V->Prop}{R:vt->ag->Prop}(I:Inv X pins σ H s) (a:AccAt s D xs) (f:dJ X pins H D) (st:tn 0 s.heap) (hf:∀b∈fp,dJ X pins H b) (hD:D∉fp)
  (h:sH J g tt ti K σ H xs) (hR:∀σ' H' xs' s',Inv X pins σ' H' s'->AccAt s' D xs'->H' D=none->K σ' H' xs'->R (.ok .next) s'):
  codeAny (model X.prog X.w) X.A (.compLoop (.ListComp elt gens sc ps) d (.ref it) (.ref D) X.env) R s:=by
 obtain⟨W,⟨m0,w0⟩,turn⟩:=h;have stat:∀{H':Hp},(∀b∈fp,H' b=none)->∀b∈fp,dJ X pins H' b:=λhn b hb=>⟨hn b hb,(hf b hb).2⟩
 have statD:∀{H':Hp},H' D=none->dJ X pins H' D:=λhn=>⟨hn,f.2⟩
 refine codeAny_loop rfl (λn s'=>∃i σ' H' xs',Inv X pins σ' H' s'/\AccAt s' D xs'/\H' D=none/\tn i s'.heap/\(∀b∈fp,H' b=none)/\W i n σ' H' xs') ?_ m0 ⟨0,σ,H,xs,I,a,f.1,st,λb hb=>(hf b hb).1,w0⟩
 rintro n s3 ⟨i,σ3,H3,xs3,I3,a3,n3,st3,fr3,w3⟩
 show wpAny _ X.A ((compTurn (.ListComp elt gens sc ps) d (.ref it) (.ref D) X.env).onRaise (λx=>do noteFrame x X.env;theTreesLotGoes x)) _ _ s3;rw[ht];refine sf (qt (Q:=λfin s'=>match fin with | .done f=>R (.ok f) s' | .again c'=>c'=.compLoop (.ListComp elt gens sc ps) d (.ref it) (.ref D) X.env/\∃m,m<n/\∃i σ' H' xs',Inv X pins σ' H' s'/\AccAt s' D xs'/\H' D=none/\tn i s'.heap/\(∀b∈fp,H' b=none)/\W i m σ' H' xs') (E:=λ_ _=>False) ?_ (λ_ _ z=>z) λ_ _ z=>z.elim);unfold kR;refine ae (pw (ae ?_));have xe':∀{α:Type}{m:Sem α}{Q:α->ag->Prop}{s:ag},wpAny (model X.prog X.w) X.A m Q X.xe s->wpAny (model X.prog X.w) X.A m Q (λ_ _=>False) s:=λ{α m Q s} z=>by rw[hx]at z;exact z
 have I3':=I3.pinD a3 (statD n3);have fr3':∀b∈fp,dJ X (pins++jK [D] s3.heap) H3 b:=λb hb=>by
  obtain⟨g0,g1,g2,g3,g4,g5⟩:=stat fr3 b hb;refine⟨g0,g1,g2,g3,g4,λp hp=>?_⟩
  rcases cm.mp hp with z|z
  ·exact g5 p (fi _ z)
  ·rcases cm.mp z with z|z
   ·exact g5 p (bz _ z)
   ·have:=(zS z).1;have e:p.1=D:=by simpa using this
    rw[e];rintro rfl;exact hD hb
 rcases turn i n σ3 H3 xs3 w3 with⟨stop,qn⟩|⟨go,N,hN,step⟩
 ·refine bD (T.done X rfl rfl rfl hc i _ s3 σ3 H3 (λ_ _=>False) I3' fr3' st3 stop) λr s4 ⟨hr,I4⟩=>?_;subst hr;obtain⟨a4,n4⟩:=Inv.atD a3 I4;exact ai (hR σ3 H3 xs3 s4 I4.unpinned a4 n4 qn)
 ·refine bD (T.item X rfl rfl rfl hc i _ s3 σ3 H3 (λ_ _=>False) I3' fr3' st3 go) λr s4 ⟨u,hr,h4⟩=>?_;subst hr;refine ae (bD h4 λ_ s5 ⟨x,H5,I5,r5,y5,st5,fr5⟩=>?_);obtain⟨a5,n5⟩:=Inv.atD a3 I5;have I5u:=I5.unpinned;have I5p:=I5u.pinned (stat fr5) (T.obj _ _ st5);have fD5:dJ X (pins++jK fp s5.heap) H5 D:=by
   obtain⟨g0,g1,g2,g3,g4,g5⟩:=statD n5;refine⟨g0,g1,g2,g3,g4,λp hp=>?_⟩
   rcases cm.mp hp with z|z
   ·exact g5 p (fi _ z)
   ·rcases cm.mp z with z|z
    ·exact g5 p (bz _ z)
    ·rintro rfl;exact hD (zS z).1
  have I5':=I5p.pinD a5 fD5;refine ae (xe' (bD (hg _ s5 σ3 H5 x u _ I5' r5 (step x H5 y5)) λ_ s6 ⟨σ6,H6,I6,q6⟩=>?_));obtain⟨a6,n6⟩:=Inv.atD a5 I6;have pin':∀{s σ H},Inv X (pins++jK fp s5.heap) σ H s->tn (i+1) s.heap/\∀b∈fp,H b=none:=λ{s σ H} J=>by refine⟨T.keep _ _ _ st5 λb hb o e=>(J.pin (b,o) (bz _ (bz _ (pZ hb e)))).1,λb hb=>?_⟩;obtain⟨o,e,d⟩:=T.obj _ _ st5 b hb;exact(J.pin (b,o) (bz _ (bz _ (pZ hb e)))).2.1
  have fD6:dJ X (pins++jK fp s5.heap) H6 D:=⟨n6,fD5.2⟩
  have I6u:=I6.unpinned;have I6p:=I6u.pinD a6 fD6;refine ae (xe' (bD (Dd _ s6 σ6 H6 _ I6p q6) λb s7 ⟨H7,I7,q7⟩=>?_));obtain⟨a7,n7⟩:=Inv.atD a6 I7;have I7u:=I7.unpinned;have fin:∀{s8 σ8 H8 xs8},Inv X (pins++jK fp s5.heap) σ8 H8 s8->AccAt s8 D xs8->H8 D=none->N σ8 H8 xs8->
    ∃m,m<n/\∃i σ' H' xs',Inv X pins σ' H' s8/\AccAt s8 D xs'/\H' D=none/\tn i s8.heap/\(∀b∈fp,H' b=none)/\W i m σ' H' xs':=λ{s8 σ8 H8 xs8} J a8 n8 q8=>by
   obtain⟨m',hm,w8⟩:=hN σ8 H8 xs8 q8;obtain⟨t8,fr8⟩:=pin' J;exact⟨m',hm,i+1,σ8,H8,xs8,J.unpinned,a8,n8,t8,fr8,w8⟩
  cases b with
  |true=>
   rw[if_pos rfl]at q7 ⊢;have fD7:dJ X (pins++jK fp s5.heap) H7 D:=⟨n7,fD5.2⟩
   refine ae (xe' (bD (hi _ s7 σ6 H7 xs3 N I7u a7 fD7 q7) λ_ s8 ⟨σ8,H8,xs8,I8,a8,n8,q8⟩=>?_));exact ai ⟨rfl,fin I8 a8 n8 q8⟩
  |false=>rw[if_neg iz]at q7 ⊢;exact ai ⟨rfl,fin I7u a7 n7 q7⟩
end
theorem UO (elt tg iter:bq) (ifs:List bq) (sc:ic) (ps:Pos) (it:af) (D:ah) (env:Env):
  compTurn (.ListComp elt [⟨tg,iter,ifs,0⟩] sc ps) 0 it (.ref D) env =
   kR iter.pos it tg ifs env (do let x <-eval elt env;let _ <-call (.builtin "list.append") [.ref D,x];pure ()) (.compLoop (.ListComp elt [⟨tg,iter,ifs,0⟩] sc ps) 0 it (.ref D) env):=by rfl
def qD (iter:bq) (e:bq) (d:Nat) (D:ah) (env:Env):Sem Unit:=do
 let x <-eval iter env
 standAt iter.pos
 let x <-foldedSetIterable iter env x
 let it <-holding [x] (pyIter x)
 let _ <-runOwn (.compStart e d it (.ref D) env) env
 pure ()
theorem G2 (elt tg iter Cd An:bq) (ifs A':List bq) (sc:ic) (ps:Pos) (it:af) (D:ah) (env:Env):
  compTurn (.ListComp elt [⟨tg,iter,ifs,0⟩,⟨Cd,An,A',0⟩] sc ps) 0 it (.ref D) env =
   kR iter.pos it tg ifs env (qD An (.ListComp elt [⟨tg,iter,ifs,0⟩,⟨Cd,An,A',0⟩] sc ps) 1 D env) (.compLoop (.ListComp elt [⟨tg,iter,ifs,0⟩,⟨Cd,An,A',0⟩] sc ps) 0 it (.ref D) env):=by
 unfold kR qD;simp only[bind_assoc,pure_bind];rfl
theorem G3 (elt tg iter Cd An:bq) (ifs A':List bq) (sc:ic) (ps:Pos) (it:af) (D:ah) (env:Env):
  compTurn (.ListComp elt [⟨tg,iter,ifs,0⟩,⟨Cd,An,A',0⟩] sc ps) 1 it (.ref D) env =
   kR An.pos it Cd A' env (do let x <-eval elt env;let _ <-call (.builtin "list.append") [.ref D,x];pure ()) (.compLoop (.ListComp elt [⟨tg,iter,ifs,0⟩,⟨Cd,An,A',0⟩] sc ps) 1 it (.ref D) env):=by rfl
section
variable{X:Cx}{D:ah}
theorem G4 {prog:bh}{w:cp}{A:cn}{R:vt->ag->Prop}{s:ag}{elt:bq}{gens:List jy}{sc:ic}{ps:Pos}{d:Nat}{it acc:af}{env:Env}(ha:((gens)[d]?).elim false (·.is_async != 0)=false)
  (h0:codeAny (model prog w) A (.compLoop (.ListComp elt gens sc ps) d it acc env) R s)
  (h:wpAny (model prog w) A (pyIter it) (λit' s'=>codeAny (model prog w) A (.compLoop (.ListComp elt gens sc ps) d it' acc env) R s') (λ_ _=>False) s):
  codeAny (model prog w) A (.compStart (.ListComp elt gens sc ps) d it acc env) R s:=by
 refine codeAny_of_tree ?_;show wpAny _ _ ((compStart (.ListComp elt gens sc ps) d it acc env).onRaise (λx=>do noteFrame x env;standAt theWindowsPlace)) _ _ s;refine wpAny_notedAt (qt (E:=λ_ _=>False) ?_ (λ_ _ z=>z) λ_ _ z=>z.elim);unfold compStart;rw[show((clausesOf (.ListComp elt gens sc ps))[d]?).elim false (·.is_async != 0)=false from ha];simp only[cu,if_false];refine ae (mm (wpAny_ite ?_))
 split
 ·first
   |exact ae (ai (ai (And.intro rfl h0)))
   |exact ai (And.intro rfl h0)
 ·have fin:∀s:ag,wpAny (model prog w) A (pyIter it) (λit' s'=>codeAny (model prog w) A (.compLoop (.ListComp elt gens sc ps) d it' acc env) R s') (λ_ _=>False) s->
    wpAny (model prog w) A (do let it' <-pyIter it;again (.compLoop (.ListComp elt gens sc ps) d it' acc env)) (λfin s'=>match fin with | .done f=>R (.ok f) s' | .again c=>c.quiet=true/\codeAny (model prog w) A c R s') (λ_ _=>False) s:=λs h=>ae (qt h (λit' s' h'=>ai ⟨rfl,h'⟩) λ_ _ x=>x)
  refine ae (ph ?_);have ec:clausesOf (.ListComp elt gens sc ps)=gens:=rfl;rw[ec]
  cases q:gens[d]? with
  |none=>exact fin s h
  |some g=>exact ae (pw (fin s h))
def G5 (wi:TI) (g:TG) (tt:TT) (inner:TC):TC:=λσ H xs K=>wi σ H λJ H1=>sH J g tt inner K σ H1 xs
theorem G6 {elt:bq}{gens:List jy}{sc:ic}{ps:Pos}{d:Nat}{tg iter:bq}{ifs:List bq}{inner:Sem Unit}{wi:TI}{g:TG}{tt:TT}{ti:TC}
  (hx:X.xe=λ_ _=>False) (hc:X.calm=true) (ha:((gens)[d]?).elim false (·.is_async != 0)=false)
  (ht:∀it,compTurn (.ListComp elt gens sc ps) d (.ref it) (.ref D) X.env=kR iter.pos (.ref it) tg ifs X.env inner (.compLoop (.ListComp elt gens sc ps) d (.ref it) (.ref D) X.env))
  (hi:PI X tg iter wi) (hg:PG X tg g) (Dd:PTs X ifs tt) (Bz:Dj X D inner ti) (hs:∀x,foldedSetIterable iter X.env x=pure x):
  Dj X D (qD iter (.ListComp elt gens sc ps) d D X.env) (G5 wi g tt ti):=by
 intro pins s σ H xs K I a f h;unfold qD;refine ae (bD (hi _ s σ H _ (I.pinD a f) h) λv s1 h1=>ae (pw (ae (rn (hs v) (ae (fz (bD h1 λitv s2 h2=>?_)))))));obtain⟨it,fp,tn,J,H2,e,I2,T,st2,f2,lp⟩:=h2;subst e;obtain⟨a2,n2⟩:=Inv.atD a I2;have I2u:=I2.unpinned;have hpD:∀b∈fp,b≠D:=λb hb z=>by subst z;obtain⟨_,its,n,_,eo⟩:=a;exact(f2 b hb).2.2.2.2.2 (b,_) (bz _ (bz _ (pZ (by simp) eo))) rfl
 have f2u:∀b∈fp,dJ X pins H2 b:=λb hb=>by
  obtain⟨g0,g1,g2,g3,g4,g5⟩:=f2 b hb;exact⟨g0,g1,g2,g3,g4,λp hp=>g5 p (by
   rcases cm.mp hp with z|z
   ·exact fi _ z
   ·exact bz _ (fi _ z))⟩
 have fD:dJ X pins H2 D:=⟨n2,f.2⟩
 refine ae (wpAny_runOwn ?_);have loop:codeAny (model X.prog X.w) X.A (.compLoop (.ListComp elt gens sc ps) d (.ref it) (.ref D) X.env) (λr s'=>match r with
   | .ok f=>wpAny (model X.prog X.w) X.A (pure ():Sem Unit) (λ_ s'=>∃σ' H' xs',Inv X pins σ' H' s'/\AccAt s' D xs'/\H' D=none/\K σ' H' xs') X.xe s'
   | .error e=>cameBackBy (model X.prog X.w) X.A X.env X.xe e s') s2:=
  G1 hx hc (ht it) hg Dd Bz T I2u a2 fD st2 f2u (λz=>hpD D z rfl) lp λσ' H' xs' s' I' a' n' k'=>ai ⟨σ',H',xs',I',a',n',k'⟩
 exact G4 ha loop (T.self _ 0 s2 _ _ st2 loop)
end
def AH (wi:TI) (cap:List (Option Nat)) (g:TG) (tt:TT) (inner:TC):TE:=λσ H Q=>wi σ H λJ H1=>sH J g tt inner (λ_ H' xs=>∀p,H' p=none->Q (.ref p) (aZ H' p (.lst xs))) (qC cap σ) H1 []
section
variable{X:Cx}
theorem G7 {elt:bq}{gens:List jy}{sc:ic}{ps:Pos}{tg iter:bq}{ifs:List bq}{rest:List jy}{inner:ah->Env->Sem Unit}{g:TG}{tt:TT}{ti:TC}{N:zr}{cap:List (Option Nat)}{E:af->ag->Prop}
  (hc:X.calm=true) (C:Bg X sc N cap) (eg:gens=⟨tg,iter,ifs,0⟩::rest)
  (ht:∀it D env,compTurn (.ListComp elt gens sc ps) 0 (.ref it) (.ref D) env=kR iter.pos (.ref it) tg ifs env (inner D env) (.compLoop (.ListComp elt gens sc ps) 0 (.ref it) (.ref D) env))
  (hg:∀s H ex,PG (cY X sc N s H ex) tg g) (Dd:∀s H ex,PTs (cY X sc N s H ex) ifs tt)
  {pins:List (ah×Obj)}{s2:ag}{σ:St}{H2:Hp}(Bz:∀s ex D,Inv X pins σ H2 s->(∀b∈ex,dJ X pins H2 b/\b<s.heap.objs.size)->Dj (cY X sc N s H2 ex) D (inner D (cY X sc N s H2 ex).env) ti)
  {K:St->Hp->List V->Prop}{it:ah}{fp:List ah}{tn:Nat->da->Prop}{J:It}(I2:Inv X pins σ H2 s2) (T:Turn X.prog X.w X.K tg J fp it tn) (st2:tn 0 s2.heap) (f2:∀b∈fp,dJ X pins H2 b)
  (lp:sH J g tt ti K (qC cap σ) H2 []) {R:af->ah->vt->ag->Prop}
  (hR:∀σ' H' xs (s3 s':ag) (C D:ah),X.s₀.heap.objs.size<=D->C=s3.heap.objs.size->(∃m,s'.heap.Ns C m)->AccAt s' D xs->dJ X pins H' D->dJ X pins H' C->D<C->(∀h',jc C s'.heap h'->Inv X pins σ H' { s' with heap:=h' })->K σ' H' xs->R (.ref D) C (.ok .next) s'):
  wpAny (model X.prog X.w) X.A (newList []) (λacc s3=>wpAny (model X.prog X.w) X.A (newFunctionEnv sc X.env.globals (fH X.env sc.names []) [] X.env.qual none .none (some X.env)) (λcenv s4=>codeAny (model X.prog X.w) X.A (.compStart (.ListComp elt gens sc ps) 0 (.ref it) acc { cenv with scope:=relabel sc X.env }) (R acc cenv.locals) s4) E s3) E s2:=by
 refine fg (UH ?_);dsimp only;generalize hs3:({ s2 with heap:=s2.heap.push { cls:=.type "list",dict:=none,data:=.seq ([]:List af).toArray } }:ag)=s3;have kp:∀b o,s2.heap.get? b=some o->s3.heap.get? b=some o:=λb o e=>by rw[<-hs3];exact aj _ e
 have I3:Inv X pins σ H2 s3:=by rw[<-hs3];exact I2.kept (t':=s2.toks) λb o e=>aj _ e
 have eD:s3.heap.get? s2.heap.objs.size=some { cls:=.type "list",data:=.seq ([]:List af).toArray 0 }:=by rw[<-hs3];exact az _ rfl
 have nD:H2 s2.heap.objs.size=none:=I2.hok.fresh (ak _);have fD:dJ X pins H2 s2.heap.objs.size:=I2.fpOk (ak _) nD;have hlt:s2.heap.objs.size<s3.heap.objs.size:=av eD;have hex:∀b∈s2.heap.objs.size::fp,dJ X pins H2 b/\b<s3.heap.objs.size:=λb hb=>by
  rcases aw.mp hb with rfl|hb
  ·exact⟨fD,hlt⟩
  ·obtain⟨o,e,_⟩:=T.obj 0 _ st2 b hb;exact⟨f2 b hb,av (kp b o e)⟩
 have hDfp:s2.heap.objs.size∉fp:=λz=>by obtain⟨o,e,_⟩:=T.obj 0 _ st2 _ z;exact gv _ (av e)
 have I4:=UI (N:=N) (ex:=s2.heap.objs.size::fp) I3 C hex;have F4:=UJ (N:=N) I3 C hex;have st4:tn 0 (pushCells (s3.heap.push { cls:=.type "dict",data:=.dict #[] }) sc.names):=T.keep 0 _ _ st2 λb hb o e=>qh _ _ _ _ (aj _ (kp b o e));have a4:AccAt { s3 with heap:=pushCells (s3.heap.push { cls:=.type "dict",data:=.dict #[] }) sc.names } s2.heap.objs.size []:=⟨iu _,[],0,.nil,qh _ _ _ _ (aj _ eD)⟩
 have loop:codeAny (model X.prog X.w) X.A (.compLoop (.ListComp elt gens sc ps) 0 (.ref it) (.ref s2.heap.objs.size) (cY X sc N s3 H2 (s2.heap.objs.size::fp)).env) (R (.ref s2.heap.objs.size) s3.heap.objs.size)
   { s3 with heap:=pushCells (s3.heap.push { cls:=.type "dict",data:=.dict #[] }) sc.names }:=by
  refine G1 (X:=cY X sc N s3 H2 (s2.heap.objs.size::fp)) rfl hc (ht it _ _) (hg _ _ _) (Dd _ _ _) (Bz _ _ _ I3 hex) T I4 a4 (F4 _ (ax ..)) st4 (λb hb=>F4 b (ao _ hb)) hDfp lp λσ' H' xs' s' I' a' n' k'=>?_;obtain⟨m,hn,_⟩:=I'.loc;exact hR σ' H' xs' s3 s' _ _ (dm I2.sz (ak _)) rfl ⟨m,hn⟩ a' ⟨n',fD.2⟩ (I3.fpOk (ak _) I'.free) hlt (λh' hh=>UK I3 hex I' hh) k'
 have ha:((gens)[0]?).elim false (·.is_async != 0)=false:=by rw[eg];rfl
 subst hs3;exact G4 ha loop (T.self _ 0 _ _ _ st4 loop)
theorem G8 {elt:bq}{gens:List jy}{sc:ic}{ps:Pos}{tg iter:bq}{ifs:List bq}{rest:List jy}{inner:ah->Env->Sem Unit}{wi:TI}{g:TG}{tt:TT}{ti:TC}{N:zr}{cap:List (Option Nat)}
  (hc:X.calm=true) (C:Bg X sc N cap) (eg:gens=⟨tg,iter,ifs,0⟩::rest)
  (ht:∀it D env,compTurn (.ListComp elt gens sc ps) 0 (.ref it) (.ref D) env=kR iter.pos (.ref it) tg ifs env (inner D env) (.compLoop (.ListComp elt gens sc ps) 0 (.ref it) (.ref D) env))
  (hi:PI X tg iter wi) (hg:∀s H ex,PG (cY X sc N s H ex) tg g) (Dd:∀s H ex,PTs (cY X sc N s H ex) ifs tt) (Bz:∀s H ex D,Dj (cY X sc N s H ex) D (inner D (cY X sc N s H ex).env) ti)
  (hs:∀x,foldedSetIterable iter X.env x=pure x):PE X (.ListComp elt gens sc ps) (AH wi cap g tt ti):=by
 intro pins s σ H Q I h;rw[eval_ListComp];have hcl:closureFor sc X.env=pure (fH X.env sc.names []):=GW λx hx=>I.ok.has x (C.free x hx);have e1:firstAsync gens=false:=by rw[eg];rfl
 have e2:firstIter gens X.env=eval iter X.env:=by rw[eg];rfl
 rw[e1,e2];refine zh (use:=none) (g:=⟨tg,iter,ifs,0⟩) (gs:=rest) (by rw[eg];rfl) hs hcl C.kind C.nd (bD (hi pins s σ H _ I h) λv s1 h1=>bD h1 λitv s2 h2=>?_);obtain⟨it,fp,tn,J,H2,e,I2,T,st2,f2,lp⟩:=h2;subst e;refine G7 (N:=N) (inner:=inner) (R:=λacc C=>compPost (model X.prog X.w) X.A X.xe none (EP X pins σ Q) acc C) hc C eg ht hg Dd (λs ex D _ _=>Bz s _ ex D) I2 T st2 f2 lp ?_;intro σ' H' xs s3 s' C D hD0 hC hn a f fC hDC Bq k;obtain⟨m,hn⟩:=hn;refine⟨m,hn,λh' hh=>?_⟩;have I5:=Bq h' hh;obtain⟨hz,its,n,r,eD⟩:=a;have eD':h'.get? D=some { cls:=.type "list",data:=.seq its.toArray n }:=(hh.2 D (bf hDC)).trans eD;refine⟨.ref D,aZ H' D (.lst xs),I5.adopt f hD0 ⟨hz,its,n,r,eD'⟩,rfl,k D f.1⟩
end
section
variable{X:Cx}
theorem UP {i:Nat}{x:Str}{px pos:Pos}{elt:bq}{gens:List jy}{sc:ic}{ps:Pos}{tg iter:bq}{ifs:List bq}{rest:List jy}{inner:ah->Env->Sem Unit}{wi:TI}{g:TG}{tt:TT}{ti:TC}{N:zr}{cap:List (Option Nat)}
  (hsw:swapsWith (.ListComp elt gens sc ps) (some (.Name x px)) pos.line X.env=pure true) (hN:X.N.Nodup) (hi':X.N[i]?=some x) (hx:X.env.scope.names.lookup x=some .local)
  (hc:X.calm=true) (C:Bg X sc N cap) (eg:gens=⟨tg,iter,ifs,0⟩::rest)
  (ht:∀it D env,compTurn (.ListComp elt gens sc ps) 0 (.ref it) (.ref D) env=kR iter.pos (.ref it) tg ifs env (inner D env) (.compLoop (.ListComp elt gens sc ps) 0 (.ref it) (.ref D) env))
  (hi:PI X tg iter wi) (hg:∀s H ex,PG (cY X sc N s H ex) tg g) (Dd:∀s H ex,PTs (cY X sc N s H ex) ifs tt) (Bz:∀s H ex D,Dj (cY X sc N s H ex) D (inner D (cY X sc N s H ex).env) ti)
  (hs:∀x,foldedSetIterable iter X.env x=pure x):PS X (.Assign [.Name x px] (.ListComp elt gens sc ps) pos) (vE (AH wi cap g tt ti) (zP i)):=by
 intro pins s σ H D I h;rw[exec_Assign_Name_used _ _ _ _ hsw];have hcl:closureFor sc X.env=pure (fH X.env sc.names []):=GW λx hx=>I.ok.has x (C.free x hx);have e1:firstAsync gens=false:=by rw[eg];rfl
 have e2:firstIter gens X.env=eval iter X.env:=by rw[eg];rfl
 refine ae (pw (ae ?_));show wpAny _ X.A (do let _ <-comprehension (.ListComp elt gens sc ps) sc X.env (firstIterPos gens ps) (newList []) (firstAsync gens) (firstIter gens X.env) (some (assign (.Name x px) X.env))) _ _ s;rw[e1,e2];refine ae (bD (zh (use:=some (assign (.Name x px) X.env)) (Q:=λ_ s'=>SP X pins D .next s') (g:=⟨tg,iter,ifs,0⟩) (gs:=rest) (by rw[eg];rfl) hs hcl C.kind C.nd (bD (hi pins s σ H _ I h) λv s1 h1=>bD h1 λitv s2 h2=>?_)) λ_ s' hq=>ai (ai hq));obtain⟨it,fp,tn,J,H2,e,I2,T,st2,f2,lp⟩:=h2;subst e;refine G7 (N:=N) (inner:=inner) (R:=λacc C=>compPost (model X.prog X.w) X.A X.xe (some (assign (.Name x px) X.env)) (λ_ s'=>SP X pins D .next s') acc C) hc C eg ht hg Dd (λs ex D _ _=>Bz s _ ex D) I2 T st2 f2 lp ?_;intro σ' H' xs s3 s' C D' hD0 hC hn a f fC hDC Bq k;obtain⟨m,hn⟩:=hn;have I5:Inv X pins σ H' s':=Bq s'.heap (sr ..);obtain⟨hz,its,n,r,eD⟩:=a;have I6:Inv X pins σ (aZ H' D' (.lst xs)) s':=I5.adopt f hD0 ⟨hz,its,n,r,eD⟩;show wpAny _ X.A (assign (.Name x px) X.env (.ref D')) _ _ s';obtain⟨c0,c1,c2,c3,c4,c5⟩:=fC;have nC:aZ H' D' (.lst xs) C=none:=by rw[cF (dh (bf hDC))];exact c0
 refine wpAny_assign_Name (FK (v:=V.ref D') I6 hN hi' (.inl hx) rfl (λs'' I7 ⟨a,sb,ha⟩=>?_) (.inr hx));have hCa:C≠a:=by
  rcases ha with z|z
  ·rw[z];exact c1
  ·exact dh (c4 x a z)
 refine⟨m,hn.sameBut sb hCa,λh' hh=>?_⟩;have I8:Inv X pins (σ.set i (some (.ref D'))) (aZ H' D' (.lst xs)) { s'' with heap:=h' }:=I7.turned (t':=s''.toks) (λb o hb e=>(hh.2 b hb).trans e) nC c1 c3 c4 c5;exact⟨_,_,I8,k D' f.1⟩
end
inductive Dt where
 |non|bl (b:Bool)|int (i:Int)|str (x:Str)|tup (xs:List Dt)|lst (xs:List Dt)|dct
mutual
def Den (P:ah->Prop) (H:Hp):Dt->V->Prop
 | .non,v=>v=.non
 | .bl b,v=>v=.bl b
 | .int i,v=>v=.int i
 | .str x,v=>v=.str x
 | .tup ds,v=>∃a vs,v=.ref a/\H a=some (.tup vs)/\Aj P H ds vs
 | .lst ds,v=>∃a vs,v=.ref a/\P a/\H a=some (.lst vs)/\Aj P H ds vs
 | .dct,v=>∃a,v=.ref a/\P a/\H a=some (.dK [])
def Aj (P:ah->Prop) (H:Hp):List Dt->List V->Prop
 | [],vs=>vs=[]
 |d::ds,vs=>∃v r,vs=v::r/\Den P H d v/\Aj P H ds r
end
theorem Aj.length {P:ah->Prop}{H:Hp}:∀{ds:List Dt}{vs:List V},Aj P H ds vs->vs.length=ds.length
 | [],vs,h=>by rw[Aj]at h;rw[h];rfl
 |d::ds,vs,h=>by rw[Aj]at h;obtain⟨v,r,rfl,_,h2⟩:=h;simp[Aj.length h2]
theorem Aj.get {P:ah->Prop}{H:Hp}:∀{ds:List Dt}{vs:List V}{i:Nat}{v:V},Aj P H ds vs->vs[i]?=some v->∃d,ds[i]?=some d/\Den P H d v
 | [],vs,i,v,h,e=>by rw[Aj]at h;rw[h]at e;simp at e
 |d::ds,vs,i,v,h,e=>by
  rw[Aj]at h;obtain⟨w,r,rfl,h1,h2⟩:=h
  cases i with
  |zero=>simp at e;subst e;exact⟨d,rfl,h1⟩
  |succ i=>simp at e;exact Aj.get (i:=i) h2 e
theorem Aj.nil {P:ah->Prop}{H:Hp}:Aj P H [] []:=by rw[Aj]
theorem Aj.cons {P:ah->Prop}{H:Hp}{d:Dt}{v:V}{ds:List Dt}{vs:List V}(h:Den P H d v) (t:Aj P H ds vs):Aj P H (d::ds) (v::vs):=by rw[Aj];exact⟨v,vs,rfl,h,t⟩
mutual
def bM:Dt->Dt->Bool
 | .non,.non=>true
 | .bl a,.bl b=>a==b
 | .bl a,.int j=>(if a then 1 else 0)==j
 | .int i,.bl b=>i==(if b then 1 else 0)
 | .int i,.int j=>i==j
 | .str x,.str y=>x==y
 | .tup xs,.tup ys=>iE xs ys
 | .lst xs,.lst ys=>iE xs ys
 |_,_=>false
def iE:List Dt->List Dt->Bool
 | [],[]=>true
 |x::xs,y::ys=>bM x y&&iE xs ys
 |_,_=>false
end
mutual
def eK:Dt->Nat
 | .tup xs=>mG xs+1
 | .lst xs=>mG xs+1
 |_=>0
def mG:List Dt->Nat
 | []=>0
 |x::xs=>max (eK x) (mG xs)
end
mutual
def nod:Dt->Bool
 | .tup xs=>jD xs
 | .lst xs=>jD xs
 | .dct=>false
 |_=>true
def jD:List Dt->Bool
 | []=>true
 |x::xs=>nod x&&jD xs
end
mutual
theorem vQ:∀d:Dt,nod d=true->bM d d=true
 | .non,_=>rfl
 | .bl b,_=>by simp[bM]
 | .int i,_=>by simp[bM]
 | .str x,_=>by simp[bM]
 | .tup xs,h=>by rw[bM];exact AI xs (by rw[nod]at h;exact h)
 | .lst xs,h=>by rw[bM];exact AI xs (by rw[nod]at h;exact h)
 | .dct,h=>by simp[nod]at h
theorem AI:∀l:List Dt,jD l=true->iE l l=true
 | [],_=>rfl
 |x::xs,h=>by rw[jD,cw]at h;rw[iE,vQ x h.1,AI xs h.2];rfl
end
theorem G9:∀{l:List Dt}{d:Dt},d∈l->eK d<=mG l
 |x::xs,d,h=>by
  rw[mG]
  rcases aw.mp h with rfl|h
  ·omega
  ·have:=G9 h;omega
theorem AJ:∀{l:List Dt}{d:Dt},jD l=true->d∈l->nod d=true
 |x::xs,d,h,hd=>by
  rw[jD,cw]at h
  rcases aw.mp hd with rfl|hd
  ·exact h.1
  ·exact AJ h.2 hd
theorem sJ:∀{xs ys:List Dt},xs.length=ys.length->iE xs ys=(ay xs.length).all λi=>bM (xs.getD i .non) (ys.getD i .non)
 | [],[],_=>rfl
 |x::xs,y::ys,h=>by rw[iE,sJ (xs:=xs) (ys:=ys) (by simpa using h),cy,yh,List.all_cons,List.all_map];rfl
theorem sL:∀{xs ys:List Dt},xs.length≠ys.length->iE xs ys=false
 | [],[],h=>absurd rfl h
 | [],_::_,_=>rfl
 |_::_,[],_=>rfl
 |x::xs,y::ys,h=>by rw[iE,sL (xs:=xs) (ys:=ys) (by simpa using h),qd]
mutual
theorem Den.inj {P:ah->Prop}{H:Hp}:∀(d d':Dt) (v:V),Den P H d v->Den P H d' v->d=d'
 | .non,d',v,h,h'=>by
  rw[Den]at h;subst h
  cases d' <;> rw[Den]at h' <;> first|rfl|(obtain⟨_,_,e,_⟩:=h';cases e;done)|(obtain⟨_,e,_⟩:=h';cases e;done)|(cases h';done)
 | .bl b,d',v,h,h'=>by
  rw[Den]at h;subst h
  cases d' <;> rw[Den]at h' <;> first|(obtain⟨_,_,e,_⟩:=h';cases e;done)|(obtain⟨_,e,_⟩:=h';cases e;done)|(cases h';done)|(cases h';rfl)
 | .int b,d',v,h,h'=>by
  rw[Den]at h;subst h
  cases d' <;> rw[Den]at h' <;> first|(obtain⟨_,_,e,_⟩:=h';cases e;done)|(obtain⟨_,e,_⟩:=h';cases e;done)|(cases h';done)|(cases h';rfl)
 | .str b,d',v,h,h'=>by
  rw[Den]at h;subst h
  cases d' <;> rw[Den]at h' <;> first|(obtain⟨_,_,e,_⟩:=h';cases e;done)|(obtain⟨_,e,_⟩:=h';cases e;done)|(cases h';done)|(cases h';rfl)
 | .tup ds,d',v,h,h'=>by
  rw[Den]at h;obtain⟨a,vs,rfl,h1,h2⟩:=h
  cases d' <;> rw[Den]at h' <;> first|(cases h';done)|(obtain⟨_,_,e,_,q,_⟩:=h';cases e;rw[h1]at q;cases q;done)|(obtain⟨_,e,_,q⟩:=h';cases e;rw[h1]at q;cases q;done)|(obtain⟨_,_,e,q,g⟩:=h';cases e;rw[h1]at q;cases q;rw[Aj.inj ds _ vs h2 g])
 | .lst ds,d',v,h,h'=>by
  rw[Den]at h;obtain⟨a,vs,rfl,_,h1,h2⟩:=h
  cases d' <;> rw[Den]at h' <;> first|(cases h';done)|(obtain⟨_,_,e,q,_⟩:=h';cases e;rw[h1]at q;cases q;done)|(obtain⟨_,e,_,q⟩:=h';cases e;rw[h1]at q;cases q;done)|(obtain⟨_,_,e,_,q,g⟩:=h';cases e;rw[h1]at q;cases q;rw[Aj.inj ds _ vs h2 g])
 | .dct,d',v,h,h'=>by
  rw[Den]at h;obtain⟨a,rfl,_,h1⟩:=h
  cases d' <;> rw[Den]at h' <;> first|rfl|(cases h';done)|(obtain⟨_,_,e,q,_⟩:=h';cases e;rw[h1]at q;cases q;done)|(obtain⟨_,_,e,_,q,_⟩:=h';cases e;rw[h1]at q;cases q;done)
theorem Aj.inj {P:ah->Prop}{H:Hp}:∀(ds Bs:List Dt) (vs:List V),Aj P H ds vs->Aj P H Bs vs->ds=Bs
 | [],Bs,vs,h,h'=>by
  rw[Aj]at h;subst h
  cases Bs with
  |nil=>rfl
  |cons d Bs=>rw[Aj]at h';obtain⟨_,_,e,_⟩:=h';cases e
 |d::ds,Bs,vs,h,h'=>by
  rw[Aj]at h;obtain⟨v,r,rfl,h1,h2⟩:=h
  cases Bs with
  |nil=>rw[Aj]at h';cases h'
  |cons d' Bs=>rw[Aj]at h';obtain⟨v',r',e,h1',h2'⟩:=h';cases e;rw[Den.inj d d' v h1 h1',Aj.inj ds Bs r h2 h2']
end
section
variable{Pg:bh}{w:cp}{P:ah->Prop}{H:Hp}{s:ag}
theorem UQ (hok:Bk Pg w H s.heap) {a:ah}{vs:List V}(e:H a=some (.tup vs)):∃its:List af,Ae vs its/\s.heap.IsTuple a its.toArray:=by
 obtain⟨_,its,r,p⟩:=(show Ai Pg w H s.heap a (.tup vs) from hok a _ e)
 exact⟨its,r,p.tup⟩
theorem UR (hok:Bk Pg w H s.heap) {a:ah}{vs:List V}(e:H a=some (.lst vs)):∃its:List af,Ae vs its/\s.heap.IsList a its.toArray:=by
 obtain⟨_,its,n,r,p⟩:=(show Ai Pg w H s.heap a (.lst vs) from hok a _ e)
 exact⟨its,r,_,p,rfl,n,rfl⟩
theorem HC {vs:List V}{its:List af}(r:Ae vs its) {j:Nat}(h:j<its.toArray.size):∃v,vs[j]?=some v/\RelV v its.toArray[j]:=by
 have hl:=r.length;have h':j<its.length:=by simpa using h
 have hv:j<vs.length:=by omega
 obtain⟨u,e,q⟩:=r.get (i:=j) (x:=vs[j]) (br hv);refine⟨vs[j],br hv, ?_⟩;have:its.toArray[j]=u:=by have:its[j]?=some its[j]:=br h';rw[this]at e;simpa using e
 rw[this];exact q
inductive Vw (P:ah->Prop) (H:Hp) (s:ag):Dt->af->Prop
 |non:Vw P H s .non .none
 |bl {b:Bool}:Vw P H s (.bl b) (.bool b)
 |int {i:Int}{t:Tok}:Vw P H s (.int i) (.int i t)
 |str {x:Str}{t:Tok}:Vw P H s (.str x) (.str x t)
 |tup {ds:List Dt}{a:ah}{vs:List V}{its:List af}(e:H a=some (.tup vs)) (g:Aj P H ds vs) (q:Ae vs its) (tp:s.heap.IsTuple a its.toArray):Vw P H s (.tup ds) (.ref a)
 |lst {ds:List Dt}{a:ah}{vs:List V}{its:List af}(e:H a=some (.lst vs)) (g:Aj P H ds vs) (q:Ae vs its) (tp:s.heap.IsList a its.toArray):Vw P H s (.lst ds) (.ref a)
theorem vw (hok:Bk Pg w H s.heap) {d:Dt}{v:V}{u:af}(n:nod d=true) (h:Den P H d v) (r:RelV v u):Vw P H s d u:=by
 cases d <;> rw[Den]at h
 case tup=>obtain⟨a,vs,rfl,e,g⟩:=h;cases r;obtain⟨its,q,tp⟩:=UQ hok e;exact .tup e g q tp
 case lst=>obtain⟨a,vs,rfl,_,e,g⟩:=h;cases r;obtain⟨its,q,tp⟩:=UR hok e;exact .lst e g q tp
 case dct=>simp[nod]at n
 all_goals subst h
 case int=>obtain⟨t,rfl⟩:=r;exact .int
 case str=>obtain⟨t,rfl⟩:=r;exact .str
 all_goals cases r;constructor
theorem vR (hok:Bk Pg w H s.heap) {A:cn}{n:Nat}(ih:∀(d d':Dt) (u u':af),eK d<=n->nod d=true->nod d'=true->Vw P H s d u->Vw P H s d' u'->jz A s u u' (bM d d')) {vs Bp:List V}{ds Bs:List Dt}{its its':List af}(hd:mG ds<=n) (m1:jD ds=true) (m2:jD Bs=true) (g:Aj P H ds vs) (g':Aj P H Bs Bp) (q:Ae vs its) (q':Ae Bp its')
  (j:Nat) (h1:j<its.toArray.size) (h2:j<its'.toArray.size):jz A s its.toArray[j] its'.toArray[j] (bM (ds.getD j .non) (Bs.getD j .non)):=by
 obtain⟨x,ex,rx⟩:=HC q h1;obtain⟨x',ex',rx'⟩:=HC q' h2;obtain⟨dx,edx,gx⟩:=g.get ex;obtain⟨dx',edx',gx'⟩:=g'.get ex';have e1:ds.getD j .non=dx:=by simp[pz,edx]
 have e2:Bs.getD j .non=dx':=by simp[pz,edx']
 rw[e1,e2];have hm:=di edx;have k1:=AJ m1 hm;have k2:=AJ m2 (di edx');exact ih dx dx' _ _ (dm (G9 hm) hd) k1 k2 (vw hok k1 gx rx) (vw hok k2 gx' rx')
theorem HD (hok:Bk Pg w H s.heap) (n:Nat) (ih:∀m,m+1=n->∀(A:cn) (d d':Dt) (u u':af),eK d<=m->A.units+m+1<cLine->nod d=true->nod d'=true->Vw P H s d u->Vw P H s d' u'->rf A s u u' (bM d d')/\jz A s u u' (bM d d'))
  (A:cn) (d d':Dt) (u u':af) (hn:eK d<=n) (hu:A.units+n+1<cLine) (n1:nod d=true) (n2:nod d'=true) (h:Vw P H s d u) (h':Vw P H s d' u'):rf A s u u' (bM d d')/\jz A s u u' (bM d d'):=by
 have Ap:A.units<cLine:=by omega
 have ok:∀{a1 a2:ah}{b:Bool},(rf A s (.ref a1) (.ref a2) b)->(a1=a2->b=true)->rf A s (.ref a1) (.ref a2) b/\jz A s (.ref a1) (.ref a2) b:=λ{a1 a2 b} key z=>⟨key,by
  by_cases Ck:a1=a2
  ·rw[z Ck,Ck];exact .same _
  ·exact .of_refs Ck key⟩
 have Bz:1<=n->∀(d d':Dt) (u u':af),eK d<=n - 1->nod d=true->nod d'=true->Vw P H s d u->Vw P H s d' u'->jz A.in1 s u u' (bM d d'):=λhd d d' u u' a b c e f=>(ih (n - 1) (by omega) A.in1 d d' u u' a (by show A.units+1+(n - 1)+1<cLine;omega) b c e f).2
 cases h <;> cases h'
 case tup.tup ds a1 vs1 its1 e1 g1 q1 tp1 Bs a2 vs2 Bm e2 g2 q2 tp2=>
  rw[nod]at n1 n2;rw[eK]at hn;have hl1:=g1.length;have hl2:=g2.length;have hq1:=q1.length;have hq2:=q2.length;refine ok ?_ λCk=>?_
  ·rw[bM];have z:=SeqAt.RcAt.tuples (e:=λj=>bM (ds.getD j .non) (Bs.getD j .non)) tp1 tp2 Ap (vR hok (Bz (by omega)) (by omega) n1 n2 g1 g2 q1 q2);have s1:its1.toArray.size=ds.length:=by simp;omega
   have s2:Bm.toArray.size=Bs.length:=by simp;omega
   rw[s1,s2]at z
   by_cases hlen:ds.length=Bs.length
   ·rw[sJ hlen];rw[<-hlen,yn]at z;simpa using z
   ·rw[sL hlen];rw[show(ds.length==Bs.length)=false from beq_eq_false_iff_ne.mpr hlen,qd]at z;exact z
  ·subst Ck;rw[e1]at e2;cases e2;rw[Aj.inj ds Bs _ g1 g2,vQ _ (by rw[nod];exact n2)]
 case lst.lst ds a1 vs1 its1 e1 g1 q1 tp1 Bs a2 vs2 Bm e2 g2 q2 tp2=>
  rw[nod]at n1 n2;rw[eK]at hn;have hl1:=g1.length;have hl2:=g2.length;have hq1:=q1.length;have hq2:=q2.length;refine ok ?_ λCk=>?_
  ·rw[bM]
   by_cases hlen:ds.length=Bs.length
   ·have z:=SeqAt.RcAt.lists (e:=λj=>bM (ds.getD j .non) (Bs.getD j .non)) tp1 tp2 (by simp;omega) Ap (vR hok (Bz (by omega)) (by omega) n1 n2 g1 g2 q1 q2);rw[sJ hlen];simpa[hq1.symm,hl1]using z
   ·rw[sL hlen];exact SeqAt.RcAt.lists_lengths tp1 tp2 (by simp;omega) Ap
  ·subst Ck;rw[e1]at e2;cases e2;rw[Aj.inj ds Bs _ g1 g2,vQ _ (by rw[nod];exact n2)]
 case non.non=>exact⟨.none_none,.same _⟩
 case non.bl=>exact⟨.none_bool _,.none_bool _⟩
 case non.int=>exact⟨.none_int _ _,.none_int _ _⟩
 case non.str=>exact⟨.none_str _ _,.none_str _ _⟩
 case non.tup=>exact⟨.none_tuple ‹_› Ap,.none_tuple ‹_› Ap⟩
 case non.lst=>exact⟨.none_list ‹_› Ap,.none_list ‹_› Ap⟩
 case bl.non=>exact⟨.bool_none _,.bool_none _⟩
 case bl.bl=>exact⟨.bool_bool _ _,.bool_bool _ _⟩
 case bl.int=>exact⟨.bool_int _ _ _,.bool_int _ _ _⟩
 case bl.str=>exact⟨.bool_str _ _ _,.bool_str _ _ _⟩
 case bl.tup=>exact⟨.bool_tuple _ ‹_› Ap,.bool_tuple _ ‹_› Ap⟩
 case bl.lst=>exact⟨.bool_list _ ‹_› Ap,.bool_list _ ‹_› Ap⟩
 case int.non=>exact⟨.int_none _ _,.int_none _ _⟩
 case int.bl=>exact⟨.int_bool _ _ _,.int_bool _ _ _⟩
 case int.int=>exact⟨.int_int _ _ _ _,.int_int _ _ _ _⟩
 case int.str=>exact⟨.int_str _ _ _ _,.int_str _ _ _ _⟩
 case int.tup=>exact⟨.int_tuple _ _ ‹_› Ap,.int_tuple _ _ ‹_› Ap⟩
 case int.lst=>exact⟨.int_list _ _ ‹_› Ap,.int_list _ _ ‹_› Ap⟩
 case str.non=>exact⟨.str_none _ _,.str_none _ _⟩
 case str.bl=>exact⟨.str_bool _ _ _,.str_bool _ _ _⟩
 case str.int=>exact⟨.str_int _ _ _ _,.str_int _ _ _ _⟩
 case str.str=>exact⟨.str_str _ _ _ _,.str_str _ _ _ _⟩
 case str.tup=>exact⟨.str_tuple _ _ ‹_› Ap,.str_tuple _ _ ‹_› Ap⟩
 case str.lst=>exact⟨.str_list _ _ ‹_› Ap,.str_list _ _ ‹_› Ap⟩
 case tup.non=>exact⟨.tuple_none ‹_› Ap,.tuple_none ‹_› Ap⟩
 case tup.bl=>exact⟨.tuple_bool _ ‹_› Ap,.tuple_bool _ ‹_› Ap⟩
 case tup.int=>exact⟨.tuple_int _ _ ‹_› Ap,.tuple_int _ _ ‹_› Ap⟩
 case tup.str=>exact⟨.tuple_str _ _ ‹_› Ap,.tuple_str _ _ ‹_› Ap⟩
 case tup.lst=>exact⟨.tuple_list ‹_› ‹_› Ap,.tuple_list ‹_› ‹_› Ap⟩
 case lst.non=>exact⟨.list_none ‹_› Ap,.list_none ‹_› Ap⟩
 case lst.bl=>exact⟨.list_bool _ ‹_› Ap,.list_bool _ ‹_› Ap⟩
 case lst.int=>exact⟨.list_int _ _ ‹_› Ap,.list_int _ _ ‹_› Ap⟩
 case lst.str=>exact⟨.list_str _ _ ‹_› Ap,.list_str _ _ ‹_› Ap⟩
 case lst.tup=>exact⟨.list_tuple ‹_› ‹_› Ap,.list_tuple ‹_› ‹_› Ap⟩
theorem AK (hok:Bk Pg w H s.heap):∀(n:Nat) (A:cn) (d d':Dt) (u u':af),eK d<=n->A.units+n+1<cLine->nod d=true->nod d'=true->Vw P H s d u->Vw P H s d' u'->rf A s u u' (bM d d')/\jz A s u u' (bM d d')
 |0=>HD hok 0 λ_ e=>by cases e
 |n+1=>HD hok _ λm e=>by cases e;exact AK hok n
theorem HE (hok:Bk Pg w H s.heap) (n:Nat) (A:cn) (d d':Dt) (v v':V) (u u':af) (a:eK d<=n) (b:A.units+n+1<cLine) (n1:nod d=true) (n2:nod d'=true) (h:Den P H d v) (h':Den P H d' v') (r:RelV v u) (r':RelV v' u'):
  rf A s u u' (bM d d')/\jz A s u u' (bM d d'):=AK hok n A d d' u u' a b n1 n2 (vw hok n1 h r) (vw hok n2 h' r')
end
end L2
namespace L2.Mr
open PySem PySem.Spec PyProof.Rows
inductive Dv where
 |non|bl (b:Bool)|int (i:Int)|str (x:Str)|tup (xs:List Dv)|ref (i:Nat)|edc|exc (c:Nat)|scr
inductive Ob where
 |lst (xs:List Dv)
 |clo (k t:Nat)
abbrev Hs:=List Ob
abbrev Ev:=List (Option Dv)
inductive Rs (α:Type) where
 |ok (a:α) (h:Hs)|ex (c:Nat) (h:Hs)|bad
abbrev zt:=List Dv->Hs->Rs Dv
abbrev zu:=List Dv
abbrev zv:=Option Dv
noncomputable def Rs.bind {α β:Type}(r:Rs α) (f:α->Hs->Rs β):Rs β:=match r with
 | .ok a h=>f a h
 | .ex c h=>.ex c h
 | .bad=>.bad
@[simp] theorem Rs.bind_ok {α β:Type}(a:α) (h:Hs) (f:α->Hs->Rs β):(Rs.ok a h).bind f=f a h:=rfl
@[simp] theorem Rs.bind_ex {α β:Type}(c:Nat) (h:Hs) (f:α->Hs->Rs β):(Rs.ex c h).bind f=.ex c h:=rfl
@[simp] theorem Rs.bind_bad {α β:Type}(f:α->Hs->Rs β):(Rs.bad).bind f=.bad:=rfl
abbrev M (α:Type):=Ev->Hs->Rs α
structure Cf0 where
 K:aq
 cl:Nat->ah
 scr:zo
 sa:ah
 tab:Option ah:=none
 lq:Str:=Str.empty
def eM (C:af) (e T:ah) (a0:af) (h:da):Prop:=∃oe vs,h.get? e=some oe/\oe.cls=C/\oe.data=.fields vs/\vs[0]?=some a0/\vs[1]?=some (.ref T)/\oe.dict=none
def vS (G:Cf0) (H:Hp) (c:Nat) (u:af):Prop:=∃e φ,u=.ref e/\H e=some (.ext φ)/\∀h,φ h->∃o,h.get? e=some o/\o.cls=.ref (G.cl c)
def AL:HO->Prop
 | .tup _=>True
 | .dK kvs=>kvs=[]
 | .frz _ _=>True
 |_=>False
def FzL (K:aq) (H:Hp) (a:ah) (xs:List V):Prop:=(∃o,H a=some (.frz o (.lst xs))) ∨
  ∃(o:Obj) (its:Array af) (n:Nat),K.lookup a=some o/\o.cls=.type "list"/\o.dict=none/\o.data=.seq its n/\its.size<=cf/\Ae xs its.toList
theorem FzL.sq {K:aq}{H:Hp}{a:ah}{xs:List V}(h:FzL K H a xs):Bd K H a xs:=by
 rcases h with⟨o,h⟩|h
 ·exact .inl (.inr ⟨o,h⟩)
 ·exact .inr h
theorem FzL.keep {K:aq}{H H':Hp}{a:ah}{xs:List V}(h:FzL K H a xs) (k:∀a o,AL o->H a=some o->H' a=some o):FzL K H' a xs:=by
 rcases h with⟨o,h⟩|h
 ·exact .inl ⟨o,k a _ trivial h⟩
 ·exact .inr h
mutual
def Ac (G:Cf0) (μ:Nat->ah) (n:Nat) (H:Hp):Dv->V->Prop
 | .non,v=>v=.non
 | .bl b,v=>v=.bl b
 | .int i,v=>v=.int i
 | .str x,v=>v=.str x
 | .tup ds,v=>∃a vs,v=.ref a/\H a=some (.tup vs)/\RelDL G μ n H ds vs
 | .ref i,v=>i<n/\v=.ref (μ i)
 | .edc,v=>∃a,v=.ref a/\H a=some (.dK [])
 | .exc c,v=>∃a o u,v=.ref a/\H a=some (.frz o u)/\o.cls=.ref (G.cl c)/\o.dict=none/\∃vs,o.data=.fields vs
 | .scr,v=>v=.ref G.sa/\FzL G.K H G.sa (G.scr.map V.int)
def RelDL (G:Cf0) (μ:Nat->ah) (n:Nat) (H:Hp):zu->List V->Prop
 | [],vs=>vs=[]
 |d::ds,vs=>∃v r,vs=v::r/\Ac G μ n H d v/\RelDL G μ n H ds r
end
structure Ext (μ:Nat->ah) (n:Nat) (H:Hp) (μ':Nat->ah) (n':Nat) (H':Hp):Prop where
 le:n<=n'
 mu:∀i,i<n->μ' i=μ i
 im:∀a o,AL o->H a=some o->H' a=some o
theorem Ext.refl {μ:Nat->ah}{n:Nat}{H:Hp}:Ext μ n H μ n H:=⟨ak _,λ_ _=>rfl,λ_ _ _ e=>e⟩
theorem Ext.trans {μ μ1 μ2:Nat->ah}{n n1 n2:Nat}{H H1 H2:Hp}(a:Ext μ n H μ1 n1 H1) (b:Ext μ1 n1 H1 μ2 n2 H2):Ext μ n H μ2 n2 H2:=⟨dm a.le b.le,λi hi=>(b.mu i (bc hi a.le)).trans (a.mu i hi),λc o i e=>b.im c o i (a.im c o i e)⟩
structure Cfg extends Cf0 where
 clo:(Nat->ah)->Nat->Hp->Nat->Nat->ah->Prop:=λ_ _ _ _ _ _=>True
 cloM:∀{μ μ':Nat->ah}{n n':Nat}{H H':Hp}{k t:Nat}{a:ah},Ext μ n H μ' n' H'->clo μ n H k t a->clo μ' n' H' k t a:=by intros;trivial
instance:Coe Cfg Cf0:=⟨Cfg.toCf0⟩
section
variable{G:Cf0}{μ μ':Nat->ah}{n n':Nat}{H H':Hp}
mutual
theorem Ac.mono (x:Ext μ n H μ' n' H'):∀(d:Dv) (v:V),Ac G μ n H d v->Ac G μ' n' H' d v
 | .non,v,h=>h
 | .bl b,v,h=>h
 | .int i,v,h=>h
 | .str s,v,h=>h
 | .tup ds,v,h=>by obtain⟨a,vs,e,h1,h2⟩:=h;exact⟨a,vs,e,x.im a _ trivial h1,RelDL.mono x ds vs h2⟩
 | .ref i,v,h=>by obtain⟨h1,h2⟩:=h;exact⟨bc h1 x.le,by rw[x.mu i h1];exact h2⟩
 | .edc,v,h=>by obtain⟨a,e,h1⟩:=h;exact⟨a,e,x.im a _ rfl h1⟩
 | .exc c,v,h=>by obtain⟨a,o,u,e,h1,h2⟩:=h;exact⟨a,o,u,e,x.im a _ trivial h1,h2⟩
 | .scr,v,h=>by obtain⟨h1,h2⟩:=h;exact⟨h1,h2.keep x.im⟩
theorem RelDL.mono (x:Ext μ n H μ' n' H'):∀(ds:zu) (vs:List V),RelDL G μ n H ds vs->RelDL G μ' n' H' ds vs
 | [],vs,h=>h
 |d::ds,vs,h=>by obtain⟨v,r,e,h1,h2⟩:=h;exact⟨v,r,e,Ac.mono x d v h1,RelDL.mono x ds r h2⟩
end
theorem RelDL.length:∀{ds:zu}{vs:List V},RelDL G μ n H ds vs->vs.length=ds.length
 | [],_,h=>by rw[RelDL]at h;subst h;rfl
 |d::ds,_,h=>by rw[RelDL]at h;obtain⟨v,r,rfl,_,h2⟩:=h;rw[cy,cy,RelDL.length h2]
theorem RelDL.get:∀{ds:zu}{vs:List V}{i:Nat}{d:Dv},RelDL G μ n H ds vs->ds[i]?=some d->∃v,vs[i]?=some v/\Ac G μ n H d v
 | [],_,_,_,_,e=>by simp at e
 |d::ds,_,0,d',h,e=>by rw[RelDL]at h;obtain⟨v,r,rfl,h1,_⟩:=h;simp at e;subst e;exact⟨v,rfl,h1⟩
 |d::ds,_,i+1,d',h,e=>by rw[RelDL]at h;obtain⟨v,r,rfl,_,h2⟩:=h;obtain⟨u,e1,h3⟩:=RelDL.get (i:=i) h2 (by simpa using e);exact⟨u,by simpa using e1,h3⟩
theorem RelDL.nil:RelDL G μ n H [] []:=by rw[RelDL]
theorem RelDL.cons {d:Dv}{v:V}{ds:zu}{vs:List V}(h:Ac G μ n H d v) (t:RelDL G μ n H ds vs):RelDL G μ n H (d::ds) (v::vs):=by rw[RelDL];exact⟨v,vs,rfl,h,t⟩
theorem RelDL.append:∀{ds es:zu}{vs ws:List V},RelDL G μ n H ds vs->RelDL G μ n H es ws->RelDL G μ n H (ds++es) (vs++ws)
 | [],_,_,_,h,h'=>by rw[RelDL]at h;subst h;exact h'
 |d::ds,_,_,_,h,h'=>by rw[RelDL]at h;obtain⟨v,r,rfl,h1,h2⟩:=h;exact RelDL.cons h1 (RelDL.append h2 h')
theorem RelDL.take:∀{ds:zu}{vs:List V}(k:Nat),RelDL G μ n H ds vs->RelDL G μ n H (ds.take k) (vs.take k)
 | [],_,k,h=>by rw[RelDL]at h;subst h;simp[RelDL.nil]
 |d::ds,_,0,h=>by simp[RelDL.nil]
 |d::ds,_,k+1,h=>by rw[RelDL]at h;obtain⟨v,r,rfl,h1,h2⟩:=h;exact RelDL.cons h1 (RelDL.take k h2)
theorem RelDL.drop:∀{ds:zu}{vs:List V}(k:Nat),RelDL G μ n H ds vs->RelDL G μ n H (ds.drop k) (vs.drop k)
 | [],_,k,h=>by rw[RelDL]at h;subst h;simp[RelDL.nil]
 |d::ds,_,0,h=>h
 |d::ds,_,k+1,h=>by rw[RelDL]at h;obtain⟨v,r,rfl,h1,h2⟩:=h;exact RelDL.drop k h2
theorem RelDL.set {x:Dv}{u:V}(hx:Ac G μ n H x u):∀{ds:zu}{vs:List V}(i:Nat),RelDL G μ n H ds vs->RelDL G μ n H (ds.set i x) (vs.set i u)
 | [],_,_,h=>by rw[RelDL]at h;subst h;exact RelDL.nil
 |d::ds,_,0,h=>by rw[RelDL]at h;obtain⟨v,r,rfl,h1,h2⟩:=h;exact RelDL.cons hx h2
 |d::ds,_,i+1,h=>by rw[RelDL]at h;obtain⟨v,r,rfl,h1,h2⟩:=h;exact RelDL.cons h1 (RelDL.set hx i h2)
end
def ObR (G:Cfg) (μ:Nat->ah) (n:Nat) (H:Hp) (a:ah):Ob->Prop
 | .lst xs=>∃vs,H a=some (.lst vs)/\RelDL G μ n H xs vs
 | .clo k t=>t<n/\(∃o u,H a=some (.frz o u))/\G.clo μ n H k t a
theorem ObR.clo {G:Cfg}{μ μ':Nat->ah}{n n':Nat}{H H':Hp}{a:ah}{k t:Nat}(r:ObR G μ n H a (.clo k t)) (x:Ext μ n H μ' n' H'):ObR G μ' n' H' a (.clo k t):=by obtain⟨h1,⟨o,u,h2⟩,h3⟩:=r;exact⟨bc h1 x.le,⟨o,u,x.im _ _ trivial h2⟩,G.cloM x h3⟩
def US (q:Str) (oc:Obj):Prop:=∃vs t,oc.data=.fields vs/\vs[1]?=some (.str q t)
def TabOk (G:Cf0) (H:Hp):Prop:=∀P,G.tab=some P->∃ps,H P=some (.tbl ps)/\TriplesOk ps.toList/\∀pos cv,codeAmong pos ps.toList=some cv->∃q oc,cv=.ref q/\H q=some (.frz oc (.own 0))/\US G.lq oc
theorem TabOk.keep {G:Cf0}{H H':Hp}(t:TabOk G H) (k:∀a o,(∀xs,o≠.lst xs)->(∀φ,o≠.ext φ)->H a=some o->H' a=some o):TabOk G H':=λP e=>by obtain⟨ps,h1,h2,h3⟩:=t P e;refine⟨ps,k P _ (λ_ z=>by cases z) (λ_ z=>by cases z) h1,h2,λpos cv q=>?_⟩;obtain⟨a,oc,e1,e2,e3⟩:=h3 pos cv q;exact⟨a,oc,e1,k a _ (λ_ z=>by cases z) (λ_ z=>by cases z) e2,e3⟩
structure Ao (G:Cfg) (μ:Nat->ah) (h:Hs) (H:Hp):Prop where
 inj:∀i j,i<h.length->j<h.length->μ i=μ j->i=j
 ob:∀(i:Nat) (o:Ob),h[i]?=some o->ObR G μ h.length H (μ i) o
 tab:TabOk G H
structure Al (G:Cfg) (μ:Nat->ah) (n:Nat) (H:Hp) (ρ:Ev) (σ:St):Prop where
 len:ρ.length=σ.length
 at_:∀(i:Nat) (d:Dv),ρ[i]?=some (some d)->∃v,σ[i]?=some (some v)/\Ac G μ n H d v
theorem Al.mono {G:Cfg}{μ μ':Nat->ah}{n n':Nat}{H H':Hp}{ρ:Ev}{σ:St}(r:Al G μ n H ρ σ) (x:Ext μ n H μ' n' H'):Al G μ' n' H' ρ σ:=⟨r.len,λi d e=>let ⟨v,e1,h⟩:=r.at_ i d e;⟨v,e1,Ac.mono x d v h⟩⟩
def Out {α β:Type}(G:Cfg) (E:XK) (μ:Nat->ah) (n:Nat) (H:Hp) (r:Rs α) (R:(Nat->ah)->Nat->Hp->α->β->Prop) (Q:β->Hp->Prop):Prop:=
 match r with
 | .ok d h'=>∀μ' H' v,Ext μ n H μ' h'.length H'->Ao G μ' h' H'->R μ' h'.length H' d v->Q v H'
 | .ex c h'=>∀μ' H' u,Ext μ n H μ' h'.length H'->Ao G μ' h' H'->vS G H' c u->E u none H'
 | .bad=>False
theorem Out.bind {α β γ δ:Type}{G:Cfg}{E:XK}{μ:Nat->ah}{n:Nat}{H:Hp}{r:Rs α}{f:α->Hs->Rs γ}{R:(Nat->ah)->Nat->Hp->γ->δ->Prop}{Q:δ->Hp->Prop}{R1:(Nat->ah)->Nat->Hp->α->β->Prop}
  (o:Out G E μ n H (r.bind f) R Q):Out G E μ n H r R1 λv H1=>∃μ1 d h1,Ext μ n H μ1 h1.length H1/\Ao G μ1 h1 H1/\R1 μ1 h1.length H1 d v/\Out G E μ1 h1.length H1 (f d h1) R Q:=by
 cases r with
 |bad=>exact o
 |ex c h'=>exact o
 |ok d h'=>
  intro μ1 H1 v x1 s1 r1;refine⟨μ1,d,h',x1,s1,r1, ?_⟩;have o':Out G E μ n H (f d h') R Q:=o
  cases e:f d h' with
  |bad=>rw[e]at o';exact o'
  |ex c h2=>rw[e]at o';exact λμ2 H2 u x2 s2 r2=>o' μ2 H2 u (x1.trans x2) s2 r2
  |ok d2 h2=>rw[e]at o';exact λμ2 H2 u x2 s2 r2=>o' μ2 H2 u (x1.trans x2) s2 r2
theorem Out.mono {α β:Type}{G:Cfg}{E:XK}{μ:Nat->ah}{n:Nat}{H:Hp}{r:Rs α}{R:(Nat->ah)->Nat->Hp->α->β->Prop}{Q Q':β->Hp->Prop}(o:Out G E μ n H r R Q) (h:∀v H',Q v H'->Q' v H'):Out G E μ n H r R Q':=by
 cases r with
 |bad=>exact o
 |ex c h'=>exact o
 |ok d h'=>exact λμ' H' v x s r=>h _ _ (o μ' H' v x s r)
abbrev RB:(Nat->ah)->Nat->Hp->Bool->Bool->Prop:=λ_ _ _ b b'=>b'=b
def hX (G:Cfg) (E:XK) (m:M Dv):TE:=λσ H Q=>∃μ ρ h,Al G μ h.length H ρ σ/\Ao G μ h H/\Out G E μ h.length H (m ρ h) (Ac G) Q
def iF (G:Cfg) (E:XK) (m:M Bool):TT:=λσ H Q=>∃μ ρ h,Al G μ h.length H ρ σ/\Ao G μ h H/\Out G E μ h.length H (m ρ h) RB Q
def AM (G:Cfg) (E:XK) (m:M zu ):TA:=λσ H Q=>∃μ ρ h,Al G μ h.length H ρ σ/\Ao G μ h H/\Out G E μ h.length H (m ρ h) (RelDL G) Q
def aK (X:Cx) (G:Cfg) (E:XK) (pe:bq) (m:M Dv):Prop:=X.K=G.K->PE X pe (hX G E m)
def fZ (X:Cx) (G:Cfg) (E:XK) (pe:bq) (m:M Bool):Prop:=X.K=G.K->PT X pe (iF G E m)
def dR (X:Cx) (G:Cfg) (E:XK) (pe:List bq) (m:M zu ):Prop:=X.K=G.K->PA X pe (AM G E m)
theorem PE.imp {X:Cx}{e:bq}{t t':TE}(h:PE X e t) (i:∀σ H Q,t' σ H Q->t σ H Q):PE X e t':=λpins s σ H Q I q=>h pins s σ H Q I (i σ H Q q)
theorem PT.imp {X:Cx}{e:bq}{t t':TT}(h:PT X e t) (i:∀σ H Q,t' σ H Q->t σ H Q):PT X e t':=λpins s σ H Q I q=>h pins s σ H Q I (i σ H Q q)
theorem PA.imp {X:Cx}{e:List bq}{t t':TA}(h:PA X e t) (i:∀σ H Q,t' σ H Q->t σ H Q):PA X e t':=λpos pins s σ H Q I q=>h pos pins s σ H Q I (i σ H Q q)
section
variable{G:Cfg}{E:XK}{σ:St}{H:Hp}
theorem eO {m:M Dv}{γ δ:Type}{f:Dv->Hs->Rs γ}{R:(Nat->ah)->Nat->Hp->γ->δ->Prop}{Q:δ->Hp->Prop}{Q1:V->Hp->Prop}{μ:Nat->ah}{ρ:Ev}{h:Hs}(rs:Al G μ h.length H ρ σ) (s:Ao G μ h H) (o:Out G E μ h.length H ((m ρ h).bind f) R Q)
  (k:∀μ1 d h1 v H1,Ext μ h.length H μ1 h1.length H1->Al G μ1 h1.length H1 ρ σ->Ao G μ1 h1 H1->Ac G μ1 h1.length H1 d v->Out G E μ1 h1.length H1 (f d h1) R Q->Q1 v H1):hX G E m σ H Q1:=
 ⟨μ,ρ,h,rs,s,(o.bind (R1:=Ac G)).mono λv H1 ⟨μ1,d,h1,x,s1,r1,o1⟩=>k μ1 d h1 v H1 x (rs.mono x) s1 r1 o1⟩
theorem AN {m:M Bool}{γ δ:Type}{f:Bool->Hs->Rs γ}{R:(Nat->ah)->Nat->Hp->γ->δ->Prop}{Q:δ->Hp->Prop}{Q1:Bool->Hp->Prop}{μ:Nat->ah}{ρ:Ev}{h:Hs}(rs:Al G μ h.length H ρ σ) (s:Ao G μ h H) (o:Out G E μ h.length H ((m ρ h).bind f) R Q)
  (k:∀μ1 b h1 H1,Ext μ h.length H μ1 h1.length H1->Al G μ1 h1.length H1 ρ σ->Ao G μ1 h1 H1->Out G E μ1 h1.length H1 (f b h1) R Q->Q1 b H1):iF G E m σ H Q1:=
 ⟨μ,ρ,h,rs,s,(o.bind (R1:=RB)).mono λv H1 ⟨μ1,d,h1,x,s1,r1,o1⟩=>by have e:v=d:=r1;subst e;exact k μ1 v h1 H1 x (rs.mono x) s1 o1⟩
theorem kC {m:M zu }{γ δ:Type}{f:zu->Hs->Rs γ}{R:(Nat->ah)->Nat->Hp->γ->δ->Prop}{Q:δ->Hp->Prop}{Q1:List V->Hp->Prop}{μ:Nat->ah}{ρ:Ev}{h:Hs}(rs:Al G μ h.length H ρ σ) (s:Ao G μ h H) (o:Out G E μ h.length H ((m ρ h).bind f) R Q)
  (k:∀μ1 d h1 v H1,Ext μ h.length H μ1 h1.length H1->Al G μ1 h1.length H1 ρ σ->Ao G μ1 h1 H1->RelDL G μ1 h1.length H1 d v->Out G E μ1 h1.length H1 (f d h1) R Q->Q1 v H1):AM G E m σ H Q1:=
 ⟨μ,ρ,h,rs,s,(o.bind (R1:=RelDL G)).mono λv H1 ⟨μ1,d,h1,x,s1,r1,o1⟩=>k μ1 d h1 v H1 x (rs.mono x) s1 r1 o1⟩
theorem Out.val {α β:Type}{μ:Nat->ah}{h:Hs}{d:α}{R:(Nat->ah)->Nat->Hp->α->β->Prop}{Q:β->Hp->Prop}{v:β}(s:Ao G μ h H) (o:Out G E μ h.length H (.ok d h) R Q) (r:R μ h.length H d v):Q v H:=o μ H v Ext.refl s r
end
section
variable{G:Cfg}{μ:Nat->ah}{h:Hs}{H H':Hp}{p:ah}{n:Nat}
theorem Ext.same (e:Bx H H'):Ext μ n H μ n H':=⟨ak _,λ_ _=>rfl,λa o _ q=>e a o q⟩
theorem Ao.same (s:Ao G μ h H) (e:Bx H H'):Ao G μ h H':=⟨s.inj,λi o q=>by
 have r:=s.ob i o q
 cases o with
 |lst xs=>obtain⟨vs,e1,r1⟩:=r;exact⟨vs,e _ _ e1,RelDL.mono (Ext.same e) _ _ r1⟩
 |clo k t=>exact r.clo (Ext.same e),s.tab.keep λa o _ _ q=>e a o q⟩
theorem dG {o:HO}(h:H p=none):Bx H (aZ H p o):=λb u e=>by rw[cF (fG e h)];exact e
theorem Ao.not (s:Ao G μ h H) (hp:H p=none):∀(i:Nat),i<h.length->μ i≠p:=λi hi z=>by
 have q:h[i]?=some h[i]:=br hi;generalize h[i]=o at q
 cases o with
 |lst xs=>obtain⟨vs,e1,_⟩:=s.ob i _ q;rw[z,hp]at e1;cases e1
 |clo k t=>obtain⟨_,⟨o,u,e1⟩,_⟩:=s.ob i _ q;rw[z,hp]at e1;cases e1
theorem Ao.alloc {ds:zu}{vs:List V}(s:Ao G μ h H) (hp:H p=none) (r:RelDL G μ h.length H ds vs):
  Ext μ h.length H (λi=>if i=h.length then p else μ i) (h++[Ob.lst ds]).length (aZ H p (.lst vs))/\Ao G (λi=>if i=h.length then p else μ i) (h++[.lst ds]) (aZ H p (.lst vs)):=by
 have hl:(h++[Ob.lst ds]).length=h.length+1:=by simp
 have hq:=s.not hp;have x:Ext μ h.length H (λi=>if i=h.length then p else μ i) (h++[Ob.lst ds]).length (aZ H p (.lst vs)):=⟨by omega,λi hi=>if_neg (bf hi),λa o _ e=>dG hp a o e⟩
 refine⟨x,λi j hi hj e=>?_,λi o q=>?_,s.tab.keep λa o _ _ q=>dG hp a o q⟩
 ·rw[hl]at hi hj
  by_cases h1:i=h.length <;> by_cases h2:j=h.length
  ·omega
  ·rw[if_pos h1,if_neg h2]at e;exact absurd e.symm (hq j (by omega))
  ·rw[if_neg h1,if_pos h2]at e;exact absurd e (hq i (by omega))
  ·rw[if_neg h1,if_neg h2]at e;exact s.inj i j (by omega) (by omega) e
 ·by_cases h1:i<h.length
  ·rw[fo h1]at q;have r1:=s.ob i o q
   cases o with
   |lst xs=>obtain⟨ws,e1,r2⟩:=r1;exact⟨ws,by rw[if_neg (bf h1)];exact dG hp _ _ e1,RelDL.mono x _ _ r2⟩
   |clo k t=>rw[if_neg (bf h1)];exact r1.clo x
  ·rw[ig (by omega)]at q;have h2:i=h.length:=by have:=(bg.mp q).1;simp at this;omega
   subst h2;simp at q;subst q;exact⟨vs,by rw[if_pos rfl];exact eG,RelDL.mono x _ _ r⟩
theorem Ao.write {xs ys:zu}{i:Nat}{vs:List V}(s:Ao G μ h H) (q:h[i]?=some (.lst xs)) (r:RelDL G μ h.length H ys vs):
  Ext μ h.length H μ (h.set i (.lst ys)).length (aZ H (μ i) (.lst vs))/\Ao G μ (h.set i (.lst ys)) (aZ H (μ i) (.lst vs)):=by
 obtain⟨us,e0,r0⟩:=s.ob i _ q;have hi:i<h.length:=(bg.mp q).1;have im:∀a o,AL o->H a=some o->aZ H (μ i) (.lst vs) a=some o:=λa o m e=>by
  rw[cF];exact e
  rintro rfl;rw[e0]at e;cases e;exact m
 have x:Ext μ h.length H μ (h.set i (.lst ys)).length (aZ H (μ i) (.lst vs)):=⟨by simp,λ_ _=>rfl,im⟩
 refine⟨x,λa b ha hb=>?_,λj o e=>?_,s.tab.keep λa o n1 _ q=>?_⟩
 rotate_left 2
 ·rw[cF];exact q
  rintro rfl;rw[e0]at q;cases q;exact n1 _ rfl
 ·rw[sd]at ha hb;exact s.inj a b ha hb
 ·by_cases Bo:i=j
  ·subst Bo;rw[ie hi]at e;cases e;exact⟨vs,eG,RelDL.mono x _ _ r⟩
  ·rw[ib Bo]at e;have hj:j<h.length:=(bg.mp e).1;have r1:=s.ob j o e;have ne:μ j≠μ i:=λz=>Bo (s.inj j i hj hi z).symm
   cases o with
   |lst zs=>obtain⟨ws,e1,r2⟩:=r1;exact⟨ws,by rw[cF ne];exact e1,RelDL.mono x _ _ r2⟩
   |clo k t=>exact r1.clo x
end
def lim {α:Type}(n:Nat) (r:Rs α):Rs α:=if n<=1000000 then r else .bad
theorem sM {n:Nat}(h:n<=1000000):n<=cf:=dm h (by decide)
def getL (h:Hs) (i:Nat):Option zu :=match h[i]? with
 |some (.lst xs)=>some xs
 |_=>none
theorem dP {h:Hs}{i:Nat}{xs:zu}(e:getL h i=some xs):h[i]?=some (.lst xs):=by
 unfold getL at e
 cases q:h[i]? with
 |none=>rw[q]at e;cases e
 |some o=>
  cases o with
  |lst ys=>rw[q]at e;cases e;rfl
  |clo k t=>rw[q]at e;cases e
section
variable{X:Cx}{G:Cfg}{E:XK}{a b c:bq}{ma mb mc:M Dv}{pos:Pos}{es:List bq}{aQ:M zu }
def aA (i:Nat):M Dv:=λρ h=>match ρ[i]? with
 |some (some d)=>.ok d h
 |_=>.bad
theorem aE (i:Nat) {x:Str}(hN:X.N[i]?=some x:=by rfl) (hv:rY X.env.scope x:=by first|exact Or.inl rfl|exact Or.inr (Or.inl rfl)|exact Or.inr (Or.inr rfl))
  (hd:(x==("__debug__" : Str))=false:=by decide) (hcd:(x==("__classdict__" : Str))=false:=by decide):aK X G E (.Name x pos) (aA i):=λ_=>PE.imp (P5 hN hv hd hcd) λσ H Q ⟨μ,ρ,h,rs,s,o⟩=>by
 unfold aA at o
 split at o
 ·rename_i d e;obtain⟨v,e1,r⟩:=rs.at_ i d e;exact⟨v,e1,o.val s r⟩
 ·exact o.elim
def mC (d:Dv):M Dv:=λ_ h=>.ok d h
theorem bE {i j}:aK X G E (.Constant (.int i) j pos) (mC (.int i)):=λ_=>PE.imp FL λσ H Q ⟨μ,ρ,h,rs,s,o⟩=>o.val s (show Ac G μ _ H (.int i) (.int i) from rfl)
theorem gH {i j}:aK X G E (.Constant (.bool i) j pos) (mC (.bl i)):=λ_=>PE.imp P6 λσ H Q ⟨μ,ρ,h,rs,s,o⟩=>o.val s (show Ac G μ _ H (.bl i) (.bl i) from rfl)
theorem UT {j}:aK X G E (.Constant .none j pos) (mC .non):=λ_=>PE.imp P7 λσ H Q ⟨μ,ρ,h,rs,s,o⟩=>o.val s (show Ac G μ _ H .non .non from rfl)
theorem sN {x j}:aK X G E (.Constant (.str x) j pos) (mC (.str x)):=λ_=>PE.imp P8 λσ H Q ⟨μ,ρ,h,rs,s,o⟩=>o.val s (show Ac G μ _ H (.str x) (.str x) from rfl)
def aC:M zu :=λ_ h=>.ok [] h
def aB (m:M Dv) (ms:M zu ):M zu :=λρ h=>(m ρ h).bind λd h1=>(ms ρ h1).bind λds h2=>.ok (d::ds) h2
theorem aL:dR X G E [] aC:=λ_=>PA.imp jM λσ H Q ⟨μ,ρ,h,rs,s,o⟩=>o.val s RelDL.nil
theorem aI (ha:aK X G E a ma) (hr:dR X G E es aQ) (hs:ar (a::es) X.env=(false,eval a X.env)::ar es X.env:=by rfl):dR X G E (a::es) (aB ma aQ):=λhK=>PA.imp (jC (ha hK) (hr hK) hs) λσ H Q ⟨μ,ρ,h,rs,s,o⟩=>eO rs s o λμ1 d h1 v H1 x1 As s1 r1 o1=>kC As s1 o1 λμ2 ds h2 vs H2 x2 Cp s2 r2 o2=>o2.val s2 (RelDL.cons (Ac.mono x2 _ _ r1) r2)
def aV (ms:M zu ):M Dv:=λρ h=>(ms ρ h).bind λds h1=>lim ds.length (.ok (.tup ds) h1)
theorem fU {k} (h:dR X G E es aQ):aK X G E (.Tuple es k pos) (aV aQ):=λhK=>PE.imp (SK (h hK)) λσ H Q ⟨μ,ρ,h,rs,s,o⟩=>kC rs s o λμ1 ds h1 vs H1 x1 As s1 r1 o1=>by
 unfold lim at o1
 split at o1
 ·rename_i hl;refine⟨by rw[r1.length];exact sM hl,λp hp=>?_⟩;exact o1 μ1 _ _ (Ext.same (dG hp)) (s1.same (dG hp)) ⟨p,vs,rfl,eG,RelDL.mono (Ext.same (dG hp)) _ _ r1⟩
 ·exact o1.elim
def dM (ms:M zu ):M Dv:=λρ h=>(ms ρ h).bind λds h1=>lim ds.length (.ok (.ref h1.length) (h1++[.lst ds]))
theorem nM {μ:Nat->ah}{h:Hs}{H:Hp}{ds:zu}{vs:List V}{Q:VK}{p:ah}(s:Ao G μ h H) (r:RelDL G μ h.length H ds vs) (hp:H p=none) (o:Out G E μ h.length H (.ok (.ref h.length) (h++[.lst ds])) (Ac G) Q):Q (.ref p) (aZ H p (.lst vs)):=by obtain⟨x,s'⟩:=s.alloc hp r;exact o _ _ _ x s' ⟨by simp,by show V.ref p=V.ref (if h.length=h.length then p else μ h.length);rw[if_pos rfl]⟩
theorem mH (h:dR X G E es aQ):aK X G E (.List es pos) (dM aQ):=λhK=>PE.imp (SN (h hK)) λσ H Q ⟨μ,ρ,h,rs,s,o⟩=>kC rs s o λμ1 ds h1 vs H1 x1 As s1 r1 o1=>by
 unfold lim at o1
 split at o1
 ·rename_i hl;exact⟨by rw[r1.length];exact sM hl,λp hp=>nM s1 r1 hp o1⟩
 ·exact o1.elim
def m2 (f:Dv->Dv->Hs->Rs Dv) (ma mb:M Dv):M Dv:=λρ h=>(ma ρ h).bind λx h1=>(mb ρ h1).bind λy h2=>f x y h2
def fI (G:Cfg) (r:R2) (f:Dv->Dv->Hs->Rs Dv):Prop:=∀(E:XK) (μ:Nat->ah) (h:Hs) (H:Hp) (x y:Dv) (vx vy:V) (Q:VK),Ao G μ h H->Ac G μ h.length H x vx->Ac G μ h.length H y vy->Out G E μ h.length H (f x y h) (Ac G) Q->r vx vy H Q
theorem sO {r:R2}{f:Dv->Dv->Hs->Rs Dv}(hd:fI G r f) {σ:St}{H:Hp}{Q:VK}(t:hX G E (m2 f ma mb) σ H Q):sC r (hX G E ma) (hX G E mb) σ H Q:=by obtain⟨μ,ρ,h,rs,s,o⟩:=t;exact eO rs s o λμ1 x h1 vx H1 x1 As s1 r1 o1=>eO As s1 o1 λμ2 y h2 vy H2 x2 Cp s2 r2 o2=>hd E μ2 h2 H2 x y vx vy Q s2 (Ac.mono x2 _ _ r1) r2 o2
theorem qE {op:Operator}{r:R2}{f:Dv->Dv->Hs->Rs Dv}(ho:Be X (binaryOp op) r) (hd:fI G r f) (ha:aK X G E a ma) (hb:aK X G E b mb):aK X G E (.BinOp a op b pos) (m2 f ma mb):=λhK=>PE.imp (RT ho (ha hK) (hb hK)) λ_ _ _ t=>sO hd t
theorem oK {op:CmpOp}{r:R2}{f:Dv->Dv->Hs->Rs Dv}(ho:Be X (compareOp op) r) (hd:fI G r f) (ha:aK X G E a ma) (hb:aK X G E b mb) (hm:behindInMarks op b=false):aK X G E (.Compare a [op] [b] pos) (m2 f ma mb):=λhK=>PE.imp (R6 ho (ha hK) (hb hK) hm) λ_ _ _ t=>sO hd t
def eR:Dv->Hs->Rs Bool
 | .bl b,h=>.ok b h
 |_,_=>.bad
def mB (m:M Dv):M Bool:=λρ h=>(m ρ h).bind eR
theorem UU {m:M Dv}{σ:St}{H:Hp}{Q:Bool->Hp->Prop}(t:iF G E (mB m) σ H Q):hX G E m σ H λx H'=>∃k,x=.bl k/\Q k H':=by
 obtain⟨μ,ρ,h,rs,s,o⟩:=t;refine eO rs s o λμ1 x h1 vx H1 x1 As s1 r1 o1=>?_
 cases x with
 |bl k=>exact⟨k,r1,o1.val s1 rfl⟩
 |_=>exact o1.elim
theorem oM {op:CmpOp}{r:R2}{f:Dv->Dv->Hs->Rs Dv}(ho:Be X (compareOp op) r) (hd:fI G r f) (ha:aK X G E a ma) (hb:aK X G E b mb) (hm:behindInMarks op b=false):fZ X G E (.Compare a [op] [b] pos) (mB (m2 f ma mb)):=λhK=>PT.imp (R8 ho (ha hK) (hb hK) hm) λσ H Q t=>sO hd (UU t)
def qF (f f':Dv->Dv->Hs->Rs Dv) (ma mb mc:M Dv):M Dv:=λρ h=>(ma ρ h).bind λx h1=>(mb ρ h1).bind λy h2=>(f x y h2).bind λz h3=>match z with
 | .bl true=>(mc ρ h3).bind λw h4=>f' y w h4
 | .bl false=>.ok (.bl false) h3
 |_=>.bad
theorem UW {r r':R2}{f f':Dv->Dv->Hs->Rs Dv}(hd:fI G r f) (hd':fI G r' f') {σ:St}{H:Hp}{Q:VK}(t:hX G E (qF f f' ma mb mc) σ H Q):FY r r' (hX G E ma) (hX G E mb) (hX G E mc) σ H Q:=by
 obtain⟨μ,ρ,h,rs,s,o⟩:=t;refine eO rs s o λμ1 x h1 vx H1 x1 As s1 r1 o1=>eO As s1 o1 λμ2 y h2 vy H2 x2 Cp s2 r2 o2=>?_;refine hd E μ2 h2 H2 x y vx vy _ s2 (Ac.mono x2 _ _ r1) r2 ((o2.bind (R1:=Ac G)).mono λvz H3 ⟨μ3,z,h3,x3,s3,r3,o3⟩=>?_)
 cases z with
 |bl k=>
  refine⟨k,r3, ?_⟩
  cases k with
  |true=>exact GV (eO (Cp.mono x3) s3 o3 λμ4 w h4 vw H4 x4 rs4 s4 r4 o4=>hd' E μ4 h4 H4 y w vy vw Q s4 (Ac.mono (x3.trans x4) _ _ r2) r4 o4)
  |false=>exact GU (o3.val s3 rfl)
 |_=>exact o3.elim
theorem UX {op op':CmpOp}{r r':R2}{f f':Dv->Dv->Hs->Rs Dv}(ho:Be X (compareOp op) r) (ho':Be X (compareOp op') r') (hd:fI G r f) (hd':fI G r' f') (ha:aK X G E a ma) (hb:aK X G E b mb) (hc:aK X G E c mc)
  (hm:lastMarks [op,op'] [b,c]=false:=by with_unfolding_all rfl):aK X G E (.Compare a [op,op'] [b,c] pos) (qF f f' ma mb mc):=λhK=>
 PE.imp (R9 ho ho' (ha hK) (hb hK) (hc hK) hm) λ_ _ _ t=>UW hd hd' t
def jE (G:Cfg) (r:V->Hp->VK->Prop) (f:Dv->Hs->Rs Dv):Prop:=∀(E:XK) (μ:Nat->ah) (h:Hs) (H:Hp) (x:Dv) (vx:V) (Q:VK),Ao G μ h H->Ac G μ h.length H x vx->Out G E μ h.length H (f x h) (Ac G) Q->r vx H Q
def m1 (f:Dv->Hs->Rs Dv) (ma:M Dv):M Dv:=λρ h=>(ma ρ h).bind f
theorem UY {op:UnaryOp}{r:V->Hp->VK->Prop}{f:Dv->Hs->Rs Dv}(ho:vF X (unaryOp op) r) (hd:jE G r f) (ha:aK X G E a ma):aK X G E (.UnaryOp op a pos) (m1 f ma):=λhK=>PE.imp (RU ho (ha hK)) λσ H Q ⟨μ,ρ,h,rs,s,o⟩=>eO rs s o λμ1 x h1 vx H1 x1 As s1 r1 o1=>hd E μ1 h1 H1 x vx Q s1 r1 o1
variable{tA tB':M Bool}{rest:List bq}
def mI (t u:M Bool):M Bool:=λρ h=>(t ρ h).bind λc h1=>if c=true then u ρ h1 else .ok false h1
def eH (t u:M Bool):M Bool:=λρ h=>(t ρ h).bind λc h1=>if c=true then .ok true h1 else u ρ h1
def dY (t:M Bool):M Bool:=λρ h=>(t ρ h).bind λc h1=>.ok (!c) h1
def Br (X:Cx) (G:Cfg) (E:XK) (pe:bq) (m:M Bool):Prop:=X.K=G.K->PW X pe (iF G E m)
theorem Br.t {pe:bq}{m:M Bool}(h:Br X G E pe m):fZ X G E pe m:=λhK=>(h hK).pt
theorem PW.imp {e:bq}{t t':TT}(h:PW X e t) (i:∀σ H Q,t' σ H Q->t σ H Q):PW X e t':=λwh pins s σ H Q I q=>h wh pins s σ H Q I (i σ H Q q)
theorem UZ (ha:fZ X G E a tA):Br X G E (.BoolOp .And [a] pos) tA:=λhK=>QB (ha hK)
theorem oO (ha:fZ X G E a tA):Br X G E (.BoolOp .Or [a] pos) tA:=λhK=>QC (ha hK)
theorem VA {σ:St}{H:Hp}{Q:Bool->Hp->Prop}(t:iF G E (mI tA tB') σ H Q):FN (iF G E tA) (iF G E tB') σ H Q:=by
 obtain⟨μ,ρ,h,rs,s,o⟩:=t;refine AN rs s o λμ1 k h1 H1 x1 As s1 o1=>?_
 cases k with
 |true=>rw[if_pos rfl]at o1 ⊢;exact⟨μ1,ρ,h1,As,s1,o1⟩
 |false=>rw[if_neg (by decide)]at o1 ⊢;exact o1.val s1 rfl
theorem VB {σ:St}{H:Hp}{Q:Bool->Hp->Prop}(t:iF G E (eH tA tB') σ H Q):FO (iF G E tA) (iF G E tB') σ H Q:=by
 obtain⟨μ,ρ,h,rs,s,o⟩:=t;refine AN rs s o λμ1 k h1 H1 x1 As s1 o1=>?_
 cases k with
 |false=>rw[if_neg (by decide)]at o1 ⊢;exact⟨μ1,ρ,h1,As,s1,o1⟩
 |true=>rw[if_pos rfl]at o1 ⊢;exact o1.val s1 rfl
theorem VC (ha:fZ X G E a tA) (hb:Br X G E (.BoolOp .And (b::rest) pos) tB'):Br X G E (.BoolOp .And (a::b::rest) pos) (mI tA tB'):=λhK=>PW.imp (QD (ha hK) (hb hK)) λ_ _ _ t=>VA t
theorem kS (ha:fZ X G E a tA) (hb:Br X G E (.BoolOp .Or (b::rest) pos) tB'):Br X G E (.BoolOp .Or (a::b::rest) pos) (eH tA tB'):=λhK=>PW.imp (QE (ha hK) (hb hK)) λ_ _ _ t=>VB t
theorem kT (ha:fZ X G E a tA):fZ X G E (.UnaryOp .Not a pos) (dY tA):=λhK=>PT.imp (QF (ha hK)) λσ H Q ⟨μ,ρ,h,rs,s,o⟩=>AN rs s o λμ1 k h1 H1 x1 As s1 o1=>o1.val s1 rfl
def dZ (m u:M Dv):M Dv:=λρ h=>(m ρ h).bind λd h1=>match d with
 | .bl true=>u ρ h1
 | .bl false=>.ok (.bl false) h1
 |_=>.bad
def qG:Dv->Hs->Rs Dv
 | .bl b,h=>.ok (.bl (!b)) h
 |_,_=>.bad
theorem qH {op} {m:M Dv}(h:aK X G E a m):aK X G E (.BoolOp op [a] pos) m:=λhK=>QI (h hK)
theorem oP (ha:aK X G E a ma) (hb:aK X G E (.BoolOp .And (b::rest) pos) mb):aK X G E (.BoolOp .And (a::b::rest) pos) (dZ ma mb):=λhK=>PE.imp (QJ (ha hK) (hb hK)) λσ H Q ⟨μ,ρ,h,rs,s,o⟩=>
 eO rs s o λμ1 x h1 vx H1 x1 As s1 r1 o1=>by
  cases x with
  |bl k=>
   refine⟨k,r1, ?_⟩
   cases k with
   |true=>exact GV ⟨μ1,ρ,h1,As,s1,o1⟩
   |false=>exact GU (o1.val s1 rfl)
  |_=>exact o1.elim
theorem HF (ha:aK X G E a ma):aK X G E (.UnaryOp .Not a pos) (m1 qG ma):=λhK=>PE.imp (QK (ha hK)) λσ H Q ⟨μ,ρ,h,rs,s,o⟩=>
 eO rs s o λμ1 x h1 vx H1 x1 As s1 r1 o1=>by
  cases x with
  |bl k=>exact⟨k,r1,o1.val s1 rfl⟩
  |_=>exact o1.elim
def kD:Dv->Hs->Rs Bool
 | .non,h=>.ok false h
 | .bl b,h=>.ok b h
 | .int i,h=>.ok (i != 0) h
 | .tup xs,h=>.ok (!xs.isEmpty) h
 | .ref i,h=>match getL h i with
  |some xs=>.ok (!xs.isEmpty) h
  |none=>.bad
 |_,_=>.bad
def cD (m:M Dv):M Bool:=λρ h=>(m ρ h).bind kD
theorem HG {μ:Nat->ah}{n:Nat}{H:Hp}{ds:zu}{vs:List V}(r:RelDL G μ n H ds vs):vs.isEmpty=ds.isEmpty:=by
 have:=r.length
 cases ds <;> cases vs <;> simp_all
theorem iQ (ha:aK X G E a ma) (he:∀whole,isTrue a X.env whole=(do let v <-whole;standAt a.pos;holding [v] (truthy v)):=by intro _;rfl):fZ X G E a (cD ma):=λhK=>PT.imp (SE (ha hK) he) λσ H Q ⟨μ,ρ,h,rs,s,o⟩=>
 eO rs s o λμ1 x h1 vx H1 x1 As s1 r1 o1=>by
  cases x with
  |non=>rw[Ac]at r1;subst r1;exact⟨_,rfl,o1.val s1 rfl⟩
  |bl k=>rw[Ac]at r1;subst r1;exact⟨_,rfl,o1.val s1 rfl⟩
  |int i=>rw[Ac]at r1;subst r1;exact⟨_,rfl,o1.val s1 rfl⟩
  |tup ds=>obtain⟨p,vs,rfl,e,r⟩:=r1;exact⟨_,.inr (.inl ⟨vs,Aq.of e,rfl⟩),by rw[HG r];exact o1.val s1 rfl⟩
  |ref i=>
   obtain⟨hi,rfl⟩:=r1;dsimp only[kD]at o1
   cases q:getL h1 i with
   |none=>rw[q]at o1;exact o1.elim
   |some xs=>obtain⟨vs,e,r⟩:=s1.ob i _ (dP q);rw[q]at o1;exact⟨_,.inl ⟨vs,Bd.of e,rfl⟩,by rw[HG r];exact o1.val s1 rfl⟩
  |_=>exact o1.elim
end
end L2.Mr
namespace L2
open PySem PySem.Spec PyProof.Rows
section
variable{Pg:bh}{w:cp}{P:ah->Prop}{H:Hp}{s:ag}
theorem VD (hok:Bk Pg w H s.heap) (n:Nat) (A:cn) (d d':Dt) (v v':V) (u u':af) (hn:eK d<=n) (hu:A.units+n+1<cLine) (n1:nod d=true) (n2:nod d'=true) (h:Den P H d v) (h':Den P H d' v') (r:RelV v u) (r':RelV v' u'):
  SeqAt.RcNeAt A s u u' (!bM d d'):=by
 have Ap:A.units<cLine:=by omega
 have Bz:1<=n->∀(d d':Dt) (u u':af),eK d<=n - 1->nod d=true->nod d'=true->Vw P H s d u->Vw P H s d' u'->jz A.in1 s u u' (bM d d'):=λhd d d' u u' a b c e f=>(AK hok (n - 1) A.in1 d d' u u' a (by show A.units+1+(n - 1)+1<cLine;omega) b c e f).2;have k:=vw hok n1 h r;have k':=vw hok n2 h' r'
 clear h h' r r'
 cases k <;> cases k'
 case tup.tup ds a1 vs1 its1 e1 g1 q1 tp1 Bs a2 vs2 Bm e2 g2 q2 tp2=>
  rw[nod]at n1 n2;rw[eK]at hn;have hl1:=g1.length;have hl2:=g2.length;have hq1:=q1.length;have hq2:=q2.length;rw[bM];have z:=SeqAt.RcNeAt.tuples (e:=λj=>bM (ds.getD j .non) (Bs.getD j .non)) tp1 tp2 Ap (vR hok (Bz (by omega)) (by omega) n1 n2 g1 g2 q1 q2);have s1:its1.toArray.size=ds.length:=by simp;omega
  have s2:Bm.toArray.size=Bs.length:=by simp;omega
  rw[s1,s2]at z
  by_cases hlen:ds.length=Bs.length
  ·rw[sJ hlen];rw[<-hlen,yn]at z;simpa using z
  ·rw[sL hlen];rw[show(ds.length==Bs.length)=false from beq_eq_false_iff_ne.mpr hlen,qd]at z;exact z
 case lst.lst ds a1 vs1 its1 e1 g1 q1 tp1 Bs a2 vs2 Bm e2 g2 q2 tp2=>
  rw[nod]at n1 n2;rw[eK]at hn;have hl1:=g1.length;have hl2:=g2.length;have hq1:=q1.length;have hq2:=q2.length;rw[bM]
  by_cases hlen:ds.length=Bs.length
  ·have z:=SeqAt.RcNeAt.lists (e:=λj=>bM (ds.getD j .non) (Bs.getD j .non)) tp1 tp2 (by simp;omega) Ap (vR hok (Bz (by omega)) (by omega) n1 n2 g1 g2 q1 q2);rw[sJ hlen];simpa[hq1.symm,hl1]using z
  ·rw[sL hlen];exact SeqAt.RcNeAt.lists_lengths tp1 tp2 (by simp;omega) Ap
 case non.non=>exact .none_none
 case non.bl=>exact .none_bool _
 case non.int=>exact .none_int _ _
 case non.str=>exact .none_str _ _
 case non.tup=>exact .none_tuple ‹_› Ap
 case non.lst=>exact .none_list ‹_› Ap
 case bl.non=>exact .bool_none _
 case bl.bl=>exact .bool_bool _ _
 case bl.int=>exact .bool_int _ _ _
 case bl.str=>exact .bool_str _ _ _
 case bl.tup=>exact .bool_tuple _ ‹_› Ap
 case bl.lst=>exact .bool_list _ ‹_› Ap
 case int.non=>exact .int_none _ _
 case int.bl=>exact .int_bool _ _ _
 case int.int=>exact .int_int _ _ _ _
 case int.str=>exact .int_str _ _ _ _
 case int.tup=>exact .int_tuple _ _ ‹_› Ap
 case int.lst=>exact .int_list _ _ ‹_› Ap
 case str.non=>exact .str_none _ _
 case str.bl=>exact .str_bool _ _ _
 case str.int=>exact .str_int _ _ _ _
 case str.str=>exact .str_str _ _ _ _
 case str.tup=>exact .str_tuple _ _ ‹_› Ap
 case str.lst=>exact .str_list _ _ ‹_› Ap
 case tup.non=>exact .tuple_none ‹_› Ap
 case tup.bl=>exact .tuple_bool _ ‹_› Ap
 case tup.int=>exact .tuple_int _ _ ‹_› Ap
 case tup.str=>exact .tuple_str _ _ ‹_› Ap
 case tup.lst=>exact .tuple_list ‹_› ‹_› Ap
 case lst.non=>exact .list_none ‹_› Ap
 case lst.bl=>exact .list_bool _ ‹_› Ap
 case lst.int=>exact .list_int _ _ ‹_› Ap
 case lst.str=>exact .list_str _ _ ‹_› Ap
 case lst.tup=>exact .list_tuple ‹_› ‹_› Ap
end
end L2
namespace L2.Mr
open PySem PySem.Spec PyProof.Rows
def bG {α β:Type}(f:α->Option β):List α->Option (List β)
 | []=>some []
 |x::xs=>match f x with
  |none=>none
  |some y=>match bG f xs with
   |none=>none
   |some ys=>some (y::ys)
def bU:Nat->Hs->Dv->Option Dt
 |0,_,_=>none
 |k+1,h,d=>match d with
  | .non=>some .non
  | .bl b=>some (.bl b)
  | .int i=>some (.int i)
  | .str x=>some (.str x)
  | .tup xs=>match bG (bU k h) xs with
   |some ts=>some (.tup ts)
   |none=>none
  | .ref i=>match getL h i with
   |some xs=>match bG (bU k h) xs with
    |some ts=>some (.lst ts)
    |none=>none
   |none=>none
  |_=>none
abbrev jN:ah->Prop:=λ_=>True
section
variable{G:Cfg}{μ:Nat->ah}{h:Hs}{H:Hp}
theorem qI (s:Ao G μ h H):∀(k:Nat) (d:Dv) (v:V) (t:Dt),Ac G μ h.length H d v->bU k h d=some t->Den jN H t v/\eK t<=k/\nod t=true:=by
 intro k
 induction k with
 |zero=>intro d v t _ e;cases e
 |succ k ih=>
  have il:∀(xs:zu) (vs:List V) (ts:List Dt),RelDL G μ h.length H xs vs->bG (bU k h) xs=some ts->Aj jN H ts vs/\mG ts<=k/\jD ts=true:=by
   intro xs
   induction xs with
   |nil=>intro vs ts r e;cases e;rw[RelDL]at r;subst r;exact⟨Aj.nil,by simp[mG],rfl⟩
   |cons x xs ihx=>
    intro vs ts r e;rw[RelDL]at r;obtain⟨v,rr,rfl,r1,r2⟩:=r;unfold bG at e
    cases q:bU k h x with
    |none=>rw[q]at e;cases e
    |some y=>
     rw[q]at e;dsimp only at e
     cases q2:bG (bU k h) xs with
     |none=>rw[q2]at e;cases e
     |some ys=>rw[q2]at e;cases e;obtain⟨a1,a2,a3⟩:=ih x v y r1 q;obtain⟨b1,b2,b3⟩:=ihx rr ys r2 q2;exact⟨Aj.cons a1 b1,by rw[mG];omega,by rw[jD,a3,b3];rfl⟩
  intro d v t r e;unfold bU at e
  cases d with
  |non=>cases e;rw[Ac]at r;subst r;exact⟨by rw[Den],by simp[eK],rfl⟩
  |bl b=>cases e;rw[Ac]at r;subst r;exact⟨by rw[Den],by simp[eK],rfl⟩
  |int b=>cases e;rw[Ac]at r;subst r;exact⟨by rw[Den],by simp[eK],rfl⟩
  |str b=>cases e;rw[Ac]at r;subst r;exact⟨by rw[Den],by simp[eK],rfl⟩
  |tup xs=>
   dsimp only at e
   cases q:bG (bU k h) xs with
   |none=>rw[q]at e;cases e
   |some ts=>rw[q]at e;cases e;obtain⟨a,vs,rfl,e1,r1⟩:=r;obtain⟨b1,b2,b3⟩:=il xs vs ts r1 q;exact⟨by rw[Den];exact⟨a,vs,rfl,e1,b1⟩,by rw[eK];omega,by rw[nod];exact b3⟩
  |ref i=>
   dsimp only at e
   cases g:getL h i with
   |none=>rw[g]at e;cases e
   |some xs=>
    rw[g]at e;dsimp only at e
    cases q:bG (bU k h) xs with
    |none=>rw[q]at e;cases e
    |some ts=>rw[q]at e;cases e;obtain⟨hi,rfl⟩:=r;obtain⟨vs,e1,r1⟩:=s.ob i _ (dP g);obtain⟨b1,b2,b3⟩:=il xs vs ts r1 q;exact⟨by rw[Den];exact⟨_,vs,rfl,trivial,e1,b1⟩,by rw[eK];omega,by rw[nod];exact b3⟩
  |edc=>cases e
  |exc c=>cases e
  |scr=>cases e
end
def cH:Nat:=30
def cI (x y:Dv) (h:Hs):Rs Dv:=match bU cH h x,bU cH h y with
 |some s,some t=>.ok (.bl (bM s t)) h
 |_,_=>.bad
def cJ (x y:Dv) (h:Hs):Rs Dv:=match bU cH h x,bU cH h y with
 |some s,some t=>.ok (.bl (!bM s t)) h
 |_,_=>.bad
def vT (neg:Bool):R2:=λx y H Q=>∃t t',Den jN H t x/\Den jN H t' y/\eK t<=cH/\nod t=true/\nod t'=true/\Q (.bl (if neg then !bM t t' else bM t t')) H
section
variable{X:Cx}{G:Cfg}
theorem HH (hu:X.A.units+64<cLine):Be X (compareOp .Eq) (vT false):=by intro pins s σ H x y v u Q I r1 r2 ⟨t,t',d,d',hd,n1,n2,q⟩;exact EqBoolInt.of_rc (HE I.hok cH X.A t t' x y v u hd (by unfold cH;omega) n1 n2 d d' r1 r2).1 ⟨.bl _,H,I,rfl,q⟩
theorem HI (hu:X.A.units+64<cLine):Be X (compareOp .NotEq) (vT true):=by intro pins s σ H x y v u Q I r1 r2 ⟨t,t',d,d',hd,n1,n2,q⟩;exact EqBoolInt.of_rcne (VD I.hok cH X.A t t' x y v u hd (by unfold cH;omega) n1 n2 d d' r1 r2) ⟨.bl _,H,I,rfl,q⟩
theorem HJ:fI G (vT false) cI:=by
 intro E μ h H x y vx vy Q s rx ry o;unfold cI at o
 split at o
 ·rename_i t t' e e';obtain⟨a1,a2,a3⟩:=qI s _ x vx t rx e;obtain⟨b1,b2,b3⟩:=qI s _ y vy t' ry e';exact⟨t,t',a1,b1,a2,a3,b3,o.val s rfl⟩
 ·exact o.elim
theorem HK:fI G (vT true) cJ:=by
 intro E μ h H x y vx vy Q s rx ry o;unfold cJ at o
 split at o
 ·rename_i t t' e e';obtain⟨a1,a2,a3⟩:=qI s _ x vx t rx e;obtain⟨b1,b2,b3⟩:=qI s _ y vy t' ry e';exact⟨t,t',a1,b1,a2,a3,b3,o.val s rfl⟩
 ·exact o.elim
end
def iG (g:Int->Int->Dv):Dv->Dv->Hs->Rs Dv
 | .int i,.int j,h=>.ok (g i j) h
 |_,_,_=>.bad
def kU (C:Int->Int->Bool) (g:Int->Int->Dv):Dv->Dv->Hs->Rs Dv
 | .int i,.int j,h=>if C i j=true then .ok (g i j) h else .bad
 |_,_,_=>.bad
section
variable{X:Cx}{G:Cfg}
theorem VE {f:Int->Int->Int}:fI G (jL λi j=>.int (f i j)) (iG λi j=>.int (f i j)):=by
 intro E μ h H x y vx vy Q s rx ry o
 cases x with
 |int i=>
  cases y with
  |int j=>exact⟨i,j,rx,ry,o.val s rfl⟩
  |_=>exact o.elim
 |_=>exact o.elim
theorem oQ {f:Int->Int->Bool}:fI G (jL λi j=>.bl (f i j)) (iG λi j=>.bl (f i j)):=by
 intro E μ h H x y vx vy Q s rx ry o
 cases x with
 |int i=>
  cases y with
  |int j=>exact⟨i,j,rx,ry,o.val s rfl⟩
  |_=>exact o.elim
 |_=>exact o.elim
theorem vU {C:Int->Int->Prop}{B:Int->Int->Bool}{f:Int->Int->Int}(hB:∀i j,B i j=true->C i j):fI G (rI C λi j=>.int (f i j)) (kU B λi j=>.int (f i j)):=by
 intro E μ h H x y vx vy Q s rx ry o
 cases x with
 |int i=>
  cases y with
  |int j=>
   dsimp only[kU]at o
   split at o
   ·rename_i hb;exact⟨i,j,rx,ry,hB i j hb,o.val s rfl⟩
   ·exact o.elim
  |_=>exact o.elim
 |_=>exact o.elim
def kW (i:Int):Bool:=decide (-18446744073709551616<i)&&decide (i<18446744073709551616)
def vV (i j:Int):Bool:=kW i||kW j
theorem VF (i j:Int) (h:vV i j=true):CMul i j:=by
 unfold vV kW at h;unfold CMul;simp only[Bool.or_eq_true,cw,decide_eq_true_eq]at h
 rcases h with h|h
 ·exact .inl ⟨by omega,by omega⟩
 ·exact .inr ⟨by omega,by omega⟩
def qJ (_ j:Int):Bool:=decide (0<j)
theorem VG (i j:Int) (h:qJ i j=true):0<j:=by unfold qJ at h;simpa using h
def sP (i j:Int):Bool:=decide (0<=j)&&decide (j<=1000000)&&decide (i.natAbs<18446744073709551616)
theorem VH (i j:Int) (h:sP i j=true):zU i j:=by unfold sP at h;unfold zU;simp only[cw,decide_eq_true_eq]at h;exact⟨h.1.1,h.1.2,by have:=h.2;omega⟩
def kX:Dv->Dv->Hs->Rs Dv
 | .int i,.int j,h=>.ok (.int (i+j)) h
 | .ref i,.ref j,h=>match getL h i,getL h j with
  |some xs,some ys=>lim (xs.length+ys.length) (.ok (.ref h.length) (h++[.lst (xs++ys)]))
  |_,_=>.bad
 | .tup xs,.tup ys,h=>if xs.isEmpty=true then .bad else lim (xs.length+ys.length) (.ok (.tup (xs++ys)) h)
 |_,_,_=>.bad
def AO (K:aq):R2:=λx y H Q=>(jL λi j=>.int (i+j)) x y H Q∨GR x y H Q∨GH K x y H Q
theorem VI:Be X (binaryOp .Add) (AO X.K):=op_add.or (op_cat.or TM)
theorem VJ:fI G (AO G.K) kX:=by
 intro E μ h H x y vx vy Q s rx ry o
 cases x with
 |int i=>
  cases y with
  |int j=>exact .inl ⟨i,j,rx,ry,o.val s rfl⟩
  |_=>exact o.elim
 |ref i=>
  cases y with
  |ref j=>
   dsimp only[kX]at o
   cases g1:getL h i with
   |none=>rw[g1]at o;exact o.elim
   |some xs=>
    cases g2:getL h j with
    |none=>rw[g1,g2]at o;exact o.elim
    |some ys=>
     rw[g1,g2]at o;dsimp only at o;unfold lim at o
     split at o
     ·rename_i hl;obtain⟨vs,e1,r1⟩:=s.ob i _ (dP g1);obtain⟨ws,e2,r2⟩:=s.ob j _ (dP g2);obtain⟨_,rfl⟩:=rx;obtain⟨_,rfl⟩:=ry;exact .inr (.inl ⟨_,_,vs,ws,rfl,rfl,e1,e2,by rw[r1.length,r2.length];exact sM hl,λp hp=>nM s (r1.append r2) hp o⟩)
     ·exact o.elim
  |_=>exact o.elim
 |tup xs=>
  cases y with
  |tup ys=>
   dsimp only[kX]at o
   split at o
   ·exact o.elim
   ·rename_i hne;unfold lim at o
    split at o
    ·rename_i hl;obtain⟨a,vs,rfl,e1,r1⟩:=rx;obtain⟨b,ws,rfl,e2,r2⟩:=ry;refine .inr (.inr ⟨a,b,vs,ws,rfl,rfl,Aq.of e1,Aq.of e2, ?_,by rw[r1.length,r2.length];exact sM hl,λz=>?_,λ_ p hp=>?_⟩)
     ·intro z;subst z;have:=r1.length
      cases xs <;> simp_all
     ·subst z;have e3:ys=[]:=by have:=r2.length;cases ys <;> simp_all
      subst e3;refine o.val s ?_;rw[rz];exact⟨a,vs,rfl,e1,r1⟩
     ·exact o μ _ _ (Ext.same (dG hp)) (s.same (dG hp)) ⟨p,_,rfl,eG,RelDL.mono (Ext.same (dG hp)) _ _ (r1.append r2)⟩
    ·exact o.elim
  |_=>exact o.elim
 |_=>exact o.elim
def kE (xs:zu) (i:Int) (h:Hs):Rs Dv:=match gX xs i with
 |some d=>.ok d h
 |none=>.bad
def gI (scr:zo):Dv->Dv->Hs->Rs Dv
 | .tup xs,.int i,h=>kE xs i h
 | .ref k,.int i,h=>match getL h k with
  |some xs=>kE xs i h
  |none=>.bad
 | .scr,.int i,h=>kE (scr.map Dv.int) i h
 |_,_,_=>.bad
theorem qK {μ:Nat->ah}{n:Nat}{H:Hp}:∀ns:zo,RelDL G μ n H (ns.map Dv.int) (ns.map V.int)
 | []=>RelDL.nil
 |i::ns=>RelDL.cons rfl (qK ns)
theorem AQ {E:XK}{μ:Nat->ah}{h:Hs}{H:Hp}{xs:zu}{vs:List V}{i:Int}{Q:VK}(s:Ao G μ h H) (r:RelDL G μ h.length H xs vs) (o:Out G E μ h.length H (kE xs i h) (Ac G) Q):∃v,gX vs i=some v/\Q v H:=by
 unfold kE at o
 cases e:gX xs i with
 |none=>rw[e]at o;exact o.elim
 |some d=>
  rw[e]at o;unfold gX at e ⊢;rw[r.length]
  cases q:fT xs.length i with
  |none=>rw[q]at e;cases e
  |some j=>rw[q]at e;obtain⟨v,e1,r1⟩:=r.get e;exact⟨v,e1,o.val s r1⟩
theorem HL:fI G (AA G.K) (gI G.scr):=by
 intro E μ h H x y vx vy Q s rx ry o
 cases y with
 |int i=>
  cases x with
  |tup xs=>obtain⟨a,vs,rfl,e1,r1⟩:=rx;obtain⟨v,e2,q⟩:=AQ s r1 o;exact .inr (.inl ⟨a,vs,i,v,rfl,ry,Aq.of e1,e2,q⟩)
  |ref k=>
   dsimp only[gI]at o
   cases g:getL h k with
   |none=>rw[g]at o;exact o.elim
   |some xs=>rw[g]at o;obtain⟨vs,e1,r1⟩:=s.ob k _ (dP g);obtain⟨_,rfl⟩:=rx;obtain⟨v,e2,q⟩:=AQ s r1 o;exact .inl ⟨_,vs,i,v,rfl,ry,Bd.of e1,e2,q⟩
  |scr=>obtain⟨rfl,hf⟩:=rx;obtain⟨v,e2,q⟩:=AQ s (qK G.scr) o;exact .inl ⟨_,_,i,v,rfl,ry,hf.sq,e2,q⟩
  |_=>exact o.elim
 |_=>cases x <;> exact o.elim
theorem VL {E:XK}{a b:bq}{ma mb:M Dv}{pos:Pos}(ha:aK X G E a ma) (hb:aK X G E b mb) (hs:zZ b:=by intro _ _;rfl):aK X G E (.Subscript a b pos) (m2 (gI G.scr) ma mb):=λhK=>PE.imp (GI (by have:=GN (X:=X);rw[hK]at this;exact this) (ha hK) (hb hK) hs) λ_ _ _ t=>sO HL t
theorem VM:dj "abs" = some (.builtin "abs"):=by decide +kernel
theorem AR:dj "tuple" = some (.type "tuple"):=by decide +kernel
theorem HM:dj "list" = some (.type "list"):=by decide +kernel
theorem AS:dj "max" = some (.builtin "max"):=by decide +kernel
theorem HN:dj "min" = some (.builtin "min"):=by decide +kernel
variable{E:XK}{aQ:M zu }{e:bq}{es:List bq}{x:Str}{p pos:Pos}{id T:String}
def nO (G:Cfg) (r:List V->Hp->VK->Prop) (f:zt):Prop:=∀(E:XK) (μ:Nat->ah) (h:Hs) (H:Hp) (xs:zu) (vs:List V) (Q:VK),Ao G μ h H->RelDL G μ h.length H xs vs->Out G E μ h.length H (f xs h) (Ac G) Q->r vs H Q
def aD (f:zt) (ms:M zu ):M Dv:=λρ h=>(ms ρ h).bind f
theorem HP {r:List V->Hp->VK->Prop}{f:zt}(hd:nO G r f) {σ:St}{H:Hp}{Q:VK}(t:hX G E (aD f aQ) σ H Q):vI r (AM G E aQ) σ H Q:=by obtain⟨μ,ρ,h,rs,s,o⟩:=t;exact kC rs s o λμ1 ds h1 vs H1 x1 As s1 r1 o1=>hd E μ1 h1 H1 ds vs Q s1 r1 o1
theorem nP {r:List V->Hp->VK->Prop}{f:zt}(hc:Af X (.builtin id) r) (hd:nO G r f) (hg:Gl X x) (hm:X.mg x=none) (hv:dj x=some (.builtin id)) (ha:dR X G E (e::es) aQ) (hn:x ≠ "__name__" := by decide) (Cu:(x==("__debug__" : Str))=false:=by decide)
  (he:ar (e::es) X.env=(false,eval e X.env)::ar es X.env:=by rfl) (Bj:(backTo pos (ar es X.env)).any (·.1)=false:=by rfl):aK X G E (.Call (.Name x p) (e::es) [] pos) (aD f aQ):=λhK=>
 PE.imp (sE hc hg hm hv (ha hK) hn Cu he Bj) λ_ _ _ t=>HP hd t
theorem HQ {r:List V->Hp->VK->Prop}{f:zt}(hc:Af X (.type T) r) (hd:nO G r f) (hg:Gl X x) (hm:X.mg x=none) (hv:dj x=some (.type T)) (ha:dR X G E (e::es) aQ) (hn:x ≠ "__name__" := by decide) (Cu:(x==("__debug__" : Str))=false:=by decide)
  (he:ar (e::es) X.env=(false,eval e X.env)::ar es X.env:=by rfl) (Bj:(backTo pos (ar es X.env)).any (·.1)=false:=by rfl):aK X G E (.Call (.Name x p) (e::es) [] pos) (aD f aQ):=λhK=>
 PE.imp (qB hc hg hm hv (ha hK) hn Cu he Bj) λ_ _ _ t=>HP hd t
def fJ (scr:zo):Dv->Hs->Option zu 
 | .tup xs,_=>some xs
 | .ref i,h=>getL h i
 | .scr,_=>some (scr.map Dv.int)
 |_,_=>none
def f1 (g:Dv->Hs->Rs Dv):zt
 | [d],h=>g d h
 |_,_=>.bad
def iH (scr:zo) (d:Dv) (h:Hs):Rs Dv:=match fJ scr d h with
 |some xs=>.ok (.int xs.length) h
 |none=>.bad
theorem qL {μ:Nat->ah}{n:Nat}{H:Hp}{d:Dv}{vs:List V}(r:RelDL G μ n H [d] vs):∃v,vs=[v]/\Ac G μ n H d v:=by rw[RelDL]at r;obtain⟨v,rr,rfl,h1,h2⟩:=r;rw[RelDL]at h2;subst h2;exact⟨v,rfl,h1⟩
theorem oR {r:V->Hp->VK->Prop}{g:Dv->Hs->Rs Dv}(hg:jE G r g):nO G (λxs H Q=>∃v,xs=[v]/\r v H Q) (f1 g):=by
 intro E μ h H xs vs Q s rr o
 match xs,rr,o with
 | [],_,o=>exact o.elim
 |_::_::_,_,o=>exact o.elim
 | [d],rr,o=>obtain⟨v,rfl,r1⟩:=qL rr;exact⟨v,rfl,hg E μ h H d v Q s r1 o⟩
theorem AU {μ:Nat->ah}{n:Nat}{H:Hp}{d d':Dv}{vs:List V}(r:RelDL G μ n H [d,d'] vs):∃v v',vs=[v,v']/\Ac G μ n H d v/\Ac G μ n H d' v':=by rw[RelDL]at r;obtain⟨v,rr,rfl,h1,h2⟩:=r;obtain⟨v',rfl,h3⟩:=qL h2;exact⟨v,v',rfl,h1,h3⟩
theorem AV {μ:Nat->ah}{h:Hs}{H:Hp}{d:Dv}{v:V}{xs:zu}(s:Ao G μ h H) (r:Ac G μ h.length H d v) (e:fJ G.scr d h=some xs):∃a vs,v=.ref a/\(Bd G.K H a vs∨Aq G.K H a vs)/\RelDL G μ h.length H xs vs:=by
 cases d with
 |tup ds=>cases e;obtain⟨a,vs,rfl,e1,r1⟩:=r;exact⟨a,vs,rfl,.inr (Aq.of e1),r1⟩
 |ref i=>obtain⟨_,rfl⟩:=r;obtain⟨vs,e1,r1⟩:=s.ob i _ (dP e);exact⟨_,vs,rfl,.inl (Bd.of e1),r1⟩
 |scr=>cases e;obtain⟨rfl,hf⟩:=r;exact⟨_,_,rfl,.inl hf.sq,qK _⟩
 |_=>cases e
def HR (K:aq):V->Hp->VK->Prop:=λx H Q=>∃p ys,x=.ref p/\(Bd K H p ys∨Aq K H p ys)/\Q (.int ys.length) H
theorem HS:jE G (HR G.K) (iH G.scr):=by
 intro E μ h H d v Q s r1 o;unfold iH at o
 cases e:fJ G.scr d h with
 |none=>rw[e]at o;exact o.elim
 |some ys=>rw[e]at o;obtain⟨a,ws,rfl,hs,r2⟩:=AV s r1 e;exact⟨a,ws,rfl,hs,by rw[r2.length];exact o.val s rfl⟩
theorem Af.imp {f:af}{r r':List V->Hp->VK->Prop}(h:Af X f r) (i:∀xs H Q,r' xs H Q->r xs H Q):Af X f r':=λpins s σ H xs us Q I rv q=>h pins s σ H xs us Q I rv (i xs H Q q)
theorem HU (hg:Gl X "len") (hm:X.mg "len" = none) (ha:dR X G E (e::es) aQ)
  (he:ar (e::es) X.env=(false,eval e X.env)::ar es X.env:=by rfl) (Bj:(backTo pos (ar es X.env)).any (·.1)=false:=by rfl):aK X G E (.Call (.Name "len" p) (e::es) [] pos) (aD (f1 (iH G.scr)) aQ):=λhK=>
 nP (Af.imp (GO (X:=X)) λxs H Q ⟨v,h1,a,ys,h2,h3,h4⟩=>⟨a,ys,by rw[h1,h2],by rw[hK];exact h3,h4⟩) (oR HS) hg hm wx ha (by decide) (by decide) he Bj hK
def nQ:Dv->Hs->Rs Dv
 | .int i,h=>.ok (.int (if i<0 then -i else i)) h
 |_,_=>.bad
theorem VN:jE G (λx H Q=>∃i,x=.int i/\Q (.int (if i<0 then -i else i)) H) nQ:=by
 intro E μ h H d v Q s r1 o
 cases d with
 |int i=>rw[Ac]at r1;subst r1;exact⟨i,rfl,o.val s rfl⟩
 |_=>exact o.elim
theorem VO (hg:Gl X "abs") (hm:X.mg "abs" = none) (ha:dR X G E (e::es) aQ)
  (he:ar (e::es) X.env=(false,eval e X.env)::ar es X.env:=by rfl) (Bj:(backTo pos (ar es X.env)).any (·.1)=false:=by rfl):aK X G E (.Call (.Name "abs" p) (e::es) [] pos) (aD (f1 nQ) aQ):=
 nP (Af.imp (SF (X:=X)) λxs H Q ⟨v,h1,i,h2,h3⟩=>⟨i,by rw[h1,h2],h3⟩) (oR VN) hg hm VM ha (by decide) (by decide) he Bj
def iR:zt
 | [.int i,.int j],h=>.ok (.int (if j>i then j else i)) h
 |_,_=>.bad
def qM:zt
 | [.int i,.int j],h=>.ok (.int (if j<i then j else i)) h
 |_,_=>.bad
theorem HV {f:zt}{g:Int->Int->Int}(h2:∀i j h,f [.int i,.int j] h=.ok (.int (g i j)) h) (hb:∀xs h,(∀i j,xs≠[.int i,.int j])->f xs h=.bad):
  nO G (λxs H Q=>∃i j,xs=[.int i,.int j]/\Q (.int (g i j)) H) f:=by
 intro E μ h H xs vs Q s r o
 by_cases hx:∃i j,xs=[.int i,.int j]
 ·obtain⟨i,j,rfl⟩:=hx;obtain⟨v,v',rfl,r1,r2⟩:=AU r;rw[Ac]at r1 r2;subst r1;subst r2;rw[h2]at o;exact⟨i,j,rfl,o.val s rfl⟩
 ·rw[hb xs h (λi j e=>hx ⟨i,j,e⟩)]at o;exact o.elim
theorem VP:nO G (λxs H Q=>∃i j,xs=[.int i,.int j]/\Q (.int (if j>i then j else i)) H) iR:=HV (λ_ _ _=>rfl) λxs h hx=>by
 unfold iR;split
 ·rename_i i j;exact absurd rfl (hx i j)
 ·rfl
theorem VQ:nO G (λxs H Q=>∃i j,xs=[.int i,.int j]/\Q (.int (if j<i then j else i)) H) qM:=HV (λ_ _ _=>rfl) λxs h hx=>by
 unfold qM;split
 ·rename_i i j;exact absurd rfl (hx i j)
 ·rfl
def fK:Dv->Hs->Rs Dv
 | .tup xs,h=>.ok (.tup xs) h
 | .ref i,h=>match getL h i with
  |some xs=>.ok (.tup xs) h
  |none=>.bad
 |_,_=>.bad
def VR (K:aq):V->Hp->VK->Prop:=λx H Q=>∃p ys,x=.ref p/\((Bd K H p ys/\∀l,H l=none->Q (.ref l) (aZ H l (.tup ys)))∨(Aq K H p ys/\Q (.ref p) H))
theorem VS:jE G (VR G.K) fK:=by
 intro E μ h H d v Q s r1 o
 cases d with
 |tup ds=>have r1':=r1;obtain⟨a,ws,rfl,e1,r2⟩:=r1;exact⟨a,ws,rfl,.inr ⟨Aq.of e1,o.val s r1'⟩⟩
 |ref i=>
  dsimp only[fK]at o
  cases g:getL h i with
  |none=>rw[g]at o;exact o.elim
  |some ys=>rw[g]at o;obtain⟨_,rfl⟩:=r1;obtain⟨ws,e1,r2⟩:=s.ob i _ (dP g);exact⟨_,ws,rfl,.inl ⟨Bd.of e1,λl hl=>o μ _ _ (Ext.same (dG hl)) (s.same (dG hl)) ⟨l,ws,rfl,eG,RelDL.mono (Ext.same (dG hl)) _ _ r2⟩⟩⟩
 |_=>exact o.elim
theorem vW (hg:Gl X "tuple") (hm:X.mg "tuple" = none) (ha:dR X G E (e::es) aQ)
  (he:ar (e::es) X.env=(false,eval e X.env)::ar es X.env:=by rfl) (Bj:(backTo pos (ar es X.env)).any (·.1)=false:=by rfl):aK X G E (.Call (.Name "tuple" p) (e::es) [] pos) (aD (f1 fK) aQ):=λhK=>
 HQ (Af.imp (GP (X:=X)) λxs H Q ⟨v,h1,a,ys,h2,h3⟩=>⟨a,ys,by rw[h1,h2],by rw[hK];exact h3⟩) (oR VS) hg hm AR ha (by decide) (by decide) he Bj hK
def qN (scr:zo) (d:Dv) (h:Hs):Rs Dv:=match fJ scr d h with
 |some xs=>.ok (.ref h.length) (h++[.lst xs])
 |none=>.bad
theorem VT:jE G (λx H Q=>∃p ys,x=.ref p/\(Bd G.K H p ys∨Aq G.K H p ys)/\∀l,H l=none->Q (.ref l) (aZ H l (.lst ys))) (qN G.scr):=by
 intro E μ h H d v Q s r1 o;unfold qN at o
 cases e:fJ G.scr d h with
 |none=>rw[e]at o;exact o.elim
 |some ys=>rw[e]at o;obtain⟨a,ws,rfl,hs,r2⟩:=AV s r1 e;exact⟨a,ws,rfl,hs,λl hl=>nM s r2 hl o⟩
theorem sQ (hc:X.calm=true) (hg:Gl X "max") (hm:X.mg "max" = none) (ha:dR X G E (e::es) aQ)
  (he:ar (e::es) X.env=(false,eval e X.env)::ar es X.env:=by rfl) (Bj:(backTo pos (ar es X.env)).any (·.1)=false:=by rfl):aK X G E (.Call (.Name "max" p) (e::es) [] pos) (aD iR aQ):=
 nP (SG hc) VP hg hm AS ha (by decide) (by decide) he Bj
theorem VU (hc:X.calm=true) (hg:Gl X "min") (hm:X.mg "min" = none) (ha:dR X G E (e::es) aQ)
  (he:ar (e::es) X.env=(false,eval e X.env)::ar es X.env:=by rfl) (Bj:(backTo pos (ar es X.env)).any (·.1)=false:=by rfl):aK X G E (.Call (.Name "min" p) (e::es) [] pos) (aD qM aQ):=
 nP (SH hc) VQ hg hm HN ha (by decide) (by decide) he Bj
end
inductive Sr where
 |nx (ρ:Ev) (h:Hs)|rt (d:Dv) (h:Hs)|bk (ρ:Ev) (h:Hs)|ct (ρ:Ev) (h:Hs)|ex (c:Nat) (h:Hs)|bad
abbrev MS:=Ev->Hs->Sr
def Bc (G:Cfg) (E:XK) (μ:Nat->ah) (n:Nat) (H:Hp) (r:Sr) (D:Ends):Prop:=match r with
 | .nx ρ h'=>∀μ' H' σ',Ext μ n H μ' h'.length H'->Ao G μ' h' H'->Al G μ' h'.length H' ρ σ'->D.nx σ' H'
 | .bk ρ h'=>∀μ' H' σ',Ext μ n H μ' h'.length H'->Ao G μ' h' H'->Al G μ' h'.length H' ρ σ'->D.bk σ' H'
 | .ct ρ h'=>∀μ' H' σ',Ext μ n H μ' h'.length H'->Ao G μ' h' H'->Al G μ' h'.length H' ρ σ'->D.ct σ' H'
 | .rt d h'=>∀μ' H' v,Ext μ n H μ' h'.length H'->Ao G μ' h' H'->Ac G μ' h'.length H' d v->D.rt v H'
 | .ex c h'=>∀μ' H' u,Ext μ n H μ' h'.length H'->Ao G μ' h' H'->vS G H' c u->E u none H'
 | .bad=>False
theorem Bc.ext {G:Cfg}{E:XK}{μ μ1:Nat->ah}{n n1:Nat}{H H1:Hp}{r:Sr}{D:Ends}(o:Bc G E μ n H r D) (x:Ext μ n H μ1 n1 H1):Bc G E μ1 n1 H1 r D:=by
 cases r with
 |nx ρ h'=>exact λμ' H' σ' y=>o μ' H' σ' (x.trans y)
 |bk ρ h'=>exact λμ' H' σ' y=>o μ' H' σ' (x.trans y)
 |ct ρ h'=>exact λμ' H' σ' y=>o μ' H' σ' (x.trans y)
 |rt d h'=>exact λμ' H' σ' y=>o μ' H' σ' (x.trans y)
 |ex c h'=>exact λμ' H' σ' y=>o μ' H' σ' (x.trans y)
 |bad=>exact o
def AW (G:Cfg) (E:XK) (m:MS):TS:=λD σ H=>∃μ ρ h,Al G μ h.length H ρ σ/\Ao G μ h H/\Bc G E μ h.length H (m ρ h) D
def iI (X:Cx) (G:Cfg) (E:XK) (st:gf) (m:MS):Prop:=X.K=G.K->PS X st (AW G E m)
def kY (X:Cx) (G:Cfg) (E:XK) (st:List gf) (m:MS):Prop:=X.K=G.K->Di X st (AW G E m)
theorem PS.imp {X:Cx}{e:gf}{t t':TS}(h:PS X e t) (i:∀D σ H,t' D σ H->t D σ H):PS X e t':=λpins s σ H D I q=>h pins s σ H D I (i D σ H q)
theorem Di.imp {X:Cx}{e:List gf}{t t':TS}(h:Di X e t) (i:∀D σ H,t' D σ H->t D σ H):Di X e t':=λpins s σ H D I q=>h pins s σ H D I (i D σ H q)
noncomputable def Rs.thenS {α:Type}(r:Rs α) (f:α->Hs->Sr):Sr:=match r with
 | .ok a h=>f a h
 | .ex c h=>.ex c h
 | .bad=>.bad
@[simp] theorem Rs.thenS_ok {α:Type}(a:α) (h:Hs) (f:α->Hs->Sr):(Rs.ok a h).thenS f=f a h:=rfl
@[simp] theorem Rs.thenS_ex {α:Type}(c:Nat) (h:Hs) (f:α->Hs->Sr):(Rs.ex c h).thenS f=.ex c h:=rfl
@[simp] theorem Rs.thenS_bad {α:Type}(f:α->Hs->Sr):(Rs.bad).thenS f=.bad:=rfl
theorem Bc.thenS {α β:Type}{G:Cfg}{E:XK}{μ:Nat->ah}{n:Nat}{H:Hp}{r:Rs α}{f:α->Hs->Sr}{D:Ends}{R:(Nat->ah)->Nat->Hp->α->β->Prop}
  (o:Bc G E μ n H (r.thenS f) D):Out G E μ n H r R λv H1=>∃μ1 d h1,Ext μ n H μ1 h1.length H1/\Ao G μ1 h1 H1/\R μ1 h1.length H1 d v/\Bc G E μ1 h1.length H1 (f d h1) D:=by
 cases r with
 |bad=>exact o
 |ex c h'=>exact o
 |ok d h'=>exact λμ1 H1 v x1 s1 r1=>⟨μ1,d,h',x1,s1,r1,Bc.ext o x1⟩
section
variable{X:Cx}{G:Cfg}{E:XK}{st:gf}{rest:List gf}{m u:MS}{e:bq}{me:M Dv}{pos:Pos}
theorem nS {m:M Dv}{σ:St}{H:Hp}{f:Dv->Hs->Sr}{D:Ends}{Q1:V->Hp->Prop}{μ:Nat->ah}{ρ:Ev}{h:Hs}(rs:Al G μ h.length H ρ σ) (s:Ao G μ h H) (o:Bc G E μ h.length H ((m ρ h).thenS f) D)
  (k:∀μ1 d h1 v H1,Ext μ h.length H μ1 h1.length H1->Al G μ1 h1.length H1 ρ σ->Ao G μ1 h1 H1->Ac G μ1 h1.length H1 d v->Bc G E μ1 h1.length H1 (f d h1) D->Q1 v H1):hX G E m σ H Q1:=
 ⟨μ,ρ,h,rs,s,(o.thenS (R:=Ac G)).mono λv H1 ⟨μ1,d,h1,x,s1,r1,o1⟩=>k μ1 d h1 v H1 x (rs.mono x) s1 r1 o1⟩
theorem HW {m:M Bool}{σ:St}{H:Hp}{f:Bool->Hs->Sr}{D:Ends}{Q1:Bool->Hp->Prop}{μ:Nat->ah}{ρ:Ev}{h:Hs}(rs:Al G μ h.length H ρ σ) (s:Ao G μ h H) (o:Bc G E μ h.length H ((m ρ h).thenS f) D)
  (k:∀μ1 b h1 H1,Ext μ h.length H μ1 h1.length H1->Al G μ1 h1.length H1 ρ σ->Ao G μ1 h1 H1->Bc G E μ1 h1.length H1 (f b h1) D->Q1 b H1):iF G E m σ H Q1:=
 ⟨μ,ρ,h,rs,s,(o.thenS (R:=RB)).mono λv H1 ⟨μ1,d,h1,x,s1,r1,o1⟩=>by have e:v=d:=r1;subst e;exact k μ1 v h1 H1 x (rs.mono x) s1 o1⟩
def bW:MS:=λρ h=>.nx ρ h
def aJ (m u:MS):MS:=λρ h=>match m ρ h with
 | .nx ρ1 h1=>u ρ1 h1
 |r=>r
theorem fO:kY X G E [] bW:=λ_=>Di.imp QO λD σ H ⟨μ,ρ,h,rs,s,o⟩=>o μ H σ Ext.refl s rs
theorem bB (h1:iI X G E st m) (h2:kY X G E rest u):kY X G E (st::rest) (aJ m u):=λhK=>Di.imp (QP (h1 hK) (h2 hK)) λD σ H ⟨μ,ρ,h,rs,s,o⟩=>by
 refine⟨μ,ρ,h,rs,s, ?_⟩;unfold aJ at o
 cases q:m ρ h with
 |nx ρ1 h1=>rw[q]at o;exact λμ1 H1 σ1 x1 s1 As=>⟨μ1,ρ1,h1,As,s1,Bc.ext o x1⟩
 |bk ρ1 h1=>rw[q]at o;exact o
 |ct ρ1 h1=>rw[q]at o;exact o
 |rt ρ1 h1=>rw[q]at o;exact o
 |ex ρ1 h1=>rw[q]at o;exact o
 |bad=>rw[q]at o;exact o
theorem bI (h1:iI X G E st m):kY X G E [st] m:=λhK=>QQ (h1 hK)
def bJ (me:M Dv):MS:=λρ h=>(me ρ h).thenS λ_ h1=>.nx ρ h1
theorem gJ (he:aK X G E e me) (hs:swapsWith e none pos.line X.env=pure false:=by rfl):iI X G E (.Expr e pos) (bJ me):=λhK=>PS.imp (QS (he hK) hs) λD σ H ⟨μ,ρ,h,rs,s,o⟩=>nS rs s o λμ1 d h1 v H1 x1 As s1 r1 o1=>o1 μ1 H1 σ Ext.refl s1 As
def aN (me:M Dv):MS:=λρ h=>(me ρ h).thenS λd h1=>.rt d h1
theorem cA (he:aK X G E e me):iI X G E (.Return (some e) pos) (aN me):=λhK=>PS.imp (QU (he hK)) λD σ H ⟨μ,ρ,h,rs,s,o⟩=>nS rs s o λμ1 d h1 v H1 x1 As s1 r1 o1=>o1 μ1 H1 v Ext.refl s1 r1
def bQ (c:M Bool) (t u:MS):MS:=λρ h=>(c ρ h).thenS λb h1=>if b=true then t ρ h1 else u ρ h1
theorem fP {c:bq}{a b:List gf}{mc:M Bool}(hc:fZ X G E c mc) (ha:kY X G E a m) (hb:kY X G E b u):iI X G E (.If c a b pos) (bQ mc m u):=λhK=>PS.imp (QW (hc hK) (ha hK) (hb hK)) λD σ H ⟨μ,ρ,h,rs,s,o⟩=>
 HW rs s o λμ1 k h1 H1 x1 As s1 o1=>by
  cases k with
  |true=>rw[if_pos rfl]at o1 ⊢;exact⟨μ1,ρ,h1,As,s1,o1⟩
  |false=>rw[if_neg (by decide)]at o1 ⊢;exact⟨μ1,ρ,h1,As,s1,o1⟩
theorem Al.set {μ:Nat->ah}{n:Nat}{H:Hp}{ρ:Ev}{σ:St}{d:Dv}{v:V}(rs:Al G μ n H ρ σ) (i:Nat) (r:Ac G μ n H d v):Al G μ n H (ρ.set i (some d)) (σ.set i (some v)):=⟨by rw[sd,sd];exact rs.len,λj d' e=>by
 have hl:=rs.len
 by_cases Bo:i=j
 ·subst Bo;have hi:i<ρ.length:=by have:=(bg.mp e).1;simpa using this
  rw[ie hi]at e;cases e;exact⟨v,ie (by omega),r⟩
 ·rw[ib Bo]at e ⊢;exact rs.at_ j d' e⟩
abbrev dQ:=Dv->Ev->Option Ev
def sR (G:Cfg) (st:dQ):TG:=λv σ H Q=>∃μ ρ h d ρ',Al G μ h H ρ σ/\Ac G μ h H d v/\st d ρ=some ρ'/\∀σ',Al G μ h H ρ' σ'->Q σ' H
def kF (X:Cx) (G:Cfg) (tg:bq) (st:dQ):Prop:=X.K=G.K->PG X tg (sR G st)
theorem PG.imp {tg:bq}{t t':TG}(h:PG X tg t) (i:∀v σ H Q,t' v σ H Q->t v σ H Q):PG X tg t':=λpins s σ H v u Q I r q=>h pins s σ H v u Q I r (i v σ H Q q)
theorem PGs.imp {tg:List bq}{t t':mE}(h:PGs X tg t) (i:∀v σ H Q,t' v σ H Q->t v σ H Q):PGs X tg t':=λpins s σ H v u Q I r q=>h pins s σ H v u Q I r (i v σ H Q q)
def aF (i:Nat):dQ:=λd ρ=>some (ρ.set i (some d))
theorem VV {i:Nat}{x:Str}(hN:X.N.Nodup) (hi:X.N[i]?=some x) (hx:nJ X.env.scope x) (hf:X.fn x=true∨X.env.scope.names.lookup x=some .local:=by first|exact .inl rfl|exact .inr rfl|assumption):kF X G (.Name x pos) (aF i):=λ_=>PG.imp (QX hN hi hx hf) λv σ H Q ⟨μ,ρ,h,d,ρ',rs,r,e,k⟩=>by cases e;exact k _ (rs.set i r)
abbrev nU:=zu->Ev->Option Ev
def VW (G:Cfg) (st:nU):mE:=λvs σ H Q=>∃μ ρ h ds ρ',Al G μ h H ρ σ/\RelDL G μ h H ds vs/\st ds ρ=some ρ'/\∀σ',Al G μ h H ρ' σ'->Q σ' H
def vX (X:Cx) (G:Cfg) (tg:List bq) (st:nU):Prop:=X.K=G.K->PGs X tg (VW G st)
def bP:nU:=λds ρ=>match ds with
 | []=>some ρ
 |_=>none
def aO (s:dQ) (t:nU):nU:=λds ρ=>match ds with
 |d::r=>match s d ρ with
  |some ρ1=>t r ρ1
  |none=>none
 | []=>none
theorem gA:vX X G [] bP:=λ_=>PGs.imp Q0 λvs σ H Q ⟨μ,ρ,h,ds,ρ',rs,r,e,k⟩=>by
 cases ds with
 |nil=>cases e;rw[RelDL]at r;subst r;exact⟨rfl,k _ rs⟩
 |cons d r=>cases e
theorem cZ {tg:bq}{tgs:List bq}{s:dQ}{t:nU}(h1:kF X G tg s) (h2:vX X G tgs t)
  (hs:(assignEach (tg::tgs) X.env).map (·.2)=assign tg X.env::(assignEach tgs X.env).map (·.2):=by rfl):vX X G (tg::tgs) (aO s t):=λhK=>PGs.imp (Q2 (h1 hK) (h2 hK) hs) λvs σ H Q ⟨μ,ρ,h,ds,ρ',rs,r,e,k⟩=>by
 cases ds with
 |nil=>cases e
 |cons d ds=>
  rw[RelDL]at r;obtain⟨v,rr,rfl,r1,r2⟩:=r;unfold aO at e;dsimp only at e
  cases q:s d ρ with
  |none=>rw[q]at e;cases e
  |some ρ1=>rw[q]at e;exact⟨v,rr,rfl,μ,ρ,h,d,ρ1,rs,r1,q,λσ1 As=>⟨μ,ρ1,h,ds,ρ',As,r2,e,k⟩⟩
def bN (n:Nat) (t:nU):dQ:=λd ρ=>match d with
 | .tup ds=>if ds.length=n then t ds ρ else none
 |_=>none
theorem gB {tgs:List bq}{k:Nat}{t:nU}{n:Nat}(hc:X.calm=true) (h:vX X G tgs t)
  (hn:(assignEach tgs X.env).length=n:=by rfl) (hst:(assignEach tgs X.env).findIdx? (·.1)=none:=by rfl):kF X G (.Tuple tgs k pos) (bN n t):=λhK=>
 PG.imp (Q4 hc (h hK) hn hst) λv σ H Q ⟨μ,ρ,hh,d,ρ',rs,r,e,kk⟩=>by
  cases d with
  |tup ds=>
   dsimp only[bN]at e
   split at e
   ·rename_i hl;obtain⟨a,vs,rfl,e1,r1⟩:=r;exact⟨a,vs,rfl,Aq.of e1,by rw[r1.length];exact hl,μ,ρ,hh,ds,ρ',rs,r1,e,kk⟩
   ·cases e
  |_=>cases e
def aM (me:M Dv) (st:dQ):MS:=λρ h=>(me ρ h).thenS λd h1=>match st d ρ with
 |some ρ1=>.nx ρ1 h1
 |none=>.bad
theorem VX {st:dQ}{σ:St}{H:Hp}{D:Ends}(t:AW G E (aM me st) D σ H):vE (hX G E me) (sR G st) D σ H:=by
 obtain⟨μ,ρ,h,rs,s,o⟩:=t;refine nS rs s o λμ1 d h1 v H1 x1 As s1 r1 o1=>?_
 cases q:st d ρ with
 |none=>rw[q]at o1;exact o1.elim
 |some ρ1=>rw[q]at o1;exact⟨μ1,ρ,h1.length,d,ρ1,As,r1,q,λσ' rs'=>o1 μ1 H1 σ' Ext.refl s1 rs'⟩
theorem sT {tg:bq}{st:dQ}(he:aK X G E e me) (hg:kF X G tg st) (hs:swapsWithSole [tg] e pos.line X.env=pure false:=by rfl) (hw:swappedStores [tg] e X.env=pure none:=by rfl)
  (h1:(assignEach [tg] X.env).map (·.2)=[assign tg X.env]:=by rfl):iI X G E (.Assign [tg] e pos) (aM me st):=λhK=>PS.imp (FQ (he hK) (hg hK) hs hw h1) λ_ _ _ t=>VX t
theorem VY {i:Nat}{x:Str}{pos':Pos}(hN:X.N.Nodup) (hi:X.N[i]?=some x) (hx:nJ X.env.scope x) (he:aK X G E e me) (hs:swapsWith e (some (.Name x pos')) pos.line X.env=pure false:=by rfl) (hf:X.fn x=true∨X.env.scope.names.lookup x=some .local:=by first|exact .inl rfl|exact .inr rfl|assumption):
  iI X G E (.Assign [.Name x pos'] e pos) (aM me (aF i)):=λhK=>PS.imp (Q7 hN hi hx (he hK) hs hf) λD σ H t=>by
 obtain⟨μ,ρ,h,rs,s,o⟩:=t;exact nS rs s o λμ1 d h1 v H1 x1 As s1 r1 o1=>o1 μ1 H1 _ Ext.refl s1 (As.set i r1)
end
structure Src where
 n:Nat
 get:Nat->Hs->zv
 fin:Hs->Bool
def By (G:Cfg) (μ0:Nat->ah) (n0:Nat) (H0:Hp) (src:Src) (J:It):Prop:=
 ∀(k:Nat) (μ:Nat->ah) (h:Hs) (H:Hp),Ext μ0 n0 H0 μ h.length H->Ao G μ h H->
  (k<src.n->∀d,src.get k h=some d->J.go k H/\∀x H',J.yld k H x H'->Bx H H'/\Ac G μ h.length H' d x)/\(k=src.n->src.fin h=true->J.stop k H)
def AX (G:Cfg) (E:XK) (m:M Src):TI:=λσ H R=>∃μ ρ h,Al G μ h.length H ρ σ/\Ao G μ h H/\Out G E μ h.length H (m ρ h) (By G) R
def kG (X:Cx) (G:Cfg) (E:XK) (tg iter:bq) (m:M Src):Prop:=X.K=G.K->PI X tg iter (AX G E m)
theorem PI.imp {X:Cx}{tg iter:bq}{t t':TI}(h:PI X tg iter t) (i:∀σ H R,t' σ H R->t σ H R):PI X tg iter t':=λpins s σ H R I q=>h pins s σ H R I (i σ H R q)
def dD (xs:zu):Src:=⟨xs.length,λk _=>xs[k]?,λ_=>true⟩
def cO (i n:Nat):Src:=⟨n,λk h=>match getL h i with
 |some xs=>if xs.length=n then xs[k]? else none
 |none=>none,λh=>match getL h i with
 |some xs=>xs.length==n
 |none=>false⟩
def dC (lo hi:Int):Src:=⟨(hi - lo).toNat,λk _=>some (.int (lo+k)),λ_=>true⟩
def aW (f:Dv->Hs->Rs Src) (m:M Dv):M Src:=λρ h=>(m ρ h).bind f
section
variable{X:Cx}{G:Cfg}{E:XK}{tg e a b:bq}{me ma mb:M Dv}{pos p:Pos}
def bY:Dv->Hs->Rs Src
 | .ref i,h=>match getL h i with
  |some xs=>.ok (cO i xs.length) h
  |none=>.bad
 |_,_=>.bad
def dF:Dv->Hs->Rs Src
 | .tup xs,h=>.ok (dD xs) h
 |_,_=>.bad
theorem kZ (he:aK X G E e me):kG X G E tg e (aW bY me):=λhK=>PI.imp (RI (he hK)) λσ H R ⟨μ,ρ,h,rs,s,o⟩=>eO rs s o λμ1 x h1 vx H1 x1 As s1 r1 o1=>by
 rw[hK]
 cases x with
 |ref i=>
  obtain⟨hi,rfl⟩:=r1;dsimp only[bY]at o1
  cases g:getL h1 i with
  |none=>rw[g]at o1;exact o1.elim
  |some xs=>
   rw[g]at o1;obtain⟨vs,e1,r2⟩:=s1.ob i _ (dP g);refine⟨_,rfl,⟨vs,Bd.of e1⟩,o1.val s1 λk μ2 h2 H2 x2 s2=>?_⟩;have emu:=x2.mu i hi;constructor
   ·intro hk d hd;dsimp only[cO]at hd
    cases g2:getL h2 i with
    |none=>rw[g2]at hd;cases hd
    |some ys=>
     rw[g2]at hd;dsimp only at hd
     split at hd
     ·obtain⟨ws,e2,r3⟩:=s2.ob i _ (dP g2);rw[emu]at e2;obtain⟨v,ev,rv⟩:=r3.get hd;refine⟨⟨ws,v,Bd.of e2,ev⟩,λx H' hy=>?_⟩;obtain⟨rfl,hy⟩:=hy;have:=hy ws (Bd.of e2);rw[ev]at this;cases this;exact⟨Bx.refl _,rv⟩
     ·cases hd
   ·intro hk hf;dsimp only[cO]at hf
    cases g2:getL h2 i with
    |none=>rw[g2]at hf;cases hf
    |some ys=>
     rw[g2]at hf;obtain⟨ws,e2,r3⟩:=s2.ob i _ (dP g2);rw[emu]at e2;refine⟨ws,Bd.of e2, ?_⟩;have h3:ys.length=xs.length:=by simpa using hf
     rw[r3.length,h3,hk];exact ak _
 |_=>exact o1.elim
theorem By.tup {μ:Nat->ah}{n:Nat}{H:Hp}{a:ah}{vs:List V}{xs:zu}{K:aq}(e:H a=some (.tup vs)) (r:RelDL G μ n H xs vs) (hi:∀(X:Cx),True):By G μ n H (dD xs) (zR K a):=by
 intro k μ2 h2 H2 x2 s2;have e2:=x2.im a (.tup vs) trivial e;have r2:=RelDL.mono x2 _ _ r;have inj:∀ws,Aq K H2 a ws->ws=vs->True:=λ_ _ _=>trivial;constructor
 ·intro hk d hd;obtain⟨v,ev,rv⟩:=r2.get hd;refine⟨⟨vs,v,Aq.of e2,ev⟩,λx H' hy=>?_⟩;obtain⟨rfl,hy⟩:=hy;have:=hy vs (Aq.of e2);rw[ev]at this;cases this;exact⟨Bx.refl _,rv⟩
 ·intro hk _;exact⟨vs,Aq.of e2,by rw[r2.length,hk];exact ak _⟩
theorem kH (he:aK X G E e me):kG X G E tg e (aW dF me):=λhK=>PI.imp (RJ (he hK)) λσ H R ⟨μ,ρ,h,rs,s,o⟩=>eO rs s o λμ1 x h1 vx H1 x1 As s1 r1 o1=>by
 cases x with
 |tup xs=>obtain⟨a,vs,rfl,e1,r2⟩:=r1;exact⟨a,rfl,⟨vs,Aq.of e1⟩,o1.val s1 (By.tup e1 r2 λ_=>trivial)⟩
 |_=>exact o1.elim
def gY (i:Int):Bool:=decide (-4611686018427387904<=i)&&decide (i<4611686018427387904)
def cP:zu->Hs->Rs Src
 | [.int j],h=>if gY j=true then .ok (dC 0 j) h else .bad
 |_,_=>.bad
def hY:zu->Hs->Rs Src
 | [.int i,.int j],h=>if gY i=true/\gY j=true then .ok (dC i j) h else .bad
 |_,_=>.bad
def aQ (f:zu->Hs->Rs Src) (ms:M zu ):M Src:=λρ h=>(ms ρ h).bind f
theorem By.rng {μ:Nat->ah}{n:Nat}{H:Hp}(lo hi:Int):By G μ n H (dC lo hi) (rZ lo (hi - lo).toNat):=by
 intro k μ2 h2 H2 x2 s2;constructor
 ·intro hk d hd;cases hd;exact⟨hk,λx H' hy=>by obtain⟨rfl,rfl⟩:=hy;exact⟨Bx.refl _,rfl⟩⟩
 ·intro hk _;exact sh hk.symm
variable{ms:M zu }
theorem mJ (hg:Gl X "range") (hm:X.mg "range" = none) (ha:dR X G E [a] ms) (hs:ar [a] X.env=[(false,eval a X.env)]:=by rfl):kG X G E tg (.Call (.Name "range" p) [a] [] pos) (aQ cP ms):=λhK=>
 PI.imp (RN hg hm (ha hK) hs) λσ H R ⟨μ,ρ,h,rs,s,o⟩=>kC rs s o λμ1 ds h1 vs H1 x1 As s1 r1 o1=>by
  unfold cP at o1
  split at o1
  ·rename_i j
   split at o1
   ·rename_i hj;obtain⟨v,rfl,rv⟩:=qL r1;rw[Ac]at rv;subst rv;simp only[gY,cw,decide_eq_true_eq]at hj;refine⟨j,rfl,by omega,by omega, ?_⟩;have:=o1.val s1 (By.rng (G:=G) (μ:=μ1) (n:=h1.length) (H:=H1) 0 j);rw[Int.sub_zero]at this;exact this
   ·exact o1.elim
  ·exact o1.elim
theorem AY (hg:Gl X "range") (hm:X.mg "range" = none) (ha:dR X G E [a,b] ms) (hs:ar [a,b] X.env=[(false,eval a X.env),(false,eval b X.env)]:=by rfl) (hs2:ar [b] X.env=[(false,eval b X.env)]:=by rfl):kG X G E tg (.Call (.Name "range" p) [a,b] [] pos) (aQ hY ms):=λhK=>
 PI.imp (RO hg hm (ha hK) hs hs2) λσ H R ⟨μ,ρ,h,rs,s,o⟩=>kC rs s o λμ1 ds h1 vs H1 x1 As s1 r1 o1=>by
  unfold hY at o1
  split at o1
  ·rename_i i j
   split at o1
   ·rename_i hj;obtain⟨v,v',rfl,rv,rv'⟩:=AU r1;rw[Ac]at rv rv';subst rv;subst rv';simp only[gY,cw,decide_eq_true_eq]at hj;exact⟨i,j,rfl,⟨by omega,by omega,by omega,by omega⟩,o1.val s1 (By.rng (G:=G) (μ:=μ1) (n:=h1.length) (H:=H1) i j)⟩
   ·exact o1.elim
  ·exact o1.elim
end
def hZ (src:Src) (st:dQ) (body:MS):Nat->Nat->MS
 |0,_=>λρ h=>if src.fin h=true then .nx ρ h else .bad
 |f+1,k=>λρ h=>match src.get k h with
  |none=>.bad
  |some d=>match st d ρ with
   |none=>.bad
   |some ρ1=>match body ρ1 h with
    | .nx ρ2 h2=>hZ src st body f (k+1) ρ2 h2
    | .ct ρ2 h2=>hZ src st body f (k+1) ρ2 h2
    | .bk ρ2 h2=>.nx ρ2 h2
    |r=>r
def gC (mi:M Src) (st:dQ) (body:MS):MS:=λρ h=>(mi ρ h).thenS λsrc h1=>hZ src st body src.n 0 ρ h1
section
variable{X:Cx}{G:Cfg}{E:XK}{tg iter:bq}{body:List gf}{mi:M Src}{st:dQ}{mb:MS}{pos:Pos}
theorem qO (hp:xk (model X.prog X.w) X.A X.env X.xe) (hc:X.calm=true) (hi:kG X G E tg iter mi) (hg:kF X G tg st) (hb:kY X G E body mb)
  (hs:∀x,foldedSetIterable iter X.env x=pure x:=by intro _;rfl):iI X G E (.For tg iter body [] pos) (gC mi st mb):=λhK=>PS.imp (RQ hp hc (hi hK) (hg hK) (hb hK) hs) λD σ H ⟨μ,ρ,h,rs,s,o⟩=>by
 refine⟨μ,ρ,h,rs,s,(o.thenS (R:=By G)).mono λJ H1 ⟨μ1,src,h1,x1,s1,ok,o1⟩=>?_⟩;refine⟨λi m σ H=>∃μ2 ρ2 h2,Ext μ1 h1.length H1 μ2 h2.length H/\Al G μ2 h2.length H ρ2 σ/\Ao G μ2 h2 H/\i+m=src.n/\Bc G E μ2 h2.length H (hZ src st mb m i ρ2 h2) D,⟨src.n,μ1,ρ,h1,Ext.refl,rs.mono x1,s1,Nat.zero_add _,o1⟩, ?_⟩
 rintro i m σ2 H2 ⟨μ2,ρ2,h2,x2,Cp,s2,him,o2⟩
 cases m with
 |zero=>
  unfold hZ at o2
  split at o2
  ·rename_i hf;exact .inl ⟨(ok i μ2 h2 H2 x2 s2).2 (by omega) hf,o2 μ2 H2 σ2 Ext.refl s2 Cp⟩
  ·exact o2.elim
 |succ m=>
  unfold hZ at o2
  cases q:src.get i h2 with
  |none=>rw[q]at o2;exact o2.elim
  |some d=>
   rw[q]at o2;dsimp only at o2
   cases q2:st d ρ2 with
   |none=>rw[q2]at o2;exact o2.elim
   |some ρ3=>
    rw[q2]at o2;dsimp only at o2;obtain⟨go,yl⟩:=(ok i μ2 h2 H2 x2 s2).1 (by omega) d q;refine .inr ⟨go,λσ' H'=>∃μ3 ρ4 h4,Ext μ1 h1.length H1 μ3 h4.length H'/\Al G μ3 h4.length H' ρ4 σ'/\Ao G μ3 h4 H'/\(i+1)+m=src.n/\Bc G E μ3 h4.length H' (hZ src st mb m (i+1) ρ4 h4) D,λσ' H' z=>⟨m,jl m,z⟩,λx H' hy=>?_⟩;obtain⟨sm,rx⟩:=yl x H' hy;have xs:Ext μ2 h2.length H2 μ2 h2.length H':=Ext.same sm;refine⟨μ2,ρ2,h2.length,d,ρ3,Cp.mono xs,rx,q2,λσ3 rs3=>⟨μ2,ρ3,h2,rs3,s2.same sm, ?_⟩⟩;have step:∀ρ5 h5,Bc G E μ2 h2.length H2 (hZ src st mb m (i+1) ρ5 h5) D->∀μ6 H6 σ6,Ext μ2 h2.length H' μ6 h5.length H6->Ao G μ6 h5 H6->Al G μ6 h5.length H6 ρ5 σ6->
      ∃μ3 ρ4 h4,Ext μ1 h1.length H1 μ3 h4.length H6/\Al G μ3 h4.length H6 ρ4 σ6/\Ao G μ3 h4 H6/\(i+1)+m=src.n/\Bc G E μ3 h4.length H6 (hZ src st mb m (i+1) ρ4 h4) D:=
     λρ5 h5 o5 μ6 H6 σ6 x6 s6 rs6=>⟨μ6,ρ5,h5,(x2.trans xs).trans x6,rs6,s6,by omega,o5.ext (xs.trans x6)⟩
    cases q3:mb ρ3 h2 with
    |nx ρ5 h5=>rw[q3]at o2;exact step ρ5 h5 o2
    |ct ρ5 h5=>rw[q3]at o2;exact step ρ5 h5 o2
    |bk ρ5 h5=>rw[q3]at o2;exact λμ6 H6 σ6 x6 s6 rs6=>o2 μ6 H6 σ6 (xs.trans x6) s6 rs6
    |rt d5 h5=>rw[q3]at o2;exact λμ6 H6 σ6 x6 s6 rs6=>o2 μ6 H6 σ6 (xs.trans x6) s6 rs6
    |ex d5 h5=>rw[q3]at o2;exact λμ6 H6 σ6 x6 s6 rs6=>o2 μ6 H6 σ6 (xs.trans x6) s6 rs6
    |bad=>rw[q3]at o2;exact o2.elim
end
abbrev MC:=Ev->Hs->zu->Rs (Ev×zu)
def aU (me:M Dv):MC:=λρ h acc=>match me ρ h with
 | .ok d h1=>if acc.length<1000000 then .ok (ρ,acc++[d]) h1 else .bad
 |_=>.bad
def gK (src:Src) (st:dQ) (test:M Bool) (inner:MC):Nat->Nat->MC
 |0,_=>λρ h acc=>if src.fin h=true then .ok (ρ,acc) h else .bad
 |f+1,k=>λρ h acc=>match src.get k h with
  |none=>.bad
  |some d=>match st d ρ with
   |none=>.bad
   |some ρ1=>match test ρ1 h with
    | .ok true h2=>match inner ρ1 h2 acc with
     | .ok r h3=>gK src st test inner f (k+1) r.1 h3 r.2
     |_=>.bad
    | .ok false h2=>gK src st test inner f (k+1) ρ1 h2 acc
    |_=>.bad
def fR (mi:M Src) (st:dQ) (test:M Bool) (inner:MC):MC:=λρ h acc=>match mi ρ h with
 | .ok src h1=>gK src st test inner src.n 0 ρ h1 acc
 |_=>.bad
def bR:M Bool:=λ_ h=>.ok true h
def jO (cap:List (Option Nat)) (ρ:Ev):Ev:=cap.map λo=>match o with
 |some j=>(ρ[j]?).getD none
 |none=>none
def aX (mi:M Src) (cap:List (Option Nat)) (st:dQ) (test:M Bool) (inner:MC):M zu :=λρ h=>(mi ρ h).bind λsrc h1=>match gK src st test inner src.n 0 (jO cap ρ) h1 []with
 | .ok r h2=>.ok r.2 h2
 |_=>.bad
def sU (G:Cfg) (m:MC):TC:=λσ H vs K=>∃μ ρ h xs ρ' xs' h',Al G μ h.length H ρ σ/\Ao G μ h H/\RelDL G μ h.length H xs vs/\m ρ h xs=.ok (ρ',xs') h' /\
 ∀μ' H' σ' Bp,Ext μ h.length H μ' h'.length H'->Ao G μ' h' H'->Al G μ' h'.length H' ρ' σ'->RelDL G μ' h'.length H' xs' Bp->K σ' H' Bp
section
variable{G:Cfg}
theorem VZ {μ:Nat->ah}{n:Nat}{H:Hp}{ρ:Ev}{σ:St}(rs:Al G μ n H ρ σ) (cap:List (Option Nat)):Al G μ n H (jO cap ρ) (qC cap σ):=⟨by simp[jO,qC],λi d e=>by
 unfold jO at e;rw[fw]at e
 cases q:cap[i]? with
 |none=>rw[q]at e;cases e
 |some o=>
  rw[q]at e
  cases o with
  |none=>cases e
  |some j=>
   have e':(ρ[j]?).getD none=some d:=by simpa using e
   have e2:ρ[j]?=some (some d):=by
    cases z:ρ[j]? with
    |none=>rw[z]at e';cases e'
    |some y=>rw[z]at e';simp at e';rw[e']
   obtain⟨v,e3,r⟩:=rs.at_ j d e2;refine⟨v, ?_,r⟩;unfold qC;rw[fw,q];simp[e3]⟩
theorem AZ {E:XK}{me:M Dv}{σ:St}{H:Hp}{vs:List V}{K:St->Hp->List V->Prop}(t:sU G (aU me) σ H vs K):GZ (hX G E me) σ H vs K:=by
 obtain⟨μ,ρ,h,xs,ρ',xs',h',rs,s,r,e,k⟩:=t;refine⟨μ,ρ,h,rs,s, ?_⟩;unfold aU at e
 cases q:me ρ h with
 |bad=>rw[q]at e;cases e
 |ex c h1=>rw[q]at e;cases e
 |ok d h1=>
  rw[q]at e;dsimp only at e
  split at e
  ·rename_i hl;cases e;intro μ1 H1 v x1 s1 r1;refine⟨?_,k μ1 H1 σ _ x1 s1 (rs.mono x1) ((RelDL.mono x1 _ _ r).append (RelDL.cons r1 RelDL.nil))⟩;rw[r.length];exact bc hl (by decide)
  ·cases e
theorem HX {E:XK}{src:Src}{st:dQ}{test:M Bool}{inner:MC}{J:It}{μ1:Nat->ah}{h1:Hs}{H1:Hp}{ρ ρ':Ev}{σ:St}{xs xs':zu}{vs:List V}{h':Hs}{K:St->Hp->List V->Prop}
  (ok:By G μ1 h1.length H1 src J) (rs:Al G μ1 h1.length H1 ρ σ) (s1:Ao G μ1 h1 H1) (r:RelDL G μ1 h1.length H1 xs vs) (e:gK src st test inner src.n 0 ρ h1 xs=.ok (ρ',xs') h')
  (k:∀μ' H' σ' Bp,Ext μ1 h1.length H1 μ' h'.length H'->Ao G μ' h' H'->Al G μ' h'.length H' ρ' σ'->RelDL G μ' h'.length H' xs' Bp->K σ' H' Bp):
  sH J (sR G st) (iF G E test) (sU G inner) K σ H1 vs:=by
 refine⟨λi m σ H vs=>∃μ2 ρ2 h2 xs2,Ext μ1 h1.length H1 μ2 h2.length H/\Al G μ2 h2.length H ρ2 σ/\Ao G μ2 h2 H/\RelDL G μ2 h2.length H xs2 vs/\i+m=src.n/\gK src st test inner m i ρ2 h2 xs2=.ok (ρ',xs') h',⟨src.n,μ1,ρ,h1,xs,Ext.refl,rs,s1,r,Nat.zero_add _,e⟩, ?_⟩
 rintro i m σ2 H2 vs2 ⟨μ2,ρ2,h2,xs2,x2,Cp,s2,r2,him,e2⟩
 cases m with
 |zero=>
  unfold gK at e2
  split at e2
  ·rename_i hf;cases e2;exact .inl ⟨(ok i μ2 _ H2 x2 s2).2 (by omega) hf,k μ2 H2 σ2 vs2 x2 s2 Cp r2⟩
  ·cases e2
 |succ m=>
  unfold gK at e2
  cases q:src.get i h2 with
  |none=>rw[q]at e2;cases e2
  |some d=>
   rw[q]at e2;dsimp only at e2
   cases q2:st d ρ2 with
   |none=>rw[q2]at e2;cases e2
   |some ρ3=>
    rw[q2]at e2;dsimp only at e2;obtain⟨go,yl⟩:=(ok i μ2 h2 H2 x2 s2).1 (by omega) d q;refine .inr ⟨go,λσ' H' Bp=>∃μ3 ρ4 h4 xs4,Ext μ1 h1.length H1 μ3 h4.length H'/\Al G μ3 h4.length H' ρ4 σ'/\Ao G μ3 h4 H'/\RelDL G μ3 h4.length H' xs4 Bp/\(i+1)+m=src.n/\gK src st test inner m (i+1) ρ4 h4 xs4=.ok (ρ',xs') h',
     λσ' H' Bp z=>⟨m,jl m,z⟩,λx H' hy=>?_⟩
    obtain⟨sm,rx⟩:=yl x H' hy;have xsm:Ext μ2 h2.length H2 μ2 h2.length H':=Ext.same sm;refine⟨μ2,ρ2,h2.length,d,ρ3,Cp.mono xsm,rx,q2,λσ3 rs3=>⟨μ2,ρ3,h2,rs3,s2.same sm, ?_⟩⟩
    cases q3:test ρ3 h2 with
    |bad=>rw[q3]at e2;cases e2
    |ex c h3=>rw[q3]at e2;cases e2
    |ok b h3=>
     rw[q3]at e2;intro μ4 H4 b' x4 s4 rb;have eb:b'=b:=rb;subst eb
     cases b' with
     |false=>rw[if_neg (by decide)];exact⟨μ4,ρ3,h3,xs2,(x2.trans xsm).trans x4,rs3.mono x4,s4,RelDL.mono (xsm.trans x4) _ _ r2,by omega,e2⟩
     |true=>
      rw[if_pos rfl];dsimp only at e2
      cases q4:inner ρ3 h3 xs2 with
      |bad=>rw[q4]at e2;cases e2
      |ex c h5=>rw[q4]at e2;cases e2
      |ok rr h5=>rw[q4]at e2;obtain⟨ρ5,xs5⟩:=rr;exact⟨μ4,ρ3,h3,xs2,ρ5,xs5,h5,rs3.mono x4,s4,RelDL.mono (xsm.trans x4) _ _ r2,q4,λμ6 H6 σ6 vs6 x6 s6 rs6 r6=>⟨μ6,ρ5,h5,xs5,((x2.trans xsm).trans x4).trans x6,rs6,s6,r6,by omega,e2⟩⟩
theorem HY {E:XK}{mi:M Src}{st:dQ}{test:M Bool}{inner:MC}{σ:St}{H:Hp}{vs:List V}{K:St->Hp->List V->Prop}(t:sU G (fR mi st test inner) σ H vs K):G5 (AX G E mi) (sR G st) (iF G E test) (sU G inner) σ H vs K:=by
 obtain⟨μ,ρ,h,xs,ρ',xs',h',rs,s,r,e,k⟩:=t;refine⟨μ,ρ,h,rs,s, ?_⟩;unfold fR at e
 cases q:mi ρ h with
 |bad=>rw[q]at e;cases e
 |ex c h1=>rw[q]at e;cases e
 |ok src h1=>rw[q]at e;exact λμ1 H1 J x1 s1 ok=>HX ok (rs.mono x1) s1 (RelDL.mono x1 _ _ r) e λμ2 H2 σ2 vs2 x2=>k μ2 H2 σ2 vs2 (x1.trans x2)
def RL (G:Cfg):(Nat->ah)->Nat->Hp->zu->V->Prop:=λμ n H xs v=>∃p vs,v=.ref p/\H p=some (.lst vs)/\(∀i,i<n->μ i≠p)/\RelDL G μ n H xs vs
def vY (G:Cfg) (E:XK) (m:M zu ):TE:=λσ H Q=>∃μ ρ h,Al G μ h.length H ρ σ/\Ao G μ h H/\Out G E μ h.length H (m ρ h) (RL G) Q
def mK (X:Cx) (G:Cfg) (E:XK) (pe:bq) (m:M zu ):Prop:=X.K=G.K->PE X pe (vY G E m)
theorem Ao.adopt {μ:Nat->ah}{h:Hs}{H:Hp}{p:ah}{ds:zu}{vs:List V}(s:Ao G μ h H) (e:H p=some (.lst vs)) (hq:∀i,i<h.length->μ i≠p) (r:RelDL G μ h.length H ds vs):
  Ext μ h.length H (λi=>if i=h.length then p else μ i) (h++[Ob.lst ds]).length H/\Ao G (λi=>if i=h.length then p else μ i) (h++[.lst ds]) H:=by
 have hl:(h++[Ob.lst ds]).length=h.length+1:=by simp
 have x:Ext μ h.length H (λi=>if i=h.length then p else μ i) (h++[Ob.lst ds]).length H:=⟨by omega,λi hi=>if_neg (bf hi),λa o _ e=>e⟩
 refine⟨x,λi j hi hj e=>?_,λi o q=>?_,s.tab⟩
 ·rw[hl]at hi hj
  by_cases h1:i=h.length <;> by_cases h2:j=h.length
  ·omega
  ·rw[if_pos h1,if_neg h2]at e;exact absurd e.symm (hq j (by omega))
  ·rw[if_neg h1,if_pos h2]at e;exact absurd e (hq i (by omega))
  ·rw[if_neg h1,if_neg h2]at e;exact s.inj i j (by omega) (by omega) e
 ·by_cases h1:i<h.length
  ·rw[fo h1]at q;have r1:=s.ob i o q
   cases o with
   |lst xs=>obtain⟨ws,e1,r2⟩:=r1;exact⟨ws,by rw[if_neg (bf h1)];exact e1,RelDL.mono x _ _ r2⟩
   |clo k t=>rw[if_neg (bf h1)];exact r1.clo x
  ·rw[ig (by omega)]at q;have h2:i=h.length:=by have:=(bg.mp q).1;simp at this;omega
   subst h2;simp at q;subst q;exact⟨vs,by rw[if_pos rfl];exact e,RelDL.mono x _ _ r⟩
def bH (m:M zu ):M Dv:=λρ h=>(m ρ h).bind λxs h1=>.ok (.ref h1.length) (h1++[.lst xs])
theorem HZ {E:XK}{m:M zu }{σ:St}{H:Hp}{Q:VK}(t:hX G E (bH m) σ H Q):vY G E m σ H Q:=by obtain⟨μ,ρ,h,rs,s,o⟩:=t;refine⟨μ,ρ,h,rs,s,(o.bind (R1:=RL G)).mono λv H1 ⟨μ1,xs,h1,x1,s1,⟨p,vs,ev,e1,hq,r1⟩,o1⟩=>?_⟩;subst ev;obtain⟨x2,s2⟩:=s1.adopt e1 hq r1;exact o1 _ _ _ x2 s2 ⟨by simp,by show V.ref p=V.ref (if h1.length=h1.length then p else μ1 h1.length);rw[if_pos rfl]⟩
theorem jF {X:Cx}{E:XK}{pe:bq}{m:M zu }(h:mK X G E pe m):aK X G E pe (bH m):=λhK=>PE.imp (h hK) λ_ _ _ t=>HZ t
theorem A0 {E E':XK}{mi:M Src}{cap:List (Option Nat)}{st:dQ}{test:M Bool}{inner:MC}{σ:St}{H:Hp}{Q:VK}(t:vY G E (aX mi cap st test inner) σ H Q):AH (AX G E mi) cap (sR G st) (iF G E' test) (sU G inner) σ H Q:=by
 obtain⟨μ,ρ,h,rs,s,o⟩:=t;refine⟨μ,ρ,h,rs,s,(o.bind (R1:=By G)).mono λJ H1 ⟨μ1,src,h1,x1,s1,ok,o1⟩=>?_⟩
 cases q:gK src st test inner src.n 0 (jO cap ρ) h1 []with
 |bad=>rw[q]at o1;exact o1.elim
 |ex c h2=>rw[q]at o1;exact o1.elim
 |ok r h2=>rw[q]at o1;obtain⟨ρ',xs'⟩:=r;refine HX ok (VZ (rs.mono x1) cap) s1 RelDL.nil q λμ2 H2 σ2 vs2 x2 s2 Cp r2 p hp=>?_;exact o1 μ2 _ _ (x2.trans (Ext.same (dG hp))) (s2.same (dG hp)) ⟨p,vs2,rfl,eG,s2.not hp,RelDL.mono (Ext.same (dG hp)) _ _ r2⟩
end
section
variable{X:Cx}{G:Cfg}{E:XK}{elt tg iter Cd An:bq}{ifs A':List bq}{sc:ic}{ps pos:Pos}{mi mi':M Src}{st Cj:dQ}{test Cm:M Bool}{me:M Dv}{N:zr}{cap:List (Option Nat)}
def oS (X:Cx) (G:Cfg) (ifs:List bq) (m:M Bool):Prop:=X.K=G.K->PTs X ifs (iF G E0 m)
theorem PTs.imp {Y:Cx}{ifs:List bq}{t t':TT}(h:PTs Y ifs t) (i:∀σ H Q,t' σ H Q->t σ H Q):PTs Y ifs t':=λpins s σ H Q I q=>h pins s σ H Q I (i σ H Q q)
theorem gD {Y:Cx}:oS Y G [] bR:=λ_=>PTs.imp UM λσ H Q ⟨μ,ρ,h,rs,s,o⟩=>o.val s rfl
theorem mM {Y:Cx}{c:bq}{m:M Bool}(h:fZ Y G E0 c m):oS Y G [c] m:=λhK=>UN (h hK)
theorem Dj.imp {Y:Cx}{D:ah}{m:Sem Unit}{t t':TC}(h:Dj Y D m t) (i:∀σ H xs K,t' σ H xs K->t σ H xs K):Dj Y D m t':=λpins s σ H xs K I a f q=>h pins s σ H xs K I a f (i σ H xs K q)
theorem fV (hc:X.calm=true) (C:Bg X sc N cap) (hi:kG X G E tg iter mi) (hg:∀s H ex,kF (cY X sc N s H ex) G tg st) (Dd:∀s H ex,oS (cY X sc N s H ex) G ifs test) (hel:∀s H ex,aK (cY X sc N s H ex) G E0 elt me)
  (hs:∀x,foldedSetIterable iter X.env x=pure x:=by intro _;rfl):mK X G E (.ListComp elt [⟨tg,iter,ifs,0⟩] sc ps) (aX mi cap st test (aU me)):=λhK=>
 PE.imp (G8 hc C rfl (λit D env=>UO elt tg iter ifs sc ps (.ref it) D env) (hi hK) (λs H ex=>hg s H ex hK) (λs H ex=>Dd s H ex hK) (λs H ex D=>Dj.imp (AG (hel s H ex hK)) λ_ _ _ _ t=>AZ t) hs) λ_ _ _ t=>A0 t
theorem IA (hc:X.calm=true) (C:Bg X sc N cap) (hi:kG X G E tg iter mi) (hg:∀s H ex,kF (cY X sc N s H ex) G tg st) (Dd:∀s H ex,oS (cY X sc N s H ex) G ifs test)
  (hi':∀s H ex,kG (cY X sc N s H ex) G E0 Cd An mi') (hg':∀s H ex,kF (cY X sc N s H ex) G Cd Cj) (htt':∀s H ex,oS (cY X sc N s H ex) G A' Cm) (hel:∀s H ex,aK (cY X sc N s H ex) G E0 elt me)
  (hs:∀x,foldedSetIterable iter X.env x=pure x:=by intro _;rfl) (hs':∀s H ex x,foldedSetIterable An (cY X sc N s H ex).env x=pure x:=by intro _ _ _ _;rfl):
  mK X G E (.ListComp elt [⟨tg,iter,ifs,0⟩,⟨Cd,An,A',0⟩] sc ps) (aX mi cap st test (fR mi' Cj Cm (aU me))):=λhK=>
 PE.imp (G8 hc C rfl (inner:=λD env=>qD An (.ListComp elt [⟨tg,iter,ifs,0⟩,⟨Cd,An,A',0⟩] sc ps) 1 D env) (λit D env=>G2 elt tg iter Cd An ifs A' sc ps (.ref it) D env) (hi hK) (λs H ex=>hg s H ex hK) (λs H ex=>Dd s H ex hK)
  (λs H ex D=>Dj.imp (G6 (X:=cY X sc N s H ex) (D:=D) (gens:=[⟨tg,iter,ifs,0⟩,⟨Cd,An,A',0⟩]) (d:=1) rfl hc rfl (λit=>G3 elt tg iter Cd An ifs A' sc ps (.ref it) D _) (hi' s H ex hK) (hg' s H ex hK) (htt' s H ex hK) (Dj.imp (AG (hel s H ex hK)) λ_ _ _ _ t=>AZ t) (hs' s H ex)) λ_ _ _ _ t=>HY t) hs) λ_ _ _ t=>A0 t
end
def gZ (T:ah) (h:da):Prop:=∃oT ts,h.get? T=some oT/\oT.data=.fields ts/\ts[3]?=some .none
structure Chg (fs:List ah) (e T:ah) (h h':da):Prop where
 new:h.objs.size<=T
 keep:∀b o,b≠e->b∉fs->h.get? b=some o->h'.get? b=some o
 slot:∀b o,b≠e->h.get? b=some o->∃sl,h'.get? b=some { o with slots:=sl }
 tb:gZ T h'
theorem V0 (f:Array af->Array af) (o:Obj):(Obj.mapFields f o).dict=o.dict:=by
 unfold Obj.mapFields
 split <;> rfl
section
variable{M:wm}{A:cn}{E:af->ag->Prop}{s:ag}
theorem A1 {a:ah}{o:Obj}{vs:Array af}{i:Nat}{v:af}{Q:Unit->ag->Prop}(e:s.heap.get? a=some o) (hd:o.data=.fields vs) (hi:i<vs.size)
  (k:∀h' o',jc a s.heap h'->h'.get? a=some o'->o'.cls=o.cls->o'.dict=o.dict->o'.data=.fields (vs.setIfInBounds i v)->Q () { s with heap:=h' }):wpAny M A (setField (.ref a) i v) Q E s:=
 have d':=um hd (·.setIfInBounds i v)
 yo e hd hi (k _ _ (nr ..) (jn _ e (yy d')) (Obj.cls_mapFields ..) (V0 ..) d')
theorem V1 {head v:af}{L:Int}{pl:List af}{Q:af->ag->Prop}(Bj:IsPlace pl) (k:∀ob ts,ob.data=.fields ts->3<ts.size->ob.isFreed=false->Q (.ref s.heap.objs.size) { s with heap:=s.heap.push ob }):
  wpAny M A (xn head v .none (rawInt L) .none pl) Q E s:=
 fg (k _ _ rfl (by simp only[au,bw,cy,oz];omega) rfl) (Bj.sizeOk5 ..)
theorem V2 {e T:ah}{oe oT:Obj}{vs ts:Array af}{Q:Unit->ag->Prop}(he:s.heap.get? e=some oe) (hd:oe.data=.fields vs) (h1:vs[1]?=some (.ref T)) (hT:s.heap.get? T=some oT) (hdT:oT.data=.fields ts) (hs:3<ts.size)
  (k:∀h',jc T s.heap h'->gZ T h'->Q () { s with heap:=h' }):wpAny M A (setFlight (.ref e) none) Q E s:=by
 refine ae (fq he hd h1 ?_);show wpAny M A (if(gq T != jk)=true then _ else _) Q E s;rw[if_pos (by simp)];exact A1 hT hdT hs λh' o' sb g _ _ d=>k h' sb ⟨o',_,g,d,by rw[jb hs];rfl⟩
theorem IB {base:da}{l:List Env}{a:ah}{o:Obj}{vs:Array af}(hl:s.heap.FunFrames base l) (e:s.heap.get? a=some o) (hd:o.data=.fields vs):a∉eQ l:=λhm=>by obtain⟨_,o',e',nf⟩:=hl.mem hm;rw[e]at e';cases e';exact nf vs hd
theorem IC {base:da}{env:Env}{outer:List Env}{L e:ah}{oe:Obj}{vs:Array af}{head a0:af}{nx:Bool}{Q:Unit->ag->Prop}(hfr:A.frames=some (env::outer)) (hl:s.heap.FunFrames base (env::outer)) (hf:env.frame=some L)
  (he:s.heap.get? e=some oe) (hd:oe.data=.fields vs) (hdn:oe.dict=none) (Bl:1<vs.size) (h0:vs[0]?=some a0)
  (k:∀h' T,Chg (eQ (env::outer)) e T s.heap h'->eM oe.cls e T a0 h'->Q () { s with heap:=h' }):
  wpAny M A (do let a <-frameOf env;let pl <-entryPlaceOf L nx;let b <-xn head a .none (rawInt L) .none pl;setField (.ref e) 1 b)
   (λ_ s'=>wpAny M A (setFlight (.ref e) none) Q E s') E s:=by
 have ne:=IB hl he hd;refine ae (wpAny_frameOf_fun hfr hl hf λg1 so=>ae (wpAny_entryPlaceOf λpl Bj=>ae (V1 Bj λob ts dt hts nf=>?_)));have e1:g1.get? e=some oe:=(so.2.1 e ne).trans he;have lt:e<g1.objs.size:=av e1;refine A1 (s:={ s with heap:=g1.push ob }) (aj _ e1) hd Bl λg2 oe2 sb2 ge c2 dn2 d2=>?_;have gT:g2.get? g1.objs.size=some ob:=sb2.extBut _ _ (jd lt) (az _ nf);refine V2 (s:={ s with heap:=g2 }) ge d2 (T:=g1.objs.size) (by rw[jb Bl]) gT dt hts λg3 sb3 tb=>?_;have kp:∀b o,b≠e->g1.get? b=some o->g3.get? b=some o:=λb o hb q=>sb3.extBut _ _ (bf (av q)) (sb2.extBut _ _ hb (aj _ q));refine k g3 g1.objs.size ⟨sh so.1.symm,λb o hb hn q=>kp b o hb ((so.2.1 b hn).trans q),λb o hb q=>?_,tb⟩ ⟨oe2,_,sb3.extBut _ _ (bf lt) ge,c2,d2, ?_, ?_,dn2.trans hdn⟩
 ·obtain⟨sl,q'⟩:=so.2.2 b o q;exact⟨sl,kp b _ hb q'⟩
 ·rw[Array.getElem?_setIfInBounds_ne (by decide)];exact h0
 ·rw[jb Bl]
theorem V3 {base:da}{env:Env}{outer:List Env}{L e:ah}{oe:Obj}{vs:Array af}{a0:af}{Q:Unit->ag->Prop}(hfr:A.frames=some (env::outer)) (hl:s.heap.FunFrames base (env::outer)) (hf:env.frame=some L)
  (he:s.heap.get? e=some oe) (hd:oe.data=.fields vs) (hdn:oe.dict=none) (h0:vs[0]?=some a0) (h1:vs[1]?=some .none)
  (k:∀h' T,Chg (eQ (env::outer)) e T s.heap h'->eM oe.cls e T a0 h'->Q () { s with heap:=h' }):
  wpAny M A (noteFrame (.ref e) env) (λ_ s'=>wpAny M A (setFlight (.ref e) none) Q E s') E s:=by
 unfold noteFrame;rw[hf];refine ae (fq he hd h1 ?_);exact IC hfr hl hf he hd hdn (dw.mp h1).1 h0 k
theorem V4 {base:da}{env:Env}{outer:List Env}{L e T:ah}{C a0:af}{Q:Unit->ag->Prop}(hfr:A.frames=some (env::outer)) (hl:s.heap.FunFrames base (env::outer)) (hf:env.frame=some L)
  (hx:eM C e T a0 s.heap) (ht:gZ T s.heap) (hne:T≠e)
  (k:∀h' T',s.heap.objs.size<=T'->(∀b o,b≠e->b≠T->b∉eQ (env::outer)->s.heap.get? b=some o->h'.get? b=some o)->(∀b o,b≠e->b≠T->s.heap.get? b=some o->∃sl,h'.get? b=some { o with slots:=sl })->
   eM C e T' a0 h'->gZ T h'->gZ T' h'->Q () { s with heap:=h' }):
  wpAny M A (noteFrame (.ref e) env) (λ_ s'=>wpAny M A (setFlight (.ref e) none) Q E s') E s:=by
 obtain⟨oe,vs,he,rfl,hd,h0,h1,hdn⟩:=hx;obtain⟨oT,ts,hT,hdT,h3⟩:=ht;have l3:3<ts.size:=(dw.mp h3).1;have nT:=IB hl hT hdT;unfold noteFrame;rw[hf];refine ae (fq he hd h1 ?_);rw[if_pos (by simp)];refine ae (fq hT hdT h3 ?_);rw[if_neg (by simp[rawInt])];refine ae (A1 hT hdT l3 λg o' sb gT _ _ dT=>?_);have hl':g.FunFrames base (env::outer):=hl.of_keeps λb o q nf=>⟨o,sb.extBut _ _ (λz=>by subst z;rw[hT]at q;cases q;exact nf ts hdT) q,rfl⟩
 refine IC (s:={ s with heap:=g }) hfr hl' hf (sb.extBut _ _ (dh hne) he) hd hdn (dw.mp h1).1 h0 λh' T' c x=>?_;refine k h' T' (by rw[<-sb.1];exact c.new) (λb o n1 n2 n3 q=>c.keep b o n1 n3 (sb.extBut _ _ n2 q)) (λb o n1 n2 q=>c.slot b o n1 (sb.extBut _ _ n2 q)) x ⟨_,_,c.keep T _ hne nT gT,dT, ?_⟩ c.tb;rw[jb l3]
end
theorem A2 {P:bh}{w:cp}{H:Hp}{h:da}{a:ah}{o:HO}(x:Ai P w H h a o):∃ob,h.get? a=some ob:=by
 cases o with
 |lst xs=>obtain⟨_,_,_,_,e⟩:=x;exact⟨_,e⟩
 |tup xs=>obtain⟨_,_,_,ob,e,_⟩:=x;exact⟨_,e⟩
 |dK kvs=>obtain⟨_,_,_,_,o,_,_,e,_⟩:=x;exact⟨_,e⟩
 |dT kvs=>obtain⟨_,_,_,_,o,_,_,e,_⟩:=x;exact⟨_,e⟩
 |set S n=>obtain⟨o,_,_,_,e,_⟩:=x;exact⟨_,e⟩
 |ins C dx fs=>obtain⟨_,_,_,e,_⟩:=x;exact⟨_,e⟩
 |own y=>exact x
 |xd fs=>obtain⟨_,⟨_,_,_,e,_⟩,_⟩:=x;exact⟨_,e⟩
 |rng lo hi=>obtain⟨_,_,_,e⟩:=x;exact⟨_,e⟩
 |frz ob u=>obtain⟨e,_⟩:=x;exact⟨_,e⟩
 |tbl ps=>exact⟨_,(show h.get? a=some _ from x)⟩
 |met f y=>exact⟨_,(show h.get? a=some _ from x)⟩
 |ext φ=>obtain⟨_,e,_⟩:=x;exact e
def vZ (base:da) (H:Hp) (C:af) (e:ah):Prop:=∃T a0,H e=some (.ext (eM C e T a0))/\H T=some (.ext (gZ T))/\base.get? e=none/\T≠e
def wB (e:ah) (H H':Hp):Prop:=∀b o,b≠e->H b=some o->H' b=some o
theorem V5 {C a0:af}{e T:ah}{h1 h2:da}(x:eM C e T a0 h1) (k:∀o,h1.get? e=some o->h2.get? e=some o):eM C e T a0 h2:=by obtain⟨oe,vs,he,r⟩:=x;exact⟨oe,vs,k oe he,r⟩
theorem V6 {T:ah}{h1 h2:da}(x:gZ T h1) (k:∀o,h1.get? T=some o->h2.get? T=some o):gZ T h2:=by obtain⟨oe,vs,he,r⟩:=x;exact⟨oe,vs,k oe he,r⟩
theorem ID {P:bh}{w:cp}{H:Hp}{h:da}{C a0:af}{e T:ah}(x:eM C e T a0 h):Ai P w H h e (.ext (eM C e T a0)):=⟨x,(let ⟨oe,_,he,_⟩:=x;⟨oe,he⟩),λ_ _ y k=>V5 y k⟩
theorem A3 {P:bh}{w:cp}{H:Hp}{h:da}{T:ah}(x:gZ T h):Ai P w H h T (.ext (gZ T)):=⟨x,(let ⟨oe,_,he,_⟩:=x;⟨oe,he⟩),λ_ _ y k=>V6 y k⟩
section
variable{P:bh}{w:cp}{M:wm}{A:cn}{E:af->ag->Prop}{s:ag}{H:Hp}{base:da}{env:Env}{outer:List Env}{L e:ah}{C:af}
theorem V7 {Q:Unit->ag->Prop}(hfr:A.frames=some (env::outer)) (hl:s.heap.FunFrames base (env::outer)) (hf:env.frame=some L) (hok:Bk P w H s.heap) (hfree:∀b∈eQ (env::outer),H b=none) (fl:vZ base H C e)
  (k:∀h' H',Un (eQ (env::outer)) [] H H' s.heap h'->Bk P w H' h'->vZ base H' C e->wB e H H'->Q () { s with heap:=h' }):
  wpAny M A (noteFrame (.ref e) env) (λ_ s'=>wpAny M A (setFlight (.ref e) none) Q E s') E s:=by
 obtain⟨T,a0,he,hT,hb,hne⟩:=fl;have xe:eM C e T a0 s.heap:=(show Ai P w H s.heap e _ from hok e _ he).1;have xt:gZ T s.heap:=(show Ai P w H s.heap T _ from hok T _ hT).1;refine V4 hfr hl hf xe xt hne λh' T' De keep slot x' t0 t'=>?_;have nT':H T'=none:=hok.fresh De;have eT':T'≠e:=(fG he nT').symm;have TT':T'≠T:=(fG hT nT').symm;have sx:wB e H (aZ (aZ H e (.ext (eM C e T' a0))) T' (.ext (gZ T'))):=λb o hbe q=>by rw[cF (fG q nT'),cF hbe];exact q
 have ee:aZ (aZ H e (.ext (eM C e T' a0))) T' (.ext (gZ T')) e=some (.ext (eM C e T' a0)):=by rw[cF (dh eT'),eG]
 refine k h' (aZ (aZ H e (.ext (eM C e T' a0))) T' (.ext (gZ T'))) ?_ ?_ ⟨T',a0,ee,eG,hb,eT'⟩ sx
 ·have free:∀b o,s.heap.get? b=some o->H b=none->aZ (aZ H e (.ext (eM C e T' a0))) T' (.ext (gZ T')) b=none:=λb o q n=>by have h1:b≠T':=bf (bc (av q) De);have h2:b≠e:=(fG he n).symm;rw[cF h1,cF h2];exact n
  refine⟨λb o q n hb _=>keep b o (fG he n).symm (fG hT n).symm hb q,λb o q n _ _=>slot b o (fG he n).symm (fG hT n).symm q,λb o q n _=>free b o q n,λb o q _=>?_,λb xs q=>?_,λb o u q=>?_,λb ps q=>?_⟩
  ·by_cases h1:b=e
   ·subst h1;obtain⟨oe,_,z,_⟩:=x';exact⟨oe,z⟩
   ·by_cases h2:b=T
    ·subst h2;obtain⟨oe,_,z,_⟩:=t0;exact⟨oe,z⟩
    ·obtain⟨sl,z⟩:=slot b o h1 h2 q;exact⟨_,z⟩
  ·exact sx b _ (nI q he (by intro z;cases z)) q
  ·exact sx b _ (nI q he (by intro z;cases z)) q
  ·exact⟨#[],by rw[sx b _ (nI q he (by intro z;cases z)) q];simp⟩
 ·intro a o q
  by_cases h1:a=T'
  ·subst h1;rw[eG]at q;cases q;exact A3 t'
  ·rw[cF h1]at q
   by_cases h2:a=e
   ·subst h2;rw[eG]at q;cases q;exact ID x'
   ·rw[cF h2]at q
    by_cases h3:a=T
    ·subst h3;rw[hT]at q;cases q;exact A3 t0
    ·have nf:a∉eQ (env::outer):=λz=>by rw[hfree a z]at q;cases q
     refine(hok a o q).stay (λb u hb z=>?_) (λb z=>sx b _ (nI z he (by intro y;cases y)) z) λb xs z=>sx b _ (nI z he (by intro y;cases y)) z
     rcases hb with rfl|hb
     ·exact keep b u h2 h3 nf z
     ·exact keep b u (nI hb he (by intro y;cases y)) (nI hb hT (by intro y;cases y)) (λy=>by rw[hfree b y]at hb;cases hb) z
theorem V8 {Q:Unit->ag->Prop}{h0:da}{args:List af}(hfr:A.frames=some (env::outer)) (hl:h0.FunFrames base (env::outer)) (hf:env.frame=some L) (hok:Bk P w H h0) (hfree:∀b∈eQ (env::outer),H b=none) (hsb:∀b o,base.get? b=some o->h0.get? b=some o)
  (mx:Heap.MadeExcOf h0 s.heap e C args)
  (k:∀h' H',Un (eQ (env::outer)) [] H H' h0 h'->Bk P w H' h'->vZ base H' C e->Bx H H'->Q () { s with heap:=h' }):
  wpAny M A (noteFrame (.ref e) env) (λ_ s'=>wpAny M A (setFlight (.ref e) none) Q E s') E s:=by
 obtain⟨t,he,hnt,ht⟩:=mx.there;have hbn:base.get? e=none:=by
  cases q:base.get? e with
  |none=>rfl
  |some o=>have:=hsb e o q;rw[mx.new]at this;cases this
 have nH:H e=none:=by
  cases q:H e with
  |none=>rfl
  |some o=>
   have z:∀a o,H a=some o->h0.get? a≠none:=λa o q n=>by
    have lt:=hok.lt q;have:=(hok a o q)
    have ex:∃ob,h0.get? a=some ob:=A2 this;obtain⟨ob,eo⟩:=ex;rw[n]at eo;cases eo
   exact absurd mx.new (z e o q)
 have hl1:s.heap.FunFrames base (env::outer):=hl.of_keeps λb o hb _=>⟨o,mx.keeps b o hb,rfl⟩
 refine V3 hfr hl1 hf he rfl rfl (a0:=.ref t) rfl rfl λh' T c x=>?_;have ne_e:∀b o,h0.get? b=some o->b≠e:=λb o q z=>by subst z;rw[mx.new]at q;cases q
 have lt0:∀b o,h0.get? b=some o->b<T:=λb o q=>bc (av (mx.keeps b o q)) c.new;have nT:H T=none:=by
  cases q:H T with
  |none=>rfl
  |some o=>obtain⟨ob,eo⟩:=A2 (hok T o q);exact absurd (lt0 T ob eo) (gv _)
 have eT:T≠e:=jd (bc (av he) c.new);have sm:Bx H (aZ (aZ H e (.ext (eM C e T (.ref t)))) T (.ext (gZ T))):=λb o q=>by rw[cF (fG q nT),cF (fG q nH)];exact q
 refine k h' (aZ (aZ H e (.ext (eM C e T (.ref t)))) T (.ext (gZ T))) ?_ ?_ ⟨T,.ref t,by rw[cF (dh eT),eG],eG,hbn,eT⟩ sm
 ·refine⟨λb o q n hb _=>c.keep b o (ne_e b o q) hb (mx.keeps b o q),λb o q n _ _=>c.slot b o (ne_e b o q) (mx.keeps b o q),λb o q n _=>?_,λb o q _=>?_,λb xs q=>sm b _ q,λb o u q=>sm b _ q,λb ps q=>⟨#[],by rw[sm b _ q];simp⟩⟩
  ·rw[cF (bf (lt0 b o q)),cF (ne_e b o q)];exact n
  ·obtain⟨sl,z⟩:=c.slot b o (ne_e b o q) (mx.keeps b o q);exact⟨_,z⟩
 ·intro a o q
  by_cases h1:a=T
  ·subst h1;rw[eG]at q;cases q;exact A3 c.tb
  ·rw[cF h1]at q
   by_cases h2:a=e
   ·subst h2;rw[eG]at q;cases q;exact ID x
   ·rw[cF h2]at q;have nf:a∉eQ (env::outer):=λz=>by rw[hfree a z]at q;cases q
    refine(hok a o q).stay (λb u hb z=>?_) (λb z=>sm b _ z) λb xs z=>sm b _ z
    rcases hb with rfl|hb
    ·exact c.keep b u (ne_e b u z) nf (mx.keeps b u z)
    ·exact c.keep b u (ne_e b u z) (λy=>by rw[hfree b y]at hb;cases hb) (mx.keeps b u z)
end
def bX (P:bh) (w:cp) (base:da):mF:=λouter H s E u s'=>∃e C H',u=.ref e/\s'.os=s.os/\rl s'.gens/\Un (eQ outer) [] H H' s.heap s'.heap/\Bk P w H' s'.heap/\vZ base H' C e/\E u none H'
def V9 (X:Cx) (E:XK):Prop:=∀(pins:List (ah×Obj)) (σ:St) (H:Hp) (s:ag) (h':da) (e:ah) (C:af) (args:List af),Inv X pins σ H s->Heap.MadeExcOf s.heap h' e C args->
 (∀H',Bx H H'->(∃T a0,H' e=some (.ext (eM C e T a0)))->E (.ref e) none H')->X.xe (.ref e) { s with heap:=h' }
structure Good (X:Cx) (G:Cfg) (E:XK) (k:Nat):Prop where
 calm:X.calm=true
 room:Aw k X.A
 K:X.K=G.K
 pas:zW (bX X.prog X.w X.base) X E
 own:xk (model X.prog X.w) X.A X.env X.xe
 rais:V9 X E
def IE (E:XK):Prop:=∀e H H',wB e H H'->(∃C T a0 T' a0',H e=some (.ext (eM C e T a0))/\(∃h,eM C e T a0 h)/\H' e=some (.ext (eM C e T' a0')))->E (.ref e) none H->E (.ref e) none H'
section
variable{P:bh}{w:cp}{K:aq}{mg:Str->Option af}{base:da}{N:zr}{qual:Str}{scope:ic}{f:ah}{cdv:af}{A:cn}{outer:List Env}{s0:ag}{H0:Hp}{E0:XK}{G:Cfg}{E:XK}{k:Nat}
theorem IF (hr:Aw k (A.deeper (envOfC qual scope s0.heap.objs.size f cdv))) (hK:K=G.K) (hE:∀u H',E u none H'->E0 u none H') (hF:IE E):
  Good (kP (bX P w base) P w K mg base N qual scope f cdv A outer s0 H0 E0) G E k where
 calm:=rfl
 room:=hr
 K:=hK
 own:=PassesOwn.leaving
 pas:=by intro pins σ H s u s' I ⟨e,C,H',eu,os,bare,un,hok,fl,he⟩;subst eu;have I':=I.call' os un hok bare (λb z=>absurd z (by simp));refine ae (V7 (P:=P) (w:=w) (H:=H') (base:=base) I'.ok.frames I'.stack rfl hok I'.stkFree fl λh'' H'' un2 hok2 fl2 sx=>?_);have I2:=I'.call (h':=h'') (g':=s'.gens) (d':=s'.drawn) (t':=s'.toks) un2 hok2 I'.bare (λb z=>absurd z (by simp));obtain⟨T,a0,h1,_⟩:=id fl;obtain⟨T2,a2,h3,_⟩:=id fl2;have xe1:eM C e T a0 s'.heap:=(show Ai P w H' s'.heap e _ from hok e _ h1).1;have:E (.ref e) none H'':=hF e H' H'' sx ⟨C,T,a0,T2,a2,h1,⟨_,xe1⟩,h3⟩ he;exact⟨e,C,H'',rfl,I2.os,I2.bare,I2.base,hok2,fl2,hE _ _ this⟩
 rais:=by intro pins σ H s h' e C args I mx he;refine ae (V8 (P:=P) (w:=w) (H:=H) (base:=base) I.ok.frames I.stack rfl I.hok I.stkFree I.bk mx λh'' H'' un2 hok2 fl2 sm=>?_);have I2:=I.call (h':=h'') (g':=s.gens) (d':=s.drawn) (t':=s.toks) un2 hok2 I.bare (λb z=>absurd z (by simp));obtain⟨T2,a2,h3,_⟩:=id fl2;exact⟨e,C,H'',rfl,I2.os,I2.bare,I2.base,hok2,fl2,hE _ _ (he H'' sm ⟨T2,a2,h3⟩)⟩
theorem dI {X:Cx}{sc:ic}{N':zr}{s:ag}{H:Hp}{ex:List ah}(g:Good X G E k):Good (cY X sc N' s H ex) G L2.E0 k where
 calm:=g.calm
 room:=g.room
 K:=g.K
 own:=PassesOwn.never
 pas:=λ_ _ _ _ _ _ _ ⟨_,_,_,_,_,_,_,_,_,z⟩=>z
 rais:=λ_ _ H s h' e C args I mx he=>by
  have nH:H e=none:=by
   cases q:H e with
   |none=>rfl
   |some o=>obtain⟨ob,eo⟩:=A2 (I.hok e o q);rw[mx.new]at eo;cases eo
  exact he (aZ H e (.ext (eM C e 0 .none))) (dG nH) ⟨0,.none,eG⟩
def cQ (n:Nat) (ds:zu):Ev:=ds.map some++List.replicate (n - ds.length) none
def bO:Sr->Rs Dv
 | .rt d h=>.ok d h
 | .nx _ h=>.ok .non h
 | .ex c h=>.ex c h
 |_=>.bad
def aR (np n:Nat) (mb:MS):zt:=λds h=>if ds.length=np then bO (mb (cQ n ds) h)else .bad
def cB (G:Cfg) (F:zt):Sp:=λvs H Q E=>∃μ h ds,RelDL G μ h.length H ds vs/\Ao G μ h H/\Out G E μ h.length H (F ds h) (Ac G) Q
theorem IG {μ:Nat->ah}{n:Nat}{H:Hp}{ds:zu}{vs:List V}(r:RelDL G μ n H ds vs) (N:zr):Al G μ n H (cQ N.length ds) (start N vs):=by
 have hl:=r.length;refine⟨by simp[cQ,start,hl],λi d e=>?_⟩;unfold cQ at e
 by_cases hi:i<ds.length
 ·rw[fo (by simpa using hi),fw]at e
  cases q:ds[i]? with
  |none=>rw[q]at e;cases e
  |some d'=>rw[q]at e;cases e;obtain⟨v,e1,r1⟩:=r.get q;refine⟨v, ?_,r1⟩;unfold start;rw[fo (by simp;omega),fw,e1];rfl
 ·rw[ig (by simpa using hi),ya]at e
  split at e <;> cases e
def EB (G:Cfg) (μ0:Nat->ah) (n0:Nat) (H0:Hp) (r:Sr):XK:=λu _ H'=>∃c h' μ',r=.ex c h'/\Ext μ0 n0 H0 μ' h'.length H'/\Ao G μ' h' H'/\vS G H' c u
theorem Ao.sameX {μ:Nat->ah}{h:Hs}{H H':Hp}{e:ah}(s:Ao G μ h H) (sx:wB e H H') (hx:∃φ,H e=some (.ext φ)):Ao G μ h H'/\∀(n:Nat),Ext μ n H μ n H':=by
 obtain⟨φ,hx⟩:=hx;have x:∀n:Nat,Ext μ n H μ n H':=λn=>⟨ak _,λ_ _=>rfl,λa o i q=>sx a o (by rintro rfl;rw[hx]at q;cases q;exact i) q⟩
 refine⟨⟨s.inj,λi o q=>?_,s.tab.keep λa o _ n2 q=>sx a o (by rintro rfl;rw[hx]at q;cases q;exact n2 _ rfl) q⟩,x⟩;have r:=s.ob i o q
 cases o with
 |lst xs=>obtain⟨vs,e1,r1⟩:=r;exact⟨vs,sx _ _ (nI e1 hx (by intro z;cases z)) e1,RelDL.mono (x _) _ _ r1⟩
 |clo k t=>exact r.clo (x _)
theorem IH {μ0:Nat->ah}{n0:Nat}{H0:Hp}{r:Sr}:IE (EB G μ0 n0 H0 r):=by intro e H H' sx ⟨C,T,a0,T',a0',h1,⟨hp,hx⟩,h3⟩ ⟨c,h',μ',er,x,s,e',φ,eu,h4,h5⟩;cases eu;obtain⟨s2,x2⟩:=s.sameX sx ⟨_,h1⟩;refine⟨c,h',μ',er,x.trans (x2 _),s2,e,_,rfl,h3,λhh z=>?_⟩;rw[h1]at h4;cases h4;obtain⟨o,g1,g2⟩:=h5 hp hx;obtain⟨oe,vs,g3,g4,_⟩:=hx;rw[g3]at g1;cases g1;obtain⟨oe',Bp,g5,g6,_⟩:=z;exact⟨oe',g5,by rw[g6,<-g4,g2]⟩
theorem cU {x qual:Str}{st:gf}{fd:bj}{ps:zr}{mb:MS}(Fn:Ax K x qual st f fd) (S:Ab N ps (bA st)) (hK:K=G.K)
  (Cv:∀(cdv:af) (A:cn) (outer:List Env) (s:ag) (H:Hp) (E₀ E:XK),Good (kP (bX P w base) P w K mg base N qual (bA st) f cdv A outer s H E₀) G E k->kY (kP (bX P w base) P w K mg base N qual (bA st) f cdv A outer s H E₀) G E (kQ st) mb):
  Ah P w K mg base (bX P w base) (k+1) f fd ps (cB G (aR ps.length N.length mb)):=by
 obtain⟨oc,od,kV,doc,pm,an,cdv,ct,osl,rfl,lk,hcd⟩:=Fn.ex;have hlen:∀vs H Q E,cB G (aR ps.length N.length mb) vs H Q E->vs.length=ps.length:=λvs H Q E ⟨μ,h,ds,r,sm,o⟩=>by
  rw[r.length];unfold aR at o
  by_cases hd:ds.length=ps.length
  ·exact hd
  ·rw[if_neg hd]at o;exact o.elim
 refine F9 lk hcd S hlen λA outer s H vs Q E hr hsp=>?_;have hl:=hlen _ _ _ _ hsp;obtain⟨μ,h,ds,r,sm,o⟩:=hsp;have o':Out G E μ h.length H (bO (mb (cQ N.length ds) h)) (Ac G) Q:=by unfold aR at o;rw[if_pos (by rw[<-r.length];exact hl)]at o;exact o
 refine⟨_,Cv cdv A outer s H E (EB G μ h.length H (mb (cQ N.length ds) h)) (IF hr hK (λu H' ⟨c,h',μ',er,x,s',fl⟩=>?_) IH) hK, ?_⟩
 ·rw[er]at o';exact o' μ' H' u x s' fl
 ·refine⟨μ,cQ N.length ds,h,IG r N,sm, ?_⟩
  cases q:mb (cQ N.length ds) h with
  |bad=>rw[q]at o';exact o'.elim
  |bk ρ h'=>rw[q]at o';exact o'.elim
  |ct ρ h'=>rw[q]at o';exact o'.elim
  |rt d h'=>rw[q]at o';exact o'
  |nx ρ h'=>rw[q]at o';exact λμ' H' σ' x' s' rs'=>o' μ' H' .non x' s' rfl
  |ex c h'=>exact λμ' H' u x' s' fl=>⟨c,h',μ',rfl,x',s',fl⟩
theorem WA {X:Cx}{F:zt}{ps:zr}{fd:bj}{x:Str}{p pos:Pos}{e:bq}{es:List bq}{ms:M zu }{j:Nat}(g:Good X G E k) (Fn:Ah X.prog X.w X.K X.mg X.base (bX X.prog X.w X.base) j f fd ps (cB G F)) (hj:j<=k)
  (hg:Gl X x) (hm:X.mg x=some (.ref f)) (hk:pj X.K (.ref f)=true) (hb:Binds X.K fd ps []) (ha:dR X G E (e::es) ms)
  (Cu:(x==("__debug__" : Str))=false:=by decide) (he:ar (e::es) X.env=(false,eval e X.env)::ar es X.env:=by rfl) (Bj:(backTo pos (ar es X.env)).any (·.1)=false:=by rfl):
  aK X G E (.Call (.Name x p) (e::es) [] pos) (aD F ms):=λhK=>
 PE.imp (SS Fn (g.room.mono hj) hg hm hk hb .nil g.pas (ha hK) Cu he Bj) λσ H Q ⟨μ,ρ,h,rs,s,o⟩=>kC rs s o λμ1 ds1 h1 vs H1 x1 As s1 r1 o1=>by rw[rz];exact⟨μ1,h1,ds1,r1,s1,o1⟩
end
abbrev qP:List af:=[.type "ValueError",.type "Exception",.type "BaseException",.type "object"]
theorem WB {K:aq}{mg:Str->Option af}{base:da}(p:bh) (m:Mod K mg base):∃bT mb,PySem.W.TopRead p bT mg mb base:=by
 obtain⟨mb,hb,hbb⟩:=m.blt;obtain⟨o,es,ep,ho,hd,hk,hf⟩:=id m.glob;refine⟨es.toList.filterMap λe=>match e.key with
  | .str n _=>some n
  |_=>none,mb,m.glob,hb,m.nolimit,hbb,λx _ hx _ _ _=>?_⟩
 rw[<-hf x]
 cases q:nsFind es x with
 |none=>rfl
 |some v=>
  exfalso
  apply hx
  unfold nsFind findBy at q;obtain⟨e,he,_⟩:=Option.map_eq_some_iff.mp q;have h1:=Array.find?_some he;have h2:=Array.mem_of_find?_eq_some he;obtain⟨n,t,hn⟩:=hk e h2;rw[hn]at h1;have h3:n=x:=by simpa[Value.isStr]using h1
  exact gy.mpr ⟨e,by simpa using h2,by rw[hn,h3]⟩
section
variable{X:Cx}{G:Cfg}{E:XK}{k:Nat}{x:Str}{C:ah}{np cpos pos:Pos}{e:bq}{es:List bq}{t:TA}{ms:M zu }{c:Nat}
theorem WC (g:Good X G E k) (hg:Gl X x) (hm:X.mg x=some (.ref C)) (hns:ow X.K du x=some (some (.ref C))) (hx:nu X.K C qP "ValueError.__new__" = true) (ha:PA X (e::es) t) (hd:(x==("__debug__" : Str))=false:=by decide)
  (he:ar (e::es) X.env=(false,eval e X.env)::ar es X.env:=by rfl) (Bj:(backTo cpos (ar es X.env)).any (·.1)=false:=by rfl):
  PS X (.Raise (some (.Call (.Name x np) (e::es) [] cpos)) none pos) (λ_ σ H=>t σ H λvs H1=>vs.length<=cf/\∀e H',Bx H1 H'->(∃T a0,H' e=some (.ext (eM (.ref C) e T a0)))->E (.ref e) none H'):=by
 intro pins s σ H D I h;obtain⟨bm,N,nm,q,bs,hdct,sn,sub,ab,col,dd,k0,k1,k2,k3,k5,mN,hC,hN,hni,T⟩:=(let ⟨_,_,tr⟩:=WB X.prog I.ok.mod;PySem.W.own_of_in I.ok.mod.kin tr hns hx).obj;refine wpAny_Raise_call_subU (C:=C) (nm:=nm) (q:=q) (N:=N) (bs:=bs) (bm:=bm) (hdct:=hdct) (sn:=sn) (sub:=sub) (ab:=ab) (col:=col) (dd:=dd) (k0:=k0) (k1:=k1) (k2:=k2) (k3:=k3) (k5:=k5)
  wa (by decide) wa (mN:=mN) (T.hasType (by decide)) (I.ok.hd g.calm) (by rw[he];show(false||(backTo cpos (ar es X.env)).any (·.1))=false;rw[Bj];rfl) hni (zN I hg hm ⟨rfl, ?_⟩ hd)
 have hh:=ha cpos pins s σ H _ I h;rw[he]at hh ⊢;refine sy (bD hh λus s2 ⟨vs,H2,I2,r,hz,w⟩=>⟨rfl,by rw[<-r.length];exact hz,I2.bk _ _ hC,hN.keeps I2.bk,T.keeps I2.bk,λh' e' mx=>?_⟩);exact g.rais pins σ H2 s2 h' e' _ _ I2 mx λH' sm z=>w e' H' sm z
theorem WD {H:Hp}{e:ah}(hc:C=G.cl c) (z:∃T a0,H e=some (.ext (eM (.ref C) e T a0))):vS G H c (.ref e):=by obtain⟨T,a0,z⟩:=z;exact⟨e,_,rfl,z,λh ⟨oe,vs,h1,h2,_⟩=>⟨oe,h1,by rw[h2,hc]⟩⟩
def iJ (c:Nat) (ms:M zu ):MS:=λρ h=>(ms ρ h).thenS λds h1=>if ds.length<=1000 then .ex c h1 else .bad
theorem wC (g:Good X G E k) (hg:Gl X x) (hm:X.mg x=some (.ref C)) (hns:ow X.K du x=some (some (.ref C))) (hx:nu X.K C qP "ValueError.__new__" = true) (hc:C=G.cl c) (ha:dR X G E (e::es) ms) (hd:(x==("__debug__" : Str))=false:=by decide)
  (he:ar (e::es) X.env=(false,eval e X.env)::ar es X.env:=by rfl) (Bj:(backTo cpos (ar es X.env)).any (·.1)=false:=by rfl):
  iI X G E (.Raise (some (.Call (.Name x np) (e::es) [] cpos)) none pos) (iJ c ms):=λhK=>PS.imp (WC g hg hm hns hx (ha hK) hd he Bj) λD σ H ⟨μ,ρ,h,rs,s,o⟩=>
 ⟨μ,ρ,h,rs,s,(o.thenS (R:=RelDL G)).mono λvs H1 ⟨μ1,ds,h1,x1,s1,r1,o1⟩=>by
  split at o1
  ·rename_i hl;refine⟨by rw[r1.length];exact dm hl (by decide),λe' H' sm z=>?_⟩;exact o1 μ1 H' (.ref e') (Ext.same sm) (s1.same sm) (WD hc z)
  ·exact o1.elim⟩
end
open PySem.W
section
variable{prog:bh}{w:cp}{A:cn}{E:af->ag->Prop}{h:da}{g:Array GenState}{d:Drawn}{t:Nat}{os:OsState}{a C:ah}{o:Obj}{K:Frag}
structure ExK (K:Frag) (C:ah):Prop where
 ga:findIn K (.ref C) "__getattribute__" = some (some (.builtin "BaseException.__getattribute__"))
 ng:findIn K (.ref C) "__getattr__" = some none
 cl:findIn K (.ref C) "__class__" = some (some (.builtin "object.__class__"))
 ob:mroIn K C (.type "object")=some true
 be:subIn K (.ref C) (.type "BaseException")=some true
 se:kitCls K (.ref C) (.ref C)=some true
 lk:∃oc od cd osl,K.lookup C=some ⟨oc,od,.cls cd,osl⟩
theorem kindGa:builtinKind "BaseException.__getattribute__" = some .slot/\splitId "BaseException.__getattribute__" = some ("BaseException","__getattribute__"):=by decide +kernel
theorem WE:(ua "BaseException.__getattribute__" == ua "object.__getattribute__")=false:=by decide +kernel
section
variable{R:vt->ag->Prop}{s:ag}
theorem WG {M:wm}{n:af}{Q:Unit->ag->Prop}(X:K.In s.heap) (I:InstAt s.heap a o C none) (k:ExK K C) (hq:Q () s):wpAny M A (checkBuiltinCall "BaseException.__getattribute__" ⟨[.ref a,n],[]⟩) Q E s:=by
 have one:Looks M s.heap (isInstance (.ref a) (.type "BaseException")) true:=I.type.andThen (looks_subIn X k.be);have two:=F.args_bexc_ga (.ref a) n;obtain⟨hh,g,d,t,os⟩:=s;unfold checkBuiltinCall;rw[kindGa.1,kindGa.2];refine ae (one.at ?_)
 repeat (first|assumption|wp_step)
theorem WH {n:Tok}(X:K.In s.heap) (I:InstAt s.heap a o C none) (k:ExK K C) (hq:R (.ok (.ret (.ref C))) s):codeAny (model prog w) A (.call (.builtin "BaseException.__getattribute__") ⟨[.ref a,.str "__class__" n],[]⟩) R s:=by
 refine lr F.excAttr_ValueError.ga.plain F.entry_bexc_ga (WG X I k ?_);have own:=I.type (M:=model prog w);have entry:=looks_findIn (M:=model prog w) X k.cl;have of_get:=F.slot_gs_get.lookup;have of_set:=F.slot_gs_set.lookup;have kind:=F.typeOf_object_class;have kindIs:s.TypeIs (.builtin "object.__class__") "getset_descriptor" := kind;obtain⟨hh,g,d,t,os⟩:=s
 repeat (any_goals (first|assumption|with_reducible refine own.at ?_|with_reducible refine entry.at ?_|wp_step))
 exact class_get (s:=⟨hh,g,d,t,os⟩) X I k.ob (by repeat (any_goals (first|assumption|wp_step)))
end
theorem WI {Q:Option af->ag->Prop}(X:K.In h) (I:InstAt h a o C none) (k:ExK K C) (hq:Q (some (.ref C)) ⟨h,g,d,t+1,os⟩):
  wpAny (model prog w) A (getAttr? (.ref a) "__class__") Q E ⟨h,g,d,t,os⟩:=by
 have own:=I.type (M:=model prog w);have first_:=looks_findIn (M:=model prog w) X k.ga;have then_:=looks_findIn (M:=model prog w) X k.ng;have bound:=F.excAttr_ValueError.ga.bind (.ref a);have other:=WE;have apart:(onTheHeap (gq C)&&ua "BaseException.__getattribute__" == ua "object.__getattribute__")=false:=by rw[other];rfl
 unfold getAttr? getAttrBy?
 repeat (any_goals (first|assumption|with_reducible refine own.at ?_|with_reducible refine first_.at ?_|with_reducible refine then_.at ?_|wp_step))
 exact WH X I k (by repeat (any_goals (first|assumption|wp_step)))
def WJ (a C:ah) (h:da):Prop:=∃o,InstAt h a o C none
theorem WK (k:ExK K C):KitX K (.ref a) (.ref C) (WJ a C) where
 ty:=λ_ _ _ ⟨_,I⟩=>I.type
 it:=λ_ _ X _=>(kit_cls X k.se).2.1
 ne:=λh tp dd its n sl X htp=>by
  cases z:(gq C==gq tp)with
  |false=>rfl
  |true=>
   obtain rfl:C=tp:=by simpa using z
   obtain⟨oc,od,cd,osl,lk⟩:=k.lk;have:=X _ _ lk;rw[htp]at this;simp at this
 ca:=λ{prog w A E Q s} X ⟨o,I⟩ hq=>by obtain⟨hh,g,d,t,os⟩:=s;exact WI X I k hq
end
inductive Ty where
 |non|bl|int|str|tup|lst|dct|exc (c:Nat)
def jP:Dv->Hs->Option Ty
 | .non,_=>some .non
 | .bl _,_=>some .bl
 | .int _,_=>some .int
 | .str _,_=>some .str
 | .tup _,_=>some .tup
 | .ref i,h=>match getL h i with
  |some _=>some .lst
  |none=>none
 | .edc,_=>some .dct
 | .exc c,_=>some (.exc c)
 | .scr,_=>none
def qQ (cl:Nat->ah):Ty->af
 | .non=>.type "NoneType"
 | .bl=>.type "bool"
 | .int=>.type "int"
 | .str=>.type "str"
 | .tup=>.type "tuple"
 | .lst=>.type "list"
 | .dct=>.type "dict"
 | .exc c=>.ref (cl c)
def fW (f:Ty->Option Bool) (d:Dv) (h:Hs):Rs Dv:=match jP d h with
 |some ty=>match f ty with
  |some b=>.ok (.bl b) h
  |none=>.bad
 |none=>.bad
section
variable{X:Cx}{G:Cfg}{E:XK}{pins:List (ah×Obj)}{σ:St}{H:Hp}{s:ag}
theorem WL {μ:Nat->ah}{h:Hs}{d:Dv}{v:V}{u:af}{ty:Ty}(I:Inv X pins σ H s) (sm:Ao G μ h H) (r:Ac G μ h.length H d v) (ru:RelV v u) (e:jP d h=some ty) (hex:∀c,ty=.exc c->ExK X.K (G.cl c)):
  ∃P,KitX X.K u (qQ G.cl ty) P/\P s.heap/\u≠.builtin "__main__.__loader__#opaque":=by
 cases d with
 |non=>cases e;rw[Ac]at r;subst r;cases ru;exact⟨_,kitx_none,trivial,λz=>nomatch z⟩
 |bl b=>cases e;rw[Ac]at r;subst r;cases ru;exact⟨_,kitx_bool,trivial,λz=>nomatch z⟩
 |int i=>cases e;rw[Ac]at r;subst r;obtain⟨t,rfl⟩:=ru;exact⟨_,kitx_int,trivial,λz=>nomatch z⟩
 |str i=>cases e;rw[Ac]at r;subst r;obtain⟨t,rfl⟩:=ru;exact⟨_,kitx_str,trivial,λz=>nomatch z⟩
 |tup ds=>
  cases e;obtain⟨a,vs,rfl,ea,_⟩:=r;cases ru;obtain⟨_,_,_,o,h1,h2,_⟩:=(show Ai X.prog X.w H s.heap a (.tup vs) from I.hok a _ ea)
  exact⟨_,kitx_tuple,⟨o,h1,h2⟩,λz=>nomatch z⟩
 |ref i=>
  dsimp only[jP]at e
  cases g:getL h i with
  |none=>rw[g]at e;cases e
  |some xs=>
   rw[g]at e;cases e;obtain⟨_,rfl⟩:=r;cases ru;obtain⟨vs,ea,_⟩:=sm.ob i _ (dP g);obtain⟨_,_,n,_,h1⟩:=(show Ai X.prog X.w H s.heap (μ i) (.lst vs) from I.hok _ _ ea)
   exact⟨_,kitx_list,⟨_,h1,rfl⟩,λz=>nomatch z⟩
 |edc=>
  cases e;obtain⟨a,rfl,ea⟩:=r;cases ru;obtain⟨_,_,vs,_,p⟩:=(show Ai X.prog X.w H s.heap a (.dK []) from I.hok a _ ea)
  obtain⟨o,es,ep,h1,h2,_⟩:=p;exact⟨_,kitx_dict,⟨o,h1,h2.1⟩,λz=>nomatch z⟩
 |exc c=>
  cases e;obtain⟨a,o,uo,rfl,ea,hc,hdn,vs,hd⟩:=r;cases ru;obtain⟨h1,_⟩:=(show Ai X.prog X.w H s.heap a (.frz o uo) from I.hok a _ ea)
  refine⟨_,WK (hex c rfl),⟨o,h1,hc, ?_, ?_⟩,λz=>nomatch z⟩
  ·unfold notCls;rw[hd]
  ·rw[hdn];trivial
 |scr=>cases e
end
section
variable{X:Cx}{G:Cfg}{E:XK}{a b:bq}{ma:M Dv}{p pos:Pos}{f:Ty->Option Bool}
theorem WM:dj "isinstance" = some (.builtin "isinstance"):=by decide +kernel
def II (G:Cfg) (f:Ty->Option Bool) (c:V):List V->Hp->VK->Prop:=λxs H Q=>∃μ h d v ty bb,xs=[v,c]/\Ao G μ h H/\Ac G μ h.length H d v/\jP d h=some ty/\f ty=some bb/\Q (.bl bb) H
theorem WN {c:V}{u:af}(hc:(∃T,c=.ty T)∨∃C,c=.ref C) (rc:RelV c u) (hf:∀ty bb,f ty=some bb->kitOne X.K (qQ G.cl ty) u=some bb) (hex:∀c bb,f (.exc c)=some bb->ExK X.K (G.cl c)):Af X (.builtin "isinstance") (II G f c):=by
 intro pins s σ H xs us Q I rv ⟨μ,h,d,v,ty,bb,e1,sm,r,et,ef,q⟩;subst e1;obtain⟨u1,u2,rfl,r1,r2⟩:=sD rv;have e2:u2=u:=by rcases hc with⟨T,rfl⟩|⟨C,rfl⟩ <;> (cases rc;cases r2;rfl)
 subst e2;obtain⟨P,Z,hP,hne⟩:=WL I sm r r1 et (λc z=>by subst z;exact hex c bb ef);exact kia_one Z I.kIn hP (hf ty bb ef) hne λtk=>⟨.bl bb,H,I.tok _,rfl,q⟩
theorem A4 {x:Str}{T:String}(hg:Gl X x) (hm:X.mg x=none) (hv:dj x=some (.type T)) (hn:x ≠ "__name__" := by decide) (hd:(x==("__debug__" : Str))=false:=by decide):PE X (.Name x pos) (tC (.ty T)):=λpins s σ H Q I h=>oJ I hg hm hv ⟨.ty T,H,I,rfl,h⟩ hn hd
theorem A5 {c:V}{u:af}(hg:Gl X "isinstance") (hm:X.mg "isinstance" = none) (ha:aK X G E a ma) (hb:PE X b (tC c)) (hc:(∃T,c=.ty T)∨∃C,c=.ref C) (rc:RelV c u)
  (hf:∀ty bb,f ty=some bb->kitOne G.K (qQ G.cl ty) u=some bb) (hex:∀c bb,f (.exc c)=some bb->ExK G.K (G.cl c))
  (he:ar [a,b] X.env=[(false,eval a X.env),(false,eval b X.env)]:=by rfl) (Df:ar [b] X.env=[(false,eval b X.env)]:=by rfl):
  aK X G E (.Call (.Name "isinstance" p) [a,b] [] pos) (m1 (fW f) ma):=λhK=>
 PE.imp (sE (WN (G:=G) (f:=f) hc rc (by rw[hK];exact hf) (by rw[hK];exact hex)) hg hm WM (jC (ha hK) (jC hb jM Df) (by rw[he,Df])) (by decide) (by decide) (by rw[he,Df]) (by rw[Df];rfl))
  λσ H Q ⟨μ,ρ,h,rs,s,o⟩=>eO rs s o λμ1 d h1 v H1 x1 As s1 r1 o1=>by
   show II G f c [v,c] H1 Q;unfold fW at o1
   cases q:jP d h1 with
   |none=>rw[q]at o1;exact o1.elim
   |some ty=>
    rw[q]at o1;dsimp only at o1
    cases q2:f ty with
    |none=>rw[q2]at o1;exact o1.elim
    |some bb=>rw[q2]at o1;exact⟨μ1,h1,d,v,ty,bb,rfl,s1,r1,q,q2,o1.val s1 rfl⟩
end
def nV:Dv->Option Bool
 | .bl b=>some b
 |_=>none
theorem A6 {G:Cfg}{μ:Nat->ah}{n:Nat}{H:Hp}:∀{xs:zu}{vs:List V}{bs:List Bool},RelDL G μ n H xs vs->bG nV xs=some bs->vs=bs.map V.bl
 | [],vs,bs,r,e=>by cases e;rw[RelDL]at r;exact r
 |x::xs,vs,bs,r,e=>by
  rw[RelDL]at r;obtain⟨v,rr,rfl,r1,r2⟩:=r;unfold bG at e
  cases x with
  |bl b=>
   dsimp only[nV]at e
   cases q:bG nV xs with
   |none=>rw[q]at e;cases e
   |some zs=>rw[q]at e;cases e;rw[Ac]at r1;subst r1;rw[A6 r2 q];rfl
  |_=>cases e
section
variable{X:Cx}{pins:List (ah×Obj)}{σ:St}{H:Hp}{s:ag}
theorem WO (bs:List Bool):(ay bs.length).all (λi=>bs.getD i false)=bs.all id:=by
 rw[ed,dz,dz];constructor
 ·intro h b hb;obtain⟨i,hi,rfl⟩:=kr.mp hb;simpa[pz,hi]using h i (bu.mpr hi)
 ·intro h i hi;have hi:=bu.mp hi;simpa[pz,hi]using h _ (fe hi)
theorem WQ (bs:List Bool):(ay bs.length).any (λi=>bs.getD i false)=bs.any id:=by
 rw[ed,jt,jt];constructor
 ·rintro ⟨i,hi,h⟩
  have hi:=bu.mp hi;exact⟨bs[i],fe hi,by simpa[pz,hi]using h⟩
 ·rintro ⟨b,hb,h⟩
  obtain⟨i,hi,rfl⟩:=kr.mp hb;exact⟨i,bu.mpr hi,by simpa[pz,hi]using h⟩
theorem WR {bs:List Bool}{its:List af}(rv:Ae (bs.map V.bl) its) {i:Nat}{v:af}(e:its.toArray[i]?=some v):v=.bool (bs.getD i false):=by
 have hl:=rv.length;rw[ba]at hl;have e':its[i]?=some v:=by simpa using e
 have hi:i<its.length:=(bg.mp e').1;have hb:i<bs.length:=by omega
 obtain⟨u,e2,r⟩:=rv.get (i:=i) (x:=V.bl bs[i]) (by simp[hb]);rw[e']at e2;cases e2;have hg:bs.getD i false=bs[i]:=by simp[pz,hb]
 rw[hg];exact r
theorem IJ {bs:List Bool}{its:List af}{A:cn}(rv:Ae (bs.map V.bl) its):TruthOf X.prog X.w A (λi v=>its.toArray[i]?=some v) (λi=>bs.getD i false):=by intro i v s Q E e q;rw[WR rv e];exact jq q
theorem A7 {o:Obj}{h':da}{tk:Nat}(I:Inv X pins σ H s) (k:∀b u,b∉[s.heap.objs.size]->(s.heap.push o).get? b=some u->h'.get? b=some u):Inv X pins σ H { s with heap:=h',toks:=tk }:=by have I1:Inv X pins σ H { s with heap:=s.heap.push o }:=I.kept (t':=s.toks) λb u e=>aj _ e;obtain⟨f0,f1,f2,f3,f4,f5⟩:=I.fpOk (ak s.heap.objs.size) I.fresh;exact I1.turned (t':=tk) (λb u hb e=>k b u (by simpa using hb) e) f0 f1 f3 f4 f5
theorem WS (hc:X.calm=true):Af X (.builtin "all") (λxs H Q=>∃(p:ah) (bs:List Bool),xs=[.ref p]/\H p=some (.lst (bs.map V.bl))/\Q (.bl (bs.all id)) H):=by
 intro pins s σ H xs us Q I rv ⟨p,bs,e,hp,q⟩;subst e;obtain⟨u,rfl,ru⟩:=gG rv;cases ru;obtain⟨its,rits,pl,hz⟩:=I.list (Bd.of hp);have hn:its.toArray.size=bs.length:=by have:=rits.length;simp at this ⊢;omega
 have ne:p≠s.heap.objs.size:=bf (I.hok.lt hp);refine call_all_walk (kv pl.isList ⟨_,_,_,_,_,_,λi=>bs.getD i false,rfl,uh (A:=X.A.in1) (show X.A.in1.handled=none from I.ok.hd hc) _ p ne its.toArray,⟨⟨_,az _ rfl,rfl,rfl⟩,pl.isList.push _⟩,IJ rits,λh' tk k=>?_⟩);rw[hn,WO];exact⟨.bl _,H,(A7 (tk:=tk) I k:Inv X pins σ H { s with heap:=h',toks:=tk }),rfl,q⟩
theorem WT (hc:X.calm=true):Af X (.builtin "any") (λxs H Q=>∃(p:ah) (bs:List Bool),xs=[.ref p]/\H p=some (.lst (bs.map V.bl))/\Q (.bl (bs.any id)) H):=by
 intro pins s σ H xs us Q I rv ⟨p,bs,e,hp,q⟩;subst e;obtain⟨u,rfl,ru⟩:=gG rv;cases ru;obtain⟨its,rits,pl,hz⟩:=I.list (Bd.of hp);have hn:its.toArray.size=bs.length:=by have:=rits.length;simp at this ⊢;omega
 have ne:p≠s.heap.objs.size:=bf (I.hok.lt hp);refine call_any_walk (kv pl.isList ⟨_,_,_,_,_,_,λi=>bs.getD i false,rfl,uh (A:=X.A.in1) (show X.A.in1.handled=none from I.ok.hd hc) _ p ne its.toArray,⟨⟨_,az _ rfl,rfl,rfl⟩,pl.isList.push _⟩,IJ rits,λh' tk k=>?_⟩);rw[hn,WQ];exact⟨.bl _,H,(A7 (tk:=tk) I k:Inv X pins σ H { s with heap:=h',toks:=tk }),rfl,q⟩
end
section
variable{X:Cx}{G:Cfg}{E:XK}{e:bq}{ml:M zu }{x:Str}{p pos:Pos}{bid T:String}
def mL (f:zt) (ml:M zu ):M Dv:=λρ h=>(ml ρ h).bind f
def A8 (G:Cfg) (r:List V->Hp->VK->Prop) (f:zt):Prop:=∀(E:XK) (μ:Nat->ah) (h:Hs) (H:Hp) (xs:zu) (a:ah) (vs:List V) (Q:VK),Ao G μ h H->H a=some (.lst vs)->RelDL G μ h.length H xs vs->Out G E μ h.length H (f xs h) (Ac G) Q->r [.ref a] H Q
theorem IK {r:List V->Hp->VK->Prop}{f:zt}(hd:A8 G r f) {σ:St}{H:Hp}{Q:VK}(t:hX G E (mL f ml) σ H Q):vI r (F2 (vY G E ml) F1) σ H Q:=by obtain⟨μ,ρ,h,rs,s,o⟩:=t;refine⟨μ,ρ,h,rs,s,(o.bind (R1:=RL G)).mono λv H1 ⟨μ1,xs,h1,x1,s1,⟨a,vs,ev,ea,_,r1⟩,o1⟩=>?_⟩;subst ev;exact hd E μ1 h1 H1 xs a vs Q s1 ea r1 o1
theorem IL {r:List V->Hp->VK->Prop}{f:zt}(hc:Af X (.builtin bid) r) (hd:A8 G r f) (hg:Gl X x) (hm:X.mg x=none) (hv:dj x=some (.builtin bid)) (ha:mK X G E e ml) (hn:x ≠ "__name__" := by decide) (Cu:(x==("__debug__" : Str))=false:=by decide)
  (he:ar [e] X.env=[(false,eval e X.env)]:=by rfl):aK X G E (.Call (.Name x p) [e] [] pos) (mL f ml):=λhK=>
 PE.imp (sE hc hg hm hv (jC (ha hK) jM he) hn Cu he rfl) λ_ _ _ t=>IK hd t
theorem WU {r:List V->Hp->VK->Prop}{f:zt}(hc:Af X (.type T) r) (hd:A8 G r f) (hg:Gl X x) (hm:X.mg x=none) (hv:dj x=some (.type T)) (ha:mK X G E e ml) (hn:x ≠ "__name__" := by decide) (Cu:(x==("__debug__" : Str))=false:=by decide)
  (he:ar [e] X.env=[(false,eval e X.env)]:=by rfl):aK X G E (.Call (.Name x p) [e] [] pos) (mL f ml):=λhK=>
 PE.imp (qB hc hg hm hv (jC (ha hK) jM he) hn Cu he rfl) λ_ _ _ t=>IK hd t
theorem WV:dj "all" = some (.builtin "all"):=by decide +kernel
theorem WW:dj "any" = some (.builtin "any"):=by decide +kernel
def iS (xs:zu) (h:Hs):Rs Dv:=match bG nV xs with
 |some bs=>.ok (.bl (bs.all id)) h
 |none=>.bad
def sV (xs:zu) (h:Hs):Rs Dv:=match bG nV xs with
 |some bs=>.ok (.bl (bs.any id)) h
 |none=>.bad
theorem sW (hc:X.calm=true) (hg:Gl X "all") (hm:X.mg "all" = none) (ha:mK X G E e ml) (he:ar [e] X.env=[(false,eval e X.env)]:=by rfl):aK X G E (.Call (.Name "all" p) [e] [] pos) (mL iS ml):=
 IL (WS hc) (λE μ h H xs a vs Q s ea r o=>by
  unfold iS at o
  cases q:bG nV xs with
  |none=>rw[q]at o;exact o.elim
  |some bs=>rw[q]at o;exact⟨a,bs,rfl,by rw[ea,A6 r q],o.val s rfl⟩) hg hm WV ha (by decide) (by decide) he
theorem WX (hc:X.calm=true) (hg:Gl X "any") (hm:X.mg "any" = none) (ha:mK X G E e ml) (he:ar [e] X.env=[(false,eval e X.env)]:=by rfl):aK X G E (.Call (.Name "any" p) [e] [] pos) (mL sV ml):=
 IL (WT hc) (λE μ h H xs a vs Q s ea r o=>by
  unfold sV at o
  cases q:bG nV xs with
  |none=>rw[q]at o;exact o.elim
  |some bs=>rw[q]at o;exact⟨a,bs,rfl,by rw[ea,A6 r q],o.val s rfl⟩) hg hm WW ha (by decide) (by decide) he
def mO (xs:zu) (h:Hs):Rs Dv:=.ok (.tup xs) h
theorem IM (hg:Gl X "tuple") (hm:X.mg "tuple" = none) (ha:mK X G E e ml) (he:ar [e] X.env=[(false,eval e X.env)]:=by rfl):aK X G E (.Call (.Name "tuple" p) [e] [] pos) (mL mO ml):=WU GP (λE μ h H xs a vs Q s ea r o=>⟨a,vs,rfl,.inl ⟨Bd.of ea,λl hl=>o μ _ _ (Ext.same (dG hl)) (s.same (dG hl)) ⟨l,vs,rfl,eG,RelDL.mono (Ext.same (dG hl)) _ _ r⟩⟩⟩) hg hm AR ha (by decide) (by decide) he
end
section
variable{X:Cx}{G:Cfg}{E:XK}{o e i:bq}{mo me mi:M Dv}{ml:M zu }{pos apos cpos:Pos}
theorem WY {H:Hp}{a:ah}{vs:List V}(e:H a=some (.lst vs)):vK X.K "list" (.ref a) H:=.inl ⟨rfl,vs,Bd.of e⟩
def qR (o d:Dv) (h:Hs):Rs Dv:=match o with
 | .ref j=>match getL h j with
  |some xs=>if xs.length<1000000 then .ok .non (h.set j (.lst (xs++[d])))else .bad
  |none=>.bad
 |_=>.bad
def iK (o:Dv) (h:Hs):Bool:=match o with
 | .ref j=>(getL h j).isSome
 |_=>false
def oU (mo me:M Dv):M Dv:=λρ h=>(mo ρ h).bind λx h1=>if iK x h1=true then(me ρ h1).bind λd h2=>qR x d h2 else .bad
theorem wD {μ:Nat->ah}{h:Hs}{H:Hp}{x:Dv}{v:V}(s:Ao G μ h H) (r:Ac G μ h.length H x v) (e:iK x h=true):vK X.K "list" v H:=by
 cases x with
 |ref j=>obtain⟨xs,q⟩:=xc.mp (show(getL h j).isSome=true from e);obtain⟨vs,ea,_⟩:=s.ob j _ (dP q);obtain⟨_,rfl⟩:=r;exact WY ea
 |_=>cases e
theorem IP {y:Str}{np:Pos}(ho:aK X G E (.Name y np) mo) (he:aK X G E e me) (hs:ar [e] X.env=[(false,eval e X.env)]:=by rfl) (hl:(apos.endLine==cpos.line)=true:=by rfl):aK X G E (.Call (.Attribute (.Name y np) "append" apos) [e] [] cpos) (oU mo me):=λhK=>
 PE.imp (vL lx PySem.F.slot_list_append PySem.F.type_list_append T7 (ho hK) (jC (he hK) jM hs) rfl (by rw[hs];rfl) hl hs rfl) λσ H Q ⟨μ,ρ,h,rs,s,oo⟩=>eO rs s oo λμ1 x h1 vx H1 x1 As s1 r1 o1=>by
  split at o1
  ·rename_i hl;refine⟨wD s1 r1 hl,eO As s1 o1 λμ2 d h2 vd H2 x2 Cp s2 r2 o2=>?_⟩
   cases x with
   |ref j=>
    dsimp only[qR]at o2
    cases q:getL h2 j with
    |none=>rw[q]at o2;exact o2.elim
    |some xs=>
     rw[q]at o2;dsimp only at o2
     split at o2
     ·rename_i hz;obtain⟨vs,ea,ra⟩:=s2.ob j _ (dP q);obtain⟨_,rfl⟩:=Ac.mono x2 _ _ r1;obtain⟨x3,s3⟩:=s2.write (dP q) (ra.append (RelDL.cons r2 RelDL.nil));exact⟨_,vs,vd,rfl,rfl,ea,by rw[ra.length];exact bc hz (by decide),o2 μ2 _ _ x3 s3 rfl⟩
     ·exact o2.elim
   |_=>exact o2.elim
  ·exact o1.elim
end
section
variable{X:Cx}{G:Cfg}{E:XK}{e i:bq}{mo me mi:M Dv}{ml:M zu }{pos apos cpos np:Pos}{y:Str}
def wF (o:Dv) (ys:zu) (h:Hs):Rs Dv:=match o with
 | .ref j=>match getL h j with
  |some xs=>lim (xs.length+ys.length) (.ok .non (h.set j (.lst (xs++ys))))
  |none=>.bad
 |_=>.bad
def oV (mo:M Dv) (ml:M zu ):M Dv:=λρ h=>(mo ρ h).bind λx h1=>if iK x h1=true then(ml ρ h1).bind λys h2=>wF x ys h2 else .bad
theorem WZ (ho:aK X G E (.Name y np) mo) (he:mK X G E e ml) (hs:ar [e] X.env=[(false,eval e X.env)]:=by rfl) (hl:(apos.endLine==cpos.line)=true:=by rfl):aK X G E (.Call (.Attribute (.Name y np) "extend" apos) [e] [] cpos) (oV mo ml):=λhK=>
 PE.imp (vL lx PySem.F.slot_list_extend PySem.F.type_list_extend UA (ho hK) (jC (he hK) jM hs) rfl (by rw[hs];rfl) hl hs rfl) λσ H Q ⟨μ,ρ,h,rs,s,oo⟩=>eO rs s oo λμ1 x h1 vx H1 x1 As s1 r1 o1=>by
  split at o1
  ·rename_i hl;refine⟨wD s1 r1 hl,μ1,ρ,h1,As,s1,(o1.bind (R1:=RL G)).mono λv H2 ⟨μ2,ys,h2,x2,s2,⟨b,ws,ev,eb,nb,rb⟩,o2⟩=>?_⟩;subst ev
   cases x with
   |ref j=>
    dsimp only[wF]at o2
    cases q:getL h2 j with
    |none=>rw[q]at o2;exact o2.elim
    |some xs=>
     rw[q]at o2;dsimp only at o2;unfold lim at o2
     split at o2
     ·rename_i hz;obtain⟨vs,ea,ra⟩:=s2.ob j _ (dP q);obtain⟨_,rfl⟩:=Ac.mono x2 _ _ r1;obtain⟨x3,s3⟩:=s2.write (dP q) (ra.append rb);exact⟨_,b,vs,ws,rfl,rfl,ea,eb,by rw[ra.length,rb.length];exact sM hz,o2 μ2 _ _ x3 s3 rfl⟩
     ·exact o2.elim
   |_=>exact o2.elim
  ·exact o1.elim
def wG (o i d:Dv) (h:Hs):Option Hs:=match o,i with
 | .ref j,.int k=>match getL h j with
  |some xs=>match fT xs.length k with
   |some n=>some (h.set j (.lst (xs.set n d)))
   |none=>none
  |none=>none
 |_,_=>none
def sX (mo mi me:M Dv):MS:=λρ h=>(me ρ h).thenS λd h1=>(mo ρ h1).thenS λo h2=>(mi ρ h2).thenS λi h3=>match wG o i d h3 with
 |some h4=>.nx ρ h4
 |none=>.bad
theorem IQ {o:bq}{spos:Pos}(ho:aK X G E o mo) (hi:aK X G E i mi) (he:aK X G E e me)
  (ha:∀v,assign (.Subscript o i spos) X.env v=(do
   let ov <-holding [v] (eval o X.env)
   let iv <-holding [v,ov] (eval i X.env)
   standAt spos
   holding [v,ov,iv] (setItem ov iv v)
   release [v,ov,iv] []):=by intro _;rfl)
  (hs:swapsWithSole [.Subscript o i spos] e pos.line X.env=pure false:=by rfl) (hw:swappedStores [.Subscript o i spos] e X.env=pure none:=by rfl)
  (h1:(assignEach [.Subscript o i spos] X.env).map (·.2)=[assign (.Subscript o i spos) X.env]:=by rfl):iI X G E (.Assign [.Subscript o i spos] e pos) (sX mo mi me):=λhK=>
 PS.imp (FQ (he hK) (Q6 (ho hK) (hi hK) TU ha) hs hw h1) λD σ H ⟨μ,ρ,h,rs,s,oo⟩=>nS rs s oo λμ1 d h1 v H1 x1 As s1 r1 o1=>nS As s1 o1 λμ2 ob h2 vo H2 x2 Cp s2 r2 o2=>nS Cp s2 o2 λμ3 ix h3 vi H3 x3 rs3 s3 r3 o3=>by
  cases ob with
  |ref j=>
   cases ix with
   |int k=>
    dsimp only[wG]at o3
    cases q:getL h3 j with
    |none=>rw[q]at o3;exact o3.elim
    |some xs=>
     rw[q]at o3;dsimp only at o3
     cases q2:fT xs.length k with
     |none=>rw[q2]at o3;exact o3.elim
     |some n=>rw[q2]at o3;obtain⟨vs,ea,ra⟩:=s3.ob j _ (dP q);obtain⟨_,rfl⟩:=Ac.mono x3 _ _ r2;rw[Ac]at r3;subst r3;obtain⟨x4,s4⟩:=s3.write (dP q) (RelDL.set (Ac.mono (x2.trans x3) _ _ r1) n ra);exact⟨_,vs,k,n,rfl,rfl,ea,by rw[ra.length];exact q2,o3 μ3 _ σ x4 s4 (rs3.mono x4)⟩
   |_=>exact o3.elim
  |_=>cases ix <;> exact o3.elim
end
section
variable{prog:bh}{w:cp}{A:cn}{E:af->ag->Prop}{s:ag}
theorem W0 {it t:ah}{i:Nat}{items:Array af}{x:af}{Q:af->ag->Prop}(hit:s.heap.IsTupleIter it t i) (ht:s.heap.IsTuple t items) (hx:items[i]?=some x)
  (k:∀h',h'.IsTupleIter it t (i+1)->jc it s.heap h'->Q x { s with heap:=h' }):wpAny (model prog w) A (fh (.ref it)) Q E s:=by
 obtain⟨o,ho,hc,hd⟩:=id hit;obtain⟨ol,hol,hcl,nl,hdl⟩:=id ht;refine ae (gh (name:=lg "__next__") hit.typeIs F.slot_tuple_iterator_next (gc F.slot_tuple_iterator_next hit.typeIs F.entry_tuple_iterator_next ?_ (F.args_tuple_iterator_next_1 _)));have q0:∀{Q':af->ag->Prop}{E':af->ag->Prop}{B:cn},Q' (.ref t) s->wpAny (model prog w) B (field (.ref it) 0) Q' E' s:=λq=>fq ho hd (x:=.ref t) rfl q;have q1:∀{Q':af->ag->Prop}{E':af->ag->Prop}{B:cn},Q' (.int i 0) s->wpAny (model prog w) B (field (.ref it) 1) Q' E' s:=λq=>fq ho hd (x:=.int i 0) rfl q;refine ae (ai (ae (q0 ?_)));dsimp only;rw[if_neg (by simp)];refine ae (q1 (ae (gz hol hdl ?_)));rw[show((i:Int)).toNat=i from gb i];dsimp only;rw[hx];refine ae (yo ho hd (by simp) (ai ⟨x,rfl,ai (k _ ⟨_,jn _ ho (yy (um hd _)), ?_, ?_⟩ (nr ..))⟩))
 ·rw[Obj.cls_mapFields];exact hc
 ·rw[um hd];simp[rawInt]
end
section
variable{prog:bh}{w:cp}{A:cn}{E:af->ag->Prop}{s:ag}
theorem W2 {α:Type}{Q:α->ag->Prop}(hh:A.handled=none) (k:∀h' e,(∀b o,s.heap.get? b=some o->h'.get? b=some o)->(∃o,h'.get? e=some o/\o.cls=.type "StopIteration")->E (.ref e) { s with heap:=h' }):
  wpAny (model prog w) A (qq:Sem α) Q E s:=by
 have e0:firstArgMember (.type "StopIteration") []=pure jk:=by show(pure (if _ then jk else jk):Sem af)=_;rw[ite_self]
 unfold qq newExc newTuple;refine ae (ae (fg (ae (rn e0 (fg (wpAny_raiseNew_none hh (k _ _ (λb o q=>aj _ (aj _ q)) ⟨_,az _ rfl,rfl⟩)) (by size_fits)))) (by size_fits)))
theorem W3 {it t:ah}{i:Nat}{items:Array af}{Q:af->ag->Prop}(hh:A.handled=none) (hit:s.heap.IsTupleIter it t i) (ht:s.heap.IsTuple t items) (hx:items[i]?=none)
  (k:∀h' e,yz it s.heap h'->(∃o,h'.get? e=some o/\o.cls=.type "StopIteration")->E (.ref e) { s with heap:=h' }):wpAny (model prog w) A (fh (.ref it)) Q E s:=by
 obtain⟨o,ho,hc,hd⟩:=id hit;obtain⟨ol,hol,hcl,nl,hdl⟩:=id ht;refine ae (gh (name:=lg "__next__") hit.typeIs F.slot_tuple_iterator_next (gc F.slot_tuple_iterator_next hit.typeIs F.entry_tuple_iterator_next ?_ (F.args_tuple_iterator_next_1 _)));have q0:∀{Q':af->ag->Prop}{E':af->ag->Prop}{B:cn},Q' (.ref t) s->wpAny (model prog w) B (field (.ref it) 0) Q' E' s:=λq=>fq ho hd (x:=.ref t) rfl q;have q1:∀{Q':af->ag->Prop}{E':af->ag->Prop}{B:cn},Q' (.int i 0) s->wpAny (model prog w) B (field (.ref it) 1) Q' E' s:=λq=>fq ho hd (x:=.int i 0) rfl q;refine ae (ai (ae (q0 ?_)));dsimp only;rw[if_neg (by simp)];refine ae (q1 (ae (gz hol hdl ?_)));rw[show((i:Int)).toNat=i from gb i];dsimp only;rw[hx];refine ae (ph (ae (yo ho hd (by simp) (W2 (show A.in1.handled=none from hh) λh' e kp st=>k h' e (λb u hb q=>kp b u ?_) st))));rw[kg _ _ (dh hb)];exact q
end
structure Draws (prog:bh) (w:cp) (it src:ah) (xs:List af) (st:Nat->da->Prop):Prop where
 keep:∀i h h',st i h->(∀b o,b=it∨b=src->h.get? b=some o->h'.get? b=some o)->st i h'
 there:∀i h,st i h->∃o vs,h.get? it=some o/\o.data=.fields vs
 item:∀(A:cn) (i:Nat) (x:af) (s:ag) (Q:af->ag->Prop) (E:af->ag->Prop),xs[i]?=some x->st i s.heap->
  (∀h',st (i+1) h'->jc it s.heap h'->Q x { s with heap:=h' })->wpAny (model prog w) A (fh (.ref it)) Q E s
 done:∀(A:cn) (i:Nat) (s:ag) (Q:af->ag->Prop) (E:af->ag->Prop),A.handled=none->xs[i]?=none->st i s.heap->
  (∀h' e,yz it s.heap h'->(∃o,h'.get? e=some o/\o.cls=.type "StopIteration")->E (.ref e) { s with heap:=h' })->wpAny (model prog w) A (fh (.ref it)) Q E s
structure Four (z TI TO i j u v:ah):Prop where
 a:z≠TO
 b:z≠i
 c:z≠j
 d:TO≠i
 e:TO≠j
 f:i≠j
 g:TI≠z
 h:TI≠TO
 k:TI≠i
 l:TI≠j
 u1:u≠z
 u2:u≠TO
 u3:u≠i
 u4:u≠j
 v1:v≠z
 v2:v≠TO
 v3:v≠i
 v4:v≠j
theorem iT {b x y c:ah}(h:b=x∨b=y) (p:x≠c) (q:y≠c):b≠c:=by
 rcases h with h|h
 ·rw[h];exact p
 ·rw[h];exact q
def wH (z TO i j:ah) (h h':da):Prop:=∀b o,b≠z->b≠TO->b≠i->b≠j->h.get? b=some o->h'.get? b=some o
section
variable{prog:bh}{w:cp}{A:cn}{E:af->ag->Prop}{s:ag}{z TI TO i j u v:ah}{xs ys:List af}{st su:Nat->da->Prop}
theorem W4 {n:Nat}{x y a b:af}{Q:af->ag->Prop}(F4:Four z TI TO i j u v) (P:Draws prog w i u xs st) (R:Draws prog w j v ys su) (hz:xw s.heap z TI TO .none) (hTI:oj s.heap TI (.ref i) (.ref j)) (hTO:oj s.heap TO a b)
  (p:st n s.heap) (r:su n s.heap) (hx:xs[n]?=some x) (hy:ys[n]?=some y)
  (k:∀h' T,s.heap.objs.size<=T->xw h' z TI TO (rawInt T)->oj h' TI (.ref i) (.ref j)->oj h' TO x y->st (n+1) h'->su (n+1) h'->oj h' T x y->wH z TO i j s.heap h'->Q (.ref T) { s with heap:=h' }):
  wpAny (model prog w) A (kz.«zip.__next__» ⟨[.ref z],[]⟩) (λfin s'=>∃v,fin=.done (.ret v)/\Q v s') E s:=by
 refine ae (ai (ae (fq hz rfl (x:=.bool false) rfl (ae (fq hz rfl (x:=.ref TI) rfl (ae (gz hTI rfl ?_)))))));have fr:∀{Q':Bool->ag->Prop}{E':af->ag->Prop},Q' true s->wpAny (model prog w) A (qi (.ref z)) Q' E' s:=λq=>ae (fq hz rfl (x:=.none) rfl (ai q));refine ae (fr ?_);rw[if_pos rfl];refine ae (ph (ae (fq hz rfl (x:=.ref TO) rfl (ae (jg hz (by simp) λg1 z1 b1=>?_)))));have z1':xw g1 z TI TO .ellipsis:=z1;refine ae ?_;show wpAny _ _ (forIn [(gq i,0),(gq j,1)] _ _) _ _ _;rw[pf];refine ae (ae (sf ?_));show wpAny _ _ (fh (.ref i) >>= _) _ _ _;refine ae (P.item A n x _ _ _ hx (P.keep n _ _ p λb o hb q=>b1.extBut _ _ (iT hb (dh F4.b) F4.u1) q) λg2 p2 b2=>ai ?_);have t2:oj g2 TO a b:=b2.extBut _ _ F4.d (b1.extBut _ _ (dh F4.a) hTO);refine ae (gz t2 rfl (ae (uq t2 λg3 t3 b3=>ae (qc (ai ?_)))));have t3':oj g3 TO x b:=t3;dsimp only;rw[pf];refine ae (ae (sf ?_));show wpAny _ _ (fh (.ref j) >>= _) _ _ _;have r3:su n g3:=R.keep n _ _ r λb o hb q=>b3.extBut _ _ (iT hb (dh F4.e) F4.v2) (b2.extBut _ _ (iT hb (dh F4.f) F4.v3) (b1.extBut _ _ (iT hb (dh F4.c) F4.v1) q));refine ae (R.item A n y _ _ _ hy r3 λg4 r4 b4=>ai ?_);have t4:oj g4 TO x b:=b4.extBut _ _ F4.e t3';refine ae (gz t4 rfl (ae (uq t4 λg5 t5 b5=>ae (qc (ai ?_)))));have t5':oj g5 TO x y:=t5;dsimp only;rw[List.forIn_nil];refine ai ?_;refine ae (gz t5' rfl (ae (wpAny_newTuple ?_)));have z5:xw g5 z TI TO .ellipsis:=b5.extBut _ _ F4.a (b4.extBut _ _ F4.c (b3.extBut _ _ F4.a (b2.extBut _ _ F4.b z1')));have sz:g5.objs.size=s.heap.objs.size:=by rw[b5.1,b4.1,b3.1,b2.1,b1.1]
 have all5:wH z TO i j s.heap g5:=λc o c1 c2 c3 c4 q=>b5.extBut _ _ c2 (b4.extBut _ _ c4 (b3.extBut _ _ c2 (b2.extBut _ _ c3 (b1.extBut _ _ c1 q))));have p5:st (n+1) g5:=P.keep _ _ _ p2 λb o hb q=>b5.extBut _ _ (iT hb (dh F4.d) F4.u2) (b4.extBut _ _ (iT hb F4.f F4.u4) (b3.extBut _ _ (iT hb (dh F4.d) F4.u2) q));have r5:su (n+1) g5:=R.keep _ _ _ r4 λb o hb q=>b5.extBut _ _ (iT hb (dh F4.e) F4.v2) q;generalize hob:({ cls:=.type "tuple",dict:=none,data:=.seq [x,y].toArray }:Obj)=ob;have zp:xw (g5.push ob) z TI TO .ellipsis:=aj _ z5;refine ae (ae (jg zp (by simp) λg7 z7 b7=>?_));have z7':xw g7 z TI TO (rawInt g5.objs.size):=z7;refine jg z7' (by simp) λg8 z8 b8=>ai ⟨_,rfl, ?_⟩;have up:∀c o,c≠z->g5.get? c=some o->g8.get? c=some o:=λc o c1 q=>b8.extBut _ _ c1 (b7.extBut _ _ c1 (aj _ q));have lz:z<g5.objs.size:=av z5;have T8:oj g8 g5.objs.size x y:=b8.extBut _ _ (jd lz) (b7.extBut _ _ (jd lz) (by rw[<-hob];exact az _ rfl));refine k g8 g5.objs.size (sh sz.symm) z8 (up _ _ F4.g (all5 _ _ F4.g F4.h F4.k F4.l hTI)) (up _ _ (dh F4.a) t5') (P.keep _ _ _ p5 λb o hb q=>up _ _ (iT hb (dh F4.b) F4.u1) q) (R.keep _ _ _ r5 λb o hb q=>up _ _ (iT hb (dh F4.c) F4.v1) q) T8 λc o c1 c2 c3 c4 q=>up _ _ c1 (all5 c o c1 c2 c3 c4 q)
end
section
variable{prog:bh}{w:cp}{A:cn}{E:af->ag->Prop}{s:ag}{z TI TO i j u v:ah}{xs ys:List af}{st su:Nat->da->Prop}
theorem W5 {n:Nat}{a b:af}{Q:PySem.Fin->ag->Prop}(hh:A.handled=none) (F4:Four z TI TO i j u v) (P:Draws prog w i u xs st) (R:Draws prog w j v ys su) (hz:xw s.heap z TI TO .none) (hTI:oj s.heap TI (.ref i) (.ref j)) (hTO:oj s.heap TO a b)
  (p:st n s.heap) (r:su n s.heap) (hend:xs[n]?=none∨ys[n]?=none)
  (k:∀h' e,wH z TO i j s.heap h'->(∃o,h'.get? e=some o/\o.cls=.type "StopIteration")->E (.ref e) { s with heap:=h' }):
  wpAny (model prog w) A (kz.«zip.__next__» ⟨[.ref z],[]⟩) Q E s:=by
 refine ae (ai (ae (fq hz rfl (x:=.bool false) rfl (ae (fq hz rfl (x:=.ref TI) rfl (ae (gz hTI rfl ?_)))))));have fr:∀{Q':Bool->ag->Prop}{E':af->ag->Prop},Q' true s->wpAny (model prog w) A (qi (.ref z)) Q' E' s:=λq=>ae (fq hz rfl (x:=.none) rfl (ai q));refine ae (fr ?_);rw[if_pos rfl];refine ae (ph (ae (fq hz rfl (x:=.ref TO) rfl (ae (jg hz (by simp) λg1 z1 b1=>?_)))));have z1':xw g1 z TI TO .ellipsis:=z1;have p1:st n g1:=P.keep n _ _ p λb o hb q=>b1.extBut _ _ (iT hb (dh F4.b) F4.u1) q;have fin:∀(g:da) (e:ah),xw g z TI TO .ellipsis->wH z TO i j s.heap g->(∃o,g.get? e=some o/\o.cls=.type "StopIteration")->
   wpAny (model prog w) A (setField (.ref z) 0 .none) (λ_ s'=>E (.ref e) s') E { s with heap:=g }:=λg e zz bt ⟨o,he,hc⟩=>
  jg zz (by simp) λg' _ b'=>k g' e (λc u c1 c2 c3 c4 q=>b'.extBut _ _ c1 (bt c u c1 c2 c3 c4 q)) ⟨o,b'.extBut _ _ (λq=>by subst q;rw[zz]at he;cases he;simp at hc) he,hc⟩
 refine ae ?_;show wpAny _ _ (forIn [(gq i,0),(gq j,1)] _ _) _ _ _;rw[pf];refine ae (ae (sf ?_));show wpAny _ _ (fh (.ref i) >>= _) _ _ _
 cases hx:xs[n]? with
 |none=>exact ae (P.done A n _ _ _ hh hx p1 λg2 e b2 he=>fin g2 e (b2 _ _ F4.b z1') (λc u c1 _ c3 _ q=>b2 _ _ c3 (b1.extBut _ _ c1 q)) he)
 |some x=>
  have hy:ys[n]?=none:=by
   rcases hend with q|q
   ·rw[hx]at q;cases q
   ·exact q
  refine ae (P.item A n x _ _ _ hx p1 λg2 p2 b2=>ai ?_);have t2:oj g2 TO a b:=b2.extBut _ _ F4.d (b1.extBut _ _ (dh F4.a) hTO);refine ae (gz t2 rfl (ae (uq t2 λg3 t3 b3=>ae (qc (ai ?_)))));dsimp only;rw[pf];refine ae (ae (sf ?_));show wpAny _ _ (fh (.ref j) >>= _) _ _ _;have r3:su n g3:=R.keep n _ _ r λb o hb q=>b3.extBut _ _ (iT hb (dh F4.e) F4.v2) (b2.extBut _ _ (iT hb (dh F4.f) F4.v3) (b1.extBut _ _ (iT hb (dh F4.c) F4.v1) q));exact ae (R.done A n _ _ _ hh hy r3 λg4 e b4 he=>fin g4 e (b4 _ _ F4.c (b3.extBut _ _ F4.a (b2.extBut _ _ F4.b z1'))) (λc u c1 c2 c3 c4 q=>b4 _ _ c4 (b3.extBut _ _ c2 (b2.extBut _ _ c3 (b1.extBut _ _ c1 q)))) he)
theorem wI {it t:ah}{items:Array af}(hne:t≠it):Draws prog w it t items.toList (λi h=>h.IsTupleIter it t i/\h.IsTuple t items) where
 keep:=λi h h' ⟨⟨o,e,r⟩,⟨o2,e2,r2⟩⟩ k=>⟨⟨o,k _ _ (.inl rfl) e,r⟩,⟨o2,k _ _ (.inr rfl) e2,r2⟩⟩
 there:=λi h ⟨⟨o,e,_,d⟩,_⟩=>⟨o,_,e,d⟩
 item:=λA i x s Q E hx ⟨a,b⟩ k=>W0 a b (by simpa using hx) λh' a' sb=>k h' ⟨a',b.extBut sb.extBut hne⟩ sb
 done:=λA i s Q E hh hx ⟨a,b⟩ k=>W3 hh a b (by simpa using hx) k
end
def A9 (K:aq) (t u:ah):It:=
 ⟨λi H=>∃vs ws v w,Aq K H t vs/\Aq K H u ws/\vs[i]?=some v/\ws[i]?=some w,
  λi H x H'=>∃p v w,x=.ref p/\H p=none/\H'=aZ H p (.tup [v,w])/\(∀vs,Aq K H t vs->vs[i]?=some v)/\∀ws,Aq K H u ws->ws[i]?=some w,
  λi H=>∃vs ws,Aq K H t vs/\Aq K H u ws/\(vs.length<=i∨ws.length<=i)⟩
structure ZipAt (z TI TO i j t u:ah) (n:Nat) (h:da):Prop where
 zp:xw h z TI TO .none
 ti:oj h TI (.ref i) (.ref j)
 to:∃a b,oj h TO a b
 i1:h.IsTupleIter i t n
 i2:h.IsTupleIter j u n
section
variable{X:Cx}{pins:List (ah×Obj)}{σ:St}{H:Hp}{s:ag}
theorem Inv.turns {h':da}{ch:List ah}{T:ah}{vs:List V}{its:List af}(I:Inv X pins σ H s) (Cy:∀b∈ch,dJ X pins H b) (k:∀b o,b∉ch->s.heap.get? b=some o->h'.get? b=some o) (there:∀b∈ch,∃o,h'.get? b=some o)
  (hT:s.heap.objs.size<=T) (hv:Ae vs its) (hl:vs.length<=cf) (tp:Az h' T its.toArray):Inv X pins σ (aZ H T (.tup vs)) { s with heap:=h' }:=by
 have nT:H T=none:=I.hok.fresh hT;have nch:∀b o,H b=some o->b∉ch:=λb o q z=>by rw[(Cy b z).1]at q;cases q
 have un:Un (eQ X.stack) ch H (aZ H T (.tup vs)) s.heap h':=
  ⟨λb o q _ _ hb=>k b o hb q,λb o q _ _ hb=>⟨o.slots,k b o hb q⟩,λb o q n _=>by rw[cF (bf (bc (av q) hT))];exact n,
   λb o q hb=>⟨o,k b o hb q⟩,λb xs q=>dG nT b _ q,λb o u q=>dG nT b _ q,λb ps q=>⟨#[],by rw[dG nT b _ q];simp⟩⟩
 have ok:Bk X.prog X.w (aZ H T (.tup vs)) h':=λb o q=>by
  by_cases hb:b=T
  ·subst hb;rw[eG]at q;cases q;exact⟨hl,its,hv,tp⟩
  ·rw[cF hb]at q;refine(I.hok b o q).stay (λc v hc z=>k c v ?_ z) (λc z=>dG nT c _ z) λc xs z=>dG nT c _ z
   rcases hc with rfl|hc
   ·exact nch c o q
   ·exact nch c _ hc
 exact I.call (g':=s.gens) (d':=s.drawn) (t':=s.toks) un ok I.bare λb hb=>let ⟨_,f1,_,f3,f4,f5⟩:=Cy b hb;⟨f3,f1,f4,f5⟩
theorem Inv.turns0 {h':da}{ch:List ah}(I:Inv X pins σ H s) (Cy:∀b∈ch,dJ X pins H b) (k:∀b o,b∉ch->s.heap.get? b=some o->h'.get? b=some o):Inv X pins σ H { s with heap:=h' }:=by
 have nch:∀b o,H b=some o->b∉ch:=λb o q z=>by rw[(Cy b z).1]at q;cases q
 refine I.call (g':=s.gens) (d':=s.drawn) (t':=s.toks) (ch:=ch) ⟨λb o q _ _ hb=>k b o hb q,λb o q _ _ hb=>⟨o.slots,k b o hb q⟩,λ_ _ _ n _=>n,λb o q hb=>⟨o,k b o hb q⟩,λ_ _ q=>q,λ_ _ _ q=>q,λb ps q=>⟨#[],by rw[q];simp⟩⟩ (λb o q=>?_) I.bare λb hb=>let ⟨_,f1,_,f3,f4,f5⟩:=Cy b hb;⟨f3,f1,f4,f5⟩;refine(I.hok b o q).stay (λc v hc z=>k c v ?_ z) (λ_ z=>z) λ_ _ z=>z
 rcases hc with rfl|hc
 ·exact nch c o q
 ·exact nch c _ hc
end
theorem W6 {P:bh}{w:cp}{K:aq}{elts:List bq}{kk:Nat}{tp:Pos}{z TI TO i j t u:ah}(F4:Four z TI TO i j t u) (hti:t≠i) (huj:u≠j):
  Turn P w K (.Tuple elts kk tp) (A9 K t u) [z,TI,TO,i,j] z (ZipAt z TI TO i j t u) where
 mem:=by simp
 obj:=λn h st b hb=>by
  obtain⟨zp,ti,⟨a,b',to⟩,⟨o1,e1,_,d1⟩,⟨o2,e2,_,d2⟩⟩:=st;simp at hb
  rcases hb with rfl|rfl|rfl|rfl|rfl
  ·exact⟨_,zp,λv q=>by cases q⟩
  ·exact⟨_,ti,λv q=>by cases q⟩
  ·exact⟨_,to,λv q=>by cases q⟩
  ·exact⟨_,e1,λv q=>by rw[d1]at q;cases q⟩
  ·exact⟨_,e2,λv q=>by rw[d2]at q;cases q⟩
 keep:=λn h h' st k=>by obtain⟨zp,ti,⟨a,b',to⟩,⟨o1,e1,r1⟩,⟨o2,e2,r2⟩⟩:=st;exact⟨k _ (by simp) _ zp,k _ (by simp) _ ti,⟨a,b',k _ (by simp) _ to⟩,⟨o1,k _ (by simp) _ e1,r1⟩,⟨o2,k _ (by simp) _ e2,r2⟩⟩
 item:=by
  intro X hP hw hK hc n pins s σ H E I hf st hg;subst hP hw hK;obtain⟨vs,ws,v,w',hq,hr,hv,hw'⟩:=hg;obtain⟨its,rv,p1,z1⟩:=I.tuple hq;obtain⟨jts,rw',p2,z2⟩:=I.tuple hr;obtain⟨x,hx,rx⟩:=rv.get hv;obtain⟨y,hy,ry⟩:=rw'.get hw';obtain⟨zp,ti,⟨a,b,to⟩,i1,i2⟩:=st;have hT:s.TypeIs (.ref z) "zip" := ⟨_,zp,rfl⟩;unfold pyNext;refine ae (vk (gh (name:=lg "__next__") hT F.slot_zip_next (gc F.slot_zip_next hT F.entry_zip_next
   (W4 F4 (wI (items:=its.toArray) hti) (wI (items:=jts.toArray) huj) zp ti to ⟨i1,p1⟩ ⟨i2,p2⟩ (by simpa using hx) (by simpa using hy) λh' T De a1 a2 a3 a4 a5 a6 bt=>ai ⟨_,rfl, ?_⟩) (F.args_zip_next_1 _))))
  refine wpAny_letOwnedTupleGo_zip a1 λh2 z2' sb=>?_;have kp:∀b o,b∉[z,TI,TO,i,j]->s.heap.get? b=some o->h2.get? b=some o:=λb o hb q=>by simp at hb;obtain⟨n1,n2,n3,n4,n5⟩:=hb;exact sb.extBut _ _ n1 (bt b o n1 n3 n4 n5 q)
  have Tz:T≠z:=jd (bc (av zp) De);have T2:oj h2 T x y:=sb.extBut _ _ Tz a6;have th:∀b∈[z,TI,TO,i,j],∃o,h2.get? b=some o:=λb hb=>by
   obtain⟨⟨o1,e1,_⟩,_⟩:=a4;obtain⟨⟨o2,e2,_⟩,_⟩:=a5;simp at hb
   rcases hb with rfl|rfl|rfl|rfl|rfl
   ·exact⟨_,z2'⟩
   ·exact⟨_,sb.extBut _ _ F4.g a2⟩
   ·exact⟨_,sb.extBut _ _ (dh F4.a) a3⟩
   ·exact⟨_,sb.extBut _ _ (dh F4.b) e1⟩
   ·exact⟨_,sb.extBut _ _ (dh F4.c) e2⟩
  have I2:=Inv.turns (T:=T) (vs:=[v,w']) (its:=[x,y]) I hf kp th De (.cons rx (.cons ry .nil)) (by show 2<=cf;decide) ⟨_,T2,rfl,rfl,_,rfl⟩;have nT:H T=none:=I.hok.fresh De;refine⟨.ref T,_,I2,rfl,⟨T,v,w',rfl,nT,rfl,λBp h'=>by rw[I.tuple_inj h' hq];exact hv,λws' h'=>by rw[I.tuple_inj h' hr];exact hw'⟩, ?_,λb hb=>?_⟩
  ·exact⟨z2',sb.extBut _ _ F4.g a2,⟨_,_,sb.extBut _ _ (dh F4.a) a3⟩,a4.1.extBut sb.extBut (dh F4.b),a5.1.extBut sb.extBut (dh F4.c)⟩
  ·obtain⟨o,q,_⟩:∃o,s.heap.get? b=some o/\True:=by
    obtain⟨o1,e1,_⟩:=i1;obtain⟨o2,e2,_⟩:=i2;simp at hb
    rcases hb with rfl|rfl|rfl|rfl|rfl
    ·exact⟨_,zp,trivial⟩
    ·exact⟨_,ti,trivial⟩
    ·exact⟨_,to,trivial⟩
    ·exact⟨_,e1,trivial⟩
    ·exact⟨_,e2,trivial⟩
   rw[cF (bf (bc (av q) De))];exact(hf b hb).1
 done:=by
  intro X hP hw hK hc n pins s σ H E I hf st hg;subst hP hw hK;obtain⟨vs,ws,hq,hr,hend⟩:=hg;obtain⟨its,rv,p1,z1⟩:=I.tuple hq;obtain⟨jts,rw',p2,z2⟩:=I.tuple hr;have l1:=rv.length;have l2:=rw'.length;obtain⟨zp,ti,⟨a,b,to⟩,i1,i2⟩:=st;have hT:s.TypeIs (.ref z) "zip" := ⟨_,zp,rfl⟩;unfold pyNext;refine ae (vk (gh (name:=lg "__next__") hT F.slot_zip_next (gc F.slot_zip_next hT F.entry_zip_next
   (W5 (show X.A.in1.handled=none from I.ok.hd hc) F4 (wI (items:=its.toArray) hti) (wI (items:=jts.toArray) huj) zp ti to ⟨i1,p1⟩ ⟨i2,p2⟩ (by
    rcases hend with q|q
    ·exact .inl (by simp;omega)
    ·exact .inr (by simp;omega)) λh' e bt ⟨o,he,hcl⟩=>ae (xo (T := "StopIteration") (b:=true) ⟨o,he,hcl⟩ isSubtype_stop (ai ⟨rfl, ?_⟩))) (F.args_zip_next_1 _))))
  refine Inv.turns0 I hf λb o hb q=>?_;simp at hb;exact bt b o hb.1 hb.2.2.1 hb.2.2.2.1 hb.2.2.2.2 q
 self:=λ_ _ _ _ _ st h=>wpAny_pyIter_zip st.zp h
def IS (t u:ah) (h:da) (z:ah) (h':da):Prop:=∃TI TO i j,ZipAt z TI TO i j t u 0 h'/\Four z TI TO i j t u/\(∀b∈[z,TI,TO,i,j],h.objs.size<=b)/\∀b o,h.get? b=some o->h'.get? b=some o
theorem sY {h h':da}{o:Obj}(e:h'=h.push o) (nf:o.isFreed=false):h'.get? h.objs.size=some o:=by rw[e];exact az _ nf
theorem W7 (n t u:Nat) (lt:t<n) (lu:u<n):Four (n+4) (n+2) (n+3) n (n+1) t u:=by
 have ne:∀{a b:Nat},(a<b∨b<a)->a≠b:=λh=>by omega
 exact⟨ne (by omega),ne (by omega),ne (by omega),ne (by omega),ne (by omega),ne (by omega),ne (by omega),ne (by omega),ne (by omega),ne (by omega),ne (by omega),ne (by omega),ne (by omega),ne (by omega),ne (by omega),ne (by omega),ne (by omega),ne (by omega)⟩
theorem W8 {t u:ah}{hp h1 h2 h3 h4 h5:da}{n:Nat}(hn:n=hp.objs.size) (lt:t<n) (lu:u<n)
  (e1:h1=hp.push { cls:=.type "tuple_iterator",data:=.fields #[.ref t,.int 0 0] }) (e2:h2=h1.push { cls:=.type "tuple_iterator",data:=.fields #[.ref u,.int 0 0] }) (e3:h3=h2.push { cls:=.type "tuple",data:=.seq #[.ref n,.ref (n+1)] })
  (e4:h4=h3.push { cls:=.type "tuple",data:=.seq #[.none,.none] }) (e5:h5=h4.push { cls:=.type "zip",data:=.fields #[.none,.bool false,.bool false,.ref (n+2),.ref (n+3)] }):IS t u hp (n+4) h5:=by
 have z1:h1.objs.size=n+1:=by rw[e1,ff,hn]
 have z2:h2.objs.size=n+2:=by rw[e2,ff,z1]
 have z3:h3.objs.size=n+3:=by rw[e3,ff,z2]
 have z4:h4.objs.size=n+4:=by rw[e4,ff,z3]
 have up:∀(h:da) (o:Obj) (b:ah) (q:Obj),h.get? b=some q->(h.push o).get? b=some q:=λh o b q e=>aj _ e;have g1:=sY e1 rfl;have g2:=sY e2 rfl;have g3:=sY e3 rfl;have g4:=sY e4 rfl;have g5:=sY e5 rfl;rw[<-hn]at g1;rw[z1]at g2;rw[z2]at g3;rw[z3]at g4;rw[z4]at g5;have u2:∀b q,h2.get? b=some q->h5.get? b=some q:=λb q e=>by rw[e5,e4,e3];exact up _ _ _ _ (up _ _ _ _ (up _ _ _ _ e))
 have u1:∀b q,h1.get? b=some q->h5.get? b=some q:=λb q e=>u2 b q (by rw[e2];exact up _ _ _ _ e);have u3:∀b q,h3.get? b=some q->h5.get? b=some q:=λb q e=>by rw[e5,e4];exact up _ _ _ _ (up _ _ _ _ e)
 have u4:∀b q,h4.get? b=some q->h5.get? b=some q:=λb q e=>by rw[e5];exact up _ _ _ _ e
 refine⟨n+2,n+3,n,n+1,⟨g5,u3 _ _ g3,⟨_,_,u4 _ _ g4⟩,⟨_,u1 _ _ g1,rfl,rfl⟩,⟨_,u2 _ _ g2,rfl,rfl⟩⟩, ?_, ?_,λb q e=>u1 b q (by rw[e1];exact up _ _ _ _ e)⟩
 ·exact W7 n t u lt lu
 ·intro b hb;rw[<-hn];simp at hb
  rcases hb with rfl|rfl|rfl|rfl|rfl
  ·exact rh _ _
  ·exact rh _ _
  ·exact rh _ _
  ·exact ak _
  ·exact rh _ _
theorem W9 {t u:ah}(xs ys:Array af):Meets (kz.«zip.__new__» ⟨[.type "zip",.ref t,.ref u],[]⟩) (λ_ R s=>s.heap.IsTuple t xs/\s.heap.IsTuple u ys/\∀h' z,IS t u s.heap z h'->R (.ok (.ret (.ref z))) { s with heap:=h' }):=
 .of_wp λprog w A R s h=>by
  obtain⟨ht,hu,k⟩:=h;obtain⟨hp,g,d,tk,os⟩:=s;have sub:=sub_zip;have ht':(⟨hp,g,d,tk,os⟩:ag).heap.IsTuple t xs:=ht;have Ap:(⟨hp.push { cls:=.type "tuple_iterator",data:=.fields #[.ref t,.int 0 0] },g,d,tk,os⟩:ag).heap.IsTuple u ys:=hu.push _
  wp_walk using nq ht',nq Ap
  have lt:t<hp.objs.size:=by obtain⟨o,e,_⟩:=ht;exact av e
  have lu:u<hp.objs.size:=by obtain⟨o,e,_⟩:=hu;exact av e
  simp only[ff];refine⟨_,rfl,k _ _ (W8 rfl lt lu rfl rfl rfl rfl ?_)⟩;simp only[ff];rfl
section
variable{X:Cx}{G:Cfg}{E:XK}{a b:bq}{elts:List bq}{kk:Nat}{tp p pos:Pos}{ta:TA}{ms:M zu }
def XA (K:aq) (ta:TA):TI:=λσ H R=>ta σ H λvs H1=>∃t u xs ys,vs=[.ref t,.ref u]/\Aq K H1 t xs/\Aq K H1 u ys/\R (A9 K t u) H1
theorem XB:dj "zip" = some (.type "zip"):=by decide +kernel
theorem XC (hg:Gl X "zip") (hm:X.mg "zip" = none) (ha:PA X [a,b] ta) (hs:ar [a,b] X.env=[(false,eval a X.env),(false,eval b X.env)]:=by rfl) (hs2:ar [b] X.env=[(false,eval b X.env)]:=by rfl):
  PI X (.Tuple elts kk tp) (.Call (.Name "zip" p) [a,b] [] pos) (XA X.K ta):=by
 intro pins s σ H R I h;refine Call_ (oJ I hg hm XB (jx (bD (ha pos pins s σ H _ I h) λus s1 ⟨vs,H1,I1,r1,q1⟩=>?_) (by rw[hs,hs2]) (by rw[hs2];rfl)));obtain⟨t,u,xs,ys,e,hq,hr,q⟩:=q1;subst e;obtain⟨u1,u2,rfl,e1,e2⟩:=sD r1;cases e1;cases e2;obtain⟨its,rv,p1,_⟩:=I1.tuple hq;obtain⟨jts,rw',p2,_⟩:=I1.tuple hr;refine callType_new F.called_zip (by decide) (F.typeCall_zip_2 _ _) (F.newCall_zip_2 _ _) (λobj=>F.args_object_init_3 obj _ _) F.entry_zip_new (W9 its.toArray jts.toArray) ⟨p1,p2,λh' z nz=>?_⟩;obtain⟨TI,TO,i,j,za,f4,fresh,kp⟩:=nz;refine⟨⟨_,za.zp,rfl⟩, ?_⟩;have I2:Inv X pins σ H1 { s1 with heap:=h' }:=I1.kept (t':=s1.toks) kp;refine wpAny_pyIter_zip za.zp ⟨z,[z,TI,TO,i,j],_,_,H1,rfl,I2,W6 f4 f4.u3 f4.v4,za,λb hb=>I1.fpOk (fresh b hb) (I1.hok.fresh (fresh b hb)),q⟩
def qS (xs ys:zu):Src:=dD ((xs.zip ys).map λq=>.tup [q.1,q.2])
def qT:zu->Hs->Rs Src
 | [.tup xs,.tup ys],h=>.ok (qS xs ys) h
 |_,_=>.bad
theorem By.zip {μ:Nat->ah}{n:Nat}{H:Hp}{t u:ah}{vs ws:List V}{xs ys:zu}{K:aq}(e:H t=some (.tup vs)) (e':H u=some (.tup ws)) (r:RelDL G μ n H xs vs) (r':RelDL G μ n H ys ws):By G μ n H (qS xs ys) (A9 K t u):=by
 intro k μ2 h2 H2 x2 s2;have f:=x2.im t (.tup vs) trivial e;have f':=x2.im u (.tup ws) trivial e';have g:=RelDL.mono x2 _ _ r;have g':=RelDL.mono x2 _ _ r';have hl:(qS xs ys).n=min xs.length ys.length:=by simp[qS,dD]
 constructor
 ·intro hk d hd;have hd':((xs.zip ys).map λq=>Dv.tup [q.1,q.2])[k]?=some d:=hd;rw[fw]at hd'
  cases q:(xs.zip ys)[k]? with
  |none=>rw[q]at hd';cases hd'
  |some xy=>
   rw[q]at hd';cases hd';obtain⟨qx,qy⟩:=xp.mp q;obtain⟨v,ev,rv⟩:=g.get qx;obtain⟨w',ew,rw'⟩:=g'.get qy;refine⟨⟨vs,ws,v,w',Aq.of f,Aq.of f',ev,ew⟩,λx H' hy=>?_⟩;obtain⟨pp,v1,w1,rfl,np,rfl,a1,a2⟩:=hy;have b1:=a1 vs (Aq.of f);have b2:=a2 ws (Aq.of f');rw[ev]at b1;rw[ew]at b2
   cases b1;cases b2
   have sm:Bx H2 (aZ H2 pp (.tup [v,w'])):=dG np;exact⟨sm,pp,_,rfl,eG,RelDL.cons (Ac.mono (Ext.same sm) _ _ rv) (RelDL.cons (Ac.mono (Ext.same sm) _ _ rw') RelDL.nil)⟩
 ·intro hk _;refine⟨vs,ws,Aq.of f,Aq.of f', ?_⟩;rw[g.length,g'.length,hk,hl];omega
theorem XD (hg:Gl X "zip") (hm:X.mg "zip" = none) (ha:dR X G E [a,b] ms) (hs:ar [a,b] X.env=[(false,eval a X.env),(false,eval b X.env)]:=by rfl) (hs2:ar [b] X.env=[(false,eval b X.env)]:=by rfl):
  kG X G E (.Tuple elts kk tp) (.Call (.Name "zip" p) [a,b] [] pos) (aQ qT ms):=λhK=>
 PI.imp (XC hg hm (ha hK) hs hs2) λσ H R ⟨μ,ρ,h,rs,s,o⟩=>kC rs s o λμ1 ds h1 vs H1 x1 As s1 r1 o1=>by
  unfold qT at o1
  split at o1
  ·rename_i xs ys;obtain⟨v,v',rfl,rv,rv'⟩:=AU r1;obtain⟨t,us,rfl,e,r⟩:=rv;obtain⟨u,ws,rfl,e',r'⟩:=rv';exact⟨t,u,us,ws,rfl,Aq.of e,Aq.of e',o1.val s1 (By.zip e e' r r')⟩
  ·exact o1.elim
end
section
variable{prog:bh}{w:cp}{A:cn}{E:af->ag->Prop}{s:ag}{K:Frag}{e C N:ah}{o:Obj}
end
section
variable{P:bh}{w:cp}{K:aq}{mg:Str->Option af}{base:da}{N:zr}{qual:Str}{scope:ic}{f:ah}{cdv:af}{cl:List (Str×ah)}{A:cn}{outer:List Env}{s0:ag}{H0:Hp}{E0:XK}{G:Cfg}{E:XK}{k:Nat}
end
section
variable{P:bh}{w:cp}{K:aq}{mg:Str->Option af}{base:da}{N:zr}{params:pg}{body:bq}{scope:ic}{f c':ah}{cl:List (Str×ah)}{A:cn}{outer:List Env}{s:ag}{H:Hp}{E:XK}{G:Cfg}{k:Nat}{μ:Nat->ah}{h:Hs}{ds:zu}
end
section
variable{X:Cx}{pins:List (ah×Obj)}{σ:St}{H:Hp}{s:ag}
end
section
variable{X:Cx}{G:Cfg}{E:XK}{k:Nat}{N:zr}{params:pg}{body:bq}{scope:ic}{me:M Dv}{ncl:Nat}{NE:ah}
end
section
variable{P:bh}{w:cp}{K:aq}{mg:Str->Option af}{base:da}{f:ah}{G:Cfg}{k:Nat}{Nm Nl:zr}{params:pg}{body:bq}{scope:ic}{me:M Dv}{ncl:Nat}{NE:ah}{mb:MS}
end
def oW (mg:Str->Option af) (base:da):Prop:=∃bm ob,mg "__builtins__" = some (.ref bm)/\bm≠builtinsNs/\base.get? bm=some ob/\ob.cls=.type "module"/\ob.dict=some builtinsNs/\ob.data=.plain
section
variable{X:Cx}{G:Cfg}{params:pg}{body:bq}{scope:ic}{lpos:Pos}{c P:ah}
end
section
variable{X:Cx}{G:Cfg}{E:XK}{k:Nat}{q x:Str}{p pos lpos:Pos}{params:pg}{body:bq}{scope:ic}{c P fr:ah}{fdr:bj}{Nl:zr}{me:M Dv}{n ncl j:Nat}{mb:MS}{caps:zq}
end
section
variable{X:Cx}{G:Cfg}
open Classical in
def isT (H:Hp) (tx:Dt) (u:af):Bool:=decide (∃v t,RelV v u/\Den jN H t v/\bM t tx=true)
open Classical in
theorem IT {H:Hp}{tx t:Dt}{u:af}{v:V}(r:RelV v u) (d:Den jN H t v):isT H tx u=bM t tx:=by
 unfold isT
 cases q:bM t tx with
 |true=>exact decide_eq_true ⟨v,t,r,d,q⟩
 |false=>refine decide_eq_false λ⟨v',t',r',d',q'⟩=>?_;have e:=r'.inj r;subst e;rw[Den.inj t' t v' d' d,q]at q';cases q'
theorem sZ {H:Hp}{tx:Dt}:∀{ts:List Dt}{vs:List V}{us:List af},Aj jN H ts vs->Ae vs us->us.any (isT H tx)=ts.any λt=>bM t tx
 | [],_,_,d,r=>by rw[Aj]at d;subst d;cases r;rfl
 |t::ts,_,_,d,r=>by
  rw[Aj]at d;obtain⟨v,rr,rfl,d1,d2⟩:=d
  cases r with
  |cons r1 r2=>rw[List.any_cons,List.any_cons,IT r1 d1,sZ d2 r2]
def wJ (K:aq) (neg:Bool):R2:=λx y H Q=>∃a vs ts tx,y=.ref a/\(Bd K H a vs∨Aq K H a vs)/\Aj jN H ts vs/\Den jN H tx x/\(∀t∈ts,eK t<=cH/\nod t=true)/\nod tx=true/\Q (.bl (if neg then !(ts.any λt=>bM t tx)else ts.any λt=>bM t tx)) H
theorem wK {pins:List (ah×Obj)}{σ:St}{H:Hp}{s:ag}{x:V}{v:af}{vs:List V}{its:List af}{ts:List Dt}{tx:Dt}(hu:X.A.units+64<cLine) (I:Inv X pins σ H s) (rx:RelV x v) (r:Ae vs its) (d:Aj jN H ts vs) (dx:Den jN H tx x)
  (ht:∀t∈ts,eK t<=cH/\nod t=true) (nx:nod tx=true):∀y,y∈its.toArray->jz X.A.in1 s y v (isT H tx y):=λy hy=>by
 have hy':y∈its:=by simpa using hy
 obtain⟨j,hj,e⟩:=kr.mp hy';have hl:=r.length;obtain⟨u,eu,ru⟩:=r.get (i:=j) (x:=vs[j]'(by omega)) (br (by omega));have:u=y:=by rw[br hj,e]at eu;cases eu;rfl
 subst this;obtain⟨t,et,dt⟩:=d.get (i:=j) (br (by omega:j<vs.length));obtain⟨h1,h2⟩:=ht t (di et);rw[IT ru dt];exact(HE I.hok cH X.A.in1 t tx _ x _ v h1 (by show X.A.units+1+cH+1<cLine;unfold cH;omega) h2 nx dt dx ru rx).2
theorem XE (hu:X.A.units+64<cLine):Be X (compareOp .In) (wJ X.K false):=by
 intro pins s σ H x y v u Q I r1 r2 ⟨a,vs,ts,tx,e,hs,d,dx,ht,nx,q⟩;subst e;cases r2
 rcases hs with hs|hs
 ·obtain⟨its,r,pl,hz⟩:=I.list hs;refine SeqAt.in_listAt (isT H tx) pl.isList (wK hu I r1 r d dx ht nx) ?_;exact⟨.bl _,H,I,by rw[show its.toArray.any (isT H tx)=its.any (isT H tx)by simp,sZ d r];rfl,q⟩
 ·obtain⟨its,r,pl,hz⟩:=I.tuple hs;refine SeqAt.in_tupleAt (isT H tx) pl (wK hu I r1 r d dx ht nx) ?_;exact⟨.bl _,H,I,by rw[show its.toArray.any (isT H tx)=its.any (isT H tx)by simp,sZ d r];rfl,q⟩
theorem IU (hu:X.A.units+64<cLine):Be X (compareOp .NotIn) (wJ X.K true):=by
 intro pins s σ H x y v u Q I r1 r2 ⟨a,vs,ts,tx,e,hs,d,dx,ht,nx,q⟩;subst e;cases r2
 rcases hs with hs|hs
 ·obtain⟨its,r,pl,hz⟩:=I.list hs;refine SeqAt.notIn_listAt (isT H tx) pl.isList (wK hu I r1 r d dx ht nx) ?_;exact⟨.bl _,H,I,by rw[show its.toArray.any (isT H tx)=its.any (isT H tx)by simp,sZ d r];rfl,q⟩
 ·obtain⟨its,r,pl,hz⟩:=I.tuple hs;refine SeqAt.notIn_tupleAt (isT H tx) pl (wK hu I r1 r d dx ht nx) ?_;exact⟨.bl _,H,I,by rw[show its.toArray.any (isT H tx)=its.any (isT H tx)by simp,sZ d r];rfl,q⟩
def jQ (scr:zo) (neg:Bool) (x c:Dv) (h:Hs):Rs Dv:=match fJ scr c h with
 |some ys=>match bG (bU cH h) ys,bU cH h x with
  |some ts,some tx=>.ok (.bl (if neg then !(ts.any λt=>bM t tx)else ts.any λt=>bM t tx)) h
  |_,_=>.bad
 |none=>.bad
theorem IV {μ:Nat->ah}{h:Hs}{H:Hp}(s:Ao G μ h H):∀{xs:zu}{vs:List V}{ts:List Dt},RelDL G μ h.length H xs vs->bG (bU cH h) xs=some ts->Aj jN H ts vs/\∀t∈ts,eK t<=cH/\nod t=true
 | [],_,_,r,e=>by cases e;rw[RelDL]at r;subst r;exact⟨Aj.nil,λt ht=>by simp at ht⟩
 |x::xs,_,_,r,e=>by
  rw[RelDL]at r;obtain⟨v,rr,rfl,r1,r2⟩:=r;unfold bG at e
  cases q:bU cH h x with
  |none=>rw[q]at e;cases e
  |some y=>
   rw[q]at e;dsimp only at e
   cases q2:bG (bU cH h) xs with
   |none=>rw[q2]at e;cases e
   |some ys=>
    rw[q2]at e;cases e;obtain⟨a1,a2,a3⟩:=qI s _ x v y r1 q;obtain⟨b1,b2⟩:=IV s r2 q2;refine⟨Aj.cons a1 b1,λt ht=>?_⟩
    rcases aw.mp ht with rfl|ht
    ·exact⟨a2,a3⟩
    ·exact b2 t ht
theorem XF (neg:Bool):fI G (wJ G.K neg) (jQ G.scr neg):=by
 intro E μ h H x y vx vy Q s rx ry o;unfold jQ at o
 cases q:fJ G.scr y h with
 |none=>rw[q]at o;exact o.elim
 |some ys=>
  rw[q]at o;dsimp only at o
  split at o
  ·rename_i ts tx e1 e2;obtain⟨a,vs,rfl,hs,r⟩:=AV s ry q;obtain⟨b1,b2⟩:=IV s r e1;obtain⟨c1,c2,c3⟩:=qI s _ x vx tx rx e2;exact⟨a,vs,ts,tx,rfl,hs,b1,c1,b2,c3,o.val s rfl⟩
  ·exact o.elim
end
section
variable{X:Cx}{G:Cfg}
theorem XG {M:wm}{A:cn}{E:af->ag->Prop}{s:ag}{x:V}{u:af}{b:Bool}{Q:Bool->ag->Prop}(r:RelV x u) (q:Q (decide (x=.bl b)) s):wpAny M A (isSame u (.bool b)) Q E s:=by
 cases x with
 |non=>cases r;exact ai q
 |bl c=>
  cases r;refine ai ?_;have:decide (V.bl c=V.bl b)=(uc c==uc b):=by cases c <;> cases b <;> rfl
  rw[this]at q;exact q
 |int i=>obtain⟨t,rfl⟩:=r;exact ai q
 |str i=>obtain⟨t,rfl⟩:=r;exact ai q
 |byt i=>obtain⟨t,rfl⟩:=r;exact ai q
 |flt i=>obtain⟨t,rfl⟩:=r;exact ai q
 |ref a=>cases r;exact ai q
 |ty n=>cases r;exact ai q
def IW (neg:Bool):R2:=λx y H Q=>∃b,y=.bl b/\Q (.bl (if neg then !decide (x=.bl b)else decide (x=.bl b))) H
theorem XH:Be X (compareOp .IsNot) (IW true):=by intro pins s σ H x y v u Q I rx ry ⟨b,e,q⟩;subst e;cases ry;exact ae (XG rx (ai ⟨.bl _,H,I,rfl,q⟩))
def wL:Dv->Dv->Option Bool
 | .non,.non=>some true
 |_,.non=>some false
 | .bl a,.bl b=>some (a==b)
 |_,.bl _=>some false
 |_,_=>none
def lA (neg:Bool) (x y:Dv) (h:Hs):Rs Dv:=match wL x y with
 |some b=>.ok (.bl (if neg then !b else b)) h
 |none=>.bad
def IX (neg:Bool):R2:=λx y H Q=>(y=.non/\Q (.bl (if neg then !decide (x=.non)else decide (x=.non))) H)∨IW neg x y H Q
theorem XI:Be X (compareOp .IsNot) (IX true):=Be.or R5 XH
theorem XJ {μ:Nat->ah}{n:Nat}{H:Hp}{x:Dv}{v:V}{b:Bool}(r:Ac G μ n H x v) (e:wL x .non=some b):decide (v=.non)=b:=by
 cases x with
 |non=>cases e;rw[Ac]at r;subst r;rfl
 |bl c=>cases e;rw[Ac]at r;subst r;rfl
 |int c=>cases e;rw[Ac]at r;subst r;rfl
 |str c=>cases e;rw[Ac]at r;subst r;rfl
 |tup c=>cases e;obtain⟨a,vs,rfl,_⟩:=r;rfl
 |ref c=>cases e;obtain⟨_,rfl⟩:=r;rfl
 |edc=>cases e;obtain⟨a,rfl,_⟩:=r;rfl
 |exc c=>cases e;obtain⟨a,o,u,rfl,_⟩:=r;rfl
 |scr=>cases e;obtain⟨rfl,_⟩:=r;rfl
theorem XM {μ:Nat->ah}{n:Nat}{H:Hp}{x:Dv}{v:V}{b c:Bool}(r:Ac G μ n H x v) (e:wL x (.bl c)=some b):decide (v=.bl c)=b:=by
 cases x with
 |non=>cases e;rw[Ac]at r;subst r;rfl
 |bl d=>cases e;rw[Ac]at r;subst r;cases c <;> cases d <;> rfl
 |int c=>cases e;rw[Ac]at r;subst r;rfl
 |str c=>cases e;rw[Ac]at r;subst r;rfl
 |tup c=>cases e;obtain⟨a,vs,rfl,_⟩:=r;rfl
 |ref c=>cases e;obtain⟨_,rfl⟩:=r;rfl
 |edc=>cases e;obtain⟨a,rfl,_⟩:=r;rfl
 |exc c=>cases e;obtain⟨a,o,u,rfl,_⟩:=r;rfl
 |scr=>cases e;obtain⟨rfl,_⟩:=r;rfl
theorem XN (neg:Bool):fI G (IX neg) (lA neg):=by
 intro E μ h H x y vx vy Q s rx ry o;unfold lA at o
 cases q:wL x y with
 |none=>rw[q]at o;exact o.elim
 |some b=>
  rw[q]at o
  cases y with
  |non=>rw[Ac]at ry;exact .inl ⟨ry,by rw[XJ rx q];exact o.val s rfl⟩
  |bl c=>rw[Ac]at ry;exact .inr ⟨c,ry,by rw[XM rx q];exact o.val s rfl⟩
  |_=>cases x <;> cases q
end
def iL (c:M Bool) (body:MS):Nat->MS
 |0=>λ_ _=>.bad
 |f+1=>λρ h=>(c ρ h).thenS λb h1=>if b=true then(match body ρ h1 with
  | .nx ρ2 h2=>iL c body f ρ2 h2
  | .ct ρ2 h2=>iL c body f ρ2 h2
  | .bk ρ2 h2=>.nx ρ2 h2
  |r=>r)else .nx ρ h1
section
variable{X:Cx}{G:Cfg}{E:XK}{c:bq}{body:List gf}{mc:M Bool}{mb:MS}{pos:Pos}
theorem IY (n:Nat) (hp:xk (model X.prog X.w) X.A X.env X.xe) (hc:fZ X G E c mc) (hb:kY X G E body mb):iI X G E (.While c body [] pos) (iL mc mb n):=λhK=>PS.imp (RC hp (hc hK) (hb hK)) λD σ H ⟨μ,ρ,h,rs,s,o⟩=>by
 refine⟨λm σ H=>∃μ ρ h,Al G μ h.length H ρ σ/\Ao G μ h H/\Bc G E μ h.length H (iL mc mb m ρ h) D,⟨n,μ,ρ,h,rs,s,o⟩, ?_⟩
 rintro m σ1 H1 ⟨μ1,ρ1,h1,As,s1,o1⟩
 cases m with
 |zero=>exact o1.elim
 |succ m=>
  refine HW As s1 o1 λμ2 b h2 H2 x2 Cp s2 o2=>?_
  cases b with
  |false=>rw[if_neg (by decide)]at o2 ⊢;exact o2 μ2 H2 σ1 Ext.refl s2 Cp
  |true=>
   rw[if_pos rfl]at o2 ⊢;refine⟨λσ' H'=>∃μ ρ h,Al G μ h.length H' ρ σ'/\Ao G μ h H'/\Bc G E μ h.length H' (iL mc mb m ρ h) D,λσ' H' z=>⟨m,jl m,z⟩,μ2,ρ1,h2,Cp,s2, ?_⟩
   cases q:mb ρ1 h2 with
   |nx ρ3 h3=>rw[q]at o2;exact λμ4 H4 σ4 x4 s4 rs4=>⟨μ4,ρ3,h3,rs4,s4,Bc.ext o2 x4⟩
   |ct ρ3 h3=>rw[q]at o2;exact λμ4 H4 σ4 x4 s4 rs4=>⟨μ4,ρ3,h3,rs4,s4,Bc.ext o2 x4⟩
   |bk ρ3 h3=>rw[q]at o2;exact o2
   |rt d h3=>rw[q]at o2;exact o2
   |ex d h3=>rw[q]at o2;exact o2
   |bad=>rw[q]at o2;exact o2.elim
end
section
variable{X:Cx}{G:Cfg}{E:XK}{e o:bq}{mo me:M Dv}{pos apos cpos np p2:Pos}{y:Str}
def wM (x i:Dv) (h:Hs):Rs Dv:=match x,i with
 | .ref j,.int n=>match getL h j with
  |some xs=>match fT xs.length n with
   |some k=>match xs[k]? with
    |some d=>if xs.length<=1000000 then .ok d (h.set j (.lst (xs.eraseIdx k)))else .bad
    |none=>.bad
   |none=>.bad
  |none=>.bad
 |_,_=>.bad
theorem IZ {μ:Nat->ah}{n:Nat}{H:Hp}:∀{ds:zu}{vs:List V}(k:Nat),RelDL G μ n H ds vs->RelDL G μ n H (ds.eraseIdx k) (vs.eraseIdx k)
 | [],_,_,h=>by rw[RelDL]at h;subst h;exact RelDL.nil
 |d::ds,_,0,h=>by rw[RelDL]at h;obtain⟨v,r,rfl,h1,h2⟩:=h;exact h2
 |d::ds,_,k+1,h=>by rw[RelDL]at h;obtain⟨v,r,rfl,h1,h2⟩:=h;exact RelDL.cons h1 (IZ k h2)
def tD (mo me:M Dv):M Dv:=λρ h=>(mo ρ h).bind λx h1=>if iK x h1=true then(me ρ h1).bind λd h2=>wM x d h2 else .bad
theorem XO (ho:aK X G E (.Name y np) mo) (he:aK X G E e me) (hs:ar [e] X.env=[(false,eval e X.env)]:=by rfl) (hl:(apos.endLine==cpos.line)=true:=by rfl):aK X G E (.Call (.Attribute (.Name y np) "pop" apos) [e] [] cpos) (tD mo me):=λhK=>
 PE.imp (vL lx PySem.F.slot_list_pop PySem.F.type_list_pop UC (ho hK) (jC (he hK) jM hs) rfl (by rw[hs];rfl) hl hs rfl) λσ H Q ⟨μ,ρ,h,rs,s,oo⟩=>eO rs s oo λμ1 x h1 vx H1 x1 As s1 r1 o1=>by
  split at o1
  ·rename_i hl;refine⟨wD s1 r1 hl,eO As s1 o1 λμ2 d h2 vd H2 x2 Cp s2 r2 o2=>?_⟩
   cases x with
   |ref j=>
    cases d with
    |int n=>
     dsimp only[wM]at o2
     cases q:getL h2 j with
     |none=>rw[q]at o2;exact o2.elim
     |some xs=>
      rw[q]at o2;dsimp only at o2
      cases q2:fT xs.length n with
      |none=>rw[q2]at o2;exact o2.elim
      |some k=>
       rw[q2]at o2;dsimp only at o2
       cases q3:xs[k]? with
       |none=>rw[q3]at o2;exact o2.elim
       |some d'=>
        rw[q3]at o2;dsimp only at o2
        split at o2
        ·rename_i hz;obtain⟨vs,ea,ra⟩:=s2.ob j _ (dP q);obtain⟨_,rfl⟩:=Ac.mono x2 _ _ r1;rw[Ac]at r2;subst r2;obtain⟨v,ev,rv⟩:=ra.get q3;obtain⟨i1,i2,i3,i4⟩:=zX q2;obtain⟨x3,s3⟩:=s2.write (dP q) (IZ k ra);exact⟨_,vs,n,k,v,rfl,rfl,ea,by omega,by omega,by rw[ra.length];exact i1,ev,o2 μ2 _ _ x3 s3 (Ac.mono x3 _ _ rv)⟩
        ·exact o2.elim
    |_=>exact o2.elim
   |_=>exact o2.elim
  ·exact o1.elim
def nW (xs:zu) (lo hi:Option Int):zu:=(xs.drop (HT.sIx xs.length 0 lo)).take (HT.sIx xs.length xs.length hi - HT.sIx xs.length 0 lo)
theorem I0 {μ:Nat->ah}{n:Nat}{H:Hp}{xs:zu}{vs:List V}(r:RelDL G μ n H xs vs) (lo hi:Option Int):RelDL G μ n H (nW xs lo hi) (nK vs lo hi):=by unfold nW nK;rw[r.length];exact(r.drop _).take _
abbrev MO:=Ev->Hs->Rs (Option Int)
def XQ (G:Cfg) (E:XK) (m:MO):TO:=λσ H Q=>∃μ ρ h,Al G μ h.length H ρ σ/\Ao G μ h H/\Out G E μ h.length H (m ρ h) (λ_ _ _ a b=>b=a) Q
def wN (X:Cx) (G:Cfg) (E:XK) (pe:Option bq) (m:MO):Prop:=X.K=G.K->PO X pe (XQ G E m)
theorem PO.imp {pe:Option bq}{t t':TO}(h:PO X pe t) (i:∀σ H Q,t' σ H Q->t σ H Q):PO X pe t':=λpins s σ H Q I q=>h pins s σ H Q I (i σ H Q q)
def tE:MO:=λ_ h=>.ok none h
def I9:Dv->Hs->Rs (Option Int)
 | .int i,h=>.ok (some i) h
 |_,_=>.bad
def tF (m:M Dv):MO:=λρ h=>(m ρ h).bind I9
theorem XR:wN X G E none tE:=λ_=>PO.imp S9 λσ H Q ⟨μ,ρ,h,rs,s,oo⟩=>oo.val s rfl
theorem XS (he:aK X G E e me):wN X G E (some e) (tF me):=λhK=>PO.imp (TB (he hK)) λσ H Q ⟨μ,ρ,h,rs,s,oo⟩=>eO rs s oo λμ1 d h1 v H1 x1 As s1 r1 o1=>by
 cases d with
 |int i=>exact⟨i,r1,o1.val s1 rfl⟩
 |_=>exact o1.elim
end
section
variable{X:Cx}{G:Cfg}{E:XK}{pos:Pos}
theorem XT:aK X G E (.Dict [] [] pos) (mC .edc):=λ_ pins s σ H Q I ⟨μ,ρ,h,rs,sm,o⟩=>by have hb:sysModules<s.heap.objs.size:=Nat.lt_trans (by decide) (I.mod.glob.keeps I.bk).lt;have hn:=I.hok.fresh (ak s.heap.objs.size);refine wpAny_Dict_empty ⟨.ref s.heap.objs.size,_,I.laid (a:=s.heap.objs.size) (o:=.dK []) (t':=s.toks) (λ_ _ q=>aj _ q) (ak _) ⟨iu _,beq_eq_false_iff_ne.mpr (dh (bf hb)),[],.nil,Heap.DictOf.new s.heap⟩,rfl, ?_⟩;exact o μ _ _ (Ext.same (dG hn)) (sm.same (dG hn)) ⟨_,rfl,eG⟩
theorem JA {x:Str}{i:Int}{t:Tok}(hg:Gl X x) (hm:X.mg x=some (.int i t)) (hd:(x==("__debug__" : Str))=false:=by decide):aK X G E (.Name x pos) (mC (.int i)):=λ_=>PE.imp (P9 (v:=.int i) hg hm ⟨t,rfl⟩ hd) λσ H Q ⟨μ,ρ,h,rs,s,o⟩=>o.val s (show Ac G μ _ H (.int i) (.int i) from rfl)
def BA:Dv->Hs->Rs Dv
 | .int i,h=>.ok (.int (-i)) h
 |_,_=>.bad
theorem XU:jE G (rU λi=>.int (-i)) BA:=by
 intro E μ h H x vx Q s r o
 cases x with
 |int i=>rw[Ac]at r;subst r;exact⟨i,rfl,o.val s rfl⟩
 |_=>exact o.elim
end
section
variable{X:Cx}{G:Cfg}{E:XK}{tg a b c:bq}{p pos:Pos}{ms:M zu }
end
structure Lawful (lp:bh) (w:cp) (K:aq) (mg:Str->Option af) (base:da) (k:Nat) (fa:ah) (fd:bj) (x:Str) (P a:ah) (ns:zo):Prop where
 ex:∃(G:Cfg) (lawF:zt) (hh:Hs),G.K=K/\G.scr=ns/\G.sa=a/\G.tab=some P/\lawF [.scr] []=.ok (.bl true) hh/\Ah lp w K mg base (bX lp w base) k fa fd [x] (cB G lawF)
theorem JB {lp:bh}{w:cp}{K:aq}{mg mb:Str->Option af}{k:Nat}{fa a c P:ah}{fd:bj}{x:Str}{s₁:ag}{vs:List af}{ns:zo}
  (KX:K.In s₁.heap) (hns:s₁.heap.Ns du mg) (hb:s₁.heap.Ns builtinsNs mb) (hbb:∀x:Str,x ≠ "__name__"->mb x=dj x) (hlim:s₁.heap.NoLimit) (hg:s₁.gens=#[])
  (ha:s₁.heap.get? a=some { cls:=.type "list",data:=.seq vs.toArray }) (hi:kd vs ns) (hl:ns.length<=cf) (hr:Aw k callerA)
  (hC:si s₁.heap c P) (hP:s₁.heap.get? P=some (wb #[])) (hB:oW mg s₁.heap) (hnt:PySem.W.noTabs K=true)
  (F:∀base:da,K.In base->base.Ns du mg->si base c P->oW mg base->Lawful lp w K mg base k fa fd x P a ns) (hbind:∀(s:ag) (u:af),yf s fd ⟨[u],[]⟩ [(x,u)]):
  codeAny (model lp w) callerA (.call (.ref fa) ⟨[.ref a],[]⟩) (λr s'=>r=.ok (.ret (.bool true))/\OldK s₁.heap s'.heap/\s'.os=s₁.os/\rl s'.gens) s₁:=by
 have rv:=sF hi;have lenV:=hi.length;have KP:K.lookup P=none:=by
  cases q:K.lookup P with
  |none=>rfl
  |some o=>have e:=KX P o q;rw[hP]at e;cases e;have:=dz.mp hnt (P,wb #[]) (PySem.W.mem_of_lookupK q);exact absurd (show false=true from this) iz
 have aP:a≠P:=λz=>by rw[z,hP]at ha;cases ha
 have core:∀H:Hp,H P=some (.tbl #[])->FzL K H a (ns.map V.int)->Bk lp w H s₁.heap->(∀b,H b≠none->b=a∨b=P)->(H a≠none->K.lookup a=none)->(∀u,H a=some u->∃o xs,u=.frz o (.lst xs))->
   codeAny (model lp w) callerA (.call (.ref fa) ⟨[.ref a],[]⟩) (λr s'=>r=.ok (.ret (.bool true))/\OldK s₁.heap s'.heap/\s'.os=s₁.os/\rl s'.gens) s₁:=by
  intro H hHP hS hok hA hK hF;have base_of:∀{b:ah}{o:Obj},s₁.heap.get? b=some o->H b=none->(kA s₁.heap H).get? b=some o:=λe n=>PY e n;have none_of:∀{b:ah},b≠a->b≠P->H b=none:=λ{b} h1 h2=>by
   cases q:H b with
   |none=>rfl
   |some u=>exact((hA b (by rw[q];simp)).elim h1 h2).elim
  have noD:∀{b:ah}{o:Obj}{es:Array DictEntry}{ep:Nat},s₁.heap.get? b=some o->o.data=.dict es ep->H b=none:=λ{b o es ep} e d=>none_of (λz=>by
    subst z;rw[ha]at e;cases e;have d':Data.seq vs.toArray _=Data.dict es ep:=d
    cases d') (λz=>by
    subst z;rw[hP]at e;cases e;have d':Data.fields _=Data.dict es ep:=d
    cases d')
  have nsK:∀{b:ah}{m:Str->Option af},s₁.heap.Ns b m->(kA s₁.heap H).Ns b m:=λ{b m} ⟨o,es,ep,e,d,r⟩=>⟨o,es,ep,base_of e (noD e d),d,r⟩
  have hKb:K.In (kA s₁.heap H):=λb o e=>base_of (KX b o e) (by
   cases q:H b with
   |none=>rfl
   |some u=>
    rcases hA b (by rw[q];simp)with z|z
    ·subst z;rw[hK (by rw[q];simp)]at e;cases e
    ·subst z;rw[KP]at e;cases e)
  have hM:Mod K mg (kA s₁.heap H):=⟨hKb,nsK hns,⟨mb,nsK hb,hbb⟩,let ⟨mc,h1,h2⟩:=hlim;⟨mc,nsK h1,h2⟩⟩
  have hCb:si (kA s₁.heap H) c P:=by obtain⟨o,Bp,file,tf,flags,tg,inF,text,tt,e1,r1,r⟩:=hC;refine⟨o,Bp,file,tf,flags,tg,inF,text,tt,base_of e1 (none_of (λz=>?_) r.2.2.2.2.2.2.2),r1,r⟩;subst z;rw[ha]at e1;cases e1;exact absurd r1 (by intro w;injection w with w;exact absurd w (by decide))
  have hBb:oW mg (kA s₁.heap H):=by
   obtain⟨bm,ob,b1,b2,b3,b4,b5,b6⟩:=hB;refine⟨bm,ob,b1,b2,base_of b3 (none_of (λz=>?_) (λz=>?_)),b4,b5,b6⟩
   ·subst z;rw[ha]at b3;cases b3;exact absurd b4 (by intro w;injection w with w;exact absurd w (by decide))
   ·subst z;rw[hP]at b3;cases b3;cases b4
  have e0:Env0 lp w K mg (kA s₁.heap H) callerA [] s₁ H:=⟨rfl,hM,λb o e=>PZ e,sh (PX _ _),trivial,λb hb=>absurd (show b∈([]:List ah) from hb) (by simp),hok,.of_eq hg⟩
  obtain⟨G,lawF,hh,g1,g2,g3,g4,hlaw,Fn⟩:=(F _ hKb (nsK hns) hCb hBb).ex;have rd:RelDL G (λ_=>0) 0 H [.scr] [.ref a]:=by refine RelDL.cons ?_ RelDL.nil;rw[Ac,g1,g2,g3];exact⟨rfl,hS⟩
  have sm:Ao G (λ_=>0) [] H:=⟨λi j h1=>absurd h1 (by simp),λi o q=>by simp at q,λP' e=>by
   rw[g4]at e;cases e;exact⟨#[],hHP,trivial,λpos cv q=>by
    have q':(none:Option af)=some cv:=q
    cases q'⟩⟩
  refine tm (Fn.run callerA [] s₁ H ⟨[.ref a],[]⟩ [.ref a] [.ref a] (λv _=>v=.bl true) (λ_ _ _=>False) hr e0 (hbind s₁ (.ref a)) (.cons rfl .nil) ⟨λ_=>0,[],[.scr],rd,sm, ?_⟩) λr s' h=>?_
  ·rw[hlaw];exact λμ' H' v _ _ r=>r
  cases r with
  |error e=>obtain⟨_,_,_,_,_,_,_,_,_,z⟩:=h;exact z.elim
  |ok fl=>
   cases fl with
   |next=>exact ly h
   |brk=>exact ly h
   |cont=>exact ly h
   |ret u=>
    obtain⟨v,H',os,bare,un,hok',r',q⟩:=h;have q':v=.bl true:=q;subst q';obtain rfl:u=uc true:=r';have kept:∀b o,b≠P->s₁.heap.get? b=some o->s'.heap.get? b=some o:=λb o hbP e=>by
     cases q:H b with
     |none=>exact un.keep b o e q (by intro z;exact absurd (show b∈([]:List ah) from z) (by simp)) (by simp)
     |some u=>
      rcases hA b (by rw[q];simp)with z|z
      ·subst z;obtain⟨ob,xs,rfl⟩:=hF u q;have z2:=un.frzs b ob _ q;obtain⟨e1,_⟩:=hok b _ q;obtain⟨e2,_⟩:=hok' b _ z2;rw[e]at e1;cases e1;exact e2
      ·exact absurd z hbP
    obtain⟨more,hm⟩:=un.tbls P #[] hHP;have gP:s'.heap.get? P=some (wb (#[]++more)):=hok' P _ hm;refine⟨rfl,⟨λb o e=>?_,λb o e=>?_⟩,os,bare⟩
    ·by_cases hb:b=P
     ·subst hb;rw[hP]at e;cases e;exact .inr (.inl ⟨(hC.tab hP).isCodeTable,rfl,#[],more,rfl,gP⟩)
     ·exact .inl (kept b o hb e)
    ·by_cases hb:b=P
     ·subst hb;exact⟨_,gP⟩
     ·exact⟨_,kept b o hb e⟩
 cases hk:K.lookup a with
 |some o=>
  have e:=KX a o hk;rw[ha]at e;cases e;refine core (λb=>if b=P then some (.tbl #[])else none) (if_pos rfl) (.inr ⟨_,vs.toArray,_,hk,rfl,rfl,rfl,by rw[au,lenV];exact hl,by simpa using rv⟩) (λb u z=>?_) (λb z=>?_) (λz=>absurd (if_neg aP) z) (λu z=>?_)
  ·by_cases hb:b=P
   ·have z':=(if_pos hb).symm.trans z;cases z';subst hb;exact hP
   ·have z':=(if_neg hb).symm.trans z;cases z'
  ·by_cases hb:b=P
   ·exact .inr hb
   ·exact absurd (if_neg hb) z
  ·have z':=(if_neg aP).symm.trans z;cases z'
 |none=>
  have ea:(λb=>if b=a then some (HO.frz { cls:=.type "list",data:=.seq vs.toArray } (.lst (ns.map V.int)))else if b=P then some (.tbl #[])else none) a=some (.frz { cls:=.type "list",data:=.seq vs.toArray } (.lst (ns.map V.int))):=if_pos rfl;refine core (λb=>if b=a then some (.frz { cls:=.type "list",data:=.seq vs.toArray } (.lst (ns.map V.int)))else if b=P then some (.tbl #[])else none) ((if_neg (dh aP)).trans (if_pos rfl)) (.inl ⟨{ cls:=.type "list",data:=.seq vs.toArray },ea⟩) (λb u z=>?_) (λb z=>?_) (λ_=>hk) (λu z=>?_)
  ·by_cases hb:b=a
   ·have z':=(if_pos hb).symm.trans z;cases z';subst hb;exact⟨ha,by rw[ba];exact hl,vs,_,rv,ha⟩
   ·have z':=(if_neg hb).symm.trans z
    by_cases Dg:b=P
    ·have z2:=(if_pos Dg).symm.trans z';cases z2;subst Dg;exact hP
    ·have z2:=(if_neg Dg).symm.trans z';cases z2
  ·by_cases hb:b=a
   ·exact .inl hb
   ·by_cases Dg:b=P
    ·exact .inr Dg
    ·exact absurd ((if_neg hb).trans (if_neg Dg)) z
  ·have z':=ea.symm.trans z;cases z';exact⟨_,_,rfl⟩
open L2
theorem iA {α:Type}{P:List α->Prop}(h:∀a,P [a]):∀us:List α,us.length=1->P us
 | [a],_=>h a
theorem fS {α:Type}{P:List α->Prop}(h:∀a b,P [a,b]):∀us:List α,us.length=2->P us
 | [a,b],_=>h a b
theorem BB {α:Type}{P:List α->Prop}(h:∀a b c,P [a,b,c]):∀us:List α,us.length=3->P us
 | [a,b,c],_=>h a b c
theorem XW {α:Type}{P:List α->Prop}(h:∀a b c d,P [a,b,c,d]):∀us:List α,us.length=4->P us
 | [a,b,c,d],_=>h a b c d
open PySem.Calls
abbrev Ys {β:Type}(ob:Frag->β) (obE:β):cp->da->Prop:=λ_ h=>∃K:Frag,K.In h/\noTabs K=true/\ob K=obE
theorem ys_of {β:Type}{ob:Frag->β}{obE:β}:∀(w:cp) (s:ag),ob (rX s.heap)=obE->Ys ob obE w s.heap:=λ_ s e=>⟨rX s.heap,uY _ _,uZ _ _,e⟩
theorem ys_keeps {β:Type}{ob:Frag->β}{obE:β}:∀(w:cp) (h h':da),Ys ob obE w h->(∀b o,h.get? b=some o->h'.get? b=some o)->Ys ob obE w h':=λ_ _ _ ⟨K,x,n,e⟩ k=>⟨K,x.keeps k,n,e⟩
theorem z56 {β:Type}{ob:Frag->β}{obE:β}{l:OpenLaw}{n k:Nat}{q:bh}{bT:zr}{XP:(Str->Option af)->da->Prop}{d:DefRec}{x:Str}
  (hn:l.most=some n) (hn2:n<=cf) (hdf:d.params.defaults=[]) (hr:Aw k callerA) (hfind:(recsOf q).find? (λe=>e.name==d.name)=some d)
  (F:∀(K:Frag) (w:cp) (mg:Str->Option af) (fa:ah) (h:da),ob K=obE->noTabs K=true->K.In h->h.Ns du mg->mg d.name=some (.ref fa)->
   ∃(fd:bj) (c P:ah),(∀(s:ag) (u:af),yf s fd ⟨[u],[]⟩ [(x,u)])/\tabIn K d.name=some (c,P)/\noTabs K=true /\
    ∀(base:da) (a:ah) (ns:zo),ns.length<=n->K.In base->base.Ns du mg->CodeHd base c P->oW mg base->Lawful l.prog w K mg base k fa fd x P a ns):
  WalkO q bT XP (Ys ob obE) l.row.toRowW d [] (λf vs=>zg f vs):=by
 refine Att.attach_call hn hdf λw s₀ s₁ mg mb fa o pm cd doc a vs ns G Y ho hd hcd hmg hobj hints hlen hg=>?_;obtain⟨K,KX,hnt',hob⟩:=Y;obtain⟨fd,c,P,hb,ht,hnt,hF⟩:=F K w mg fa _ hob hnt' KX G.T.g hmg;obtain⟨hC,hP⟩:=tab_of G.T KX hfind ht;exact JB KX G.T.g G.T.b G.T.builtins G.T.nolimit hg hobj hints (dm hlen hn2) hr hC hP G.T.bmain hnt (λbase h1 h2 h3 h4=>hF base a ns hlen h1 h2 h3 h4) hb
theorem XX {K:Frag}{f c:ah}{st:gf}{n:Str}{ps:zr}(h:cG K f=some (fnOf n n (nL st) (kQ st) (bA st) .none .none .none .none none (.ref c) .none)) (hc:codeIn K (.ref c) n=true) (hk:keepIn K (.ref f)=true)
  (hb:∀(kV doc pm:af) (an:Option ah) (cdv ct:af) (us:List af),us.length=ps.length->bindArgs (fnOf n n (nL st) (kQ st) (bA st) .none kV doc pm an cdv ct) ⟨us,[]⟩=pure (ps.zip us)):
  ∃fd:bj,Ax K n n st f fd/\Binds K fd ps []/\fd.code=.ref c/\∀us:List af,us.length=ps.length->bindArgs fd ⟨us,[]⟩=pure (ps.zip us):=by
 obtain⟨oc,od,kV,dc,pm,an,ct,sl,e⟩:=PD h;exact⟨_,GS e hc hk,(GS e hc hk).binds hb,rfl,hb kV dc pm an (.ref c) ct⟩
theorem walkK2 {β:Type}{ob:Frag->β}{obE:β}{l:OpenLaw}{n k:Nat}{q:bh}{bT:zr}{XP:(Str->Option af)->da->Prop}{d:DefRec}{x:Str}(nm:Str)
  (hn:l.most=some n) (hn2:n<=cf) (hdf:d.params.defaults=[]) (hr:Aw k callerA) (hfind:∃d2:DefRec,(recsOf q).find? (λe=>e.name==nm)=some d2/\d2.name=nm)
  (F:∀(K:Frag) (w:cp) (mg:Str->Option af) (fa:ah) (h:da),ob K=obE->noTabs K=true->K.In h->h.Ns du mg->mg d.name=some (.ref fa)->
   ∃(fd:bj) (c P:ah),(∀(s:ag) (u:af),yf s fd ⟨[u],[]⟩ [(x,u)])/\tabIn K nm=some (c,P)/\noTabs K=true /\
    ∀(base:da) (a:ah) (ns:zo),ns.length<=n->K.In base->base.Ns du mg->CodeHd base c P->oW mg base->Lawful l.prog w K mg base k fa fd x P a ns):
  WalkO q bT XP (Ys ob obE) l.row.toRowW d [] (λf vs=>zg f vs):=by
 refine Att.attach_call hn hdf λw s₀ s₁ mg mb fa o pm cd doc a vs ns G Y ho hd hcd hmg hobj hints hlen hg=>?_;obtain⟨K,KX,hnt',hob⟩:=Y;obtain⟨fd,c,P,hb,ht,hnt,hF⟩:=F K w mg fa _ hob hnt' KX G.T.g hmg;obtain⟨d2,hf,hnm⟩:=hfind;have hf':(recsOf q).find? (λe=>e.name==d2.name)=some d2:=by rw[hnm];exact hf
 obtain⟨hC,hP⟩:=tab_of G.T KX hf' (by rw[hnm];exact ht);exact JB KX G.T.g G.T.b G.T.builtins G.T.nolimit hg hobj hints (dm hlen hn2) hr hC hP G.T.bmain hnt (λbase h1 h2 h3 h4=>hF base a ns hlen h1 h2 h3 h4) hb
theorem dB {F:List (Frag->Bool)}{K:Frag}(h:F.all (λf=>f K)=true) (i:Nat) {g:Frag->Prop}[∀K,Decidable (g K)] (e:F[i]?=some (λK=>decide (g K)):=by rfl):g K:=dA h i e
theorem cK {K:Frag}{h:da}{mg:Str->Option af}{n:Str}{v:af}{F:List (Frag->Bool)}(X:K.In h) (G:h.Ns du mg) (hc:F.all (λf=>f K)=true) (i:Nat) (e:F[i]?=some (λK=>decide (nsIn K du n=some (some v))):=by rfl):mg n=some v:=mg_of X G (dA hc i e)
theorem BC {env:Env}{x:Str}:∀{l:List (Str×kn)},l.lookup x=some .free->(l.map λ(n,k)=>if(k==dg&&env.scope.kind==.function&&env.kindOf n==some .cell)then(n,dk)else(n,k)).lookup x≠some .local
 | [],h=>by simp at h
 |(n,q)::r,h=>by
  rw[iw]at h;rw[df]
  cases e:x==n with
  |true=>
   rw[e]at h;have hq:q=.free:=cx h;subst hq;dsimp only
   split
   ·rw[iw,e];simp
   ·rw[iw,e];simp
  |false=>
   rw[e]at h;dsimp only
   split
   ·rw[iw,e];exact BC h
   ·rw[iw,e];exact BC h
theorem XY {X:Cx}{sc os:ic}{oN N:zr}{cap:List (Option Nat)}(hs:X.env.scope.names=os.names) (hN:X.N=oN) (h1:sc.kind=.function) (h2:∀p∈sc.names,p.2=.local->sc.names.lookup p.1=some .local) (h3:cap.length=N.length)
  (h4:∀p∈sc.names,p.2=.free->os.names.lookup p.1=some .cell∨os.names.lookup p.1=some .free) (h5:∀p∈sc.names,p.2=.free->(p.1,dk)∉sc.names) (h6:∀q∈cap.zip N,∀j∈q.1,oN[j]?=some q.2/\sc.names.lookup q.2=some .free):Bg X sc N cap:=by
 refine⟨h1,h2,h3,λx hx=>?_,λx hx=>h5 _ hx rfl,λi j x e1 e2=>?_⟩
 ·have:=h4 _ hx rfl;rw[<-hs]at this;exact this
 ·have hm:(some j,x)∈cap.zip N:=di (i:=i) (xp.mpr ⟨e1,e2⟩);obtain⟨a,b⟩:=h6 _ hm j rfl;rw[hN];refine⟨a,jh b, ?_⟩;exact BC b
def eY:Dv->Dv->Hs->Rs Dv:=iG λi j=>.int (i - j)
def oX:Dv->Dv->Hs->Rs Dv:=kU vV λi j=>.int (i*j)
def lB:Dv->Dv->Hs->Rs Dv:=kU qJ λi j=>.int (i % j)
def tG:Dv->Dv->Hs->Rs Dv:=kU sP λi j=>.int (i ^ j.toNat)
def lC:Dv->Dv->Hs->Rs Dv:=iG λi j=>.bl (decide (i<=j))
def lD:Dv->Dv->Hs->Rs Dv:=iG λi j=>.bl (decide (i>j))
def wO:Dv->Dv->Hs->Rs Dv:=iG λi j=>.bl (decide (i>=j))
section
variable{X:Cx}{G:Cfg}{E:XK}{k:Nat}{a b:bq}{ma mb:M Dv}{pos:Pos}
theorem qU (ha:aK X G E a ma) (hb:aK X G E b mb):aK X G E (.BinOp a .Sub b pos) (m2 eY ma mb):=qE RV VE ha hb
theorem tH (ha:aK X G E a ma) (hb:aK X G E b mb):aK X G E (.BinOp a .Mult b pos) (m2 oX ma mb):=qE RW (vU VF) ha hb
theorem qV (ha:aK X G E a ma) (hb:aK X G E b mb):aK X G E (.BinOp a .Mod b pos) (m2 lB ma mb):=qE RX (vU VG) ha hb
theorem JC (ha:aK X G E a ma) (hb:aK X G E b mb):aK X G E (.BinOp a .Pow b pos) (m2 tG ma mb):=qE RY (vU VH) ha hb
theorem XZ (ha:aK X G E a ma):aK X G E (.UnaryOp .USub a pos) (m1 BA ma):=UY R0 XU ha
theorem X0 (ha:aK X G E a ma) (hb:aK X G E b mb):aK X G E (.Compare a [.LtE] [b] pos) (m2 lC ma mb):=oK zV oQ ha hb (kB _)
theorem X1 (ha:aK X G E a ma) (hb:aK X G E b mb):aK X G E (.Compare a [.Gt] [b] pos) (m2 lD ma mb):=oK FX oQ ha hb (kB _)
theorem tI (g:Good X G E k) (ha:aK X G E a ma) (hb:aK X G E b mb):aK X G E (.Compare a [.Eq] [b] pos) (m2 cI ma mb):=oK (HH g.room.units) HJ ha hb (kB _)
theorem X2 (g:Good X G E k) (ha:aK X G E a ma) (hb:aK X G E b mb):aK X G E (.Compare a [.NotEq] [b] pos) (m2 cJ ma mb):=oK (HI g.room.units) HK ha hb (kB _)
theorem JD (ha:aK X G E a ma) (hb:aK X G E b mb):fZ X G E (.Compare a [.Gt] [b] pos) (mB (m2 lD ma mb)):=oM FX oQ ha hb (kB _)
theorem X3 (ha:aK X G E a ma) (hb:aK X G E b mb):fZ X G E (.Compare a [.GtE] [b] pos) (mB (m2 wO ma mb)):=oM R4 oQ ha hb (kB _)
theorem qW (g:Good X G E k) (ha:aK X G E a ma) (hb:aK X G E b mb):fZ X G E (.Compare a [.Eq] [b] pos) (mB (m2 cI ma mb)):=oM (HH g.room.units) HJ ha hb (kB _)
theorem mP (g:Good X G E k) (ha:aK X G E a ma) (hb:aK X G E b mb):fZ X G E (.Compare a [.NotEq] [b] pos) (mB (m2 cJ ma mb)):=oM (HI g.room.units) HK ha hb (kB _)
variable{c:bq}{mc:M Dv}
theorem X4 (ha:aK X G E a ma) (hb:aK X G E b mb) (hc:aK X G E c mc) (hm:lastMarks [.LtE,.LtE] [b,c]=false:=by with_unfolding_all rfl):aK X G E (.Compare a [.LtE,.LtE] [b,c] pos) (qF lC lC ma mb mc):=UX zV zV oQ oQ ha hb hc hm
end
def qX:Ty->Option Bool
 | .bl=>some true | .int=>some true | .exc _=>none|_=>some false
def qY:Ty->Option Bool
 | .bl=>some true | .exc _=>none|_=>some false
def lE:Ty->Option Bool
 | .tup=>some true | .exc _=>none|_=>some false
section
variable{K:aq}{cl:Nat->ah}
theorem X5:∀ty bb,qX ty=some bb->wc K (qQ cl ty) (.type "int")=some bb:=by intro ty bb h;cases ty <;> first|(cases h;rfl)|cases h
theorem X6:∀ty bb,qY ty=some bb->wc K (qQ cl ty) (.type "bool")=some bb:=by intro ty bb h;cases ty <;> first|(cases h;rfl)|cases h
theorem X7:∀ty bb,lE ty=some bb->wc K (qQ cl ty) (.type "tuple")=some bb:=by intro ty bb h;cases ty <;> first|(cases h;rfl)|cases h
end
theorem X8:dj "int" = some (.type "int"):=by decide +kernel
theorem X9:dj "bool" = some (.type "bool"):=by decide +kernel
section
variable{X:Cx}{G:Cfg}{E:XK}{a:bq}{ma:M Dv}{p q r pos:Pos}
theorem YA (hg:Gl X "isinstance") (hm:X.mg "isinstance" = none) (hg':Gl X "int") (hm':X.mg "int" = none) (ha:aK X G E a ma) (he:ar [a,.Name "int" q] X.env=[(false,eval a X.env),(false,eval (.Name "int" q) X.env)]:=by rfl):
  aK X G E (.Call (.Name "isinstance" p) [a,.Name "int" q] [] pos) (m1 (fW qX) ma):=A5 hg hm ha (A4 hg' hm' X8) (.inl ⟨_,rfl⟩) rfl X5 (λc bb h=>by cases h) he
theorem YB (hg:Gl X "isinstance") (hm:X.mg "isinstance" = none) (hg':Gl X "bool") (hm':X.mg "bool" = none) (ha:aK X G E a ma) (he:ar [a,.Name "bool" q] X.env=[(false,eval a X.env),(false,eval (.Name "bool" q) X.env)]:=by rfl):
  aK X G E (.Call (.Name "isinstance" p) [a,.Name "bool" q] [] pos) (m1 (fW qY) ma):=A5 hg hm ha (A4 hg' hm' X9) (.inl ⟨_,rfl⟩) rfl X6 (λc bb h=>by cases h) he
theorem BD (hg:Gl X "isinstance") (hm:X.mg "isinstance" = none) (hg':Gl X "tuple") (hm':X.mg "tuple" = none) (ha:aK X G E a ma) (he:ar [a,.Name "tuple" q] X.env=[(false,eval a X.env),(false,eval (.Name "tuple" q) X.env)]:=by rfl):
  aK X G E (.Call (.Name "isinstance" p) [a,.Name "tuple" q] [] pos) (m1 (fW lE) ma):=A5 hg hm ha (A4 hg' hm' AR) (.inl ⟨_,rfl⟩) rfl X7 (λc bb h=>by cases h) he
end
section
variable{P:bh}{w:cp}{K:aq}{mg:Str->Option af}{base:da}{f:ah}{G:Cfg}{k:Nat}{N:zr}
theorem YC {x qual:Str}{st:gf}{fd:bj}{ps:zr}{mb:MS}(Fn:Ax K x qual st f fd) (S:Ab N ps (bA st)) (hK:K=G.K)
  (Cv:∀(cdv:af) (A:cn) (outer:List Env) (s:ag) (H:Hp) (E₀ E:XK),fd.code=cdv->Good (kP (bX P w base) P w K mg base N qual (bA st) f cdv A outer s H E₀) G E k->kY (kP (bX P w base) P w K mg base N qual (bA st) f cdv A outer s H E₀) G E (kQ st) mb):
  Ah P w K mg base (bX P w base) (k+1) f fd ps (cB G (aR ps.length N.length mb)):=by
 obtain⟨oc,od,kV,doc,pm,an,cdv,ct,osl,rfl,lk,hcd⟩:=Fn.ex;have hlen:∀vs H Q E,cB G (aR ps.length N.length mb) vs H Q E->vs.length=ps.length:=λvs H Q E ⟨μ,h,ds,r,sm,o⟩=>by
  rw[r.length];unfold aR at o
  by_cases hd:ds.length=ps.length
  ·exact hd
  ·rw[if_neg hd]at o;exact o.elim
 refine F9 lk hcd S hlen λA outer s H vs Q E hr hsp=>?_;have hl:=hlen _ _ _ _ hsp;obtain⟨μ,h,ds,r,sm,o⟩:=hsp;have o':Out G E μ h.length H (bO (mb (cQ N.length ds) h)) (Ac G) Q:=by unfold aR at o;rw[if_pos (by rw[<-r.length];exact hl)]at o;exact o
 refine⟨_,Cv cdv A outer s H E (EB G μ h.length H (mb (cQ N.length ds) h)) rfl (IF hr hK (λu H' ⟨c,h',μ',er,x,s',fl⟩=>?_) IH) hK, ?_⟩
 ·rw[er]at o';exact o' μ' H' u x s' fl
 ·refine⟨μ,cQ N.length ds,h,IG r N,sm, ?_⟩
  cases q:mb (cQ N.length ds) h with
  |bad=>rw[q]at o';exact o'.elim
  |bk ρ h'=>rw[q]at o';exact o'.elim
  |ct ρ h'=>rw[q]at o';exact o'.elim
  |rt d h'=>rw[q]at o';exact o'
  |nx ρ h'=>rw[q]at o';exact λμ' H' σ' x' s' rs'=>o' μ' H' .non x' s' rfl
  |ex c h'=>exact λμ' H' u x' s' fl=>⟨c,h',μ',rfl,x',s',fl⟩
end
section
variable{X:Cx}{G:Cfg}{E:XK}{k:Nat}{q x:Str}{p pos lpos:Pos}{params:pg}{body:bq}{scope os:ic}{c P fr:ah}{fdr:bj}{Nl oN:zr}{me:M Dv}{n ncl j:Nat}{mb:MS}{caps:zq}
end
def fX:Dv->Bool
 | .scr=>false
 |_=>true
def aS (x y:Dv) (h:Hs):Rs Dv:=if fX x=true then gI [] x y h else .bad
def eZ (x:Dv) (h:Hs):Rs Dv:=if fX x=true then iH [] x h else .bad
def iU (x:Dv) (h:Hs):Rs Dv:=if fX x=true then qN [] x h else .bad
def cN (neg:Bool) (x y:Dv) (h:Hs):Rs Dv:=if fX y=true then jQ [] neg x y h else .bad
theorem BE {scr:zo}{x:Dv}{h:Hs}(e:fX x=true):fJ [] x h=fJ scr x h:=by cases x <;> first|rfl|cases e
section
variable{X:Cx}{G:Cfg}{E:XK}{k:Nat}{a b e:bq}{es:List bq}{ma mb:M Dv}{aQ:M zu }{p pos:Pos}
theorem YD:fI G (AA G.K) aS:=by
 intro E μ h H x y vx vy Q s rx ry o;unfold aS at o
 split at o
 ·rename_i hx;refine HL E μ h H x y vx vy Q s rx ry ?_;have e:gI G.scr x y h=gI [] x y h:=by cases x <;> cases y <;> first|rfl|exact absurd hx (by decide)
  rw[e];exact o
 ·exact o.elim
theorem YE:jE G (HR G.K) eZ:=by
 intro E μ h H x vx Q s rx o;unfold eZ at o
 split at o
 ·rename_i hx;refine HS E μ h H x vx Q s rx ?_;unfold iH at o ⊢;rw[<-BE hx];exact o
 ·exact o.elim
theorem YF:jE G (λx H Q=>∃p ys,x=.ref p/\(Bd G.K H p ys∨Aq G.K H p ys)/\∀l,H l=none->Q (.ref l) (aZ H l (.lst ys))) iU:=by
 intro E μ h H x vx Q s rx o;unfold iU at o
 split at o
 ·rename_i hx;refine VT E μ h H x vx Q s rx ?_;unfold qN at o ⊢;rw[<-BE hx];exact o
 ·exact o.elim
theorem BF (neg:Bool):fI G (wJ G.K neg) (cN neg):=by
 intro E μ h H x y vx vy Q s rx ry o;unfold cN at o
 split at o
 ·rename_i hx;refine XF neg E μ h H x y vx vy Q s rx ry ?_;unfold jQ at o ⊢;rw[<-BE hx];exact o
 ·exact o.elim
theorem cV (ha:aK X G E a ma) (hb:aK X G E b mb) (hs:zZ b:=by intro _ _;rfl):aK X G E (.Subscript a b pos) (m2 aS ma mb):=λhK=>PE.imp (GI (by have:=GN (X:=X);rw[hK]at this;exact this) (ha hK) (hb hK) hs) λ_ _ _ t=>sO YD t
theorem qZ (hg:Gl X "len") (hm:X.mg "len" = none) (ha:dR X G E (e::es) aQ)
  (he:ar (e::es) X.env=(false,eval e X.env)::ar es X.env:=by rfl) (Bj:(backTo pos (ar es X.env)).any (·.1)=false:=by rfl):aK X G E (.Call (.Name "len" p) (e::es) [] pos) (aD (f1 eZ) aQ):=λhK=>
 nP (Af.imp (GO (X:=X)) λxs H Q ⟨v,h1,a,ys,h2,h3,h4⟩=>⟨a,ys,by rw[h1,h2],by rw[hK];exact h3,h4⟩) (oR YE) hg hm wx ha (by decide) (by decide) he Bj hK
theorem BG (hg:Gl X "list") (hm:X.mg "list" = none) (ha:dR X G E (e::es) aQ)
  (he:ar (e::es) X.env=(false,eval e X.env)::ar es X.env:=by rfl) (Bj:(backTo pos (ar es X.env)).any (·.1)=false:=by rfl):aK X G E (.Call (.Name "list" p) (e::es) [] pos) (aD (f1 iU) aQ):=λhK=>
 HQ (Af.imp (T1 (X:=X)) λxs H Q ⟨v,h1,a,ys,h2,h3,h4⟩=>⟨a,ys,by rw[h1,h2],by rw[hK];exact h3,h4⟩) (oR YF) hg hm HM ha (by decide) (by decide) he Bj hK
end
theorem YG (h l:Hs) (k:Nat):getL (h++l) (h.length+k)=getL l k:=by unfold getL;rw[ig (by omega),show h.length+k - h.length=k by omega]
theorem YH (h l:Hs):getL (h++l) h.length=getL l 0:=YG h l 0
section
variable{n:Nat}
end
section
variable{ma mb mc:M Dv}{aQ:M zu }{t u:M Bool}{f f':Dv->Dv->Hs->Rs Dv}{g:Dv->Hs->Rs Dv}{F:zt}
end
section
variable{mi mi':M Src}{st Cj:dQ}{test Cm:M Bool}{inner:MC}{me:M Dv}{cap:List (Option Nat)}
end
section
variable{mo me mi:M Dv}{ml:M zu }{m u:MS}{t:M Bool}
end
def dU:Dv->Option Int
 | .int i=>some i
 |_=>none
theorem lF {G:Cfg}{μ:Nat->ah}{n:Nat}{H:Hp}:∀{xs:zu}{vs:List V}{ns:zo},RelDL G μ n H xs vs->bG dU xs=some ns->vs=ns.map V.int
 | [],_,ns,r,e=>by cases e;rw[RelDL]at r;subst r;rfl
 |x::xs,_,ns,r,e=>by
  rw[RelDL]at r;obtain⟨v,rr,rfl,r1,r2⟩:=r;unfold bG at e
  cases x with
  |int i=>
   dsimp only[dU]at e
   cases q:bG dU xs with
   |none=>rw[q]at e;cases e
   |some zs=>rw[q]at e;cases e;rw[Ac]at r1;subst r1;rw[lF r2 q];rfl
  |_=>cases e
section
variable{X:Cx}{G:Cfg}{E:XK}{e a b:bq}{es:List bq}{ma mb:M Dv}{aQ:M zu }{p pos:Pos}
theorem tJ {ns:zo}{its:List af}(rv:Ae (ns.map V.int) its) {i:Nat}{v:af}(e:its.toArray[i]?=some v):∃t,v=.int (ns.getD i 0) t:=by
 have hl:=rv.length;rw[ba]at hl;have e':its[i]?=some v:=by simpa using e
 have hi:i<its.length:=(bg.mp e').1;have hb:i<ns.length:=by omega
 obtain⟨u,e2,r⟩:=rv.get (i:=i) (x:=V.int ns[i]) (by simp[hb]);rw[e']at e2;cases e2;have hg:ns.getD i 0=ns[i]:=by simp[pz,hb]
 rw[hg];exact r
end
section
variable{X:Cx}{G:Cfg}{E:XK}{a:bq}{elts:List bq}{kk:Nat}{tp p pos:Pos}{ma:M Dv}{ms:M zu }
end
def fF (g:Int->Int->Bool) (val:Nat->Int):Nat->Int
 |0=>val 0
 |k+1=>if g (val (k+1)) (fF g val k)then val (k+1)else fF g val k
theorem JE (g:Int->Int->Bool) (val:Nat->Int):∀k,val (argBest (λi j=>g (val i) (val j)) k)=fF g val k
 |0=>rfl
 |k+1=>by
  rw[argBest,fF,<-JE g val k]
  split <;> rfl
def nX (ns:zo):Int:=fF (λa b=>decide (a>b)) (λi=>ns.getD i 0) (ns.length - 1)
def gL (ns:zo):Int:=fF (λa b=>decide (a<b)) (λi=>ns.getD i 0) (ns.length - 1)
def oY (x:Int):zo->zo
 | []=>[x]
 |y::ys=>if x<=y then x::y::ys else y::oY x ys
def jR:zo->zo
 | []=>[]
 |x::xs=>oY x (jR xs)
theorem nY (x:Int):∀ys,(oY x ys).Perm (x::ys)
 | []=>ve _
 |y::ys=>by
  unfold oY
  split
  ·exact ve _
  ·exact((nY x ys).cons y).trans (vf x y ys)
theorem BH:∀xs,(jR xs).Perm xs
 | []=>ve _
 |x::xs=>(nY x (jR xs)).trans ((BH xs).cons x)
theorem JF (x:Int):∀ys,ys.Pairwise (·<=·)->(oY x ys).Pairwise (·<=·)
 | [],_=>by simp[oY]
 |y::ys,h=>by
  have h1:=de.mp h;unfold oY
  split
  ·rename_i hxy;refine de.mpr ⟨λz hz=>?_,h⟩
   rcases aw.mp hz with rfl|hz
   ·exact hxy
   ·exact lh hxy (h1.1 z hz)
  ·rename_i hxy;refine de.mpr ⟨λz hz=>?_,JF x ys h1.2⟩
   rcases aw.mp ((nY x ys).subset hz)with rfl|hz
   ·omega
   ·exact h1.1 z hz
theorem JG:∀xs,(jR xs).Pairwise (·<=·)
 | []=>oq
 |x::xs=>JF x _ (JG xs)
theorem YI {ms ns:zo}(hp:ms.Perm ns) (hs:ms.Pairwise (·<=·)):ms=jR ns:=List.Perm.eq_of_pairwise (le:=(·<=·)) (λa b _ _ h1 h2=>Int.le_antisymm h1 h2) hs (JG ns) (hp.trans (BH ns).symm)
theorem YJ (xs:zo):(jR xs).length=xs.length:=(BH xs).length_eq
section
variable{X:Cx}{G:Cfg}{E:XK}{e a b:bq}{es:List bq}{ma mb:M Dv}{aQ:M zu }{p pos:Pos}
abbrev JH (f:zo->Int):List V->Hp->VK->Prop:=λxs H Q=>∃(p:ah) (ns:zo),xs=[.ref p]/\H p=some (.lst (ns.map V.int))/\0<ns.length/\Q (.int (f ns)) H
theorem YK (hc:X.calm=true):Af X (.builtin "min") (JH gL):=by
 intro pins s σ H xs us Q I rv ⟨p,ns,e,hp,h0,q⟩;subst e;obtain⟨u,rfl,ru⟩:=gG rv;cases ru;obtain⟨its,rits,pl,hz⟩:=I.list (Bd.of hp);have hn:its.toArray.size=ns.length:=by have:=rits.length;simp at this ⊢;omega
 have lp:=I.hok.lt hp;have ne:p≠s.heap.objs.size:=bf lp;refine call_min_walk (kv pl.isList ⟨_,_,_,_,_,_,_,rfl,uh (A:=X.A.in1) (show X.A.in1.handled=none from I.ok.hd hc) _ p ne its.toArray,⟨⟨_,az _ rfl,rfl,rfl⟩,pl.isList.push _⟩,λb hb=>?_,by rw[hn];exact h0,CmpOf.ints_lt (λi=>ns.getD i 0) (λi v ev=>tJ rits ev),λv h' tk ev k=>?_⟩)
 ·simp only[ff];simp at hb
  rcases hb with rfl|rfl
  ·exact jl _
  ·exact gr lp
 ·obtain⟨t',rfl⟩:=tJ rits ev;refine⟨.int (gL ns),H,(A7 (tk:=tk) I k:Inv X pins σ H { s with heap:=h',toks:=tk }),⟨t', ?_⟩,q⟩;rw[hn];rw[JE (λa b=>decide (a<b)) (λi=>ns.getD i 0)];rfl
theorem wQ:∀{vs:List af}{ns:zo},Ae (ns.map V.int) vs->kd vs ns
 | [],[],_=>.nil
 | [],n::ns,h=>by cases h
 |v::vs,[],h=>by cases h
 |v::vs,n::ns,h=>by
  cases h with
  |cons h1 h2=>obtain⟨t,rfl⟩:=h1;exact .cons _ _ (wQ h2)
theorem sF:∀{vs:List af}{ns:zo},kd vs ns->Ae (ns.map V.int) vs
 |_,_,.nil=>.nil
 |_,_,.cons _ _ h=>.cons ⟨_,rfl⟩ (sF h)
theorem YL:Af X (.builtin "sorted") (λxs H Q=>∃(p:ah) (ns:zo),xs=[.ref p]/\H p=some (.lst (ns.map V.int))/\ns.length<64/\∀l,H l=none->Q (.ref l) (aZ H l (.lst ((jR ns).map V.int)))):=by
 intro pins s σ H xs us Q I rv ⟨p,ns,e,hp,h0,q⟩;subst e;obtain⟨u,rfl,ru⟩:=gG rv;cases ru;obtain⟨its,rits,pl,hz⟩:=I.list (Bd.of hp);have hl:=rits.length;rw[ba]at hl;refine sorted_ints pl.isList (wQ rits) (by omega) λout ns' a1 a2 a3=>?_;obtain⟨ep,he⟩:=sortedAll_at s.heap its out;have hu:=YI a2 a3;subst hu;refine⟨.ref (s.heap.objs.size+1),_,I.laid (t':=s.toks) (λb u hb=>sortedAll_old hb) (we _) (show Ai X.prog X.w _ _ _ (.lst ((jR ns).map V.int)) from⟨?_,out.toList,ep,sF a1, ?_⟩),rfl,q _ (I.hok.fresh (we _))⟩
 ·rw[ba,YJ];exact dm (ij h0) (by decide)
 ·rw[he]
def jS (f:zo->Int) (x:Dv) (h:Hs):Rs Dv:=match x with
 | .ref i=>match getL h i with
  |some xs=>match bG dU xs with
   |some ns=>if 0<ns.length then .ok (.int (f ns)) h else .bad
   |none=>.bad
  |none=>.bad
 |_=>.bad
theorem YM {f:zo->Int}:jE G (λx H Q=>JH f [x] H Q) (jS f):=by
 intro E μ h H x vx Q s r o
 cases x with
 |ref i=>
  dsimp only[jS]at o
  cases q:getL h i with
  |none=>rw[q]at o;exact o.elim
  |some xs=>
   rw[q]at o;dsimp only at o
   cases q2:bG dU xs with
   |none=>rw[q2]at o;exact o.elim
   |some ns=>
    rw[q2]at o;dsimp only at o
    split at o
    ·rename_i h0;obtain⟨vs,e1,r1⟩:=s.ob i _ (dP q);obtain⟨_,rfl⟩:=r;exact⟨_,ns,rfl,by rw[e1,lF r1 q2],h0,o.val s rfl⟩
    ·exact o.elim
 |_=>exact o.elim
theorem JI:dj "sorted" = some (.builtin "sorted"):=by decide +kernel
theorem JJ (hc:X.calm=true) (hg:Gl X "min") (hm:X.mg "min" = none) (ha:dR X G E [e] aQ)
  (he:ar [e] X.env=[(false,eval e X.env)]:=by rfl):aK X G E (.Call (.Name "min" p) [e] [] pos) (aD (f1 (jS gL)) aQ):=
 nP (Af.imp (YK hc) λxs H Q ⟨v,h1,a,ns,h2,h3⟩=>⟨a,ns,by rw[h1,h2],h3⟩) (oR YM) hg hm HN ha (by decide) (by decide) he rfl
def nZ (x:Dv) (h:Hs):Rs Dv:=match x with
 | .ref i=>match getL h i with
  |some xs=>match bG dU xs with
   |some ns=>if ns.length<64 then .ok (.ref h.length) (h++[.lst ((jR ns).map Dv.int)])else .bad
   |none=>.bad
  |none=>.bad
 |_=>.bad
theorem YN:jE G (λx H Q=>∃(p:ah) (ns:zo),x=.ref p/\H p=some (.lst (ns.map V.int))/\ns.length<64/\∀l,H l=none->Q (.ref l) (aZ H l (.lst ((jR ns).map V.int)))) nZ:=by
 intro E μ h H x vx Q s r o
 cases x with
 |ref i=>
  dsimp only[nZ]at o
  cases q:getL h i with
  |none=>rw[q]at o;exact o.elim
  |some xs=>
   rw[q]at o;dsimp only at o
   cases q2:bG dU xs with
   |none=>rw[q2]at o;exact o.elim
   |some ns=>
    rw[q2]at o;dsimp only at o
    split at o
    ·rename_i h0;obtain⟨vs,e1,r1⟩:=s.ob i _ (dP q);obtain⟨_,rfl⟩:=r;exact⟨_,ns,rfl,by rw[e1,lF r1 q2],h0,λl hl=>nM s (qK _) hl o⟩
    ·exact o.elim
 |_=>exact o.elim
end
section
variable{X:Cx}{G:Cfg}{E:XK}{e o a b:bq}{es:List bq}{ma mb mo me:M Dv}{aQ:M zu }{p pos np apos cpos:Pos}{y:Str}
def BI (_ j:Int):Prop:=0<j/\j<18446744073709551616
theorem YO:Be X (binaryOp .FloorDiv) (rI BI λi j=>.int (i / j)):=vG λi j _ _ _ _ _ hc q=>by
 have h1:(0:Int)<j:=hc.1;have h2:j<18446744073709551616:=hc.2;refine floordiv_int (by omega) (by rw[Int.fdiv_eq_ediv_of_nonneg i (by omega)];exact q) (.inl (PyProof.noPylong_of_log2 ?_));have h3:j.natAbs≠0:=by omega
 have h4:j.natAbs<2 ^ 64:=by omega
 have:=(Nat.log2_lt h3).mpr h4;omega
def tK (_ j:Int):Bool:=decide (0<j)&&decide (j<18446744073709551616)
theorem YQ (i j:Int) (h:tK i j=true):BI i j:=by unfold tK at h;unfold BI;simpa only[cw,decide_eq_true_eq]using h
def tL:Dv->Dv->Hs->Rs Dv:=kU tK λi j=>.int (i / j)
theorem JK (ha:aK X G E a ma) (hb:aK X G E b mb):aK X G E (.BinOp a .FloorDiv b pos) (m2 tL ma mb):=qE YO (vU YQ) ha hb
def JL (K:aq):R2:=λx y H Q=>∃a b ys,x=.ref a/\y=.ref b/\Aq K H a []/\Aq K H b ys/\Q (.ref b) H
theorem op_catT0:Be X (binaryOp .Add) (JL X.K):=by
 intro pins s σ H x y v u Q I rx ry ⟨a,b,ys,e1,e2,ha,hb,q⟩;subst e1;subst e2;cases rx;cases ry;obtain⟨its,r1,p1,_⟩:=I.tuple ha;obtain⟨Bm,r2,p2,_⟩:=I.tuple hb;have hn:its=[]:=r1.nil_iff.mpr rfl;subst hn;obtain⟨⟨cls,dd,data,sl⟩,ho,hc,n,hd⟩:=p1;obtain⟨⟨cls2,dd2,data2,sl2⟩,ho2,hc2,n2,hd2⟩:=p2;simp only at hc hd hc2 hd2;subst hc hd hc2 hd2;exact concat_meets ⟨_,ho,rfl⟩ ⟨_,ho2,rfl⟩ xm ze qv qk (qg _ _)
  (tuple_addW0 a b _ _ n n2 dd dd2 sl sl2 rfl) ⟨ho,ho2,⟨.ref b,H,I,rfl,q⟩⟩
def cC (x y:Dv) (h:Hs):Rs Dv:=match x,y with
 | .tup [],.tup ys=>.ok (.tup ys) h
 |x,y=>kX x y h
theorem YR:fI G (λx y H Q=>JL G.K x y H Q∨AO G.K x y H Q) cC:=by
 intro E μ h H x y vx vy Q s rx ry o;unfold cC at o
 split at o
 ·rename_i ys;obtain⟨a,vs,rfl,ea,ra⟩:=rx;obtain⟨b,ws,rfl,eb,rb⟩:=id ry;have:vs=[]:=by rw[RelDL]at ra;exact ra
  subst this;exact .inl ⟨a,b,ws,rfl,rfl,Aq.of ea,Aq.of eb,o.val s ry⟩
 ·exact .inr (VJ E μ h H _ _ vx vy Q s rx ry o)
theorem gM (ha:aK X G E a ma) (hb:aK X G E b mb):aK X G E (.BinOp a .Add b pos) (m2 cC ma mb):=λhK=>qE (op_catT0.or VI) (by rw[hK];exact YR) ha hb hK
def dW (k:Int):zo->Option Nat
 | []=>none
 |n::ns=>if n=k then some 0 else(dW k ns).map (·+1)
theorem rA {k:Int}:∀{ns:zo}{j:Nat},dW k ns=some j->ns[j]?=some k/\∀m,m<j->ns[m]?≠some k
 | [],j,h=>by cases h
 |n::ns,j,h=>by
  unfold dW at h
  split at h
  ·rename_i e;cases h;exact⟨by simp[e],λm hm=>by omega⟩
  ·rename_i e
   cases q:dW k ns with
   |none=>rw[q]at h;cases h
   |some i=>
    rw[q]at h;cases h;obtain⟨h1,h2⟩:=rA q;refine⟨by simpa using h1,λm hm=>?_⟩
    cases m with
    |zero=>simpa using e
    |succ m=>
     have hm':m<i:=by simpa using hm
     simpa using h2 m hm'
theorem BJ:∀{vs:List af}{ns:zo}{i:Nat}{n:Int},kd vs ns->ns[i]?=some n->∃t,vs[i]?=some (.int n t)
 |_,_,0,n,.cons m t h,e=>by simp at e;subst e;exact⟨t,rfl⟩
 |_,_,i+1,n,.cons m t h,e=>by simpa using BJ h (by simpa using e)
 |_,_,i,n,.nil,e=>by simp at e
theorem YS (a b:af):argsOk "tuple.index" ⟨[a,b],[]⟩:=by unfold argsOk;kernel_rfl
theorem YT {prog:bh}{w:cp}{A:cn}{E:af->ag->Prop}{s:ag}{t:ah}{items:Array af}{ns:zo}{k:Int}{u:Tok}{j:Nat}{P:Fin->ag->Prop}(ht:yj s.heap t items) (hi:kd items.toList ns)
  (hj:ns[j]?=some k) (hno:∀m,m<j->ns[m]?≠some k) (h:P (.done (.ret (.int j s.toks))) { s with toks:=s.toks+1 }):wpAny (model prog w) A (kz.«tuple.index» ⟨[.ref t,.int k u],[]⟩) P E s:=by
 show wpAny _ _ (ug (.ref t) >>= _) _ _ s;refine ae (zf ht ?_);refine ae (ai ?_);refine ae (ai ?_);show wpAny _ _ (forIn [:min items.size items.size] (none,()) _ >>= _) _ _ s;rw[yn,Std.Legacy.Range.forIn_eq_forIn_range'];have Bl:items.size=ns.length:=by have:=hi.length;simpa using this
 have hjn:j<ns.length:=(bg.mp hj).1;refine ae (pq _ (λrest b s'=>b=(none,())/\s'=s/\∃i,i<=j/\rest=List.range' i (items.size - i) 1) _ ?_ ?_ _ _ ⟨rfl,rfl,0,iu _, ?_⟩)
 ·rintro x rest b s' ⟨rfl,rfl,i,Bo,hr⟩
  have hlt:i<items.size:=by omega
  obtain⟨z,hz⟩:∃z,items.size - i=z+1:=⟨items.size - i - 1,by omega⟩
  rw[hz,List.range'_succ]at hr;injection hr with hx hrest;subst hx;obtain⟨n,hn⟩:∃n,ns[x]?=some n:=⟨ns[x]'(by omega),by simp[show x<ns.length by omega]⟩
  obtain⟨tt,ht2⟩:=BJ hi hn;have ht3:items[x]?=some (.int n tt):=by simpa using ht2
  rw[ht3];dsimp only;refine ae (xj ?_)
  by_cases hxj:x=j
  ·subst hxj;have hnk:n=k:=by rw[hj]at hn;cases hn;rfl
   subst hnk;rw[if_pos (by simp)];refine ae (ae (wpAny_mkInt ?_));exact ai (ai (ai h))
  ·have hne:n≠k:=λe=>hno x (by omega) (by rw[hn,e]);rw[if_neg (by simpa using hne)];exact ai ⟨rfl,rfl,x+1,by omega,by rw[hrest];congr 1;omega⟩
 ·rintro b s' ⟨rfl,rfl,i,Bo,hr⟩
  exfalso
  have hlt:i<items.size:=by omega
  have:=congrArg qj hr;simp at this;omega
 ·simp[Std.Legacy.Range.size]
theorem YU:vJ X "tuple.index" (λx xs H Q=>∃(a:ah) (ns:zo) (k:Int) (j:Nat),x=.ref a/\xs=[.int k]/\H a=some (.tup (ns.map V.int))/\dW k ns=some j/\Q (.int j) H):=by intro pins s σ H x xs v us Q I rx rv ⟨a,ns,k,j,e1,e2,ha,hj,q⟩;subst e1;subst e2;cases rx;obtain⟨u,rfl,ru⟩:=gG rv;obtain⟨t,rfl⟩:=ru;obtain⟨its,rits,p1,_⟩:=I.tuple (Aq.of ha);obtain⟨h1,h2⟩:=rA hj;refine gc wy p1.typeIs PySem.F.entry_tuple_index (YT p1 (wQ rits) h1 h2 ⟨_,rfl, ?_⟩) (YS _ _);exact⟨.int j,H,I.tok _,⟨_,rfl⟩,q⟩
theorem YV {id:String}{name:Str}{r:V->List V->Hp->VK->Prop}{to:TE}{t:TA}(slot:Slot "tuple" name id) (hty:typeOf (.builtin id)=pure (.type "method_descriptor")) (hm:vJ X id r) (ho:PE X o to) (ha:PA X [e] t)
  (hbase:attributeBase o name X.env (eval o X.env)=eval o X.env)
  (hfew:((backTo cpos (ar [e] X.env)).all (λx=>!x.1)&&(backToKw cpos (keywordEach [] X.env)).all (λx=>x.1.isSome)
   && decide ([e].length+([]:List Keyword).length+(if([]:List Keyword).isEmpty then 0 else 1)<30))=true)
  (hline:(apos.endLine==cpos.line)=true) (hs:ar [e] X.env=[(false,eval e X.env)]):
  PE X (.Call (.Attribute o name apos) [e] [] cpos) (λσ H Q=>to σ H λx H1=>(∃a xs,x=.ref a/\H1 a=some (.tup xs))/\t σ H1 λxs H2=>r x xs H2 Q):=by
 intro pins s σ H Q I h;refine wpAny_Call_method_late hbase hfew hline rfl (bD (ho pins s σ H _ I h) λv s1 ⟨x,H1,I1,r1,⟨a,ys,ex,ea⟩,q1⟩=>?_);subst ex;cases r1;obtain⟨_,its,rits,ob,g1,g2,g3,n,g4⟩:=(show Ai X.prog X.w H1 s1.heap a (.tup ys) from I1.hok a _ ea)
 refine⟨"tuple",id,PySem.F.plainAttrs_tuple,slot,hty,⟨ob,g1,g2⟩,λb eb=>?_, ?_⟩
 ·cases eb;exact⟨ob,g1,g3⟩
 ·have hA:=ha cpos pins s1 σ H1 _ I1 q1;rw[hs]at hA ⊢;exact yb (by rfl) (sy (bD hA λus s2 ⟨vs,H2,I2,r2,q2⟩=>hm pins s2 σ H2 (.ref a) vs (.ref a) us Q I2 rfl r2 q2))
def BK (x i:Dv) (h:Hs):Rs Dv:=match x,i with
 | .tup xs,.int k=>match bG dU xs with
  |some ns=>match dW k ns with
   |some j=>.ok (.int j) h
   |none=>.bad
  |none=>.bad
 |_,_=>.bad
def JM (x:Dv):Bool:=match x with
 | .tup _=>true
 |_=>false
def hJ (mo me:M Dv):M Dv:=λρ h=>(mo ρ h).bind λx h1=>if JM x=true then(me ρ h1).bind λd h2=>BK x d h2 else .bad
theorem wR (ho:aK X G E (.Name y np) mo) (he:aK X G E e me) (hs:ar [e] X.env=[(false,eval e X.env)]:=by rfl) (hl:(apos.endLine==cpos.line)=true:=by rfl):aK X G E (.Call (.Attribute (.Name y np) "index" apos) [e] [] cpos) (hJ mo me):=λhK=>
 PE.imp (YV wy PySem.F.type_tuple_index YU (ho hK) (jC (he hK) jM hs) rfl (by rw[hs];rfl) hl hs) λσ H Q ⟨μ,ρ,h,rs,s,oo⟩=>eO rs s oo λμ1 x h1 vx H1 x1 As s1 r1 o1=>by
  split at o1
  ·rename_i hl
   cases x with
   |tup xs=>
    obtain⟨a,vs,rfl,ea,ra⟩:=id r1;refine⟨⟨a,vs,rfl,ea⟩,eO As s1 o1 λμ2 d h2 vd H2 x2 Cp s2 r2 o2=>?_⟩
    cases d with
    |int k=>
     dsimp only[BK]at o2
     cases q:bG dU xs with
     |none=>rw[q]at o2;exact o2.elim
     |some ns=>
      rw[q]at o2;dsimp only at o2
      cases q2:dW k ns with
      |none=>rw[q2]at o2;exact o2.elim
      |some j=>rw[q2]at o2;obtain⟨a',Bp,e',ea',ra'⟩:=Ac.mono x2 _ _ r1;cases e';rw[Ac]at r2;subst r2;exact⟨_,ns,k,j,rfl,rfl,by rw[ea',lF ra' q],q2,o2.val s2 rfl⟩
    |_=>exact o2.elim
   |_=>cases hl
  ·exact o1.elim
end
section
variable{X:Cx}{G:Cfg}{E:XK}{k:Nat}{a b:bq}{ma mb mo:M Dv}{pos:Pos}
theorem YW (g:Good X G E k) (ha:aK X G E a ma) (hb:aK X G E b mb) (hm:lastMarks [.In] [b]=false:=by with_unfolding_all rfl):aK X G E (.Compare a [.In] [b] pos) (m2 (cN false) ma mb):=λhK=>oK (XE g.room.units) (by rw[hK];exact BF false) ha hb hm hK
theorem JN (g:Good X G E k) (ha:aK X G E a ma) (hb:aK X G E b mb) (hm:lastMarks [.NotIn] [b]=false:=by with_unfolding_all rfl):aK X G E (.Compare a [.NotIn] [b] pos) (m2 (cN true) ma mb):=λhK=>oK (IU g.room.units) (by rw[hK];exact BF true) ha hb hm hK
theorem tM (g:Good X G E k) (ha:aK X G E a ma) (hb:aK X G E b mb) (hm:lastMarks [.NotIn] [b]=false:=by with_unfolding_all rfl):fZ X G E (.Compare a [.NotIn] [b] pos) (mB (m2 (cN true) ma mb)):=λhK=>oM (IU g.room.units) (by rw[hK];exact BF true) ha hb hm hK
theorem BL (ha:aK X G E a ma) (hb:aK X G E b mb):fZ X G E (.Compare a [.IsNot] [b] pos) (mB (m2 (lA true) ma mb)):=oM XI (XN true) ha hb (kB _)
end
theorem oZ {H:Hs}{n:Nat}{xs ys:zu}(e:getL H n=some xs):getL (H.set n (.lst ys)) n=some ys:=by have h:=(bg.mp (dP e)).1;unfold getL;rw[ie h]
theorem tN {H:Hs}{n j:Nat}{o:Ob}(h:n≠j):getL (H.set n o) j=getL H j:=by unfold getL;rw[ib h]
theorem pA {H:Hs}{n:Nat}{xs:zu}(e:getL H n=some xs):n<H.length:=(bg.mp (dP e)).1
theorem mQ {H l:Hs}{n:Nat}{xs:zu}(e:getL H n=some xs):getL (H++l) n=some xs:=by unfold getL;rw[fo (pA e),dP e]
structure Fr (S:zq) (H H':Hs):Prop where
 le:H.length<=H'.length
 at_:∀j,j<H.length->j∉S->H'[j]?=H[j]?
theorem Fr.refl {S:zq}{H:Hs}:Fr S H H:=⟨ak _,λ_ _ _=>rfl⟩
theorem Fr.trans {S T:zq}{H H1 H2:Hs}(a:Fr S H H1) (b:Fr T H1 H2) (h:∀j∈T,j∈S∨H.length<=j):Fr S H H2:=⟨dm a.le b.le,λj hj hS=>(b.at_ j (bc hj a.le) λz=>(h j z).elim hS λw=>absurd (bc hj w) (gv _)).trans (a.at_ j hj hS)⟩
theorem Fr.app {S:zq}{H l:Hs}:Fr S H (H++l):=⟨by simp,λj hj _=>fo hj⟩
theorem Fr.set {H:Hs}{n:Nat}{o:Ob}:Fr [n] H (H.set n o):=⟨by simp,λj hj hS=>ib (by simpa using dh (by simpa using hS))⟩
theorem Fr.getL {S:zq}{H H':Hs}{j:Nat}{xs:zu}(a:Fr S H H') (e:getL H j=some xs) (h:j∉S):getL H' j=some xs:=by unfold L2.Mr.getL at e ⊢;rw[a.at_ j (pA e) h];exact e
theorem Fr.mono {S T:zq}{H H':Hs}(a:Fr S H H') (h:∀j∈S,j∈T):Fr T H H':=⟨a.le,λj hj hT=>a.at_ j hj λz=>hT (h j z)⟩
theorem bK {m u:MS}{ρ ρ1:Ev}{h h1:Hs}(e:m ρ h=.nx ρ1 h1):aJ m u ρ h=u ρ1 h1:=by unfold aJ;rw[e]
theorem JO {mi:M Src}{st:dQ}{b:MS}{ρ:Ev}{h h1:Hs}{src:Src}(e:mi ρ h=.ok src h1):gC mi st b ρ h=hZ src st b src.n 0 ρ h1:=by unfold gC;rw[e];rfl
theorem tO {c:M Bool}{t u:MS}{ρ:Ev}{h h1:Hs}(e:c ρ h=.ok true h1):bQ c t u ρ h=t ρ h1:=by unfold bQ;rw[e];rfl
theorem kJ {c:M Bool}{t u:MS}{ρ:Ev}{h h1:Hs}(e:c ρ h=.ok false h1):bQ c t u ρ h=u ρ h1:=by unfold bQ;rw[e];rfl
theorem JP {src:Src}{sg:dQ}{b:MS}{f k:Nat}{ρ ρ1 ρ2:Ev}{H H2:Hs}{d:Dv}(hg:src.get k H=some d) (hs:sg d ρ=some ρ1) (hb:b ρ1 H=.nx ρ2 H2):hZ src sg b (f+1) k ρ H=hZ src sg b f (k+1) ρ2 H2:=by simp[hZ,hg,hs,hb]
theorem JQ {src:Src}{sg:dQ}{b:MS}(P:Nat->Ev->Hs->Prop)
  (step:∀k ρ H,k<src.n->P k ρ H->∃d ρ1 ρ2 H2,src.get k H=some d/\sg d ρ=some ρ1/\b ρ1 H=.nx ρ2 H2/\P (k+1) ρ2 H2)
  (fin:∀ρ H,P src.n ρ H->src.fin H=true):∀(f k:Nat) (ρ:Ev) (H:Hs),f+k=src.n->P k ρ H->∃ρ' H',hZ src sg b f k ρ H=.nx ρ' H'/\P src.n ρ' H'
 |0,k,ρ,H,h,p=>by
  have hk:k=src.n:=by omega
  subst hk;exact⟨ρ,H,by simp[hZ,fin ρ H p],p⟩
 |f+1,k,ρ,H,h,p=>by obtain⟨d,ρ1,ρ2,H2,e1,e2,e3,p2⟩:=step k ρ H (by omega) p;rw[JP e1 e2 e3];exact JQ P step fin f (k+1) ρ2 H2 (by omega) p2
theorem tP {mi:M Src}{src:Src}{sg:dQ}{b:MS}{ρ:Ev}{H H1:Hs}(hi:mi ρ H=.ok src H1) (P:Nat->Ev->Hs->Prop)
  (step:∀k ρ H,k<src.n->P k ρ H->∃d ρ1 ρ2 H2,src.get k H=some d/\sg d ρ=some ρ1/\b ρ1 H=.nx ρ2 H2/\P (k+1) ρ2 H2)
  (fin:∀ρ H,P src.n ρ H->src.fin H=true) (p:P 0 ρ H1):∃ρ' H',gC mi sg b ρ H=.nx ρ' H'/\P src.n ρ' H':=by
 rw[JO hi];exact JQ P step fin src.n 0 ρ H1 (by omega) p
theorem BM {src:Src}{sg:dQ}{t:M Bool}{m:MC}(P:Nat->Ev->Hs->zu->Prop)
  (step:∀k ρ H acc,k<src.n->P k ρ H acc->∃d ρ1,src.get k H=some d/\sg d ρ=some ρ1 /\
   ((∃H2,t ρ1 H=.ok false H2/\P (k+1) ρ1 H2 acc)∨∃H2 ρ3 acc3 H3,t ρ1 H=.ok true H2/\m ρ1 H2 acc=.ok (ρ3,acc3) H3/\P (k+1) ρ3 H3 acc3))
  (fin:∀ρ H acc,P src.n ρ H acc->src.fin H=true):∀(f k:Nat) (ρ:Ev) (H:Hs) (acc:zu),f+k=src.n->P k ρ H acc->∃ρ' H' Cc,gK src sg t m f k ρ H acc=.ok (ρ',Cc) H'/\P src.n ρ' H' Cc
 |0,k,ρ,H,acc,h,p=>by
  have hk:k=src.n:=by omega
  subst hk;exact⟨ρ,H,acc,by simp[gK,fin ρ H acc p],p⟩
 |f+1,k,ρ,H,acc,h,p=>by
  obtain⟨d,ρ1,e1,e2,e3⟩:=step k ρ H acc (by omega) p
  rcases e3 with⟨H2,e3,p2⟩|⟨H2,ρ3,acc3,H3,e3,e4,p2⟩
  ·obtain⟨ρ',H',Cc,e5,p5⟩:=BM P step fin f (k+1) ρ1 H2 acc (by omega) p2;exact⟨ρ',H',Cc,by simp[gK,e1,e2,e3,e5],p5⟩
  ·obtain⟨ρ',H',Cc,e5,p5⟩:=BM P step fin f (k+1) ρ3 H3 acc3 (by omega) p2;exact⟨ρ',H',Cc,by simp[gK,e1,e2,e3,e4,e5],p5⟩
theorem rB (k:Nat) (H:Hs):∀ns:zo,bG (bU (k+1) H) (ns.map Dv.int)=some (ns.map Dt.int)
 | []=>rfl
 |n::ns=>by rw[df,bG,rB k H ns];rfl
def aG (p:Int×Int):Dv:=.tup [.int p.1,.int p.2]
def jT (p:Int×Int):Dt:=.tup [.int p.1,.int p.2]
theorem JR (k:Nat) (H:Hs) (p:Int×Int):bU (k+2) H (aG p)=some (jT p):=rfl
theorem BN (k:Nat) (H:Hs):∀ps:y',bG (bU (k+2) H) (ps.map aG)=some (ps.map jT)
 | []=>rfl
 |p::ps=>by rw[df,bG,BN k H ps,JR];rfl
theorem JS (p q:Int×Int):bM (jT p) (jT q)=decide (p=q):=by obtain⟨a,b⟩:=p;obtain⟨c,d⟩:=q;simp only[jT,bM,iE,Bool.and_true];rw[ed];simp
theorem BO (neg:Bool) (H:Hs) (p:Int×Int) (ps:y'):cN neg (aG p) (.tup (ps.map aG)) H=.ok (.bl (if neg then !decide (p∈ps)else decide (p∈ps))) H:=by
 have e:(ps.map jT).any (λt=>bM t (jT p))=decide (p∈ps):=by
  rw[ed];simp only[uu,jt,wg,JS,decide_eq_true_eq];constructor
  ·rintro ⟨q,hq,rfl⟩;exact hq
  ·intro h;exact⟨p,h,rfl⟩
 have h1:bG (bU cH H) (ps.map aG)=some (ps.map jT):=BN 28 H ps;have h2:bU cH H (aG p)=some (jT p):=JR 28 H p;show jQ [] neg (aG p) (.tup (ps.map aG)) H=_;simp only[jQ,fJ,h1,h2,e]
theorem BP (neg:Bool) (H:Hs) (x:Int) (ns:zo):cN neg (.int x) (.tup (ns.map Dv.int)) H=.ok (.bl (if neg then !decide (x∈ns)else decide (x∈ns))) H:=by
 have e:(ns.map Dt.int).any (λt=>bM t (.int x))=decide (x∈ns):=by
  rw[ed];simp only[uu,jt,wg,bM,decide_eq_true_eq,beq_iff_eq];constructor
  ·rintro ⟨q,hq,rfl⟩;exact hq
  ·intro h;exact⟨x,h,rfl⟩
 have h1:bG (bU cH H) (ns.map Dv.int)=some (ns.map Dt.int):=rB 29 H ns;have h2:bU cH H (.int x)=some (.int x):=rfl;show jQ [] neg (.int x) (.tup (ns.map Dv.int)) H=_;simp only[jQ,fJ,h1,h2,e]
section
variable{X:Cx}{G:Cfg}{E:XK}{elt tg iter Cd An:bq}{ifs A':List bq}{sc:ic}{ps px pos:Pos}{N:zr}{cap:List (Option Nat)}{mi mi':M Src}{st Cj:dQ}{test Cm:M Bool}{me:M Dv}{i:Nat}{x:Str}
theorem JT (hN:X.N.Nodup) (hi1:X.N[i]?=some x) (hc:X.calm=true) (C:Bg X sc N cap) (hi:kG X G E tg iter mi) (hg:∀s H ex,kF (cY X sc N s H ex) G tg st) (Dd:∀s H ex,oS (cY X sc N s H ex) G ifs test)
  (hi':∀s H ex,kG (cY X sc N s H ex) G E0 Cd An mi') (hg':∀s H ex,kF (cY X sc N s H ex) G Cd Cj) (htt':∀s H ex,oS (cY X sc N s H ex) G A' Cm) (hel:∀s H ex,aK (cY X sc N s H ex) G E0 elt me)
  (hx:X.env.scope.names.lookup x=some .local:=by rfl) (hsw:swapsWith (.ListComp elt [⟨tg,iter,ifs,0⟩,⟨Cd,An,A',0⟩] sc ps) (some (.Name x px)) pos.line X.env=pure true:=by rfl)
  (hs:∀x,foldedSetIterable iter X.env x=pure x:=by intro _;rfl) (hs':∀s H ex x,foldedSetIterable An (cY X sc N s H ex).env x=pure x:=by intro _ _ _ _;rfl):
  iI X G E (.Assign [.Name x px] (.ListComp elt [⟨tg,iter,ifs,0⟩,⟨Cd,An,A',0⟩] sc ps) pos) (aM (bH (aX mi cap st test (fR mi' Cj Cm (aU me)))) (aF i)):=λhK=>
 PS.imp (UP hsw hN hi1 hx hc C rfl (inner:=λD env=>qD An (.ListComp elt [⟨tg,iter,ifs,0⟩,⟨Cd,An,A',0⟩] sc ps) 1 D env) (λit D env=>G2 elt tg iter Cd An ifs A' sc ps (.ref it) D env) (hi hK) (λs H ex=>hg s H ex hK) (λs H ex=>Dd s H ex hK)
  (λs H ex D=>Dj.imp (G6 (X:=cY X sc N s H ex) (D:=D) (gens:=[⟨tg,iter,ifs,0⟩,⟨Cd,An,A',0⟩]) (d:=1) rfl hc rfl (λit=>G3 elt tg iter Cd An ifs A' sc ps (.ref it) D _) (hi' s H ex hK) (hg' s H ex hK) (htt' s H ex hK) (Dj.imp (AG (hel s H ex hK)) λ_ _ _ _ t=>AZ t) (hs' s H ex)) λ_ _ _ _ t=>HY t) hs) λD σ H ⟨μ,ρ,h,rs,s,o⟩=>
  A0 (HZ (nS rs s o λμ1 d h1 v H1 x1 As s1 r1 o1=>o1 μ1 H1 _ Ext.refl s1 (As.set i r1)))
end
end L2.Mr
namespace SoM
open PySem PySem.W PyProof.Rows
variable{n:Nat}{f:Nat->Nat}{s:ag}
def mR (n:Nat) (f:Nat->Nat) (i j:Nat) (C:Bool->ag->Prop) (s:ag):Prop:=i<n/\j<n/\C (decide (f i<f j)) s
def F (f:Nat->Nat) (p:Array Nat) (k:Nat):Nat:=f (p.getD k 0)
def Ent (n:Nat) (p:Array Nat):Prop:=p.size=n/\p.toList.Perm (ay n)
theorem Ent.lt {p:Array Nat}(e:Ent n p) (hn:0<n) (k:Nat):p.getD k 0<n:=by
 by_cases h:k<p.size
 ·have:p.getD k 0=p[k]:=by simp[ka,h]
  rw[this];have hm:p[k]∈p.toList:=by simp
  exact bu.mp (e.2.mem_iff.mp hm)
 ·have:p.getD k 0=0:=by simp[ka,h]
  omega
theorem tQ {p q:Array Nat}{i j:Nat}(h:p[i]?=q[j]?):F f p i=F f q j:=by unfold F;simp only[Array.getD_eq_getD_getElem?,h]
theorem Ent.mirror {p:Array Nat}(e:Ent n p) (i j d:Nat):Ent n (mirror p i j d):=⟨(mirror_size ..).trans e.1,((wz.mp (mirror_perm p i j d))).trans e.2⟩
theorem Ent.bubble {p:Array Nat}(e:Ent n p) (k d:Nat):Ent n (bubble p k d):=⟨(bubble_size ..).trans e.1,((wz.mp (bubble_perm p k d))).trans e.2⟩
theorem Ent.rev {p:Array Nat}(e:Ent n p) (i j:Nat):Ent n (kas_rev p i j):=e.mirror _ _ _
theorem tR {p:Array Nat}{i j:Nat}(hj:j<=p.size) (k:Nat):F f (kas_rev p i j) k=if i<=k/\k<j then F f p (i+j - 1 - k)else F f p k:=by
 have e:=getElem?_mirror_all (i:=i) hj k
 by_cases h:i<=k/\k<j
 ·rw[if_pos h]at e ⊢;exact tQ e
 ·rw[if_neg h]at e ⊢;exact tQ e
theorem JU {p:Array Nat}{k d:Nat}(hs:k<p.size) (hd:d<=k) (i:Nat):F f (bubble p k d) i=if i=k - d then F f p k else if k - d<i/\i<=k then F f p (i - 1)else F f p i:=by
 have e:=getElem?_bubble hs d hd i
 by_cases h1:i=k - d
 ·rw[if_pos h1]at e ⊢;exact tQ e
 ·rw[if_neg h1]at e ⊢
  by_cases h2:k - d<i/\i<=k
  ·rw[if_pos h2]at e ⊢;exact tQ e
  ·rw[if_neg h2]at e ⊢;exact tQ e
def Inc (f:Nat->Nat) (p:Array Nat) (m:Nat):Prop:=∀i j,i<=j->j<m->F f p i<=F f p j
def Dec (f:Nat->Nat) (p:Array Nat) (m:Nat):Prop:=∀i j,i<=j->j<m->F f p j<=F f p i
theorem Inc.succ {p:Array Nat}{m:Nat}(h:Inc f p m) (hm:1<=m) (h1:F f p (m - 1)<=F f p m):Inc f p (m+1):=by
 intro i j Bo hj
 by_cases q:j=m
 ·subst q
  by_cases r:i=j
  ·subst r;exact ak _
  ·exact dm (h i (j - 1) (by omega) (by omega)) h1
 ·exact h i j Bo (by omega)
theorem Dec.succ {p:Array Nat}{m:Nat}(h:Dec f p m) (hm:1<=m) (h1:F f p m<=F f p (m - 1)):Dec f p (m+1):=by
 intro i j Bo hj
 by_cases q:j=m
 ·subst q
  by_cases r:i=j
  ·subst r;exact ak _
  ·exact dm h1 (h i (j - 1) (by omega) (by omega))
 ·exact h i j Bo (by omega)
theorem BQ {p:Array Nat}(e:Ent n p) (hn:0<n) {Q:Nat->ag->Prop}:∀(fu m:Nat) (s:ag),1<=m->Inc f p m->
  (∀m',m<=m'->m'<=m+fu->Inc f p m'->(m'=m+fu∨F f p m'<F f p (m' - 1))->Q m' s)->(kas_asc p fu m).kasWp (mR n f) Q s
 |0,m,s,h1,hi,h=>h m (ak _) (ak _) hi (.inl rfl)
 |fu+1,m,s,h1,hi,h=>by
  refine⟨e.lt hn _,e.lt hn _, ?_⟩
  by_cases c:f (p.getD m 0)<f (p.getD (m - 1) 0)
  ·rw[decide_eq_true c];exact h m (ak _) (by omega) hi (.inr c)
  ·rw[decide_eq_false c];refine BQ e hn fu (m+1) s (by omega) (hi.succ h1 (Nat.le_of_not_lt c)) λm' a b c d=>h m' (by omega) (by omega) c ?_
   rcases d with d|d
   ·exact .inl (by omega)
   ·exact .inr d
theorem wU (hn:0<n) {Q:Array Nat×Nat×Nat->ag->Prop}:∀(fu m q:Nat) (p:Array Nat) (s:ag),Ent n p->q+1<=m->m+fu<=n->Dec f p m->(∀k,m - 1 - q<=k->k<m->F f p k=F f p (m - 1))->
  (∀p' m' q',Ent n p'->q'+1<=m'->m<=m'->m'<=m+fu->Dec f p' m'->(∀k,m' - 1 - q'<=k->k<m'->F f p' k=F f p' (m' - 1))->Q (p',m',q') s)->(kas_desc fu p m q).kasWp (mR n f) Q s
 |0,m,q,p,s,e,h1,h2,hd,he,h=>h p m q e h1 (ak _) (ak _) hd he
 |fu+1,m,q,p,s,e,h1,h2,hd,he,h=>by
  refine⟨e.lt hn _,e.lt hn _, ?_⟩
  by_cases c:f (p.getD m 0)<f (p.getD (m - 1) 0)
  ·have c':F f p m<F f p (m - 1):=c;rw[decide_eq_true c];show KasT.kasWp _ (if true=true then(if q>0 then _ else _)else _) _ _;rw[if_pos rfl]
   by_cases hq:q>0
   ·rw[if_pos hq];have Bl:m<=p.size:=by rw[e.1];omega
    have hF:∀k,F f (kas_rev p (m - (q+1)) m) k=F f p k:=by
     intro k;rw[tR Bl]
     split
     ·rw[he _ (by omega) (by omega),he k (by omega) (by omega)]
     ·rfl
    have hd':Dec f (kas_rev p (m - (q+1)) m) (m+1):=by intro i j Bo hj;rw[hF,hF];exact hd.succ (by omega) (ij c') i j Bo hj
    refine wU hn fu (m+1) 0 _ s (e.rev _ _) (by omega) (by omega) hd' ?_ λp' m' q' a b c d=>h p' m' q' a b (by omega) (by omega);intro k k1 k2;have:k=m:=by omega
    subst this;rfl
   ·rw[if_neg hq];refine wU hn fu (m+1) 0 _ s e (by omega) (by omega) (hd.succ (by omega) (ij c')) ?_ λp' m' q' a b c d=>h p' m' q' a b (by omega) (by omega);intro k k1 k2;have:k=m:=by omega
    subst this;rfl
  ·have c':¬ F f p m<F f p (m - 1):=c;rw[decide_eq_false c];show KasT.kasWp _ (if false=true then _ else KasT.ask _ _ _) _ _;rw[if_neg (by simp)];refine⟨e.lt hn _,e.lt hn _, ?_⟩
   by_cases c2:f (p.getD (m - 1) 0)<f (p.getD m 0)
   ·rw[decide_eq_true c2];exact h p m q e h1 (ak _) (by omega) hd he
   ·have c2':¬ F f p (m - 1)<F f p m:=c2;rw[decide_eq_false c2];have eq:F f p m=F f p (m - 1):=by omega
    refine wU hn fu (m+1) (q+1) _ s e (by omega) (by omega) (hd.succ (by omega) (by omega)) ?_ λp' m' q' a b c d=>h p' m' q' a b (by omega) (by omega);intro k k1 k2;show F f p k=F f p m
    by_cases r:k=m
    ·subst r;rfl
    ·rw[eq];exact he k (by omega) (by omega)
theorem Dec.rev {p:Array Nat}{m:Nat}(hm:m<=p.size) (h:Dec f p m):Inc f (kas_rev p 0 m) m:=by intro i j Bo hj;rw[tR hm,tR hm,if_pos ⟨iu _,by omega⟩,if_pos ⟨iu _,hj⟩];exact h _ _ (by omega) (by omega)
theorem JV (hn:0<n) {p:Array Nat}{m:Nat}{Q:Nat×Array Nat->ag->Prop}(e:Ent n p) (h1:1<=m) (h2:m<=n) (hd:Dec f p m)
  (h:∀m' p',Ent n p'->1<=m'->m'<=n->Inc f p' m'->Q (m',p') s):(kas_tail3 m n p).kasWp (mR n f) Q s:=by
 unfold kas_tail3;rw[KasT.kasWp_bind];refine BQ (e.rev 0 m) hn (n - m) m s h1 (hd.rev (by rw[e.1];exact h2)) λm' a b c _=>?_;exact h m' _ (e.rev 0 m) (by omega) (by omega) c
theorem JW (hn:0<n) {p:Array Nat}{m:Nat}{Q:Nat×Array Nat->ag->Prop}(e:Ent n p) (h2:m+1<=n) (hd:Dec f p (m+1))
  (h:∀m' p',Ent n p'->1<=m'->m'<=n->Inc f p' m'->Q (m',p') s):(kas_descPart m n p).kasWp (mR n f) Q s:=by
 unfold kas_descPart;rw[KasT.kasWp_bind];refine wU hn (n - (m+1)) (m+1) 0 p s e (by omega) (by omega) hd (λk k1 k2=>by (have:k=m:=by omega);subst this;rfl) λp' m' q' e' a b c d eq=>?_;show KasT.kasWp _ (if q'>0 then _ else _) _ _
 by_cases hq:q'>0
 ·rw[if_pos hq];have Bl:m'<=p'.size:=by rw[e'.1];omega
  have hF:∀k,F f (kas_rev p' (m' - (q'+1)) m') k=F f p' k:=by
   intro k;rw[tR Bl]
   split
   ·rw[eq _ (by omega) (by omega),eq k (by omega) (by omega)]
   ·rfl
  refine JV hn (e'.rev _ _) (show 1<=m' by omega) (show m'<=n by omega) ?_ h;intro i j Bo hj;rw[hF,hF];exact d i j Bo hj
 ·rw[if_neg hq];exact JV hn e' (show 1<=m' by omega) (show m'<=n by omega) d h
theorem YX (hn:1<=n) {p:Array Nat}{Q:Nat×Array Nat->ag->Prop}(e:Ent n p)
  (h:∀m' p',Ent n p'->1<=m'->m'<=n->Inc f p' m'->Q (m',p') s):(kas_count n p).kasWp (mR n f) Q s:=by
 unfold kas_count;rw[KasT.kasWp_bind];refine BQ e (by omega) (n - 1) 1 s (ak _) (λi j Bo hj=>by (have:i=j:=by omega);subst this;exact ak _) λm a b c d=>?_;show KasT.kasWp _ (if(m==n)=true then _ else if m>1 then _ else _) _ _
 by_cases q:m=n
 ·rw[if_pos (beq_iff_eq.mpr q)];exact h m p e (by omega) (by omega) c
 ·rw[if_neg (by intro z;exact q (beq_iff_eq.mp z))];have hlt:F f p m<F f p (m - 1):=by
   rcases d with d|d
   ·omega
   ·exact d
  by_cases q1:m>1
  ·rw[if_pos q1];refine⟨e.lt (by omega) _,e.lt (by omega) _, ?_⟩
   by_cases c2:f (p.getD 0 0)<f (p.getD (m - 1) 0)
   ·rw[decide_eq_true c2];exact h m p e (by omega) (by omega) c
   ·have c2':¬ F f p 0<F f p (m - 1):=c2;rw[decide_eq_false c2];have Bl:m<=p.size:=by rw[e.1];omega
    have eq:∀k,k<m->F f p k=F f p 0:=by intro k hk;have:=c 0 k (by omega) hk;have:=c k (m - 1) (by omega) (by omega);omega
    have hF:∀k,F f (kas_rev p 0 m) k=F f p k:=by
     intro k;rw[tR Bl]
     split
     ·rw[eq _ (by omega),eq k (by omega)]
     ·rfl
    refine JW (by omega) (e.rev _ _) (by omega) ?_ h;intro i j Bo hj;rw[hF,hF]
    by_cases r:j=m
    ·subst r
     by_cases r2:i=j
     ·subst r2;exact ak _
     ·have:=eq i (by omega);have:=eq (j - 1) (by omega);omega
    ·rw[eq i (by omega),eq j (by omega)];exact ak _
  ·rw[if_neg q1];have:m=1:=by omega
   subst this;refine JW (by omega) e (by omega) ?_ h;intro i j Bo hj
   by_cases r:i=j
   ·subst r;exact ak _
   ·have h1:i=0:=by omega
    have h2:j=1:=by omega
    subst h1;subst h2;exact ij hlt
theorem BR {p:Array Nat}(e:Ent n p) (hn:0<n) {k:Nat}(hi:Inc f p k) {Q:Nat->ag->Prop}:∀(fu l r:Nat) (s:ag),r - l<=fu->l<=r->r<=k->
  (∀i,i<l->F f p i<=F f p k)->(∀i,r<=i->i<k->F f p k<F f p i)->
  (∀l',l'<=k->(∀i,i<l'->F f p i<=F f p k)->(∀i,l'<=i->i<k->F f p k<F f p i)->Q l' s)->(kas_place p k fu l r).kasWp (mR n f) Q s
 |0,l,r,s,h1,h2,h3,ha,hb,h=>by
  have:l=r:=by omega
  subst this;exact h l h3 ha hb
 |fu+1,l,r,s,h1,h2,h3,ha,hb,h=>by
  unfold kas_place
  by_cases q:l>=r
  ·rw[if_pos q];have:l=r:=by omega
   subst this;exact h l h3 ha hb
  ·rw[if_neg q];refine⟨e.lt hn _,e.lt hn _, ?_⟩
   by_cases c:f (p.getD k 0)<f (p.getD ((l+r) / 2) 0)
   ·have c':F f p k<F f p ((l+r) / 2):=c;rw[decide_eq_true c];refine BR e hn hi fu l ((l+r) / 2) s (by omega) (by omega) (by omega) ha ?_ h;intro i i1 i2;have:=hi ((l+r) / 2) i i1 i2;omega
   ·have c':¬ F f p k<F f p ((l+r) / 2):=c;rw[decide_eq_false c];refine BR e hn hi fu ((l+r) / 2+1) r s (by omega) (by omega) (by omega) ?_ hb h;intro i i1;have:=hi i ((l+r) / 2) (by omega) (by omega);omega
theorem JX (hn:0<n) {Q:Array Nat->ag->Prop}:∀(fu k:Nat) (p:Array Nat) (s:ag),Ent n p->k+fu<=n->Inc f p k->(∀p',Ent n p'->Inc f p' (k+fu)->Q p' s)->(kas_bin fu p k).kasWp (mR n f) Q s
 |0,k,p,s,e,h1,hi,h=>h p e hi
 |fu+1,k,p,s,e,h1,hi,h=>by
  unfold kas_bin;rw[KasT.kasWp_bind];refine BR e hn hi k 0 k s (by omega) (by omega) (ak _) (λi hi=>absurd hi (by omega)) (λi a b=>absurd b (by omega)) λl hl ha hb=>?_;have Bl:k<p.size:=by rw[e.1];omega
  refine JX hn fu (k+1) _ s (e.bubble _ _) (by omega) ?_ λp' e' i'=>h p' e' (by rw[show k+(fu+1)=k+1+fu by omega];exact i');intro i j Bo hj;rw[JU Bl (by omega),JU Bl (by omega)];have hkl:k - (k - l)=l:=by omega
  rw[hkl]
  by_cases i1:i=l
  ·rw[if_pos i1]
   by_cases j1:j=l
   ·rw[if_pos j1];exact ak _
   ·rw[if_neg j1,if_pos (by omega)];exact ij (hb (j - 1) (by omega) (by omega))
  ·rw[if_neg i1]
   by_cases i2:l<i/\i<=k
   ·rw[if_pos i2,if_neg (by omega),if_pos (by omega)];exact hi (i - 1) (j - 1) (by omega) (by omega)
   ·rw[if_neg i2]
    by_cases j1:j=l
    ·rw[if_pos j1];exact ha i (by omega)
    ·rw[if_neg j1]
     by_cases j2:l<j/\j<=k
     ·rw[if_pos j2];exact hi i (j - 1) (by omega) (by omega)
     ·rw[if_neg j2];exact hi i j Bo (by omega)
theorem YY (hn:1<=n) {Q:Array Nat->ag->Prop}(h:∀p,Ent n p->Inc f p n->Q p s):(kas_sort n).kasWp (mR n f) Q s:=by
 unfold kas_sort;rw[KasT.kasWp_bind];refine YX hn ⟨by simp,by simp⟩ λm p e h1 h2 hi=>?_;show KasT.kasWp _ (if m<n then _ else _) _ _
 by_cases q:m<n
 ·rw[if_pos q];have:max m 1=m:=by omega
  rw[this];refine JX (by omega) (n - m) m p s e (by omega) hi λp' e' i'=>h p' e' ?_;rw[show m+(n - m)=n by omega]at i';exact i'
 ·rw[if_neg q];have:m=n:=by omega
  subst this;exact h p e hi
theorem JY {α:Type}{cmp:Nat->Nat->(Bool->ag->Prop)->ag->Prop}{I:ag->Prop}(hc:∀i j C s,I s->i<n->j<n->(∀s',I s'->C (decide (f i<f j)) s')->cmp i j C s):
  ∀(t:KasT α) (Q:α->Prop) (Q':α->ag->Prop) (s₀ s:ag),t.kasWp (mR n f) (λa _=>Q a) s₀->I s->(∀a s',Q a->I s'->Q' a s')->t.kasWp cmp Q' s
 | .ret a,Q,Q',s₀,s,h,hi,k=>k a s h hi
 | .ask i j c,Q,Q',s₀,s,h,hi,k=>hc i j _ s hi h.1 h.2.1 λs' hi'=>JY hc (c _) Q Q' s₀ s' h.2.2 hi' k
end SoM
namespace L2
structure Ci {α:Type}(lt:α->α->Bool):Prop where
 irr:∀x,lt x x=false
 tr:∀x y z,lt x y=true->lt y z=true->lt x z=true
 tot:∀x y,lt x y=false->lt y x=false->x=y
section
variable{α:Type}{lt:α->α->Bool}
theorem Ci.asy (o:Ci lt) {x y:α}(h:lt x y=true):lt y x=false:=by
 cases q:lt y x with
 |false=>rfl
 |true=>have:=o.tr x y x h q;rw[o.irr]at this;cases this
theorem Ci.lt_le (o:Ci lt) {x y z:α}(h:lt x y=true) (h2:lt z y=false):lt x z=true:=by
 cases q:lt y z with
 |true=>exact o.tr x y z h q
 |false=>rw[<-o.tot y z q h2];exact h
theorem Ci.le_tr (o:Ci lt) {x y z:α}(h:lt y x=false) (h2:lt z y=false):lt z x=false:=by
 cases q:lt z x with
 |false=>rfl
 |true=>have:=o.lt_le q h;rw[h2]at this;cases this
def lG (lt:α->α->Bool) (x:α):List α->List α
 | []=>[x]
 |y::r=>if lt y x then y::lG lt x r else x::y::r
def dN (lt:α->α->Bool):List α->List α
 | []=>[]
 |x::r=>lG lt x (dN lt r)
theorem BS (x:α):∀l,(lG lt x l).Perm (x::l)
 | []=>.refl _
 |y::r=>by
  unfold lG
  split
  ·exact((BS x r).cons y).trans (vf ..)
  ·exact .refl _
theorem oA:∀l,(dN lt l).Perm l
 | []=>.refl _
 |x::r=>(BS x _).trans ((oA r).cons x)
abbrev eX (lt:α->α->Bool) (l:List α):Prop:=l.Pairwise λa b=>lt b a=false
abbrev eE (lt:α->α->Bool) (l:List α):Prop:=l.Pairwise λa b=>lt a b=true
theorem JZ (o:Ci lt) (x:α):∀l,eX lt l->eX lt (lG lt x l)
 | [],_=>by simp[lG,eX]
 |y::r,h=>by
  have h1:=de.mp h;unfold lG
  split
  ·rename_i q;refine de.mpr ⟨λz hz=>?_,JZ o x r h1.2⟩
   rcases aw.mp ((BS x r).mem_iff.mp hz)with rfl|hz
   ·exact o.asy q
   ·exact h1.1 z hz
  ·rename_i q;have q':lt y x=false:=by simpa using q
   refine de.mpr ⟨λz hz=>?_,h⟩
   rcases aw.mp hz with rfl|hz
   ·exact q'
   ·exact o.le_tr q' (h1.1 z hz)
theorem J0 (o:Ci lt):∀l,eX lt (dN lt l)
 | []=>oq
 |x::r=>JZ o x _ (J0 o r)
theorem BU (o:Ci lt):∀{l l':List α},eX lt l->eX lt l'->l.Perm l'->l=l'
 | [],l',_,_,p=>(List.nil_perm.mp p).symm
 |x::r,[],_,_,p=>by simp at p
 |x::r,y::r',h,h',p=>by
  have h1:=de.mp h;have h2:=de.mp h';have e:x=y:=by
   refine o.tot x y ?_ ?_
   ·rcases aw.mp (p.mem_iff.mp (ax ..))with e|e
    ·rw[e];exact o.irr y
    ·exact h2.1 x e
   ·rcases aw.mp (p.mem_iff.mpr (ax ..))with e|e
    ·rw[e];exact o.irr x
    ·exact h1.1 y e
  subst e;rw[BU o h1.2 h2.2 (List.Perm.cons_inv p)]
theorem J1 (o:Ci lt) {l l':List α}(h:eX lt l') (p:l'.Perm l):l'=dN lt l:=BU o h (J0 o l) (p.trans (oA l).symm)
def kK (lt:α->α->Bool) (x:α):List α->List α
 | []=>[x]
 |y::r=>if lt y x then y::kK lt x r else if lt x y then x::y::r else y::r
def eC (lt:α->α->Bool):List α->List α
 | []=>[]
 |x::r=>kK lt x (eC lt r)
theorem BV (o:Ci lt) (x z:α):∀l,z∈kK lt x l↔z=x∨z∈l
 | []=>by simp[kK]
 |y::r=>by
  unfold kK
  split
  ·rw[aw,BV o x z r,aw];constructor
   ·rintro (h|h|h)
    ·exact .inr (.inl h)
    ·exact .inl h
    ·exact .inr (.inr h)
   ·rintro (h|h|h)
    ·exact .inr (.inl h)
    ·exact .inl h
    ·exact .inr (.inr h)
  ·rename_i q1
   split
   ·simp
   ·rename_i q2;have e:=o.tot x y (by simpa using q2) (by simpa using q1);subst e;simp
theorem lH (o:Ci lt) (z:α):∀l,z∈eC lt l↔z∈l
 | []=>.rfl
 |x::r=>by rw[eC,BV o,lH o z r,aw]
theorem J2 (o:Ci lt) (x:α):∀l,eE lt l->eE lt (kK lt x l)
 | [],_=>by simp[kK,eE]
 |y::r,h=>by
  have h1:=de.mp h;unfold kK
  split
  ·rename_i q;refine de.mpr ⟨λz hz=>?_,J2 o x r h1.2⟩
   rcases(BV o x z r).mp hz with rfl|hz
   ·exact q
   ·exact h1.1 z hz
  ·split
   ·rename_i q;refine de.mpr ⟨λz hz=>?_,h⟩
    rcases aw.mp hz with rfl|hz
    ·exact q
    ·exact o.tr _ _ _ q (h1.1 z hz)
   ·exact h
theorem oC (o:Ci lt):∀l,eE lt (eC lt l)
 | []=>oq
 |x::r=>J2 o x _ (oC o r)
theorem BW (o:Ci lt) {l:List α}(h:eE lt l):eX lt l:=h.imp λh=>o.asy h
theorem oD (o:Ci lt) {l:List α}(h:eE lt l):l.Nodup:=h.imp λ{a b} h e=>by rw[e,o.irr]at h;cases h
theorem BX (o:Ci lt) {l l':List α}(h:eE lt l) (h':eE lt l') (m:∀z,z∈l↔z∈l'):l=l':=by refine BU o (BW o h) (BW o h') ?_;exact(jm (oD o h) (oD o h')).mpr m
theorem YZ (o:Ci lt) {l l':List α}(h:eE lt l') (m:∀z,z∈l'↔z∈l):l'=eC lt l:=BX o h (oC o l) λz=>(m z).trans (lH o z l).symm
theorem Y0 (o:Ci lt) (l:List α) (h:l.Nodup):eC lt l=dN lt l:=by refine J1 o (BW o (oC o l)) ?_;exact(jm (oD o (oC o l)) h).mpr λz=>lH o z l
def rk (lt:α->α->Bool) (ks:List α) (x:α):Nat:=ks.countP λy=>lt y x
theorem BY {p q:α->Bool}:∀(l:List α),(∀y,p y=true->q y=true)->l.countP p<=l.countP q
 | [],_=>ak _
 |y::r,h=>by
  have:=BY r h;rw[qw,qw]
  cases hp:p y with
  |true=>rw[h y hp];simp;omega
  |false=>cases q y <;> simp <;> omega
theorem J3 {p q:α->Bool}:∀(l:List α),(∀y,p y=true->q y=true)->∀x,x∈l->q x=true->p x=false->l.countP p<l.countP q
 | [],_,x,hx,_,_=>by simp at hx
 |y::r,h,x,hx,h1,h2=>by
  rw[qw,qw]
  rcases aw.mp hx with rfl|hx
  ·have:=BY r h;rw[h1,h2];simp;omega
  ·have:=J3 r h x hx h1 h2
   cases hp:p y with
   |true=>rw[h y hp];simp;omega
   |false=>cases q y <;> simp <;> omega
theorem J4 (o:Ci lt) {ks:List α}{x z:α}(hx:x∈ks):decide (rk lt ks x<rk lt ks z)=lt x z:=by
 cases q:lt x z with
 |true=>exact decide_eq_true (J3 ks (λy h=>o.tr y x z h q) x hx q (o.irr x))
 |false=>exact decide_eq_false (Nat.not_lt.mpr (BY ks λy h=>o.lt_le h q))
theorem Y1 (o:Ci lt) {ks:List α}{x z:α}(hz:z∈ks) (h:rk lt ks x<=rk lt ks z):lt z x=false:=by rw[<-J4 o hz];exact decide_eq_false (Nat.not_lt.mpr h)
end
def cW:zo->zo->Bool
 | [],[]=>false
 | [],_::_=>true
 |_::_,[]=>false
 |a::x,b::y=>if a==b then cW x y else decide (a<b)
theorem B':Ci cW:=by
 refine⟨λx=>?_,λx=>?_,λx=>?_⟩
 ·induction x with
  |nil=>rfl
  |cons a x ih=>simp[cW,ih]
 ·induction x with
  |nil=>
   intro y z h1 h2
   cases z with
   |nil=>cases y with
    |nil=>exact h1
    |cons b y=>cases h2
   |cons c z=>rfl
  |cons a x ih=>
   intro y z h1 h2
   cases y with
   |nil=>cases h1
   |cons b y=>
    cases z with
    |nil=>cases h2
    |cons c z=>
     simp only[cW,beq_iff_eq]at h1 h2 ⊢
     by_cases e1:a=b <;> by_cases e2:b=c
     ·rw[if_pos e1]at h1;rw[if_pos e2]at h2;rw[if_pos (e1.trans e2)];exact ih y z h1 h2
     ·rw[if_neg e2]at h2;rw[if_neg (by rw[e1];exact e2)];rw[e1];exact h2
     ·rw[if_neg e1]at h1;rw[if_neg (by rw[<-e2];exact e1)];rw[<-e2];exact h1
     ·rw[if_neg e1]at h1;rw[if_neg e2]at h2;simp only[decide_eq_true_eq]at h1 h2;rw[if_neg (by omega)];simp;omega
 ·induction x with
  |nil=>
   intro y h1 h2
   cases y with
   |nil=>rfl
   |cons b y=>cases h1
  |cons a x ih=>
   intro y h1 h2
   cases y with
   |nil=>cases h2
   |cons b y=>
    simp only[cW,beq_iff_eq]at h1 h2
    by_cases e:a=b
    ·subst e;rw[if_pos rfl]at h1 h2;rw[ih y h1 h2]
    ·rw[if_neg e]at h1;rw[if_neg (dh e)]at h2;simp at h1 h2;omega
def bZ (p q:Int×Int):Bool:=if p.1==q.1 then decide (p.2<q.2)else decide (p.1<q.1)
def gE (p:Int×Int):zo:=[p.1,p.2]
theorem rD (p q:Int×Int):cW (gE p) (gE q)=bZ p q:=by
 unfold bZ gE cW
 split
 ·unfold cW
  split
  ·rename_i h;simp at h;simp[cW,h]
  ·rfl
 ·rfl
theorem Y2 {p q:Int×Int}(h:gE p=gE q):p=q:=by obtain⟨a,b⟩:=p;obtain⟨c,d⟩:=q;simp[gE]at h;rw[h.1,h.2]
theorem Bt:Ci bZ:=⟨λx=>by rw[<-rD];exact B'.irr _,λx y z h1 h2=>by rw[<-rD]at *;exact B'.tr _ _ _ h1 h2,λx y h1 h2=>by rw[<-rD]at *;exact Y2 (B'.tot _ _ h1 h2)⟩
section
variable{α β:Type}{lt:α->α->Bool}{lt':β->β->Bool}{f:α->β}
theorem J5 (h:∀x y,lt' (f x) (f y)=lt x y) (x:α):∀l,lG lt' (f x) (l.map f)=(lG lt x l).map f
 | []=>rfl
 |y::r=>by
  simp only[df,lG,h]
  split
  ·rw[J5 h x r];rfl
  ·rfl
theorem J6 (h:∀x y,lt' (f x) (f y)=lt x y):∀l,dN lt' (l.map f)=(dN lt l).map f
 | []=>rfl
 |x::r=>by rw[df,dN,J6 h r,J5 h];rfl
theorem J7 (h:∀x y,lt' (f x) (f y)=lt x y) (x:α):∀l,kK lt' (f x) (l.map f)=(kK lt x l).map f
 | []=>rfl
 |y::r=>by
  simp only[df,kK,h]
  split
  ·rw[J7 h x r];rfl
  ·split <;> rfl
theorem J8 (h:∀x y,lt' (f x) (f y)=lt x y):∀l,eC lt' (l.map f)=(eC lt l).map f
 | []=>rfl
 |x::r=>by rw[df,eC,J8 h r,J7 h];rfl
end
end L2
namespace SM
open PySem PySem.SetTable
def eX (l:zq):Prop:=l.Pairwise (·<·)
theorem BZ {l:zq}(hr:eX l) {i k x:Nat}(a:l[i]?=some x) (b:l[k]?=some x):i=k:=by
 obtain⟨p1,p2⟩:=bg.mp a;obtain⟨q1,q2⟩:=bg.mp b
 rcases Nat.lt_trichotomy i k with h|h|h
 ·have:=gm.mp hr i k p1 q1 h;omega
 ·exact h
 ·have:=gm.mp hr k i q1 p1 h;omega
theorem Y3 (xs:Array Nat) (j:Nat) (hr:eX xs.toList):∀(fuel lo hi:Nat),lo<=hi->hi<=xs.size->hi - lo<=fuel->
  (∀i (h:i<xs.size),i<lo->xs[i]<j)->(∀i (h:i<xs.size),hi<=i->j<=xs[i])->
  (∀i (h:i<xs.size),i<below.go xs j fuel lo hi->xs[i]<j)/\(∀i (h:i<xs.size),below.go xs j fuel lo hi<=i->j<=xs[i])/\below.go xs j fuel lo hi<=xs.size:=by
 intro fuel
 induction fuel with
 |zero=>
  intro lo hi h1 h2 h3 ha hb;have:lo=hi:=by omega
  subst this;exact⟨ha,hb,h2⟩
 |succ n ih=>
  intro lo hi h1 h2 h3 ha hb;unfold below.go
  by_cases hlt:lo<hi
  ·rw[if_pos hlt];dsimp only;have hm:(lo+hi) / 2<xs.size:=by omega
   have e:xs.getD ((lo+hi) / 2) j=xs[(lo+hi) / 2]:=by simp[ka,hm]
   have mono:∀a b (ha:a<xs.size) (hb:b<xs.size),a<b->xs[a]<xs[b]:=by intro a b ha hb Ck;have:=gm.mp hr a b (by simpa using ha) (by simpa using hb) Ck;simpa using this
   by_cases hc:xs.getD ((lo+hi) / 2) j<j
   ·rw[if_pos hc];refine ih _ _ (by omega) h2 (by omega) ?_ hb;intro i h hi';rw[e]at hc
    by_cases q:i=(lo+hi) / 2
    ·subst q;exact hc
    ·have:=mono i _ h hm (by omega);omega
   ·rw[if_neg hc];refine ih _ _ (by omega) (by omega) (by omega) ha ?_;intro i h hi';rw[e]at hc
    by_cases q:i=(lo+hi) / 2
    ·subst q;omega
    ·have:=mono _ i hm h (by omega);omega
  ·rw[if_neg hlt];have:lo=hi:=by omega
   subst this;exact⟨ha,hb,h2⟩
theorem tS {xs:Array Nat}{j:Nat}(hr:eX xs.toList):
  (∀i (h:i<xs.size),i<below xs j->xs[i]<j)/\(∀i (h:i<xs.size),below xs j<=i->j<=xs[i])/\below xs j<=xs.size:=
 Y3 xs j hr xs.size 0 xs.size (iu _) (ak _) (by omega) (λi h hi=>absurd hi (by omega)) (λi h hi=>absurd h (by omega))
theorem J9 {xs:Array Nat}{j:Nat}(hr:eX xs.toList) (hm:j∈xs.toList):xs[below xs j]?=some j:=by
 obtain⟨h1,h2,h3⟩:=tS (j:=j) hr;obtain⟨i,hi,e⟩:=jr hm;have hi':i<xs.size:=by simpa using hi
 have e':xs[i]=j:=by simpa using e
 have hle:below xs j<=i:=by
  rcases je i (below xs j)with q|q
  ·have:=h1 i hi' q;omega
  ·exact q
 have hb:below xs j<xs.size:=by omega
 have:=h2 (below xs j) hb (ak _);have mono:∀a b (ha:a<xs.size) (hb:b<xs.size),a<b->xs[a]<xs[b]:=by intro a b ha hb Ck;have:=gm.mp hr a b (by simpa using ha) (by simpa using hb) Ck;simpa using this
 have hE:below xs j=i:=by
  rcases je (below xs j) i with q|q
  ·have:=mono _ _ hb hi' q;omega
  ·omega
 rw[fj hb]
 congr 1
 have:∀k (hk:k<xs.size),k=i->xs[k]=xs[i]:=by intro k hk e;subst e;rfl
 rw[this _ hb hE,e']
theorem Y4 {xs:Array Nat}{j:Nat}(hm:j∉xs.toList):(xs[below xs j]?==some j)=false:=by rw[beq_eq_false_iff_ne];intro e;obtain⟨h,e⟩:=dw.mp e;exact hm (by rw[<-e];simp)
theorem tT {α:Type}(xs:Array α) (p:Nat) (x:α) (hp:p<=xs.size):(insertAt xs p x).toList=xs.toList.take p++x::xs.toList.drop p:=by unfold insertAt;rw[Array.toList_append,Array.toList_push];simp[Array.toList_extract,List.take_of_length_le]
theorem Y5 {xs:Array Nat}{j:Nat}(hr:eX xs.toList) (hm:j∉xs.toList):eX (insertAt xs (below xs j) j).toList:=by
 obtain⟨h1,h2,h3⟩:=tS (j:=j) hr;rw[tT _ _ _ h3];unfold eX at hr ⊢;have hlt:∀a∈xs.toList.take (below xs j),a<j:=by intro a ha;obtain⟨i,hi,e⟩:=jr ha;rw[jj]at hi;rw[List.getElem_take]at e;have:=h1 i (by simp at hi;omega) (by omega);simp at e;omega
 have hgt:∀a∈xs.toList.drop (below xs j),j<a:=by
  intro a ha;obtain⟨i,hi,e⟩:=jr ha;rw[oh]at hi;rw[List.getElem_drop]at e;have q:=h2 (below xs j+i) (by simp at hi;omega) (by omega);have ne:a≠j:=by rintro rfl;exact hm (List.mem_of_mem_drop ha)
  simp at e;omega
 rw[zb];refine⟨hr.sublist (List.take_sublist _ _), ?_, ?_⟩
 ·rw[de];exact⟨hgt,hr.sublist (List.drop_sublist _ _)⟩
 ·intro a ha b hb
  rcases aw.mp hb with rfl|hb
  ·exact hlt a ha
  ·have:=hlt a ha;have:=hgt b hb;omega
def mS (mask:Nat) (p:Probe):Probe:=
 if p.more>0 then{ p with j:=p.j+1,more:=p.more - 1 } else
 { p with j:=(leap mask p.i p.perturb).1,more:=runEnd mask (leap mask p.i p.perturb).1 - (leap mask p.i p.perturb).1,i:=(leap mask p.i p.perturb).1,perturb:=(leap mask p.i p.perturb).2 }
theorem KC (t:gu) (p:Probe):t.advance p=mS t.mask p:=by
 unfold SetTable.advance mS
 split <;> rfl
def Y6 (mask:Nat) (h:Int):Probe:={ j:=bits h % (mask+1),more:=runEnd mask (bits h % (mask+1)) - bits h % (mask+1),i:=bits h % (mask+1),perturb:=bits h,dummy:=none }
def dO (mask:Nat) (h:Int):Nat->Probe
 |0=>Y6 mask h
 |n+1=>mS mask (dO mask h n)
def pr (mask:Nat) (h:Int) (n:Nat):Nat:=(dO mask h n).j
theorem Y7 (mask:Nat) (p:Probe):(mS mask p).dummy=p.dummy:=by unfold mS;split <;> rfl
theorem KD (mask:Nat) (h:Int):∀n,(dO mask h n).dummy=none
 |0=>rfl
 |n+1=>by rw[dO,Y7,KD mask h n]
def pB (mask i pt:Nat):Probe:={ j:=i,more:=runEnd mask i - i,i:=i,perturb:=pt,dummy:=none }
def bs (mask:Nat) (h:Int):Nat->Nat×Nat
 |0=>(bits h % (mask+1),bits h)
 |L+1=>leap mask (bs mask h L).1 (bs mask h L).2
theorem Y8 (mask i:Nat):runEnd mask i - i<=9:=by unfold runEnd;split <;> omega
theorem wV (mask:Nat) (h:Int) (i pt:Nat) (n:Nat) (e:dO mask h n=pB mask i pt):∀k,k<=runEnd mask i - i->dO mask h (n+k)={ pB mask i pt with j:=i+k,more:=runEnd mask i - i - k }
 |0,_=>by rw[Nat.add_zero,e];rfl
 |k+1,hk=>by have ih:=wV mask h i pt n e k (by omega);rw[show n+(k+1)=(n+k)+1 from rfl,dO,ih];unfold mS;rw[if_pos (show runEnd mask i - i - k>0 by omega)];simp[pB];omega
theorem KG (mask:Nat) (h:Int):∀L,∃n,n<=10*L/\dO mask h n=pB mask (bs mask h L).1 (bs mask h L).2
 |0=>⟨0,by omega,rfl⟩
 |L+1=>by obtain⟨n,hn,e⟩:=KG mask h L;have r:=wV mask h _ _ n e (runEnd mask (bs mask h L).1 - (bs mask h L).1) (ak _);have:=Y8 mask (bs mask h L).1;refine⟨n+(runEnd mask (bs mask h L).1 - (bs mask h L).1)+1,by omega, ?_⟩;rw[dO,r];unfold mS;rw[if_neg (by simp)];rfl
theorem KH (mask:Nat) (h:Int):∀L,(bs mask h L).2=bits h / 32 ^ L
 |0=>by simp[bs]
 |L+1=>by rw[bs];show(bs mask h L).2 / 32=_;rw[KH mask h L,Nat.div_div_eq_div_mul,Nat.pow_succ]
theorem Y9 (h:Int):bits h<2 ^ 64:=by unfold bits;omega
theorem ZA (mask:Nat) (h:Int) {L:Nat}(hL:13<=L):(bs mask h L).2=0:=by
 rw[KH];have h1:=Y9 h;have h2:(32:Nat) ^ 13<=32 ^ L:=zi (by decide) hL;have h3:(2:Nat) ^ 64<32 ^ 13:=by decide
 exact Nat.div_eq_of_lt (by omega)
def fx (mask x:Nat):Nat:=(x*5+1) % (mask+1)
def oE (mask:Nat):Nat->Nat->Nat
 |0,x=>x
 |n+1,x=>oE mask n (fx mask x)
theorem KI (mask:Nat):∀n x,oE mask (n+1) x=fx mask (oE mask n x)
 |0,x=>rfl
 |n+1,x=>by rw[oE,KI mask n,oE]
theorem KJ (mask:Nat) (h:Int):∀n,(bs mask h (13+n)).1=oE mask n (bs mask h 13).1
 |0=>rfl
 |n+1=>by rw[KI,<-KJ mask h n,show 13+(n+1)=(13+n)+1 from rfl,bs];show((bs mask h (13+n)).1*5+1+(bs mask h (13+n)).2 / 32) % (mask+1)=_;rw[ZA mask h (by omega)];rfl
def rE (mask:Nat):Nat->Nat->Nat
 |0,_=>0
 |n+1,x=>2 ^ x ||| rE mask n (fx mask x)
theorem KL (mask j:Nat):∀n x,(rE mask n x).testBit j=true->∃k,k<n/\oE mask k x=j
 |0,x,h=>by simp[rE]at h
 |n+1,x,h=>by
  rw[rE,Nat.testBit_or,Bool.or_eq_true]at h
  rcases h with h|h
  ·rw[Nat.testBit_two_pow,decide_eq_true_eq]at h;exact⟨0,by omega,h⟩
  ·obtain⟨k,hk,e⟩:=KL mask j n _ h;exact⟨k+1,by omega,e⟩
def lI (mask:Nat):Prop:=mask=7∨mask=31∨mask=127
def KN (mask:Nat):Bool:=(ay (mask+1)).all λx=>rE mask (mask+1) x==2 ^ (mask+1) - 1
theorem ZC {mask:Nat}(g:lI mask):KN mask=true:=by rcases g with rfl|rfl|rfl <;> decide +kernel
theorem ZD {mask x j:Nat}(g:lI mask) (hx:x<=mask) (hj:j<=mask):∃k,k<=mask/\oE mask k x=j:=by
 have h1:=ZC g;unfold KN at h1;rw[dz]at h1;have h2:=h1 x (bu.mpr (by omega));rw[beq_iff_eq]at h2;have h3:(rE mask (mask+1) x).testBit j=true:=by rw[h2,Nat.testBit_two_pow_sub_one,decide_eq_true_eq];omega
 obtain⟨k,hk,e⟩:=KL mask j _ _ h3;exact⟨k,by omega,e⟩
theorem wW (a m:Nat):a % (m+1)<=m:=by have:=Nat.mod_lt a (show 0<m+1 by omega);omega
theorem ZE (mask:Nat) (h:Int):∀L,(bs mask h L).1<=mask
 |0=>wW _ _
 |L+1=>wW _ _
theorem KO {mask j:Nat}(g:lI mask) (h:Int) (hj:j<=mask):∃L,L<=13+mask/\(bs mask h L).1=j:=by obtain⟨k,hk,e⟩:=ZD g (ZE mask h 13) hj;exact⟨13+k,by omega,by rw[KJ];exact e⟩
theorem ZF {mask j:Nat}(g:lI mask) (h:Int) (hj:j<=mask):∃n,n<10*turns mask/\pr mask h n=j:=by obtain⟨L,hL,e⟩:=KO g h hj;obtain⟨n,hn,e2⟩:=KG mask h L;refine⟨n,by unfold turns;omega, ?_⟩;unfold pr;rw[e2];exact e
theorem KQ {mask i:Nat}(hi:i<=mask):runEnd mask i<=mask:=by unfold runEnd;split <;> omega
theorem KR {mask:Nat}(h:Int):∀n,(dO mask h n).i<=mask/\(dO mask h n).j+(dO mask h n).more<=mask
 |0=>by
  have e:bits h % (mask+1)<=mask:=wW _ _;have:=KQ e;have:bits h % (mask+1)<=runEnd mask (bits h % (mask+1)):=by unfold runEnd;split <;> omega
  exact⟨e,by show bits h % (mask+1)+(runEnd mask (bits h % (mask+1)) - bits h % (mask+1))<=mask;omega⟩
 |n+1=>by
  obtain⟨h1,h2⟩:=KR (mask:=mask) h n;rw[dO];unfold mS
  split
  ·exact⟨h1,by dsimp only;omega⟩
  ·dsimp only;have e:(leap mask (dO mask h n).i (dO mask h n).perturb).1<=mask:=wW _ _;have:=KQ e;have:(leap mask (dO mask h n).i (dO mask h n).perturb).1<=runEnd mask (leap mask (dO mask h n).i (dO mask h n).perturb).1:=by unfold runEnd;split <;> omega
   exact⟨e,by omega⟩
theorem CA {mask:Nat}(h:Int) (n:Nat):pr mask h n<=mask:=by have:=(KR (mask:=mask) h n).2;unfold pr;omega
def Way (mask:Nat) (occ:Nat->Prop) (h:Int) (j:Nat):Prop:=∃n,pr mask h n=j/\∀m,m<n->occ (pr mask h m)
theorem Way.mono {mask:Nat}{occ occ':Nat->Prop}{h:Int}{j:Nat}(w:Way mask occ h j) (k:∀x,occ x->occ' x):Way mask occ' h j:=let ⟨n,e,a⟩:=w;⟨n,e,λm hm=>k _ (a m hm)⟩
structure Cg (t:gu) (hs:zo):Prop where
 size:t.place.size=hs.length
 rise:eX t.place.toList
 nod:t.dummies=#[]
 bnd:∀j∈t.place.toList,j<=t.mask
 room:hs.length<=t.mask
 msk:lI t.mask
 way:∀(i:Nat) (h:Int) (j:Nat),hs[i]?=some h->t.place.toList[i]?=some j->Way t.mask (·∈t.place.toList) h j
 plain:t.plain=true
theorem Cg.fits {t:gu}{hs:zo}(T:Cg t hs):t.fits hs.length=true:=by unfold SetTable.fits SetTable.fill;rw[T.nod,T.size];simpa using T.room
theorem Cg.gave {t:gu}{hs:zo}(T:Cg t hs):t.gaveWay=false:=by
 unfold SetTable.gaveWay
 rcases T.msk with e|e|e <;> rw[e] <;> rfl
theorem KS (j:Nat):SetTable.has #[] j=false:=by unfold SetTable.has;simp
theorem Cg.slot_live {t:gu}{hs:zo}(T:Cg t hs) {j:Nat}(h:j∈t.place.toList):∃i,t.slot j=.live i/\t.place.toList[i]?=some j:=by refine⟨below t.place j, ?_,by simpa using J9 T.rise h⟩;unfold SetTable.slot;dsimp only;rw[J9 T.rise h];simp
theorem Cg.slot_empty {t:gu}{hs:zo}(T:Cg t hs) {j:Nat}(h:j∉t.place.toList):t.slot j=.empty:=by unfold SetTable.slot;dsimp only;rw[Y4 h,T.nod,KS];rfl
theorem Cg.empty_there {t:gu}{hs:zo}(T:Cg t hs):∃j,j<=t.mask/\j∉t.place.toList:=by
 rcases qm (∃j,j<=t.mask/\j∉t.place.toList)with h|h
 ·exact h
 ·exfalso
  have h1:∀j,j∈ay (t.mask+1)->j∈t.place.toList:=by
   intro j hj
   rcases qm (j∈t.place.toList)with q|q
   ·exact q
   ·exact absurd ⟨j,by have:=bu.mp hj;omega,q⟩ h
  have h2:=(qz (n:=t.mask+1)).length_le_of_subset h1;rw[kj]at h2;have h3:t.place.toList.length=hs.length:=by rw[<-T.size];simp
  have:=T.room;omega
theorem ZG {t:gu}{hs:zo}(T:Cg t hs) (hashAt:Nat->Int) (h:Int):∀(fuel n N:Nat),n<=N->N - n<fuel->pr t.mask h N∉t.place.toList->
  ∃m,n<=m/\m<=N/\(∀l,n<=l->l<m->pr t.mask h l∈t.place.toList/\∀i,t.place.toList[i]?=some (pr t.mask h l)->hashAt i≠h) /\
   ((pr t.mask h m∉t.place.toList/\probe.go t hashAt h fuel (dO t.mask h n)=some (.empty (pr t.mask h m) none)) ∨
    (∃i,t.place.toList[i]?=some (pr t.mask h m)/\hashAt i=h/\probe.go t hashAt h fuel (dO t.mask h n)=some (.candidate (pr t.mask h m) i (dO t.mask h (m+1))))):=by
 intro fuel
 induction fuel with
 |zero=>intro n N _ h2 _;omega
 |succ f ih=>
  intro n N h1 h2 h3;have hj:(dO t.mask h n).j=pr t.mask h n:=rfl
  rcases qm (pr t.mask h n∈t.place.toList)with hm|hm
  ·obtain⟨i,e1,e2⟩:=T.slot_live hm
   by_cases hh:hashAt i=h
   ·refine⟨n,ak _,h1,λl a b=>absurd a (by omega),.inr ⟨i,e2,hh, ?_⟩⟩;rw[probe.go,hj,e1];dsimp only;rw[if_pos (beq_iff_eq.mpr hh),KC];rfl
   ·have hne:n≠N:=by rintro rfl;exact h3 hm
    obtain⟨m,a1,a2,a3,a4⟩:=ih (n+1) N (by omega) (by omega) h3;have e3:probe.go t hashAt h (f+1) (dO t.mask h n)=probe.go t hashAt h f (dO t.mask h (n+1)):=by rw[probe.go,hj,e1];dsimp only;rw[if_neg (by intro q;exact hh (beq_iff_eq.mp q)),KC];rfl
    refine⟨m,by omega,a2,λl b1 b2=>?_,by rw[e3];exact a4⟩
    rcases je n l with q|q
    ·exact a3 l (by omega) b2
    ·have:l=n:=by omega
     subst this;refine⟨hm,λi' e'=>?_⟩;have:i'=i:=BZ T.rise e' e2;subst this;exact hh
  ·refine⟨n,ak _,h1,λl a b=>absurd a (by omega),.inl ⟨hm, ?_⟩⟩;rw[probe.go,hj,T.slot_empty hm];dsimp only;rw[KD]
theorem Cg.stops {t:gu}{hs:zo}(T:Cg t hs) (h:Int):∃N,N<10*turns t.mask/\pr t.mask h N∉t.place.toList:=by obtain⟨j,hj,hn⟩:=T.empty_there;obtain⟨N,hN,e⟩:=ZF T.msk h hj;exact⟨N,hN,by rw[e];exact hn⟩
theorem Cg.before {t:gu}{hs:zo}(T:Cg t hs) {h:Int}{i j m:Nat}(e1:hs[i]?=some h) (e2:t.place.toList[i]?=some j) (hm:pr t.mask h m∉t.place.toList):∃n,n<m/\pr t.mask h n=j:=by
 obtain⟨n,e,a⟩:=T.way i h j e1 e2;refine⟨n, ?_,e⟩
 rcases je n m with q|q
 ·exact q
 ·exfalso
  rcases je m n with r|r
  ·exact hm (a m r)
  ·have:m=n:=by omega
   subst this;exact hm (by rw[e];exact di e2)
theorem KU {xs:Array Nat}{p j x:Nat}(hp:p<=xs.size):x∈(insertAt xs p j).toList↔x=j∨x∈xs.toList:=by
 rw[tT _ _ _ hp,cm,aw];have e:x∈xs.toList↔x∈xs.toList.take p∨x∈xs.toList.drop p:=by rw[<-cm,yp]
 rw[e];constructor
 ·rintro (a|a|a)
  ·exact .inr (.inl a)
  ·exact .inl a
  ·exact .inr (.inr a)
 ·rintro (a|a|a)
  ·exact .inr (.inl a)
  ·exact .inl a
  ·exact .inr (.inr a)
theorem ZH {t:gu}(hn:t.dummies=#[]) (j:Nat):t.put j=({ t with place:=insertAt t.place (below t.place j) j },below t.place j):=by unfold SetTable.put;dsimp only;rw[hn,KS];cases t;subst hn;rfl
theorem KW {α:Type}(l:List α) (x:α) (p i:Nat) (hp:p<=l.length):(l.take p++x::l.drop p)[i]?=if i<p then l[i]? else if i=p then some x else l[i - 1]?:=by
 have hl:(l.take p).length=p:=by rw[jj];omega
 by_cases h1:i<p
 ·rw[if_pos h1,fo (by omega),xv h1]
 ·rw[if_neg h1,ig (by omega),hl]
  by_cases h2:i=p
  ·subst h2;rw[if_pos rfl,Nat.sub_self];rfl
  ·rw[if_neg h2];obtain⟨k,rfl⟩:∃k,i=p+(k+1):=⟨i - p - 1,by omega⟩
   rw[show p+(k+1) - p=k+1 by omega,yc,List.getElem?_drop,show p+(k+1) - 1=p+k by omega]
theorem Cg.put {t:gu}{hs:zo}(T:Cg t hs) {h:Int}{n:Nat}(hn:pr t.mask h n∉t.place.toList) (hw:∀m,m<n->pr t.mask h m∈t.place.toList) (hr:hs.length+1<=t.mask):
  Cg { t with place:=insertAt t.place (below t.place (pr t.mask h n)) (pr t.mask h n) } (hs.take (below t.place (pr t.mask h n))++h::hs.drop (below t.place (pr t.mask h n))):=by
 have hb:=(tS (j:=pr t.mask h n) T.rise).2.2;have hs':t.place.toList.length=hs.length:=by rw[<-T.size];simp
 have hlen:(hs.take (below t.place (pr t.mask h n))++h::hs.drop (below t.place (pr t.mask h n))).length=hs.length+1:=by rw[bw,cy,jj,oh];have:=T.size;omega
 refine⟨?_,Y5 T.rise hn,T.nod, ?_, ?_,T.msk, ?_,T.plain⟩
 ·show(insertAt t.place (below t.place (pr t.mask h n)) (pr t.mask h n)).size=_;rw[hlen];have:(insertAt t.place (below t.place (pr t.mask h n)) (pr t.mask h n)).toList.length=hs.length+1:=by rw[tT _ _ _ hb,bw,cy,jj,oh,hs'];have:=T.size;omega
  simpa using this
 ·intro j hj
  rcases(KU hb).mp hj with rfl|hj
  ·exact CA h n
  ·exact T.bnd j hj
 ·rw[hlen];exact hr
 ·intro i h' j e1 e2;have Dh:(t.place.toList.take (below t.place (pr t.mask h n))++pr t.mask h n::t.place.toList.drop (below t.place (pr t.mask h n)))[i]?=some j:=by rw[<-tT _ _ _ hb];exact e2
  have Dg:below t.place (pr t.mask h n)<=hs.length:=by rw[<-T.size];exact hb
  rw[KW _ _ _ _ Dg]at e1;rw[KW _ _ _ _ (by rw[hs'];exact Dg)]at Dh;have mono:∀x,x∈t.place.toList->x∈(insertAt t.place (below t.place (pr t.mask h n)) (pr t.mask h n)).toList:=λx hx=>(KU hb).mpr (.inr hx)
  by_cases q1:i<below t.place (pr t.mask h n)
  ·rw[if_pos q1]at e1 Dh;exact(T.way _ _ _ e1 Dh).mono mono
  ·rw[if_neg q1]at e1 Dh
   by_cases q2:i=below t.place (pr t.mask h n)
   ·rw[if_pos q2]at e1 Dh
    cases e1;cases Dh
    exact⟨n,rfl,λm hm=>mono _ (hw m hm)⟩
   ·rw[if_neg q2]at e1 Dh;exact(T.way _ _ _ e1 Dh).mono mono
def hO (owner:Array (Option Nat)) (j:Nat):Prop:=(owner.getD j (some 0)).isSome=true
theorem KY {P:Nat->Bool}{n:Nat}(h:(ay n).find? P=none):∀k,k<n->P k=false:=by intro k hk;have:=List.find?_eq_none.mp h k (bu.mpr hk);simpa using this
theorem ZI {P:Nat->Bool}:∀{n k:Nat},(ay n).find? P=some k->k<n/\P k=true/\∀l,l<k->P l=false:=by
 intro n
 induction n with
 |zero=>intro k h;simp at h
 |succ n ih=>
  intro k h;rw[sj,List.find?_append]at h
  cases q:(ay n).find? P with
  |some k'=>rw[q]at h;simp at h;subst h;obtain⟨a,b,c⟩:=ih q;exact⟨by omega,b,c⟩
  |none=>
   rw[q]at h
   by_cases hp:P n=true
   ·simp[hp]at h;subst h;exact⟨by omega,hp,λl hl=>KY q l hl⟩
   ·simp[hp]at h
theorem ZJ {mask:Nat}{h:Int}{L n:Nat}(e:dO mask h n=pB mask (bs mask h L).1 (bs mask h L).2):dO mask h (n+(runEnd mask (bs mask h L).1 - (bs mask h L).1)+1)=pB mask (bs mask h (L+1)).1 (bs mask h (L+1)).2:=by have r:=wV mask h _ _ n e (runEnd mask (bs mask h L).1 - (bs mask h L).1) (ak _);rw[dO,r];unfold mS;rw[if_neg (by simp)];rfl
theorem ZK {mask:Nat}{h:Int}{owner:Array (Option Nat)}:∀(fuel L n:Nat),dO mask h n=pB mask (bs mask h L).1 (bs mask h L).2->(∀k,k<n->hO owner (pr mask h k))->
  (∃L',L<=L'/\L'<L+fuel/\¬ hO owner (bs mask h L').1)->
  ∃n,layClean.free mask owner fuel (bs mask h L).1 (bs mask h L).2=some (pr mask h n)/\¬ hO owner (pr mask h n)/\∀m,m<n->hO owner (pr mask h m):=by
 intro fuel
 induction fuel with
 |zero=>rintro L n _ _ ⟨L',a,b,_⟩;omega
 |succ f ih=>
  rintro L n e hb ⟨L',a1,a2,a3⟩
  have r:=wV mask h _ _ n e;have hle:(bs mask h L).1<=runEnd mask (bs mask h L).1:=by unfold runEnd;split <;> omega
  rw[layClean.free]
  cases q:(ay (runEnd mask (bs mask h L).1+1 - (bs mask h L).1)).find? λk=>(owner.getD ((bs mask h L).1+k) (some 0)).isNone with
  |some k=>
   obtain⟨b1,b2,b3⟩:=ZI q;dsimp only;have ek:pr mask h (n+k)=(bs mask h L).1+k:=by unfold pr;rw[r k (by omega)]
   refine⟨n+k,by rw[ek], ?_,λm hm=>?_⟩
   ·rw[ek];unfold hO;simp at b2;simp[b2]
   ·rcases je m n with z|z
    ·exact hb m z
    ·obtain⟨l,rfl⟩:∃l,m=n+l:=⟨m - n,by omega⟩
     have el:pr mask h (n+l)=(bs mask h L).1+l:=by unfold pr;rw[r l (by omega)]
     rw[el];have:=b3 l (by omega);unfold hO
     cases w:owner.getD ((bs mask h L).1+l) (some 0)with
     |none=>rw[w]at this;simp at this
     |some _=>rfl
  |none=>
   dsimp only;have b:=KY q;have hocc:∀l,l<=runEnd mask (bs mask h L).1 - (bs mask h L).1->hO owner ((bs mask h L).1+l):=by
    intro l hl;have:=b l (by omega);unfold hO
    cases w:owner.getD ((bs mask h L).1+l) (some 0)with
    |none=>rw[w]at this;simp at this
    |some _=>rfl
   have hne:L≠L':=by
    rintro rfl
    exact a3 (by simpa using hocc 0 (by omega))
   refine ih (L+1) _ (ZJ e) (λk hk=>?_) ⟨L',by omega,by omega,a3⟩
   rcases je k n with z|z
   ·exact hb k z
   ·obtain⟨l,rfl⟩:∃l,k=n+l:=⟨k - n,by omega⟩
    have el:pr mask h (n+l)=(bs mask h L).1+l:=by unfold pr;rw[r l (by omega)]
    rw[el];exact hocc l (by omega)
structure LOk (mask:Nat) (hs:zo) (owner:Array (Option Nat)) (k:Nat):Prop where
 size:owner.size=mask+1
 own:∀(j i:Nat),owner[j]?=some (some i)->i<k/\∃h,hs[i]?=some h/\Way mask (hO owner) h j
 all:∀(i:Nat),i<k->∃j:Nat,owner[j]?=some (some i)
 inj:∀(j j' i:Nat),owner[j]?=some (some i)->owner[j']?=some (some i)->j=j'
theorem tU {owner:Array (Option Nat)}{j:Nat}(hj:j<owner.size):hO owner j↔∃i,owner[j]?=some (some i):=by
 unfold hO;rw[fj hj];simp only[ka,hj,dif_pos,Array.getInternal_eq_getElem,xu]
 cases owner[j] <;> simp
theorem LOk.free {mask k:Nat}{hs:zo}{owner:Array (Option Nat)}(O:LOk mask hs owner k) (hk:k<=mask):∃j,j<=mask/\¬ hO owner j:=by
 rcases qm (∃j,j<=mask/\¬ hO owner j)with h|h
 ·exact h
 ·exfalso
  have h1:∀j,j<=mask->∃i,owner[j]?=some (some i):=λj hj=>by
   rcases qm (hO owner j)with q|q
   ·exact(tU (by rw[O.size];omega)).mp q
   ·exact absurd ⟨j,hj,q⟩ h
  let f:Nat->Nat:=λj=>match owner[j]? with|some (some i)=>i|_=>0
  have hf:∀j,j<=mask->owner[j]?=some (some (f j)):=λj hj=>by obtain⟨i,e⟩:=h1 j hj;show owner[j]?=some (some (match owner[j]? with|some (some i)=>i|_=>0));rw[e]
  have nd:((ay (mask+1)).map f).Nodup:=by rw[xf];rw[qo];refine ur ?_ (qz (n:=mask+1));intro a b ha hb Ck e;have ea:=hf a (by have:=bu.mp ha;omega);have eb:=hf b (by have:=bu.mp hb;omega);rw[e]at ea;exact Ck (O.inj _ _ _ ea eb)
  have sub:∀x,x∈(ay (mask+1)).map f->x∈ay k:=by intro x hx;obtain⟨j,hj,rfl⟩:=bo.mp hx;exact bu.mpr (O.own j _ (hf j (by have:=bu.mp hj;omega))).1
  have:=nd.length_le_of_subset sub;simp at this;omega
theorem LOk.step {mask k:Nat}{hs:zo}{owner:Array (Option Nat)}{h:Int}(g:lI mask) (O:LOk mask hs owner k) (hk:k<=mask) (hh:hs[k]?=some h):
  ∃j,layClean.free mask owner (turns mask) (bits h % (mask+1)) (bits h)=some j/\LOk mask hs (owner.setIfInBounds j (some k)) (k+1):=by
 obtain⟨j0,hj0,hn0⟩:=O.free hk;obtain⟨L,hL,eL⟩:=KO g h hj0;obtain⟨n,e,hn,hw⟩:=ZK (mask:=mask) (h:=h) (owner:=owner) (turns mask) 0 0 rfl (λk hk=>absurd hk (by omega)) ⟨L,by omega,by unfold turns;omega,by rw[eL];exact hn0⟩;refine⟨pr mask h n,e, ?_⟩;have hjl:pr mask h n<owner.size:=by rw[O.size];have:=CA (mask:=mask) h n;omega
 have hjn:owner[pr mask h n]?=some none:=by
  rw[fj hjl];have:¬ ∃i,owner[pr mask h n]?=some (some i):=λq=>hn ((tU hjl).mpr q)
  cases w:owner[pr mask h n]with
  |none=>rfl
  |some i=>exact absurd ⟨i,by rw[fj hjl,w]⟩ this
 have get:∀j,(owner.setIfInBounds (pr mask h n) (some k))[j]?=if pr mask h n=j then some (some k)else owner[j]?:=by
  intro j;rw[Array.getElem?_setIfInBounds]
  by_cases q:pr mask h n=j
  ·rw[if_pos q,if_pos q,if_pos hjl]
  ·rw[if_neg q,if_neg q]
 have Bl:(owner.setIfInBounds (pr mask h n) (some k)).size=mask+1:=by rw[Array.size_setIfInBounds];exact O.size
 have occm:∀x,hO owner x->hO (owner.setIfInBounds (pr mask h n) (some k)) x:=by
  intro x hx
  by_cases hl:x<owner.size
  ·obtain⟨i,e⟩:=(tU hl).mp hx;refine(tU (by rw[Bl,<-O.size];exact hl)).mpr ?_;rw[get]
   by_cases q:pr mask h n=x
   ·exact⟨k,if_pos q⟩
   ·exact⟨i,by rw[if_neg q];exact e⟩
  ·unfold hO;simp[ka,hl]
 refine⟨Bl, ?_, ?_, ?_⟩
 ·intro j i e;rw[get]at e
  by_cases q:pr mask h n=j
  ·rw[if_pos q]at e;cases e;exact⟨by omega,h,hh,n,q,λm hm=>occm _ (hw m hm)⟩
  ·rw[if_neg q]at e;obtain⟨a,h',b,c⟩:=O.own j i e;exact⟨by omega,h',b,c.mono occm⟩
 ·intro i hi
  by_cases q:i=k
  ·subst q;exact⟨pr mask h n,by rw[get,if_pos rfl]⟩
  ·obtain⟨j,e⟩:=O.all i (by omega);refine⟨j, ?_⟩;rw[get]
   by_cases z:pr mask h n=j
   ·rw[<-z,hjn]at e;cases e
   ·rw[if_neg z];exact e
 ·intro j j' i e e';rw[get]at e e'
  by_cases z:pr mask h n=j
  ·rw[if_pos z]at e;cases e
   by_cases z':pr mask h n=j'
   ·exact z.symm.trans z'
   ·rw[if_neg z']at e';have:=(O.own j' _ e').1;omega
  ·rw[if_neg z]at e
   by_cases z':pr mask h n=j'
   ·rw[if_pos z']at e';cases e';have:=(O.own j _ e).1;omega
   ·rw[if_neg z']at e';exact O.inj _ _ _ e e'
theorem KZ {mask:Nat}{hs:zo}(g:lI mask) (hl:hs.length<=mask):∀(l pre:zo) (owner:Array (Option Nat)),hs=pre++l->LOk mask hs owner pre.length->
  ∃owner',l.foldl (λ(acc:Option (Array (Option Nat)×Nat)) h=>do
    let (owner,k) <-acc
    let j <-layClean.free mask owner (turns mask) (bits h % (mask+1)) (bits h)
    pure (owner.setIfInBounds j (some k),k+1)) (some (owner,pre.length))=some (owner',hs.length)/\LOk mask hs owner' hs.length
 | [],pre,owner,e,O=>by rw[rz]at e;subst e;exact⟨owner,rfl,O⟩
 |h::l,pre,owner,e,O=>by
  have hh:hs[pre.length]?=some h:=by rw[e];simp
  obtain⟨j,e1,O1⟩:=O.step g (by rw[e]at hl;simp at hl;omega) hh;have e2:hs=(pre++[h])++l:=by rw[e];simp
  have hlen:(pre++[h]).length=pre.length+1:=by simp
  obtain⟨o',a,b⟩:=KZ g hl l (pre++[h]) _ e2 (by rw[hlen];exact O1);refine⟨o', ?_,b⟩;rw[List.foldl_cons];rw[<-a,hlen]
  congr 1
  show(do let j <-layClean.free mask owner (turns mask) (bits h % (mask+1)) (bits h);pure (owner.setIfInBounds j (some pre.length),pre.length+1))=_;rw[e1];rfl
theorem ZL {mask:Nat}{hs:Array Int}(g:lI mask) (hl:hs.size<=mask):∃owner,layClean mask hs=some owner/\LOk mask hs.toList owner hs.size:=by
 have O0:LOk mask hs.toList (Array.replicate (mask+1) none) 0:=by
  refine⟨by simp, ?_,λi hi=>absurd hi (by omega), ?_⟩
  ·intro j i e;rw[xq]at e
   split at e <;> simp at e
  ·intro j j' i e;rw[xq]at e
   split at e <;> simp at e
 obtain⟨o',a,b⟩:=KZ g (by simpa using hl) hs.toList [] _ rfl O0;refine⟨o', ?_,by simpa using b⟩;unfold layClean;rw[<-Array.foldl_toList];simp only[oz]at a;rw[a];rfl
theorem Way.mono' {mask:Nat}{occ occ':Nat->Prop}{h:Int}{j:Nat}(w:Way mask occ h j) (k:∀x,x<=mask->occ x->occ' x):Way mask occ' h j:=let ⟨n,e,a⟩:=w;⟨n,e,λm hm=>k _ (CA h m) (a m hm)⟩
theorem K0 (g:Nat->Option Nat):∀(l:zq),l.Pairwise (·<·)->((l.filterMap λj=>(g j).map ((j,·):Nat->Nat×Nat)).map dy).Pairwise (·<·)
 | [],_=>by simp
 |j::l,h=>by
  rw[de]at h;have ih:=K0 g l h.2
  cases e:g j with
  |none=>simpa[cq,e]using ih
  |some i=>
   simp only[cq,e,Option.map_some,df,de];refine⟨?_,ih⟩;intro a ha;obtain⟨⟨x,y⟩,hp,rfl⟩:=bo.mp ha;obtain⟨z,hz,ez⟩:=gy.mp hp
   cases q:g z with
   |none=>rw[q]at ez;simp at ez
   |some i'=>rw[q]at ez;simp at ez;have:=h.1 z hz;omega
theorem ZM {mask finger moves:Nat}{led:Bool}{hs:Array Int}(g:lI mask) (hl:hs.size<=mask):
  ∃t order,laid mask finger moves led true hs=some (t,order)/\t.mask=mask/\t.led=led/\order.toList.Perm (ay hs.size)/\Cg t (order.toList.filterMap (hs.toList[·]?)):=by
 obtain⟨owner,e,O⟩:=ZL g hl;generalize hlive:(ay (mask+1)).filterMap (λj=>(owner.getD j none).map ((j,·):Nat->Nat×Nat))=live;have Cf:∀j i,(j,i)∈live↔owner[j]?=some (some i):=by
  intro j i;rw[<-hlive,gy];constructor
  ·rintro ⟨x,hx,ex⟩
   have hx':x<owner.size:=by rw[O.size];exact bu.mp hx
   have eg:owner.getD x none=owner[x]:=by simp[ka,hx']
   rw[eg]at ex
   cases q:owner[x]with
   |none=>rw[q]at ex;simp at ex
   |some i'=>rw[q]at ex;simp at ex;obtain⟨rfl,rfl⟩:=ex;rw[fj hx',q]
  ·intro h;obtain⟨hx',q⟩:=dw.mp h;refine⟨j,bu.mpr (by rw[<-O.size];exact hx'), ?_⟩;have eg:owner.getD j none=owner[j]:=by simp[ka,hx']
   rw[eg,q];rfl
 have hrise:(live.map dy).Pairwise (·<·):=by rw[<-hlive];exact K0 _ _ (nh)
 have Ce:(live.map qe).Perm (ay hs.size):=by
  refine(jm ?_ qz).mpr ?_
  ·rw[xf,qo];rw[qo]at hrise;refine ur ?_ hrise
   rintro ⟨a,i⟩ ⟨b,i'⟩ ha hb Ck e
   have e':i=i':=e;subst e';have:=O.inj a b i ((Cf _ _).mp ha) ((Cf _ _).mp hb);have hab':a<b:=Ck;omega
  ·intro i;rw[bu];constructor
   ·intro h;obtain⟨⟨j,i'⟩,hp,rfl⟩:=bo.mp h;exact(O.own j i' ((Cf _ _).mp hp)).1
   ·intro h;obtain⟨j,ej⟩:=O.all i h;exact bo.mpr ⟨(j,i),(Cf _ _).mpr ej,rfl⟩
 have hlen:live.length=hs.size:=by simpa using Ce.length_eq
 have hget:∀(i:Nat),((live.map qe).filterMap (hs.toList[·]?))[i]?=(live[i]?).bind λp=>hs.toList[p.2]?:=by
  have gen:∀(l:List (Nat×Nat)),(∀p∈l,p.2<hs.toList.length)->∀(i:Nat),((l.map qe).filterMap (hs.toList[·]?))[i]?=(l[i]?).bind λp=>hs.toList[p.2]?:=by
   intro l
   induction l with
   |nil=>intro _ i;simp
   |cons p l ih=>
    intro hp i;have h1:=hp p (ax ..);have e1:hs.toList[p.2]?=some hs.toList[p.2]:=br h1;rw[df,cq,e1]
    cases i with
    |zero=>simp[e1]
    |succ i=>simp only[yc];exact ih (λq hq=>hp q (ao _ hq)) i
  intro i;refine gen live ?_ i
  rintro ⟨j,k⟩ hp
  have:=(O.own j k ((Cf _ _).mp hp)).1;simpa using this
 have hlen':((live.map qe).filterMap (hs.toList[·]?)).length=hs.size:=by
  have gen:∀(l:List (Nat×Nat)),(∀p∈l,p.2<hs.toList.length)->((l.map qe).filterMap (hs.toList[·]?)).length=l.length:=by
   intro l
   induction l with
   |nil=>intro _;rfl
   |cons p l ih=>intro hp;have h1:=hp p (ax ..);have e1:hs.toList[p.2]?=some hs.toList[p.2]:=br h1;rw[df,cq,e1];show(_::_).length=_;rw[cy,cy,ih (λq hq=>hp q (ao _ hq))]
  rw[gen live ?_,hlen]
  rintro ⟨j,k⟩ hp
  have:=(O.own j k ((Cf _ _).mp hp)).1;simpa using this
 refine⟨{ mask,place:=(live.map dy).toArray,dummies:=#[],finger,led,moves,plain:=true },(live.map qe).toArray, ?_,rfl,rfl,Ce, ?_⟩
 ·unfold laid;rw[e];show some _=some _;rw[hlive]
 ·refine⟨(by show(live.map dy).toArray.size=((live.map qe).filterMap (hs.toList[·]?)).length;rw[hlen',au,ba,hlen]),hrise,rfl, ?_,by rw[hlen'];exact hl,g, ?_,rfl⟩
  ·intro j hj;obtain⟨⟨x,y⟩,hp,rfl⟩:=bo.mp (show j∈live.map dy from hj);have:=(Cf _ _).mp hp;obtain⟨hx',_⟩:=dw.mp this;have:=O.size;show x<=mask;omega
  ·intro i h j e1 e2;have e1':((live.map qe).filterMap (hs.toList[·]?))[i]?=some h:=e1;rw[hget]at e1';have Dh:(live.map dy)[i]?=some j:=e2;rw[fw]at Dh
   cases q:live[i]? with
   |none=>rw[q]at Dh;cases Dh
   |some p=>
    obtain⟨x,k⟩:=p;rw[q]at e1' Dh;simp at e1' Dh;subst Dh;have hp:=di q;obtain⟨a,h',b,c⟩:=O.own x k ((Cf _ _).mp hp);have hh:h'=h:=by
     have:hs.toList[k]?=some h:=by simpa using e1'
     rw[b]at this;exact cx this
    subst hh;refine c.mono' λy hy ho=>?_;obtain⟨i',ei⟩:=(tU (by rw[O.size];omega)).mp ho;exact bo.mpr ⟨(y,i'),(Cf _ _).mpr ei,rfl⟩
end SM
namespace SR
open PySem PySem.Spec PyProof.Rows SM
section
variable{prog:bh}{w:cp}
def hk (prog:bh) (w:cp) (k:zo):Int:=tupleKeyHash (intKind prog w) k
abbrev KB:=List (zo×ah)
def gN (prog:bh) (w:cp) (kb:KB):List (Int×af):=kb.map λp=>(hk prog w p.1,gq p.2)
structure Am (prog:bh) (w:cp) (h:da) (a:ah) (kb:KB) (o:Obj) (es:Array (Int×af)) (ep:Nat) (t:gu):Prop where
 obj:h.get? a=some o
 ex:o.ExactSet
 data:o.data=.set es ep t
 es:es.toList=gN prog w kb
 tab:Cg t (kb.map λp=>hk prog w p.1)
 nd:(kb.map dy).Nodup
 nf:kb.length*5<t.mask*3
 led:t.led=!w.params.followText "set-order"
def kL (prog:bh) (w:cp) (h:da) (a:ah) (kb:KB):Prop:=∃o es ep t,Am prog w h a kb o es ep t
def wX (prog:bh) (w:cp) (h:da) (kb:KB):Prop:=∀p∈kb,gd (intKind prog w) h p.1 p.2
variable{h:da}{a:ah}{kb:KB}{o:Obj}{es:Array (Int×af)}{ep:Nat}{t:gu}
theorem Am.size (P:Am prog w h a kb o es ep t):es.size=kb.length:=by have:=congrArg qj P.es;simpa[gN]using this
theorem Am.fits (P:Am prog w h a kb o es ep t):t.fits es.size=true:=by have:=P.tab.fits;rw[ba]at this;rw[P.size];exact this
theorem Am.at_ (P:Am prog w h a kb o es ep t) {i:Nat}{p:zo×ah}(e:kb[i]?=some p):es[i]?=some (hk prog w p.1,.ref p.2):=by
 have:es.toList[i]?=some (hk prog w p.1,gq p.2):=by rw[P.es];simp[gN,e]
 simpa using this
theorem Am.hash_at (P:Am prog w h a kb o es ep t) {i:Nat}{p:zo×ah}(e:kb[i]?=some p):(es[i]?.map (·.1)).getD 0=hk prog w p.1:=by rw[P.at_ e];rfl
end
section
variable{prog:bh}{w:cp}{A:cn}{E:af->ag->Prop}{s:ag}{a:ah}{kb:KB}{o:Obj}{es:Array (Int×af)}{ep:Nat}{t:gu}
theorem K1 {ks:zo}{b:ah}{Q:Bool->ag->Prop}(hb:gd (intKind prog w) s.heap ks b) (h:Q false s):wpAny (model prog w) A (ofAClassStatement 8 (.ref b)) Q E s:=by
 obtain⟨o,items,n,ho,hc,hd,hi⟩:=hb;unfold ofAClassStatement;refine ae (ql (T := "tuple") ⟨o,ho,hc⟩ ?_);show wpAny _ _ ((if(("tuple" : String) == "tuple")=true then(pure true:Sem Bool)else isSubtype (.type "tuple") (.type "tuple")) >>= _) _ _ s;rw[if_pos (by decide)];refine ae (ai ?_);simp only[om,cu,if_false];refine ae (gz ho hd ?_);refine ae ?_;show wpAny _ _ (forIn items _ _) _ _ s;rw[<-zj];refine pq _ (λrest r s'=>r.1=none/\s'=s/\∀v∈rest,carriedByValue v=true) _ ?_ ?_ _ _ ⟨rfl,rfl,hi.byValue⟩
 ·rintro v rest r s' ⟨hr,rfl,Bw⟩
  have hv:=Bw v ax;have e:ofAClassStatement 7 v=pure false:=by
   cases v with
   |ref a=>simp[carriedByValue]at hv
   |_=>rfl
  rw[e];refine ae (ai ?_);simp only[cu,if_false];exact ai ⟨rfl,rfl,λu Ap=>Bw u (ao _ Ap)⟩
 ·rintro ⟨r1,r2⟩ s' ⟨hr,rfl,_⟩
  simp only at hr;subst hr;exact ai h
theorem ZN {k:zo}{b:ah}{Q:Bool->ag->Prop}(hb:gd (intKind prog w) s.heap k b):∀(l:List af),(∀y∈l,∃k' b',y=.ref b'/\gd (intKind prog w) s.heap k' b')->Q false s->
  wpAny (model prog w) A (searchCouldBeSeen (.ref b) l) Q E s:=by
 intro l hl h;unfold searchCouldBeSeen;refine ae ?_;refine pq _ (λrest r s'=>r.1=none/\s'=s/\∀y∈rest,∃k' b',y=.ref b'/\gd (intKind prog w) s.heap k' b') _ ?_ ?_ _ _ ⟨rfl,rfl,hl⟩
 ·rintro y rest r s' ⟨hr,rfl,Bw⟩
  obtain⟨k',b',rfl,hb'⟩:=Bw y ax;have fin:r.1=none/\s'=s'/\∀y∈rest,∃k' b',y=.ref b'/\gd (intKind prog w) s'.heap k' b':=⟨hr,rfl,λu hu=>Bw u (ao _ hu)⟩
  dsimp only
  split
  ·exact ai ⟨rfl,rfl,fin.2.2⟩
  ·refine ae (wpAny_eqIsQuiet_tuple hb ?_);simp only[om,cu,if_false];refine ae (wpAny_eqIsQuiet_tuple hb' ?_);simp only[om,cu,if_false];refine ae (K1 hb ?_);simp only[cu,if_false];refine ae (K1 hb' ?_);simp only[cu,if_false];exact ai ⟨rfl,rfl,fin.2.2⟩
 ·rintro ⟨r1,r2⟩ s' ⟨hr,rfl,_⟩
  simp only at hr;subst hr;exact ai h
end
section
variable{prog:bh}{w:cp}{A:cn}{E:af->ag->Prop}{s:ag}{a:ah}{kb:KB}{o:Obj}{es:Array (Int×af)}{ep:Nat}{t:gu}{k:zo}{b:ah}
theorem mem_keys {kb:KB}{k:zo}:k∈kb.map dy↔∃(i:Nat) (b:ah),kb[i]?=some (k,b):=by
 constructor
 ·intro h;obtain⟨⟨k',b⟩,hp,rfl⟩:=bo.mp h;obtain⟨i,hi,e⟩:=jr hp;exact⟨i,b,by rw[br hi,e]⟩
 ·rintro ⟨i,b,e⟩
  exact bo.mpr ⟨(k,b),di e,rfl⟩
theorem ZO (P:Am prog w s.heap a kb o es ep t) (T:wX prog w s.heap kb) (hb:gd (intKind prog w) s.heap k b) (hu:A.units<cLine) {Q:SetFound->ag->Prop}
  (Bz:k∈kb.map dy->Q (.there none) s)
  (Bq:k∉kb.map dy->∀n,pr t.mask (hk prog w k) n∉t.place.toList->(∀m,m<n->pr t.mask (hk prog w k) m∈t.place.toList)->Q (.free (pr t.mask (hk prog w k) n) false) s)
  (N:Nat) (hN:N<10*rp t.mask) (hNe:pr t.mask (hk prog w k) N∉t.place.toList):
  ∀(fuel n:Nat) (stand:Option SetTable.Probe),stand.getD (t.probeStart (hk prog w k))=dO t.mask (hk prog w k) n->n<=N->N - n<fuel->
   (∀l,l<n->pr t.mask (hk prog w k) l∈t.place.toList/\∀(i:Nat) p,t.place.toList[i]?=some (pr t.mask (hk prog w k) l)->kb[i]?=some p->p.1≠k)->
   wpAny (model prog w) A (setSearchFrom a (.ref b) (hk prog w k) true fuel stand) Q E s:=by
 intro fuel
 induction fuel with
 |zero=>intro n stand _ _ h2;omega
 |succ f ih=>
  intro n stand hst h1 h2 hseen;have hlen:t.place.toList.length=kb.length:=by have:=P.tab.size;simpa using this
  have kbat:∀{i j:Nat},t.place.toList[i]?=some j->∃p,kb[i]?=some p:=λ{i j} e=>by obtain⟨hi,_⟩:=bg.mp e;exact⟨kb[i]'(by omega),br (by omega)⟩
  unfold setSearchFrom;refine ae (ji P.obj P.data P.fits ?_);dsimp only;rw[P.tab.gave];simp only[cu,if_false];obtain⟨m,a1,a2,a3,a4⟩:=ZG P.tab (λi=>(es[i]?.map (·.1)).getD 0) (hk prog w k) (10*rp t.mask) n N h1 (by omega) hNe;have pass:∀l,l<m->pr t.mask (hk prog w k) l∈t.place.toList/\∀(i:Nat) p,t.place.toList[i]?=some (pr t.mask (hk prog w k) l)->kb[i]?=some p->p.1≠k:=by
   intro l hl
   rcases je l n with q|q
   ·exact hseen l q
   ·obtain⟨b1,b2⟩:=a3 l q hl;refine⟨b1,λi p e1 e2 e3=>b2 i e1 ?_⟩;show(es[i]?.map (·.1)).getD 0=_;rw[P.hash_at e2,e3]
  rcases a4 with⟨b1,b2⟩|⟨i,b1,b2,b3⟩
  ·have e:∀g:Nat->Int,g=(λi=>(es[i]?.map (·.1)).getD 0)->t.probe g (hk prog w k) (stand.getD (t.probeStart (hk prog w k)))=some (.empty (pr t.mask (hk prog w k) m) none):=by rintro g rfl;rw[hst];exact b2
   rw[e]
   rotate_left
   ·rfl
   refine ai (Bq ?_ m b1 λl hl=>(pass l hl).1);intro Cf;obtain⟨i,b',ei⟩:=mem_keys.mp Cf;obtain⟨j,ej⟩:∃j,t.place.toList[i]?=some j:=by obtain⟨hi,_⟩:=bg.mp ei;exact⟨_,br (by omega)⟩
   obtain⟨n',hn',e'⟩:=P.tab.before (i:=i) (h:=hk prog w k) (by rw[fw,ei];rfl) ej b1;exact(pass n' hn').2 i (k,b') (by rw[e'];exact ej) ei rfl
  ·have e:∀g:Nat->Int,g=(λi=>(es[i]?.map (·.1)).getD 0)->t.probe g (hk prog w k) (stand.getD (t.probeStart (hk prog w k)))=some (.candidate (pr t.mask (hk prog w k) m) i (dO t.mask (hk prog w k) (m+1))):=by rintro g rfl;rw[hst];exact b3
   rw[e]
   rotate_left
   ·rfl
   dsimp only;obtain⟨p,ep'⟩:=kbat b1;have hp:=T p (di ep');have es1:t.sameMemory t.moves t.mask=some true:=by unfold SetTable.sameMemory;simp
   obtain⟨i2,e2,e3⟩:=P.tab.slot_live (di b1);have hi2:i2=i:=BZ P.tab.rise e3 b1;subst hi2;have kN:¬ p.1=k->wpAny (model prog w) A (setSearchFrom a (.ref b) (hk prog w k) true f (some (dO t.mask (hk prog w k) (m+1)))) Q E s:=by
    intro hpk;have hmN:m≠N:=by rintro rfl;exact hNe (di b1)
    refine ih (m+1) _ rfl (by omega) (by omega) ?_
    ·intro l hl
     rcases je l m with q|q
     ·exact pass l q
     ·have:l=m:=by omega
      subst this;refine⟨di b1,λi' p' z1 z2=>?_⟩;have:i'=i2:=BZ P.tab.rise z1 b1;subst this;rw[ep']at z2;cases z2;exact hpk
   cases hl:t.led
   case' true=>simp only[om,cu,if_false]
   case' false=>
    simp only[Bool.not_false,if_true];refine ae (ZN hb _ ?_ ?_)
    ·intro y hy;obtain⟨e1,he1,rfl⟩:=bo.mp hy;have Df:=(Array.mem_filter.mp (yq.mp he1)).1;have he3:e1∈gN prog w kb:=by rw[<-P.es];exact yq.mpr Df
     obtain⟨q,hq,rfl⟩:=bo.mp he3;exact⟨q.1,q.2,rfl,T q hq⟩
    simp only[cu,if_false]
   all_goals
    rw[P.at_ ep'];dsimp only;refine ae (fz (wpAny_eqBool_tuple hu hp hb ?_));refine ae (ji P.obj P.data P.fits ?_);dsimp only
    by_cases hpk:p.1=k
    ·rw[decide_eq_true hpk];simp only[Bool.true_and,if_true];exact ai (Bz (mem_keys.mpr ⟨i2,p.2,by rw[ep',<-hpk]⟩))
    ·rw[decide_eq_false hpk];simp only[qd,cu,if_false];rw[es1];dsimp only;simp only[if_true];rw[e2];dsimp only;rw[P.at_ ep'];dsimp only;refine ae (wpAny_isSame_ref_self ?_);refine ae (ai ?_);simp only[if_true];exact kN hpk
theorem ZP (P:Am prog w s.heap a kb o es ep t) (T:wX prog w s.heap kb) (hb:gd (intKind prog w) s.heap k b) (hu:A.units<cLine) {Q:SetFound->ag->Prop}
  (Bz:k∈kb.map dy->Q (.there none) s)
  (Bq:k∉kb.map dy->∀n,pr t.mask (hk prog w k) n∉t.place.toList->(∀m,m<n->pr t.mask (hk prog w k) m∈t.place.toList)->Q (.free (pr t.mask (hk prog w k) n) false) s):
  wpAny (model prog w) A (setSearch a (.ref b) (hk prog w k) true) Q E s:=by
 obtain⟨N,hN,hNe⟩:=P.tab.stops (hk prog w k);have hm:10*rp t.mask<=1420:=by
  unfold rp
  rcases P.tab.msk with e|e|e <;> rw[e] <;> decide
 exact ZO P T hb hu Bz Bq N hN hNe 100000 0 none rfl (iu _) (by omega) λl hl=>absurd hl (by omega)
theorem ZQ {Q:Bool->ag->Prop}(hb:gd (intKind prog w) s.heap k b) (h:Q true s):wpAny (model prog w) A (hashByValue 8 (.ref b)) Q E s:=by
 have hT:=hb.typeIs;obtain⟨o,items,n,ho,hc,hd,hi⟩:=hb;unfold hashByValue;refine ae (wpAny_specialOf hT F.slot_tuple_hash.lookup ?_);dsimp only;refine ae (gz ho hd ?_);refine ae ?_;show wpAny _ _ (forIn items _ _) _ _ s;rw[<-zj];have hv:∀v∈items.toList,∃i t,v=.int i t:=by
  clear hd ho
  generalize items.toList=l at hi
  induction hi with
  |nil=>intro v h;cases h
  |cons h1 _ ih=>
   intro v hv
   rcases aw.mp hv with rfl|hv
   ·obtain⟨t,e⟩:=nc h1;exact⟨_,t,e⟩
   ·exact ih v hv
 refine pq _ (λrest r s'=>r.1=none/\s'=s/\∀v∈rest,∃i t,v=.int i t) _ ?_ ?_ _ _ ⟨rfl,rfl,hv⟩
 ·rintro v rest r s' ⟨hr,rfl,Bw⟩
  obtain⟨i,t,rfl⟩:=Bw v ax;refine ae (ai ?_);simp only[om,cu,if_false];exact ai ⟨rfl,rfl,λu Ap=>Bw u (ao _ Ap)⟩
 ·rintro ⟨r1,r2⟩ s' ⟨hr,rfl,_⟩
  simp only at hr;subst hr;exact ai h
end
section
variable{prog:bh}{w:cp}{A:cn}{E:af->ag->Prop}{s:ag}{a:ah}{kb:KB}{o:Obj}{es:Array (Int×af)}{ep:Nat}{t:gu}{k:zo}{b:ah}
theorem ZR (p:Nat):(gN prog w kb).take p++(hk prog w k,gq b)::(gN prog w kb).drop p=gN prog w (kb.take p++(k,b)::kb.drop p):=by simp[gN,xx,ui]
theorem ZS (p:Nat):(kb.map λq=>hk prog w q.1).take p++hk prog w k::(kb.map λq=>hk prog w q.1).drop p=(kb.take p++(k,b)::kb.drop p).map λq=>hk prog w q.1:=by simp[xx,ui]
theorem nY {α:Type}(l:List α) (x:α) (p:Nat):(l.take p++x::l.drop p).Perm (x::l):=by have h:(l.take p++x::l.drop p).Perm (x::(l.take p++l.drop p)):=List.perm_middle;rwa [yp]at h
theorem CB {p:Nat}(h:(kb.map dy).Nodup) (hk:k∉kb.map dy):((kb.take p++(k,b)::kb.drop p).map dy).Nodup:=by have q:=(nY kb (k,b) p).map dy;exact q.nodup_iff.mpr (iq.mpr ⟨hk,h⟩)
theorem K2 {es':Array (Int×af)}{t':gu}(hd:o.data=.set es ep t) (ho:s.heap.get? a=some o):(s.heap.update a (Obj.putSet es' t')).get? a=some { o with data:=.set es' (ep+1) t' }:=by have:=jn (Obj.putSet es' t') ho (by rw[putSet_of es' t' hd];rfl);rw[putSet_of es' t' hd]at this;exact this
theorem K4 {α:Type}:∀(l:List α),(ay l.length).filterMap (λi=>l[i]?)=l
 | []=>rfl
 |x::l=>by
  rw[cy,yh,cq];simp only[List.getElem?_cons_zero,List.filterMap_map]
  congr 1
  exact K4 l
theorem K5 {kb:KB}{mask' wanted:Nat}{Q:Unit->ag->Prop}(ho:s.heap.get? a=some o) (hex:o.ExactSet) (hd:o.data=.set es ep t) (hes:es.toList=gN prog w kb) (hT:Cg t (kb.map λp=>hk prog w p.1)) (nd:(kb.map dy).Nodup) (hled:t.led=!w.params.followText "set-order")
  (hw:yi wanted - 1=mask') (hg:lI mask') (hl:kb.length*5<mask'*3) (hz:yi wanted<=cf)
  (h:∀h' Cr,jc a s.heap h'->kL prog w h' a Cr->Cr.Perm kb->Q () { s with heap:=h' }):
  wpAny (model prog w) A (setRelay a wanted) Q E s:=by
 have Bl:es.size=kb.length:=by have:=congrArg qj hes;simpa[gN]using this
 have hfit:t.fits es.size=true:=by have:=hT.fits;rw[ba]at this;rw[Bl];exact this
 have eh:(es.map (·.1)).toList=kb.map λp=>hk prog w p.1:=by rw[Array.toList_map,hes];simp[gN]
 have hs':(es.map (·.1)).size=kb.length:=by simp[Bl]
 unfold setRelay;refine ae (ji ho hd hfit ?_);dsimp only;rw[if_neg (by omega)];obtain⟨t',order,e1,e2,e3,e4,e5⟩:=ZM (mask:=mask') (finger:=t.finger) (moves:=t.movedTo mask') (led:=t.led) (hs:=es.map (·.1)) hg (by rw[hs'];omega);have er:t.relaid (es.map (·.1)) wanted=some (t',order):=by unfold SetTable.relaid;rw[hw,hT.plain];exact e1
 rw[er];have hlt:∀i∈order.toList,i<kb.length:=λi hi=>by have:=bu.mp (e4.mem_iff.mp hi);omega
 have hfm:∀(l:zq),(∀i∈l,i<kb.length)->l.filterMap (λi=>es[i]?)=gN prog w (l.filterMap λi=>kb[i]?):=by
  intro l hl
  induction l with
  |nil=>rfl
  |cons i l ih=>
   have hi:=hl i ax;have q1:kb[i]?=some kb[i]:=br hi;have q2:es[i]?=some (hk prog w kb[i].1,gq kb[i].2):=by
    have:es.toList[i]?=some (hk prog w kb[i].1,gq kb[i].2):=by rw[hes];simp[gN,q1]
    simpa using this
   rw[cq,cq,q1,q2];simp only;rw[ih λj hj=>hl j (ao _ hj)];rfl
 have hkey:∀(l:zq),(∀i∈l,i<kb.length)->l.filterMap (λi=>(es.map (·.1)).toList[i]?)=(l.filterMap λi=>kb[i]?).map λp=>hk prog w p.1:=by
  intro l hl
  induction l with
  |nil=>rfl
  |cons i l ih=>
   have hi:=hl i ax;have q1:kb[i]?=some kb[i]:=br hi;have q2:(es.map (·.1)).toList[i]?=some (hk prog w kb[i].1):=by rw[eh];simp[q1]
   rw[cq,cq,q1,q2];simp only;rw[ih λj hj=>hl j (ao _ hj)];rfl
 have Ce:(order.toList.filterMap λi=>kb[i]?).Perm kb:=by have q:=e4.filterMap (λi=>kb[i]?);rw[hs']at q;exact q.trans (List.Perm.of_eq (K4 kb))
 have hes2:(order.filterMap (es[·]?)).toList=gN prog w (order.toList.filterMap λi=>kb[i]?):=by rw[Array.toList_filterMap];exact hfm _ hlt
 have hsz2:(order.filterMap (es[·]?)).size=es.size:=by have:=congrArg qj hes2;rw[lb]at this;rw[this,Bl];simp[gN,Ce.length_eq]
 show wpAny _ _ ((if((order.filterMap (es[·]?)).size != es.size)=true then(unsupported "internal:set-table-lost-an-element" >>= λ_=>pure (order.filterMap (es[·]?),t'))else pure (order.filterMap (es[·]?),t')) >>= _) _ _ s;rw[if_neg (by rw[hsz2];simp)];refine ae (ai ?_);dsimp only;refine wpAny_storeSet_of ho hd ?_ (by rw[hsz2,Bl];rcases hg with q|q|q <;> (rw[q]at hl;rw[ja];omega));refine h _ (order.toList.filterMap λi=>kb[i]?) (nr ..) ⟨_,_,_,t',K2 hd ho,hex,rfl,hes2, ?_, ?_, ?_,e3.trans hled⟩ Ce
 ·rw[<-hkey _ hlt];exact e5
 ·exact(Ce.map dy).nodup_iff.mpr nd
 ·rw[Ce.length_eq,e2];exact hl
theorem ZT (P:Am prog w s.heap a kb o es ep t) (T:wX prog w s.heap kb) (hb:gd (intKind prog w) s.heap k b) (hu:A.units<cLine) (h76:k∉kb.map dy->kb.length+1<=76) {Q:Bool->ag->Prop}
  (h:∀h' Cr r,jc a s.heap h'->kL prog w h' a Cr->(k∈kb.map dy->Cr.Perm kb)->(k∉kb.map dy->Cr.Perm ((k,b)::kb))->Q r { s with heap:=h' }):
  wpAny (model prog w) A (setAddHashed a (.ref b) (hk prog w k)) Q E s:=by
 unfold setAddHashed;refine fz ?_;unfold setAddHashedIn;refine ae (ji P.obj P.data P.fits ?_);dsimp only;have hbs:byScan (.ref b) es=false:=by simp[byScan,Value.scannable]
 rw[hbs];simp only[cu,if_false];refine ae (ZP P T hb hu (λBz=>?_) λBq n hn hw=>?_)
 ·dsimp only;refine ai ?_;have:=h s.heap kb false (sr ..) ⟨o,es,ep,t,P⟩ (λ_=>.refl _) λq=>absurd Bz q;exact this
 ·dsimp only;refine ae (ji P.obj P.data P.fits ?_);dsimp only;rw[ZH P.tab.nod];dsimp only;rw[if_pos P.tab.plain];refine ae (ZQ hb ?_);simp only[if_true];have hlen:=P.nf;have hmask:=P.tab.msk;have hroom:(kb.map λp=>hk prog w p.1).length+1<=t.mask:=by
   rw[ba]
   rcases hmask with q|q|q <;> (rw[q]at hlen ⊢;omega)
  have T2:=P.tab.put (h:=hk prog w k) (n:=n) hn hw hroom;have hbl:=(tS (j:=pr t.mask (hk prog w k) n) P.tab.rise).2.2;generalize hp:rq t.place (pr t.mask (hk prog w k) n)=p at T2 hbl ⊢;rw[ZS (b:=b)]at T2;have hesl:(jf es p (hk prog w k,gq b)).toList=gN prog w (kb.take p++(k,b)::kb.drop p):=by rw[tT _ _ _ (by rw[P.size,<-show t.place.size=kb.length from by have:=P.tab.size;simpa using this];exact hbl),P.es,ZR]
  have Bl:(jf es p (hk prog w k,gq b)).size=kb.length+1:=by have:=congrArg qj hesl;simp only[gN,ba,lb]at this;rw[this,(nY kb (k,b) p).length_eq];rfl
  refine ae (wpAny_storeSet_of P.obj P.data ?_ (by rw[Bl,ja];have:=h76 Bq;omega));have Cs:(kb.take p++(k,b)::kb.drop p).length=kb.length+1:=(nY kb (k,b) p).length_eq;have ho2:=K2 (s:=s) (es':=jf es p (hk prog w k,gq b)) (t':={ t with place:=jf t.place p (pr t.mask (hk prog w k) n) }) P.data P.obj;have fill:({ t with place:=jf t.place p (pr t.mask (hk prog w k) n) }:gu).tooFull=decide ((kb.length+1)*5>=t.mask*3):=by unfold SetTable.tooFull SetTable.fill;have e1:=T2.size;rw[ba,Cs]at e1;have e1':(jf t.place p (pr t.mask (hk prog w k) n)).size=kb.length+1:=e1;dsimp only;rw[P.tab.nod,e1'];rfl
  simp only[Bool.not_false,Bool.true_and];rw[fill];have fin:∀h' Cr,jc a (s.heap.update a (Obj.putSet (jf es p (hk prog w k,gq b)) { t with place:=jf t.place p (pr t.mask (hk prog w k) n) })) h'->kL prog w h' a Cr->
    Cr.Perm (kb.take p++(k,b)::kb.drop p)->Q true { s with heap:=h' }:=λh' Cr sb st pm=>
   h h' Cr true ((nr ..).trans sb) st (λq=>absurd q Bq) λ_=>pm.trans (nY kb (k,b) p)
  by_cases full:(kb.length+1)*5>=t.mask*3
  ·rw[decide_eq_true full,if_pos rfl];have h76':=h76 Bq;have hcase:(t.mask=7/\kb.length=4)∨(t.mask=31/\kb.length=18):=by
    rcases hmask with q|q|q
    ·left;rw[q]at hlen full;exact⟨q,by omega⟩
    ·right;rw[q]at hlen full;exact⟨q,by omega⟩
    ·rw[q]at full;omega
   have es0:es.size=kb.length:=P.size
   rcases hcase with⟨q1,q2⟩|⟨q1,q2⟩
   ·refine ae (K5 (mask':=31) (kb:=kb.take p++(k,b)::kb.drop p) ho2 P.ex rfl hesl T2 (CB P.nd Bq) P.led (by rw[es0,q2];decide) (.inr (.inl rfl)) (by rw[Cs,q2];decide) (by rw[es0,q2,ja];decide) λh' Cr sb st pm=>ai (fin h' Cr sb st pm))
   ·refine ae (K5 (mask':=127) (kb:=kb.take p++(k,b)::kb.drop p) ho2 P.ex rfl hesl T2 (CB P.nd Bq) P.led (by rw[es0,q2];decide) (.inr (.inr rfl)) (by rw[Cs,q2];decide) (by rw[es0,q2,ja];decide) λh' Cr sb st pm=>ai (fin h' Cr sb st pm))
  ·rw[decide_eq_false full,if_neg iz];refine ai (fin _ _ (sr ..) ⟨_,_,_,_,ho2,P.ex,rfl,hesl,T2,CB P.nd Bq, ?_,P.led⟩ (.refl _));rw[Cs];exact Nat.lt_of_not_le full
end
theorem Am.keep {prog:bh}{w:cp}{h h':da}{a:ah}{kb:KB}(S:kL prog w h a kb) (k:∀o,h.get? a=some o->h'.get? a=some o):kL prog w h' a kb:=by obtain⟨o,es,ep,t,P⟩:=S;exact⟨o,es,ep,t,k o P.obj,P.ex,P.data,P.es,P.tab,P.nd,P.nf,P.led⟩
theorem wY {prog:bh}{w:cp}{h h':da}{ks:zo}{a:ah}(x:gd (intKind prog w) h ks a) (k:∀o,h.get? a=some o->h'.get? a=some o):gd (intKind prog w) h' ks a:=by obtain⟨o,items,n,ho,r⟩:=x;exact⟨o,items,n,k o ho,r⟩
section
variable{prog:bh}{w:cp}{A:cn}{R:vt->ag->Prop}{I:ah}{fp wr:List ah}{n:Nat}{P:Nat->af->Prop}{St:Nat->da->Prop}
structure Upto (ky:Nat->zo) (ad:Nat->ah) (i:Nat) (kb:KB):Prop where
 from_:∀p∈kb,∃j,j<i/\p=(ky j,ad j)
 all:∀j,j<i->ky j∈kb.map dy
theorem ZU (W:Walks prog w A.in1 I fp wr n P St) (S:ah) (hSf:S∉fp) (ad:Nat->ah) (ky:Nat->zo) (hval:∀i v,P i v->v=.ref (ad i)) (hu:A.units+2<cLine)
  (U:zm) (hU:U.length<=76) (hky:∀i,i<n->ky i∈U) (hS:∀i,i<n->ad i≠S/\ad i∉wr):
  ∀(m i:Nat) (s:ag) (kb:KB),n - i=m->i<=n->St i s.heap->kL prog w s.heap S kb->Upto ky ad i kb->(∀j,j<n->gd (intKind prog w) s.heap (ky j) (ad j))->
   (∀h' tk Cr,(∀b o,b∉S::wr->s.heap.get? b=some o->h'.get? b=some o)->kL prog w h' S Cr->Upto ky ad n Cr->R (.ok (.ret .none)) { s with heap:=h',toks:=tk })->
   codeAny (model prog w) A (.builtin "set.update.loop" ⟨[.ref S,.ref I],[]⟩) R s:=by
 have hSw:S∉wr:=λh=>hSf (W.sub _ h);intro m
 induction m with
 |zero=>
  intro i s kb hk hi hst hT Cw Ct hR;have Bz:i=n:=by omega
  subst Bz;refine kq F.entry_set_update_loop ?_;rw[jo F.plain_set_update_loop _];show wpAny _ A.in1 (pyNext (.ref I) >>= _) _ _ s;refine ae (W.done s _ _ hst λh' tk hm=>?_);exact ai (hR h' tk kb (λb o hb e=>hm b o (λz=>hb (ao _ z)) e) (Am.keep hT λo e=>hm S o hSw e) Cw)
 |succ m ih=>
  intro i s kb hk hi hst hT Cw Ct hR;have hlt:i<n:=by omega
  refine kq F.entry_set_update_loop ?_;rw[jo F.plain_set_update_loop _];show wpAny _ A.in1 (pyNext (.ref I) >>= _) _ _ s;refine ae (W.item i s _ _ hlt hst λv h' tk hP hst' hm=>?_);have ev:=hval i v hP;subst ev;have hT':kL prog w h' S kb:=Am.keep hT λo e=>hm S o hSw e;have Cq:∀j,j<n->gd (intKind prog w) h' (ky j) (ad j):=λj hj=>wY (Ct j hj) λo e=>hm _ o (hS j hj).2 e;show wpAny _ A.in1 (holding [gq (ad i)] (setAdd S (.ref (ad i))) >>= _) _ _ _;refine ae (fz ?_);unfold setAdd;refine fz ?_;refine ae (wpAny_pyHash_tuple (s:={ s with heap:=h',toks:=tk }) (show A.in1.units<cLine by show A.units+1<cLine;omega) (Cq i hlt) ?_);obtain⟨o,es,ep,t,Pt⟩:=hT';have tups:wX prog w h' kb:=λp hp=>by obtain⟨j,hj,rfl⟩:=Cw.from_ p hp;exact Cq j (by omega)
  have hsub:∀x∈kb.map dy,x∈U:=λx hx=>by obtain⟨p,hp,rfl⟩:=bo.mp hx;obtain⟨j,hj,rfl⟩:=Cw.from_ p hp;exact hky j (by omega)
  refine ZT (s:={ s with heap:=h',toks:=tk+((ky i).length+1) }) (a:=S) (k:=ky i) (b:=ad i) Pt tups (Cq i hlt) (by show A.units+1<cLine;omega) (λBq=>?_) λh2 kb2 r sb hT2 q1 q2=>?_
  ·have nd:(ky i::kb.map dy).Nodup:=iq.mpr ⟨Bq,Pt.nd⟩;have:=nd.length_le_of_subset (l₂:=U) λx hx=>by
    rcases aw.mp hx with rfl|hx
    ·exact hky i hlt
    ·exact hsub x hx
   simp at this;omega
  ·have hup2:Upto ky ad (i+1) kb2:=by
    by_cases Bz:ky i∈kb.map dy
    ·have pm:=q1 Bz;refine⟨λp hp=>?_,λj hj=>?_⟩
     ·obtain⟨j,hj,e⟩:=Cw.from_ p (pm.mem_iff.mp hp);exact⟨j,by omega,e⟩
     ·rw[(pm.map dy).mem_iff]
      rcases je j i with z|z
      ·exact Cw.all j z
      ·have:j=i:=by omega
       subst this;exact Bz
    ·have pm:=q2 Bz;refine⟨λp hp=>?_,λj hj=>?_⟩
     ·rcases aw.mp (pm.mem_iff.mp hp)with z|z
      ·exact⟨i,by omega,z⟩
      ·obtain⟨j,hj,e⟩:=Cw.from_ p z;exact⟨j,by omega,e⟩
     ·rw[(pm.map dy).mem_iff,df,aw]
      rcases je j i with z|z
      ·exact .inr (Cw.all j z)
      ·have:j=i:=by omega
       subst this;exact .inl rfl
   refine ai ⟨vm F.plain_set_update_loop _,ih (i+1) _ kb2 (by omega) hlt (W.frame _ _ _ hst' λb hb o e=>?_) hT2 hup2 (λj hj=>?_) λh3 tk3 kb3 k3 hT3 hup3=>?_⟩
   ·rw[sb.2 b (λz:b=S=>hSf (by rw[<-z];exact hb))];exact e
   ·exact wY (Cq j hj) λo e=>(sb.2 _ (hS j hj).1).trans e
   ·refine hR h3 tk3 kb3 (λb o hb e=>k3 b o hb ?_) hT3 hup3;exact(sb.2 b λz=>hb (by rw[z];exact ax)).trans (hm b o (λz=>hb (ao _ z)) e)
end
theorem walk_slots:Slot "set" "__iter__" "set.__iter__"/\Slot "set_iterator" "__next__" "set_iterator.__next__"/\Slot "set_iterator" "__iter__" "set_iterator.__iter__"/\Slot "set" "__len__" "set.__len__":=by
 refine⟨Slot.of (owner := "set") (n := "__iter__") ?_ ?_ ?_ ?_ ?_ ?_,Slot.of (owner := "set_iterator") (n := "__next__") ?_ ?_ ?_ ?_ ?_ ?_,Slot.of (owner := "set_iterator") (n := "__iter__") ?_ ?_ ?_ ?_ ?_ ?_,Slot.of (owner := "set") (n := "__len__") ?_ ?_ ?_ ?_ ?_ ?_⟩
 all_goals first
  |decide +kernel
  |(rw[typeLookup_type,builtinLookup_eq_fast];kernel_rfl)
  |(rw[isSubtype_type];kernel_rfl)
  |(left;decide +kernel)
  |(right;decide +kernel)
theorem wZ (a:af):argsOk "set.__iter__" ⟨[a],[]⟩/\argsOk "set_iterator.__next__" ⟨[a],[]⟩/\argsOk "set_iterator.__iter__" ⟨[a],[]⟩:=by refine⟨?_, ?_, ?_⟩ <;> unfold argsOk <;> kernel_rfl
theorem K6:entryFor table "set_iterator.__next__" = some kz.«set_iterator.__next__»:=entryFor_of_fast (by kernel_rfl)
theorem ZV:entryFor table "set.__iter__" = some kz.«frozenset.__iter__»:=entryFor_alias (id' := "frozenset.__iter__") (by kernel_rfl) rfl (by decide +kernel) (by kernel_rfl)
theorem ZW:entryFor table "set_iterator.__iter__" = some kz.«dict_keyiterator.__iter__»:=entryFor_alias (id' := "dict_keyiterator.__iter__") (by kernel_rfl) rfl (by decide +kernel) (by kernel_rfl)
theorem erase_perm {α:Type}:∀(l:List α) (i:Nat) (h:i<l.length),(l[i]::l.eraseIdx i).Perm l
 | [],_,h=>absurd h (by simp)
 |x::r,0,_=>.refl _
 |x::r,i+1,h=>by have ih:=erase_perm r i (by simpa using h);show((r[i]'(by simpa using h))::x::r.eraseIdx i).Perm (x::r);exact(vf _ _ _).trans (ih.cons x)
theorem K7 {α:Type}(next:Nat->Nat):∀(fuel k:Nat) (l:List α) (out:Array α),l.length<=fuel->(xa next fuel k l out).toList.Perm (out.toList++l)
 |0,k,l,out,h=>by have:l=[]:=my.mp (by omega);subst this;rw[xa];simp
 |fuel+1,k,l,out,h=>by
  rw[xa]
  cases l with
  |nil=>simp
  |cons x r=>have hlt:next k % (x::r).length<(x::r).length:=Nat.mod_lt _ (by simp);rw[br hlt];dsimp only;refine(K7 next fuel (k+1) _ _ (by rw[xg hlt];omega)).trans ?_;rw[Array.toList_push,uv];refine xh _ ?_;exact erase_perm _ _ hlt
theorem ZX {α:Type}(next:Nat->Nat) (xs:Array α):(pickOrder next xs).toList.Perm xs.toList:=by unfold pickOrder;have:=K7 next xs.size 0 xs.toList #[] (by simp);simpa using this
section
variable{prog:bh}{w:cp}
def iM (w:cp) (a:ah) (ep:Nat) (es:Array (Int×af)):Array (Int×af):=if w.params.followText "set-order" then pickOrder (w.params.setOrder a ep) es else es
theorem K8 (w:cp) (a:ah) (ep:Nat) (es:Array (Int×af)):(iM w a ep es).toList.Perm es.toList:=by
 unfold iM
 split
 ·exact ZX _ _
 ·exact .refl _
theorem xA (w:cp) (a:ah) (ep:Nat) (es:Array (Int×af)):(iM w a ep es).size=es.size:=by simpa using(K8 w a ep es).length_eq
def gO (w:cp) (t:gu) (i:Nat):Nat:=if w.params.followText "set-order" then 0 else match i with|0=>0|j+1=>t.place.getD j 0+1
def jU (a:ah) (slot i n ep:Nat):Obj:={ cls:=.type "set_iterator",data:=.fields #[rawInt slot,rawInt i,.ref a,rawInt n,rawInt ep] }
theorem ZY {t:gu}{hs:zo}(T:Cg t hs) (hb:w.params.followText "set-order" = false) {i:Nat}(hi:i<=t.place.size):rq t.place (gO w t i)=i:=by
 obtain⟨h1,h2,h3⟩:=tS (j:=gO w t i) T.rise;have mono:∀a b (ha:a<t.place.size) (hb:b<t.place.size),a<b->t.place[a]<t.place[b]:=by intro a b ha hb Ck;have:=gm.mp T.rise a b (by simpa using ha) (by simpa using hb) Ck;simpa using this
 unfold gO at h1 h2 h3 ⊢;rw[hb]at h1 h2 h3 ⊢;simp only[cu,if_false]at h1 h2 h3 ⊢
 cases i with
 |zero=>
  dsimp only at h1 h2 h3 ⊢;generalize rq t.place 0=r at h1 h2 h3 ⊢
  cases r with
  |zero=>rfl
  |succ r=>have:=h1 r (by omega) (by omega);omega
 |succ j=>
  dsimp only at h1 h2 h3 ⊢;have hj:j<t.place.size:=by omega
  have ej:t.place.getD j 0=t.place[j]:=by simp[ka,hj]
  rw[ej]at h1 h2 h3 ⊢;generalize rq t.place (t.place[j]+1)=r at h1 h2 h3 ⊢
  rcases Nat.lt_trichotomy r (j+1)with q|q|q
  ·have:=h2 j hj (by omega);omega
  ·exact q
  ·have:=h1 (j+1) (by omega) q;have:=mono j (j+1) hj (by omega) (by omega);omega
end
section
variable{prog:bh}{w:cp}{A:cn}{E:af->ag->Prop}{s:ag}{a it:ah}{kb:KB}{o:Obj}{es:Array (Int×af)}{ep:Nat}{t:gu}
theorem ZZ {Q:Bool->ag->Prop}(P:Am prog w s.heap a kb o es ep t) (h:Q false s):wpAny (model prog w) A (setDrawn a) Q E s:=by
 unfold setDrawn setsByText;refine ae (ji P.obj P.data P.fits ?_);dsimp only;refine ae (ae (mm (ai ?_)));have e:(!(w.params.followText "set-order")&&((!t.plain)&&decide (es.size>1)))=false:=by rw[P.tab.plain];simp
 show wpAny _ _ (pure (!(w.params.followText "set-order")&&((!t.plain)&&decide (es.size>1)))) _ _ s;rw[e];exact ai h
theorem Z0 {Q:af->ag->Prop}(P:Am prog w s.heap a kb o es ep t) (h:Q (.ref s.heap.objs.size) { s with heap:=s.heap.push (jU a 0 0 es.size ep) }):
  wpAny (model prog w) A (pyIter (.ref a)) Q E s:=by
 have hT:s.TypeIs (.ref a) "set" := ⟨o,P.obj,P.ex.1⟩;refine wpAny_pyIter_slot hT walk_slots.1 (gc walk_slots.1 hT ZV ?_ (wZ _).1);unfold kz.«frozenset.__iter__» Builtin.Frozenset.slot0;refine ae (m:=(do Builtin.Frozenset.addrOf (<-slotArgs "__iter__" 0 ⟨[.ref a],[]⟩).1:Sem ah)) (ai ?_);unfold Builtin.Frozenset.sizeOf;refine ae (ae (vg P.obj P.data P.fits (ai ?_)));refine ae (ZZ P ?_);simp only[cu,if_false];refine ae (ai ?_);refine ae (wpAny_setEpoch_of P.obj P.data P.fits ?_);refine ae (fg ?_ (by size_fits));refine ai ⟨_,rfl,"set_iterator",_,⟨_,az _ rfl,rfl⟩,walk_slots.2.1.lookup,h⟩
end
section
variable{prog:bh}{w:cp}{A:cn}{E:af->ag->Prop}{s:ag}{a it:ah}{kb:KB}{o:Obj}{es:Array (Int×af)}{ep:Nat}{t:gu}
theorem K9 {i:Nat}{Q:Option (af×Nat)->ag->Prop}(P:Am prog w s.heap a kb o es ep t) (hi:i<=es.size)
  (h:Q (((iM w a ep es)[i]?).map λe=>(e.2,gO w t (i+1))) s):wpAny (model prog w) A (setNext a (gO w t i) i ep) Q E s:=by
 unfold setNext setsByText;refine ae (ji P.obj P.data P.fits ?_);dsimp only;refine ae (ae (mm (ai ?_)));have hps:t.place.size=es.size:=by have:=P.tab.size;rw[P.size];simpa using this
 show wpAny _ _ (if w.params.followText "set-order" = true then _ else _) _ _ s
 by_cases hb:w.params.followText "set-order" = true
 ·rw[if_pos hb,if_neg (by simp)];refine ae ?_;unfold setWalk setsByText;refine ae (ji P.obj P.data P.fits ?_);dsimp only;refine ae (ae (mm (ai ?_)));show wpAny _ _ (if w.params.followText "set-order" = true then _ else _) _ _ s;rw[if_pos hb];refine ae (mm (ai (ai ?_)));unfold iM gO at h;unfold gO;rw[if_pos hb]at h ⊢;rw[if_pos hb]at h;exact h
 ·have hb':w.params.followText "set-order" = false:=by simpa using hb
  rw[if_neg hb];have hl:t.led=true:=by rw[P.led,hb'];rfl
  have hd:((!t.plain)&&decide (es.size>1))=false:=by rw[P.tab.plain];rfl
  show wpAny _ _ (if((!t.plain)&&decide (es.size>1))=true then _ else _) _ _ s;rw[hd];simp only[cu,if_false];show wpAny _ _ ((if((!t.led)&&!es.isEmpty)=true then _ else _) >>= _) _ _ s;rw[hl];simp only[om,Bool.false_and,cu,if_false];refine ae (ai ?_);have hbl:=ZY (w:=w) P.tab hb' (i:=i) (by omega);rw[hbl];unfold iM at h;rw[if_neg hb]at h;refine ai ?_
  by_cases hlt:i<es.size
  ·have e1:es[i]?=some es[i]:=fj hlt;have e2:t.place[i]?=some t.place[i]:=fj (by omega);rw[e1]at h;rw[e1,e2];have e3:gO w t (i+1)=t.place[i]+1:=by unfold gO;rw[if_neg hb];simp[ka,show i<t.place.size by omega]
   rw[e3]at h;exact h
  ·have e1:es[i]?=none:=rj (by omega);rw[e1]at h ⊢;exact h
theorem Z1 {i:Nat}{x:Int×af}{Q:Option af->ag->Prop}(P:Am prog w s.heap a kb o es ep t) (hit:s.heap.get? it=some (jU a (gO w t i) i es.size ep)) (hx:(iM w a ep es)[i]?=some x)
  (hQ:∀h',h'.get? it=some (jU a (gO w t (i+1)) (i+1) es.size ep)->jc it s.heap h'->Q (some x.2) { s with heap:=h' }):wpAny (model prog w) A (pyNext (.ref it)) Q E s:=by
 have hT:s.TypeIs (.ref it) "set_iterator" := ⟨_,hit,rfl⟩;have hlt:i<es.size:=by rw[<-xA w a ep es];exact(dw.mp hx).1
 unfold pyNext;refine ae (vk (gh (name:=lg "__next__") hT walk_slots.2.1 (gc walk_slots.2.1 hT K6 ?_ (wZ _).2.1)));unfold kz.«set_iterator.__next__»;refine ae (m:=slotArgs "__next__" 0 ⟨[.ref it],[]⟩) (ai ?_);refine ae (wpAny_fieldsOf hit rfl ?_);dsimp only;show wpAny _ _ (setEntries a >>= _) _ _ s;refine ae (vg P.obj P.data P.fits ?_);rw[if_neg (by simp)];show wpAny _ _ (setNext a ((gO w t i:Nat):Int).toNat ((i:Nat):Int).toNat ((ep:Nat):Int).toNat >>= _) _ _ s;rw[gb,gb,gb];refine ae (K9 P (ij hlt) ?_);rw[hx];show wpAny _ _ (setField (.ref it) 0 (rawInt ((gO w t (i+1):Nat):Int)) >>= _) _ _ s;refine ae (jg hit (by simp) λh1 g1 b1=>?_);refine ae (jg g1 (by simp) λh2 g2 b2=>?_);refine ai ⟨_,rfl,ai (hQ h2 ?_ (b1.trans b2))⟩;rw[g2];rfl
theorem Z2 {i:Nat}{Q:Option af->ag->Prop}(hh:A.handled=none) (P:Am prog w s.heap a kb o es ep t) (hit:s.heap.get? it=some (jU a (gO w t i) i es.size ep)) (hi:i=es.size)
  (hQ:∀h',yz it s.heap h'->Q none { s with heap:=h' }):wpAny (model prog w) A (pyNext (.ref it)) Q E s:=by
 have hT:s.TypeIs (.ref it) "set_iterator" := ⟨_,hit,rfl⟩;unfold pyNext;refine ae (vk (gh (name:=lg "__next__") hT walk_slots.2.1 (gc walk_slots.2.1 hT K6 ?_ (wZ _).2.1)));unfold kz.«set_iterator.__next__»;refine ae (m:=slotArgs "__next__" 0 ⟨[.ref it],[]⟩) (ai ?_);refine ae (wpAny_fieldsOf hit rfl ?_);dsimp only;show wpAny _ _ (setEntries a >>= _) _ _ s;refine ae (vg P.obj P.data P.fits ?_);rw[if_neg (by simp)];show wpAny _ _ (setNext a ((gO w t i:Nat):Int).toNat ((i:Nat):Int).toNat ((ep:Nat):Int).toNat >>= _) _ _ s;rw[gb,gb,gb];refine ae (K9 P (sh hi) ?_);rw[rj (by rw[xA];omega)];show wpAny _ _ (setField (.ref it) 2 jk >>= _) _ _ s;refine ae (jg hit (by simp) λh1 g1 b1=>?_);show wpAny _ _ (newExc (.type "StopIteration") [] >>= _) _ _ _;refine ae ?_;simp only[newExc,newTuple];refine ae (fg ?_ (by size_fits));refine ae (m:=firstArgMember _ _) (rn (a:=jk) (by first|rfl|(simp only[firstArgMember];rfl)) ?_);refine fg ?_ (by size_fits);simp only[raiseNew];refine ae (wpAny_handled ?_);rw[show A.in1.handled=none from hh];refine ae (ai (wpAny_throw ?_));refine ae (xo (T := "StopIteration") (b:=true) ⟨_,az _ rfl,rfl⟩ isSubtype_stop ?_);exact ai (hQ _ ((b1.extBut.push _).push _))
end
section
variable{prog:bh}{w:cp}{A:cn}{E:af->ag->Prop}{s:ag}{a:ah}{kb:KB}{o:Obj}{es:Array (Int×af)}{ep:Nat}{t:gu}
theorem Am.at' {h h':da}(P:Am prog w h a kb o es ep t) (k:h'.get? a=some o):Am prog w h' a kb o es ep t:=⟨k,P.ex,P.data,P.es,P.tab,P.nd,P.nf,P.led⟩
theorem Z3 (hh:A.handled=none) (I:ah) (hne:a≠I):
  Walks prog w A I [I,a] [I] es.size (λi v=>∃x,(iM w a ep es)[i]?=some x/\v=x.2) (λi h=>Am prog w h a kb o es ep t/\h.get? I=some (jU a (gO w t i) i es.size ep)) where
 sub:=λb hb=>by rw[cg.mp hb];exact ax ..
 frame:=λi h h' ⟨p,q⟩ k=>⟨p.at' (k a (by simp) _ p.obj),k I (by simp) _ q⟩
 item:=λi s Q E hi ⟨p,q⟩ hQ=>by
  have hi':i<(iM w a ep es).size:=by rw[xA];exact hi
  have hx:(iM w a ep es)[i]?=some (iM w a ep es)[i]:=fj hi';refine Z1 p q hx λh' q' sb=>hQ _ h' s.toks ⟨_,hx,rfl⟩ ⟨p.at' ((sb.2 a hne).trans p.obj),q'⟩ λb o hb e=>?_;exact(sb.2 b λz=>hb (by rw[z];exact ax ..)).trans e
 done:=λs Q E ⟨p,q⟩ hQ=>Z2 hh p q rfl λh' x=>hQ h' s.toks λb o hb e=>x b o (λz=>hb (by rw[z];exact ax ..)) e
 self:=λi s Q E ⟨_,q⟩ hQ=>by have hT:s.TypeIs (.ref I) "set_iterator" := ⟨_,q,rfl⟩;refine wpAny_pyIter_slot hT walk_slots.2.2.1 (gc walk_slots.2.2.1 hT ZW ?_ (wZ _).2.2);exact ai ⟨_,rfl,"set_iterator",_,⟨_,q,rfl⟩,walk_slots.2.1.lookup,hQ⟩
theorem Z4 {S:ah}{n:Nat}{Q:Unit->ag->Prop}(h:s.heap.get? S=some (seqObj "list" #[] n)) (q:∀h' c,h'.get? S=some (seqObj "list" #[] c)->(∀b o,b≠S->s.heap.get? b=some o->h'.get? b=some o)->Q () { s with heap:=h' }):
  wpAny (model prog w) A (vn (.ref S)) Q E s:=by
 unfold vn;refine ae (vp h rfl ?_);have h1:=ub h (λx=>x.push jk);refine vp h1 rfl ?_;have h2:=ub h1 (λx=>x.pop);refine q _ _ h2 λb o hb e=>?_;rw[ll _ _ _ _ hb,ll _ _ _ _ hb];exact e
theorem Z5 {Q:List af->ag->Prop}(hh:A.handled=none) (P:Am prog w s.heap a kb o es ep t) (hn:es.size<=cf)
  (q:∀(h':da) (tk:Nat),(∀b o,s.heap.get? b=some o->h'.get? b=some o)->s.heap.objs.size<=h'.objs.size->Q ((iM w a ep es).toList.map (·.2)) { s with heap:=h',toks:=tk }):wpAny (model prog w) A (collect (.ref a)) Q E s:=by
 have la:a<s.heap.objs.size:=av P.obj;have up1:∀b o,s.heap.get? b=some o->(s.heap.push (seqObj "list" #[] 0)).get? b=some o:=λb o e=>aj _ e;have hS1:(s.heap.push (seqObj "list" #[] 0)).get? s.heap.objs.size=some (seqObj "list" #[] 0):=az _ rfl;have P1:Am prog w (s.heap.push (seqObj "list" #[] 0)) a kb o es ep t:=P.at' (up1 a o P.obj);have hT1:nv { s with heap:=s.heap.push (seqObj "list" #[] 0) } (.ref a) "set" := ⟨o,P1.obj,P1.ex.1⟩;unfold collect;refine ae (yr (kq entry_proto_collect' ?_));rw[jo F.plain_proto_collect _];refine ae (m:=newList []) (zk (ai ⟨Code.quiet_builtin _ (by decide +kernel),kq entry_list_iadd' ?_⟩));rw[jo F.plain_list_iadd _];show wpAny _ A.in1 (uj (.ref s.heap.objs.size) (.ref a) (.ref s.heap.objs.size)) _ _ { s with heap:=s.heap.push (seqObj "list" #[] 0) };unfold uj;refine ae (ql hT1 ?_);have ne:uw (.ref s.heap.objs.size) (.ref a)=false:=by simp[uw,jd la]
 rw[if_neg (by rw[ne];decide)];refine ae (Z0 P1 ?_);have sz:(s.heap.push (seqObj "list" #[] 0)).objs.size=s.heap.objs.size+1:=tq _ _;rw[sz];have up2:∀b o,(s.heap.push (seqObj "list" #[] 0)).get? b=some o->((s.heap.push (seqObj "list" #[] 0)).push (jU a 0 0 es.size ep)).get? b=some o:=λb o e=>aj _ e;have P2:Am prog w ((s.heap.push (seqObj "list" #[] 0)).push (jU a 0 0 es.size ep)) a kb o es ep t:=P1.at' (up2 a o P1.obj);have hT2:nv { s with heap:=(s.heap.push (seqObj "list" #[] 0)).push (jU a 0 0 es.size ep) } (.ref a) "set" := ⟨o,P2.obj,P2.ex.1⟩;have hI2:((s.heap.push (seqObj "list" #[] 0)).push (jU a 0 0 es.size ep)).get? (s.heap.objs.size+1)=some (jU a 0 0 es.size ep):=by rw[<-sz];exact az _ rfl
 refine ae (fz ?_);unfold Builtin.List.listLengthHint;refine ae (wpAny_specialOf hT2 walk_slots.2.2.2.lookup ?_);have spl:splitId "set.__len__" = some ("set","__len__"):=by decide +kernel
 dsimp only;rw[spl];dsimp only;refine ae (xo (b:=true) hT2 sub_set_self ?_);rw[if_neg (by decide),if_pos (by decide +kernel)];refine ae (ql hT2 (ai ?_));rw[if_pos (by decide +kernel)];refine ae (ph ?_);refine ae (Z4 (s:={ s with heap:=(s.heap.push (seqObj "list" #[] 0)).push (jU a 0 0 es.size ep) }) (up2 _ _ hS1) λh3 c hS3 up3=>?_);have neS:∀b o,s.heap.get? b=some o->b≠s.heap.objs.size:=λb o e=>bf (av e);have P3:Am prog w h3 a kb o es ep t:=P2.at' (up3 a o (bf la) P2.obj);have hI3:h3.get? (s.heap.objs.size+1)=some (jU a 0 0 es.size ep):=up3 _ _ (lj _) hI2;have hz:gO w t 0=0:=by unfold gO;split <;> rfl
 have hh2:A.in1.handled=none:=by simp[hh]
 have nin:s.heap.objs.size∉[s.heap.objs.size+1,a]:=λm=>by
  rcases aw.mp m with e|m
  ·exact lj _ e.symm
  ·exact jd la (cg.mp m)
 refine ai ⟨vm F.plain_extend_loop _,codeAny_extend_loopS (A:=A) ((Z3 (kb:=kb) (o:=o) (t:=t) (ep:=ep) (es:=es) hh2 (s.heap.objs.size+1) (a:=a) (bf (gr la))).toS) hn s.heap.objs.size nin _ es.size 0 { s with heap:=h3 } #[] c rfl (iu _)
  ⟨P3,by rw[hz];exact hI3⟩ hS3 (ItemsOf.nil _) λs' acc c' mv hS' ia=>?_⟩
 have eacc:acc.toList=(iM w a ep es).toList.map (·.2):=by
  apply ux
  intro i;rw[nt,fw,nt]
  cases q:acc[i]? with
  |some v=>obtain⟨x,h1,h2⟩:=ia.2 i v q;rw[h1,h2];rfl
  |none=>have h1:acc.size<=i:=Array.getElem?_eq_none_iff.mp q;rw[rj (by rw[xA,<-ia.1];exact h1)];rfl
 obtain⟨hp,gs,dr,tk,os⟩:=s';have e1:gs=s.gens:=mv.gens;have e2:dr=s.drawn:=mv.drawn;have e3:os=s.os:=mv.os;subst e1;subst e2;subst e3;show wpAny _ A (load s.heap.objs.size >>= _) _ _ _;refine ae (wpAny_load hS' (ai ?_));rw[eacc];refine q hp tk (λb o e=>mv.heap b o (λm=>?_) (up3 b o (neS b o e) (up2 b o (up1 b o e)))) (ij (av hS'))
 rcases aw.mp m with z|m
 ·exact neS b o e z
 ·exact bf (gr (av e)) (cg.mp m)
end
open PySem.W SoM L2
section
variable{prog:bh}{w:cp}{A:cn}{E:af->ag->Prop}{s:ag}
theorem LA {fin:Bool}{Q:Bool->ag->Prop}:∀{kx ky:zo}{vx vy:List af}(i:Nat),ItemsAre (intKind prog w) kx vx->ItemsAre (intKind prog w) ky vy->fin=decide (vx.length<vy.length)->Q (cW kx ky) s->KatLex prog w A true fin Q (vx.zip vy) i s
 |_,_,_,_,i,.nil,.nil,hf,h=>by subst hf;exact kat_nil h
 |_,_,_,_,i,.nil,.cons _ _,hf,h=>by subst hf;refine kat_nil ?_;rw[decide_eq_true (by simp)];exact h
 |_,_,_,_,i,.cons _ _,.nil,hf,h=>by subst hf;refine kat_nil ?_;rw[decide_eq_false (by simp)];exact h
 |_,_,_,_,i,.cons (k:=a) hu hx,.cons (k:=b) hv hy,hf,h=>by
  obtain⟨t,rfl⟩:=nc hu;obtain⟨t',rfl⟩:=nc hv;refine kat_cons (xj (kat_go (λe=>?_) λe=>?_))
  ·refine kat_yes (LA (i+1) hx hy (hf.trans (by simp)) ?_);rw[cW,if_pos e]at h;exact h
  ·have h':Q (decide (a<b)) s:=by rw[cW,if_neg (by rw[e];simp)]at h;exact h
   refine kat_no ?_
   cases q:i==0 with
   |true=>exact oneLt_int h'
   |false=>exact kat_one _ _ (wu h')
theorem Z6 {x y:ah}{kx ky:zo}{Q:Bool->ag->Prop}(hx:gd (intKind prog w) s.heap kx x) (hy:gd (intKind prog w) s.heap ky y) (h:Q (cW kx ky) s):wpAny (model prog w) A (keyLt' (tuples' true) (.ref x) (.ref y)) Q E s:=by obtain⟨ox,ix,nx,e1,_,d1,i1⟩:=hx;obtain⟨oy,iy,ny,e2,_,d2,i2⟩:=hy;exact kat_lt e1 d1 e2 d2 (LA 0 i1 i2 (by simp) h)
def Bh (prog:bh) (w:cp) (h:da) (n:Nat) (ad:Nat->ah) (ky:Nat->zo):Prop:=∀i,i<n->gd (intKind prog w) h (ky i) (ad i)/\ky i≠[]
def bV (n:Nat) (ad:Nat->ah):List af:=(ay n).map λi=>.ref (ad i)
theorem jV (n:Nat) (ad:Nat->ah):(bV n ad).length=n:=by simp[bV]
theorem CC {n:Nat}{ad:Nat->ah}{i:Nat}(h:i<n):(bV n ad).getD i jk=.ref (ad i):=by simp[bV,h]
theorem LB:∀(l:zq) {ad:Nat->ah}{ky:Nat->zo},(∀i∈l,gd (intKind prog w) s.heap (ky i) (ad i)/\ky i≠[])->∃fs:List af,KatTups s.heap (l.map λi=>.ref (ad i)) fs/\fs.length=l.length/\∀v∈fs,∃a t,v=.int a t
 | [],_,_,_=>⟨[],trivial,rfl,by simp⟩
 |i::l,ad,ky,h=>by
  obtain⟨fs,t,hl,hv⟩:=LB l (ad:=ad) (ky:=ky) λj hj=>h j (ao _ hj);obtain⟨⟨o,its,n,e,c,d,r⟩,ne⟩:=h i (ax ..)
  cases q:its.toList with
  |nil=>rw[q]at r;cases hk:ky i with
   |nil=>exact absurd hk ne
   |cons a b=>rw[hk]at r;cases r
  |cons v vs=>
   rw[q]at r
   cases hk:ky i with
   |nil=>exact absurd hk ne
   |cons a b=>
    rw[hk]at r
    cases r with
    |cons hu _=>
     obtain⟨tk,rfl⟩:=nc hu;refine⟨.int a tk::fs,KatTups.cons e c d (by rw[<-nt,q];rfl) t,by simp[hl],λv hv'=>?_⟩
     rcases aw.mp hv' with rfl|hv'
     ·exact⟨_,_,rfl⟩
     ·exact hv v hv'
theorem Z7 {n:Nat}{ad:Nat->ah}{ky:Nat->zo}{G:Array Nat->ag->Prop}(h2:2<=n) (hk:Bh prog w s.heap n ad ky)
  (h:∀p,Ent n p->eX cW (p.toList.map ky)->G p s):
  wpAny (model prog w) A (keyKind' (bV n ad).toArray) (λκ s'=>(kas_sort (bV n ad).length).kasWp (kas_ask prog w A κ (bV n ad)) G s') (λ_ _=>False) s:=by
 obtain⟨fs,t,hl,hv⟩:=LB (prog:=prog) (w:=w) (s:=s) (ay n) (ad:=ad) (ky:=ky) λi hi=>hk i (bu.mp hi);refine kat_kind (T:=.type "int") t (by rw[hl,kj];omega) (λv hv'=>?_) (by decide) ?_
 ·obtain⟨a,tk,rfl⟩:=hv v hv';exact .now
 ·rw[jV]
  let ks:=(ay n).map ky
  have mem:∀i,i<n->ky i∈ks:=λi hi=>bo.mpr ⟨i,bu.mpr hi,rfl⟩;refine JY (n:=n) (f:=λi=>rk cW ks (ky i)) (I:=λs'=>s'=s) (λi j C s' hs hi hj hC=>?_) (kas_sort n) (λp=>Ent n p/\eX cW (p.toList.map ky)) G s s (YY (by omega) λp e inc=>⟨e, ?_⟩) rfl λp s' hp hs=>by subst hs;exact h p hp.1 hp.2
  ·subst hs;show wpAny (model prog w) A (keyLt' (tuples' true) ((bV n ad).getD i jk) ((bV n ad).getD j jk)) C (λ_ _=>False) s';rw[CC hi,CC hj];refine Z6 (hk i hi).1 (hk j hj).1 ?_;have:=hC s' rfl;rwa [J4 B' (mem i hi)]at this
  ·refine gm.mpr λi j hi hj Bo=>?_;have hj':j<p.size:=by simpa using hj
   have hi':i<p.size:=by omega
   have z:=inc i j (ij Bo) (by rw[<-e.1];exact hj');unfold SoM.F at z;have ei:p.getD i 0=p[i]:=by simp[ka,hi']
   have ej:p.getD j 0=p[j]:=by simp[ka,hj']
   rw[ei,ej]at z;have lt:∀k (hk:k<p.size),p[k]<n:=λk hk=>bu.mp (e.2.mem_iff.mp (by simp));have:=Y1 B' (mem _ (lt j hj')) z;simpa using this
end
section
variable{prog:bh}{w:cp}{A:cn}{E:af->ag->Prop}{s:ag}
abbrev xB (h h':da):Prop:=∀b o,h.get? b=some o->h'.get? b=some o
def Cb (n:Nat) (ad:Nat->ah) (ky:Nat->zo) (out:List af):Prop:=∃p:zq,p.Perm (ay n)/\eX cW (p.map ky)/\out=p.map λi=>.ref (ad i)
theorem Cb.len {n:Nat}{ad:Nat->ah}{ky:Nat->zo}{out:List af}(h:Cb n ad ky out):out.length=n:=by obtain⟨p,pp,_,e⟩:=h;rw[e,ba,pp.length_eq,kj]
theorem Bh.keep {h h':da}{n:Nat}{ad:Nat->ah}{ky:Nat->zo}(k:Bh prog w h n ad ky) (g:∀i,i<n->∀o,h.get? (ad i)=some o->h'.get? (ad i)=some o):Bh prog w h' n ad ky:=λi hi=>⟨wY (k i hi).1 (g i hi),(k i hi).2⟩
theorem Z8 {a:ah}{n c:Nat}{ad:Nat->ah}{ky:Nat->zo}{P:Fin->ag->Prop}(ho:s.heap.get? a=some (seqObj "list" (bV n ad).toArray c)) (h64:n<64) (hk:Bh prog w s.heap n ad ky)
  (q:∀h' e out,Cb n ad ky out->h'.get? a=some (seqObj "list" out.toArray e)->(∀b o,b≠a->s.heap.get? b=some o->h'.get? b=some o)->P (.done (.ret .none)) { s with heap:=h' }):
  wpAny (model prog w) A (kz.«list.sort» ⟨[.ref a],[]⟩) P E s:=by
 have la:a<s.heap.objs.size:=av ho;obtain⟨e1,g1⟩:∃e1,(s.heap.update a (mw λ_=>(#[]:Array af))).get? a=some (seqObj "list" #[] e1):=⟨_,ub ho λ_=>#[]⟩
 have k1:∀b o,b≠a->s.heap.get? b=some o->(s.heap.update a (mw λ_=>(#[]:Array af))).get? b=some o:=λb o hb e=>by rw[ll _ _ _ _ hb];exact e
 generalize hH1:s.heap.update a (mw λ_=>(#[]:Array af))=H1 at g1 k1;have k3:xB H1 ((H1.push (seqObj "tuple" (bV n ad).toArray 0)).push (seqObj "list" #[] 0)):=λb o e=>aj _ (aj _ e);have ne:∀i,i<n->ad i≠a:=λi hi e=>by obtain⟨⟨o,its,m,e1,c1,_⟩,_⟩:=hk i hi;rw[e,ho]at e1;cases e1;exact absurd (Value.type.inj c1) (by decide)
 have K3:Bh prog w ((H1.push (seqObj "tuple" (bV n ad).toArray 0)).push (seqObj "list" #[] 0)) n ad ky:=hk.keep λi hi o e=>k3 _ o (k1 _ o (ne i hi) e);have g3:=k3 a _ g1;have kk:∀b o,b≠a->s.heap.get? b=some o->((H1.push (seqObj "tuple" (bV n ad).toArray 0)).push (seqObj "list" #[] 0)).get? b=some o:=λb o hb e=>k3 b o (k1 b o hb e);have sl:n<=cf:=by rw[ja];omega
 have fin:∀(out:List af),Cb n ad ky out->wpAny (model prog w) A (do
   let touched:=(<-seqEpoch a) != e1
   Builtin.List.listUpdate (.ref a) λ_=>out.toArray
   if let some e:=(none:Option af)then rule "list.sort.comparison-raised"; throw e
   if touched then rule "list.sort.modified"; raiseError "ValueError" "list modified during sort"
   ret .none) P E { s with heap:=(H1.push (seqObj "tuple" (bV n ad).toArray 0)).push (seqObj "list" #[] 0) }:=λout ho'=>by
  refine ae (seqEpoch_at g3 rfl ?_);refine ae (vp g3 rfl ?_ (iu _) (by rw[au,ho'.len];omega));simp only[bne_self_eq_false,cu,if_false];exact ai (q _ _ out ho' (ub g3 λ_=>out.toArray) λb o hb e=>by rw[ll _ _ _ _ hb];exact kk b o hb e)
 generalize hH3:(H1.push (seqObj "tuple" (bV n ad).toArray 0)).push (seqObj "list" #[] 0)=H3 at k3 K3 g3 kk fin;rw[list_sort_plain];refine ae (listItems_at ho rfl (ae (vp ho rfl ?_ (by rw[au,jV];exact sl) (iu _))));rw[hH1];refine ae (seqEpoch_at g1 rfl (ae (wpAny_newTuple (ae (zk (fz ?_) (iu _))) (by show(bV n ad).length<=_;rw[jV];exact sl))));show wpAny (model prog w) A _ P E { s with heap:=(H1.push (seqObj "tuple" (bV n ad).toArray 0)).push (seqObj "list" #[] 0) };rw[hH3];have hz:(bV n ad).toArray.size=n:=by rw[au,jV]
 dsimp only
 by_cases h2:n<2
 ·rw[if_pos (by rw[hz];exact h2),if_pos (by rw[hz];exact h2)];refine ae (ai ?_);rw[StateT.run_pure];refine ae (ai ?_);have e:(arrOf (SortSt.mk' general' ((bV n ad).toArray.zip (bV n ad).toArray) #[] 7 none)).map (·.2)=(bV n ad).toArray:=by show(((bV n ad).toArray.zip (bV n ad).toArray)).map (·.2)=_;rw[Array.map_snd_zip (ak _)]
  dsimp only;rw[e];refine fin _ ⟨ay n,.refl _, ?_,rfl⟩;refine gm.mpr λi j hi hj Bo=>?_;rw[ba,kj]at hj;omega
 ·have h2':2<=n:=by omega
  rw[if_neg (by rw[hz];exact h2),if_neg (by rw[hz];exact h2)];refine ae (qt (Z7 (A:=A) (s:={ s with heap:=H3 }) (G:=λp s'=>s'={ s with heap:=H3 }/\Ent n p/\eX cW (p.toList.map ky)) h2' K3 λp e r=>⟨rfl,e,r⟩) (λκ s0 hκ=>?_) λ_ _ x=>x.elim);refine ae (qt (kat_run (ks:=bV n ad) (vs:=bV n ad) (Q:=λCj s'=>∃p:Array Nat,p.size=(bV n ad).length/\arrOf Cj=p.map (kas_item ((bV n ad).toArray.zip (bV n ad).toArray))/\failedOf Cj=none/\s'={ s with heap:=H3 }/\Ent n p/\eX cW (p.toList.map ky))
   rfl (by rw[jV];exact h2') (by rw[jV];exact h64) (λp Cj s' z1 z2 z3 z4=>⟨p,z1,z2,z3,z4⟩) hκ) ?_ λ_ _ e=>e)
  rintro ⟨⟨⟩,Cj⟩ s' ⟨p,_,z2,z3,rfl,z5,z6⟩
  dsimp only;rw[kat_snds rfl z2,z3];have e:(p.toList.map λi=>(bV n ad).getD i jk)=p.toList.map λi=>.ref (ad i):=List.map_congr_left λi hi=>CC (bu.mp (z5.2.mem_iff.mp hi));rw[e];exact fin _ ⟨p.toList,z5.2,z6,rfl⟩
theorem LC {x:af}{n:Nat}{ad:Nat->ah}{ky:Nat->zo}{Q:af->ag->Prop}(h64:n<64) (hk:Bh prog w s.heap n ad ky)
  (hc:∀(Q':List af->ag->Prop) (E':af->ag->Prop),(∀h' tk,xB s.heap h'->s.heap.objs.size<=h'.objs.size->Q' (bV n ad) { s with heap:=h',toks:=tk })->wpAny (model prog w) A.in1 (collect x) Q' E' s)
  (q:∀h' tk D e out,Cb n ad ky out->s.heap.objs.size<=D->h'.get? D=some (seqObj "list" out.toArray e)->xB s.heap h'->Q (.ref D) { s with heap:=h',toks:=tk }):
  wpAny (model prog w) A (call (.builtin "sorted") [x]) Q E s:=by
 refine Calls.call_function_entry kind_sorted plain_sorted entry_sorted (args_sorted1 _) ?_;unfold kz.«sorted»;refine ae (m:=checkCount "sorted" 1 1 _) (ai (ae (hc _ _ λh1 tk k1 sz=>ae (zk ?_ (by rw[jV,ja];omega)))));have g:(h1.push (seqObj "list" (bV n ad).toArray 0)).get? h1.objs.size=some (seqObj "list" (bV n ad).toArray 0):=az _ rfl;have k2:xB s.heap (h1.push (seqObj "list" (bV n ad).toArray 0)):=λb o e=>aj _ (k1 b o e);refine ae (fz (gc slot_list_sort ⟨_,g,rfl⟩ entry_list_sort (Z8 (s:={ s with heap:=h1.push (seqObj "list" (bV n ad).toArray 0),toks:=tk }) g h64 (hk.keep λi hi o e=>k2 _ o e) λh' e out so ho ke=>⟨_,rfl, ?_⟩) (args_list_sort _)));exact ai ⟨_,rfl,q h' tk h1.objs.size e out so sz ho λb o e=>ke b o (bf (bc (av e) sz)) (k2 b o e)⟩
end
def bare (w:cp):Obj:={ cls:=.type "set",dict:=none,data:=.set #[] 0 (.fresh 0 0 (!w.params.followText "set-order")) }
section
variable{prog:bh}{w:cp}{A:cn}{E:af->ag->Prop}{s:ag}
theorem Z9 {h:da}{a:ah}(e:h.get? a=some (bare w)):kL prog w h a []:=by
 have tok:∀led:Bool,Cg (.fresh 0 0 led) []:=λled=>⟨rfl,.nil,rfl,(λj hj=>nomatch hj),iu _,.inl rfl,(λi h j e=>nomatch e),rfl⟩
 exact⟨bare w,#[],0,_,e,⟨rfl,rfl,rfl⟩,rfl,rfl,tok _,.nil,(by show 0*5<7*3;decide),rfl⟩
theorem LD (a:af) {Q:af->ag->Prop}(q:Q (.ref s.heap.objs.size) { s with heap:=s.heap.push (bare w) }):
  codeAny (model prog w) A (.call (.builtin "set.__new__") ⟨[.type "set",a],[]⟩) (wants Q E) s:=by
 refine lr F.plain_set_new F.entry_set_new (rn (F.newCall_set_1 a) ?_);have self:=sub_set_self;unfold kz.«set.__new__» Builtin.Frozenset.newClass;cases s
 wp_walk
 exact mm (ai (ae (wpAny_alloc (ai (ai q)))))
theorem LF {v:af}{Q N:af->ag->Prop}(hn:codeAny (model prog w) A.in1 (.call (.builtin "set.__new__") ⟨[.type "set",v],[]⟩) (wants N E) s)
  (hi:∀x s1,N x s1->s1.TypeIs x "set"/\codeAny (model prog w) A.in1 (.call (.builtin "set.__init__") ⟨[x,v],[]⟩) (wants (λr s2=>r=.none/\Q x s2) E) s1):wpAny (model prog w) A (call (.type "set") [v]) Q E s:=by
 have f:=F.called_set;obtain⟨_,_,fm⟩:=f.mro;have fd:=f.made;have fs:=f.sub;have ft:=f.notType;have fc:=f.canCreate;have fk:=F.typeCall_set_1 v;have fl:=f.init.lookup;have q:(Code.builtin "type.__call__" ⟨[.type "set",v],[]⟩).quiet=true:=Code.quiet_builtin _ (by decide +kernel);refine wpAny_call (codeAny_of_tree (ai ⟨q,kq F.entry_type_call ?_⟩));rw[Around.under_plain (weight_type_call_type "set" [v] []) rfl]
 repeat (any_goals (first|assumption|wp_step))
 refine tm hn ?_
 rintro (e|fl1) s1 h1
 ·exact h1
 ·cases fl1 <;> try exact h1.elim
  rename_i x;obtain⟨hx,hr⟩:=hi x s1 h1;have fb:=f.init.bind x
  repeat (any_goals (first|assumption|wp_step))
  refine tm hr ?_
  rintro (e|fl2) s2 h2
  ·exact h2
  ·cases fl2 <;> try exact h2.elim
   obtain⟨rfl,h3⟩:=h2
   repeat (any_goals (first|assumption|wp_step))
theorem LG {l:ah}{T:String}{it:Obj}{n:Nat}{P:Nat->af->Prop}{St:Nat->da->Prop}{fp wr:List ah}(ad:Nat->ah) (ky:Nat->zo) (U:zm) {Q:af->ag->Prop}
  (hu:A.units+8<cLine) (hT:s.TypeIs (.ref l) T) (n1:isSubtype (.type T) (.type "set")=pure false) (n2:isSubtype (.type T) (.type "frozenset")=pure false) (n3:(ud T==ud "dict")=false)
  (hi:∀(B:cn) (Q':af->ag->Prop) (E':af->ag->Prop),Q' (.ref (s.heap.objs.size+1)) { s with heap:=(s.heap.push (bare w)).push it }->wpAny (model prog w) B (pyIter (.ref l)) Q' E' { s with heap:=s.heap.push (bare w) })
  (W:Walks prog w A.in1.in1.in1 (s.heap.objs.size+1) fp wr n P St) (hfp:s.heap.objs.size∉fp) (hwr:∀b∈wr,s.heap.objs.size<b) (h0:St 0 ((s.heap.push (bare w)).push it))
  (hval:∀i v,P i v->v=.ref (ad i)) (hU:U.length<=76) (hky:∀i,i<n->ky i∈U) (Ct:∀j,j<n->gd (intKind prog w) s.heap (ky j) (ad j))
  (q:∀(h':da) (tk:Nat) kb,kL prog w h' s.heap.objs.size kb->Upto ky ad n kb->(∀b o,s.heap.get? b=some o->h'.get? b=some o)->Q (.ref s.heap.objs.size) { s with heap:=h',toks:=tk }):
  wpAny (model prog w) A (call (.type "set") [.ref l]) Q E s:=by
 refine LF (N:=λx s1=>x=.ref s.heap.objs.size/\s1={ s with heap:=s.heap.push (bare w) }) (LD _ ⟨rfl,rfl⟩) ?_
 rintro x s1 ⟨rfl,rfl⟩
 have up:∀b o,s.heap.get? b=some o->(s.heap.push (bare w)).get? b=some o:=λb o e=>aj _ e;have hb:(s.heap.push (bare w)).get? s.heap.objs.size=some (bare w):=az _ rfl;have hS:nv { s with heap:=s.heap.push (bare w) } (.ref s.heap.objs.size) "set" := ⟨_,hb,rfl⟩;refine⟨hS,lr F.called_set.init.plain F.entry_set_init (check_set_init_1 hS ?_)⟩;obtain⟨ol,el,cl⟩:=hT;have hl1:nv { s with heap:=s.heap.push (bare w) } (.ref l) T:=⟨ol,up l ol el,cl⟩
 have lt:∀j,j<n->ad j<s.heap.objs.size:=λj hj=>let ⟨_,_,_,e,_⟩:=Ct j hj;av e;have Dg:((s.heap.push (bare w)).push it).get? s.heap.objs.size=some (bare w):=aj _ hb;have run:∀(R:vt->ag->Prop),(∀h' tk kb,kL prog w h' s.heap.objs.size kb->Upto ky ad n kb->(∀b o,s.heap.get? b=some o->h'.get? b=some o)->R (.ok (.ret .none)) { s with heap:=h',toks:=tk })->
   codeAny (model prog w) A.in1.in1 (.builtin "set.update.loop" ⟨[.ref s.heap.objs.size,.ref (s.heap.objs.size+1)],[]⟩) R { s with heap:=(s.heap.push (bare w)).push it }:=λR hR=>by
  refine ZU W s.heap.objs.size hfp ad ky hval (by show A.units+1+1+2<cLine;omega) U hU hky (λj hj=>⟨bf (lt j hj),λm=>yt (lt j hj) (hwr _ m)⟩) n 0 _ [] rfl (iu _) h0 (Z9 Dg)
   ⟨(λp hp=>nomatch hp),λj hj=>absurd hj (Nat.not_lt_zero j)⟩ (λj hj=>wY (Ct j hj) λo e=>aj _ (up _ o e)) λh' tk kb keep S u=>hR h' tk kb S u λb o e=>?_
  have hlt:=av e;exact keep b o (λm=>(aw.mp m).elim (bf hlt) λm=>yt hlt (hwr b m)) (aj _ (up b o e))
 unfold kz.«set.__init__» noKeywords sk;generalize hPI:pyIter=PI;unfold bare at hb
 wp_walk
 subst hPI;refine hi _ _ _ ?_;refine ae (yr (run _ λh' tk kb S u keep=>?_));exact ai (ai ⟨rfl,q h' tk kb S u keep⟩)
end
end SR
namespace L2.Mr
open PySem PySem.Spec PyProof.Rows SR
def Ak (H:Hp):List V->zm->Prop
 | [],[]=>True
 |v::vs,k::ks=>(∃b,v=.ref b/\H b=some (.tup (k.map V.int)))/\Ak H vs ks
 |_,_=>False
def b9:V->ah
 | .ref b=>b
 |_=>0
def eU (vs:List V) (i:Nat):ah:=b9 (vs.getD i .non)
section
variable{X:Cx}{pins:List (ah×Obj)}{σ:St}{H H':Hp}{s:ag}
theorem Ak.len:∀{vs:List V}{ks:zm},Ak H vs ks->vs.length=ks.length
 | [],[],_=>rfl
 | [],_::_,h=>h.elim
 |_::_,[],h=>h.elim
 |v::vs,k::ks,h=>by rw[cy,cy,Ak.len h.2]
theorem Ak.at_:∀{vs:List V}{ks:zm}{i:Nat},Ak H vs ks->i<ks.length->vs[i]?=some (.ref (eU vs i))/\H (eU vs i)=some (.tup ((ks.getD i []).map V.int))
 | [],[],_,_,h=>by simp at h
 | [],_::_,_,h,_=>h.elim
 |_::_,[],_,h,_=>h.elim
 |v::vs,k::ks,0,h,_=>by obtain⟨⟨b,rfl,e⟩,_⟩:=h;exact⟨rfl,e⟩
 |v::vs,k::ks,i+1,h,hi=>by
  obtain⟨e1,e2⟩:=Ak.at_ (i:=i) h.2 (by simpa using hi);have ea:eU (v::vs) (i+1)=eU vs i:=by simp[eU]
  exact⟨by rw[ea];simpa using e1,by rw[ea];simpa using e2⟩
theorem LH:∀{k:zo}{its:List af}{prog:bh}{w:cp},Ae (k.map V.int) its->ItemsAre (intKind prog w) k its
 | [],_,_,_,.nil=>.nil
 |n::k,_,_,_,.cons h1 h2=>by obtain⟨t,rfl⟩:=h1;exact .cons (intKind_is _ _ _ _) (LH h2)
theorem xC (I:Inv X pins σ H s) {b:ah}{k:zo}(e:H b=some (.tup (k.map V.int))):gd (intKind X.prog X.w) s.heap k b:=by obtain⟨_,its,r,o,e1,c,_,n,d⟩:=I.hok b _ e;exact⟨o,its.toArray,n,e1,c,d,LH r⟩
theorem c7 (I:Inv X pins σ H s) {vs:List V}{ks:zm}(h:Ak H vs ks) (ne:∀k∈ks,k≠[]):Bh X.prog X.w s.heap ks.length (eU vs) (λi=>ks.getD i []):=λi hi=>by refine⟨xC I (h.at_ hi).2,ne _ ?_⟩;simp[hi]
theorem CD {vs:List V}{ks:zm}{its:List af}(h:Ak H vs ks) (r:Ae vs its):its=bV ks.length (eU vs):=by
 have hl:=r.length;have hl2:=h.len
 apply ux
 intro i
 by_cases hi:i<ks.length
 ·obtain⟨e1,_⟩:=h.at_ hi;obtain⟨u,e2,e3⟩:=r.get e1;cases e3;rw[e2];simp[bV,hi]
 ·rw[yu (by omega),yu (by rw[jV];omega)]
theorem LI {n:Nat}{ad:Nat->ah}{ky:Nat->zo}{out:List af}(so:Cb n ad ky out) (hH:∀i,i<n->H (ad i)=some (.tup ((ky i).map V.int))):
  ∃(p:zq) (Bp:List V),p.Perm (ay n)/\eX cW (p.map ky)/\Ae Bp out/\Ak H Bp (p.map ky):=by
 obtain⟨p,pp,r,rfl⟩:=so;refine⟨p,p.map λi=>V.ref (ad i),pp,r, ?_, ?_⟩
 ·clear pp r
  induction p with
  |nil=>exact .nil
  |cons i p ih=>exact .cons rfl ih
 ·have:∀q:zq,(∀i∈q,i<n)->Ak H (q.map λi=>V.ref (ad i)) (q.map ky):=λq=>by
   induction q with
   |nil=>intro _;trivial
   |cons i q ih=>exact λh=>⟨⟨_,rfl,hH i (h i (ax ..))⟩,ih λj hj=>h j (ao _ hj)⟩
  exact this p λi hi=>bu.mp (pp.mem_iff.mp hi)
theorem LJ {α:Type}{p:zq}{n:Nat}{l:List α}{d:α}(h:p.Perm (ay n)) (hl:l.length=n):(p.map λi=>l.getD i d).Perm l:=by
 refine(h.map _).trans ?_;have:(ay n).map (λi=>l.getD i d)=l:=by
  apply List.ext_getElem (by simp[hl])
  intro i h1 h2;simp[h2]
 rw[this]
abbrev xD:List V->Hp->VK->Prop:=λxs H Q=>∃(p:ah) (vs:List V) (ks:zm),xs=[.ref p]/\H p=some (.lst vs)/\Ak H vs ks/\(∀k∈ks,k≠[])/\ks.length<64/\∀l Bp,H l=none->Ak H Bp (dN cW ks)->Q (.ref l) (aZ H l (.lst Bp))
theorem c8:Af X (.builtin "sorted") xD:=by
 intro pins s σ H xs us Q I rv ⟨p,vs,ks,e,hp,ht,ne,h64,q⟩;subst e;obtain⟨u,rfl,ru⟩:=gG rv;cases ru;obtain⟨its,rits,pl,hz⟩:=I.list (Bd.of hp);have hits:=CD ht rits;refine LC h64 (c7 I ht ne) (λQ' E' hQ=>?_) λh' tk D e out so hD ho k=>?_
 ·refine collect_list (vs:=bV ks.length (eU vs)) (by rw[<-hits];exact pl.isList) ?_ (by rw[jV,ja];omega);refine hQ _ s.toks (λb o e=>?_) ?_
  ·have hlt:=av e;rw[ll _ _ _ _ (bf hlt),Heap.get?_push_ne _ _ _ (bf hlt)];exact e
  ·rw[Heap.size_update,tq];exact we _
 ·obtain⟨pp,Bp,h1,h2,h3,h4⟩:=LI (H:=H) so λi hi=>(ht.at_ hi).2;have e1:pp.map (λi=>ks.getD i [])=dN cW ks:=J1 B' h2 (LJ h1 rfl);rw[e1]at h4;have hl:=h4.len;refine⟨.ref D,_,I.laid (t':=tk) k hD (show Ai X.prog X.w _ _ _ (.lst Bp) from⟨?_,out,e,h3,ho⟩),rfl,q D Bp (I.hok.fresh hD) h4⟩;rw[hl,(oA ks).length_eq,ja];omega
def xE (prog:bh) (w:cp) (l:ah) (o:Obj) (kb:KB):Prop:=∃es ep t,∀h:da,h.get? l=some o->Am prog w h l kb o es ep t
structure KbOk (H:Hp) (kb:KB) (ks:zm):Prop where
 tup:∀p∈kb,H p.2=some (.tup (p.1.map V.int))
 frm:∀p∈kb,p.1∈ks
 all:∀k∈ks,k∈kb.map dy
abbrev LK (X:Cx):List V->Hp->VK->Prop:=λxs H Q=>∃(p:ah) (vs:List V) (ks:zm),xs=[.ref p]/\H p=some (.lst vs)/\Ak H vs ks/\(eC cW ks).length<=76/\∀l o kb,H l=none->xE X.prog X.w l o kb->KbOk H kb ks->Q (.ref l) (aZ H l (.frz o (.own 0)))
theorem sub_list:isSubtype (.type "list") (.type "set")=pure false/\isSubtype (.type "list") (.type "frozenset")=pure false:=⟨F.sub_list_set,F.sub_list_frozenset⟩
theorem c9 {k:Nat}(rm:Aw k X.A):Af X (.type "set") (LK X):=by
 intro pins s σ H xs us Q I rv ⟨p,vs,ks,e,hp,ht,hU,q⟩;subst e;obtain⟨u,rfl,ru⟩:=gG rv;cases ru;obtain⟨its,rits,pl,hz⟩:=I.list (Bd.of hp);have hits:=CD ht rits;have lp:=I.hok.lt hp;have hI:s.heap.IsList p (bV ks.length (eU vs)).toArray:=by rw[<-hits];exact pl.isList
 have Bl:(bV ks.length (eU vs)).toArray.size=ks.length:=by rw[au,jV]
 have hh:X.A.in1.in1.in1.handled=none:=rm.hd;have hne:p≠s.heap.objs.size+1:=bf (gr lp);have hb:(s.heap.push (bare X.w)).IsList p (bV ks.length (eU vs)).toArray:=hI.push _;have hs1:(s.heap.push (bare X.w)).objs.size=s.heap.objs.size+1:=tq _ _;have W:=uh (prog:=X.prog) (w:=X.w) (A:=X.A.in1.in1.in1) hh (s.heap.objs.size+1) p hne (bV ks.length (eU vs)).toArray;rw[Bl]at W;refine LG (T := "list") (it:={ cls:=.type "list_iterator",data:=.fields #[.ref p,.int 0 0] }) (eU vs) (λi=>ks.getD i []) (eC cW ks) (by have:=rm.un;omega) hI.typeIs sub_list.1 sub_list.2 (by decide) (λB Q' E' hQ=>?_) W ?_ ?_ ?_ (λi v hv=>?_) hU (λi hi=>?_) (λj hj=>?_) λh' tk kb hS Cw k=>?_
 ·refine kv hb ?_;rw[<-hs1]at hQ;exact hQ
 ·intro m
  rcases aw.mp m with z|m
  ·exact lj _ z.symm
  ·exact jd lp (cg.mp m)
 ·intro b hb;rw[cg.mp hb];exact jl _
 ·refine⟨⟨{ cls:=.type "list_iterator",data:=.fields #[.ref p,.int 0 0] }, ?_,rfl,rfl⟩,hb.push _⟩;rw[<-hs1];exact az _ rfl
 ·have hi:i<ks.length:=by have:=(dw.mp hv).1;rwa [Bl]at this
  have:(bV ks.length (eU vs))[i]?=some (.ref (eU vs i)):=by simp[bV,hi]
  rw[yv,this]at hv;exact(cx hv).symm
 ·refine(lH B' _ _).mpr ?_;show ks.getD i []∈ks;simp[hi]
 ·exact xC I (ht.at_ hj).2
 ·obtain⟨o,es,ep,t,P⟩:=hS;refine⟨.ref s.heap.objs.size,_,I.laid (t':=tk) (o:=.frz o (.own 0)) k (ak _) ⟨P.obj,o,P.obj⟩,rfl,q _ o kb (I.hok.fresh (ak _)) ⟨es,ep,t,λh e=>P.at' e⟩ ⟨λz hz=>?_,λz hz=>?_,λz hz=>?_⟩⟩
  ·obtain⟨j,hj,rfl⟩:=Cw.from_ z hz;exact(ht.at_ hj).2
  ·obtain⟨j,hj,rfl⟩:=Cw.from_ z hz;show ks.getD j []∈ks;simp[hj]
  ·obtain⟨j,hj,rfl⟩:=jr hz;have:=Cw.all j hj;simpa[hj]using this
abbrev LL (X:Cx):List V->Hp->VK->Prop:=λxs H Q=>∃(l:ah) (o:Obj) (kb:KB) (ks:zm),xs=[.ref l]/\H l=some (.frz o (.own 0))/\xE X.prog X.w l o kb/\KbOk H kb ks/\(∀k∈ks,k≠[])/\(eC cW ks).length<64/\∀D Bp,H D=none->Ak H Bp (eC cW ks)->Q (.ref D) (aZ H D (.lst Bp))
theorem d6 {α β:Type}{f:α->β}:∀{l:List β}{l':List β},l.Perm l'->∀xs:List α,l'=xs.map f->∃ys:List α,ys.Perm xs/\l=ys.map f:=by
 intro l l' h
 induction h with
 |nil=>intro xs e;exact⟨xs,.refl _,e⟩
 |cons a _ ih=>
  intro xs e
  cases xs with
  |nil=>cases e
  |cons x xs=>simp only[df,zc]at e;obtain⟨ys,p,e'⟩:=ih xs e.2;exact⟨x::ys,p.cons x,by simp[e.1,e']⟩
 |swap a b l=>
  intro xs e
  cases xs with
  |nil=>cases e
  |cons x xs=>
   cases xs with
   |nil=>simp at e
   |cons y xs=>simp only[df,zc]at e;exact⟨y::x::xs,.swap ..,by simp[e.1,e.2.1,e.2.2]⟩
 |trans _ _ ih1 ih2=>intro xs e;obtain⟨ys,p,e'⟩:=ih2 xs e;obtain⟨zs,p',e''⟩:=ih1 ys e';exact⟨zs,p'.trans p,e''⟩
theorem d7 {k:Nat}(rm:Aw k X.A):Af X (.builtin "sorted") (LL X):=by
 intro pins s σ H xs us Q I rv ⟨l,o,kb,ks,e,hl,⟨es,ep,t,hP⟩,kO,ne,h64,q⟩;subst e;obtain⟨u,rfl,ru⟩:=gG rv;cases ru;have P:=hP s.heap (I.hok l _ hl).1;have pe:(iM X.w l ep es).toList.Perm (gN X.prog X.w kb):=by rw[<-P.es];exact K8 _ _ _ _
 obtain⟨kc,pk,ek⟩:=d6 pe kb rfl;have mem:∀i,i<kc.length->kc.getD i ([],0)∈kb:=λi hi=>pk.mem_iff.mp (by simp[hi]);have hn:(kb.map dy).length=(eC cW ks).length:=by refine List.Perm.length_eq ((jm P.nd (oD B' (oC B' ks))).mpr λz=>?_);rw[lH B'];refine⟨λh=>?_,λh=>kO.all z h⟩;obtain⟨p,hp,rfl⟩:=bo.mp h;exact kO.frm p hp
 have hlen:kc.length<64:=by rw[pk.length_eq];rw[ba]at hn;omega
 have hes:es.size=kc.length:=by rw[P.size,pk.length_eq]
 have KA:Bh X.prog X.w s.heap kc.length (λi=>(kc.getD i ([],0)).2) (λi=>(kc.getD i ([],0)).1):=λi hi=>⟨xC I (kO.tup _ (mem i hi)),ne _ (kO.frm _ (mem i hi))⟩
 have er:(iM X.w l ep es).toList.map (·.2)=bV kc.length (λi=>(kc.getD i ([],0)).2):=by
  rw[ek,gw]
  apply List.ext_getElem (by simp[jV])
  intro i h1 h2;have hi:i<kc.length:=by simpa using h1
  simp[bV,hi]
 refine LC hlen KA (λQ' E' hQ=>?_) λh' tk D e out so hD ho k=>?_
 ·refine Z5 (show X.A.in1.handled=none from rm.hd) P (by rw[hes,ja];omega) λh' tk kk sz=>?_;rw[er];exact hQ h' tk kk sz
 ·obtain⟨pp,Bp,h1,h2,h3,h4⟩:=LI (H:=H) so λi hi=>kO.tup _ (mem i hi);have pm:(pp.map λi=>(kc.getD i ([],0)).1).Perm (kb.map dy):=by have:=((LJ (d:=(([],0):zo×ah)) h1 rfl).trans pk).map dy;rwa [gw]at this
  have nd:(pp.map λi=>(kc.getD i ([],0)).1).Nodup:=pm.nodup_iff.mpr P.nd;have rs:eE cW (pp.map λi=>(kc.getD i ([],0)).1):=by
   refine(h2.and nd).imp λ{a b} ⟨x,y⟩=>?_
   cases q:cW a b with
   |true=>rfl
   |false=>exact absurd (B'.tot a b q x) y
  have e1:(pp.map λi=>(kc.getD i ([],0)).1)=eC cW ks:=YZ B' rs λz=>by rw[pm.mem_iff];refine⟨λh=>?_,λh=>kO.all z h⟩;obtain⟨p,hp,rfl⟩:=bo.mp h;exact kO.frm p hp
  rw[e1]at h4;refine⟨.ref D,_,I.laid (t':=tk) k hD (show Ai X.prog X.w _ _ _ (.lst Bp) from⟨?_,out,e,h3,ho⟩),rfl,q D Bp (I.hok.fresh hD) h4⟩;rw[h4.len,ja];omega
end
def lJ:Dv->Option zo 
 | .tup xs=>bG dU xs
 |_=>none
def pD (k:zo):Dv:=.tup (k.map Dv.int)
section
variable{X:Cx}{G:Cfg}{E:XK}{k:Nat}{e a b:bq}{es:List bq}{ma mb:M Dv}{aQ:M zu }{p p2 pos Bv:Pos}
theorem xF {μ:Nat->ah}{n:Nat}{H:Hp}:∀{xs:zu}{vs:List V}{ks:zm},RelDL G μ n H xs vs->bG lJ xs=some ks->Ak H vs ks
 | [],_,ks,r,e=>by cases e;rw[RelDL]at r;subst r;trivial
 |x::xs,_,ks,r,e=>by
  rw[RelDL]at r;obtain⟨v,rr,rfl,r1,r2⟩:=r;unfold bG at e
  cases x with
  |tup ds=>
   dsimp only[lJ]at e
   cases q:bG dU ds with
   |none=>rw[q]at e;cases e
   |some zs=>
    rw[q]at e;dsimp only at e
    cases q2:bG lJ xs with
    |none=>rw[q2]at e;cases e
    |some ys=>rw[q2]at e;cases e;rw[Ac]at r1;obtain⟨b,us,rfl,h1,h2⟩:=r1;rw[lF h2 q]at h1;exact⟨⟨b,rfl,h1⟩,xF r2 q2⟩
  |_=>cases e
theorem CF {μ:Nat->ah}{n:Nat}{H:Hp}:∀{vs:List V}{ks:zm},Ak H vs ks->RelDL G μ n H (ks.map pD) vs
 | [],[],_=>RelDL.nil
 | [],_::_,h=>h.elim
 |_::_,[],h=>h.elim
 |v::vs,k::ks,h=>by obtain⟨⟨b,rfl,e⟩,h2⟩:=h;refine RelDL.cons ?_ (CF h2);unfold pD;rw[Ac];exact⟨b,_,rfl,e,qK k⟩
def pE (ks:zm):Bool:=ks.all λk=>!k.isEmpty
theorem LM {ks:zm}(h:pE ks=true):∀k∈ks,k≠[]:=λk hk e=>by have:=dz.mp h k hk;rw[e]at this;cases this
def rG (x:Dv) (h:Hs):Rs Dv:=match x with
 | .ref i=>match getL h i with
  |some xs=>match bG lJ xs with
   |some ks=>if(pE ks&&decide (ks.length<64))=true then .ok (.ref h.length) (h++[.lst ((dN cW ks).map pD)])else .bad
   |none=>.bad
  |none=>.bad
 |_=>.bad
theorem LN:jE G (λx H Q=>xD [x] H Q) rG:=by
 intro E μ h H x vx Q s r o
 cases x with
 |ref i=>
  dsimp only[rG]at o
  cases q:getL h i with
  |none=>rw[q]at o;exact o.elim
  |some xs=>
   rw[q]at o;dsimp only at o
   cases q2:bG lJ xs with
   |none=>rw[q2]at o;exact o.elim
   |some ks=>
    rw[q2]at o;dsimp only at o
    split at o
    ·rename_i h0;rw[cw]at h0;obtain⟨vs,e1,r1⟩:=s.ob i _ (dP q);obtain⟨_,rfl⟩:=r;exact⟨_,vs,ks,rfl,e1,xF r1 q2,LM h0.1,by simpa using h0.2,λl Bp hl ht=>nM s (CF ht) hl o⟩
    ·exact o.elim
 |_=>exact o.elim
def jW (x:Dv) (h:Hs):Rs Dv:=match nZ x h with
 | .ok d h1=>.ok d h1
 |_=>rG x h
abbrev LO:List V->Hp->VK->Prop:=λxs H Q=>∃(p:ah) (ns:zo),xs=[.ref p]/\H p=some (.lst (ns.map V.int))/\ns.length<64/\∀l,H l=none->Q (.ref l) (aZ H l (.lst ((jR ns).map V.int)))
theorem d8:jE G (λx H Q=>LO [x] H Q∨xD [x] H Q) jW:=by
 intro E μ h H x vx Q s r o;unfold jW at o
 cases q:nZ x h with
 |ok d h1=>rw[q]at o;obtain⟨p,ns,e,r1⟩:=YN E μ h H x vx Q s r (by rw[q];exact o);exact .inl ⟨p,ns,by rw[e],r1⟩
 |ex c h1=>rw[q]at o;exact .inr (LN E μ h H x vx Q s r o)
 |bad=>rw[q]at o;exact .inr (LN E μ h H x vx Q s r o)
theorem d9:Af X (.builtin "sorted") (λxs H Q=>LO xs H Q∨xD xs H Q):=by
 intro pins s σ H xs us Q I rv h
 rcases h with h|h
 ·exact YL pins s σ H xs us Q I rv h
 ·exact c8 pins s σ H xs us Q I rv h
theorem LP (hg:Gl X "sorted") (hm:X.mg "sorted" = none) (ha:dR X G E [e] aQ)
  (he:ar [e] X.env=[(false,eval e X.env)]:=by rfl):aK X G E (.Call (.Name "sorted" p) [e] [] pos) (aD (f1 jW) aQ):=
 nP (Af.imp d9 λxs H Q ⟨v,h1,h2⟩=>by rw[h1];exact h2) (oR d8) hg hm JI ha (by decide) (by decide) he rfl
theorem LQ:dj "set" = some (.type "set"):=by decide +kernel
end
open PySem.SeqAt PySem.MeetsSeq PySem.MeetsSeq2 PySem.MeetsSeq3
section
variable{X:Cx}{G:Cfg}{E:XK}{k:Nat}{e a b o:bq}{es:List bq}{mo me ma mb:M Dv}{aQ:M zu }{p p2 pos Bv apos cpos np:Pos}{y:Str}
theorem e7 {prog:bh}{w:cp}{A:cn}{Ee:af->ag->Prop}{s:ag}{t sl:ah}{items:Array af}{vl vu:af}{lo hi:Option Int}{Q:af->ag->Prop}(ht:yj s.heap t items) (hs:s.heap.IsSliceOf sl vl vu .none) (pl:uk vl lo) (pu:uk vu hi)
  (h0:HT.sIx items.size 0 lo=0) (h1:HT.sIx items.size items.size hi=items.size) (h:Q (.ref t) s):wpAny (model prog w) A (getItem (.ref t) (.ref sl)) Q Ee s:=by
 obtain⟨os,hos,hcs,hds⟩:=id hs;have hTs:s.TypeIs (.ref sl) "slice" := ⟨os,hos,hcs⟩;have tt:=ht.typeIs;obtain⟨ot,et,ct,_⟩:=id ht;unfold getItem
 try with_reducible refine fz ?_
 first|refine ae (ai ?_)|skip
 refine ae (wpAny_sequenceKey tt (by decide) (ae (gh (name:=lg "__getitem__") tt fv (gc fv tt PySem.F.entry_tuple_getitem ?_ (PySem.F.args_tuple_getitem_2 _ _)))));refine ae (m:=slotArgs "__getitem__" 1 ⟨[.ref t,.ref sl],[]⟩) (ai (ae (zf ht (ae (ql hTs ?_)))));rw[if_pos (by decide)];refine ae (HT.sliceApplied_gen hs pl pu ?_);rw[h0,h1];show wpAny _ _ (if(((0:Nat):Int)==0&&(1:Int)==1&&(items.size - 0)==items.size)=true then _ else _) _ _ s;rw[if_pos (by simp)];unfold Builtin.Tuple.tupleIsExact;refine ae (ae (ql tt (ai ?_)));rw[if_pos (by decide)];refine ae (ph (ai ⟨_,rfl,ai h⟩))
theorem e8:SlR X (λx lo hi H Q=>∃a xs,x=.ref a/\Aq X.K H a xs/\HT.sIx xs.length 0 lo=0/\HT.sIx xs.length xs.length hi=xs.length/\Q (.ref a) H):=by
 intro pins s σ H x v vl vu lo hi sl Q I rx hs pl pu ⟨a,xs,ex,hx,h0,h1,q⟩;subst ex;cases rx;obtain⟨its,r,ht,hz⟩:=I.tuple hx;have hlen:its.toArray.size=xs.length:=by rw[au];exact r.length.symm
 exact⟨"tuple",_,fv.lookup,ht.typeIs,e7 ht hs pl pu (by rw[hlen];exact h0) (by rw[hlen];exact h1) ⟨.ref a,H,I,rfl,q⟩⟩
def xG (x:Dv) (lo hi:Option Int) (h:Hs):Rs Dv:=match x with
 | .ref j=>match getL h j with
  |some xs=>.ok (.ref h.length) (h++[.lst (nW xs lo hi)])
  |none=>.bad
 | .tup xs=>.ok (.tup (nW xs lo hi)) h
 |_=>.bad
theorem e9 {xs:zu}{lo hi:Option Int}(h0:HT.sIx xs.length 0 lo=0) (h1:HT.sIx xs.length xs.length hi=xs.length):nW xs lo hi=xs:=by unfold nW;rw[h0,h1];simp
def tV (m:M Dv) (lo hi:MO):M Dv:=λρ h=>(m ρ h).bind λx h1=>(lo ρ h1).bind λl h2=>(hi ρ h2).bind λu h3=>xG x l u h3
theorem h8 {lo hi:Option bq}{ml mh:MO}(ho:aK X G E o mo) (hl:wN X G E lo ml) (hh:wN X G E hi mh):aK X G E (.Subscript o (.Slice lo hi none p2) pos) (tV mo ml mh):=λhK=>
 PE.imp (TH (SlR.or (SlR.or TZ TL) e8) (ho hK) (hl hK) (hh hK)) λσ H Q ⟨μ,ρ,h,rs,s,oo⟩=>eO rs s oo λμ1 x h1 vx H1 x1 As s1 r1 o1=>by
  refine⟨μ1,ρ,h1,As,s1,(o1.bind (R1:=λ_ _ _ a b=>b=a)).mono λl' H2 ⟨μ2,l,h2,x2,s2,el,o2⟩=>?_⟩;subst el;refine⟨μ2,ρ,h2,As.mono x2,s2,(o2.bind (R1:=λ_ _ _ a b=>b=a)).mono λu' H3 ⟨μ3,u,h3,x3,s3,eu,o3⟩=>?_⟩;subst eu;have r3:=Ac.mono (x2.trans x3) _ _ r1
  cases x with
  |ref j=>
   dsimp only[xG]at o3
   cases q:getL h3 j with
   |none=>rw[q]at o3;exact o3.elim
   |some xs=>rw[q]at o3;obtain⟨vs,ea,ra⟩:=s3.ob j _ (dP q);obtain⟨_,rfl⟩:=r3;exact .inl (.inl ⟨_,vs,rfl,Bd.of ea,λp hp=>nM s3 (I0 ra _ _) hp o3⟩)
  |tup xs=>
   dsimp only[xG]at o3;obtain⟨a,vs,rfl,ea,ra⟩:=r3
   by_cases hw:HT.sIx xs.length 0 l'=0/\HT.sIx xs.length xs.length u'=xs.length
   ·refine .inr ⟨a,vs,rfl,Aq.of ea,by rw[ra.length];exact hw.1,by rw[ra.length];exact hw.2,o3 μ3 _ _ Ext.refl s3 ?_⟩;rw[e9 hw.1 hw.2];exact⟨a,vs,rfl,ea,ra⟩
   ·exact .inl (.inr ⟨a,vs,rfl,Aq.of ea,by rw[ra.length];exact hw,λp hp=>o3 μ3 _ _ (Ext.same (dG hp)) (s3.same (dG hp)) ⟨p,_,rfl,eG,RelDL.mono (Ext.same (dG hp)) _ _ (I0 ra _ _)⟩⟩)
  |_=>exact o3.elim
def eI (x y:Dv) (h:Hs):Rs Dv:=match x,y with
 | .int i,.int j=>.ok (.bl (decide (i<j))) h
 | .tup xs,.tup ys=>match bG dU xs,bG dU ys with
  |some ns,some ms=>.ok (.bl (HT.lexLt ns ms)) h
  |_,_=>.bad
 |_,_=>.bad
theorem LR:∀x y:zo,HT.lexLt x y=cW x y
 | [],[]=>rfl
 | [],_::_=>rfl
 |_::_,[]=>rfl
 |a::x,b::y=>by
  rw[HT.lexLt_cons,cW,LR x y]
  by_cases h:a=b <;> simp[h]
theorem LS:fI G (λx y H Q=>(jL λi j=>.bl (decide (i<j))) x y H Q∨GF G.K x y H Q) eI:=by
 intro E μ h H x y vx vy Q s rx ry o;unfold eI at o
 split at o
 ·rename_i i j;exact .inl (oQ E μ h H (.int i) (.int j) vx vy Q s rx ry o)
 ·rename_i xs ys
  cases q1:bG dU xs with
  |none=>rw[q1]at o;exact o.elim
  |some ns=>
   cases q2:bG dU ys with
   |none=>rw[q1,q2]at o;exact o.elim
   |some ms=>rw[q1,q2]at o;obtain⟨a,us,rfl,ea,ra⟩:=rx;obtain⟨b,ws,rfl,eb,rb⟩:=ry;exact .inr ⟨a,b,ns,ms,rfl,rfl,Aq.of (by rw[ea,lF ra q1]),Aq.of (by rw[eb,lF rb q2]),o.val s rfl⟩
 ·exact o.elim
theorem CG (g:Good X G E k) (ha:aK X G E a ma) (hb:aK X G E b mb):aK X G E (.Compare a [.Lt] [b] pos) (m2 eI ma mb):=λhK=>oK (Be.or FW (GG (by have:=g.room.un;omega))) (by rw[hK];exact LS) ha hb (kB _) hK
theorem CH (g:Good X G E k) (ha:aK X G E a ma) (hb:aK X G E b mb):fZ X G E (.Compare a [.Lt] [b] pos) (mB (m2 eI ma mb)):=λhK=>oM (Be.or FW (GG (by have:=g.room.un;omega))) (by rw[hK];exact LS) ha hb (kB _) hK
theorem h9:vJ X "list.index" (λx xs H Q=>∃(a:ah) (ns:zo) (k:Int) (j:Nat),x=.ref a/\xs=[.int k]/\H a=some (.lst (ns.map V.int))/\dW k ns=some j/\Q (.int j) H):=by
 intro pins s σ H x xs v us Q I rx rv ⟨a,ns,k,j,e1,e2,ha,hj,q⟩;subst e1;subst e2;cases rx;obtain⟨u,rfl,ru⟩:=gG rv;obtain⟨t,rfl⟩:=ru;obtain⟨z,its,n,r,hl,e⟩:=I.lstM ha;obtain⟨h1,h2⟩:=rA hj;have hi:=wQ r;have hn:its.length=ns.length:=by have:=r.length;simp at this;omega
 have hjn:j<ns.length:=(bg.mp h1).1
 let eq:af->Bool:=λy=>match y with
  | .int m _=>m==k
  |_=>false
 have hat:∀m,m<ns.length->∃(n:Int) (tt:Tok),ns[m]?=some n/\its[m]?=some (.int n tt):=λm hm=>by have e0:ns[m]?=some ns[m]:=br hm;obtain⟨tt,e1⟩:=BJ hi e0;exact⟨_,tt,e0,e1⟩
 have val:∀m (hm:m<its.toArray.size),∃(n:Int) (tt:Tok),ns[m]?=some n/\its.toArray[m]=.int n tt:=λm hm=>by
  have hm':m<ns.length:=by rw[au,hn]at hm;exact hm
  obtain⟨n,tt,e0,e1⟩:=hat m hm';refine⟨n,tt,e0, ?_⟩;obtain⟨hx,e2⟩:=bg.mp e1;simpa using e2
 have hj':j<its.toArray.size:=by rw[au,hn];exact hjn
 refine vz xi ⟨_,e,rfl⟩ PySem.F.entry_list_index (PySem.F.args_list_index_2 _ _) (MeetsSeq.list_index a its.toArray n (.int k t) eq (λy hy=>?_) j hj' ?_ ?_ ?_) ⟨e, ?_⟩
 ·obtain⟨m,hm,rfl⟩:=Array.getElem_of_mem hy;obtain⟨n,tt,_,e2⟩:=val m hm;rw[e2];exact MeetsSeq.EqGives.int n k tt t
 ·have:its.length<=cf:=by omega
  rw[ja]at this;omega
 ·obtain⟨n,tt,e0,e2⟩:=val j hj';rw[h1]at e0;cases e0;rw[e2];simp[eq]
 ·intro m hm hmj;obtain⟨n,tt,e0,e2⟩:=val m hm;have hne:n≠k:=λz=>h2 m hmj (by rw[e0,z]);rw[e2];simpa[eq]using hne
 ·exact⟨.int j,H,I.tok _,⟨_,rfl⟩,q⟩
def xH (x i:Dv) (h:Hs):Rs Dv:=match x,i with
 | .ref j,.int k=>match getL h j with
  |some xs=>match bG dU xs with
   |some ns=>match dW k ns with
    |some j=>.ok (.int j) h
    |none=>.bad
   |none=>.bad
  |none=>.bad
 |_,_=>.bad
def iV (mo me:M Dv):M Dv:=λρ h=>(mo ρ h).bind λx h1=>if iK x h1=true then(me ρ h1).bind λd h2=>xH x d h2 else .bad
theorem LU (ho:aK X G E (.Name y np) mo) (he:aK X G E e me) (hs:ar [e] X.env=[(false,eval e X.env)]:=by rfl) (hl:(apos.endLine==cpos.line)=true:=by rfl):aK X G E (.Call (.Attribute (.Name y np) "index" apos) [e] [] cpos) (iV mo me):=λhK=>
 PE.imp (vL lx xi PySem.F.type_list_index h9 (ho hK) (jC (he hK) jM hs) rfl (by rw[hs];rfl) hl hs rfl) λσ H Q ⟨μ,ρ,h,rs,s,oo⟩=>eO rs s oo λμ1 x h1 vx H1 x1 As s1 r1 o1=>by
  split at o1
  ·rename_i hl;refine⟨wD s1 r1 hl,eO As s1 o1 λμ2 d h2 vd H2 x2 Cp s2 r2 o2=>?_⟩;unfold xH at o2
   split at o2
   ·rename_i j k
    cases q:getL h2 j with
    |none=>rw[q]at o2;exact o2.elim
    |some xs=>
     rw[q]at o2;dsimp only at o2
     cases q2:bG dU xs with
     |none=>rw[q2]at o2;exact o2.elim
     |some ns=>
      rw[q2]at o2;dsimp only at o2
      cases q3:dW k ns with
      |none=>rw[q3]at o2;exact o2.elim
      |some i=>rw[q3]at o2;obtain⟨vs,ea,ra⟩:=s2.ob j _ (dP q);obtain⟨_,rfl⟩:=Ac.mono x2 _ _ r1;rw[Ac]at r2;subst r2;exact⟨_,ns,k,i,rfl,rfl,by rw[ea,lF ra q2],q3,o2.val s2 rfl⟩
   ·exact o2.elim
  ·exact o1.elim
def cX (j:Int):zo:=(ay j.toNat).map λk:Nat=>(k:Int)
theorem i0:Af X (.type "range") (λxs H Q=>∃j:Int,xs=[.int j]/\∀l,H l=none->Q (.ref l) (aZ H l (.rng 0 j))):=by intro pins s σ H xs us Q I rv ⟨j,e,q⟩;subst e;obtain⟨u,rfl,ru⟩:=gG rv;obtain⟨t,rfl⟩:=ru;refine call_range_1 ⟨.ref s.heap.objs.size,_,I.laid (t':=s.toks+1+1) (o:=.rng 0 j) (λb ob q=>aj _ q) (ak _) ⟨_,_,_,az _ rfl⟩,rfl,q _ (I.hok.fresh (ak _))⟩
theorem i6 (rm:Aw k X.A):Af X (.type "list") (λxs H Q=>∃(l:ah) (j:Int),xs=[.ref l]/\H l=some (.rng 0 j)/\0<=j/\j<=1000/\∀D,H D=none->Q (.ref D) (aZ H D (.lst ((cX j).map V.int)))):=by
 intro pins s σ H xs us Q I rv ⟨l,j,e,hl,h0,h1,q⟩;subst e;obtain⟨u,rfl,ru⟩:=gG rv;cases ru;obtain⟨t,u,v,hr⟩:=I.hok l _ hl;refine call_list_range (n:=j.toNat) (a:=0) (b:=j) (c:=1) rm.hd hr (small_one (by omega) (by omega) (by omega) (by omega)) ?_ (by omega) λh' tk acc c ke ho ia=>?_
 ·rw[rangeSize_one]
  split <;> omega
 ·have hv:Ae ((cX j).map V.int) acc.toList:=by
   have:∀(n:Nat) (as:List af),as.length=n->(∀(i:Nat) (v:af),as[i]?=some v->∃t,v=Value.int (0+(i:Int)*1) t)->Ae (((ay n).map λk:Nat=>(k:Int)).map V.int) as:=λn=>by
    induction n with
    |zero=>intro as hl _;rw[my.mp hl];exact .nil
    |succ n ih=>
     intro as hl hi;have hne:as≠[]:=λz=>by rw[z]at hl;cases hl
     have e:=wj hne;rw[<-e,sj,gg,gg];have hlast:as[n]?=some (as.getLast hne):=by
      rw[List.getLast_eq_getElem,br (by omega)]
      congr 2;omega
     obtain⟨t,ht⟩:=hi n _ hlast;refine Ae.append (ih as.dropLast (by simp[hl]) λi v hv=>hi i v ?_) ?_
     ·rw[List.getElem?_dropLast]at hv
      split at hv
      ·exact hv
      ·cases hv
     ·refine .cons ?_ .nil;show RelV (.int (n:Int)) _;rw[ht];exact⟨t,by simp⟩
   refine this j.toNat acc.toList (by simpa using ia.1) λi v hv=>?_;exact ia.2 i v (by simpa using hv)
  refine⟨.ref s.heap.objs.size,_,I.laid (t':=tk) ke (ak _) (show Ai X.prog X.w _ _ _ (.lst ((cX j).map V.int)) from⟨?_,acc.toList,c,hv, ?_⟩),rfl,q _ (I.hok.fresh (ak _))⟩
  ·rw[ba,cX,ba,kj,ja];omega
  ·rw[ho]
def rH:Dv->Hs->Rs Dv
 | .int j,h=>if(decide (0<=j)&&decide (j<=1000))=true then .ok (.ref h.length) (h++[.lst ((cX j).map Dv.int)])else .bad
 |_,_=>.bad
theorem i7 (g:Good X G E k) (hg:Gl X "list") (hm:X.mg "list" = none) (hg2:Gl X "range") (hm2:X.mg "range" = none) (ha:dR X G E [e] aQ)
  (he:ar [e] X.env=[(false,eval e X.env)]:=by rfl) (Df:ar [Expr.Call (.Name "range" p2) [e] [] Bv] X.env=[(false,eval (.Call (.Name "range" p2) [e] [] Bv) X.env)]:=by rfl):
  aK X G E (.Call (.Name "list" p) [.Call (.Name "range" p2) [e] [] Bv] [] pos) (aD (f1 rH) aQ):=λhK=>
 PE.imp (qB (i6 g.room) hg hm HM (jC (qB i0 hg2 hm2 boot_range (ha hK) (by decide) (by decide) he rfl) jM Df) (by decide) (by decide) Df rfl) λσ H Q ⟨μ,ρ,h,rs,s,o⟩=>by
  refine kC rs s o λμ1 ds h1 vs H1 x1 As s1 r1 o1=>?_;unfold f1 at o1
  split at o1
  ·rename_i d;obtain⟨v,rfl,rv⟩:=qL r1
   cases d with
   |int j=>
    dsimp only[rH]at o1
    split at o1
    ·rename_i h0;rw[cw]at h0;have j0:0<=j:=by simpa using h0.1
     have j1:j<=1000:=by simpa using h0.2
     rw[Ac]at rv;subst rv;refine⟨j,rfl,λl hl=>?_⟩;have sm:=dG (o:=.rng 0 j) hl;refine⟨l,j,rfl,eG,j0,j1,λD hD=>?_⟩;exact nM (E:=E) (s1.same sm) (qK _) hD (λμ' H' v x'=>o1 μ' H' v ((Ext.same sm).trans x'))
    ·exact o1.elim
   |_=>exact o1.elim
  ·exact o1.elim
end
section
variable{mo me:M Dv}{ml mh:MO}
end
section
variable{X:Cx}{G:Cfg}{E:XK}{k:Nat}{e a b o:bq}{es:List bq}{mo me ma mb:M Dv}{aQ:M zu }{p p2 pos Bv apos cpos np:Pos}{y:Str}
theorem sub_tuple:isSubtype (.type "tuple") (.type "set")=pure false/\isSubtype (.type "tuple") (.type "frozenset")=pure false:=by constructor <;> (rw[isSubtype_type];kernel_rfl)
abbrev LV (X:Cx):List V->Hp->VK->Prop:=λxs H Q=>∃(p:ah) (vs:List V) (ks:zm),xs=[.ref p]/\H p=some (.tup vs)/\Ak H vs ks/\(eC cW ks).length<=76/\∀l o kb,H l=none->xE X.prog X.w l o kb->KbOk H kb ks->Q (.ref l) (aZ H l (.frz o (.own 0)))
theorem i8 (rm:Aw k X.A):Af X (.type "set") (LV X):=by
 intro pins s σ H xs us Q I rv ⟨p,vs,ks,e,hp,ht,hU,q⟩;subst e;obtain⟨u,rfl,ru⟩:=gG rv;cases ru;obtain⟨its,rits,pl,hz⟩:=I.tuple (Aq.of hp);have hits:=CD ht rits;have lp:=I.hok.lt hp;have hI:s.heap.IsTuple p (bV ks.length (eU vs)).toArray:=by rw[<-hits];exact pl
 have Bl:(bV ks.length (eU vs)).toArray.size=ks.length:=by rw[au,jV]
 have hne:p≠s.heap.objs.size+1:=bf (gr lp);have hb:(s.heap.push (bare X.w)).IsTuple p (bV ks.length (eU vs)).toArray:=xb (items:=(bV ks.length (eU vs)).toArray) hI _;have hs1:(s.heap.push (bare X.w)).objs.size=s.heap.objs.size+1:=tq _ _;have W:=Walks.tuple (prog:=X.prog) (w:=X.w) (A:=X.A.in1.in1.in1) (show X.A.in1.in1.in1.handled=none from rm.hd) (s.heap.objs.size+1) p hne (bV ks.length (eU vs)).toArray;rw[Bl]at W;refine LG (T := "tuple") (it:={ cls:=.type "tuple_iterator",data:=.fields #[.ref p,.int 0 0] }) (eU vs) (λi=>ks.getD i []) (eC cW ks) (by have:=rm.un;omega) hI.typeIs sub_tuple.1 sub_tuple.2 (by decide) (λB Q' E' hQ=>?_) W (λm=>?_) (λb hb=>?_) ⟨⟨{ cls:=.type "tuple_iterator",data:=.fields #[.ref p,.int 0 0] }, ?_,rfl,rfl⟩,xb (items:=(bV ks.length (eU vs)).toArray) hb _⟩ (λi v hv=>?_) hU (λi hi=>?_) (λj hj=>xC I (ht.at_ hj).2) λh' tk kb hS Cw k=>?_
 ·refine nq hb ?_;rw[<-hs1]at hQ;exact hQ
 ·rcases aw.mp m with z|m
  ·exact lj _ z.symm
  ·exact jd lp (cg.mp m)
 ·rw[cg.mp hb];exact jl _
 ·rw[<-hs1];exact az _ rfl
 ·have hi:i<ks.length:=by have:=(dw.mp hv).1;rwa [Bl]at this
  have:(bV ks.length (eU vs))[i]?=some (.ref (eU vs i)):=by simp[bV,hi]
  rw[yv,this]at hv;exact(cx hv).symm
 ·refine(lH B' _ _).mpr ?_;show ks.getD i []∈ks;simp[hi]
 ·obtain⟨o,es,ep,t,P⟩:=hS;refine⟨.ref s.heap.objs.size,_,I.laid (t':=tk) (o:=.frz o (.own 0)) k (ak _) ⟨P.obj,o,P.obj⟩,rfl,q _ o kb (I.hok.fresh (ak _)) ⟨es,ep,t,λh e=>P.at' e⟩ ⟨λz hz=>?_,λz hz=>?_,λz hz=>?_⟩⟩
  ·obtain⟨j,hj,rfl⟩:=Cw.from_ z hz;exact(ht.at_ hj).2
  ·obtain⟨j,hj,rfl⟩:=Cw.from_ z hz;show ks.getD j []∈ks;simp[hj]
  ·obtain⟨j,hj,rfl⟩:=jr hz;have:=Cw.all j hj;simpa[hj]using this
theorem i9 (rm:Aw k X.A):Af X (.type "set") (λxs H Q=>LK X xs H Q∨LV X xs H Q):=by
 intro pins s σ H xs us Q I rv h
 rcases h with h|h
 ·exact c9 rm pins s σ H xs us Q I rv h
 ·exact i8 rm pins s σ H xs us Q I rv h
def pF (x:Dv) (h:Hs):Option zm :=match x with
 | .ref i=>match getL h i with
  |some xs=>bG lJ xs
  |none=>none
 | .tup xs=>bG lJ xs
 |_=>none
def lK (x:Dv) (h:Hs):Rs Dv:=match pF x h with
 |some ks=>if(pE ks&&decide ((eC cW ks).length<64))=true then .ok (.ref h.length) (h++[.lst ((eC cW ks).map pD)])else .bad
 |none=>.bad
theorem LW (g:Good X G E k) (hg:Gl X "sorted") (hm:X.mg "sorted" = none) (hg2:Gl X "set") (hm2:X.mg "set" = none) (ha:dR X G E [e] aQ)
  (he:ar [e] X.env=[(false,eval e X.env)]:=by rfl) (Df:ar [Expr.Call (.Name "set" p2) [e] [] Bv] X.env=[(false,eval (.Call (.Name "set" p2) [e] [] Bv) X.env)]:=by rfl):
  aK X G E (.Call (.Name "sorted" p) [.Call (.Name "set" p2) [e] [] Bv] [] pos) (aD (f1 lK) aQ):=λhK=>
 PE.imp (sE (d7 g.room) hg hm JI (jC (qB (i9 g.room) hg2 hm2 LQ (ha hK) (by decide) (by decide) he rfl) jM Df) (by decide) (by decide) Df rfl) λσ H Q ⟨μ,ρ,h,rs,s,o⟩=>by
  refine kC rs s o λμ1 ds h1 vs H1 x1 As s1 r1 o1=>?_;unfold f1 at o1
  split at o1
  ·rename_i d;obtain⟨v,rfl,rv⟩:=qL r1;unfold lK at o1
   cases q:pF d h1 with
   |none=>rw[q]at o1;exact o1.elim
   |some ks=>
    rw[q]at o1;dsimp only at o1
    split at o1
    ·rename_i h0;rw[cw]at h0;have h64:(eC cW ks).length<64:=by simpa using h0.2
     have fin:∀(l:ah) (o:Obj) (kb:KB),H1 l=none->xE X.prog X.w l o kb->KbOk H1 kb ks->LL X [.ref l] (aZ H1 l (.frz o (.own 0))) Q:=λl o kb hl so ko=>by have sm:=dG (o:=.frz o (.own 0)) hl;refine⟨l,o,kb,ks,rfl,eG,so,⟨λp hp=>sm _ _ (ko.tup p hp),ko.frm,ko.all⟩,LM h0.1,h64,λD Bp hD ht=>?_⟩;exact nM (E:=E) (s1.same sm) (CF ht) hD (λμ' H' v x'=>o1 μ' H' v ((Ext.same sm).trans x'))
     cases d with
     |ref i=>
      dsimp only[pF]at q
      cases q1:getL h1 i with
      |none=>rw[q1]at q;cases q
      |some xs=>rw[q1]at q;obtain⟨vs,e1,r2⟩:=s1.ob i _ (dP q1);obtain⟨_,rfl⟩:=rv;exact .inl ⟨_,vs,ks,rfl,e1,xF r2 q,by omega,fin⟩
     |tup xs=>obtain⟨a,vs,rfl,e1,r2⟩:=rv;exact .inr ⟨_,vs,ks,rfl,e1,xF r2 q,by omega,fin⟩
     |_=>cases q
    ·exact o1.elim
  ·exact o1.elim
end
theorem LX {α β:Type}{f g:α->Option β}:∀l:List α,(∀x∈l,f x=g x)->l.filterMap f=l.filterMap g
 | [],_=>rfl
 |x::l,h=>by rw[cq,cq,h x (by simp),LX l λy hy=>h y (by simp[hy])]
section
variable{X:Cx}{G:Cfg}{E:XK}{o:bq}{mo:M Dv}{ms:MO}{se:bq}{p2 pos:Pos}
end
end L2.Mr
namespace L2.Mr.Com
open PySem PySem.Spec PyProof.Rows L2 L2.Mr
def CI:MS:=(aN (dZ (m1 (fW qX) (aA 0)) (m1 qG (m1 (fW qY) (aA 0)))))
def F_q2:zt:=aR 1 1 (CI)
def xI:MS:=(aN (dZ (aD F_q2 (aB (aA 0) aC)) (qF lC lC (aA 1) (aA 0) (aA 2))))
def F_qo:zt:=aR 3 3 (xI)
def LY:MS:=(aN (mL iS (aX (aQ qT (aB (aA 0) (aB (tV (aA 0) (tF (mC (.int 1))) tE) aC))) [none,none] (bN 2 (aO (aF 0) (aO (aF 1) bP))) bR (aU (m2 eI (aA 0) (aA 1))))))
def F_qx:zt:=aR 1 1 (LY)
def CJ:MS:=(aN (aD F_qo (aB (aA 1) (aB (mC (.int 0)) (aB (m2 eY (aA 0) (mC (.int 1))) aC)))))
def F_q1:zt:=aR 2 2 (CJ)
def xJ:MS:=(aN (dZ (m1 (fW lE) (aA 1)) (mL iS (aX (aW dF (aA 1)) [none,some 0] (aF 0) bR (aU (aD F_q1 (aB (aA 1) (aB (aA 0) aC))))))))
def F_qm:zt:=aR 2 2 (xJ)
def CK:MS:=(aN (dZ (aD F_qm (aB (aA 0) (aB (aA 1) aC))) (m2 cI (aD (f1 eZ) (aB (aA 1) aC)) (mC (.int 2)))))
def F_q6:zt:=aR 2 2 (CK)
def LZ:MS:=(aN (mL iS (aX (aW dF (aA 1)) [none,some 0] (aF 0) bR (aU (aD F_q6 (aB (aA 1) (aB (aA 0) aC)))))))
def F_qu:zt:=aR 2 2 (LZ)
def L0:MS:=(aN (mL sV (aX (aW dF (aA 0)) [none,none] (bN 2 (aO (aF 0) (aO (aF 1) bP))) bR (aU (m2 cI (aA 0) (aA 1))))))
def F_qw:zt:=aR 1 1 (L0)
def L1:MS:=(aN (mL iS (aX (aW dF (aA 0)) [none,none,none,none,some 0] (bN 2 (aO (aF 0) (aO (aF 1) bP))) bR (fR (aW dF (aA 4)) (bN 2 (aO (aF 2) (aO (aF 3) bP))) (mB (m2 cI (aA 1) (aA 2))) (aU (m2 (cN false) (aV (aB (aA 0) (aB (aA 3) aC))) (aA 4)))))))
def F_qh:zt:=aR 1 1 (L1)
def L3:MS:=(aJ (bQ (eH (dY (cD (m1 (fW lE) (aA 0)))) (mB (m2 cJ (aD (f1 eZ) (aB (aA 0) aC)) (mC (.int 2))))) (aN (mC (.bl false))) bW) (aJ (aM (aA 0) (bN 2 (aO (aF 1) (aO (aF 2) bP)))) (aJ (bQ (eH (dY (cD (aD F_qo (aB (aA 1) (aB (mC (.int 1)) (aB (mC (.int 6)) aC)))))) (dY (cD (m1 (fW lE) (aA 2))))) (aN (mC (.bl false))) bW) (aJ (bQ (eH (dY (cD (aD F_qu (aB (aA 1) (aB (aA 2) aC))))) (dY (cD (aD F_qx (aB (aA 2) aC))))) (aN (mC (.bl false))) bW) (aN (dZ (m1 qG (aD F_qw (aB (aA 2) aC))) (aD F_qh (aB (aA 2) aC))))))))
def F_q0:zt:=aR 1 3 (L3)
def xK (scr:zo):MS:=(aJ (bQ (mB (m2 eI (aA 1) (aD (f1 (iH scr)) (aB (aA 0) aC)))) (aN (m2 (gI scr) (aA 0) (aA 1))) bW) (aN (mC (.int 0))))
def F_qe (scr:zo):zt:=aR 2 2 (xK scr)
def xM (scr:zo):MS:=(aJ (aM (aD (F_qe scr) (aB (aA 0) (aB (aA 1) aC))) (aF 2)) (aJ (bQ (mB (m2 wO (aA 2) (m2 tG (mC (.int 10)) (mC (.int 18))))) (aN (dM (aB (m2 eY (aA 2) (m2 tG (mC (.int 10)) (mC (.int 18)))) (aB (mC (.bl true)) aC)))) bW) (aN (dM (aB (m2 lB (aA 2) (mC (.int 2147483647))) (aB (mC (.bl false)) aC))))))
def F_ql (scr:zo):zt:=aR 2 3 (xM scr)
def CL:MS:=(aJ (bQ (cD (m2 aS (aA 0) (mC (.int 1)))) (aJ (aM (m2 lB (m2 aS (aA 0) (mC (.int 0))) (aA 1)) (aF 2)) (aJ (sX (aA 0) (mC (.int 0)) (m2 tL (m2 aS (aA 0) (mC (.int 0))) (aA 1))) (aN (aA 2)))) bW) (aJ (sX (aA 0) (mC (.int 0)) (m2 lB (m2 cC (m2 oX (m2 aS (aA 0) (mC (.int 0))) (mC (.int 48271))) (mC (.int 29))) (mC (.int 2147483647)))) (aJ (aM (m2 lB (m2 cC (m2 cC (m2 oX (m2 aS (aA 0) (mC (.int 0))) (m2 aS (aA 0) (mC (.int 0)))) (m2 oX (mC (.int 39373)) (m2 aS (aA 0) (mC (.int 0))))) (mC (.int 7))) (mC (.int 2147483629))) (aF 3)) (aJ (aM (m2 lB (m2 cC (m2 oX (aA 3) (aA 3)) (m2 oX (mC (.int 16807)) (aA 3))) (mC (.int 2147483587))) (aF 3)) (aN (m2 lB (m2 tL (aA 3) (mC (.int 8))) (aA 1)))))))
def F_qs:zt:=aR 2 4 (CL)
def CM:MS:=(aJ (aM (aD (f1 iU) (aB (aA 1) aC)) (aF 2)) (aJ (aM (dM aC) (aF 3)) (aJ (iL (mB (m2 cJ (aA 2) (dM aC))) (bJ (oU (aA 3) (tD (aA 2) (aD F_qs (aB (aA 0) (aB (aD (f1 eZ) (aB (aA 2) aC)) aC)))))) 40) (aN (aA 3)))))
def F_qb:zt:=aR 2 4 (CM)
def iW:MS:=(aJ (aM (aD (f1 lK) (aB (aA 0) aC)) (aF 1)) (iL (cD (mC (.bl true))) (aJ (aM (aD (f1 iU) (aB (aA 1) aC)) (aF 2)) (aJ (gC (aW bY (aA 1)) (bN 2 (aO (aF 3) (aO (aF 4) bP))) (bJ (oV (aA 2) (aX (aW bY (aA 1)) [none,none,some 3,some 4] (bN 2 (aO (aF 0) (aO (aF 1) bP))) (mB (m2 cI (aA 3) (aA 0))) (aU (aV (aB (aA 2) (aB (aA 1) aC)))))))) (aJ (aM (aD (f1 lK) (aB (aA 2) aC)) (aF 2)) (aJ (bQ (mB (m2 cI (aA 2) (aA 1))) (aN (aA 1)) bW) (aM (aA 2) (aF 1)))))) 40))
def F_qg:zt:=aR 1 5 (iW)
def iX:MS:=(aJ (aM (m2 eY (aA 1) (m2 aS (dM (aB (mC (.int 0)) (aB (mC (.int 0)) (aB (mC (.int 1)) (aB (mC (.int 2)) (aB (mC (.int 0)) (aB (mC (.int 3)) (aB (mC (.int 1)) (aB (mC (.int 4)) aC))))))))) (aD F_qs (aB (aA 0) (aB (mC (.int 8)) aC))))) (aF 2)) (aJ (aM (aD iR (aB (mC (.int 1)) (aB (aA 2) aC))) (aF 2)) (aJ (aM (aD F_qb (aB (aA 0) (aB (aD (f1 rH) (aB (aA 2) aC)) aC))) (aF 3)) (aJ (aM (aD F_qs (aB (aA 0) (aB (mC (.int 5)) aC))) (aF 4)) (aJ (aM (dM aC) (aF 5)) (aJ (aM (bH (aX (aW bY (aA 3)) [none,some 0] (aF 0) bR (aU (aD F_qs (aB (aA 1) (aB (mC (.int 3)) aC)))))) (aF 6)) (aJ (gC (aQ cP (aB (aA 2) aC)) (aF 7) (gC (aQ hY (aB (m2 cC (aA 7) (mC (.int 1))) (aB (aA 2) aC))) (aF 8) (aJ (aM (dM (aB (m2 cI (aD F_qs (aB (aA 0) (aB (mC (.int 6)) aC))) (mC (.int 0))) (aB (m2 cI (aD F_qs (aB (aA 0) (aB (mC (.int 2)) aC))) (mC (.int 0))) (aB (m2 lD (aD F_qs (aB (aA 0) (aB (mC (.int 4)) aC))) (mC (.int 0))) aC)))) (aF 9)) (aJ (aM (m2 cC (aA 9) (dM (aB (m2 eI (m2 aS (aA 6) (aA 7)) (m2 aS (aA 6) (aA 8))) (aB (m2 cI (m2 aS (aA 6) (aA 7)) (m2 aS (aA 6) (aA 8))) aC)))) (aF 9)) (bQ (cD (m2 aS (aA 9) (aA 4))) (bJ (oU (aA 5) (aV (aB (m2 aS (aA 3) (aA 7)) (aB (m2 aS (aA 3) (aA 8)) aC))))) bW))))) (aJ (bQ (mB (m2 cI (aA 4) (mC (.int 3)))) (aJ (aM (dM aC) (aF 5)) (gC (aQ cP (aB (aA 2) aC)) (aF 7) (aM (m2 cC (aA 5) (bH (aX (aQ cP (aB (aA 2) aC)) [none,some 7,some 6] (aF 0) (mB (m2 eI (m2 aS (aA 2) (aA 1)) (m2 aS (aA 2) (aA 0)))) (aU (aV (aB (aA 1) (aB (aA 0) aC))))))) (aF 5)))) bW) (aN (aV (aB (aA 2) (aB (aD (f1 fK) (aB (aD F_qg (aB (aA 5) aC)) aC)) aC))))))))))))
def F_qj:zt:=aR 2 10 (iX)
end L2.Mr.Com
namespace L2.Mr
open PySem PySem.Spec PyProof.Rows L2
def mT (i j:Nat) (ma:M zu ):MS:=λρ h=>(ma ρ h).thenS λds h1=>match ds with
 | [a,b]=>.nx ((ρ.set i (some a)).set j (some b)) h1
 |_=>.bad
section
variable{X:Cx}{G:Cfg}{E:XK}{pos:Pos}
theorem L4 {i j:Nat}{x y:Str}{a b:bq}{ma:M zu }{px py pt:Pos}{kt k2 pt2} (hc:X.calm=true) (hN:X.N.Nodup) (hi:X.N[i]?=some x) (hj:X.N[j]?=some y) (Bo:i≠j)
  (hx:X.env.scope.names.lookup x=some .local) (hy:X.env.scope.names.lookup y=some .local) (ha:dR X G E [a,b] ma)
  (hw:swappedStores [.Tuple [.Name x px,.Name y py] kt pt] (.Tuple [a,b] k2 pt2) X.env=pure (some [x,y]):=by rfl)
  (hs:swapsWithSole [.Tuple [.Name x px,.Name y py] kt pt] (.Tuple [a,b] k2 pt2) pos.line X.env=pure false:=by rfl):
  iI X G E (.Assign [.Tuple [.Name x px,.Name y py] kt pt] (.Tuple [a,b] k2 pt2) pos) (mT i j ma):=λhK=>PS.imp (Q9 hc hN hi hj Bo hx hy (ha hK) hw hs) λD σ H ⟨μ,ρ,h,rs,s,o⟩=>
 ⟨μ,ρ,h,rs,s,(o.thenS (R:=RelDL G)).mono λvs H1 ⟨μ1,ds,h1,x1,s1,r1,o1⟩=>by
  match ds,r1,o1 with
  | [d1,d2],r1,o1=>obtain⟨v1,vs1,rfl,p,q⟩:=r1;obtain⟨v2,vs2,rfl,p',q'⟩:=q;rw[RelDL]at q';subst q';exact⟨_,_,rfl,o1 μ1 H1 _ Ext.refl s1 (((rs.mono x1).set i p).set j p')⟩
  | [],_,o1=>exact o1.elim
  | [_],_,o1=>exact o1.elim
  |_::_::_::_,_,o1=>exact o1.elim⟩
end
def oF:M Dv:=λ_ _=>.bad
def xN (f:bq->M Dv):List bq->M zu 
 | []=>aC
 |e::es=>aB (f e) (xN f es)
def pG (lk:Str->Option Nat):Nat->bq->M Dv
 |0,_=>oF
 |n+1,e=>match e with
  | .Constant c _ _=>match c with
   | .int i=>mC (.int i)
   | .bool b=>mC (.bl b)
   | .none=>mC .non
   | .str x=>mC (.str x)
   |_=>oF
  | .Tuple es _ _=>aV (xN (pG lk n) es)
  | .List es _=>dM (xN (pG lk n) es)
  | .Dict [] [] _=>mC .edc
  | .Name x _=>match lk x with
   |some i=>aA i
   |none=>oF
  | .UnaryOp .USub a _=>m1 BA (pG lk n a)
  |_=>oF
def L5 (e:bq):Prop:=∀es env,ar (e::es) env=(false,eval e env)::ar es env
section
variable{X:Cx}{G:Cfg}{E:XK}{lk:Str->Option Nat}
theorem xO {e:bq}:aK X G E e oF:=λ_ pins s σ H Q _ ⟨_,_,_,_,_,o⟩=>o.elim
theorem j3 {e:bq}{es:List bq}{ms:M zu }:dR X G E (e::es) (aB oF ms):=λ_ pos pins s σ H Q _ ⟨_,_,_,_,_,o⟩=>o.elim
theorem CN {f:bq->M Dv}(hf:∀e,aK X G E e (f e)/\(L5 e∨f e=oF)):∀es,dR X G E es (xN f es)
 | []=>aL
 |e::es=>by
  obtain⟨a,b|b⟩:=hf e
  ·exact aI a (CN hf es) (b es X.env)
  ·show dR X G E (e::es) (aB (f e) _);rw[b];exact j3
theorem xP (hv:∀x i pos,lk x=some i->aK X G E (.Name x pos) (aA i)):∀n e,aK X G E e (pG lk n e)/\(L5 e∨pG lk n e=oF)
 |0,_=>⟨xO,.inr rfl⟩
 |n+1,e=>by
  unfold pG
  split
  ·split
   ·exact⟨bE,.inl λ_ _=>rfl⟩
   ·exact⟨gH,.inl λ_ _=>rfl⟩
   ·exact⟨UT,.inl λ_ _=>rfl⟩
   ·exact⟨sN,.inl λ_ _=>rfl⟩
   ·exact⟨xO,.inr rfl⟩
  ·exact⟨fU (CN (xP hv n) _),.inl λ_ _=>rfl⟩
  ·exact⟨mH (CN (xP hv n) _),.inl λ_ _=>rfl⟩
  ·exact⟨XT,.inl λ_ _=>rfl⟩
  ·rename_i x pos
   split
   ·rename_i i q;exact⟨hv x i pos q,.inl λ_ _=>rfl⟩
   ·exact⟨xO,.inr rfl⟩
  ·exact⟨XZ (xP hv n _).1,.inl λ_ _=>rfl⟩
  ·exact⟨xO,.inr rfl⟩
theorem L6 (n:Nat) {e:bq}{m:M Dv}(h:pG (λ_=>none) n e=m:=by rfl):aK X G E e m:=h▸(xP (λ_ _ _ h=>by cases h) n e).1
end
section
variable{X:Cx}{G:Cfg}{E:XK}{st:gf}{rest:List gf}{m u:MS}{pos:Pos}
end
section
variable{P:bh}{w:cp}{K:aq}{mg:Str->Option af}{base:da}{G:Cfg}{N:zr}{f:ah}{k:Nat}
end
open SR
def lL (ns:zo):Nat:=(firstMet (λi=>ns.getD i 0) ns.length).length
section
variable{prog:bh}{w:cp}{A:cn}{E:af->ag->Prop}{s:ag}
theorem j4 {l:ah}{T:String}{it:Obj}{n:Nat}{P:Nat->af->Prop}{St:Nat->da->Prop}{fp wr:List ah}(ky:Nat->Int) {Q:af->ag->Prop}
  (hT:s.TypeIs (.ref l) T) (n1:isSubtype (.type T) (.type "set")=pure false) (n2:isSubtype (.type T) (.type "frozenset")=pure false) (n3:(ud T==ud "dict")=false)
  (hi:∀(B:cn) (Q':af->ag->Prop) (E':af->ag->Prop),Q' (.ref (s.heap.objs.size+1)) { s with heap:=(s.heap.push (bare w)).push it }->wpAny (model prog w) B (pyIter (.ref l)) Q' E' { s with heap:=s.heap.push (bare w) })
  (W:Walks prog w A.in1.in1.in1 (s.heap.objs.size+1) fp wr n P St) (hfp:s.heap.objs.size∉fp) (hwr:∀b∈wr,s.heap.objs.size<b) (h0:St 0 ((s.heap.push (bare w)).push it))
  (hval:∀i v,P i v->∃t,v=.int (ky i) t) (hn:n+1<scanBound)
  (q:∀(h':da) (tk:Nat),h'.SetOf (intKind prog w) s.heap.objs.size (λk=>(firstMet ky n).any (·==k)) (firstMet ky n).length->(∀b o,s.heap.get? b=some o->h'.get? b=some o)->Q (.ref s.heap.objs.size) { s with heap:=h',toks:=tk }):
  wpAny (model prog w) A (call (.type "set") [.ref l]) Q E s:=by
 refine LF (N:=λx s1=>x=.ref s.heap.objs.size/\s1={ s with heap:=s.heap.push (bare w) }) (LD _ ⟨rfl,rfl⟩) ?_
 rintro x s1 ⟨rfl,rfl⟩
 have up:∀b o,s.heap.get? b=some o->(s.heap.push (bare w)).get? b=some o:=λb o e=>aj _ e;have hb:(s.heap.push (bare w)).get? s.heap.objs.size=some (bare w):=az _ rfl;have hS:nv { s with heap:=s.heap.push (bare w) } (.ref s.heap.objs.size) "set" := ⟨_,hb,rfl⟩;refine⟨hS,lr F.called_set.init.plain F.entry_set_init (check_set_init_1 hS ?_)⟩;obtain⟨ol,el,cl⟩:=hT;have hl1:nv { s with heap:=s.heap.push (bare w) } (.ref l) T:=⟨ol,up l ol el,cl⟩
 have Dg:((s.heap.push (bare w)).push it).get? s.heap.objs.size=some (bare w):=aj _ hb;have run:∀(R:vt->ag->Prop),(∀h' tk,h'.SetOf (intKind prog w) s.heap.objs.size (λk=>(firstMet ky n).any (·==k)) (firstMet ky n).length->(∀b o,s.heap.get? b=some o->h'.get? b=some o)->R (.ok (.ret .none)) { s with heap:=h',toks:=tk })->
   codeAny (model prog w) A.in1.in1 (.builtin "set.update.loop" ⟨[.ref s.heap.objs.size,.ref (s.heap.objs.size+1)],[]⟩) R { s with heap:=(s.heap.push (bare w)).push it }:=λR hR=>by
  refine codeAny_set_update_loopS W.toS s.heap.objs.size hfp ky hval hn n 0 _ rfl (iu _) h0 (SetOf_congr ((setObjOf_fresh (knd:=intKind prog w) _).setOf Dg (by unfold scanBound;omega)) (λ_=>rfl) rfl) λs' hm hS'=>?_;rw[Moved.eq_with hm];refine hR s'.heap s'.toks hS' λb o e=>?_;have hlt:=av e;exact hm.heap b o (λm=>(aw.mp m).elim (bf hlt) λm=>yt hlt (hwr b m)) (aj _ (up b o e))
 unfold kz.«set.__init__» noKeywords sk;generalize hPI:pyIter=PI;unfold bare at hb
 wp_walk
 subst hPI;refine hi _ _ _ ?_;refine ae (yr (run _ λh' tk S keep=>?_));exact ai (ai ⟨rfl,q h' tk S keep⟩)
end
section
variable{X:Cx}{G:Cfg}{E:XK}{k:Nat}{e:bq}{aQ:M zu }{p p2 pos Bv:Pos}
abbrev j5:List V->Hp->VK->Prop:=λxs H Q=>∃(p:ah) (ns:zo),xs=[.ref p]/\H p=some (.tup (ns.map V.int))/\ns.length<1000/\∀l S,H l=none->Q (.ref l) (aZ H l (.set S (lL ns)))
theorem j6 (hc:X.calm=true):Af X (.type "set") j5:=by
 intro pins s σ H xs us Q I rv ⟨p,ns,e,hp,hz,q⟩;subst e;obtain⟨u,rfl,ru⟩:=gG rv;cases ru;obtain⟨its,rits,pl,_⟩:=I.tuple (Aq.of hp);have lp:=I.hok.lt hp;have hn:its.toArray.size=ns.length:=by have:=rits.length;simp at this ⊢;omega
 have hI:s.heap.IsTuple p its.toArray:=pl;have hne:p≠s.heap.objs.size+1:=bf (gr lp);have hb:(s.heap.push (bare X.w)).IsTuple p its.toArray:=xb (items:=its.toArray) hI _;have hs1:(s.heap.push (bare X.w)).objs.size=s.heap.objs.size+1:=tq _ _;have W:=Walks.tuple (prog:=X.prog) (w:=X.w) (A:=X.A.in1.in1.in1) (show X.A.in1.in1.in1.handled=none from I.ok.hd hc) (s.heap.objs.size+1) p hne its.toArray;rw[hn]at W;refine j4 (T := "tuple") (it:={ cls:=.type "tuple_iterator",data:=.fields #[.ref p,.int 0 0] }) (λi=>ns.getD i 0) hI.typeIs sub_tuple.1 sub_tuple.2 (by decide) (λB Q' E' hQ=>?_) W (λm=>?_) (λb hb=>?_) ⟨⟨{ cls:=.type "tuple_iterator",data:=.fields #[.ref p,.int 0 0] }, ?_,rfl,rfl⟩,xb (items:=its.toArray) hb _⟩ (λi v hv=>tJ rits hv) (by unfold scanBound;omega) λh' tk hS kk=>?_
 ·refine nq hb ?_;rw[<-hs1]at hQ;exact hQ
 ·rcases aw.mp m with z|m
  ·exact lj _ z.symm
  ·exact jd lp (cg.mp m)
 ·rw[cg.mp hb];exact jl _
 ·rw[<-hs1];exact az _ rfl
 ·exact⟨.ref s.heap.objs.size,_,I.laid (t':=tk) (o:=.set _ (lL ns)) kk (ak _) hS,rfl,q _ _ (I.hok.fresh (ak _))⟩
abbrev j7:List V->Hp->VK->Prop:=λxs H Q=>∃(l:ah) (S:Int->Bool) (n:Nat),xs=[.ref l]/\H l=some (.set S n)/\Q (.int n) H
theorem j8:Af X (.builtin "len") j7:=by intro pins s σ H xs us Q I rv ⟨l,S,n,e,hl,q⟩;subst e;obtain⟨u,rfl,ru⟩:=gG rv;cases ru;obtain⟨o,es,ep,t,ho,hex,hd,_,_,Bl,hf,en⟩:s.heap.SetOf (intKind X.prog X.w) l S n:=I.hok l _ hl;refine call_len_set ho hex hd hf (by unfold scanBound at Bl;omega) ?_;rw[en];exact⟨.int n,H,I.tok _,⟨_,rfl⟩,q⟩
def lM:Dv->Hs->Rs Dv
 | .tup xs,h=>match bG dU xs with
  |some ns=>if ns.length<1000 then .ok (.int (lL ns)) h else .bad
  |none=>.bad
 |_,_=>.bad
theorem j9 (hc:X.calm=true) (hg:Gl X "len") (hm:X.mg "len" = none) (hg2:Gl X "set") (hm2:X.mg "set" = none) (ha:dR X G E [e] aQ)
  (he:ar [e] X.env=[(false,eval e X.env)]:=by rfl) (Df:ar [Expr.Call (.Name "set" p2) [e] [] Bv] X.env=[(false,eval (.Call (.Name "set" p2) [e] [] Bv) X.env)]:=by rfl):
  aK X G E (.Call (.Name "len" p) [.Call (.Name "set" p2) [e] [] Bv] [] pos) (aD (f1 lM) aQ):=λhK=>
 PE.imp (sE j8 hg hm wx (jC (qB (j6 hc) hg2 hm2 LQ (ha hK) (by decide) (by decide) he rfl) jM Df) (by decide) (by decide) Df rfl) λσ H Q ⟨μ,ρ,h,rs,s,o⟩=>by
  refine kC rs s o λμ1 ds h1 vs H1 x1 As s1 r1 o1=>?_;unfold f1 at o1
  split at o1
  ·rename_i d;obtain⟨v,rfl,rv⟩:=qL r1
   cases d with
   |tup xs=>
    dsimp only[lM]at o1
    cases q:bG dU xs with
    |none=>rw[q]at o1;exact o1.elim
    |some ns=>
     rw[q]at o1;dsimp only at o1
     split at o1
     ·rename_i h0;obtain⟨a,vs,rfl,e1,r2⟩:=rv;refine⟨a,ns,rfl,by rw[e1,lF r2 q],h0,λl S hl=>⟨l,S,_,rfl,eG, ?_⟩⟩;exact o1 μ1 _ _ (Ext.same (dG hl)) (s1.same (dG hl)) rfl
     ·exact o1.elim
   |_=>exact o1.elim
  ·exact o1.elim
end
theorem L7 (ns:zo):∀i,i<=ns.length->∀k,k∈firstMet (λi=>ns.getD i 0) i↔k∈ns.take i
 |0,_,k=>by simp[firstMet_zero]
 |i+1,h,k=>by
  have ih:=L7 ns i (by omega);have hi:i<ns.length:=by omega
  rw[firstMet_succ];unfold step_dedup;rw[ni hi]
  by_cases c:(firstMet (λi=>ns.getD i 0) i).any (·==ns.getD i 0)=true
  ·rw[if_pos c];simp only[jt,beq_iff_eq,exists_eq_right]at c;rw[ih,cm];refine⟨.inl,λz=>z.elim id λz=>?_⟩;have:k=ns[i]:=by simpa using z
   rw[this];have:=(ih _).mp c;simpa[hi]using this
  ·rw[if_neg c,cm,cm,ih];simp[hi]
theorem k6 (ns:zo):lL ns=ns.length↔ns.Nodup:=by
 have key:∀i,i<=ns.length->((firstMet (λi=>ns.getD i 0) i).length=i↔(ns.take i).Nodup):=by
  intro i
  induction i with
  |zero=>intro _;simp[firstMet_zero]
  |succ i ih=>
   intro h;have hi:i<ns.length:=by omega
   have ih:=ih (by omega);have le:=firstMet_length_le (λi=>ns.getD i 0) i;rw[firstMet_succ,step_length,ni hi,kl];have hm:((firstMet (λi=>ns.getD i 0) i).any (·==ns.getD i 0)=true)↔ns[i]∈ns.take i:=by rw[<-L7 ns i (by omega)];simp[hi]
   by_cases c:(firstMet (λi=>ns.getD i 0) i).any (·==ns.getD i 0)=true
   ·rw[if_pos c];refine⟨λz=>by omega,λz=>?_⟩;exact absurd rfl (z.2.2 _ (hm.mp c) _ (cg.mpr rfl))
   ·rw[if_neg c];refine⟨λz=>⟨ih.mp (by omega),by simp,λa ha b hb e=>?_⟩,λz=>by rw[ih.mpr z.1]⟩;have:b=ns[i]:=by simpa using hb
    subst this;subst e;exact c (hm.mpr ha)
 have:=key ns.length (ak _);rw[List.take_length]at this;exact this
section
variable{prog:bh}{w:cp}{A:cn}{E:af->ag->Prop}{s:ag}{z TI TO i j u v T:ah}{xs ys:List af}{st su:Nat->da->Prop}{f1:Bool}
end
section
variable{X:Cx}{pins:List (ah×Obj)}{σ:St}{H:Hp}{s:ag}{B:cn}{z TI TO i j t u:ah}{vs ws:List V}{n:Nat}
end
abbrev CO (acc:List af) (c:Nat):Obj:={ cls:=.type "list",dict:=none,data:=.seq acc.toArray c,slots:=#[] }
section
variable{X:Cx}{pins:List (ah×Obj)}{σ:St}{B:cn}{z TI TO i j t u S:ah}{vs ws:List V}{H0:Hp}
end
section
variable{X:Cx}{G:Cfg}{E:XK}{a b:bq}{ta:TA}{ms:M zu }{p p2 pos Bv:Pos}
end
open PySem.SeqAt PySem.MeetsSeq PySem.MeetsSeq2 PySem.MeetsSeq3
section
variable{prog:bh}{w:cp}{A:cn}{Ee:af->ag->Prop}{s:ag}
end
section
variable{X:Cx}{G:Cfg}{E:XK}{k:Nat}{e:bq}{aQ:M zu }{p p2 pos Bv:Pos}
end
theorem l0 (a d:af):argsOk "max" ⟨[a],[("default",d)]⟩:=by unfold argsOk;kernel_rfl
section
variable{prog:bh}{w:cp}{A:cn}{I S:ah}{fp wr:List ah}{n:Nat}{P:Nat->af->Prop}{St:Nat->da->Prop}{R:vt->ag->Prop}{ky:Nat->Int}{d:af}
abbrev mU:Int->Int->Bool:=λa b=>decide (a>b)
def L8 (P:Nat->af->Prop) (ky:Nat->Int) (k:Nat) (acc:List af):Prop:=match k with
 |0=>acc=[]
 |k+1=>∃i v,P i v/\ky i=fF mU ky k/\acc=[v,v]
theorem l5 (W:Walks prog w A.in1 I fp wr n P St) (hc:CmpOf prog w A.in1 .Gt P (λi j=>mU (ky i) (ky j))) (hS:S∉fp):
  ∀(m k:Nat) (s:ag) (acc:List af) (c:Nat),k+m=n->St k s.heap->s.heap.get? S=some (CO acc c)->L8 P ky k acc->
   (∀v h' tk,(n=0/\v=d∨∃i p,P i v/\n=p+1/\ky i=fF mU ky p)->(∀b o,b∉wr->b≠S->s.heap.get? b=some o->h'.get? b=some o)->R (.ok (.ret v)) { s with heap:=h',toks:=tk })->
   codeAny (model prog w) A (.builtin "max.loop" ⟨[.ref I,.none,.ref S],[("default",d)]⟩) R s:=by
 have hw:S∉wr:=λh=>hS (W.sub _ h);have nm:(toString "max" ++ toString ".loop" : String) = "max.loop" := by decide
 have oth:∀(h:da) (f:Array af->Array af) b o,b≠S->h.get? b=some o->(h.update S (mw f)).get? b=some o:=λh f b o hb q=>(kg _ _ (dh hb)).trans q;intro m
 induction m with
 |zero=>
  intro k s acc c e st eS b fin;obtain rfl:k=n:=by omega
  refine kq F.entry_max_loop ?_;rw[jo F.plain_max_loop _];refine ae (m:=seqItems? (.ref S)) (gz eS rfl (ae (yw (W.done s _ _ st λh' tk kk=>?_))))
  cases k with
  |zero=>obtain rfl:acc=[]:=b;exact ae (ph (ai (fin d h' tk (.inl ⟨rfl,rfl⟩) λb o hb _ q=>kk b o hb q)))
  |succ k=>obtain⟨i,v,pv,ev,rfl⟩:=b;have eS':=kk S _ hw eS;refine ae (m:=updateSeq S λ_=>#[]) (yd eS' rfl (ae (qc (ai ?_))) (by show 2<=cf;decide) (by show 0<=cf+1;omega));exact fin v _ tk (.inr ⟨i,k,pv,rfl,ev⟩) λb o hb hs q=>oth _ _ b o hs (kk b o hb q)
 |succ m ih=>
  intro k s acc c e st eS b fin;refine kq F.entry_max_loop ?_;rw[jo F.plain_max_loop _];refine ae (m:=seqItems? (.ref S)) (gz eS rfl (ae (yw (W.item k s _ _ (by omega) st λx h' tk px Cj kk=>?_))));have eS':=kk S _ hw eS;have go:∀(g:da) (t:Nat) (Cc:List af) (c':Nat),g.get? S=some (CO Cc c')->L8 P ky (k+1) Cc->(∀b o,b≠S->h'.get? b=some o->g.get? b=some o)->
    wpAny (model prog w) A.in1 (again (.builtin (toString "max" ++ toString ".loop") ⟨[.ref I,.none,.ref S],[("default",d)]⟩)) (λf s'=>match f with | .done f=>R (.ok f) s' | .again c'=>c'.quiet=true/\codeAny (model prog w) A c' R s') (λe s'=>R (.error e) s') { s with heap:=g,toks:=t }:=λg t Cc c' eg b' og=>by
   rw[nm];refine ai ⟨vm F.plain_max_loop _,ih (k+1) _ Cc c' (by omega) (W.frame _ _ _ Cj λb hb o q=>og b o (λz=>hS (z▸hb)) q) eg b' λv h'' tk'' hv k''=>?_⟩;exact fin v h'' tk'' hv λb o hb hs q=>k'' b o hb hs (og b o hs (kk b o hb q))
  cases k with
  |zero=>obtain rfl:acc=[]:=b;refine ae (m:=updateSeq S λ_=>#[x,x]) (yd eS' rfl ?_ (by show 0<=cf;omega) (by show 2<=cf+1;decide));exact go _ _ [x,x] _ (jn _ eS' rfl) ⟨0,x,px,rfl,rfl⟩ λb o hb q=>oth _ _ b o hb q
  |succ k=>
   obtain⟨i,v,pv,ev,rfl⟩:=b;refine ae (ai (ae (yw (fz (ae (hc (k+1) i x v _ _ _ px pv (ae (fz (jq (ae (qc (ai ?_))))))))))));have best:fF mU ky (k+1)=if mU (ky (k+1)) (ky i)=true then ky (k+1)else ky i:=by rw[fF,<-ev]
   cases hb:mU (ky (k+1)) (ky i)with
   |true=>rw[hb,if_pos rfl]at best;rw[if_pos (show(λi j=>mU (ky i) (ky j)) (k+1) i=true from hb)];refine ae (m:=updateSeq S λ_=>#[x,x]) (yd eS' rfl (ae (qc ?_)) (by show 2<=cf;decide) (by show 2<=cf+1;decide));exact go _ _ [x,x] _ (jn _ eS' rfl) ⟨k+1,x,px,best.symm,rfl⟩ λb o hb q=>oth _ _ b o hb q
   |false=>rw[hb,if_neg (by decide)]at best;rw[if_neg (show ¬ (λi j=>mU (ky i) (ky j)) (k+1) i=true from by rw[show(λi j=>mU (ky i) (ky j)) (k+1) i=false from hb];decide)];refine ae (qc ?_);exact go _ _ [v,v] _ eS' ⟨i,v,pv,best.symm,rfl⟩ λb o _ q=>q
end
section
variable{X:Cx}{G:Cfg}{E:XK}{e:bq}{ml:M zu }{p pos kpos:Pos}
theorem l7 (hc:X.calm=true) {pins:List (ah×Obj)}{s:ag}{σ:St}{H:Hp}{Q:VK}{q:ah}{ns:zo}{dv:Int}{t0:Tok}(I:Inv X pins σ H s) (hp:H q=some (.lst (ns.map V.int))) (k:Q (.int (if ns=[]then dv else nX ns)) H):
  wpAny (model X.prog X.w) X.A (call (.builtin "max") [.ref q] [("default",.int dv t0)]) (EP X pins σ Q) X.xe s:=by
 obtain⟨its,rits,pl,hz⟩:=I.list (Bd.of hp);have hn:its.toArray.size=ns.length:=by have:=rits.length;simp at this ⊢;omega
 have lp:=I.hok.lt hp;have nm:(toString "max" ++ toString ".loop" : String) = "max.loop" := by decide
 have hh:X.A.in1.handled=none:=I.ok.hd hc;refine wpAny_call (lr F.plain_max F.entry_max ?_);have ck:checkBuiltinCall "max" ⟨[.ref q],[("default",.int dv t0)]⟩=pure ():=by
  have a:=l0 (.ref q) (.int dv t0);unfold argsOk at a;unfold checkBuiltinCall;rw[F.kind_max]
  revert a
  cases Manifest.signature? "max" with
  |none=>intro _;rfl
  |some sg=>intro a;exact a
 refine rn ck ?_;have bp:td "max" ["key","default"] 0 ⟨[],[("default",.int dv t0)]⟩=pure [none,some (.int dv t0)]:=by kernel_rfl
 refine ae (m:=td "max" ["key","default"] 0 ⟨[],[("default",.int dv t0)]⟩) (rn bp (ae (ai (ae (kv pl.isList (ae (fg ?_)))))));rw[nm];have ne1:q≠s.heap.objs.size:=bf lp;have W:=uh (prog:=X.prog) (w:=X.w) (A:=X.A.in1) hh s.heap.objs.size q ne1 its.toArray;rw[hn]at W;generalize hit:({ cls:=.type "list_iterator",data:=.fields #[.ref q,.int 0 0] }:Obj)=it;have e1:(s.heap.push it).get? s.heap.objs.size=some it:=az _ (by rw[<-hit];rfl);have s1:(s.heap.push it).objs.size=s.heap.objs.size+1:=tq _ _;have eS:((s.heap.push it).push { cls:=.type "list",dict:=none,data:=.seq ([]:List af).toArray }).get? (s.heap.objs.size+1)=some (CO [] 0):=by rw[<-s1];exact az _ rfl
 have l1:((s.heap.push it).push { cls:=.type "list",dict:=none,data:=.seq ([]:List af).toArray }).IsList q its.toArray:=(pl.isList.push _).push _;have st:((s.heap.push it).push { cls:=.type "list",dict:=none,data:=.seq ([]:List af).toArray }).get? s.heap.objs.size=some it:=aj _ e1;have kp:∀b o,s.heap.get? b=some o->((s.heap.push it).push { cls:=.type "list",dict:=none,data:=.seq ([]:List af).toArray }).get? b=some o:=λb o e=>aj _ (aj _ e);rw[s1];generalize ((s.heap.push it).push { cls:=.type "list",dict:=none,data:=.seq ([]:List af).toArray })=g at eS l1 st kp;refine ai ⟨vm F.plain_max_loop _,l5 (ky:=λi=>ns.getD i 0) W (CmpOf.ints_gt (λi=>ns.getD i 0) (λi v ev=>tJ rits ev)) ?_ ns.length 0 { s with heap:=g } [] 0 (by omega) ⟨⟨it,st,by rw[<-hit],by rw[<-hit];rfl⟩,l1⟩ eS rfl λv h' tk hv kk=>?_⟩
 ·intro m
  rcases aw.mp m with z|z
  ·exact lj _ z
  ·exact jd (gr lp) (cg.mp z)
 ·have I':Inv X pins σ H { s with heap:=h',toks:=tk }:=I.kept (t':=tk) λb o e=>by have lt:=av e;exact kk b o (λm=>bf lt (cg.mp m)) (bf (gr lt)) (kp b o e)
  rcases hv with⟨h0,rfl⟩|⟨i,p,pv,hp1,hb⟩
  ·have:ns=[]:=my.mp h0;rw[if_pos this]at k;exact⟨.int dv,H,I',⟨t0,rfl⟩,k⟩
  ·have hne:ns≠[]:=λz=>by rw[z]at hp1;cases hp1
   rw[if_neg hne]at k;obtain⟨t',rfl⟩:=tJ rits pv;refine⟨.int (nX ns),H,I',⟨t', ?_⟩,k⟩;rw[hb,nX,hp1];rfl
def pH (dv:Int) (x:Dv) (h:Hs):Rs Dv:=match x with
 | .ref i=>match getL h i with
  |some xs=>match bG dU xs with
   |some ns=>.ok (.int (if ns=[]then dv else nX ns)) h
   |none=>.bad
  |none=>.bad
 |_=>.bad
theorem l8 {me:M Dv}{dv:Int}{cj:Nat}{cpos:Pos}(hc:X.calm=true) (hg:Gl X "max") (hm:X.mg "max" = none) (he:aK X G E e me)
  (h1:backTo pos (ar [e] X.env)=(false,eval e X.env)::backTo pos (ar [] X.env):=by rfl) (h2:(backTo pos (ar [e] X.env)).any (·.1)=false:=by rfl):
  aK X G E (.Call (.Name "max" p) [e] [⟨some "default",.Constant (.int dv) cj cpos,kpos⟩] pos) (m1 (pH dv) me):=λhK pins s σ H Q I ⟨μ,ρ,h,rs,sm,o⟩=>by
 refine qu (oJ I hg hm AS (callWith_kw ?_ h1 h2));rw[h1];refine zd (bD (he hK pins s σ H _ I ⟨μ,ρ,h,rs,sm,Out.bind (R1:=Ac G) o⟩) λu s1 ⟨v,H1,I1,r1,μ1,x,h1',x1,sm1,rx,o1⟩=>Calls.spliced_nil (kws_cons (bD (FL pins s1 σ H1 (λv H=>v=.int dv/\H=H1) I1 ⟨rfl,rfl⟩) λu2 s2 ⟨v2,H2,I2,r2,e2,e3⟩=>kws_nil ?_)));subst e2 e3;obtain⟨t0,rfl⟩:=r2
 cases x with
 |ref i=>
  dsimp only[pH]at o1
  cases q1:getL h1' i with
  |none=>rw[q1]at o1;exact o1.elim
  |some xs=>
   rw[q1]at o1;dsimp only at o1
   cases q2:bG dU xs with
   |none=>rw[q2]at o1;exact o1.elim
   |some ns=>rw[q2]at o1;obtain⟨vs,ea,ra⟩:=sm1.ob i _ (dP q1);obtain⟨_,rfl⟩:=rx;cases r1;exact l7 hc I2 (by rw[ea,lF ra q2]) (o1.val sm1 rfl)
 |_=>exact o1.elim
end
section
variable{X:Cx}{G:Cfg}{E:XK}{o i o' i' e:bq}{me mo mi mo' mi':M Dv}{pos spos spos' tpos:Pos}{kt:Nat}
end
section
variable{X:Cx}{G:Cfg}{E:XK}{e:bq}{aQ:M zu }{p pos:Pos}
end
def L9:MS:=λ_ _=>.bad
theorem l9 {X:Cx}{G:Cfg}{E:XK}{st:gf}:iI X G E st L9:=λ_ _ _ _ _ _ _ ⟨_,_,_,_,_,o⟩=>o.elim
def mV (a b c:Int):Int:=if b>a then(if c>b then c else b)else if c>a then c else a
theorem m3 {x y z:V}{us:List af}(r:Ae [x,y,z] us):∃a b c,us=[a,b,c]/\RelV x a/\RelV y b/\RelV z c:=by
 cases r with
 |cons r1 r2=>obtain⟨b,c,rfl,r3,r4⟩:=sD r2;exact⟨_,_,_,rfl,r1,r3,r4⟩
theorem m5 {X:Cx}(hc:X.calm=true):Af X (.builtin "max") (λxs H Q=>∃i j k,xs=[.int i,.int j,.int k]/\Q (.int (mV i j k)) H):=by
 intro pins s σ H xs us Q I r h;obtain⟨i,j,k,rfl,q⟩:=h;obtain⟨a,b,c,rfl,⟨t,rfl⟩,⟨t',rfl⟩,⟨t2,rfl⟩⟩:=m3 r;refine max_three_ints (I.ok.hd hc) λh' tk k=>⟨_,H,I.kept k, ?_,q⟩
 unfold mV
 split <;> split <;> exact⟨_,rfl⟩
def pI:zt
 | [.int i,.int j,.int k],h=>.ok (.int (mV i j k)) h
 |_,_=>.bad
theorem m7 {G:Cfg}:nO G (λxs H Q=>∃i j k,xs=[.int i,.int j,.int k]/\Q (.int (mV i j k)) H) pI:=by
 intro E μ h H xs vs Q s r o;unfold pI at o
 split at o
 ·rw[RelDL]at r;obtain⟨v,r',rfl,h1,r⟩:=r;rw[RelDL]at r;obtain⟨v2,r',rfl,h2,r⟩:=r;rw[RelDL]at r;obtain⟨v3,r',rfl,h3,r⟩:=r;rw[RelDL]at r;rw[Ac]at h1 h2 h3;subst r;subst h1;subst h2;subst h3;exact⟨_,_,_,rfl,o.val s rfl⟩
 ·exact o.elim
theorem m8 {X:Cx}{G:Cfg}{E:XK}{e:bq}{es:List bq}{aQ:M zu }{p pos:Pos}(hc:X.calm=true) (hg:Gl X "max") (hm:X.mg "max" = none) (ha:dR X G E (e::es) aQ)
  (he:ar (e::es) X.env=(false,eval e X.env)::ar es X.env:=by rfl) (Bj:(backTo pos (ar es X.env)).any (·.1)=false:=by rfl):aK X G E (.Call (.Name "max" p) (e::es) [] pos) (aD pI aQ):=
 nP (m5 hc) m7 hg hm AS ha (by decide) (by decide) he Bj
end L2.Mr
namespace L2.Mr.K82
open PySem PySem.Spec PyProof.Rows L2 L2.Mr
open L2.Mr.Com
def mb_qq:MS:=(bQ (dY (cD (aD F_q0 (aB (aA 0) aC)))) (iJ 0 (aB (mC (.str "this is no order")) aC)) bW)
def F_qq:zt:=aR 1 1 (mb_qq)
def xQ:MS:=(aJ (bJ (aD F_qq (aB (aA 0) aC))) (bQ (dY (cD (aD F_q1 (aB (m2 aS (aA 0) (mC (.int 0))) (aB (aA 1) aC))))) (iJ 4 (aB (mC (.str "this is no thing of the order")) aC)) bW))
def F_qr:zt:=aR 2 2 (xQ)
def MA:MS:=(bQ (mB (m2 lD (aA 0) (mC (.int 6)))) L9 bW)
def F_q4:zt:=aR 1 1 (MA)
def lN:MS:=(aJ (aM (m2 aS (aA 0) (mC (.int 1))) (aF 3)) (aN (dZ (m2 cJ (aA 1) (aA 2)) (dZ (m2 (cN true) (aV (aB (aA 1) (aB (aA 2) aC))) (aA 3)) (m2 (cN true) (aV (aB (aA 2) (aB (aA 1) aC))) (aA 3))))))
def F_qt:zt:=aR 3 4 (lN)
def pJ:MS:=(aJ (bJ (aD F_qq (aB (aA 0) aC))) (aJ (aM (m2 aS (aA 0) (mC (.int 0))) (aF 1)) (aN (bH (aX (aQ cP (aB (aA 1) aC)) [none,none,some 0,some 1] (aF 0) bR (fR (aQ hY (aB (m2 cC (aA 0) (mC (.int 1))) (aB (aA 3) aC))) (aF 1) (cD (aD F_qt (aB (aA 2) (aB (aA 0) (aB (aA 1) aC))))) (aU (aV (aB (aA 0) (aB (aA 1) aC))))))))))
def F_qi:zt:=aR 1 2 (pJ)
def tW:MS:=(aJ (bJ (aD F_qq (aB (aA 0) aC))) (aJ (aM (aA 0) (bN 2 (aO (aF 1) (aO (aF 2) bP)))) (aN (aV (aB (aA 1) (aB (aD (f1 fK) (aB (aD (f1 jW) (aB (bH (aX (aW dF (aA 2)) [none,none] (bN 2 (aO (aF 0) (aO (aF 1) bP))) bR (aU (aV (aB (aA 1) (aB (aA 0) aC)))))) aC)) aC)) aC))))))
def F_qC:zt:=aR 1 3 (tW)
def rJ:MS:=(aJ (bJ (aD F_qq (aB (aA 0) aC))) (aJ (aM (aA 0) (bN 2 (aO (aF 2) (aO (aF 3) bP)))) (aJ (bQ (eH (dY (cD (aD F_qm (aB (aA 2) (aB (aA 1) aC))))) (eH (mB (m2 cJ (aD (f1 eZ) (aB (aA 1) aC)) (aA 2))) (mB (m2 cJ (aD (f1 lM) (aB (aA 1) aC)) (aA 2))))) (aN (mC (.bl false))) bW) (aN (mL iS (aX (aW dF (aA 3)) [none,none,some 1] (bN 2 (aO (aF 0) (aO (aF 1) bP))) bR (aU (m2 eI (hJ (aA 2) (aA 0)) (hJ (aA 2) (aA 1))))))))))
def F_qB:zt:=aR 2 4 (rJ)
def tX:MS:=(bQ (dY (cD (aD F_qB (aB (aA 0) (aB (aA 1) aC))))) (iJ 5 (aB (mC (.str "this is no row of the order")) aC)) bW)
def F_q5:zt:=aR 2 2 (tX)
def pK:MS:=(aJ (aM (aA 0) (bN 2 (aO (aF 2) (aO (aF 3) bP)))) (aJ (aM (bH (aX (aW dF (aA 3)) [none,none,some 1] (bN 2 (aO (aF 0) (aO (aF 1) bP))) (mB (m2 (cN true) (aA 0) (aA 2))) (aU (aA 1)))) (aF 4)) (aN (bH (aX (aQ cP (aB (aA 2) aC)) [none,some 1,some 4] (aF 0) (mI (mB (m2 (cN true) (aA 0) (aA 1))) (mB (m2 (cN true) (aA 0) (aA 2)))) (aU (aA 0)))))))
def F_q3:zt:=aR 2 5 (pK)
def pL:MS:=(aJ (bJ (aD F_qq (aB (aA 0) aC))) (aJ (aM (dM (aB (aV aC) aC)) (aF 1)) (aJ (gC (aQ cP (aB (m2 aS (aA 0) (mC (.int 0))) aC)) (aF 2) (aM (bH (aX (aW bY (aA 1)) [none,none,some 0] (aF 0) bR (fR (aW bY (aD F_q3 (aB (aA 2) (aB (aA 0) aC)))) (aF 1) bR (aU (m2 cC (aA 0) (aV (aB (aA 1) aC))))))) (aF 1))) (aN (aA 1)))))
def F_qz:zt:=aR 1 3 (pL)
def pM:MS:=(aN (aD (f1 nQ) (aB (m2 eY (hJ (aA 0) (m2 aS (aA 1) (mC (.int 0)))) (hJ (aA 0) (m2 aS (aA 1) (mC (.int 1))))) aC)))
def F_qD:zt:=aR 2 2 (pM)
def pN:MS:=(aN (m1 (pH 0) (bH (aX (aW bY (aA 1)) [none,some 0] (aF 0) bR (aU (aD F_qD (aB (aA 1) (aB (aA 0) aC))))))))
def F_qc:zt:=aR 2 2 (pN)
def tY:MS:=(aJ (bJ (aD F_q5 (aB (aA 0) (aB (aA 1) aC)))) (aN (aD F_qc (aB (aA 1) (aB (aD F_qi (aB (aA 0) aC)) aC)))))
def F_q8:zt:=aR 2 2 (tY)
def m9:MS:=(aJ (bJ (aD F_qq (aB (aA 0) aC))) (aJ (bJ (aD F_qq (aB (aA 1) aC))) (bJ (aD F_q4 (aB (m2 cC (m2 aS (aA 0) (mC (.int 0))) (m2 aS (aA 1) (mC (.int 0)))) aC)))))
def F_qy:zt:=aR 2 2 (m9)
def n9:MS:=(aJ (aM (m2 aS (aA 0) (mC (.int 0))) (aF 2)) (aN (m2 cC (aD (f1 iU) (aB (m2 aS (aA 0) (mC (.int 1))) aC)) (bH (aX (aW dF (m2 aS (aA 1) (mC (.int 1)))) [none,none,some 2] (bN 2 (aO (aF 0) (aO (aF 1) bP))) bR (aU (aV (aB (m2 cC (aA 2) (aA 0)) (aB (m2 cC (aA 2) (aA 1)) aC)))))))))
def F_qd:zt:=aR 2 3 (n9)
def o7:MS:=(aJ (bJ (aD F_qy (aB (aA 0) (aB (aA 1) aC)))) (aJ (aM (m2 cC (m2 aS (aA 0) (mC (.int 0))) (m2 aS (aA 1) (mC (.int 0)))) (aF 2)) (aJ (aM (bH (aX (aQ cP (aB (m2 aS (aA 0) (mC (.int 0))) aC)) [none,none,some 2,some 0] (aF 0) bR (fR (aQ hY (aB (m2 aS (aA 3) (mC (.int 0))) (aB (aA 2) aC))) (aF 1) bR (aU (aV (aB (aA 0) (aB (aA 1) aC))))))) (aF 3)) (aN (aV (aB (aA 2) (aB (aD (f1 fK) (aB (aD (f1 jW) (aB (m2 cC (aD F_qd (aB (aA 0) (aB (aA 1) aC))) (aA 3)) aC)) aC)) aC)))))))
def F_q9:zt:=aR 2 4 (o7)
def p0:MS:=(aJ (bJ (aD F_qy (aB (aA 0) (aB (aA 1) aC)))) (aN (aV (aB (m2 cC (m2 aS (aA 0) (mC (.int 0))) (m2 aS (aA 1) (mC (.int 0)))) (aB (aD (f1 fK) (aB (aD F_qd (aB (aA 0) (aB (aA 1) aC))) aC)) aC)))))
def F_q7:zt:=aR 2 2 (p0)
def tZ:MS:=(aJ (bJ (aD F_qr (aB (aA 0) (aB (aA 1) aC)))) (aJ (aM (aA 0) (bN 2 (aO (aF 2) (aO (aF 3) bP)))) (aJ (bQ (mB (m2 cI (aA 2) (mC (.int 1)))) (iJ 7 (aB (mC (.str "an order has at least one thing")) aC)) bW) (aJ (aM (bH (aX (aQ cP (aB (aA 2) aC)) [none,some 1] (aF 0) (mB (m2 cJ (aA 0) (aA 1))) (aU (aA 0)))) (aF 4)) (aN (aV (aB (m2 eY (aA 2) (mC (.int 1))) (aB (mL mO (aX (aW dF (aA 3)) [none,none,some 4,some 1] (bN 2 (aO (aF 0) (aO (aF 1) bP))) (mB (m2 (cN true) (aA 3) (aV (aB (aA 0) (aB (aA 1) aC))))) (aU (aV (aB (iV (aA 2) (aA 0)) (aB (iV (aA 2) (aA 1)) aC)))))) aC))))))))
def F_qA:zt:=aR 2 5 (tZ)
def p6:MS:=(aJ (bJ (aD F_qy (aB (aA 0) (aB (aA 1) aC)))) (aJ (bJ (aD F_q5 (aB (aA 0) (aB (aA 2) aC)))) (aJ (bJ (aD F_q5 (aB (aA 1) (aB (aA 3) aC)))) (aN (m2 cC (aA 2) (mL mO (aX (aW dF (aA 3)) [none,some 0] (aF 0) bR (aU (m2 cC (m2 aS (aA 1) (mC (.int 0))) (aA 0))))))))))
def F_qf:zt:=aR 4 4 (p6)
def uA:MS:=(aJ (aM (aD F_qi (aB (aA 0) aC)) (aF 1)) (aN (bH (aX (aW bY (aD F_qz (aB (aA 0) aC))) [none,some 1] (aF 0) bR (aU (aV (aB (aA 0) (aB (aD F_qc (aB (aA 0) (aB (aA 1) aC))) aC))))))))
def F_qa:zt:=aR 1 2 (uA)
def CP:MS:=(aN (aD (f1 (jS gL)) (aB (bH (aX (aW bY (aD F_qa (aB (aA 0) aC))) [none,none] (bN 2 (aO (aF 0) (aO (aF 1) bP))) bR (aU (aA 1)))) aC)))
def F_qp:zt:=aR 1 1 (CP)
def uB:MS:=(aJ (aM (aD F_qa (aB (aA 0) aC)) (aF 1)) (aJ (aM (aD (f1 (jS gL)) (aB (bH (aX (aW bY (aA 1)) [none,none] (bN 2 (aO (aF 0) (aO (aF 1) bP))) bR (aU (aA 1)))) aC)) (aF 2)) (aN (bH (aX (aW bY (aA 1)) [none,none,some 2] (bN 2 (aO (aF 0) (aO (aF 1) bP))) (mB (m2 cI (aA 1) (aA 2))) (aU (aA 0)))))))
def F_qv:zt:=aR 1 3 (uB)
def CQ:MS:=(aN (m2 aS (aD F_qv (aB (aA 0) aC)) (mC (.int 0))))
def F_qn:zt:=aR 1 1 (CQ)
def p7:MS:=(aJ (mT 3 4 (aB (aD F_q9 (aB (aA 1) (aB (aA 2) aC))) (aB (aD F_q7 (aB (aA 1) (aB (aA 2) aC))) aC))) (aJ (mT 5 6 (aB (aD F_qp (aB (aA 1) aC)) (aB (aD F_qp (aB (aA 2) aC)) aC))) (aJ (bQ (eH (mB (m2 (lA true) (aD F_q0 (aB (aA 3) aC)) (mC (.bl true)))) (eH (mB (m2 (lA true) (aD F_q0 (aB (aA 4) aC)) (mC (.bl true)))) (mB (m2 cJ (aD F_qp (aB (aA 3) aC)) (aD iR (aB (aA 5) (aB (aA 6) aC))))))) (aN (mC (.bl false))) bW) (aJ (aM (aD F_qf (aB (aA 1) (aB (aA 2) (aB (aD F_qn (aB (aA 1) aC)) (aB (aD F_qn (aB (aA 2) aC)) aC))))) (aF 7)) (aJ (bQ (eH (mB (m2 (lA true) (aD F_qB (aB (aA 3) (aB (aA 7) aC))) (mC (.bl true)))) (eH (mB (m2 cJ (aD F_q8 (aB (aA 3) (aB (aA 7) aC))) (aD iR (aB (aA 5) (aB (aA 6) aC))))) (mB (m2 (cN true) (aA 7) (aD F_qv (aB (aA 3) aC)))))) (aN (mC (.bl false))) bW) (aJ (bQ (mB (m2 eI (aD F_qp (aB (aA 4) aC)) (aD pI (aB (aA 5) (aB (aA 6) (aB (mC (.int 1)) aC)))))) (aN (mC (.bl false))) bW) (aJ (aM (aD F_q9 (aB (aD F_qC (aB (aA 2) aC)) (aB (aD F_qC (aB (aA 1) aC)) aC))) (aF 8)) (aJ (bQ (eH (mB (m2 cJ (aD (f1 eZ) (aB (m2 aS (aA 8) (mC (.int 1))) aC)) (aD (f1 eZ) (aB (m2 aS (aA 3) (mC (.int 1))) aC)))) (mB (m2 cJ (aD F_qp (aB (aD F_qC (aB (aA 3) aC)) aC)) (aD F_qp (aB (aA 8) aC))))) (aN (mC (.bl false))) bW) (aJ (aM (aD F_qs (aB (aA 0) (aB (m2 aS (aA 4) (mC (.int 0))) aC))) (aF 9)) (aJ (bQ (mB (m2 lD (aD F_qp (aB (aD F_qA (aB (aA 4) (aB (aA 9) aC))) aC)) (aD F_qp (aB (aA 4) aC)))) (aN (mC (.bl false))) bW) (aN (m2 lC (aD F_qp (aB (aD F_qA (aB (aA 3) (aB (aA 9) aC))) aC)) (aD iR (aB (aA 5) (aB (aA 6) aC)))))))))))))))
def F_qk:zt:=aR 3 10 (p7)
def CS (scr:zo):MS:=(aJ (aM (aD (F_ql scr) (aB (aA 0) (aB (aA 1) aC))) (aF 2)) (aJ (aM (aD F_qj (aB (aA 2) (aB (mC (.int 4)) aC))) (aF 3)) (aJ (aM (aD F_qj (aB (aA 2) (aB (m2 eY (mC (.int 6)) (m2 aS (aA 3) (mC (.int 0)))) aC))) (aF 4)) (bQ (dY (cD (aD F_qk (aB (aA 2) (aB (aA 3) (aB (aA 4) aC)))))) (aN (mC (.bl false))) bW))))
def MB (scr:zo):MS:=(gC (aQ cP (aB (aD iR (aB (mC (.int 1)) (aB (aD qM (aB (aD (f1 (iH scr)) (aB (aA 0) aC)) (aB (mC (.int 3)) aC))) aC))) aC)) (aF 1) (CS scr))
def p8:MS:=(aN (mC (.bl true)))
def xR (scr:zo):MS:=(aJ (MB scr) (p8))
def F_qE (scr:zo):zt:=aR 1 5 (xR scr)
end L2.Mr.K82
namespace L2.Mr
open PySem PySem.Spec PyProof.Rows L2
section
variable{X:Cx}{G:Cfg}{E:XK}{e:bq}{me:M Dv}{pos pos':Pos}{i:Nat}{x:Str}
theorem bS (hN:X.N.Nodup) (hi:X.N[i]?=some x:=by rfl) (hx:nJ X.env.scope x:=by first|exact .inl rfl|exact .inr rfl) (hf:X.fn x=true∨X.env.scope.names.lookup x=some .local:=by first|exact .inl rfl|exact .inr rfl|assumption):kF X G (.Name x pos) (aF i):=VV hN hi hx hf
theorem dE (hN:X.N.Nodup) (he:aK X G E e me) (hi:X.N[i]?=some x:=by rfl) (hx:nJ X.env.scope x:=by first|exact .inl rfl|exact .inr rfl) (hs:swapsWith e (some (.Name x pos')) pos.line X.env=pure false:=by rfl) (hf:X.fn x=true∨X.env.scope.names.lookup x=some .local:=by first|exact .inl rfl|exact .inr rfl|assumption):iI X G E (.Assign [.Name x pos'] e pos) (aM me (aF i)):=VY hN hi hx he hs hf
theorem eV {sc os:ic}{oN N:zr}{cap:List (Option Nat)}(hs:X.env.scope.names=os.names:=by rfl) (hN:X.N=oN:=by rfl) (h1:sc.kind=.function:=by rfl) (h2:∀p∈sc.names,p.2=.local->sc.names.lookup p.1=some .local:=by decide +kernel) (h3:cap.length=N.length:=by rfl)
  (h4:∀p∈sc.names,p.2=.free->os.names.lookup p.1=some .cell∨os.names.lookup p.1=some .free:=by decide +kernel) (h5:∀p∈sc.names,p.2=.free->(p.1,dk)∉sc.names:=by decide +kernel) (h6:∀q∈cap.zip N,∀j∈q.1,oN[j]?=some q.2/\sc.names.lookup q.2=some .free:=by decide +kernel):Bg X sc N cap:=XY hs hN h1 h2 h3 h4 h5 h6
end
theorem cR {N P:zr}{sc:ic}(h1:sc.kind=.function:=by rfl) (h2:sc.isCoroutine=false:=by rfl) (h3:sc.isGenerator=false:=by rfl) (h4:N.Nodup:=by decide +kernel) (h5:N.take P.length=P:=by rfl) (h6:∀x∈P,sc.names.lookup x=some .local∨sc.names.lookup x=some .cell:=by decide +kernel) (h7:∀y∈sc.names,y.2≠.free:=by decide +kernel):Ab N P sc:=⟨h1,h2,h3,h4,h5,h6,h7⟩
theorem aY {k:Nat}{f:ah}{X:Cx}{G:Cfg}{E:XK}{F:zt}{ps:zr}{fd:bj}{x:Str}{p pos:Pos}{e:bq}{es:List bq}{ms:M zu }{j:Nat}(g:Good X G E k) (Fn:Ah X.prog X.w X.K X.mg X.base (bX X.prog X.w X.base) j f fd ps (cB G F))
  (hm:X.mg x=some (.ref f)) (hk:pj X.K (.ref f)=true) (hb:Binds X.K fd ps []) (ha:dR X G E (e::es) ms) (hj:j<=k:=by decide) (hg:Gl X x:=by exact rfl)
  (Cu:(x==("__debug__" : Str))=false:=by decide) (he:ar (e::es) X.env=(false,eval e X.env)::ar es X.env:=by rfl) (Bj:(backTo pos (ar es X.env)).any (·.1)=false:=by rfl):
  aK X G E (.Call (.Name x p) (e::es) [] pos) (aD F ms):=WA g Fn hj hg hm hk hb ha Cu he Bj
open PySem.W in
theorem cS {F:List (Frag->Bool)}{K:Frag}{l m:List (Option bj)}(hf:l=m) (hc:F.all (λf=>f K)=true) (f:ah) (st:gf) (n:Str) (c:ah) (ps:zr) (i j k:Nat)
  (hb:∀(kV doc pm:af) (an:Option ah) (cdv ct:af) (us:List af),us.length=ps.length->bindArgs (fnOf n n (nL st) (kQ st) (bA st) .none kV doc pm an cdv ct) ⟨us,[]⟩=pure (ps.zip us))
  (h1:l[i]?=some (cG K f):=by rfl) (h2:m[i]?=some (some (fnOf n n (nL st) (kQ st) (bA st) .none .none .none .none none (.ref c) .none)):=by rfl) (h3:F[j]?=some (codeIn · (.ref c) n):=by rfl) (h4:F[k]?=some (keepIn · (.ref f)):=by rfl):
  ∃fd:bj,Ax K n n st f fd/\Binds K fd ps []/\fd.code=.ref c/\∀us:List af,us.length=ps.length->bindArgs fd ⟨us,[]⟩=pure (ps.zip us):=XX (PF hf i h1 h2) (nG hc j h3) (nG hc k h4) hb
end L2.Mr
namespace L2.Mr.K82
open PySem PySem.Spec PyProof.Rows L2 L2.Mr
open L2.Mr.Com
def cT (i:Nat):gf:=aa.main.body.getD i (.Pass ⟨0,0,0,0⟩)
abbrev CT:gf:=cT 8
abbrev CU:gf:=cT 9
abbrev xS:gf:=cT 10
abbrev CV:gf:=cT 13
abbrev xT:gf:=cT 14
abbrev CW:gf:=cT 15
abbrev xU:gf:=cT 16
abbrev xV:gf:=cT 17
abbrev xW:gf:=cT 18
abbrev CY:gf:=cT 19
abbrev CZ:gf:=cT 20
abbrev DC:gf:=cT 21
abbrev DD:gf:=cT 22
abbrev DE:gf:=cT 23
abbrev xX:gf:=cT 24
abbrev xY:gf:=cT 25
abbrev xZ:gf:=cT 27
abbrev DF:gf:=cT 28
abbrev uC:gf:=cT 29
abbrev yA:gf:=cT 30
abbrev DG:gf:=cT 31
abbrev yB:gf:=cT 32
abbrev DH:gf:=cT 33
abbrev DI:gf:=cT 35
abbrev yC:gf:=cT 36
abbrev yD:gf:=cT 37
abbrev DJ:gf:=cT 38
abbrev uD:gf:=cT 39
abbrev yE:gf:=cT 40
abbrev yF:gf:=cT 42
abbrev yG:gf:=cT 43
abbrev uE:gf:=cT 44
abbrev DK:gf:=cT 45
abbrev DL:gf:=cT 47
abbrev DM:gf:=cT 48
abbrev DN:gf:=cT 49
abbrev DO:gf:=cT 50
abbrev yH:gf:=cT 51
abbrev uF:gf:=cT 52
abbrev DP:gf:=cT 53
abbrev DQ:gf:=cT 54
set_option genInjectivity false in
structure Ad where
 f_q2:ah
 fd_q2:bj
 f_qo:ah
 fd_qo:bj
 f_qx:ah
 fd_qx:bj
 f_q1:ah
 fd_q1:bj
 f_qm:ah
 fd_qm:bj
 f_q6:ah
 fd_q6:bj
 f_qu:ah
 fd_qu:bj
 f_qw:ah
 fd_qw:bj
 f_qh:ah
 fd_qh:bj
 f_q0:ah
 fd_q0:bj
 f_qq:ah
 fd_qq:bj
 f_qr:ah
 fd_qr:bj
 f_q4:ah
 fd_q4:bj
 f_qt:ah
 fd_qt:bj
 f_qi:ah
 fd_qi:bj
 f_qC:ah
 fd_qC:bj
 f_qB:ah
 fd_qB:bj
 f_q5:ah
 fd_q5:bj
 f_q3:ah
 fd_q3:bj
 f_qz:ah
 fd_qz:bj
 f_qD:ah
 fd_qD:bj
 f_qc:ah
 fd_qc:bj
 f_q8:ah
 fd_q8:bj
 f_qy:ah
 fd_qy:bj
 f_qd:ah
 fd_qd:bj
 f_q9:ah
 fd_q9:bj
 f_q7:ah
 fd_q7:bj
 f_qA:ah
 fd_qA:bj
 f_qf:ah
 fd_qf:bj
 f_qa:ah
 fd_qa:bj
 f_qp:ah
 fd_qp:bj
 f_qv:ah
 fd_qv:bj
 f_qn:ah
 fd_qn:bj
 f_qe:ah
 fd_qe:bj
 f_ql:ah
 fd_ql:bj
 f_qs:ah
 fd_qs:bj
 f_qb:ah
 fd_qb:bj
 f_qg:ah
 fd_qg:bj
 f_qj:ah
 fd_qj:bj
 f_qk:ah
 fd_qk:bj
 f_qE:ah
 fd_qE:bj
 c_NoOrder:ah
 c_NoThing:ah
 c_NoRow:ah
 c_TooFew:ah
 t_MOST_THINGS:Tok
 NE:ah
 cc:ah
 P:ah
structure Tx (K:aq) (mg:Str->Option af) (G:Cf0) (A:Ad):Prop where
 hK:K=G.K
 F_q2:Ax K "is_whole" "is_whole" CT A.f_q2 A.fd_q2
 B_q2:Binds K A.fd_q2 ["thing"] []
 m_q2:mg "is_whole" = some (.ref A.f_q2)
 F_qo:Ax K "is_between" "is_between" CU A.f_qo A.fd_qo
 B_qo:Binds K A.fd_qo ["thing","low","high"] []
 m_qo:mg "is_between" = some (.ref A.f_qo)
 F_qx:Ax K "is_rising" "is_rising" xS A.f_qx A.fd_qx
 B_qx:Binds K A.fd_qx ["parts"] []
 m_qx:mg "is_rising" = some (.ref A.f_qx)
 F_q1:Ax K "is_thing" "is_thing" CV A.f_q1 A.fd_q1
 B_q1:Binds K A.fd_q1 ["many","thing"] []
 m_q1:mg "is_thing" = some (.ref A.f_q1)
 F_qm:Ax K "are_things" "are_things" xT A.f_qm A.fd_qm
 B_qm:Binds K A.fd_qm ["many","thing"] []
 m_qm:mg "are_things" = some (.ref A.f_qm)
 F_q6:Ax K "is_pair" "is_pair" CW A.f_q6 A.fd_q6
 B_q6:Binds K A.fd_q6 ["many","thing"] []
 m_q6:mg "is_pair" = some (.ref A.f_q6)
 F_qu:Ax K "are_pairs" "are_pairs" xU A.f_qu A.fd_qu
 B_qu:Binds K A.fd_qu ["many","things"] []
 m_qu:mg "are_pairs" = some (.ref A.f_qu)
 F_qw:Ax K "has_alike" "has_alike" xV A.f_qw A.fd_qw
 B_qw:Binds K A.fd_qw ["pairs"] []
 m_qw:mg "has_alike" = some (.ref A.f_qw)
 F_qh:Ax K "is_complete" "is_complete" xW A.f_qh A.fd_qh
 B_qh:Binds K A.fd_qh ["pairs"] []
 m_qh:mg "is_complete" = some (.ref A.f_qh)
 F_q0:Ax K "is_order" "is_order" CY A.f_q0 A.fd_q0
 B_q0:Binds K A.fd_q0 ["thing"] []
 m_q0:mg "is_order" = some (.ref A.f_q0)
 F_qq:Ax K "need_order" "need_order" CZ A.f_qq A.fd_qq
 B_qq:Binds K A.fd_qq ["order"] []
 m_qq:mg "need_order" = some (.ref A.f_qq)
 F_qr:Ax K "need_thing" "need_thing" DC A.f_qr A.fd_qr
 B_qr:Binds K A.fd_qr ["order","thing"] []
 m_qr:mg "need_thing" = some (.ref A.f_qr)
 F_q4:Ax K "need_few" "need_few" DD A.f_q4 A.fd_q4
 B_q4:Binds K A.fd_q4 ["many"] []
 m_q4:mg "need_few" = some (.ref A.f_q4)
 F_qt:Ax K "are_loose" "are_loose" DE A.f_qt A.fd_qt
 B_qt:Binds K A.fd_qt ["order","one","other"] []
 m_qt:mg "are_loose" = some (.ref A.f_qt)
 F_qi:Ax K "loose_pairs" "loose_pairs" xX A.f_qi A.fd_qi
 B_qi:Binds K A.fd_qi ["order"] []
 m_qi:mg "loose_pairs" = some (.ref A.f_qi)
 F_qC:Ax K "turned" "turned" xY A.f_qC A.fd_qC
 B_qC:Binds K A.fd_qC ["order"] []
 m_qC:mg "turned" = some (.ref A.f_qC)
 F_qB:Ax K "is_row" "is_row" xZ A.f_qB A.fd_qB
 B_qB:Binds K A.fd_qB ["order","thing"] []
 m_qB:mg "is_row" = some (.ref A.f_qB)
 F_q5:Ax K "need_row" "need_row" DF A.f_q5 A.fd_q5
 B_q5:Binds K A.fd_q5 ["order","row"] []
 m_q5:mg "need_row" = some (.ref A.f_q5)
 F_q3:Ax K "may_come" "may_come" uC A.f_q3 A.fd_q3
 B_q3:Binds K A.fd_q3 ["order","begun"] []
 m_q3:mg "may_come" = some (.ref A.f_q3)
 F_qz:Ax K "all_rows" "all_rows" yA A.f_qz A.fd_qz
 B_qz:Binds K A.fd_qz ["order"] []
 m_qz:mg "all_rows" = some (.ref A.f_qz)
 F_qD:Ax K "apart" "apart" DG A.f_qD A.fd_qD
 B_qD:Binds K A.fd_qD ["row","pair"] []
 m_qD:mg "apart" = some (.ref A.f_qD)
 F_qc:Ax K "greatest_apart" "greatest_apart" yB A.f_qc A.fd_qc
 B_qc:Binds K A.fd_qc ["row","pairs"] []
 m_qc:mg "greatest_apart" = some (.ref A.f_qc)
 F_q8:Ax K "span_of" "span_of" DH A.f_q8 A.fd_q8
 B_q8:Binds K A.fd_q8 ["order","row"] []
 m_q8:mg "span_of" = some (.ref A.f_q8)
 F_qy:Ax K "need_both" "need_both" DI A.f_qy A.fd_qy
 B_qy:Binds K A.fd_qy ["one","other"] []
 m_qy:mg "need_both" = some (.ref A.f_qy)
 F_qd:Ax K "pairs_of_both" "pairs_of_both" yC A.f_qd A.fd_qd
 B_qd:Binds K A.fd_qd ["one","other"] []
 m_qd:mg "pairs_of_both" = some (.ref A.f_qd)
 F_q9:Ax K "stacked" "stacked" yD A.f_q9 A.fd_q9
 B_q9:Binds K A.fd_q9 ["one","other"] []
 m_q9:mg "stacked" = some (.ref A.f_q9)
 F_q7:Ax K "side_by" "side_by" DJ A.f_q7 A.fd_q7
 B_q7:Binds K A.fd_q7 ["one","other"] []
 m_q7:mg "side_by" = some (.ref A.f_q7)
 F_qA:Ax K "without" "without" uD A.f_qA A.fd_qA
 B_qA:Binds K A.fd_qA ["order","thing"] []
 m_qA:mg "without" = some (.ref A.f_qA)
 F_qf:Ax K "rows_stacked" "rows_stacked" yE A.f_qf A.fd_qf
 B_qf:Binds K A.fd_qf ["one","other","row","more"] []
 m_qf:mg "rows_stacked" = some (.ref A.f_qf)
 F_qa:Ax K "rows_with_spans" "rows_with_spans" yF A.f_qa A.fd_qa
 B_qa:Binds K A.fd_qa ["order"] []
 m_qa:mg "rows_with_spans" = some (.ref A.f_qa)
 F_qp:Ax K "least_span" "least_span" yG A.f_qp A.fd_qp
 B_qp:Binds K A.fd_qp ["order"] []
 m_qp:mg "least_span" = some (.ref A.f_qp)
 F_qv:Ax K "best_rows" "best_rows" uE A.f_qv A.fd_qv
 B_qv:Binds K A.fd_qv ["order"] []
 m_qv:mg "best_rows" = some (.ref A.f_qv)
 F_qn:Ax K "first_best" "first_best" DK A.f_qn A.fd_qn
 B_qn:Binds K A.fd_qn ["order"] []
 m_qn:mg "first_best" = some (.ref A.f_qn)
 F_qe:Ax K "_law_cell_at" "_law_cell_at" DL A.f_qe A.fd_qe
 B_qe:Binds K A.fd_qe ["_law_script","_law_k"] []
 m_qe:mg "_law_cell_at" = some (.ref A.f_qe)
 F_ql:Ax K "_law_state" "_law_state" DM A.f_ql A.fd_ql
 B_ql:Binds K A.fd_ql ["_law_script","_law_k"] []
 m_ql:mg "_law_state" = some (.ref A.f_ql)
 F_qs:Ax K "_law_take" "_law_take" DN A.f_qs A.fd_qs
 B_qs:Binds K A.fd_qs ["_law_state_here","_law_many"] []
 m_qs:mg "_law_take" = some (.ref A.f_qs)
 F_qb:Ax K "_law_mixed_row" "_law_mixed_row" DO A.f_qb A.fd_qb
 B_qb:Binds K A.fd_qb ["_law_state_here","_law_things"] []
 m_qb:mg "_law_mixed_row" = some (.ref A.f_qb)
 F_qg:Ax K "_law_closed" "_law_closed" yH A.f_qg A.fd_qg
 B_qg:Binds K A.fd_qg ["_law_pairs"] []
 m_qg:mg "_law_closed" = some (.ref A.f_qg)
 F_qj:Ax K "_law_order" "_law_order" uF A.f_qj A.fd_qj
 B_qj:Binds K A.fd_qj ["_law_state_here","_law_most"] []
 m_qj:mg "_law_order" = some (.ref A.f_qj)
 F_qk:Ax K "_law_right" "_law_right" DP A.f_qk A.fd_qk
 B_qk:Binds K A.fd_qk ["_law_state_here","_law_one","_law_other"] []
 m_qk:mg "_law_right" = some (.ref A.f_qk)
 F_qE:Ax K "law" "law" DQ A.f_qE A.fd_qE
 B_qE:Binds K A.fd_qE ["_law_script"] []
 m_qE:mg "law" = some (.ref A.f_qE)
 z_abs:mg "abs" = none
 z_all:mg "all" = none
 z_any:mg "any" = none
 z_bool:mg "bool" = none
 z_int:mg "int" = none
 z_isinstance:mg "isinstance" = none
 z_len:mg "len" = none
 z_list:mg "list" = none
 z_max:mg "max" = none
 z_min:mg "min" = none
 z_range:mg "range" = none
 z_set:mg "set" = none
 z_sorted:mg "sorted" = none
 z_tuple:mg "tuple" = none
 z_zip:mg "zip" = none
 c_MOST_THINGS:mg "MOST_THINGS" = some (.int 6 A.t_MOST_THINGS)
 n_NoOrder:mg "NoOrder" = some (.ref A.c_NoOrder)
 n_NoThing:mg "NoThing" = some (.ref A.c_NoThing)
 n_NoRow:mg "NoRow" = some (.ref A.c_NoRow)
 n_TooFew:mg "TooFew" = some (.ref A.c_TooFew)
 ns_NoOrder:ow K du "NoOrder" = some (some (.ref A.c_NoOrder))
 x_NoOrder:nu K A.c_NoOrder qP "ValueError.__new__" = true
 ce_NoOrder:A.c_NoOrder=G.cl 0
 ns_NoThing:ow K du "NoThing" = some (some (.ref A.c_NoThing))
 x_NoThing:nu K A.c_NoThing qP "ValueError.__new__" = true
 ce_NoThing:A.c_NoThing=G.cl 4
 ns_NoRow:ow K du "NoRow" = some (some (.ref A.c_NoRow))
 x_NoRow:nu K A.c_NoRow qP "ValueError.__new__" = true
 ce_NoRow:A.c_NoRow=G.cl 5
 ns_TooFew:ow K du "TooFew" = some (some (.ref A.c_TooFew))
 x_TooFew:nu K A.c_TooFew qP "ValueError.__new__" = true
 ce_TooFew:A.c_TooFew=G.cl 7
theorem MD:(["one","other"]:zr).Nodup:=by decide +kernel
theorem p9:(["part","many"]:zr).Nodup:=by decide +kernel
theorem q5:(["thing","many"]:zr).Nodup:=by decide +kernel
theorem yI:(["a","b"]:zr).Nodup:=by decide +kernel
theorem yJ:(["a","b","middle","c","pairs"]:zr).Nodup:=by decide +kernel
theorem ME:(["thing","many","pairs"]:zr).Nodup:=by decide +kernel
theorem q9:(["order","one","other","pairs"]:zr).Nodup:=by decide +kernel
theorem r8:(["order","many"]:zr).Nodup:=by decide +kernel
theorem MF:(["a","b","order","many"]:zr).Nodup:=by decide +kernel
theorem MG:(["order","many","pairs"]:zr).Nodup:=by decide +kernel
theorem MH:(["order","thing","many","pairs"]:zr).Nodup:=by decide +kernel
theorem MI:(["a","b","thing"]:zr).Nodup:=by decide +kernel
theorem DR:(["order","begun","many","pairs","waiting"]:zr).Nodup:=by decide +kernel
theorem MJ:(["a","b","begun"]:zr).Nodup:=by decide +kernel
theorem r9:(["thing","begun","waiting"]:zr).Nodup:=by decide +kernel
theorem DS:(["order","rows","place"]:zr).Nodup:=by decide +kernel
theorem MK:(["begun","thing","order"]:zr).Nodup:=by decide +kernel
theorem t6:(["row","pairs"]:zr).Nodup:=by decide +kernel
theorem t7:(["pair","row"]:zr).Nodup:=by decide +kernel
theorem t9:(["one","other","first"]:zr).Nodup:=by decide +kernel
theorem ML:(["a","b","first"]:zr).Nodup:=by decide +kernel
theorem MM:(["one","other","many","between"]:zr).Nodup:=by decide +kernel
theorem MN:(["a","b","many","one"]:zr).Nodup:=by decide +kernel
theorem DT:(["order","thing","many","pairs","left"]:zr).Nodup:=by decide +kernel
theorem u0:(["other","thing"]:zr).Nodup:=by decide +kernel
theorem MP:(["a","b","left","thing"]:zr).Nodup:=by decide +kernel
theorem u5:(["thing","one"]:zr).Nodup:=by decide +kernel
theorem u6:(["order","pairs"]:zr).Nodup:=by decide +kernel
theorem yK:(["row","span"]:zr).Nodup:=by decide +kernel
theorem MQ:(["order","found","least"]:zr).Nodup:=by decide +kernel
theorem MR:(["row","span","least"]:zr).Nodup:=by decide +kernel
theorem u7:(["_law_script","_law_k","_law_cell"]:zr).Nodup:=by decide +kernel
theorem DU:(["_law_state_here","_law_many","_law_found","_law_stirred"]:zr).Nodup:=by decide +kernel
theorem MT:(["_law_state_here","_law_things","_law_left","_law_found"]:zr).Nodup:=by decide +kernel
abbrev zy:List PySem.Str:=["_law_pairs","_law_found","_law_later","_law_a","_law_b"]
theorem rK:(zy:zr).Nodup:=by decide +kernel
theorem MU:(["_law_c","_law_d","_law_a","_law_b"]:zr).Nodup:=by decide +kernel
abbrev zw:List PySem.Str:=["_law_state_here","_law_most","_law_many","_law_row","_law_way","_law_pairs","_law_marks","_law_i","_law_j","_law_near"]
theorem jG:(zw:zr).Nodup:=by decide +kernel
theorem u9:(["_law_thing","_law_state_here"]:zr).Nodup:=by decide +kernel
theorem v5:(["_law_j","_law_i","_law_marks"]:zr).Nodup:=by decide +kernel
theorem uG:(["_law_state_here","_law_one","_law_other","_law_both","_law_beside","_law_mine","_law_theirs","_law_row","_law_about","_law_thing"]:zr).Nodup:=by decide +kernel
abbrev zx:List PySem.Str:=["_law_script","_law_k","_law_state_here","_law_one","_law_other"]
theorem yL:(zx:zr).Nodup:=by decide +kernel
section
variable{P:bh}{w:cp}{K:aq}{mg:Str->Option af}{base:da}{G:Cfg}{A:Ad}
theorem v7:Ab ["thing"] ["thing"] (bA CT):=cR
theorem v8 (T:Tx K mg G A):Ah P w K mg base (bX P w base) 1 A.f_q2 A.fd_q2 ["thing"] (cB G F_q2):=cU (k:=0) T.F_q2 v7 T.hK λ_ _ _ _ _ _ _ g=>(bI (cA (oP (YA rfl T.z_isinstance rfl T.z_int (aE 0)) (qH (HF (YB rfl T.z_isinstance rfl T.z_bool (aE 0)))))))
theorem v9:Ab ["thing","low","high"] ["thing","low","high"] (bA CU):=cR
theorem MV (T:Tx K mg G A):Ah P w K mg base (bX P w base) 2 A.f_qo A.fd_qo ["thing","low","high"] (cB G F_qo):=cU (k:=1) T.F_qo v9 T.hK λ_ _ _ _ _ _ _ g=>(bI (cA (oP (aY g (v8 T) T.m_q2 T.F_q2.kp T.B_q2 (aI (aE 0) aL)) (qH (X4 (aE 1) (aE 0) (aE 2))))))
theorem y6:Ab ["parts"] ["parts"] (bA xS):=cR
theorem y8 (T:Tx K mg G A):Ah P w K mg base (bX P w base) 1 A.f_qx A.fd_qx ["parts"] (cB G F_qx):=cU (k:=0) T.F_qx y6 T.hK λ_ _ _ _ _ _ _ g=>(bI (cA (sW g.calm rfl T.z_all (fV g.calm (eV (N:=["one","other"]) (cap:=[none,none]) (os:=(bA xS)) (oN:=["parts"])) (XD rfl T.z_zip (aI (aE 0) (aI (h8 (aE 0) (XS bE) XR) aL))) (λ_ _ _=>(gB (dI g).calm (cZ (bS (i:=0) MD) (cZ (bS (i:=1) MD) gA)))) (λ_ _ _=>gD) (λ_ _ _=>(CG (dI g) (aE 0) (aE 1)))))))
theorem y9:Ab ["many","thing"] ["many","thing"] (bA CV):=cR
theorem MW (T:Tx K mg G A):Ah P w K mg base (bX P w base) 3 A.f_q1 A.fd_q1 ["many","thing"] (cB G F_q1):=cU (k:=2) T.F_q1 y9 T.hK λ_ _ _ _ _ _ _ g=>(bI (cA (aY g (MV T) T.m_qo T.F_qo.kp T.B_qo (aI (aE 1) (aI bE (aI (qU (aE 0) bE) aL))))))
theorem z9:Ab ["many","thing"] ["many","thing"] (bA xT):=cR
theorem MX (T:Tx K mg G A):Ah P w K mg base (bX P w base) 4 A.f_qm A.fd_qm ["many","thing"] (cB G F_qm):=cU (k:=3) T.F_qm z9 T.hK λ_ _ _ _ _ _ _ g=>(bI (cA (oP (BD rfl T.z_isinstance rfl T.z_tuple (aE 1)) (qH (sW g.calm rfl T.z_all (fV g.calm (eV (N:=["part","many"]) (cap:=[none,some 0]) (os:=(bA xT)) (oN:=["many","thing"])) (kH (aE 1)) (λ_ _ _=>(bS (i:=0) p9)) (λ_ _ _=>gD) (λ_ _ _=>(aY (dI g) (MW T) T.m_q1 T.F_q1.kp T.B_q1 (aI (aE 1) (aI (aE 0) aL))))))))))
theorem z00:Ab ["many","thing"] ["many","thing"] (bA CW):=cR
theorem z01 (T:Tx K mg G A):Ah P w K mg base (bX P w base) 5 A.f_q6 A.fd_q6 ["many","thing"] (cB G F_q6):=cU (k:=4) T.F_q6 z00 T.hK λ_ _ _ _ _ _ _ g=>(bI (cA (oP (aY g (MX T) T.m_qm T.F_qm.kp T.B_qm (aI (aE 0) (aI (aE 1) aL))) (qH (tI g (qZ rfl T.z_len (aI (aE 1) aL)) bE)))))
theorem z02:Ab ["many","things"] ["many","things"] (bA xU):=cR
theorem z03 (T:Tx K mg G A):Ah P w K mg base (bX P w base) 6 A.f_qu A.fd_qu ["many","things"] (cB G F_qu):=cU (k:=5) T.F_qu z02 T.hK λ_ _ _ _ _ _ _ g=>(bI (cA (sW g.calm rfl T.z_all (fV g.calm (eV (N:=["thing","many"]) (cap:=[none,some 0]) (os:=(bA xU)) (oN:=["many","things"])) (kH (aE 1)) (λ_ _ _=>(bS (i:=0) q5)) (λ_ _ _=>gD) (λ_ _ _=>(aY (dI g) (z01 T) T.m_q6 T.F_q6.kp T.B_q6 (aI (aE 1) (aI (aE 0) aL))))))))
theorem z04:Ab ["pairs"] ["pairs"] (bA xV):=cR
theorem z05 (T:Tx K mg G A):Ah P w K mg base (bX P w base) 1 A.f_qw A.fd_qw ["pairs"] (cB G F_qw):=cU (k:=0) T.F_qw z04 T.hK λ_ _ _ _ _ _ _ g=>(bI (cA (WX g.calm rfl T.z_any (fV g.calm (eV (N:=["a","b"]) (cap:=[none,none]) (os:=(bA xV)) (oN:=["pairs"])) (kH (aE 0)) (λ_ _ _=>(gB (dI g).calm (cZ (bS (i:=0) yI) (cZ (bS (i:=1) yI) gA)))) (λ_ _ _=>gD) (λ_ _ _=>(tI (dI g) (aE 0) (aE 1)))))))
theorem z06:Ab ["pairs"] ["pairs"] (bA xW):=cR
theorem z07 (T:Tx K mg G A):Ah P w K mg base (bX P w base) 1 A.f_qh A.fd_qh ["pairs"] (cB G F_qh):=cU (k:=0) T.F_qh z06 T.hK λ_ _ _ _ _ _ _ g=>(bI (cA (sW g.calm rfl T.z_all (IA g.calm (eV (N:=["a","b","middle","c","pairs"]) (cap:=[none,none,none,none,some 0]) (os:=(bA xW)) (oN:=["pairs"])) (kH (aE 0)) (λ_ _ _=>(gB (dI g).calm (cZ (bS (i:=0) yJ) (cZ (bS (i:=1) yJ) gA)))) (λ_ _ _=>gD) (λ_ _ _=>(kH (aE 4))) (λ_ _ _=>(gB (dI g).calm (cZ (bS (i:=2) yJ) (cZ (bS (i:=3) yJ) gA)))) (λ_ _ _=>(mM (qW (dI g) (aE 1) (aE 2)))) (λ_ _ _=>(YW (dI g) (fU (aI (aE 0) (aI (aE 3) aL))) (aE 4)))))))
theorem z08:Ab ["thing","many","pairs"] ["thing"] (bA CY):=cR
theorem DV (T:Tx K mg G A):Ah P w K mg base (bX P w base) 7 A.f_q0 A.fd_q0 ["thing"] (cB G F_q0):=cU (k:=6) T.F_q0 z08 T.hK λ_ _ _ _ _ _ _ g=>(bB (fP (Br.t (kS (kT (iQ (BD rfl T.z_isinstance rfl T.z_tuple (aE 0)))) (oO (mP g (qZ rfl T.z_len (aI (aE 0) aL)) bE)))) (bI (cA gH)) fO) (bB (sT (aE 0) (gB g.calm (cZ (bS (i:=1) ME) (cZ (bS (i:=2) ME) gA)))) (bB (fP (Br.t (kS (kT (iQ (aY g (MV T) T.m_qo T.F_qo.kp T.B_qo (aI (aE 1) (aI bE (aI (JA rfl T.c_MOST_THINGS) aL)))))) (oO (kT (iQ (BD rfl T.z_isinstance rfl T.z_tuple (aE 2))))))) (bI (cA gH)) fO) (bB (fP (Br.t (kS (kT (iQ (aY g (z03 T) T.m_qu T.F_qu.kp T.B_qu (aI (aE 1) (aI (aE 2) aL))))) (oO (kT (iQ (aY g (y8 T) T.m_qx T.F_qx.kp T.B_qx (aI (aE 2) aL))))))) (bI (cA gH)) fO) (bI (cA (oP (HF (aY g (z05 T) T.m_qw T.F_qw.kp T.B_qw (aI (aE 2) aL))) (qH (aY g (z07 T) T.m_qh T.F_qh.kp T.B_qh (aI (aE 2) aL))))))))))
theorem z09:Ab ["order"] ["order"] (bA CZ):=cR
theorem pO (T:Tx K mg G A):Ah P w K mg base (bX P w base) 8 A.f_qq A.fd_qq ["order"] (cB G F_qq):=cU (k:=7) T.F_qq z09 T.hK λ_ _ _ _ _ _ _ g=>(bI (fP (kT (iQ (aY g (DV T) T.m_q0 T.F_q0.kp T.B_q0 (aI (aE 0) aL)))) (bI (wC g rfl T.n_NoOrder T.ns_NoOrder T.x_NoOrder T.ce_NoOrder (aI sN aL))) fO))
theorem z0a:Ab ["order","thing"] ["order","thing"] (bA DC):=cR
theorem z0b (T:Tx K mg G A):Ah P w K mg base (bX P w base) 9 A.f_qr A.fd_qr ["order","thing"] (cB G F_qr):=cU (k:=8) T.F_qr z0a T.hK λ_ _ _ _ _ _ _ g=>(bB (gJ (aY g (pO T) T.m_qq T.F_qq.kp T.B_qq (aI (aE 0) aL))) (bI (fP (kT (iQ (aY g (MW T) T.m_q1 T.F_q1.kp T.B_q1 (aI (cV (aE 0) bE) (aI (aE 1) aL))))) (bI (wC g rfl T.n_NoThing T.ns_NoThing T.x_NoThing T.ce_NoThing (aI sN aL))) fO)))
theorem z0c:Ab ["many"] ["many"] (bA DD):=cR
theorem z0d (T:Tx K mg G A):Ah P w K mg base (bX P w base) 1 A.f_q4 A.fd_q4 ["many"] (cB G F_q4):=cU (k:=0) T.F_q4 z0c T.hK λ_ _ _ _ _ _ _ g=>(bI (fP (JD (aE 0) (JA rfl T.c_MOST_THINGS)) (bI l9) fO))
theorem z0e:Ab ["order","one","other","pairs"] ["order","one","other"] (bA DE):=cR
theorem z0f (T:Tx K mg G A):Ah P w K mg base (bX P w base) 1 A.f_qt A.fd_qt ["order","one","other"] (cB G F_qt):=cU (k:=0) T.F_qt z0e T.hK λ_ _ _ _ _ _ _ g=>(bB (dE (i:=3) q9 (cV (aE 0) bE)) (bI (cA (oP (X2 g (aE 1) (aE 2)) (oP (JN g (fU (aI (aE 1) (aI (aE 2) aL))) (aE 3)) (qH (JN g (fU (aI (aE 2) (aI (aE 1) aL))) (aE 3))))))))
theorem z0g:Ab ["order","many"] ["order"] (bA xX):=cR
theorem MY (T:Tx K mg G A):Ah P w K mg base (bX P w base) 9 A.f_qi A.fd_qi ["order"] (cB G F_qi):=cU (k:=8) T.F_qi z0g T.hK λ_ _ _ _ _ _ _ g=>(bB (gJ (aY g (pO T) T.m_qq T.F_qq.kp T.B_qq (aI (aE 0) aL))) (bB (dE (i:=1) r8 (cV (aE 0) bE)) (bI (cA (jF (IA g.calm (eV (N:=["a","b","order","many"]) (cap:=[none,none,some 0,some 1]) (os:=(bA xX)) (oN:=["order","many"])) (mJ rfl T.z_range (aI (aE 1) aL)) (λ_ _ _=>(bS (i:=0) MF)) (λ_ _ _=>gD) (λ_ _ _=>(AY rfl T.z_range (aI (gM (aE 0) bE) (aI (aE 3) aL)))) (λ_ _ _=>(bS (i:=1) MF)) (λ_ _ _=>(mM (iQ (aY (dI g) (z0f T) T.m_qt T.F_qt.kp T.B_qt (aI (aE 2) (aI (aE 0) (aI (aE 1) aL))))))) (λ_ _ _=>(fU (aI (aE 0) (aI (aE 1) aL))))))))))
theorem z0h:Ab ["order","many","pairs"] ["order"] (bA xY):=cR
theorem DW (T:Tx K mg G A):Ah P w K mg base (bX P w base) 9 A.f_qC A.fd_qC ["order"] (cB G F_qC):=cU (k:=8) T.F_qC z0h T.hK λ_ _ _ _ _ _ _ g=>(bB (gJ (aY g (pO T) T.m_qq T.F_qq.kp T.B_qq (aI (aE 0) aL))) (bB (sT (aE 0) (gB g.calm (cZ (bS (i:=1) MG) (cZ (bS (i:=2) MG) gA)))) (bI (cA (fU (aI (aE 1) (aI (vW rfl T.z_tuple (aI (LP rfl T.z_sorted (aI (jF (fV g.calm (eV (N:=["a","b"]) (cap:=[none,none]) (os:=(bA xY)) (oN:=["order","many","pairs"])) (kH (aE 2)) (λ_ _ _=>(gB (dI g).calm (cZ (bS (i:=0) yI) (cZ (bS (i:=1) yI) gA)))) (λ_ _ _=>gD) (λ_ _ _=>(fU (aI (aE 1) (aI (aE 0) aL)))))) aL)) aL)) aL)))))))
theorem z0i:Ab ["order","thing","many","pairs"] ["order","thing"] (bA xZ):=cR
theorem MZ (T:Tx K mg G A):Ah P w K mg base (bX P w base) 9 A.f_qB A.fd_qB ["order","thing"] (cB G F_qB):=cU (k:=8) T.F_qB z0i T.hK λ_ _ _ _ _ _ _ g=>(bB (gJ (aY g (pO T) T.m_qq T.F_qq.kp T.B_qq (aI (aE 0) aL))) (bB (sT (aE 0) (gB g.calm (cZ (bS (i:=2) MH) (cZ (bS (i:=3) MH) gA)))) (bB (fP (Br.t (kS (kT (iQ (aY g (MX T) T.m_qm T.F_qm.kp T.B_qm (aI (aE 2) (aI (aE 1) aL))))) (kS (mP g (qZ rfl T.z_len (aI (aE 1) aL)) (aE 2)) (oO (mP g (j9 g.calm rfl T.z_len rfl T.z_set (aI (aE 1) aL)) (aE 2)))))) (bI (cA gH)) fO) (bI (cA (sW g.calm rfl T.z_all (fV g.calm (eV (N:=["a","b","thing"]) (cap:=[none,none,some 1]) (os:=(bA xZ)) (oN:=["order","thing","many","pairs"])) (kH (aE 3)) (λ_ _ _=>(gB (dI g).calm (cZ (bS (i:=0) MI) (cZ (bS (i:=1) MI) gA)))) (λ_ _ _=>gD) (λ_ _ _=>(CG (dI g) (wR (aE 2) (aE 0)) (wR (aE 2) (aE 1)))))))))))
theorem z0j:Ab ["order","row"] ["order","row"] (bA DF):=cR
theorem DX (T:Tx K mg G A):Ah P w K mg base (bX P w base) 10 A.f_q5 A.fd_q5 ["order","row"] (cB G F_q5):=cU (k:=9) T.F_q5 z0j T.hK λ_ _ _ _ _ _ _ g=>(bI (fP (kT (iQ (aY g (MZ T) T.m_qB T.F_qB.kp T.B_qB (aI (aE 0) (aI (aE 1) aL))))) (bI (wC g rfl T.n_NoRow T.ns_NoRow T.x_NoRow T.ce_NoRow (aI sN aL))) fO))
theorem z0k:Ab ["order","begun","many","pairs","waiting"] ["order","begun"] (bA uC):=cR
theorem z0l (T:Tx K mg G A):Ah P w K mg base (bX P w base) 1 A.f_q3 A.fd_q3 ["order","begun"] (cB G F_q3):=cU (k:=0) T.F_q3 z0k T.hK λ_ _ _ _ _ _ _ g=>(bB (sT (aE 0) (gB g.calm (cZ (bS (i:=2) DR) (cZ (bS (i:=3) DR) gA)))) (bB (dE (i:=4) DR (jF (fV g.calm (eV (N:=["a","b","begun"]) (cap:=[none,none,some 1]) (os:=(bA uC)) (oN:=["order","begun","many","pairs","waiting"])) (kH (aE 3)) (λ_ _ _=>(gB (dI g).calm (cZ (bS (i:=0) MJ) (cZ (bS (i:=1) MJ) gA)))) (λ_ _ _=>(mM (tM (dI g) (aE 0) (aE 2)))) (λ_ _ _=>(aE 1))))) (bI (cA (jF (fV g.calm (eV (N:=["thing","begun","waiting"]) (cap:=[none,some 1,some 4]) (os:=(bA uC)) (oN:=["order","begun","many","pairs","waiting"])) (mJ rfl T.z_range (aI (aE 2) aL)) (λ_ _ _=>(bS (i:=0) r9)) (λ_ _ _=>(mM (Br.t (VC (tM (dI g) (aE 0) (aE 1)) (UZ (tM (dI g) (aE 0) (aE 2))))))) (λ_ _ _=>(aE 0))))))))
theorem z0m:Ab ["order","rows","place"] ["order"] (bA yA):=cR
theorem z0n (T:Tx K mg G A):Ah P w K mg base (bX P w base) 9 A.f_qz A.fd_qz ["order"] (cB G F_qz):=cU (k:=8) T.F_qz z0m T.hK λ_ _ _ _ _ _ _ g=>(bB (gJ (aY g (pO T) T.m_qq T.F_qq.kp T.B_qq (aI (aE 0) aL))) (bB (dE (i:=1) DS (L6 3)) (bB (qO g.own g.calm (mJ rfl T.z_range (aI (cV (aE 0) bE) aL)) (bS (i:=2) DS) (bI (JT (i:=1) DS rfl g.calm (eV (N:=["begun","thing","order"]) (cap:=[none,none,some 0]) (os:=(bA yA)) (oN:=["order","rows","place"])) (kZ (aE 1)) (λ_ _ _=>(bS (i:=0) MK)) (λ_ _ _=>gD) (λ_ _ _=>(kZ (aY (dI g) (z0l T) T.m_q3 T.F_q3.kp T.B_q3 (aI (aE 2) (aI (aE 0) aL))))) (λ_ _ _=>(bS (i:=1) MK)) (λ_ _ _=>gD) (λ_ _ _=>(gM (aE 0) (fU (aI (aE 1) aL))))))) (bI (cA (aE 1))))))
theorem z0o:Ab ["row","pair"] ["row","pair"] (bA DG):=cR
theorem z0p (T:Tx K mg G A):Ah P w K mg base (bX P w base) 1 A.f_qD A.fd_qD ["row","pair"] (cB G F_qD):=cU (k:=0) T.F_qD z0o T.hK λ_ _ _ _ _ _ _ g=>(bI (cA (VO rfl T.z_abs (aI (qU (wR (aE 0) (cV (aE 1) bE)) (wR (aE 0) (cV (aE 1) bE))) aL))))
theorem z0q:Ab ["row","pairs"] ["row","pairs"] (bA yB):=cR
theorem M0 (T:Tx K mg G A):Ah P w K mg base (bX P w base) 2 A.f_qc A.fd_qc ["row","pairs"] (cB G F_qc):=cU (k:=1) T.F_qc z0q T.hK λ_ _ _ _ _ _ _ g=>(bI (cA (l8 g.calm rfl T.z_max (jF (fV g.calm (eV (N:=["pair","row"]) (cap:=[none,some 0]) (os:=(bA yB)) (oN:=["row","pairs"])) (kZ (aE 1)) (λ_ _ _=>(bS (i:=0) t7)) (λ_ _ _=>gD) (λ_ _ _=>(aY (dI g) (z0p T) T.m_qD T.F_qD.kp T.B_qD (aI (aE 1) (aI (aE 0) aL)))))))))
theorem z0r:Ab ["order","row"] ["order","row"] (bA DH):=cR
theorem z0s (T:Tx K mg G A):Ah P w K mg base (bX P w base) 11 A.f_q8 A.fd_q8 ["order","row"] (cB G F_q8):=cU (k:=10) T.F_q8 z0r T.hK λ_ _ _ _ _ _ _ g=>(bB (gJ (aY g (DX T) T.m_q5 T.F_q5.kp T.B_q5 (aI (aE 0) (aI (aE 1) aL)))) (bI (cA (aY g (M0 T) T.m_qc T.F_qc.kp T.B_qc (aI (aE 1) (aI (aY g (MY T) T.m_qi T.F_qi.kp T.B_qi (aI (aE 0) aL)) aL))))))
theorem z0t:Ab ["one","other"] ["one","other"] (bA DI):=cR
theorem DY (T:Tx K mg G A):Ah P w K mg base (bX P w base) 9 A.f_qy A.fd_qy ["one","other"] (cB G F_qy):=cU (k:=8) T.F_qy z0t T.hK λ_ _ _ _ _ _ _ g=>(bB (gJ (aY g (pO T) T.m_qq T.F_qq.kp T.B_qq (aI (aE 0) aL))) (bB (gJ (aY g (pO T) T.m_qq T.F_qq.kp T.B_qq (aI (aE 1) aL))) (bI (gJ (aY g (z0d T) T.m_q4 T.F_q4.kp T.B_q4 (aI (gM (cV (aE 0) bE) (cV (aE 1) bE)) aL))))))
theorem z0u:Ab ["one","other","first"] ["one","other"] (bA yC):=cR
theorem M1 (T:Tx K mg G A):Ah P w K mg base (bX P w base) 1 A.f_qd A.fd_qd ["one","other"] (cB G F_qd):=cU (k:=0) T.F_qd z0u T.hK λ_ _ _ _ _ _ _ g=>(bB (dE (i:=2) t9 (cV (aE 0) bE)) (bI (cA (gM (BG rfl T.z_list (aI (cV (aE 0) bE) aL)) (jF (fV g.calm (eV (N:=["a","b","first"]) (cap:=[none,none,some 2]) (os:=(bA yC)) (oN:=["one","other","first"])) (kH (cV (aE 1) bE)) (λ_ _ _=>(gB (dI g).calm (cZ (bS (i:=0) ML) (cZ (bS (i:=1) ML) gA)))) (λ_ _ _=>gD) (λ_ _ _=>(fU (aI (gM (aE 2) (aE 0)) (aI (gM (aE 2) (aE 1)) aL))))))))))
theorem z0v:Ab ["one","other","many","between"] ["one","other"] (bA yD):=cR
theorem M3 (T:Tx K mg G A):Ah P w K mg base (bX P w base) 10 A.f_q9 A.fd_q9 ["one","other"] (cB G F_q9):=cU (k:=9) T.F_q9 z0v T.hK λ_ _ _ _ _ _ _ g=>(bB (gJ (aY g (DY T) T.m_qy T.F_qy.kp T.B_qy (aI (aE 0) (aI (aE 1) aL)))) (bB (dE (i:=2) MM (gM (cV (aE 0) bE) (cV (aE 1) bE))) (bB (JT (i:=3) MM rfl g.calm (eV (N:=["a","b","many","one"]) (cap:=[none,none,some 2,some 0]) (os:=(bA yD)) (oN:=["one","other","many","between"])) (mJ rfl T.z_range (aI (cV (aE 0) bE) aL)) (λ_ _ _=>(bS (i:=0) MN)) (λ_ _ _=>gD) (λ_ _ _=>(AY rfl T.z_range (aI (cV (aE 3) bE) (aI (aE 2) aL)))) (λ_ _ _=>(bS (i:=1) MN)) (λ_ _ _=>gD) (λ_ _ _=>(fU (aI (aE 0) (aI (aE 1) aL))))) (bI (cA (fU (aI (aE 2) (aI (vW rfl T.z_tuple (aI (LP rfl T.z_sorted (aI (gM (aY g (M1 T) T.m_qd T.F_qd.kp T.B_qd (aI (aE 0) (aI (aE 1) aL))) (aE 3)) aL)) aL)) aL))))))))
theorem z0w:Ab ["one","other"] ["one","other"] (bA DJ):=cR
theorem z0x (T:Tx K mg G A):Ah P w K mg base (bX P w base) 10 A.f_q7 A.fd_q7 ["one","other"] (cB G F_q7):=cU (k:=9) T.F_q7 z0w T.hK λ_ _ _ _ _ _ _ g=>(bB (gJ (aY g (DY T) T.m_qy T.F_qy.kp T.B_qy (aI (aE 0) (aI (aE 1) aL)))) (bI (cA (fU (aI (gM (cV (aE 0) bE) (cV (aE 1) bE)) (aI (vW rfl T.z_tuple (aI (aY g (M1 T) T.m_qd T.F_qd.kp T.B_qd (aI (aE 0) (aI (aE 1) aL))) aL)) aL))))))
theorem z0y:Ab ["order","thing","many","pairs","left"] ["order","thing"] (bA uD):=cR
theorem M4 (T:Tx K mg G A):Ah P w K mg base (bX P w base) 10 A.f_qA A.fd_qA ["order","thing"] (cB G F_qA):=cU (k:=9) T.F_qA z0y T.hK λ_ _ _ _ _ _ _ g=>(bB (gJ (aY g (z0b T) T.m_qr T.F_qr.kp T.B_qr (aI (aE 0) (aI (aE 1) aL)))) (bB (sT (aE 0) (gB g.calm (cZ (bS (i:=2) DT) (cZ (bS (i:=3) DT) gA)))) (bB (fP (qW g (aE 2) bE) (bI (wC g rfl T.n_TooFew T.ns_TooFew T.x_TooFew T.ce_TooFew (aI sN aL))) fO) (bB (dE (i:=4) DT (jF (fV g.calm (eV (N:=["other","thing"]) (cap:=[none,some 1]) (os:=(bA uD)) (oN:=["order","thing","many","pairs","left"])) (mJ rfl T.z_range (aI (aE 2) aL)) (λ_ _ _=>(bS (i:=0) u0)) (λ_ _ _=>(mM (mP (dI g) (aE 0) (aE 1)))) (λ_ _ _=>(aE 0))))) (bI (cA (fU (aI (qU (aE 2) bE) (aI (IM rfl T.z_tuple (fV g.calm (eV (N:=["a","b","left","thing"]) (cap:=[none,none,some 4,some 1]) (os:=(bA uD)) (oN:=["order","thing","many","pairs","left"])) (kH (aE 3)) (λ_ _ _=>(gB (dI g).calm (cZ (bS (i:=0) MP) (cZ (bS (i:=1) MP) gA)))) (λ_ _ _=>(mM (tM (dI g) (aE 3) (fU (aI (aE 0) (aI (aE 1) aL)))))) (λ_ _ _=>(fU (aI (LU (aE 2) (aE 0)) (aI (LU (aE 2) (aE 1)) aL)))))) aL)))))))))
theorem z0z:Ab ["one","other","row","more"] ["one","other","row","more"] (bA yE):=cR
theorem z10 (T:Tx K mg G A):Ah P w K mg base (bX P w base) 11 A.f_qf A.fd_qf ["one","other","row","more"] (cB G F_qf):=cU (k:=10) T.F_qf z0z T.hK λ_ _ _ _ _ _ _ g=>(bB (gJ (aY g (DY T) T.m_qy T.F_qy.kp T.B_qy (aI (aE 0) (aI (aE 1) aL)))) (bB (gJ (aY g (DX T) T.m_q5 T.F_q5.kp T.B_q5 (aI (aE 0) (aI (aE 2) aL)))) (bB (gJ (aY g (DX T) T.m_q5 T.F_q5.kp T.B_q5 (aI (aE 1) (aI (aE 3) aL)))) (bI (cA (gM (aE 2) (IM rfl T.z_tuple (fV g.calm (eV (N:=["thing","one"]) (cap:=[none,some 0]) (os:=(bA yE)) (oN:=["one","other","row","more"])) (kH (aE 3)) (λ_ _ _=>(bS (i:=0) u5)) (λ_ _ _=>gD) (λ_ _ _=>(gM (cV (aE 1) bE) (aE 0)))))))))))
theorem z11:Ab ["order","pairs"] ["order"] (bA yF):=cR
theorem M5 (T:Tx K mg G A):Ah P w K mg base (bX P w base) 10 A.f_qa A.fd_qa ["order"] (cB G F_qa):=cU (k:=9) T.F_qa z11 T.hK λ_ _ _ _ _ _ _ g=>(bB (dE (i:=1) u6 (aY g (MY T) T.m_qi T.F_qi.kp T.B_qi (aI (aE 0) aL))) (bI (cA (jF (fV g.calm (eV (N:=["row","pairs"]) (cap:=[none,some 1]) (os:=(bA yF)) (oN:=["order","pairs"])) (kZ (aY g (z0n T) T.m_qz T.F_qz.kp T.B_qz (aI (aE 0) aL))) (λ_ _ _=>(bS (i:=0) t6)) (λ_ _ _=>gD) (λ_ _ _=>(fU (aI (aE 0) (aI (aY (dI g) (M0 T) T.m_qc T.F_qc.kp T.B_qc (aI (aE 0) (aI (aE 1) aL))) aL)))))))))
theorem z12:Ab ["order"] ["order"] (bA yG):=cR
theorem mW (T:Tx K mg G A):Ah P w K mg base (bX P w base) 11 A.f_qp A.fd_qp ["order"] (cB G F_qp):=cU (k:=10) T.F_qp z12 T.hK λ_ _ _ _ _ _ _ g=>(bI (cA (JJ g.calm rfl T.z_min (aI (jF (fV g.calm (eV (N:=["row","span"]) (cap:=[none,none]) (os:=(bA yG)) (oN:=["order"])) (kZ (aY g (M5 T) T.m_qa T.F_qa.kp T.B_qa (aI (aE 0) aL))) (λ_ _ _=>(gB (dI g).calm (cZ (bS (i:=0) yK) (cZ (bS (i:=1) yK) gA)))) (λ_ _ _=>gD) (λ_ _ _=>(aE 1)))) aL))))
theorem z13:Ab ["order","found","least"] ["order"] (bA uE):=cR
theorem M6 (T:Tx K mg G A):Ah P w K mg base (bX P w base) 11 A.f_qv A.fd_qv ["order"] (cB G F_qv):=cU (k:=10) T.F_qv z13 T.hK λ_ _ _ _ _ _ _ g=>(bB (dE (i:=1) MQ (aY g (M5 T) T.m_qa T.F_qa.kp T.B_qa (aI (aE 0) aL))) (bB (dE (i:=2) MQ (JJ g.calm rfl T.z_min (aI (jF (fV g.calm (eV (N:=["row","span"]) (cap:=[none,none]) (os:=(bA uE)) (oN:=["order","found","least"])) (kZ (aE 1)) (λ_ _ _=>(gB (dI g).calm (cZ (bS (i:=0) yK) (cZ (bS (i:=1) yK) gA)))) (λ_ _ _=>gD) (λ_ _ _=>(aE 1)))) aL))) (bI (cA (jF (fV g.calm (eV (N:=["row","span","least"]) (cap:=[none,none,some 2]) (os:=(bA uE)) (oN:=["order","found","least"])) (kZ (aE 1)) (λ_ _ _=>(gB (dI g).calm (cZ (bS (i:=0) MR) (cZ (bS (i:=1) MR) gA)))) (λ_ _ _=>(mM (qW (dI g) (aE 1) (aE 2)))) (λ_ _ _=>(aE 0))))))))
theorem z14:Ab ["order"] ["order"] (bA DK):=cR
theorem M7 (T:Tx K mg G A):Ah P w K mg base (bX P w base) 12 A.f_qn A.fd_qn ["order"] (cB G F_qn):=cU (k:=11) T.F_qn z14 T.hK λ_ _ _ _ _ _ _ g=>(bI (cA (cV (aY g (M6 T) T.m_qv T.F_qv.kp T.B_qv (aI (aE 0) aL)) bE)))
theorem z15:Ab ["_law_script","_law_k"] ["_law_script","_law_k"] (bA DL):=cR
theorem z16 (T:Tx K mg G A):Ah P w K mg base (bX P w base) 1 A.f_qe A.fd_qe ["_law_script","_law_k"] (cB G (F_qe G.scr)):=cU (k:=0) (N:=["_law_script","_law_k"]) (mb:=(xK G.scr)) T.F_qe z15 T.hK λ_ _ _ _ _ _ _ g=>(bB (fP (CH g (aE 1) (HU rfl T.z_len (aI (aE 0) aL))) (bI (cA (VL (aE 0) (aE 1)))) fO) (bI (cA bE)))
theorem z17:Ab ["_law_script","_law_k","_law_cell"] ["_law_script","_law_k"] (bA DM):=cR
theorem z18 (T:Tx K mg G A):Ah P w K mg base (bX P w base) 2 A.f_ql A.fd_ql ["_law_script","_law_k"] (cB G (F_ql G.scr)):=cU (k:=1) (N:=["_law_script","_law_k","_law_cell"]) (mb:=(xM G.scr)) T.F_ql z17 T.hK λ_ _ _ _ _ _ _ g=>(bB (dE (i:=2) u7 (aY g (z16 T) T.m_qe T.F_qe.kp T.B_qe (aI (aE 0) (aI (aE 1) aL)))) (bB (fP (X3 (aE 2) (JC bE bE)) (bI (cA (mH (aI (qU (aE 2) (JC bE bE)) (aI gH aL))))) fO) (bI (cA (mH (aI (qV (aE 2) bE) (aI gH aL)))))))
theorem z19:Ab ["_law_state_here","_law_many","_law_found","_law_stirred"] ["_law_state_here","_law_many"] (bA DN):=cR
theorem oG (T:Tx K mg G A):Ah P w K mg base (bX P w base) 1 A.f_qs A.fd_qs ["_law_state_here","_law_many"] (cB G F_qs):=cU (k:=0) T.F_qs z19 T.hK λ_ _ _ _ _ _ _ g=>(bB (fP (iQ (cV (aE 0) bE)) (bB (dE (i:=2) DU (qV (cV (aE 0) bE) (aE 1))) (bB (IQ (aE 0) bE (JK (cV (aE 0) bE) (aE 1))) (bI (cA (aE 2))))) fO) (bB (IQ (aE 0) bE (qV (gM (tH (cV (aE 0) bE) bE) bE) bE)) (bB (dE (i:=3) DU (qV (gM (gM (tH (cV (aE 0) bE) (cV (aE 0) bE)) (tH bE (cV (aE 0) bE))) bE) bE)) (bB (dE (i:=3) DU (qV (gM (tH (aE 3) (aE 3)) (tH bE (aE 3))) bE)) (bI (cA (qV (JK (aE 3) bE) (aE 1))))))))
theorem z1a:Ab ["_law_state_here","_law_things","_law_left","_law_found"] ["_law_state_here","_law_things"] (bA DO):=cR
theorem z1b (T:Tx K mg G A):Ah P w K mg base (bX P w base) 2 A.f_qb A.fd_qb ["_law_state_here","_law_things"] (cB G F_qb):=cU (k:=1) T.F_qb z1a T.hK λ_ _ _ _ _ _ _ g=>(bB (dE (i:=2) MT (BG rfl T.z_list (aI (aE 1) aL))) (bB (dE (i:=3) MT (mH aL)) (bB (IY 40 g.own (mP g (aE 2) (mH aL)) (bI (gJ (IP (aE 3) (XO (aE 2) (aY g (oG T) T.m_qs T.F_qs.kp T.B_qs (aI (aE 0) (aI (qZ rfl T.z_len (aI (aE 2) aL)) aL)))))))) (bI (cA (aE 3))))))
theorem z1c:Ab zy ["_law_pairs"] (bA yH):=cR
theorem z1d (T:Tx K mg G A):Ah P w K mg base (bX P w base) 1 A.f_qg A.fd_qg ["_law_pairs"] (cB G F_qg):=cU (k:=0) T.F_qg z1c T.hK λ_ _ _ _ _ _ _ g=>(bB (dE (i:=1) rK (LW g rfl T.z_sorted rfl T.z_set (aI (aE 0) aL))) (bI (IY 40 g.own (iQ gH) (bB (dE (i:=2) rK (BG rfl T.z_list (aI (aE 1) aL))) (bB (qO g.own g.calm (kZ (aE 1)) (gB g.calm (cZ (bS (i:=3) rK) (cZ (bS (i:=4) rK) gA))) (bI (gJ (WZ (aE 2) (fV g.calm (eV (N:=["_law_c","_law_d","_law_a","_law_b"]) (cap:=[none,none,some 3,some 4]) (os:=(bA yH)) (oN:=zy)) (kZ (aE 1)) (λ_ _ _=>(gB (dI g).calm (cZ (bS (i:=0) MU) (cZ (bS (i:=1) MU) gA)))) (λ_ _ _=>(mM (qW (dI g) (aE 3) (aE 0)))) (λ_ _ _=>(fU (aI (aE 2) (aI (aE 1) aL))))))))) (bB (dE (i:=2) rK (LW g rfl T.z_sorted rfl T.z_set (aI (aE 2) aL))) (bB (fP (qW g (aE 2) (aE 1)) (bI (cA (aE 1))) fO) (bI (dE (i:=1) rK (aE 2))))))))))
theorem z1e:Ab zw ["_law_state_here","_law_most"] (bA uF):=cR
theorem M8 (T:Tx K mg G A):Ah P w K mg base (bX P w base) 3 A.f_qj A.fd_qj ["_law_state_here","_law_most"] (cB G F_qj):=cU (k:=2) T.F_qj z1e T.hK λ_ _ _ _ _ _ _ g=>(bB (dE (i:=2) jG (qU (aE 1) (cV (L6 2) (aY g (oG T) T.m_qs T.F_qs.kp T.B_qs (aI (aE 0) (aI bE aL)))))) (bB (dE (i:=2) jG (sQ g.calm rfl T.z_max (aI bE (aI (aE 2) aL)))) (bB (dE (i:=3) jG (aY g (z1b T) T.m_qb T.F_qb.kp T.B_qb (aI (aE 0) (aI (i7 g rfl T.z_list rfl T.z_range (aI (aE 2) aL)) aL)))) (bB (dE (i:=4) jG (aY g (oG T) T.m_qs T.F_qs.kp T.B_qs (aI (aE 0) (aI bE aL)))) (bB (dE (i:=5) jG (mH aL)) (bB (dE (i:=6) jG (jF (fV g.calm (eV (N:=["_law_thing","_law_state_here"]) (cap:=[none,some 0]) (os:=(bA uF)) (oN:=zw)) (kZ (aE 3)) (λ_ _ _=>(bS (i:=0) u9)) (λ_ _ _=>gD) (λ_ _ _=>(aY (dI g) (oG T) T.m_qs T.F_qs.kp T.B_qs (aI (aE 1) (aI bE aL))))))) (bB (qO g.own g.calm (mJ rfl T.z_range (aI (aE 2) aL)) (bS (i:=7) jG) (bI (qO g.own g.calm (AY rfl T.z_range (aI (gM (aE 7) bE) (aI (aE 2) aL))) (bS (i:=8) jG) (bB (dE (i:=9) jG (mH (aI (tI g (aY g (oG T) T.m_qs T.F_qs.kp T.B_qs (aI (aE 0) (aI bE aL))) bE) (aI (tI g (aY g (oG T) T.m_qs T.F_qs.kp T.B_qs (aI (aE 0) (aI bE aL))) bE) (aI (X1 (aY g (oG T) T.m_qs T.F_qs.kp T.B_qs (aI (aE 0) (aI bE aL))) bE) aL))))) (bB (dE (i:=9) jG (gM (aE 9) (mH (aI (CG g (cV (aE 6) (aE 7)) (cV (aE 6) (aE 8))) (aI (tI g (cV (aE 6) (aE 7)) (cV (aE 6) (aE 8))) aL))))) (bI (fP (iQ (cV (aE 9) (aE 4))) (bI (gJ (IP (aE 5) (fU (aI (cV (aE 3) (aE 7)) (aI (cV (aE 3) (aE 8)) aL)))))) fO))))))) (bB (fP (qW g (aE 4) bE) (bB (dE (i:=5) jG (mH aL)) (bI (qO g.own g.calm (mJ rfl T.z_range (aI (aE 2) aL)) (bS (i:=7) jG) (bI (dE (i:=5) jG (gM (aE 5) (jF (fV g.calm (eV (N:=["_law_j","_law_i","_law_marks"]) (cap:=[none,some 7,some 6]) (os:=(bA uF)) (oN:=zw)) (mJ rfl T.z_range (aI (aE 2) aL)) (λ_ _ _=>(bS (i:=0) v5)) (λ_ _ _=>(mM (CH (dI g) (cV (aE 2) (aE 1)) (cV (aE 2) (aE 0))))) (λ_ _ _=>(fU (aI (aE 1) (aI (aE 0) aL)))))))))))) fO) (bI (cA (fU (aI (aE 2) (aI (vW rfl T.z_tuple (aI (aY g (z1d T) T.m_qg T.F_qg.kp T.B_qg (aI (aE 5) aL)) aL)) aL)))))))))))))
theorem z1f:Ab ["_law_state_here","_law_one","_law_other","_law_both","_law_beside","_law_mine","_law_theirs","_law_row","_law_about","_law_thing"] ["_law_state_here","_law_one","_law_other"] (bA DP):=cR
theorem z1g (T:Tx K mg G A):Ah P w K mg base (bX P w base) 13 A.f_qk A.fd_qk ["_law_state_here","_law_one","_law_other"] (cB G F_qk):=cU (k:=12) T.F_qk z1f T.hK λ_ _ _ _ _ _ _ g=>(bB (L4 (i:=3) (j:=4) g.calm uG rfl rfl (by decide) rfl rfl (aI (aY g (M3 T) T.m_q9 T.F_q9.kp T.B_q9 (aI (aE 1) (aI (aE 2) aL))) (aI (aY g (z0x T) T.m_q7 T.F_q7.kp T.B_q7 (aI (aE 1) (aI (aE 2) aL))) aL))) (bB (L4 (i:=5) (j:=6) g.calm uG rfl rfl (by decide) rfl rfl (aI (aY g (mW T) T.m_qp T.F_qp.kp T.B_qp (aI (aE 1) aL)) (aI (aY g (mW T) T.m_qp T.F_qp.kp T.B_qp (aI (aE 2) aL)) aL))) (bB (fP (Br.t (kS (BL (aY g (DV T) T.m_q0 T.F_q0.kp T.B_q0 (aI (aE 3) aL)) gH) (kS (BL (aY g (DV T) T.m_q0 T.F_q0.kp T.B_q0 (aI (aE 4) aL)) gH) (oO (mP g (aY g (mW T) T.m_qp T.F_qp.kp T.B_qp (aI (aE 3) aL)) (sQ g.calm rfl T.z_max (aI (aE 5) (aI (aE 6) aL)))))))) (bI (cA gH)) fO) (bB (dE (i:=7) uG (aY g (z10 T) T.m_qf T.F_qf.kp T.B_qf (aI (aE 1) (aI (aE 2) (aI (aY g (M7 T) T.m_qn T.F_qn.kp T.B_qn (aI (aE 1) aL)) (aI (aY g (M7 T) T.m_qn T.F_qn.kp T.B_qn (aI (aE 2) aL)) aL)))))) (bB (fP (Br.t (kS (BL (aY g (MZ T) T.m_qB T.F_qB.kp T.B_qB (aI (aE 3) (aI (aE 7) aL))) gH) (kS (mP g (aY g (z0s T) T.m_q8 T.F_q8.kp T.B_q8 (aI (aE 3) (aI (aE 7) aL))) (sQ g.calm rfl T.z_max (aI (aE 5) (aI (aE 6) aL)))) (oO (tM g (aE 7) (aY g (M6 T) T.m_qv T.F_qv.kp T.B_qv (aI (aE 3) aL))))))) (bI (cA gH)) fO) (bB (fP (CH g (aY g (mW T) T.m_qp T.F_qp.kp T.B_qp (aI (aE 4) aL)) (m8 g.calm rfl T.z_max (aI (aE 5) (aI (aE 6) (aI bE aL))))) (bI (cA gH)) fO) (bB (dE (i:=8) uG (aY g (M3 T) T.m_q9 T.F_q9.kp T.B_q9 (aI (aY g (DW T) T.m_qC T.F_qC.kp T.B_qC (aI (aE 2) aL)) (aI (aY g (DW T) T.m_qC T.F_qC.kp T.B_qC (aI (aE 1) aL)) aL)))) (bB (fP (Br.t (kS (mP g (qZ rfl T.z_len (aI (cV (aE 8) bE) aL)) (qZ rfl T.z_len (aI (cV (aE 3) bE) aL))) (oO (mP g (aY g (mW T) T.m_qp T.F_qp.kp T.B_qp (aI (aY g (DW T) T.m_qC T.F_qC.kp T.B_qC (aI (aE 3) aL)) aL)) (aY g (mW T) T.m_qp T.F_qp.kp T.B_qp (aI (aE 8) aL)))))) (bI (cA gH)) fO) (bB (dE (i:=9) uG (aY g (oG T) T.m_qs T.F_qs.kp T.B_qs (aI (aE 0) (aI (cV (aE 4) bE) aL)))) (bB (fP (JD (aY g (mW T) T.m_qp T.F_qp.kp T.B_qp (aI (aY g (M4 T) T.m_qA T.F_qA.kp T.B_qA (aI (aE 4) (aI (aE 9) aL))) aL)) (aY g (mW T) T.m_qp T.F_qp.kp T.B_qp (aI (aE 4) aL))) (bI (cA gH)) fO) (bI (cA (X0 (aY g (mW T) T.m_qp T.F_qp.kp T.B_qp (aI (aY g (M4 T) T.m_qA T.F_qA.kp T.B_qA (aI (aE 3) (aI (aE 9) aL))) aL)) (sQ g.calm rfl T.z_max (aI (aE 5) (aI (aE 6) aL))))))))))))))))
theorem z1h:Ab zx ["_law_script"] (bA DQ):=cR
theorem z1i (T:Tx K mg G A) (hT:∀μ n H k t a,G.clo μ n H k t a) (hC:si base A.cc A.P) (hB:oW mg base):Ah P w K mg base (bX P w base) 17 A.f_qE A.fd_qE ["_law_script"] (cB G (F_qE G.scr)):=YC (k:=16) (N:=zx) (mb:=xR G.scr) T.F_qE z1h T.hK λcdv Ar outer s H E₀ E hcd g=>(bB (qO g.own g.calm (mJ rfl T.z_range (aI (sQ g.calm rfl T.z_max (aI bE (aI (VU g.calm rfl T.z_min (aI (HU rfl T.z_len (aI (aE 0) aL)) (aI bE aL))) aL))) aL)) (bS (i:=1) yL) (bB (dE (i:=2) yL (aY g (z18 T) T.m_ql T.F_ql.kp T.B_ql (aI (aE 0) (aI (aE 1) aL)))) (bB (dE (i:=3) yL (aY g (M8 T) T.m_qj T.F_qj.kp T.B_qj (aI (aE 2) (aI bE aL)))) (bB (dE (i:=4) yL (aY g (M8 T) T.m_qj T.F_qj.kp T.B_qj (aI (aE 2) (aI (qU bE (cV (aE 3) bE)) aL)))) (bI (fP (kT (iQ (aY g (z1g T) T.m_qk T.F_qk.kp T.B_qk (aI (aE 2) (aI (aE 3) (aI (aE 4) aL)))))) (bI (cA gH)) fO)))))) (bI (cA gH)))
end
end L2.Mr.K82
namespace L2.Mr
open PySem PySem.Spec PyProof.Rows
section
variable{X:Cx}{G:Cfg}{E:XK}{c P:ah}{lpos:Pos}{k t:Nat}
end
section
variable{G:Cfg}{env:Env}{t0:Nat}{ls:Nat->Option Lm}{μ:Nat->ah}{h:Hs}{H:Hp}
end
section
variable{P:bh}{w:cp}{K:aq}{mg:Str->Option af}{base:da}{N:zr}{f:ah}{G:Cfg}{k:Nat}{ls:Nat->Option Lm}
end
section
variable{G:Cfg}
end
section
variable{X:Cx}{G:Cfg}{E:XK}{k:Nat}{q x y:Str}{p p2 py pos ps:Pos}{fr:ah}{fdr:bj}{n ncl j t:Nat}{mb:MS}{ls:Nat->Option Lm}{lc:Nat->Option (zq×M Dv)}{sc:ic}{iter:bq}{mi:M Src}
end
section
variable{X:Cx}{G:Cfg}{E:XK}{a b:bq}{elts:List bq}{kk:Nat}{tp p pos:Pos}{ta:TA}{ms:M zu }
end
open PySem.Calls
section
variable{X:Cx}{G:Cfg}{E:XK}{o e i:bq}{mo me mi:M Dv}{ml:M zu }{pos apos cpos:Pos}
end
section
variable{X:Cx}{G:Cfg}{E:XK}{c P:ah}{lpos:Pos}{k t:Nat}{ls:Nat->Option Lm}{os:ic}{oN:zr}
variable{q x y:Str}{p p2 py pos ps:Pos}{fr:ah}{fdr:bj}{n ncl j:Nat}{mb:MS}{lc:Nat->Option (zq×M Dv)}{sc:ic}{iter:bq}{mi:M Src}
end
end L2.Mr
namespace L2.Mr.Sam
open PySem PySem.Spec PyProof.Rows L2 L2.Mr
open L2.Mr.Com
end L2.Mr.Sam
namespace L2.Mr
open PySem PySem.Spec PyProof.Rows L2
section
variable{X:Cx}{G:Cfg}{E:XK}{a b e o:bq}{ma mb me mo:M Dv}{pos p cpos apos:Pos}
end
section
variable{X:Cx}{G:Cfg}{E:XK}{a b c e o:bq}{ma mb me mo:M Dv}{mt:M Bool}{pos p2:Pos}
end
section
variable{X:Cx}{G:Cfg}{E:XK}{e o:bq}{me mo:M Dv}{cpos apos:Pos}
end
section
variable{X:Cx}{G:Cfg}{E:XK}{e:bq}{es:List bq}{aQ:M zu }{p pos:Pos}
end
open L2.Mr
section
variable{X:Cx}{G:Cfg}{E:XK}{pos:Pos}
end
section
variable{X:Cx}{G:Cfg}{E:XK}{e:bq}{mo me:M Dv}{apos cpos np:Pos}{y:Str}
end
end L2.Mr
namespace L2.Mr.K06
open PySem PySem.Spec PyProof.Rows L2 L2.Mr
open L2.Mr.Com
open L2.Mr.Sam
def mb_qq:MS:=(bQ (dY (cD (aD F_q0 (aB (aA 0) aC)))) (iJ 0 (aB (mC (.str "this is no order")) aC)) bW)
def F_qq:zt:=aR 1 1 (mb_qq)
def lN:MS:=(aJ (aM (m2 aS (aA 0) (mC (.int 1))) (aF 3)) (aN (dZ (m2 cJ (aA 1) (aA 2)) (dZ (m2 (cN true) (aV (aB (aA 1) (aB (aA 2) aC))) (aA 3)) (m2 (cN true) (aV (aB (aA 2) (aB (aA 1) aC))) (aA 3))))))
def F_qt:zt:=aR 3 4 (lN)
def pJ:MS:=(aJ (bJ (aD F_qq (aB (aA 0) aC))) (aJ (aM (m2 aS (aA 0) (mC (.int 0))) (aF 1)) (aN (bH (aX (aQ cP (aB (aA 1) aC)) [none,none,some 0,some 1] (aF 0) bR (fR (aQ hY (aB (m2 cC (aA 0) (mC (.int 1))) (aB (aA 3) aC))) (aF 1) (cD (aD F_qt (aB (aA 2) (aB (aA 0) (aB (aA 1) aC))))) (aU (aV (aB (aA 0) (aB (aA 1) aC))))))))))
def F_qi:zt:=aR 1 2 (pJ)
def pK:MS:=(aJ (aM (aA 0) (bN 2 (aO (aF 2) (aO (aF 3) bP)))) (aJ (aM (bH (aX (aW dF (aA 3)) [none,none,some 1] (bN 2 (aO (aF 0) (aO (aF 1) bP))) (mB (m2 (cN true) (aA 0) (aA 2))) (aU (aA 1)))) (aF 4)) (aN (bH (aX (aQ cP (aB (aA 2) aC)) [none,some 1,some 4] (aF 0) (mI (mB (m2 (cN true) (aA 0) (aA 1))) (mB (m2 (cN true) (aA 0) (aA 2)))) (aU (aA 0)))))))
def F_q3:zt:=aR 2 5 (pK)
def pL:MS:=(aJ (bJ (aD F_qq (aB (aA 0) aC))) (aJ (aM (dM (aB (aV aC) aC)) (aF 1)) (aJ (gC (aQ cP (aB (m2 aS (aA 0) (mC (.int 0))) aC)) (aF 2) (aM (bH (aX (aW bY (aA 1)) [none,none,some 0] (aF 0) bR (fR (aW bY (aD F_q3 (aB (aA 2) (aB (aA 0) aC)))) (aF 1) bR (aU (m2 cC (aA 0) (aV (aB (aA 1) aC))))))) (aF 1))) (aN (aA 1)))))
def F_qz:zt:=aR 1 3 (pL)
def pM:MS:=(aN (aD (f1 nQ) (aB (m2 eY (hJ (aA 0) (m2 aS (aA 1) (mC (.int 0)))) (hJ (aA 0) (m2 aS (aA 1) (mC (.int 1))))) aC)))
def F_qD:zt:=aR 2 2 (pM)
def pN:MS:=(aN (m1 (pH 0) (bH (aX (aW bY (aA 1)) [none,some 0] (aF 0) bR (aU (aD F_qD (aB (aA 1) (aB (aA 0) aC))))))))
def F_qc:zt:=aR 2 2 (pN)
def uA:MS:=(aJ (aM (aD F_qi (aB (aA 0) aC)) (aF 1)) (aN (bH (aX (aW bY (aD F_qz (aB (aA 0) aC))) [none,some 1] (aF 0) bR (aU (aV (aB (aA 0) (aB (aD F_qc (aB (aA 0) (aB (aA 1) aC))) aC))))))))
def F_qa:zt:=aR 1 2 (uA)
def CP:MS:=(aN (aD (f1 (jS gL)) (aB (bH (aX (aW bY (aD F_qa (aB (aA 0) aC))) [none,none] (bN 2 (aO (aF 0) (aO (aF 1) bP))) bR (aU (aA 1)))) aC)))
def F_qp:zt:=aR 1 1 (CP)
def uB:MS:=(aJ (aM (aD F_qa (aB (aA 0) aC)) (aF 1)) (aJ (aM (aD (f1 (jS gL)) (aB (bH (aX (aW bY (aA 1)) [none,none] (bN 2 (aO (aF 0) (aO (aF 1) bP))) bR (aU (aA 1)))) aC)) (aF 2)) (aN (bH (aX (aW bY (aA 1)) [none,none,some 2] (bN 2 (aO (aF 0) (aO (aF 1) bP))) (mB (m2 cI (aA 1) (aA 2))) (aU (aA 0)))))))
def F_qv:zt:=aR 1 3 (uB)
def CQ:MS:=(aN (m2 aS (aD F_qv (aB (aA 0) aC)) (mC (.int 0))))
def F_qn:zt:=aR 1 1 (CQ)
end L2.Mr.K06
namespace L2.Mr.K05
open PySem PySem.Spec PyProof.Rows L2 L2.Mr L2.Mr.Com
def mb_qq:MS:=(bQ (dY (cD (aD F_q0 (aB (aA 0) aC)))) (iJ 0 (aB (mC (.str "this is no order")) aC)) bW)
def F_qq:zt:=aR 1 1 (mb_qq)
def lN:MS:=(aJ (aM (m2 aS (aA 0) (mC (.int 1))) (aF 3)) (aN (dZ (m2 cJ (aA 1) (aA 2)) (dZ (m2 (cN true) (aV (aB (aA 1) (aB (aA 2) aC))) (aA 3)) (m2 (cN true) (aV (aB (aA 2) (aB (aA 1) aC))) (aA 3))))))
def F_qt:zt:=aR 3 4 (lN)
def pJ:MS:=(aJ (bJ (aD F_qq (aB (aA 0) aC))) (aJ (aM (m2 aS (aA 0) (mC (.int 0))) (aF 1)) (aN (bH (aX (aQ cP (aB (aA 1) aC)) [none,none,some 0,some 1] (aF 0) bR (fR (aQ hY (aB (m2 cC (aA 0) (mC (.int 1))) (aB (aA 3) aC))) (aF 1) (cD (aD F_qt (aB (aA 2) (aB (aA 0) (aB (aA 1) aC))))) (aU (aV (aB (aA 0) (aB (aA 1) aC))))))))))
def F_qi:zt:=aR 1 2 (pJ)
def rJ:MS:=(aJ (bJ (aD F_qq (aB (aA 0) aC))) (aJ (aM (aA 0) (bN 2 (aO (aF 2) (aO (aF 3) bP)))) (aJ (bQ (eH (dY (cD (aD F_qm (aB (aA 2) (aB (aA 1) aC))))) (eH (mB (m2 cJ (aD (f1 eZ) (aB (aA 1) aC)) (aA 2))) (mB (m2 cJ (aD (f1 lM) (aB (aA 1) aC)) (aA 2))))) (aN (mC (.bl false))) bW) (aN (mL iS (aX (aW dF (aA 3)) [none,none,some 1] (bN 2 (aO (aF 0) (aO (aF 1) bP))) bR (aU (m2 eI (hJ (aA 2) (aA 0)) (hJ (aA 2) (aA 1))))))))))
def F_qB:zt:=aR 2 4 (rJ)
def tX:MS:=(bQ (dY (cD (aD F_qB (aB (aA 0) (aB (aA 1) aC))))) (iJ 5 (aB (mC (.str "this is no row of the order")) aC)) bW)
def F_q5:zt:=aR 2 2 (tX)
def pM:MS:=(aN (aD (f1 nQ) (aB (m2 eY (hJ (aA 0) (m2 aS (aA 1) (mC (.int 0)))) (hJ (aA 0) (m2 aS (aA 1) (mC (.int 1))))) aC)))
def F_qD:zt:=aR 2 2 (pM)
def pN:MS:=(aN (m1 (pH 0) (bH (aX (aW bY (aA 1)) [none,some 0] (aF 0) bR (aU (aD F_qD (aB (aA 1) (aB (aA 0) aC))))))))
def F_qc:zt:=aR 2 2 (pN)
def tY:MS:=(aJ (bJ (aD F_q5 (aB (aA 0) (aB (aA 1) aC)))) (aN (aD F_qc (aB (aA 1) (aB (aD F_qi (aB (aA 0) aC)) aC)))))
def F_q8:zt:=aR 2 2 (tY)
end L2.Mr.K05
namespace L2.Mr.K04
open PySem PySem.Spec PyProof.Rows L2 L2.Mr
open L2.Mr.Com
open L2.Mr.Sam
def mb_qq:MS:=L2.Mr.K05.mb_qq
def F_qq:zt:=aR 1 1 (mb_qq)
def pK:MS:=(aJ (aM (aA 0) (bN 2 (aO (aF 2) (aO (aF 3) bP)))) (aJ (aM (bH (aX (aW dF (aA 3)) [none,none,some 1] (bN 2 (aO (aF 0) (aO (aF 1) bP))) (mB (m2 (cN true) (aA 0) (aA 2))) (aU (aA 1)))) (aF 4)) (aN (bH (aX (aQ cP (aB (aA 2) aC)) [none,some 1,some 4] (aF 0) (mI (mB (m2 (cN true) (aA 0) (aA 1))) (mB (m2 (cN true) (aA 0) (aA 2)))) (aU (aA 0)))))))
def F_q3:zt:=aR 2 5 (pK)
def pL:MS:=(aJ (bJ (aD F_qq (aB (aA 0) aC))) (aJ (aM (dM (aB (aV aC) aC)) (aF 1)) (aJ (gC (aQ cP (aB (m2 aS (aA 0) (mC (.int 0))) aC)) (aF 2) (aM (bH (aX (aW bY (aA 1)) [none,none,some 0] (aF 0) bR (fR (aW bY (aD F_q3 (aB (aA 2) (aB (aA 0) aC)))) (aF 1) bR (aU (m2 cC (aA 0) (aV (aB (aA 1) aC))))))) (aF 1))) (aN (aA 1)))))
def F_qz:zt:=aR 1 3 (pL)
end L2.Mr.K04
namespace L2.Mr
open PySem PySem.Spec PyProof.Rows L2
section
variable{H:Hs}{j:Nat}{up up1:zo}{b v:Int}{ρ:Ev}{x:Nat}
end
section
variable{d:Dv}{r:Int}{i j:Nat}{fs:zo}
end
section
variable{d:Dv}{n r:Int}{ps qs:y'}{Fl:zt}
end
theorem uH {α:Type}{src:Src}{sg:dQ}{t:M Bool}{m:MC}(xs:List α) (out:α->zu) (S:Ev->Hs->Prop)
  (fin:∀ρ h,S ρ h->src.fin h=true)
  (step:∀k (hk:k<xs.length) ρ h,S ρ h->∃d ρ1,src.get k h=some d/\sg d ρ=some ρ1 /\
   ((∃h2,t ρ1 h=.ok false h2/\out xs[k]=[]/\S ρ1 h2)∨∃h2,t ρ1 h=.ok true h2/\∀acc:zu,acc.length+(out xs[k]).length<=900000->∃ρ3 h3,m ρ1 h2 acc=.ok (ρ3,acc++out xs[k]) h3/\S ρ3 h3)):
  ∀(f k:Nat) (ρ:Ev) (h:Hs) (acc:zu),f+k=xs.length->S ρ h->acc.length+((xs.drop k).flatMap out).length<=900000->∃ρ' h',gK src sg t m f k ρ h acc=.ok (ρ',acc++(xs.drop k).flatMap out) h'/\S ρ' h'
 |0,k,ρ,h,acc,e,s,hl=>by have:xs.drop k=[]:=List.drop_eq_nil_of_le (by omega);exact⟨ρ,h,by simp[gK,fin ρ h s,this],s⟩
 |f+1,k,ρ,h,acc,e,s,hl=>by
  have hk:k<xs.length:=by omega
  obtain⟨d,ρ1,e1,e2,e3⟩:=step k hk ρ h s;rw[List.drop_eq_getElem_cons hk,gn]at hl ⊢;rw[bw]at hl
  rcases e3 with⟨h2,e3,e4,s2⟩|⟨h2,e3,e4⟩
  ·obtain⟨ρ',h',e5,s5⟩:=uH xs out S fin step f (k+1) ρ1 h2 acc (by omega) s2 (by omega);exact⟨ρ',h',by simp[gK,e1,e2,e3,e4,e5],s5⟩
  ·obtain⟨ρ3,h3,e6,s3⟩:=e4 acc (by omega);obtain⟨ρ',h',e5,s5⟩:=uH xs out S fin step f (k+1) ρ3 h3 (acc++out xs[k]) (by omega) s3 (by rw[bw];omega);exact⟨ρ',h',by simp[gK,e1,e2,e3,e6,e5],s5⟩
theorem yM {α:Type}{mi:M Src}{cap:List (Option Nat)}{src:Src}{sg:dQ}{t:M Bool}{m:MC}{ρ:Ev}{H H1:Hs}(xs:List α) (out:α->zu) (S:Ev->Hs->Prop)
  (hi:mi ρ H=.ok src H1) (hn:src.n=xs.length) (s0:S (jO cap ρ) H1) (fin:∀ρ h,S ρ h->src.fin h=true)
  (step:∀k (hk:k<xs.length) ρ h,S ρ h->∃d ρ1,src.get k h=some d/\sg d ρ=some ρ1 /\
   ((∃h2,t ρ1 h=.ok false h2/\out xs[k]=[]/\S ρ1 h2)∨∃h2,t ρ1 h=.ok true h2/\∀acc:zu,acc.length+(out xs[k]).length<=900000->∃ρ3 h3,m ρ1 h2 acc=.ok (ρ3,acc++out xs[k]) h3/\S ρ3 h3))
  (hl:(xs.flatMap out).length<=900000):∃ρ' H',aX mi cap sg t m ρ H=.ok (xs.flatMap out) H'/\S ρ' H':=by
 obtain⟨ρ',h',e,s⟩:=uH xs out S fin step xs.length 0 (jO cap ρ) H1 [] (by omega) s0 (by simpa using hl);refine⟨ρ',h', ?_,s⟩;unfold aX;rw[hi,Rs.bind_ok,hn,e];simp
theorem yN {e:M Dv}{ρ:Ev}{h h1:Hs}{d:Dv}{acc:zu}(he:e ρ h=.ok d h1) (hl:acc.length+[d].length<=900000):aU e ρ h acc=.ok (ρ,acc++[d]) h1:=by
 have:acc.length<1000000:=by simp at hl;omega
 simp[aU,he,this]
theorem gQ {α:Type}{mi:M Src}{cap:List (Option Nat)}{src:Src}{sg:dQ}{t:M Bool}{e:M Dv}{ρ:Ev}{H H1:Hs}(xs:List α) (g:α->zv) (S:Ev->Prop)
  (hi:mi ρ H=.ok src H1) (hn:src.n=xs.length) (s0:S (jO cap ρ)) (fin:src.fin H1=true)
  (step:∀k (hk:k<xs.length) ρ,S ρ->∃d ρ1,src.get k H1=some d/\sg d ρ=some ρ1/\S ρ1/\match g xs[k]with
   |none=>t ρ1 H1=.ok false H1
   |some v=>t ρ1 H1=.ok true H1/\e ρ1 H1=.ok v H1)
  (hl:xs.length<=900000):aX mi cap sg t (aU e) ρ H=.ok (xs.filterMap g) H1:=by
 have fm:∀l:List α,l.flatMap (λx=>(g x).toList)=l.filterMap g:=λl=>by
  induction l with
  |nil=>rfl
  |cons x l ih=>rw[gn,ih,cq];cases g x <;> rfl
 have len:(xs.filterMap g).length<=xs.length:=qr g xs;obtain⟨ρ',H',h,_,rfl⟩:=yM (mi:=mi) (cap:=cap) (src:=src) (sg:=sg) (t:=t) (m:=aU e) (ρ:=ρ) (H:=H) (H1:=H1) xs (λx=>(g x).toList) (λρ h=>S ρ/\h=H1) hi hn ⟨s0,rfl⟩ (λρ h s=>by rw[s.2];exact fin)
  (λk hk ρ h ⟨s,e1⟩=>by
   subst e1;obtain⟨d,ρ1,e1,e2,s1,e3⟩:=step k hk ρ s;refine⟨d,ρ1,e1,e2, ?_⟩
   cases q:g xs[k]with
   |none=>rw[q]at e3;exact .inl ⟨h,e3,rfl,s1,rfl⟩
   |some v=>rw[q]at e3;exact .inr ⟨h,e3.1,λacc hl=>⟨ρ1,h,yN e3.2 hl,s1,rfl⟩⟩) (by rw[fm];omega)
 rw[h,fm]
theorem DZ {α β:Type}{mi mj:M Src}{cap:List (Option Nat)}{src:Src}{sg sg2:dQ}{t2:M Bool}{e:M Dv}{ρ:Ev}{H H1:Hs}(xs:List α) (ys:α->List β) (g:α->β->zv) (S:Ev->Prop)
  (hi:mi ρ H=.ok src H1) (hn:src.n=xs.length) (s0:S (jO cap ρ)) (fin:src.fin H1=true)
  (step:∀k (hk:k<xs.length) ρ,S ρ->∃(d:Dv) (ρ1:Ev) (src2:Src) (S2:Ev->Prop),src.get k H1=some d/\sg d ρ=some ρ1/\S2 ρ1/\(∀ρ,S2 ρ->S ρ)/\mj ρ1 H1=.ok src2 H1/\src2.n=(ys xs[k]).length/\src2.fin H1=true /\
   ∀j (hj:j<(ys xs[k]).length) ρ,S2 ρ->∃d ρ2,src2.get j H1=some d/\sg2 d ρ=some ρ2/\S2 ρ2/\match g xs[k] (ys xs[k])[j]with
    |none=>t2 ρ2 H1=.ok false H1
    |some v=>t2 ρ2 H1=.ok true H1/\e ρ2 H1=.ok v H1)
  (hl:(xs.flatMap λx=>(ys x).filterMap (g x)).length<=900000):aX mi cap sg bR (fR mj sg2 t2 (aU e)) ρ H=.ok (xs.flatMap λx=>(ys x).filterMap (g x)) H1:=by
 have fm:∀(x:α) (l:List β),l.flatMap (λy=>(g x y).toList)=l.filterMap (g x):=λx l=>by
  induction l with
  |nil=>rfl
  |cons y l ih=>rw[gn,ih,cq];cases g x y <;> rfl
 obtain⟨ρ',H',h,_,rfl⟩:=yM (mi:=mi) (cap:=cap) (src:=src) (sg:=sg) (t:=bR) (m:=fR mj sg2 t2 (aU e)) (ρ:=ρ) (H:=H) (H1:=H1) xs (λx=>(ys x).filterMap (g x)) (λρ h=>S ρ/\h=H1) hi hn ⟨s0,rfl⟩ (λρ h s=>by rw[s.2];exact fin)
  (λk hk ρ h ⟨s,e1⟩=>by
   subst e1;obtain⟨d,ρ1,src2,S2,e1,e2,s1,sS,e3,e4,e5,e6⟩:=step k hk ρ s;refine⟨d,ρ1,e1,e2,.inr ⟨h,rfl,λacc hl=>?_⟩⟩;obtain⟨ρ3,h3,r,s3,rfl⟩:=uH (src:=src2) (sg:=sg2) (t:=t2) (m:=aU e) (ys xs[k]) (λy=>(g xs[k] y).toList) (λρ hh=>S2 ρ/\hh=h) (λρ hh s=>by rw[s.2];exact e5)
    (λj hj ρ hh ⟨s,e1⟩=>by
     subst e1;obtain⟨d,ρ2,z1,z2,z3,z4⟩:=e6 j hj ρ s;refine⟨d,ρ2,z1,z2, ?_⟩
     cases q:g xs[k] (ys xs[k])[j]with
     |none=>rw[q]at z4;exact .inl ⟨hh,z4,rfl,z3,rfl⟩
     |some v=>rw[q]at z4;exact .inr ⟨hh,z4.1,λacc hl=>⟨ρ2,hh,yN z4.2 hl,z3,rfl⟩⟩) (ys xs[k]).length 0 ρ1 h acc (by omega) ⟨s1,rfl⟩ (by rw[tj,fm];exact hl)
   refine⟨ρ3,h3, ?_,sS ρ3 s3,rfl⟩;unfold fR;rw[e3];dsimp only;rw[e4,r,tj,fm]) hl
 exact h
theorem z1j {c:M Bool}{b:MS}{f:Nat}{ρ:Ev}{h h1:Hs}(e:c ρ h=.ok false h1):iL c b (f+1) ρ h=.nx ρ h1:=by show(c ρ h).thenS _=_;rw[e];rfl
theorem M9 {c:M Bool}{b:MS}{f:Nat}{ρ ρ2:Ev}{h h1 h2:Hs}(e:c ρ h=.ok true h1) (q:b ρ h1=.nx ρ2 h2):iL c b (f+1) ρ h=iL c b f ρ2 h2:=by show(c ρ h).thenS _=_;rw[e];simp[Rs.thenS,q]
theorem z1k {c:M Bool}{b:MS}{f:Nat}{ρ:Ev}{d:Dv}{h h1 h2:Hs}(e:c ρ h=.ok true h1) (q:b ρ h1=.rt d h2):iL c b (f+1) ρ h=.rt d h2:=by show(c ρ h).thenS _=_;rw[e];simp[Rs.thenS,q]
theorem yO:∀bs:List Bool,bG nV (bs.map Dv.bl)=some bs
 | []=>rfl
 |b::bs=>by rw[df,bG,yO bs];rfl
end L2.Mr
namespace L2.Mr.Com
open PySem PySem.Spec PyProof.Rows L2 L2.Mr
def aH (n:Nat) (ps:y'):Dv:=.tup [.int n,.tup (ps.map aG)]
theorem EA {n:Nat}{ps:y'}(H:Hs):aS (aH n ps) (.int 0) H=.ok (.int n) H:=rfl
theorem NA {n:Nat}{ps:y'}(H:Hs):aS (aH n ps) (.int 1) H=.ok (.tup (ps.map aG)) H:=rfl
theorem uI {α:Type}{ml:M zu }{ρ:Ev}{H H1:Hs}{xs:List α}{f:α->Bool}(h:ml ρ H=.ok (xs.filterMap λx=>some (.bl (f x))) H1):mL iS ml ρ H=.ok (.bl (xs.all f)) H1:=by
 have e:(xs.filterMap λx=>some (Dv.bl (f x)))=(xs.map f).map Dv.bl:=by simp
 unfold mL;rw[h,Rs.bind_ok,e];unfold iS;rw[yO];simp[List.all_map]
theorem z1l {α:Type}{ml:M zu }{ρ:Ev}{H H1:Hs}{xs:List α}{f:α->Bool}(h:ml ρ H=.ok (xs.filterMap λx=>some (.bl (f x))) H1):mL sV ml ρ H=.ok (.bl (xs.any f)) H1:=by
 have e:(xs.filterMap λx=>some (Dv.bl (f x)))=(xs.map f).map Dv.bl:=by simp
 unfold mL;rw[h,Rs.bind_ok,e];unfold sV;rw[yO];simp[uu]
section
variable{H:Hs}{n x:Int}{ps:y'}
theorem NB:F_q2 [.int x] H=.ok (.bl true) H:=by simp[F_q2,CI,aR,cQ,aN,dZ,m1,aA,fW,jP,qX,qY,qG,bO]
theorem EC {lo hi:Int}:F_qo [.int x,.int lo,.int hi] H=.ok (.bl (decide (lo<=x)&&decide (x<=hi))) H:=by
 by_cases h:lo<=x
 ·simp[F_qo,xI,aR,cQ,aN,dZ,aD,aB,aA,aC,NB,qF,lC,iG,h,bO]
 ·simp[F_qo,xI,aR,cQ,aN,dZ,aD,aB,aA,aC,NB,qF,lC,iG,h,bO]
def isT (n x:Int):Bool:=decide (0<=x)&&decide (x<=n - 1)
theorem NC:F_q1 [.int n,.int x] H=.ok (.bl (isT n x)) H:=by simp[F_q1,CJ,aR,cQ,aN,aD,aB,aA,aC,mC,m2,eY,iG,EC,bO,isT]
theorem z1m {xs:zo}(hl:xs.length<=1000):F_qm [.int n,.tup (xs.map Dv.int)] H=.ok (.bl (xs.all (isT n))) H:=by have h:aX (aW dF (aA 1)) [none,some 0] (aF 0) bR (aU (aD F_q1 (aB (aA 1) (aB (aA 0) aC)))) [some (.int n),some (.tup (xs.map Dv.int))] H=.ok (xs.filterMap λx=>some (.bl (isT n x))) H:=gQ xs (λx=>some (.bl (isT n x))) (λρ=>∃a,ρ=[a,some (.int n)]) rfl (by simp[dD]) ⟨_,rfl⟩ rfl (λk hk ρ ⟨a,e⟩=>by subst e;exact⟨.int xs[k],_,by simp[dD,hk],rfl,⟨_,rfl⟩,rfl,by simp[aD,aB,aA,aC,NC]⟩) (by omega);simp[F_qm,xJ,aR,cQ,aN,dZ,m1,fW,aA,jP,lE,uI h,bO]
def lO (n:Int) (p:Int×Int):Bool:=isT n p.1&&isT n p.2
theorem z1n (p:Int×Int):F_q6 [.int n,aG p] H=.ok (.bl (lO n p)) H:=by
 have h:F_qm [.int n,aG p] H=.ok (.bl (lO n p)) H:=by have:=z1m (H:=H) (n:=n) (xs:=[p.1,p.2]) (by simp);simpa[aG,lO]using this
 have hlen:f1 eZ [aG p] H=.ok (.int 2) H:=rfl
 cases q:lO n p with
 |false=>simp[F_q6,CK,aR,cQ,aN,dZ,aD,aB,aA,aC,h,q,bO]
 |true=>simp[F_q6,CK,aR,cQ,aN,dZ,aD,aB,aA,aC,h,q,bO,m2,hlen,mC,cI,cH,bU,bM]
theorem z1o (hl:ps.length<=1000):F_qu [.int n,.tup (ps.map aG)] H=.ok (.bl (ps.all (lO n))) H:=by have h:aX (aW dF (aA 1)) [none,some 0] (aF 0) bR (aU (aD F_q6 (aB (aA 1) (aB (aA 0) aC)))) [some (.int n),some (.tup (ps.map aG))] H=.ok (ps.filterMap λp=>some (.bl (lO n p))) H:=gQ ps (λp=>some (.bl (lO n p))) (λρ=>∃a,ρ=[a,some (.int n)]) rfl (by simp[dD]) ⟨_,rfl⟩ rfl (λk hk ρ ⟨a,e⟩=>by subst e;exact⟨aG ps[k],_,by simp[dD,hk],rfl,⟨_,rfl⟩,rfl,by simp[aD,aB,aA,aC,z1n]⟩) (by omega);simp[F_qu,LZ,aR,cQ,aN,uI h,bO]
theorem z1p (hl:ps.length<=1000):F_qw [.tup (ps.map aG)] H=.ok (.bl (ps.any λp=>decide (p.1=p.2))) H:=by have h:aX (aW dF (aA 0)) [none,none] (bN 2 (aO (aF 0) (aO (aF 1) bP))) bR (aU (m2 cI (aA 0) (aA 1))) [some (.tup (ps.map aG))] H=.ok (ps.filterMap λp=>some (.bl (decide (p.1=p.2)))) H:=gQ ps (λp=>some (.bl (decide (p.1=p.2)))) (λρ=>∃a b,ρ=[a,b]) rfl (by simp[dD]) ⟨_,_,rfl⟩ rfl (λk hk ρ ⟨a,b,e⟩=>by subst e;refine⟨aG ps[k],[some (.int ps[k].1),some (.int ps[k].2)],by simp[dD,hk],rfl,⟨_,_,rfl⟩,rfl, ?_⟩;simp[m2,aA,cI,cH,bU,bM];rw[ed];simp) (by omega);simp[F_qw,L0,aR,cQ,aN,z1l h,bO]
theorem z1q (p q:Int×Int):eI (aG p) (aG q) H=.ok (.bl (bZ p q)) H:=by simp only[eI,aG,bG,dU,LR];rw[<-rD];rfl
def lP (ps:y'):Bool:=(ps.zip (ps.drop 1)).all λq=>bZ q.1 q.2
theorem Cn:∀{ps:y'},lP ps=true↔eE bZ ps
 | []=>by simp[lP,eE]
 | [p]=>by simp[lP,eE]
 |p::q::r=>by
  have ih:=Cn (ps:=q::r);have e:lP (p::q::r)=(bZ p q&&lP (q::r)):=by simp[lP]
  rw[e,cw,ih];constructor
  ·rintro ⟨h1,h2⟩
   refine de.mpr ⟨λz hz=>?_,h2⟩
   rcases aw.mp hz with rfl|hz
   ·exact h1
   ·exact Bt.tr _ _ _ h1 ((de.mp h2).1 z hz)
  ·intro h;have:=de.mp h;exact⟨this.1 q (by simp),this.2⟩
theorem z1r (ds:zu):nW ds (some 1) none=ds.drop 1:=by
 unfold nW;rw[show HT.sIx ds.length 0 (some 1)=min 1 ds.length from HT.sIx_nat ds.length 0 1,HT.sIx_none]
 cases ds with
 |nil=>rfl
 |cons a r=>simp
theorem z1s (hl:ps.length<=1000):F_qx [.tup (ps.map aG)] H=.ok (.bl (lP ps)) H:=by
 have hi:aQ qT (aB (aA 0) (aB (tV (aA 0) (tF (mC (.int 1))) tE) aC)) [some (.tup (ps.map aG))] H=.ok (qS (ps.map aG) ((ps.drop 1).map aG)) H:=by simp[aQ,aB,aA,tV,tF,mC,I9,tE,xG,aC,qT,z1r,ui]
 have hz:((ps.map aG).zip ((ps.drop 1).map aG)).map (λq=>Dv.tup [q.1,q.2])=(ps.zip (ps.drop 1)).map λq=>Dv.tup [aG q.1,aG q.2]:=by rw[List.zip_map,gw];rfl
 have h:aX (aQ qT (aB (aA 0) (aB (tV (aA 0) (tF (mC (.int 1))) tE) aC))) [none,none] (bN 2 (aO (aF 0) (aO (aF 1) bP))) bR (aU (m2 eI (aA 0) (aA 1))) [some (.tup (ps.map aG))] H=.ok ((ps.zip (ps.drop 1)).filterMap λq=>some (.bl (bZ q.1 q.2))) H:=
  gQ (ps.zip (ps.drop 1)) (λq=>some (.bl (bZ q.1 q.2))) (λρ=>∃a b,ρ=[a,b]) hi (by simp[qS,dD]) ⟨_,_,rfl⟩ rfl (λk hk ρ ⟨a,b,e⟩=>by
   subst e;refine⟨.tup [aG (ps.zip (ps.drop 1))[k].1,aG (ps.zip (ps.drop 1))[k].2],[some (aG (ps.zip (ps.drop 1))[k].1),some (aG (ps.zip (ps.drop 1))[k].2)], ?_,rfl,⟨_,_,rfl⟩,rfl, ?_⟩
   ·show(((ps.map aG).zip ((ps.drop 1).map aG)).map (λq=>Dv.tup [q.1,q.2]))[k]?=_;rw[hz,fw,br hk];rfl
   ·simp only[m2,aA];exact z1q _ _) (by rw[List.length_zip];omega)
 simp[F_qx,LY,aR,cQ,aN,uI h,bO,lP]
def uJ (ps:y'):Bool:=ps.all λp=>ps.all λq=>!decide (p.2=q.1)||decide ((p.1,q.2)∈ps)
theorem z1t (hl:ps.length<=900):F_qh [.tup (ps.map aG)] H=.ok (.bl (uJ ps)) H:=by
 let g:Int×Int->Int×Int->zv:=λp q=>if p.2=q.1 then some (.bl (decide ((p.1,q.2)∈ps)))else none
 have h:aX (aW dF (aA 0)) [none,none,none,none,some 0] (bN 2 (aO (aF 0) (aO (aF 1) bP))) bR (fR (aW dF (aA 4)) (bN 2 (aO (aF 2) (aO (aF 3) bP))) (mB (m2 cI (aA 1) (aA 2))) (aU (m2 (cN false) (aV (aB (aA 0) (aB (aA 3) aC))) (aA 4)))) [some (.tup (ps.map aG))] H=.ok (ps.flatMap λp=>ps.filterMap (g p)) H:=
  DZ ps (λ_=>ps) g (λρ=>∃a b c d,ρ=[a,b,c,d,some (.tup (ps.map aG))]) rfl (by simp[dD]) ⟨_,_,_,_,rfl⟩ rfl (λk hk ρ ⟨a,b,c,d,e⟩=>by
   subst e;refine⟨aG ps[k],[some (.int ps[k].1),some (.int ps[k].2),c,d,some (.tup (ps.map aG))],dD (ps.map aG),λρ=>∃c d,ρ=[some (.int ps[k].1),some (.int ps[k].2),c,d,some (.tup (ps.map aG))],by simp[dD,hk],rfl,⟨_,_,rfl⟩,λρ ⟨c,d,e⟩=>⟨_,_,_,_,e⟩,rfl,by simp[dD],rfl,λj hj ρ ⟨c,d,e⟩=>?_⟩;subst e;refine⟨aG ps[j],[some (.int ps[k].1),some (.int ps[k].2),some (.int ps[j].1),some (.int ps[j].2),some (.tup (ps.map aG))],by simp[dD,hj],rfl,⟨_,_,rfl⟩, ?_⟩;have te:mB (m2 cI (aA 1) (aA 2)) [some (.int ps[k].1),some (.int ps[k].2),some (.int ps[j].1),some (.int ps[j].2),some (.tup (ps.map aG))] H=.ok (decide (ps[k].2=ps[j].1)) H:=by simp[mB,m2,aA,cI,cH,bU,bM,eR];rw[ed];simp
   by_cases c1:ps[k].2=ps[j].1
   ·rw[decide_eq_true c1]at te;have hg:g ps[k] ps[j]=some (.bl (decide ((ps[k].1,ps[j].2)∈ps))):=if_pos c1;rw[hg];refine⟨te, ?_⟩;have hx:aV (aB (aA 0) (aB (aA 3) aC)) [some (.int ps[k].1),some (.int ps[k].2),some (.int ps[j].1),some (.int ps[j].2),some (.tup (ps.map aG))] H=.ok (aG (ps[k].1,ps[j].2)) H:=rfl;unfold m2;rw[hx,Rs.bind_ok];show(Rs.ok (Dv.tup (ps.map aG)) H).bind _=_;rw[Rs.bind_ok,BO];rfl
   ·rw[decide_eq_false c1]at te;have hg:g ps[k] ps[j]=none:=if_neg c1;rw[hg];exact te) (by
   have:∀l:y',(l.flatMap λp=>ps.filterMap (g p)).length<=l.length*ps.length:=λl=>by
    induction l with
    |nil=>simp
    |cons p l ih=>rw[gn,bw,cy,vh];have:=qr (g p) ps;omega
   have h2:=this ps;have h3:ps.length*ps.length<=900*900:=ku hl hl;omega)
 have hb:(ps.flatMap λp=>ps.filterMap (g p))=(ps.flatMap λp=>ps.filterMap λq=>if p.2=q.1 then some (decide ((p.1,q.2)∈ps))else none).map Dv.bl:=by
  rw[List.map_flatMap]
  congr 1
  funext p
  rw[qf]
  congr 1
  funext q
  show(if p.2=q.1 then some (Dv.bl (decide ((p.1,q.2)∈ps)))else none)=_
  split <;> rfl
 have Bw:mL iS (aX (aW dF (aA 0)) [none,none,none,none,some 0] (bN 2 (aO (aF 0) (aO (aF 1) bP))) bR (fR (aW dF (aA 4)) (bN 2 (aO (aF 2) (aO (aF 3) bP))) (mB (m2 cI (aA 1) (aA 2))) (aU (m2 (cN false) (aV (aB (aA 0) (aB (aA 3) aC))) (aA 4))))) [some (.tup (ps.map aG))] H=.ok (.bl (uJ ps)) H:=by
  unfold mL;rw[h,Rs.bind_ok,hb];unfold iS;rw[yO];dsimp only
  congr 2
  rw[ed];unfold uJ;simp only[dz,ju,gy,id];constructor
  ·intro h p hp q hq
   by_cases c:p.2=q.1
   ·have:=h (decide ((p.1,q.2)∈ps)) ⟨p,hp,q,hq,if_pos c⟩;simp[c,this]
   ·simp[c]
  ·rintro h b ⟨p,hp,q,hq,e⟩
   have:=h p hp q hq
   by_cases c:p.2=q.1
   ·rw[if_pos c]at e;cases e;simpa[c]using this
   ·rw[if_neg c]at e;cases e
 simp[F_qh,L1,aR,cQ,aN,Bw,bO]
def yP (n:Int) (ps:y'):Bool:=decide (1<=n)&&decide (n<=6)&&ps.all (lO n)&&lP ps&&!(ps.any λp=>decide (p.1=p.2))&&uJ ps
theorem z1u {n:Int}(hl:ps.length<=900):F_q0 [.tup [.int n,.tup (ps.map aG)]] H=.ok (.bl (yP n ps)) H:=by
 have b:=EC (H:=H) (x:=n) (lo:=1) (hi:=6);have p1:=z1o (H:=H) (n:=n) (ps:=ps) (by omega);have p2:=z1s (H:=H) (ps:=ps) (by omega);have p3:=z1p (H:=H) (ps:=ps) (by omega);have p4:=z1t (H:=H) (ps:=ps) hl;have hlen:f1 eZ [.tup [.int n,.tup (ps.map aG)]] H=.ok (.int 2) H:=rfl;unfold yP;generalize (decide (1<=n)&&decide (n<=6))=c0 at b ⊢;generalize ps.all (lO n)=c1 at p1 ⊢;generalize lP ps=c2 at p2 ⊢;generalize (ps.any λp=>decide (p.1=p.2))=c3 at p3 ⊢;generalize uJ ps=c4 at p4 ⊢
 cases c0 <;> cases c1 <;> cases c2 <;> cases c3 <;> cases c4 <;>
  simp[F_q0,L3,aR,cQ,aJ,bQ,eH,dY,cD,m1,fW,aA,jP,lE,kD,mB,m2,aD,aB,aC,hlen,mC,cJ,cH,bU,bM,eR,bW,aM,bN,aO,aF,bP,b,p1,p2,p3,p4,aN,dZ,qG,bO]
end
structure Aa (n:Nat) (ps:y'):Prop where
 n1:1<=n
 n6:n<=6
 rng:∀p∈ps,0<=p.1/\p.1<n/\0<=p.2/\p.2<n
 rise:eE bZ ps
 irr:∀p∈ps,p.1≠p.2
 tr:∀p∈ps,∀q∈ps,p.2=q.1->(p.1,q.2)∈ps
section
variable{n:Nat}{ps:y'}{H:Hs}
def ED (n:Nat):y':=(ay n).flatMap λa:Nat=>(ay n).map λb:Nat=>((a:Int),(b:Int))
theorem z1v (n:Nat):(ED n).length=n*n:=by
 unfold ED;have:∀l:zq,(l.flatMap λa:Nat=>(ay n).map λb:Nat=>((a:Int),(b:Int))).length=l.length*n:=λl=>by
  induction l with
  |nil=>simp
  |cons a l ih=>rw[gn,bw,ih,cy,vh];simp;omega
 rw[this];simp
theorem z1w {p:Int×Int}(h:0<=p.1/\p.1<n/\0<=p.2/\p.2<n):p∈ED n:=by obtain⟨a,b⟩:=p;simp only at h;refine ju.mpr ⟨a.toNat,bu.mpr (by omega),bo.mpr ⟨b.toNat,bu.mpr (by omega), ?_⟩⟩;simp;omega
theorem uK (hr:eE bZ ps) (hp:∀p∈ps,0<=p.1/\p.1<n/\0<=p.2/\p.2<n):ps.length<=n*n:=by rw[<-z1v n];exact(oD Bt hr).length_le_of_subset λp h=>z1w (hp p h)
theorem Aa.len (o:Aa n ps):ps.length<=36:=by have h1:=uK o.rise o.rng;have h2:n*n<=6*6:=ku o.n6 o.n6;omega
theorem Aa.b (o:Aa n ps):yP n ps=true:=by
 have h1:=o.n1;have h6:=o.n6;unfold yP;simp only[cw,decide_eq_true_eq,uy];refine⟨⟨⟨⟨⟨by omega,by omega⟩, ?_⟩,Cn.mpr o.rise⟩, ?_⟩, ?_⟩
 ·refine dz.mpr λp hp=>?_;have:=o.rng p hp;simp[lO,isT];omega
 ·refine List.any_eq_false.mpr λp hp=>?_;simpa using o.irr p hp
 ·refine dz.mpr λp hp=>dz.mpr λq hq=>?_
  by_cases c:p.2=q.1
  ·simp[c,o.tr p hp q hq c]
  ·simp[c]
theorem yQ (o:Aa n ps):F_q0 [aH n ps] H=.ok (.bl true) H:=by have:=z1u (H:=H) (n:=(n:Int)) (ps:=ps) (by have:=o.len;omega);rw[o.b]at this;exact this
end
theorem z1x (H:Hs) (n:Nat) (a:Int) (b:Bool) (m:Int) (h0:0<m) (h1:m<18446744073709551616) (e:getL H n=some [.int a,.bl b]):
  ∃r a',0<=r/\r<m/\F_qs [.ref n,.int m] H=.ok (.int r) (H.set n (.lst [.int a',.bl b])):=by
 cases b with
 |true=>refine⟨a % m,a / m,Int.emod_nonneg _ (by omega),Int.emod_lt_of_pos _ h0, ?_⟩;simp[F_qs,CL,aR,cQ,aJ,bQ,cD,m2,aA,mC,aS,fX,gI,e,kE,gX,fT,kD,aM,lB,kU,qJ,h0,aF,sX,tL,tK,h1,wG,aN,bO]
 |false=>
  have q1:∀ys,getL (H.set n (.lst ys)) n=some ys:=λys=>oZ e;generalize hs:(a*48271+29) % 2147483647=s;have s0:0<=s:=by omega
  have s1:s<2147483647:=by omega
  generalize ht:(s*s+39373*s+7) % 2147483629=t;have t0:0<=t:=by omega
  have t1:t<2147483629:=by omega
  generalize hu:(t*t+16807*t) % 2147483587=u;refine⟨u / 8 % m,s,Int.emod_nonneg _ (by omega),Int.emod_lt_of_pos _ h0, ?_⟩;have w1:kW s=true:=by simp[kW];omega
  have w2:kW t=true:=by simp[kW];omega
  have w3:kW 48271=true:=by decide
  have w4:kW 39373=true:=by decide
  have w5:kW 16807=true:=by decide
  simp[F_qs,CL,aR,cQ,aJ,bQ,cD,m2,aA,mC,aS,fX,gI,e,kE,gX,fT,kD,aM,lB,kU,qJ,h0,aF,sX,tL,tK,h1,wG,aN,bO,bW,cC,kX,oX,vV,w1,w2,w3,w4,w5,q1,hs,ht,hu]
def St (n:Nat) (H:Hs):Prop:=∃a b,getL H n=some [.int a,.bl b]
theorem St.fr {n:Nat}{S:zq}{H H':Hs}(s:St n H) (f:Fr S H H') (h:n∉S):St n H':=let ⟨a,b,e⟩:=s;⟨a,b,f.getL e h⟩
theorem oH {H:Hs}{n:Nat}(m:Int) (s:St n H) (h0:0<m:=by decide) (h1:m<18446744073709551616:=by decide):
  ∃r H',0<=r/\r<m/\F_qs [.ref n,.int m] H=.ok (.int r) H'/\Fr [n] H H'/\St n H':=by
 obtain⟨a,b,e⟩:=s;obtain⟨r,a',r0,r1,ht⟩:=z1x H n a b m h0 h1 e;exact⟨r,_,r0,r1,ht,Fr.set,a',b,oZ e⟩
theorem z1y (scr:zo) (k:Nat) (h:Hs):∃H',F_ql scr [.scr,.int k] h=.ok (.ref h.length) H'/\Fr [] h H'/\St h.length H':=by
 have cell:∃c,F_qe scr [.scr,.int k] h=.ok (.int c) h:=by
  by_cases hk:k<scr.length
  ·refine⟨scr[k], ?_⟩;have hk':(k:Int)<scr.length:=by omega
   simp[F_qe,xK,aR,cQ,aJ,bQ,mB,m2,aA,mC,eI,aD,f1,iH,fJ,aB,aC,eR,hk',hk,gI,kE,gX,fT,aN,bO]
  ·refine⟨0, ?_⟩;have hk':¬ (k:Int)<scr.length:=by omega
   simp[F_qe,xK,aR,cQ,aJ,bQ,mB,m2,aA,mC,eI,aD,f1,iH,fJ,aB,aC,eR,hk',hk,gI,kE,gX,fT,aN,bO,bW]
 obtain⟨c,hc⟩:=cell;have fin:∀a b,Fr [] h (h++[Ob.lst [.int a,.bl b]])/\St h.length (h++[Ob.lst [.int a,.bl b]]):=λa b=>⟨Fr.app,a,b,by rw[YH];rfl⟩
 by_cases hg:c>=1000000000000000000
 ·refine⟨_, ?_,fin (c - 1000000000000000000) true⟩;simp[F_ql,xM,aR,cQ,aJ,aM,aD,aB,aA,aC,hc,aF,bQ,mB,m2,wO,iG,tG,kU,sP,mC,eR,hg,aN,dM,eY,lim,bO]
 ·refine⟨_, ?_,fin (c % 2147483647) false⟩;simp[F_ql,xM,aR,cQ,aJ,aM,aD,aB,aA,aC,hc,aF,bQ,mB,m2,wO,iG,tG,kU,sP,mC,eR,hg,aN,dM,eY,lim,bO,bW,lB,qJ]
theorem St.lt {st:Nat}{H:Hs}(s:St st H):st<H.length:=let ⟨_,_,e⟩:=s;pA e
theorem z1z {H:Hs}{q:Nat}{ks:zo}(e:getL H q=some (ks.map Dv.int)):cJ (.ref q) (.ref H.length) (H++[.lst []])=.ok (.bl (!ks.isEmpty)) (H++[.lst []]):=by
 have p1:bU cH (H++[.lst []]) (.ref q)=some (.lst (ks.map Dt.int)):=by show bU (28+1+1) (H++[.lst []]) (.ref q)=_;rw[bU];simp only[mQ (l:=[.lst []]) e,rB]
 have p2:bU cH (H++[.lst []]) (.ref H.length)=some (.lst []):=by
  show bU (28+1+1) (H++[.lst []]) (.ref H.length)=_;rw[bU];have:getL (H++[.lst []]) H.length=some []:=by simp[getL]
  simp only[this];rfl
 unfold cJ;rw[p1,p2]
 cases ks <;> simp[bM,iE]
def yR:M Bool:=mB (m2 cJ (aA 2) (dM aC))
def yS:MS:=bJ (oU (aA 3) (tD (aA 2) (aD F_qs (aB (aA 0) (aB (aD (f1 eZ) (aB (aA 2) aC)) aC)))))
theorem z20:CM=aJ (aM (aD (f1 iU) (aB (aA 1) aC)) (aF 2)) (aJ (aM (dM aC) (aF 3)) (aJ (iL yR yS 40) (aN (aA 3)))):=rfl
section
variable{st a b:Nat}{d:Dv}
theorem ND (Ck:a≠b) (has:a≠st) (hbs:b≠st):∀(f:Nat) (ls fs:zo) (H:Hs),ls.length<f->ls.length+fs.length<=100->getL H a=some (ls.map Dv.int)->getL H b=some (fs.map Dv.int)->St st H->
  ∃(H':Hs) (ys:zo),iL yR yS f [some (.ref st),some d,some (.ref a),some (.ref b)] H=.nx [some (.ref st),some d,some (.ref a),some (.ref b)] H'/\getL H' b=some (ys.map Dv.int)/\ys.Perm (fs++ls)/\St st H'/\Fr [st,a,b] H H'
 |0,ls,fs,H,h,_,_,_,_=>by omega
 |f+1,ls,fs,H,h,hl,ea,eb,s=>by
  have tc:yR [some (.ref st),some d,some (.ref a),some (.ref b)] H=.ok (!ls.isEmpty) (H++[.lst []]):=by simp[yR,mB,m2,aA,dM,aC,lim,z1z ea,eR]
  have ea1:=mQ (l:=[Ob.lst []]) ea;have eb1:=mQ (l:=[Ob.lst []]) eb;have g1:Fr [st,a,b] H (H++[Ob.lst []]):=Fr.app;have s1:=s.fr (Fr.app (S:=[]) (l:=[Ob.lst []])) (by simp);generalize H++[Ob.lst []]=H1 at tc ea1 eb1 g1 s1
  cases hls:ls with
  |nil=>subst hls;refine⟨H1,fs, ?_,eb1,by simp,s1,g1⟩;exact z1j tc
  |cons x r=>
   have hne:ls.isEmpty=false:=by rw[hls];rfl
   have hpos:(0:Int)<ls.length:=by rw[hls];simp
   obtain⟨k,H2,k0,k1,ht,f2,s2⟩:=oH (ls.length:Int) s1 hpos (by omega);have ea2:=f2.getL ea1 (by simpa using has);have eb2:=f2.getL eb1 (by simpa using hbs);have hk:k.toNat<ls.length:=by omega
   have ixk:fT (ls.map Dv.int).length k=some k.toNat:=by unfold fT;rw[if_pos k0,ba,if_pos k1]
   have getk:(ls.map Dv.int)[k.toNat]?=some (.int ls[k.toNat]):=by simp[hk]
   have hlen:f1 eZ [.ref a] H1=.ok (.int ls.length) H1:=by show(if fX (.ref a)=true then iH [] (.ref a) H1 else .bad)=_;simp[fX,iH,fJ,ea1]
   have hz:(ls.map Dv.int).length<=1000000:=by rw[ba];omega
   have pop:wM (.ref a) (.int k) H2=.ok (.int ls[k.toNat]) (H2.set a (.lst ((ls.eraseIdx k.toNat).map Dv.int))):=by
    simp only[wM,ea2,ixk,getk,hz,if_true];have em:(ls.map Dv.int).eraseIdx k.toNat=(ls.eraseIdx k.toNat).map Dv.int:=by rw[vj,vj,gg,xx,ui]
    rw[em]
   have eb3:getL (H2.set a (.lst ((ls.eraseIdx k.toNat).map Dv.int))) b=some (fs.map Dv.int):=by rw[tN Ck];exact eb2
   have ea3:getL (H2.set a (.lst ((ls.eraseIdx k.toNat).map Dv.int))) a=some ((ls.eraseIdx k.toNat).map Dv.int):=oZ ea2;have f3:Fr [st,a,b] H2 (H2.set a (.lst ((ls.eraseIdx k.toNat).map Dv.int))):=Fr.set.mono (by simp);have s3:St st (H2.set a (.lst ((ls.eraseIdx k.toNat).map Dv.int))):=s2.fr Fr.set (by simpa using dh has);generalize hH3:H2.set a (.lst ((ls.eraseIdx k.toNat).map Dv.int))=H3 at pop eb3 ea3 f3 s3;have hfl:(fs.map Dv.int).length<1000000:=by rw[ba];omega
   have body:yS [some (.ref st),some d,some (.ref a),some (.ref b)] H1=.nx [some (.ref st),some d,some (.ref a),some (.ref b)] (H3.set b (.lst ((fs++[ls[k.toNat]]).map Dv.int))):=by
    have isA:iK (.ref a) H1=true:=by simp[iK,ea1]
    have isB:iK (.ref b) H1=true:=by simp[iK,eb1]
    have hpop:tD (aA 2) (aD F_qs (aB (aA 0) (aB (aD (f1 eZ) (aB (aA 2) aC)) aC))) [some (.ref st),some d,some (.ref a),some (.ref b)] H1=.ok (.int ls[k.toNat]) H3:=by simp[tD,aA,isA,aD,aB,aC,hlen,ht,pop]
    have happ:qR (.ref b) (.int ls[k.toNat]) H3=.ok .non (H3.set b (.lst ((fs++[ls[k.toNat]]).map Dv.int))):=by simp only[qR,eb3,hfl,if_true,gg];rfl
    simp[yS,bJ,oU,aA,isB,hpop,happ]
   have Cs:(ls.eraseIdx k.toNat).length=ls.length - 1:=xg hk;obtain⟨H',ys,w,e',pm,s',f'⟩:=ND Ck has hbs f (ls.eraseIdx k.toNat) (fs++[ls[k.toNat]]) (H3.set b (.lst ((fs++[ls[k.toNat]]).map Dv.int))) (by omega) (by rw[bw];simp;omega) (by rw[tN (dh Ck)];exact ea3) (oZ eb3) (s3.fr Fr.set (by simpa using dh hbs));refine⟨H',ys, ?_,e', ?_,s', ?_⟩
   ·rw[hne]at tc;rw[M9 tc body];exact w
   ·rw[<-hls];refine pm.trans ?_;rw[uv];refine xh fs ?_;have:=SR.erase_perm ls k.toNat hk;simpa using this
   ·exact(((g1.trans f2 (by simp)).trans f3 (by simp)).trans (T:=[b]) Fr.set (by simp)).trans f' (by simp)
theorem z21 {H:Hs}{j:Nat}{xs:zo}(s:St st H) (e:getL H j=some (xs.map Dv.int)) (hl:xs.length<=20):∃(i:Nat) (ys:zo) (H':Hs),F_qb [.ref st,.ref j] H=.ok (.ref i) H'/\getL H' i=some (ys.map Dv.int)/\ys.Perm xs/\H.length<=i/\St st H'/\Fr [st] H H':=by
 have lt:=s.lt;have w0:aM (aD (f1 iU) (aB (aA 1) aC)) (aF 2) [some (.ref st),some (.ref j),none,none] H=.nx [some (.ref st),some (.ref j),some (.ref H.length),none] (H++[.lst (xs.map Dv.int)]):=by simp[aM,aD,f1,iU,fX,qN,fJ,aB,aA,aC,e,aF]
 have w1:aM (dM aC) (aF 3) [some (.ref st),some (.ref j),some (.ref H.length),none] (H++[.lst (xs.map Dv.int)])=.nx [some (.ref st),some (.ref j),some (.ref H.length),some (.ref (H.length+1))] (H++[.lst (xs.map Dv.int)]++[.lst []]):=by simp[aM,dM,aC,lim,aF]
 have ea:getL (H++[.lst (xs.map Dv.int)]++[.lst []]) H.length=some (xs.map Dv.int):=mQ (by simp[getL]);have eb:getL (H++[.lst (xs.map Dv.int)]++[.lst []]) (H.length+1)=some (([]:zo).map Dv.int):=by simp[getL]
 have f0:Fr [st] H (H++[.lst (xs.map Dv.int)]++[.lst []]):=Fr.trans (T:=[]) Fr.app Fr.app (by simp);have s0:St st (H++[.lst (xs.map Dv.int)]++[.lst []]):=(s.fr (Fr.app (S:=[]) (l:=[.lst (xs.map Dv.int)])) (by simp)).fr (Fr.app (S:=[])) (by simp);obtain⟨H',ys,w2,e2,pm,s2,f2⟩:=ND (st:=st) (a:=H.length) (b:=H.length+1) (d:=.ref j) (by omega) (by omega) (by omega) 40 xs [] _ (by omega) (by simp;omega) ea eb s0;refine⟨H.length+1,ys,H', ?_,e2,by simpa using pm,by omega,s2,f0.trans f2 (by simp)⟩;show bO (CM [some (.ref st),some (.ref j),none,none] H)=_;rw[z20,bK w0,bK w1,bK w2];rfl
end
def eJ (ps:y') (p:Int×Int):y':=(ps.filter λq=>decide (p.2=q.1)).map λq=>(p.1,q.2)
def eF (ps:y'):y':=eC bZ (ps++ps.flatMap (eJ ps))
def uL:Nat->y'->Option y' 
 |0,_=>none
 |f+1,ps=>if eF ps=ps then some ps else uL f (eF ps)
def mX (n:Nat) (ps:y'):Prop:=∀p∈ps,0<=p.1/\p.1<n/\0<=p.2/\p.2<n
def Tr (ps:y'):Prop:=∀p∈ps,∀q∈ps,p.2=q.1->(p.1,q.2)∈ps
theorem z22 {ps:y'}{p r:Int×Int}:r∈eJ ps p↔∃q∈ps,p.2=q.1/\r=(p.1,q.2):=by
 simp only[eJ,bo,cz,decide_eq_true_eq];constructor
 ·rintro ⟨q,⟨h1,h2⟩,h3⟩;exact⟨q,h1,h2,h3.symm⟩
 ·rintro ⟨q,h1,h2,h3⟩;exact⟨q,⟨h1,h2⟩,h3.symm⟩
theorem step_mem {ps:y'}{r:Int×Int}:r∈eF ps↔r∈ps∨∃p∈ps,∃q∈ps,p.2=q.1/\r=(p.1,q.2):=by unfold eF;rw[lH Bt,cm,ju];simp only[z22]
theorem EE {n:Nat}{ps:y'}(h:mX n ps):mX n (eF ps):=λr hr=>by
 rcases step_mem.mp hr with hr|⟨p,hp,q,hq,_,rfl⟩
 ·exact h r hr
 ·exact⟨(h p hp).1,(h p hp).2.1,(h q hq).2.2.1,(h q hq).2.2.2⟩
theorem uM (ps:y'):eE bZ (eF ps):=oC Bt _
theorem z23 {ps:y'}(hr:eE bZ ps):eF ps=ps↔Tr ps:=by
 constructor
 ·intro h p hp q hq e;rw[<-h];exact step_mem.mpr (.inr ⟨p,hp,q,hq,e,rfl⟩)
 ·intro h;refine BX Bt (uM ps) hr λr=>?_;rw[step_mem];constructor
  ·rintro (hr|⟨p,hp,q,hq,e,rfl⟩)
   ·exact hr
   ·exact h p hp q hq e
  ·exact λh=>.inl h
theorem z24 {ps:y'}(hr:eE bZ ps) (hne:eF ps≠ps):ps.length<(eF ps).length:=by
 have nd:=oD Bt hr;have sub:∀r∈ps,r∈eF ps:=λr h=>step_mem.mpr (.inl h);have h1:=nd.length_le_of_subset sub
 rcases je ps.length (eF ps).length with h|h
 ·exact h
 ·exfalso
  apply hne
  have sub2:∀r∈eF ps,r∈ps:=λr hr'=>by
   by_cases hm:r∈ps
   ·exact hm
   ·exfalso
    have nd2:(r::ps).Nodup:=iq.mpr ⟨hm,nd⟩;have:=nd2.length_le_of_subset (l₂:=eF ps) λx hx=>by
     rcases aw.mp hx with rfl|hx
     ·exact hr'
     ·exact sub x hx
    simp at this;omega
  exact BX Bt (uM ps) hr λr=>⟨sub2 r,sub r⟩
theorem NF {n:Nat}(hn:n<=6):∀(f:Nat) (ps:y'),eE bZ ps->mX n ps->36<f+ps.length->∃cs,uL f ps=some cs/\eE bZ cs/\mX n cs/\Tr cs/\(∀p∈ps,p∈cs)/\∀R:Int->Int->Prop,(∀a b c,R a b->R b c->R a c)->(∀p∈ps,R p.1 p.2)->∀p∈cs,R p.1 p.2
 |0,ps,hr,hi,h=>by have h1:=uK hr hi;have h2:n*n<=6*6:=ku hn hn;omega
 |f+1,ps,hr,hi,h=>by
  unfold uL
  split
  ·rename_i e;exact⟨ps,rfl,hr,hi,(z23 hr).mp e,λp hp=>hp,λR _ h=>h⟩
  ·rename_i e;have:=z24 hr e;obtain⟨cs,h1,h2,h3,h4,h5,h6⟩:=NF hn f (eF ps) (uM ps) (EE hi) (by omega);refine⟨cs,h1,h2,h3,h4,λp hp=>h5 p (step_mem.mpr (.inl hp)),λR ht hR=>h6 R ht λr hr'=>?_⟩
   rcases step_mem.mp hr' with hr'|⟨p,hp,q,hq,e,rfl⟩
   ·exact hR r hr'
   ·refine ht _ p.2 _ (hR p hp) ?_;rw[e];exact hR q hq
theorem NG {α:Type}{f:α->Dv}{H:Hs}{i k:Nat}{xs:List α}(e:getL H i=some (xs.map f)) (hk:k<xs.length):(cO i xs.length).get k H=some (f xs[k]):=by simp[cO,e,hk]
theorem NH {α:Type}{f:α->Dv}{H:Hs}{i:Nat}{xs:List α}(e:getL H i=some (xs.map f)):(cO i xs.length).fin H=true:=by simp[cO,e]
theorem NI:∀ps:y',bG lJ (ps.map aG)=some (ps.map gE)
 | []=>rfl
 |p::ps=>by rw[df,bG,NI ps];rfl
theorem z25 (ps:y'):pE (ps.map gE)=true:=by simp[pE,gE]
theorem z26 (ps:y'):(ps.map gE).map pD=ps.map aG:=by rw[gw];rfl
section
variable{H:Hs}{ps:y'}{d:Dv}
theorem NJ (h:pF d H=some (ps.map gE)) (hl:(eC bZ ps).length<64):lK d H=.ok (.ref H.length) (H++[.lst ((eC bZ ps).map aG)]):=by unfold lK;rw[h];dsimp only;rw[J8 rD,ba,if_pos (by rw[z25];simpa using hl),z26]
theorem z27 {i j:Nat}{ps qs:y'}(ei:getL H i=some (ps.map aG)) (ej:getL H j=some (qs.map aG)):cI (.ref i) (.ref j) H=.ok (.bl (decide (ps=qs))) H:=by
 have p:∀(i:Nat) (ps:y'),getL H i=some (ps.map aG)->bU cH H (.ref i)=some (.lst (ps.map jT)):=λi ps e=>by show bU (27+2+1) H (.ref i)=_;rw[bU];simp only[e,BN]
 have dq:∀ps qs:y',iE (ps.map jT) (qs.map jT)=decide (ps=qs):=λps=>by
  induction ps with
  |nil=>intro qs;cases qs <;> simp[iE]
  |cons p ps ih=>
   intro qs
   cases qs with
   |nil=>simp[iE]
   |cons q qs=>simp only[df,iE,JS,ih];rw[ed];simp
 unfold cI;rw[p i ps ei,p j qs ej];simp only[bM,dq]
def rM:M zu :=aX (aW bY (aA 1)) [none,none,some 3,some 4] (bN 2 (aO (aF 0) (aO (aF 1) bP))) (mB (m2 cI (aA 3) (aA 0))) (aU (aV (aB (aA 2) (aB (aA 1) aC))))
def rN:MS:=aJ (aM (aD (f1 iU) (aB (aA 1) aC)) (aF 2)) (aJ (gC (aW bY (aA 1)) (bN 2 (aO (aF 3) (aO (aF 4) bP))) (bJ (oV (aA 2) rM))) (aJ (aM (aD (f1 lK) (aB (aA 2) aC)) (aF 2)) (aJ (bQ (mB (m2 cI (aA 2) (aA 1))) (aN (aA 1)) bW) (aM (aA 2) (aF 1)))))
theorem z28:iW=aJ (aM (aD (f1 lK) (aB (aA 0) aC)) (aF 1)) (iL (cD (mC (.bl true))) rN 40):=rfl
theorem z29 {x0 x2:zv}{i:Nat}{p:Int×Int}(hl:ps.length<=1000) (e:getL H i=some (ps.map aG)):rM [x0,some (.ref i),x2,some (.int p.1),some (.int p.2)] H=.ok ((eJ ps p).map aG) H:=by
 have hi:aW bY (aA 1) [x0,some (.ref i),x2,some (.int p.1),some (.int p.2)] H=.ok (cO i ps.length) H:=by simp[aW,aA,bY,e]
 have h:rM [x0,some (.ref i),x2,some (.int p.1),some (.int p.2)] H=.ok (ps.filterMap λq=>if p.2=q.1 then some (aG (p.1,q.2))else none) H:=
  gQ ps (λq=>if p.2=q.1 then some (aG (p.1,q.2))else none) (λρ=>∃a b,ρ=[a,b,some (.int p.1),some (.int p.2)]) hi rfl ⟨_,_,rfl⟩ (by simp[cO,e]) (λk hk ρ ⟨a,b,er⟩=>by
   subst er;refine⟨aG ps[k],[some (.int ps[k].1),some (.int ps[k].2),some (.int p.1),some (.int p.2)],by simp[cO,e,hk],rfl,⟨_,_,rfl⟩, ?_⟩;have te:mB (m2 cI (aA 3) (aA 0)) [some (.int ps[k].1),some (.int ps[k].2),some (.int p.1),some (.int p.2)] H=.ok (decide (p.2=ps[k].1)) H:=by simp[mB,m2,aA,cI,cH,bU,bM,eR];rw[ed];simp
   by_cases c:p.2=ps[k].1
   ·rw[if_pos c];rw[decide_eq_true c]at te;exact⟨te,rfl⟩
   ·rw[if_neg c];rw[decide_eq_false c]at te;exact te) (by omega)
 rw[h]
 congr 1
 unfold eJ;rw[gw];have:∀l:y',l.filterMap (λq=>if p.2=q.1 then some (aG (p.1,q.2))else none)=(l.filter λq=>decide (p.2=q.1)).map (aG∘λq=>(p.1,q.2)):=λl=>by
  induction l with
  |nil=>rfl
  |cons q l ih=>
   rw[cq,jv,ih]
   by_cases c:p.2=q.1 <;> simp[c]
 exact this ps
theorem NK (ps:y') (p:Int×Int):(eJ ps p).length<=ps.length:=by unfold eJ;rw[ba];exact sv _ _
theorem NL (ps:y'):∀l:y',(l.flatMap (eJ ps)).length<=l.length*ps.length
 | []=>by simp
 |p::l=>by have h1:=NK ps p;have h2:=NL ps l;rw[gn,bw,cy,vh];omega
theorem z2a {x0 x3 x4:zv}{i j:Nat}(Bo:i≠j) (hl:ps.length<=40) (ei:getL H i=some (ps.map aG)) (ej:getL H j=some (ps.map aG)):
  ∃y3 y4,gC (aW bY (aA 1)) (bN 2 (aO (aF 3) (aO (aF 4) bP))) (bJ (oV (aA 2) rM)) [x0,some (.ref i),some (.ref j),x3,x4] H=.nx [x0,some (.ref i),some (.ref j),y3,y4] (H.set j (.lst ((ps++ps.flatMap (eJ ps)).map aG))):=by
 have hi:aW bY (aA 1) [x0,some (.ref i),some (.ref j),x3,x4] H=.ok (cO i ps.length) H:=by simp[aW,aA,bY,ei]
 have self:H.set j (.lst (ps.map aG))=H:=by
  apply ux
  intro k
  by_cases hk:j=k
  ·subst hk;rw[ie (pA ej),dP ej]
  ·rw[ib hk]
 obtain⟨ρ',H',h1,y3,y4,h2,h3⟩:=tP (b:=bJ (oV (aA 2) rM)) (sg:=bN 2 (aO (aF 3) (aO (aF 4) bP))) hi (λk ρ H'=>∃(y3 y4:zv),ρ=[x0,some (.ref i),some (.ref j),y3,y4]/\H'=H.set j (.lst ((ps++(ps.take k).flatMap (eJ ps)).map aG)))
  (λk ρ H' hk ⟨y3,y4,e1,e2⟩=>by
   subst e1;subst e2;have hk':k<ps.length:=hk;have ei':getL (H.set j (.lst ((ps++(ps.take k).flatMap (eJ ps)).map aG))) i=some (ps.map aG):=by rw[tN (dh Bo)];exact ei
   have ej':getL (H.set j (.lst ((ps++(ps.take k).flatMap (eJ ps)).map aG))) j=some ((ps++(ps.take k).flatMap (eJ ps)).map aG):=oZ ej;have hlen:(ps++(ps.take k).flatMap (eJ ps)).length<=40+40*40:=by have h1:=NL ps (ps.take k);have h2:(ps.take k).length*ps.length<=40*40:=ku (by rw[jj];omega) hl;rw[bw];omega
   have hf:=NK ps ps[k];refine⟨aG ps[k],[x0,some (.ref i),some (.ref j),some (.int ps[k].1),some (.int ps[k].2)],[x0,some (.ref i),some (.ref j),some (.int ps[k].1),some (.int ps[k].2)],_,NG ei' hk',rfl, ?_,_,_,rfl,rfl⟩;have hc:=z29 (x0:=x0) (x2:=some (.ref j)) (p:=ps[k]) (by omega) ei';generalize hG:H.set j (.lst ((ps++(ps.take k).flatMap (eJ ps)).map aG))=G at ei' ej' hc;have isJ:iK (.ref j) G=true:=by simp[iK,ej']
   have hz:((ps++(ps.take k).flatMap (eJ ps)).map aG).length+((eJ ps ps[k]).map aG).length<=1000000:=by rw[ba,ba];omega
   have hx:wF (.ref j) ((eJ ps ps[k]).map aG) G=.ok .non (G.set j (.lst ((ps++(ps.take (k+1)).flatMap (eJ ps)).map aG))):=by unfold wF;simp only[ej',lim,hz,if_true];rw[ni hk',zl,<-gg];simp[uv]
   have:oV (aA 2) rM [x0,some (.ref i),some (.ref j),some (.int ps[k].1),some (.int ps[k].2)] G=.ok .non (G.set j (.lst ((ps++(ps.take (k+1)).flatMap (eJ ps)).map aG))):=by unfold oV;show(Rs.ok (Dv.ref j) G).bind _=_;rw[Rs.bind_ok,if_pos isJ,hc,Rs.bind_ok,hx]
   unfold bJ;rw[this,<-hG,List.set_set];rfl)
  (λρ H' ⟨_,_,_,e2⟩=>by
   subst e2;have ei':getL (H.set j (.lst ((ps++(ps.take (cO i ps.length).n).flatMap (eJ ps)).map aG))) i=some (ps.map aG):=by rw[tN (dh Bo)];exact ei
   exact NH ei') ⟨x3,x4,rfl,by simp[self]⟩
 refine⟨y3,y4, ?_⟩;rw[h1,h2,h3];simp[cO]
end
section
variable{H:Hs}{ps:y'}
theorem NM {i:Nat}(e:getL H i=some (ps.map aG)):pF (.ref i) H=some (ps.map gE):=by simp only[pF,e,NI]
theorem EF {x0 x2 x3 x4:zv}{i:Nat}(hl:ps.length<=40) (hs:(eF ps).length<64) (e:getL H i=some (ps.map aG)):
  ∃H',Fr [] H H'/\getL H' i=some (ps.map aG)/\if eF ps=ps then rN [x0,some (.ref i),x2,x3,x4] H=.rt (.ref i) H' else ∃(j:Nat) (y2 y3 y4:zv),rN [x0,some (.ref i),x2,x3,x4] H=.nx [x0,some (.ref j),y2,y3,y4] H'/\getL H' j=some ((eF ps).map aG):=by
 have li:=pA e;have w0:aM (aD (f1 iU) (aB (aA 1) aC)) (aF 2) [x0,some (.ref i),x2,x3,x4] H=.nx [x0,some (.ref i),some (.ref H.length),x3,x4] (H++[.lst (ps.map aG)]):=by simp[aM,aD,f1,iU,fX,qN,fJ,aB,aA,aC,e,aF]
 have ei:=mQ (l:=[Ob.lst (ps.map aG)]) e;have ej:getL (H++[Ob.lst (ps.map aG)]) H.length=some (ps.map aG):=by simp[getL]
 have f0:Fr [] H (H++[Ob.lst (ps.map aG)]):=Fr.app;generalize H++[Ob.lst (ps.map aG)]=H0 at w0 ei ej f0;obtain⟨y3,y4,w1⟩:=z2a (x0:=x0) (x3:=x3) (x4:=x4) (i:=i) (j:=H.length) (by omega) hl ei ej;have ei1:getL (H0.set H.length (.lst ((ps++ps.flatMap (eJ ps)).map aG))) i=some (ps.map aG):=by rw[tN (by omega)];exact ei
 have ej1:getL (H0.set H.length (.lst ((ps++ps.flatMap (eJ ps)).map aG))) H.length=some ((ps++ps.flatMap (eJ ps)).map aG):=oZ ej;have f1':Fr [] H (H0.set H.length (.lst ((ps++ps.flatMap (eJ ps)).map aG))):=f0.trans (T:=[H.length]) Fr.set (by simp);generalize H0.set H.length (.lst ((ps++ps.flatMap (eJ ps)).map aG))=H1 at w1 ei1 ej1 f1';have w2:aM (aD (f1 lK) (aB (aA 2) aC)) (aF 2) [x0,some (.ref i),some (.ref H.length),y3,y4] H1=.nx [x0,some (.ref i),some (.ref H1.length),y3,y4] (H1++[.lst ((eF ps).map aG)]):=by have hq:=NJ (NM ej1) hs;simp[aM,aD,f1,aB,aA,aC,hq,aF,eF]
 have ei2:=mQ (l:=[Ob.lst ((eF ps).map aG)]) ei1;have ej2:getL (H1++[Ob.lst ((eF ps).map aG)]) H1.length=some ((eF ps).map aG):=by simp[getL]
 have f2:Fr [] H (H1++[Ob.lst ((eF ps).map aG)]):=f1'.trans (T:=[]) Fr.app (by simp);generalize hH2:H1++[Ob.lst ((eF ps).map aG)]=H2 at w2 ei2 ej2 f2;have t:mB (m2 cI (aA 2) (aA 1)) [x0,some (.ref i),some (.ref H1.length),y3,y4] H2=.ok (decide (eF ps=ps)) H2:=by simp[mB,m2,aA,z27 ej2 ei2,eR]
 refine⟨H2,f2,ei2, ?_⟩
 by_cases c:eF ps=ps
 ·rw[if_pos c];unfold rN;rw[bK w0,bK w1,bK w2];unfold aJ;rw[tO (t.trans (by rw[decide_eq_true c]))];rfl
 ·rw[if_neg c];refine⟨H1.length,some (.ref H1.length),y3,y4, ?_,ej2⟩;unfold rN;rw[bK w0,bK w1,bK w2,bK (ρ1:=[x0,some (.ref i),some (.ref H1.length),y3,y4]) (h1:=H2) (by rw[kJ (t.trans (by rw[decide_eq_false c]))];rfl)];rfl
theorem NN {n:Nat}(hn:n<=6) {cs:y'}:∀(f:Nat) (ps:y') (H:Hs) (i:Nat) (x0 x2 x3 x4:zv),eE bZ ps->mX n ps->uL f ps=some cs->getL H i=some (ps.map aG)->
  ∃(j:Nat) (H':Hs),iL (cD (mC (.bl true))) rN f [x0,some (.ref i),x2,x3,x4] H=.rt (.ref j) H'/\getL H' j=some (cs.map aG)/\Fr [] H H'
 |0,ps,H,i,x0,x2,x3,x4,hr,hi,h,e=>by cases h
 |f+1,ps,H,i,x0,x2,x3,x4,hr,hi,h,e=>by
  have sq:n*n<=6*6:=ku hn hn;have l1:=uK hr hi;have l2:=uK (uM ps) (EE hi);obtain⟨H1,f1,e1,c1⟩:=EF (x0:=x0) (x2:=x2) (x3:=x3) (x4:=x4) (by omega) (by omega) e;have tt:cD (mC (.bl true)) [x0,some (.ref i),x2,x3,x4] H=.ok true H:=rfl;unfold uL at h
  split at h
  ·rename_i c;cases h;rw[if_pos c]at c1;exact⟨i,H1,z1k tt c1,e1,f1⟩
  ·rename_i c;rw[if_neg c]at c1;obtain⟨j,y2,y3,y4,c2,ej⟩:=c1;obtain⟨k,H2,w,ek,f2⟩:=NN hn f (eF ps) H1 j x0 y2 y3 y4 (uM ps) (EE hi) h ej;exact⟨k,H2,by rw[M9 tt c2];exact w,ek,f1.trans f2 (by simp)⟩
def NO (n:Nat) (ps cs:y'):Prop:=eE bZ cs/\mX n cs/\Tr cs/\(∀p∈ps,p∈cs)/\∀R:Int->Int->Prop,(∀a b c,R a b->R b c->R a c)->(∀p∈ps,R p.1 p.2)->∀p∈cs,R p.1 p.2
theorem z2b {n:Nat}{d:Dv}(hn:n<=6) (hi:mX n ps) (h:pF d H=some (ps.map gE)):∃(cs:y') (j:Nat) (H':Hs),NO n ps cs/\F_qg [d] H=.ok (.ref j) H'/\getL H' j=some (cs.map aG)/\Fr [] H H':=by
 have hs:mX n (eC bZ ps):=λp hp=>hi p ((lH Bt p ps).mp hp);have hr:=oC Bt ps;have sq:n*n<=6*6:=ku hn hn;have l1:=uK hr hs;obtain⟨cs,c1,c2,c3,c4,c5,c6⟩:=NF hn 40 _ hr hs (by omega);have w0:aM (aD (f1 lK) (aB (aA 0) aC)) (aF 1) [some d,none,none,none,none] H=.nx [some d,some (.ref H.length),none,none,none] (H++[.lst ((eC bZ ps).map aG)]):=by have hq:=NJ h (by omega);simp[aM,aD,f1,aB,aA,aC,hq,aF]
 obtain⟨j,H',w1,ej,f1'⟩:=NN hn 40 (eC bZ ps) (H++[.lst ((eC bZ ps).map aG)]) H.length (some d) none none none hr hs c1 (by simp[getL]);refine⟨cs,j,H',⟨c2,c3,c4,λp hp=>c5 p ((lH Bt p ps).mpr hp),λR ht hR=>c6 R ht λp hp=>hR p ((lH Bt p ps).mp hp)⟩, ?_,ej,(Fr.app (S:=[]) (l:=[.lst ((eC bZ ps).map aG)])).trans f1' (by simp)⟩;show bO (iW [some d,none,none,none,none] H)=_;rw[z28,bK w0,w1];rfl
end
theorem pP {H:Hs}{i k:Nat}{xs:zo}(e:getL H i=some (xs.map Dv.int)) (hk:k<xs.length):aS (.ref i) (.int (k:Int)) H=.ok (.int xs[k]) H:=by
 have h1:fT (xs.map Dv.int).length (k:Int)=some k:=by unfold fT;rw[ba,if_pos (by omega),if_pos (by omega)];simp
 have h2:gX (xs.map Dv.int) (k:Int)=some (.int xs[k]):=by unfold gX;rw[h1];simp[hk]
 simp only[aS,fX,gI,e,kE,h2,if_true]
theorem eq_int (x y:Int) (H:Hs):cI (.int x) (.int y) H=.ok (.bl (x==y)) H:=by simp[cI,cH,bU,bM]
theorem EG:∀{ys:zo},ys.Nodup->∀i (h:i<ys.length),dW ys[i] ys=some i
 | [],_,i,h=>by simp at h
 |y::ys,nd,0,h=>by simp[dW]
 |y::ys,nd,i+1,h=>by
  have h1:=iq.mp nd;have hi:i<ys.length:=by simpa using h
  have ne:y≠ys[i]:=λz=>h1.1 (by rw[z];exact fe hi);simp[dW,ne,EG h1.2 i hi]
def yT (n:Nat) (ps:y'):Prop:=mX n ps/\∃f:Int->Int,∀p∈ps,f p.1<f p.2
theorem z2c {n:Nat}{ps cs:y'}(n1:1<=n) (n6:n<=6) (g:yT n ps) (c:NO n ps cs):Aa n cs:=by obtain⟨h1,h2,h3,h4,h5⟩:=c;obtain⟨_,f,hf⟩:=g;refine⟨n1,n6,h2,h1,λp hp e=>?_,h3⟩;have:=h5 (λa b=>f a<f b) (λa b c x y=>by omega) hf p hp;rw[e]at this;omega
section
variable{st ir ip im n:Nat}{ys ms:zo}{w:Int}{d1:Dv}
def EH:MS:=aM (dM (aB (m2 cI (aD F_qs (aB (aA 0) (aB (mC (.int 6)) aC))) (mC (.int 0))) (aB (m2 cI (aD F_qs (aB (aA 0) (aB (mC (.int 2)) aC))) (mC (.int 0))) (aB (m2 lD (aD F_qs (aB (aA 0) (aB (mC (.int 4)) aC))) (mC (.int 0))) aC)))) (aF 9)
def EI:MS:=aM (m2 cC (aA 9) (dM (aB (m2 eI (m2 aS (aA 6) (aA 7)) (m2 aS (aA 6) (aA 8))) (aB (m2 cI (m2 aS (aA 6) (aA 7)) (m2 aS (aA 6) (aA 8))) aC)))) (aF 9)
def oB:MS:=aJ EH (aJ EI (bQ (cD (m2 aS (aA 9) (aA 4))) (bJ (oU (aA 5) (aV (aB (m2 aS (aA 3) (aA 7)) (aB (m2 aS (aA 3) (aA 8)) aC))))) bW))
structure Std (st ir im:Nat) (ys ms:zo) (H:Hs):Prop where
 s:St st H
 r:getL H ir=some (ys.map Dv.int)
 m:getL H im=some (ms.map Dv.int)
theorem Std.fr {H H':Hs}{S:zq}(h:Std st ir im ys ms H) (f:Fr S H H') (s':St st H') (h1:ir∉S) (h2:im∉S):Std st ir im ys ms H':=⟨s',f.getL h.r h1,f.getL h.m h2⟩
theorem lQ {H:Hs}{x9:zv}{ps:y'}{i j:Nat}(D:Std st ir im ys ms H) (ep:getL H ip=some (ps.map aG)) (hw:0<=w/\w<5) (hi:i<n) (hj:j<n) (hy:ys.length=n) (hm:ms.length=n) (hl:ps.length<=1000)
  (h1:ir≠st) (h2:im≠st) (h3:ip≠st) (h4:ir≠ip) (h5:im≠ip):
  ∃(Co:zv) (H':Hs) (Bi:y'),oB [some (.ref st),some d1,some (.int n),some (.ref ir),some (.int w),some (.ref ip),some (.ref im),some (.int i),some (.int j),x9] H=.nx [some (.ref st),some d1,some (.int n),some (.ref ir),some (.int w),some (.ref ip),some (.ref im),some (.int i),some (.int j),Co] H'/\getL H' ip=some (Bi.map aG)/\(Bi=ps∨Bi=ps++[(ys.getD i 0,ys.getD j 0)])/\Std st ir im ys ms H'/\Fr [st,ip] H H':=by
 obtain⟨r0,H0,_,_,t0,f0,s0⟩:=oH 6 D.s;obtain⟨r1,H1,_,_,t1,f1,s1⟩:=oH 2 s0;obtain⟨r2,H2,_,_,t2,f2,s2⟩:=oH 4 s1;have f02:Fr [st] H H2:=(f0.trans f1 (by simp)).trans f2 (by simp);have D2:=D.fr f02 s2 (by simpa using h1) (by simpa using h2);have ep2:=f02.getL ep (by simpa using h3);have w1:EH [some (.ref st),some d1,some (.int n),some (.ref ir),some (.int w),some (.ref ip),some (.ref im),some (.int i),some (.int j),x9] H=.nx [some (.ref st),some d1,some (.int n),some (.ref ir),some (.int w),some (.ref ip),some (.ref im),some (.int i),some (.int j),some (.ref H2.length)] (H2++[.lst [.bl (r0==0),.bl (r1==0),.bl (decide (r2>0))]]):=by simp[EH,aM,dM,aB,m2,aD,aA,mC,aC,t0,t1,t2,eq_int,lD,iG,lim,aF]
 have fA:Fr [] H2 (H2++[.lst [.bl (r0==0),.bl (r1==0),.bl (decide (r2>0))]]):=Fr.app;have eA:getL (H2++[.lst [.bl (r0==0),.bl (r1==0),.bl (decide (r2>0))]]) H2.length=some [.bl (r0==0),.bl (r1==0),.bl (decide (r2>0))]:=by simp[getL]
 have DA:=D2.fr fA (s2.fr fA (by simp)) (by simp) (by simp);have epA:=fA.getL ep2 (by simp);have fHA:Fr [st] H (H2++[.lst [.bl (r0==0),.bl (r1==0),.bl (decide (r2>0))]]):=f02.trans fA (by simp);generalize H2++[Ob.lst [.bl (r0==0),.bl (r1==0),.bl (decide (r2>0))]]=HA at w1 fA eA DA epA fHA;have hmi:=pP DA.m (k:=i) (by omega);have hmj:=pP DA.m (k:=j) (by omega);have eA':=mQ (l:=[Ob.lst [.bl (decide (ms[i]<ms[j])),.bl (ms[i]==ms[j])]]) eA;have eB:getL (HA++[Ob.lst [.bl (decide (ms[i]<ms[j])),.bl (ms[i]==ms[j])]]) HA.length=some [.bl (decide (ms[i]<ms[j])),.bl (ms[i]==ms[j])]:=by simp[getL]
 have w2:EI [some (.ref st),some d1,some (.int n),some (.ref ir),some (.int w),some (.ref ip),some (.ref im),some (.int i),some (.int j),some (.ref H2.length)] HA=.nx [some (.ref st),some d1,some (.int n),some (.ref ir),some (.int w),some (.ref ip),some (.ref im),some (.int i),some (.int j),some (.ref (HA.length+1))] (HA++[.lst [.bl (decide (ms[i]<ms[j])),.bl (ms[i]==ms[j])]]++[.lst [.bl (r0==0),.bl (r1==0),.bl (decide (r2>0)),.bl (decide (ms[i]<ms[j])),.bl (ms[i]==ms[j])]]):=by simp[EI,aM,m2,dM,aB,aA,hmi,hmj,eI,eq_int,aC,lim,cC,kX,eA',eB,aF]
 have fB:Fr [] HA (HA++[.lst [.bl (decide (ms[i]<ms[j])),.bl (ms[i]==ms[j])]]++[.lst [.bl (r0==0),.bl (r1==0),.bl (decide (r2>0)),.bl (decide (ms[i]<ms[j])),.bl (ms[i]==ms[j])]]):=Fr.trans (T:=[]) Fr.app Fr.app (by simp);have eN:getL (HA++[.lst [.bl (decide (ms[i]<ms[j])),.bl (ms[i]==ms[j])]]++[.lst [.bl (r0==0),.bl (r1==0),.bl (decide (r2>0)),.bl (decide (ms[i]<ms[j])),.bl (ms[i]==ms[j])]]) (HA.length+1)=some [.bl (r0==0),.bl (r1==0),.bl (decide (r2>0)),.bl (decide (ms[i]<ms[j])),.bl (ms[i]==ms[j])]:=by simp[getL]
 have DB:=DA.fr fB (DA.s.fr fB (by simp)) (by simp) (by simp);have epB:=fB.getL epA (by simp);have fHB:=fHA.trans fB (by simp);generalize HA++[Ob.lst [.bl (decide (ms[i]<ms[j])),.bl (ms[i]==ms[j])]]++[Ob.lst [.bl (r0==0),.bl (r1==0),.bl (decide (r2>0)),.bl (decide (ms[i]<ms[j])),.bl (ms[i]==ms[j])]]=HB at w2 fB eN DB epB fHB;have near:∃b,aS (.ref (HA.length+1)) (.int w) HB=.ok (.bl b) HB:=by
  have hw':w=0∨w=1∨w=2∨w=3∨w=4:=by omega
  rcases hw' with rfl|rfl|rfl|rfl|rfl
  ·exact⟨_,by simp only[aS,fX,gI,eN];rfl⟩
  ·exact⟨_,by simp only[aS,fX,gI,eN];rfl⟩
  ·exact⟨_,by simp only[aS,fX,gI,eN];rfl⟩
  ·exact⟨_,by simp only[aS,fX,gI,eN];rfl⟩
  ·exact⟨_,by simp only[aS,fX,gI,eN];rfl⟩
 obtain⟨b,hb⟩:=near;have t:cD (m2 aS (aA 9) (aA 4)) [some (.ref st),some d1,some (.int n),some (.ref ir),some (.int w),some (.ref ip),some (.ref im),some (.int i),some (.int j),some (.ref (HA.length+1))] HB=.ok b HB:=by simp[cD,m2,aA,hb,kD]
 cases b with
 |false=>refine⟨some (.ref (HA.length+1)),HB,ps, ?_,epB,.inl rfl,DB,fHB.mono (by simp)⟩;unfold oB;rw[bK w1,bK w2,kJ t];rfl
 |true=>
  have hyi:=pP DB.r (k:=i) (by omega);have hyj:=pP DB.r (k:=j) (by omega);have gi:ys[i]=ys.getD i 0:=by simp[show i<ys.length by omega]
  have gj:ys[j]=ys.getD j 0:=by simp[show j<ys.length by omega]
  rw[gi]at hyi;rw[gj]at hyj;generalize ys.getD i 0=va at hyi ⊢;generalize ys.getD j 0=vb at hyj ⊢;have hz:(ps.map aG).length<1000000:=by rw[ba];omega
  have fC:Fr [ip] HB (HB.set ip (.lst ((ps++[(va,vb)]).map aG))):=Fr.set;refine⟨some (.ref (HA.length+1)),HB.set ip (.lst ((ps++[(va,vb)]).map aG)),ps++[(va,vb)], ?_,oZ epB,.inr rfl,DB.fr fC (DB.s.fr fC (by simpa using dh h3)) (by simpa using h4) (by simpa using h5),(fHB.mono (T:=[st,ip]) (by simp)).trans fC (by simp)⟩;unfold oB;rw[bK w1,bK w2,tO t];have isP':iK (.ref ip) HB=true:=by simp[iK,epB]
  have happ:qR (.ref ip) (.tup [.int (va),.int (vb)]) HB=.ok .non (HB.set ip (.lst ((ps++[(va,vb)]).map aG))):=by simp only[qR,epB,hz,if_true,gg];rfl
  simp[bJ,oU,aA,isP',aV,aB,m2,hyi,hyj,aC,lim,happ]
end
theorem EJ {m:Int}(h0:0<=m) (h:m<=100):gY m=true:=by
 have h1:(-4611686018427387904:Int)<=m:=by omega
 have h2:m<4611686018427387904:=by omega
 unfold gY;rw[decide_eq_true h1,decide_eq_true h2];rfl
theorem EK {H:Hs}{j:Int}(h0:0<=j) (h1:j<=100):cP [.int j] H=.ok (dC 0 j) H:=by simp only[cP,EJ h0 h1,if_true]
theorem z2d {H:Hs}{i j:Int}(h0:0<=i) (h1:i<=100) (h2:0<=j) (h3:j<=100):hY [.int i,.int j] H=.ok (dC i j) H:=by simp only[hY,EJ h0 h1,EJ h2 h3,and_self,if_true]
def rO (ys:zo) (n:Nat) (ps:y'):Prop:=∀p∈ps,∃i j,i<j/\j<n/\p=(ys.getD i 0,ys.getD j 0)
section
variable{st ir ip im n:Nat}{ys ms:zo}{w:Int}{d1:Dv}
abbrev cE (st ir ip im n:Nat) (w:Int) (d1:Dv) (x7 x8 x9:zv):Ev:=[some (.ref st),some d1,some (.int n),some (.ref ir),some (.int w),some (.ref ip),some (.ref im),x7,x8,x9]
def jH:MS:=gC (aQ hY (aB (m2 cC (aA 7) (mC (.int 1))) (aB (aA 2) aC))) (aF 8) oB
theorem lR {H:Hs}{x8 x9:zv}{ps:y'}{i:Nat}(D:Std st ir im ys ms H) (ep:getL H ip=some (ps.map aG)) (hw:0<=w/\w<5) (hi:i<n) (hn:n<=6) (hy:ys.length=n) (hm:ms.length=n) (hl:ps.length<=500) (hb:rO ys n ps)
  (h1:ir≠st) (h2:im≠st) (h3:ip≠st) (h4:ir≠ip) (h5:im≠ip):
  ∃(Cz Co:zv) (H':Hs) (Bi:y'),jH (cE st ir ip im n w d1 (some (.int i)) x8 x9) H=.nx (cE st ir ip im n w d1 (some (.int i)) Cz Co) H'/\getL H' ip=some (Bi.map aG)/\rO ys n Bi/\Bi.length<=ps.length+6/\Std st ir im ys ms H'/\Fr [st,ip] H H':=by
 have hi0:aQ hY (aB (m2 cC (aA 7) (mC (.int 1))) (aB (aA 2) aC)) (cE st ir ip im n w d1 (some (.int i)) x8 x9) H=.ok (dC ((i:Int)+1) n) H:=by have q:aB (m2 cC (aA 7) (mC (.int 1))) (aB (aA 2) aC) (cE st ir ip im n w d1 (some (.int i)) x8 x9) H=.ok [.int ((i:Int)+1),.int n] H:=rfl;unfold aQ;rw[q,Rs.bind_ok];exact z2d (by omega) (by omega) (by omega) (by omega)
 have hN:(dC ((i:Int)+1) (n:Int)).n=n - (i+1):=by show((n:Int) - ((i:Int)+1)).toNat=_;omega
 obtain⟨ρ',H',r1,Cz,Co,Bi,e1,e2,e3,e4,e5,e6⟩:=tP (b:=oB) (sg:=aF 8) hi0 (λk ρ H'=>∃(Cz Co:zv) (Bi:y'),ρ=cE st ir ip im n w d1 (some (.int i)) Cz Co/\getL H' ip=some (Bi.map aG)/\rO ys n Bi/\Bi.length<=ps.length+k/\Std st ir im ys ms H'/\Fr [st,ip] H H')
  (λk ρ H' hk ⟨Cz,Co,Bi,e1,e2,e3,e4,e5,e6⟩=>by
   subst e1;rw[hN]at hk;have hj:i+1+k<n:=by omega
   obtain⟨x9n,H2,ps2,b1,b2,b3,b4,b5⟩:=lQ (x9:=Co) (w:=w) (d1:=d1) (ip:=ip) (n:=n) (i:=i) (j:=i+1+k) e5 e2 hw hi hj hy hm (by omega) h1 h2 h3 h4 h5;have ej:(((i+1+k:Nat)):Int)=(i:Int)+1+(k:Int):=by omega
   rw[ej]at b1;refine⟨.int ((i:Int)+1+(k:Int)),cE st ir ip im n w d1 (some (.int i)) (some (.int ((i:Int)+1+(k:Int)))) Co,_,H2,rfl,rfl,b1,_,_,ps2,rfl,b2, ?_, ?_,b4,e6.trans b5 λj hj=>.inl hj⟩
   ·rcases b3 with rfl|rfl
    ·exact e3
    ·intro p hp
     rcases cm.mp hp with hp|hp
     ·exact e3 p hp
     ·rw[cg.mp hp];exact⟨i,i+1+k,by omega,hj,rfl⟩
   ·rcases b3 with rfl|rfl
    ·omega
    ·rw[bw];simp;omega) (λ_ _ _=>rfl) ⟨x8,x9,ps,rfl,ep,hb,by omega,D,Fr.refl⟩
 rw[hN]at e4;exact⟨Cz,Co,H',Bi,by unfold jH;rw[r1,e1],e2,e3,by omega,e5,e6⟩
def jX:MS:=gC (aQ cP (aB (aA 2) aC)) (aF 7) jH
theorem lS {H:Hs}{x7 x8 x9:zv}(D:Std st ir im ys ms H) (ep:getL H ip=some (([]:y').map aG)) (hw:0<=w/\w<5) (hn:n<=6) (hy:ys.length=n) (hm:ms.length=n)
  (h1:ir≠st) (h2:im≠st) (h3:ip≠st) (h4:ir≠ip) (h5:im≠ip):
  ∃(x7' Cz Co:zv) (H':Hs) (Bi:y'),jX (cE st ir ip im n w d1 x7 x8 x9) H=.nx (cE st ir ip im n w d1 x7' Cz Co) H'/\getL H' ip=some (Bi.map aG)/\rO ys n Bi/\Std st ir im ys ms H'/\Fr [st,ip] H H':=by
 have hi0:aQ cP (aB (aA 2) aC) (cE st ir ip im n w d1 x7 x8 x9) H=.ok (dC 0 n) H:=by have q:aB (aA 2) aC (cE st ir ip im n w d1 x7 x8 x9) H=.ok [.int n] H:=rfl;unfold aQ;rw[q,Rs.bind_ok];exact EK (by omega) (by omega)
 have hN:(dC 0 (n:Int)).n=n:=by simp[dC]
 obtain⟨ρ',H',r1,x7',Cz,Co,Bi,e1,e2,e3,e4,e5,e6⟩:=tP (b:=jH) (sg:=aF 7) hi0 (λk ρ H'=>∃(x7' Cz Co:zv) (Bi:y'),ρ=cE st ir ip im n w d1 x7' Cz Co/\getL H' ip=some (Bi.map aG)/\rO ys n Bi/\Bi.length<=6*k/\Std st ir im ys ms H'/\Fr [st,ip] H H')
  (λk ρ H' hk ⟨x7',Cz,Co,Bi,e1,e2,e3,e4,e5,e6⟩=>by
   subst e1;rw[hN]at hk;obtain⟨x8n,x9n,H2,ps2,b1,b2,b3,b4,b5,b6⟩:=lR (x8:=Cz) (x9:=Co) (w:=w) (d1:=d1) (ip:=ip) (n:=n) (i:=k) e5 e2 hw hk hn hy hm (by omega) e3 h1 h2 h3 h4 h5;have ek:(0:Int)+(k:Int)=(k:Int):=by omega
   refine⟨.int (0+(k:Int)),cE st ir ip im n w d1 (some (.int k)) Cz Co,_,H2,rfl,by rw[ek];rfl,b1,_,_,_,ps2,rfl,b2,b3,by omega,b5,e6.trans b6 λj hj=>.inl hj⟩) (λ_ _ _=>rfl) ⟨x7,x8,x9,[],rfl,ep,λp hp=>by simp at hp,by simp,D,Fr.refl⟩
 exact⟨x7',Cz,Co,H',Bi,by unfold jX;rw[r1,e1],e2,e3,e5,e6⟩
theorem z2e (pm:ys.Perm (cX n)) {ps:y'}(h:rO ys n ps):yT n ps:=by
 have hl:ys.length=n:=by rw[pm.length_eq];simp[cX]
 have nd:ys.Nodup:=by refine pm.nodup_iff.mpr ?_;unfold cX;simp only[gb];refine jw _ ?_ (qz (n:=n));intro a b h e;exact h (by omega)
 have mem:∀i,i<n->0<=ys.getD i 0/\ys.getD i 0<n:=λi hi=>by have hm:ys.getD i 0∈cX n:=pm.mem_iff.mp (by simp[show i<ys.length by omega]);simp only[cX,bo,bu,gb]at hm;obtain⟨k,hk,e⟩:=hm;omega
 refine⟨λp hp=>?_,λa=>((dW a ys).getD 0:Nat),λp hp=>?_⟩
 ·obtain⟨i,j,Bo,hj,rfl⟩:=h p hp;exact⟨(mem i (by omega)).1,(mem i (by omega)).2,(mem j hj).1,(mem j hj).2⟩
 ·obtain⟨i,j,Bo,hj,rfl⟩:=h p hp;have hi':i<ys.length:=by omega
  have hj':j<ys.length:=by omega
  have e1:ys.getD i 0=ys[i]:=by simp[hi']
  have e2:ys.getD j 0=ys[j]:=by simp[hj']
  simp only[e1,e2,EG nd i hi',EG nd j hj',Option.getD_some];omega
def EL (ms:zo) (n:Nat) (ps:y'):Prop:=∀p∈ps,∃i j:Nat,i<n/\j<n/\ms.getD i 0<ms.getD j 0/\p=((i:Int),(j:Int))
theorem z2f {ps:y'}(h:EL ms n ps):yT n ps:=by
 refine⟨λp hp=>?_,λa=>ms.getD a.toNat 0,λp hp=>?_⟩
 ·obtain⟨i,j,hi,hj,_,rfl⟩:=h p hp;exact⟨by simp,by simpa using hi,by simp,by simpa using hj⟩
 ·obtain⟨i,j,hi,hj,hlt,rfl⟩:=h p hp;simpa using hlt
def yU:M zu :=aX (aQ cP (aB (aA 2) aC)) [none,some 7,some 6] (aF 0) (mB (m2 eI (m2 aS (aA 2) (aA 1)) (m2 aS (aA 2) (aA 0)))) (aU (aV (aB (aA 1) (aB (aA 0) aC))))
def uN:MS:=aM (m2 cC (aA 5) (bH yU)) (aF 5)
def gR (ms:zo) (n i:Nat):y':=(ay n).filterMap λj=>if ms.getD i 0<ms.getD j 0 then some ((i:Int),(j:Int))else none
theorem z2g {H:Hs}{x8 x9:zv}{i:Nat}(em:getL H im=some (ms.map Dv.int)) (hi:i<n) (hn:n<=6) (hm:ms.length=n):
  yU (cE st ir ip im n w d1 (some (.int i)) x8 x9) H=.ok ((gR ms n i).map aG) H:=by
 have hi0:aQ cP (aB (aA 2) aC) (cE st ir ip im n w d1 (some (.int i)) x8 x9) H=.ok (dC 0 n) H:=by have q:aB (aA 2) aC (cE st ir ip im n w d1 (some (.int i)) x8 x9) H=.ok [.int n] H:=rfl;unfold aQ;rw[q,Rs.bind_ok];exact EK (by omega) (by omega)
 have h:yU (cE st ir ip im n w d1 (some (.int i)) x8 x9) H=.ok ((ay n).filterMap λj=>if ms.getD i 0<ms.getD j 0 then some (aG ((i:Int),(j:Int)))else none) H:=
  gQ (ay n) (λj=>if ms.getD i 0<ms.getD j 0 then some (aG ((i:Int),(j:Int)))else none) (λρ=>∃a,ρ=[a,some (.int i),some (.ref im)]) hi0 (by simp[dC]) ⟨_,rfl⟩ rfl (λk hk ρ ⟨a,er⟩=>by
   subst er;have hk':k<n:=by simpa using hk
   have gk:(ay n)[k]=k:=by simp
   rw[gk];have ek:(0:Int)+(k:Int)=(k:Int):=by omega
   refine⟨.int (0+(k:Int)),[some (.int k),some (.int i),some (.ref im)],rfl,by rw[ek];rfl,⟨_,rfl⟩, ?_⟩;have x1:=pP em (k:=i) (by omega);have x2:=pP em (k:=k) (by omega);have g1:ms[i]=ms.getD i 0:=by simp[show i<ms.length by omega]
   have g2:ms[k]=ms.getD k 0:=by simp[show k<ms.length by omega]
   rw[g1]at x1;rw[g2]at x2;generalize ms.getD i 0=va at x1 ⊢;generalize ms.getD k 0=vb at x2 ⊢;have te:mB (m2 eI (m2 aS (aA 2) (aA 1)) (m2 aS (aA 2) (aA 0))) [some (.int k),some (.int i),some (.ref im)] H=.ok (decide (va<vb)) H:=by simp[mB,m2,aA,x1,x2,eI,eR]
   by_cases c:va<vb
   ·rw[if_pos c];rw[decide_eq_true c]at te;exact⟨te,rfl⟩
   ·rw[if_neg c];rw[decide_eq_false c]at te;exact te) (by simp;omega)
 have e:((ay n).filterMap λj=>if ms.getD i 0<ms.getD j 0 then some (aG ((i:Int),(j:Int)))else none)=(gR ms n i).map aG:=by
  unfold gR;rw[qf];refine LX _ λj _=>?_
  split <;> rfl
 rw[h,e]
theorem z2h {H:Hs}{ip0:Nat}{x7 x8 x9:zv}(D:Std st ir im ys ms H) (ep:getL H ip0=some (([]:y').map aG)) (hn:n<=6) (hm:ms.length=n):
  ∃(Dc:Nat) (x7':zv) (H':Hs) (Bi:y'),gC (aQ cP (aB (aA 2) aC)) (aF 7) uN (cE st ir ip0 im n w d1 x7 x8 x9) H=.nx (cE st ir Dc im n w d1 x7' x8 x9) H'/\getL H' Dc=some (Bi.map aG)/\EL ms n Bi/\Fr [] H H':=by
 have hi0:aQ cP (aB (aA 2) aC) (cE st ir ip0 im n w d1 x7 x8 x9) H=.ok (dC 0 n) H:=by have q:aB (aA 2) aC (cE st ir ip0 im n w d1 x7 x8 x9) H=.ok [.int n] H:=rfl;unfold aQ;rw[q,Rs.bind_ok];exact EK (by omega) (by omega)
 have hN:(dC 0 (n:Int)).n=n:=by simp[dC]
 obtain⟨ρ',H',r1,Dc,x7',Bi,e1,e2,e3,e4,e5⟩:=tP (b:=uN) (sg:=aF 7) hi0 (λk ρ H'=>∃(Dc:Nat) (x7':zv) (Bi:y'),ρ=cE st ir Dc im n w d1 x7' x8 x9/\getL H' Dc=some (Bi.map aG)/\EL ms n Bi/\Bi.length<=6*k/\Fr [] H H')
  (λk ρ H' hk ⟨Dc,x7',Bi,e1,e2,e3,e4,e5⟩=>by
   subst e1;rw[hN]at hk;have em:=e5.getL D.m (by simp);have hc:=z2g (st:=st) (ir:=ir) (ip:=Dc) (w:=w) (d1:=d1) (x8:=x8) (x9:=x9) em hk hn hm;have hrl:(gR ms n k).length<=6:=by have:=qr (λj=>if ms.getD k 0<ms.getD j 0 then some ((k:Int),(j:Int))else none) (ay n);unfold gR;rw[kj]at this;omega
   have ek:(0:Int)+(k:Int)=(k:Int):=by omega
   have ep1:=mQ (l:=[Ob.lst ((gR ms n k).map aG)]) e2;have eq1:getL (H'++[Ob.lst ((gR ms n k).map aG)]) H'.length=some ((gR ms n k).map aG):=by simp[getL]
   have hz:(Bi.map aG).length+((gR ms n k).map aG).length<=1000000:=by rw[ba,ba];omega
   have hb:uN (cE st ir Dc im n w d1 (some (.int k)) x8 x9) H'=.nx (cE st ir (H'.length+1) im n w d1 (some (.int k)) x8 x9) (H'++[Ob.lst ((gR ms n k).map aG)]++[Ob.lst ((Bi++gR ms n k).map aG)]):=by
    have ha:cC (.ref Dc) (.ref H'.length) (H'++[Ob.lst ((gR ms n k).map aG)])=.ok (.ref (H'.length+1)) (H'++[Ob.lst ((gR ms n k).map aG)]++[Ob.lst ((Bi++gR ms n k).map aG)]):=by show kX (.ref Dc) (.ref H'.length) (H'++[Ob.lst ((gR ms n k).map aG)])=_;simp only[kX,ep1,eq1,lim,hz,if_true];simp
    have hal:bH yU (cE st ir Dc im n w d1 (some (.int k)) x8 x9) H'=.ok (.ref H'.length) (H'++[Ob.lst ((gR ms n k).map aG)]):=by unfold bH;rw[hc];rfl
    unfold uN aM m2;show((Rs.ok (Dv.ref Dc) H').bind _).thenS _=_;rw[Rs.bind_ok,hal,Rs.bind_ok,ha];rfl
   refine⟨.int (0+(k:Int)),cE st ir Dc im n w d1 (some (.int k)) x8 x9,_,_,rfl,by rw[ek];rfl,hb,H'.length+1,_,Bi++gR ms n k,rfl,by simp[getL], ?_,by rw[bw];omega,e5.trans (Fr.trans (T:=[]) (Fr.app (S:=[])) Fr.app (by simp)) (by simp)⟩;intro p hp
   rcases cm.mp hp with hp|hp
   ·exact e3 p hp
   ·unfold gR at hp;obtain⟨j,hj,e⟩:=gy.mp hp
    split at e
    ·rename_i c;cases e;exact⟨k,j,hk,bu.mp hj,c,rfl⟩
    ·cases e) (λ_ _ _=>rfl) ⟨ip0,x7,[],rfl,ep,λp hp=>by simp at hp,by simp,Fr.refl⟩
 exact⟨Dc,x7',H',Bi,by rw[r1,e1],e2,e3,e5⟩
end
def o1:MS:=aM (m2 eY (aA 1) (m2 aS (dM (aB (mC (.int 0)) (aB (mC (.int 0)) (aB (mC (.int 1)) (aB (mC (.int 2)) (aB (mC (.int 0)) (aB (mC (.int 3)) (aB (mC (.int 1)) (aB (mC (.int 4)) aC))))))))) (aD F_qs (aB (aA 0) (aB (mC (.int 8)) aC))))) (aF 2)
def o2:MS:=aM (aD iR (aB (mC (.int 1)) (aB (aA 2) aC))) (aF 2)
def o3:MS:=aM (aD F_qb (aB (aA 0) (aB (aD (f1 rH) (aB (aA 2) aC)) aC))) (aF 3)
def o4:MS:=aM (aD F_qs (aB (aA 0) (aB (mC (.int 5)) aC))) (aF 4)
def o5:MS:=aM (dM aC) (aF 5)
def jY:M zu :=aX (aW bY (aA 3)) [none,some 0] (aF 0) bR (aU (aD F_qs (aB (aA 1) (aB (mC (.int 3)) aC))))
def o6:MS:=aM (bH jY) (aF 6)
def o8:MS:=bQ (mB (m2 cI (aA 4) (mC (.int 3)))) (aJ (aM (dM aC) (aF 5)) (gC (aQ cP (aB (aA 2) aC)) (aF 7) uN)) bW
def o9:MS:=aN (aV (aB (aA 2) (aB (aD (f1 fK) (aB (aD F_qg (aB (aA 5) aC)) aC)) aC)))
theorem lT:iX=aJ o1 (aJ o2 (aJ o3 (aJ o4 (aJ o5 (aJ o6 (aJ jX (aJ o8 o9))))))):=rfl
section
variable{st:Nat}
theorem lU {H:Hs}{m:Int}{x2 x3 x4 x5 x6 x7 x8 x9:zv}(s:St st H):∃(v:Int) (H':Hs),0<=v/\v<=4/\o1 [some (.ref st),some (.int m),x2,x3,x4,x5,x6,x7,x8,x9] H=.nx [some (.ref st),some (.int m),some (.int (m - v)),x3,x4,x5,x6,x7,x8,x9] H'/\St st H'/\Fr [st] H H':=by
 have fA:Fr [] H (H++[Ob.lst [.int 0,.int 0,.int 1,.int 2,.int 0,.int 3,.int 1,.int 4]]):=Fr.app;have eA:getL (H++[Ob.lst [.int 0,.int 0,.int 1,.int 2,.int 0,.int 3,.int 1,.int 4]]) H.length=some (([0,0,1,2,0,3,1,4]:zo).map Dv.int):=by simp[getL]
 have sA:=s.fr fA (by simp);have lt:=s.lt;have hd:dM (aB (mC (.int 0)) (aB (mC (.int 0)) (aB (mC (.int 1)) (aB (mC (.int 2)) (aB (mC (.int 0)) (aB (mC (.int 3)) (aB (mC (.int 1)) (aB (mC (.int 4)) aC)))))))) [some (.ref st),some (.int m),x2,x3,x4,x5,x6,x7,x8,x9] H=.ok (.ref H.length) (H++[Ob.lst [.int 0,.int 0,.int 1,.int 2,.int 0,.int 3,.int 1,.int 4]]):=rfl;generalize H++[Ob.lst [.int 0,.int 0,.int 1,.int 2,.int 0,.int 3,.int 1,.int 4]]=HA at fA eA sA hd;obtain⟨r,H1,r0,r1,t1,f1,s1⟩:=oH 8 sA;have e1:=f1.getL eA (by simp;omega);obtain⟨k,rfl⟩:∃k:Nat,r=k:=⟨r.toNat,by omega⟩
 have hk:k<8:=by omega
 have hx:=pP e1 (k:=k) (by simpa using hk);have hv:0<=([0,0,1,2,0,3,1,4]:zo)[k]/\([0,0,1,2,0,3,1,4]:zo)[k]<=4:=by
  match k,hk with
  |0,_=>simp
  |1,_=>simp
  |2,_=>simp
  |3,_=>simp
  |4,_=>simp
  |5,_=>simp
  |6,_=>simp
  |7,_=>simp
 generalize ([0,0,1,2,0,3,1,4]:zo)[k]=v at hx hv;refine⟨v,H1,hv.1,hv.2, ?_,s1,fA.mono (T:=[st]) (by simp) |>.trans f1 (by simp)⟩;have ht:aD F_qs (aB (aA 0) (aB (mC (.int 8)) aC)) [some (.ref st),some (.int m),x2,x3,x4,x5,x6,x7,x8,x9] HA=.ok (.int k) H1:=by simp[aD,aB,aA,mC,aC,t1]
 unfold o1 aM m2;show((Rs.ok (Dv.int m) H).bind _).thenS _=_;rw[Rs.bind_ok,hd,Rs.bind_ok,ht,Rs.bind_ok,hx,Rs.bind_ok];rfl
theorem lV {H:Hs}{ir:Nat}{ys:zo}{x1 x2 x4 x5 x6 x7 x8 x9:zv}(s:St st H) (er:getL H ir=some (ys.map Dv.int)) (hrs:ir≠st) (hl:ys.length<=100):∃(ms:zo) (H':Hs),ms.length=ys.length/\o6 [some (.ref st),x1,x2,some (.ref ir),x4,x5,x6,x7,x8,x9] H=.nx [some (.ref st),x1,x2,some (.ref ir),x4,x5,some (.ref H'.length),x7,x8,x9] (H'++[.lst (ms.map Dv.int)])/\St st H'/\Fr [st] H H':=by
 have hi:aW bY (aA 3) [some (.ref st),x1,x2,some (.ref ir),x4,x5,x6,x7,x8,x9] H=.ok (cO ir ys.length) H:=by simp[aW,aA,bY,er]
 obtain⟨ρ',H',Cc,h1,a,ms,h2,h3,h4,h5,h6⟩:=BM (src:=cO ir ys.length) (sg:=aF 0) (t:=bR) (m:=aU (aD F_qs (aB (aA 1) (aB (mC (.int 3)) aC))))
  (λk ρ H' acc=>∃(a:zv) (ms:zo),ρ=[a,some (.ref st)]/\acc=ms.map Dv.int/\ms.length=k/\St st H'/\Fr [st] H H')
  (λk ρ H' acc hk ⟨a,ms,e1,e2,e3,e4,e5⟩=>by
   subst e1;subst e2;have hk':k<ys.length:=hk;obtain⟨r,H1,r0,r1,t1,f1,s1⟩:=oH 3 e4;have er':=e5.getL er (by simpa using hrs);refine⟨.int ys[k],[some (.int ys[k]),some (.ref st)],NG er' hk',rfl,.inr ⟨H',[some (.int ys[k]),some (.ref st)],(ms++[r]).map Dv.int,H1,rfl, ?_,_,ms++[r],rfl,rfl,by simp[e3],s1,e5.trans f1 (by simp)⟩⟩;have hz:ms.length<1000000:=by omega
   simp[aU,aD,aB,aA,mC,aC,t1,hz]) (λρ H' acc ⟨_,_,_,_,_,_,e5⟩=>NH (e5.getL er (by simpa using hrs))) ys.length 0 [none,some (.ref st)] H [] (by simp[cO]) ⟨none,[],rfl,rfl,rfl,s,Fr.refl⟩
 refine⟨ms,H',h4, ?_,h5,h6⟩;have hc:jY [some (.ref st),x1,x2,some (.ref ir),x4,x5,x6,x7,x8,x9] H=.ok (ms.map Dv.int) H':=by unfold jY aX;rw[hi,Rs.bind_ok];have hcap:jO [none,some 0] [some (.ref st),x1,x2,some (.ref ir),x4,x5,x6,x7,x8,x9]=[none,some (.ref st)]:=rfl;rw[hcap,show(cO ir ys.length).n=ys.length from rfl,h1];dsimp only;rw[h3]
 unfold o6 aM bH;rw[hc];rfl
end
end L2.Mr.Com
namespace L2
open PySem PySem.Spec PyProof.Rows
section
variable{X:Cx}{D:ah}
end
section
variable{X:Cx}
end
end L2
namespace L2.Mr
open PySem PySem.Spec PyProof.Rows
section
variable{M:wm}{A:cn}{E:af->ag->Prop}{s:ag}{base:da}{env:Env}{outer:List Env}{L e T:ah}{C a0:af}{Q:Unit->ag->Prop}
end
section
variable{P:bh}{w:cp}{M:wm}{A:cn}{E:af->ag->Prop}{s:ag}{H H0:Hp}{base:da}{env:Env}{outer:List Env}{L e:ah}{C:af}{Q:Unit->ag->Prop}
end
section
variable{P:bh}{w:cp}{K:aq}{mg:Str->Option af}{base:da}{N:zr}{qual:Str}{scope:ic}{f:ah}{cdv:af}{A:cn}{outer:List Env}{s0:ag}{H0:Hp}{E0:XK}{G:Cfg}{E:XK}{k:Nat}
end
section
variable{G:Cfg}
end
section
variable{X:Cx}{G:Cfg}{E:XK}{elt tg iter:bq}{ifs:List bq}{sc:ic}{ps pos:Pos}{mi:M Src}{st:dQ}{test:M Bool}{me:M Dv}{N:zr}{cap:List (Option Nat)}
end
section
variable{P:bh}{w:cp}{K:aq}{mg:Str->Option af}{base:da}{N:zr}{qual:Str}{f:ah}{G:Cfg}{k:Nat}
end
end L2.Mr
namespace L2.Mr.Cod
open PySem PySem.Spec PyProof.Rows L2 L2.Mr L2.Mr.Com
def mb_qq:MS:=(bQ (dY (cD (aD F_q0 (aB (aA 0) aC)))) (iJ 0 (aB (mC (.str "this is no order")) aC)) bW)
def F_qq:zt:=aR 1 1 (mb_qq)
def lN:MS:=(aJ (aM (m2 aS (aA 0) (mC (.int 1))) (aF 3)) (aN (dZ (m2 cJ (aA 1) (aA 2)) (dZ (m2 (cN true) (aV (aB (aA 1) (aB (aA 2) aC))) (aA 3)) (m2 (cN true) (aV (aB (aA 2) (aB (aA 1) aC))) (aA 3))))))
def F_qt:zt:=aR 3 4 (lN)
open L2.Mr.Com hiding iW F_qg iX F_qj
section
variable{st n:Nat}
end
section
variable{n i:Nat}{H:Hs}{S:y'}{m a b:Int}{x0 x1 x3 x4 x5:zv}
end
open L2.Mr.Com hiding iW F_qg iX F_qj oB lQ lR lS jH jX o1 o2 o3 o4 o5 o6 jY o8 o9 lT lU lV cE
section
variable{st ip im n:Nat}{ys ms:zo}{w:Int}{d1:Dv}
end
section
variable{st:Nat}
end
end L2.Mr.Cod
namespace L2.Mr.K01
open PySem PySem.Spec PyProof.Rows L2 L2.Mr L2.Mr.Com
end L2.Mr.K01
namespace L2.Mr.Com
open PySem PySem.Spec PyProof.Rows L2 L2.Mr
def T0 (H:Hs):Dv->Prop
 | .ref i=>∃xs,getL H i=some xs
 | .exc _=>False
 | .scr=>False
 |_=>True
def TK:Nat->Hs->Dv->Prop
 |0,H,d=>T0 H d
 |k+1,H,d=>T0 H d/\∀ds,d=.tup ds->ds.length<=500/\∀x∈ds,TK k H x
theorem TK.tup {k:Nat}{H:Hs}{ds:zu}(hl:ds.length<=500) (h:∀x∈ds,TK k H x):TK (k+1) H (.tup ds):=⟨trivial,λ_ e=>by cases e;exact⟨hl,h⟩⟩
def EM:Dv->Bool
 | .tup _=>true
 |_=>false
def isInt:Dv->Bool
 | .int _=>true
 |_=>false
section
variable{H:Hs}{d:Dv}{n:Int}
theorem z2i (h:T0 H d):fW lE d H=.ok (.bl (EM d)) H:=by
 cases d with
 |ref i=>obtain⟨xs,e⟩:=h;simp[fW,jP,e,lE,EM]
 |exc c=>exact h.elim
 |scr=>exact h.elim
 |_=>rfl
theorem z2j (h:T0 H d):fW qX d H=.ok (.bl (match d with | .int _=>true | .bl _=>true|_=>false)) H:=by
 cases d with
 |ref i=>obtain⟨xs,e⟩:=h;simp[fW,jP,e,qX]
 |exc c=>exact h.elim
 |scr=>exact h.elim
 |_=>rfl
theorem z2k (h:T0 H d):fW qY d H=.ok (.bl (match d with | .bl _=>true|_=>false)) H:=by
 cases d with
 |ref i=>obtain⟨xs,e⟩:=h;simp[fW,jP,e,qY]
 |exc c=>exact h.elim
 |scr=>exact h.elim
 |_=>rfl
theorem z2l (h:T0 H d):F_q2 [d] H=.ok (.bl (isInt d)) H:=by
 have e1:=z2j h;have e2:=z2k h
 cases d <;> simp[F_q2,CI,aR,cQ,aN,dZ,m1,aA,e1,e2,qG,bO,isInt]
def rP (lo hi:Int):Dv->Bool
 | .int x=>decide (lo<=x)&&decide (x<=hi)
 |_=>false
theorem z2m {lo hi:Int}(h:T0 H d):F_qo [d,.int lo,.int hi] H=.ok (.bl (rP lo hi d)) H:=by
 have w:=z2l h
 cases d with
 |int x=>exact EC
 |_=>simp[F_qo,xI,aR,cQ,aN,dZ,aD,aB,aA,aC,w,isInt,bO,rP]
def tB (n:Int) (d:Dv):Bool:=rP 0 (n - 1) d
theorem z2n (h:T0 H d):F_q1 [.int n,d] H=.ok (.bl (tB n d)) H:=by simp[F_q1,CJ,aR,cQ,aN,aD,aB,aA,aC,mC,m2,eY,iG,z2m h,bO,tB]
def pQ (n:Int):Dv->Bool
 | .tup ys=>ys.all (tB n)
 |_=>false
theorem z2o (h:TK 1 H d):F_qm [.int n,d] H=.ok (.bl (pQ n d)) H:=by
 have e:=z2i h.1
 cases d with
 |tup xs=>obtain⟨hl,hx⟩:=h.2 xs rfl;have h:aX (aW dF (aA 1)) [none,some 0] (aF 0) bR (aU (aD F_q1 (aB (aA 1) (aB (aA 0) aC)))) [some (.int n),some (.tup xs)] H=.ok (xs.filterMap λx=>some (.bl (tB n x))) H:=gQ xs (λx=>some (.bl (tB n x))) (λρ=>∃a,ρ=[a,some (.int n)]) rfl (by simp[dD]) ⟨_,rfl⟩ rfl (λk hk ρ ⟨a,e⟩=>by subst e;exact⟨xs[k],_,by simp[dD,hk],rfl,⟨_,rfl⟩,rfl,by simp[aD,aB,aA,aC,z2n (hx xs[k] (fe hk))]⟩) (by omega);simp[F_qm,xJ,aR,cQ,aN,dZ,m1,fW,aA,jP,lE,uI h,bO,pQ]
 |_=>simp[F_qm,xJ,aR,cQ,aN,dZ,m1,aA,e,EM,bO,pQ]
end
section
variable{H:Hs}{d:Dv}{n:Int}
end
section
variable{H:Hs}{d:Dv}
end
section
variable{P:Ev->Hs->Prop}{k n m':Nat}{m:M Dv}{ms:M zu }
end
end L2.Mr.Com
namespace L2.Mr.Cod
open PySem PySem.Spec PyProof.Rows L2 L2.Mr
open L2.Mr.Com hiding iW F_qg iX F_qj oB lQ lR lS jH jX o1 o2 o3 o4 o5 o6 jY o8 o9 lT lU lV cE
section
variable{H:Hs}
theorem jI {i j:Nat}{ds:zu}(e:getL H i=some ds) (hj:j<ds.length):aS (.ref i) (.int j) H=.ok ds[j] H:=by
 have h1:fT ds.length (j:Int)=some j:=by unfold fT;rw[if_pos (by omega),if_pos (by omega)];simp
 have h2:gX ds (j:Int)=some ds[j]:=by unfold gX;rw[h1];simp[hj]
 simp only[aS,fX,gI,e,kE,h2,if_true]
theorem last_get {x:zu}:getL (H++[.lst x]) H.length=some x:=by simp[getL]
end
section
variable{n m:Nat}{H H':Hs}{i j:Nat}
end
end L2.Mr.Cod
namespace L2.Mr
open PySem PySem.Spec PyProof.Rows L2
def z2p (x:Int) (P:Int->Prop):Prop:=P x/\∀y,P y->y<=x
theorem NP {f:Nat->Int}:∀k,(∃i,i<=k/\fF (λa b=>decide (a>b)) f k=f i)/\∀i,i<=k->f i<=fF (λa b=>decide (a>b)) f k
 |0=>⟨⟨0,ak _,rfl⟩,λi hi=>by
  have:i=0:=by omega
  subst this;exact wk _⟩
 |k+1=>by
  obtain⟨⟨i,hi,e⟩,h⟩:=NP (f:=f) k;have he:fF (λa b=>decide (a>b)) f (k+1)=if decide (f (k+1)>fF (λa b=>decide (a>b)) f k)then f (k+1)else fF (λa b=>decide (a>b)) f k:=rfl
  generalize fF (λa b=>decide (a>b)) f k=z at e h he;rw[he]
  by_cases c:f (k+1)>z
  ·rw[if_pos (decide_eq_true c)];refine⟨⟨k+1,ak _,rfl⟩,λj hj=>?_⟩
   by_cases q:j=k+1
   ·subst q;exact wk _
   ·have:=h j (by omega);omega
  ·rw[if_neg (by simpa using c)];refine⟨⟨i,by omega,e⟩,λj hj=>?_⟩
   by_cases q:j=k+1
   ·subst q;omega
   ·exact h j (by omega)
theorem NQ {f:Nat->Int}:∀k,(∃i,i<=k/\fF (λa b=>decide (a<b)) f k=f i)/\∀i,i<=k->fF (λa b=>decide (a<b)) f k<=f i
 |0=>⟨⟨0,ak _,rfl⟩,λi hi=>by
  have:i=0:=by omega
  subst this;exact wk _⟩
 |k+1=>by
  obtain⟨⟨i,hi,e⟩,h⟩:=NQ (f:=f) k;have he:fF (λa b=>decide (a<b)) f (k+1)=if decide (f (k+1)<fF (λa b=>decide (a<b)) f k)then f (k+1)else fF (λa b=>decide (a<b)) f k:=rfl
  generalize fF (λa b=>decide (a<b)) f k=z at e h he;rw[he]
  by_cases c:f (k+1)<z
  ·rw[if_pos (decide_eq_true c)];refine⟨⟨k+1,ak _,rfl⟩,λj hj=>?_⟩
   by_cases q:j=k+1
   ·subst q;exact wk _
   ·have:=h j (by omega);omega
  ·rw[if_neg (by simpa using c)];refine⟨⟨i,by omega,e⟩,λj hj=>?_⟩
   by_cases q:j=k+1
   ·subst q;omega
   ·exact h j (by omega)
theorem maxI_is {ns:zo}(h:ns≠[]):z2p (nX ns) (·∈ns):=by
 have hl:0<ns.length:=ik.mpr h;obtain⟨⟨i,hi,e⟩,hx⟩:=NP (f:=λi=>ns.getD i 0) (ns.length - 1);refine⟨?_,λy hy=>?_⟩
 ·show nX ns∈ns;unfold nX;rw[e];have:i<ns.length:=by omega
  simp[this]
 ·obtain⟨k,hk,rfl⟩:=kr.mp hy;have:=hx k (by omega);have e2:ns.getD k 0=ns[k]:=by simp[hk]
  rw[e2]at this;exact this
theorem minI_is {ns:zo}(h:ns≠[]):gL ns∈ns/\∀y∈ns,gL ns<=y:=by
 have hl:0<ns.length:=ik.mpr h;obtain⟨⟨i,hi,e⟩,hx⟩:=NQ (f:=λi=>ns.getD i 0) (ns.length - 1);refine⟨?_,λy hy=>?_⟩
 ·unfold gL;rw[e];have:i<ns.length:=by omega
  simp[this]
 ·obtain⟨k,hk,rfl⟩:=kr.mp hy;have:=hx k (by omega);have e2:ns.getD k 0=ns[k]:=by simp[hk]
  rw[e2]at this;exact this
end L2.Mr
namespace L2.Mr.Cod
open PySem PySem.Spec PyProof.Rows L2 L2.Mr
open L2.Mr.Com hiding iW F_qg iX F_qj oB lQ lR lS jH jX o1 o2 o3 o4 o5 o6 jY o8 o9 lT lU lV cE
def iN (ps:y') (a:Nat):Nat->y'
 |0=>[]
 |k+1=>iN ps a k++if((a:Int),(a:Int)+1+(k:Int))∈ps∨((a:Int)+1+(k:Int),(a:Int))∈ps then[]else[((a:Int),(a:Int)+1+(k:Int))]
def iY (n:Nat) (ps:y'):Nat->y'
 |0=>[]
 |k+1=>iY n ps k++iN ps k (n - (k+1))
def bT (n:Nat) (ps:y'):y':=iY n ps n
theorem looseB_len (ps:y') (a:Nat):∀k,(iN ps a k).length<=k
 |0=>ak _
 |k+1=>by
  have:=looseB_len ps a k;unfold iN
  split <;> simp <;> omega
section
variable{n:Nat}{ps:y'}{i:Nat}
end
def Lse (ps:y') (a b:Int):Prop:=a≠b/\(a,b)∉ps/\(b,a)∉ps
instance (ps:y') (a b:Int):Decidable (Lse ps a b):=by unfold Lse;infer_instance
theorem Bu {ps:y'}{a:Nat}{q:Int×Int}:∀{k:Nat},q∈iN ps a k↔∃j,j<k/\q=((a:Int),(a:Int)+1+(j:Int))/\q∉ps/\(q.2,q.1)∉ps
 |0=>by simp[iN]
 |k+1=>by
  unfold iN;rw[cm,Bu (k:=k)];constructor
  ·rintro (⟨j,hj,h⟩|h)
   ·exact⟨j,by omega,h⟩
   ·split at h
    ·simp at h
    ·rename_i c;rw[cg]at h;subst h;exact⟨k,by omega,rfl,λz=>c (.inl z),λz=>c (.inr z)⟩
  ·rintro ⟨j,hj,h,h1,h2⟩
   by_cases q:j=k
   ·subst q;right;subst h;rw[if_neg (λz=>z.elim h1 h2)];simp
   ·exact .inl ⟨j,by omega,h,h1,h2⟩
theorem NR {n:Nat}{ps:y'}{q:Int×Int}:∀{k:Nat},q∈iY n ps k↔∃a,a<k/\q∈iN ps a (n - (a+1))
 |0=>by simp[iY]
 |k+1=>by
  unfold iY;rw[cm,NR (k:=k)];constructor
  ·rintro (⟨a,ha,h⟩|h)
   ·exact⟨a,by omega,h⟩
   ·exact⟨k,by omega,h⟩
  ·rintro ⟨a,ha,h⟩
   by_cases q:a=k
   ·subst q;exact .inr h
   ·exact .inl ⟨a,by omega,h⟩
theorem Ag {n:Nat}{ps:y'}{q:Int×Int}:q∈bT n ps↔0<=q.1/\q.1<q.2/\q.2<n/\Lse ps q.1 q.2:=by
 unfold bT;rw[NR];constructor
 ·rintro ⟨a,ha,h⟩
  obtain⟨j,hj,rfl,h1,h2⟩:=Bu.mp h;exact⟨by omega,by simp only;omega,by simp only;omega,by simp only[ne_eq];omega,h1,h2⟩
 ·rintro ⟨h0,h1,h2,_,h3,h4⟩
  refine⟨q.1.toNat,by omega,Bu.mpr ⟨(q.2 - q.1 - 1).toNat,by omega, ?_,h3,h4⟩⟩
  apply Prod.ext <;> simp only <;> omega
section
variable{n:Nat}{ps:y'}{r:Int}{fs:zo}
end
section
variable{n:Nat}{ps:y'}{r:Int}{fs:zo}
end
section
variable{n:Nat}{ps:y'}{r:Int}{H:Hs}
theorem loose_is {a b:Int}:F_qt [aH n ps,.int a,.int b] H=.ok (.bl (decide (Lse ps a b))) H:=by
 have h1:=NA (n:=n) (ps:=ps) H;have t1:=BO true H (a,b) ps;have t2:=BO true H (b,a) ps;simp only[aG,if_true]at t1 t2;have hne:cJ (.int a) (.int b) H=.ok (.bl (!(a==b))) H:=by simp[cJ,cH,bU,bM]
 generalize aH n ps=d at h1;simp only[Lse]
 by_cases c0:a=b
 ·subst c0;simp[F_qt,lN,aR,cQ,aJ,aM,m2,aA,mC,h1,aF,aN,dZ,hne,bO]
 ·have c0':(a==b)=false:=by simpa using c0
  by_cases c1:(a,b)∈ps
  ·simp[F_qt,lN,aR,cQ,aJ,aM,m2,aA,mC,h1,aF,aN,dZ,hne,c0',aV,aB,aC,lim,t1,c1,bO]
  ·simp[F_qt,lN,aR,cQ,aJ,aM,m2,aA,mC,h1,aF,aN,dZ,hne,c0',c0,aV,aB,aC,lim,t1,c1,t2,bO]
end
section
variable{n:Nat}{ps:y'}{r:Int}{H:Hs}{i j:Nat}{fs:zo}{nd:List (Int×Int×Int)}
end
section
variable{n:Nat}{ps:y'}{r:Int}{H:Hs}{i j:Nat}{fs:zo}{nd:List (Int×Int×Int)}{d:Dv}
theorem need_ok (o:Aa n ps):F_qq [aH n ps] H=.ok .non H:=by simp[F_qq,mb_qq,aR,cQ,bQ,dY,cD,aD,aB,aA,aC,yQ o,kD,bW,bO]
end
end L2.Mr.Cod
namespace L2.Mr.Com
open PySem PySem.Spec PyProof.Rows L2 L2.Mr
section
variable{P:Ev->Hs->Prop}{l l':Nat}{m m':M Dv}
end
section
variable{st n:Nat}{cs:y'}{at_ a b:Int}
variable(o:Aa n cs)
include o
end
end L2.Mr.Com
namespace L2.Mr.Gen
open PySem PySem.Spec PyProof.Rows L2 L2.Mr L2.Mr.Com
theorem NS {t u:M Bool}{ρ:Ev}{h h1:Hs}(e:t ρ h=.ok true h1):eH t u ρ h=.ok true h1:=by unfold eH;rw[e];rfl
theorem mY {t u:M Bool}{ρ:Ev}{h h1:Hs}(e:t ρ h=.ok false h1):eH t u ρ h=u ρ h1:=by unfold eH;rw[e];rfl
theorem uO {t:M Bool}{ρ:Ev}{h h1:Hs}{b:Bool}(e:t ρ h=.ok b h1):dY t ρ h=.ok (!b) h1:=by unfold dY;rw[e];rfl
theorem NT (xs ys:zu) (hl:xs.length+ys.length<=1000) {H:Hs}:cC (.tup xs) (.tup ys) H=.ok (.tup (xs++ys)) H:=by
 cases xs with
 |nil=>rfl
 |cons x xs=>
  have:(x::xs).length+ys.length<=1000000:=by omega
  have:xs.length+1+ys.length<=1000000:=by simp at this;omega
  simp[cC,kX,lim,this]
section
variable{H:Hs}{xs:zo}
theorem uP (ns:zo):bG dU (ns.map Dv.int)=some ns:=by
 induction ns with
 |nil=>rfl
 |cons x xs ih=>simp[bG,dU,ih]
theorem NU {n:Int}:∀{ds:zu},ds.all (L2.Mr.Com.tB n)=true->∃ns:zo,ds=ns.map Dv.int/\∀x∈ns,0<=x/\x<n
 | [],_=>⟨[],rfl,λ_ z=>nomatch z⟩
 |d::ds,h=>by
  rw[List.all_cons,cw]at h;obtain⟨ns,rfl,h2⟩:=NU h.2
  cases d with
  |int i=>
   have h1:=h.1;simp only[L2.Mr.Com.tB,rP,cw,decide_eq_true_eq]at h1;refine⟨i::ns,rfl,λx hx=>?_⟩
   rcases aw.mp hx with rfl|hx
   ·omega
   ·exact h2 x hx
  |_=>simp[L2.Mr.Com.tB,rP]at h
theorem z2q {n:Int}{ns:zo}(h:∀x∈ns,0<=x/\x<n):(ns.map Dv.int).all (L2.Mr.Com.tB n)=true:=by rw[dz];intro d hd;obtain⟨x,hx,rfl⟩:=bo.mp hd;have:=h x hx;simp only[L2.Mr.Com.tB,rP,cw,decide_eq_true_eq];omega
theorem yV {m:M Dv}{ρ:Ev}{H:Hs}{L:Int}(e:m ρ H=.ok (.int L) H) (h0:0<=L) (h1:L<=1000):aQ cP (aB m aC) ρ H=.ok (dC 0 L) H:=by
 have hr:gY L=true:=by simp[gY];omega
 simp[aQ,aB,e,aC,cP,hr]
theorem z2r {ds:zu}{i:Nat}{ρ:Ev}(e:aA i ρ H=.ok (.tup ds) H):aD (f1 eZ) (aB (aA i) aC) ρ H=.ok (.int ds.length) H:=by simp[aD,aB,e,aC,f1,eZ,fX,iH,fJ]
theorem EN {α:Type}(p:α->Bool) (f:α->Dv) (l:List α):(l.filterMap λq=>if p q then some (f q)else none)=(l.filter p).map f:=by
 induction l with
 |nil=>rfl
 |cons k l ih=>
  rw[cq,jv]
  cases c:p k with
  |true=>simp only[if_true,df];rw[ih]
  |false=>simp only[cu,if_false];exact ih
theorem z2s (neg:Bool) (x:Int) {i:Nat}(e:getL H i=some (xs.map Dv.int)):cN neg (.int x) (.ref i) H=.ok (.bl (if neg then !decide (x∈xs)else decide (x∈xs))) H:=by
 have e':(xs.map Dt.int).any (λt=>bM t (.int x))=decide (x∈xs):=by
  rw[ed];simp only[uu,jt,wg,decide_eq_true_eq];constructor
  ·rintro ⟨q,hq,h⟩
   have:q=x:=by simpa[bM]using h
   rw[<-this];exact hq
  ·intro h;exact⟨x,h,by simp[bM]⟩
 have h1:bG (bU cH H) (xs.map Dv.int)=some (xs.map Dt.int):=rB 29 H xs;have h2:bU cH H (.int x)=some (.int x):=rfl;show jQ [] neg (.int x) (.ref i) H=_;simp only[jQ,fJ,e,h1,h2,e']
theorem rQ {m:M Dv}{ρ ρ1:Ev}{i:Nat}{H H':Hs}{v:Dv}(e:m ρ H=.ok v H') (hs:aF i v ρ=some ρ1):aM m (aF i) ρ H=.nx ρ1 H':=by simp[aM,e,hs]
theorem EO {m:M zu }{ρ:Ev}{i:Nat}{H H':Hs}{ds:zu}{ρ1:Ev}(e:m ρ H=.ok ds H') (hs:aF i (.ref H'.length) ρ=some ρ1):aM (bH m) (aF i) ρ H=.nx ρ1 (H'++[.lst ds]):=by
 have ea:bH m ρ H=.ok (.ref H'.length) (H'++[.lst ds]):=by unfold bH;rw[e];rfl
 exact rQ ea hs
theorem gS {f:Dv->Dv->Hs->Rs Dv}{ma mb:M Dv}{ρ:Ev}{H H1 H2 H3:Hs}{x y z:Dv}(ha:ma ρ H=.ok x H1) (hb:mb ρ H1=.ok y H2) (hf:f x y H2=.ok z H3):m2 f ma mb ρ H=.ok z H3:=by unfold m2;rw[ha,Rs.bind_ok,hb,Rs.bind_ok,hf]
end
end L2.Mr.Gen
namespace L2.Mr.K05
open PySem PySem.Spec PyProof.Rows L2 L2.Mr L2.Mr.Com L2.Mr.Gen
theorem need_ok {n:Nat}{ps:y'}{H:Hs}(o:Aa n ps):F_qq [aH n ps] H=.ok .non H:=Cod.need_ok o
theorem loose_is {n:Nat}{ps:y'}{H:Hs}{a b:Int}:F_qt [aH n ps,.int a,.int b] H=.ok (.bl (decide (Cod.Lse ps a b))) H:=Cod.loose_is
def ix (ns:zo) (k:Int):Nat:=(dW k ns).getD 0
theorem pos_mem {k:Int}:∀{ns:zo},k∈ns->dW k ns=some (ix ns k)
 | [],h=>nomatch h
 |n::ns,h=>by
  unfold ix dW
  by_cases c:n=k
  ·rw[if_pos c];rfl
  ·rw[if_neg c];have hm:k∈ns:=(aw.mp h).elim (λz=>absurd z.symm c) id;rw[pos_mem hm];rfl
theorem mZ {k:Int}{ns:zo}(h:k∈ns):ix ns k<ns.length:=(bg.mp (rA (pos_mem h)).1).1
theorem pR {a b:Int}{ns:zo}(ha:a∈ns) (hb:b∈ns) (e:ix ns a=ix ns b):a=b:=by have h1:=(rA (pos_mem ha)).1;have h2:=(rA (pos_mem hb)).1;rw[e,h2]at h1;exact(cx h1).symm
theorem kM {ns ms:zo}{k:Int}(h:k∈ns):ix (ns++ms) k=ix ns k:=by
 have key:∀{ns:zo},k∈ns->dW k (ns++ms)=dW k ns:=by
  intro ns
  induction ns with
  |nil=>intro h;cases h
  |cons x xs ih=>
   intro h;show dW k (x::(xs++ms))=_;unfold dW
   by_cases c:x=k
   ·rw[if_pos c,if_pos c]
   ·rw[if_neg c,if_neg c,ih ((aw.mp h).elim (λz=>absurd z.symm c) id)]
 unfold ix;rw[key h]
theorem uQ {ns:zo}{k:Int}(h:k∉ns):ix (ns++[k]) k=ns.length:=by
 have key:∀{ns:zo},k∉ns->dW k (ns++[k])=some ns.length:=by
  intro ns
  induction ns with
  |nil=>intro _;show dW k [k]=some 0;unfold dW;rw[if_pos rfl]
  |cons x xs ih=>intro h;show dW k (x::(xs++[k]))=_;unfold dW;rw[if_neg (λz=>h (by rw[z];exact ax ..)),ih (λz=>h (ao _ z))];rfl
 unfold ix;rw[key h];rfl
section
variable{n:Nat}{ps:y'}{H:Hs}{ns:zo}{ρ:Ev}
theorem pS {a:Nat}{me:M Dv}{k:Int}(h1:aA a ρ=λH=>.ok (.tup (ns.map Dv.int)) H) (h2:me ρ H=.ok (.int k) H) (hk:k∈ns):hJ (aA a) me ρ H=.ok (.int (ix ns k)) H:=by simp[hJ,h1,JM,h2,BK,uP,pos_mem hk]
theorem Ba {x:Int}:x∈cX n↔0<=x/\x<n:=by
 unfold cX;rw[bo];constructor
 ·rintro ⟨k,hk,rfl⟩
  have:=bu.mp hk;omega
 ·intro h;exact⟨x.toNat,bu.mpr (by omega),by omega⟩
theorem rng_up:(cX n).Pairwise (·<·):=by unfold cX;exact qo.mpr ((nh).imp λh=>by omega)
theorem pT:(cX n).Nodup:=rng_up.imp λh=>by omega
theorem lW (hr:∀x∈ns,0<=x/\x<n) (nd:ns.Nodup) (hl:ns.length=n) {x:Int}(h0:0<=x) (h1:x<n):x∈ns:=by
 by_cases c:x∈ns
 ·exact c
 ·exfalso
  have nd':(x::ns).Nodup:=iq.mpr ⟨c,nd⟩;have:=nd'.length_le_of_subset (l₂:=cX n) λy hy=>by
   rcases aw.mp hy with rfl|hy
   ·exact Ba.mpr ⟨h0,h1⟩
   ·exact Ba.mpr (hr y hy)
  simp[cX]at this;omega
def rowP (n:Nat) (ps:y') (ns:zo):Bool:=decide (ns.length=n)&&decide ns.Nodup&&ps.all λq=>decide (ix ns q.1<ix ns q.2)
def iZ (n:Nat) (ps:y') (d:Dv):Bool:=match d with
 | .tup ds=>pQ n d&&(match bG dU ds with
  |some ns=>rowP n ps ns
  |none=>false)
 |_=>false
theorem rowB_ints (hr:∀x∈ns,0<=x/\x<n):iZ n ps (.tup (ns.map Dv.int))=rowP n ps ns:=by have:pQ n (.tup (ns.map Dv.int))=true:=z2q hr;simp[iZ,this,uP]
def rC:M Bool:=eH (dY (cD (aD F_qm (aB (aA 2) (aB (aA 1) aC))))) (eH (mB (m2 cJ (aD (f1 eZ) (aB (aA 1) aC)) (aA 2))) (mB (m2 cJ (aD (f1 lM) (aB (aA 1) aC)) (aA 2))))
def rL:M zu :=aX (aW dF (aA 3)) [none,none,some 1] (bN 2 (aO (aF 0) (aO (aF 1) bP))) bR (aU (m2 eI (hJ (aA 2) (aA 0)) (hJ (aA 2) (aA 1))))
theorem NV:rJ=aJ (bJ (aD F_qq (aB (aA 0) aC))) (aJ (aM (aA 0) (bN 2 (aO (aF 2) (aO (aF 3) bP)))) (aJ (bQ rC (aN (mC (.bl false))) bW) (aN (mL iS rL)))):=rfl
abbrev iO (n:Nat) (ps:y') (d:Dv):Ev:=[some (aH n ps),some d,some (.int n),some (.tup (ps.map aG))]
theorem z2t (o:Aa n ps) (hm:∀x:Int,0<=x->x<n->x∈ns):mL iS rL (iO n ps (.tup (ns.map Dv.int))) H=.ok (.bl (ps.all λq=>decide (ix ns q.1<ix ns q.2))) H:=by
 refine uI (H1:=H) (xs:=ps) (f:=λq=>decide (ix ns q.1<ix ns q.2)) ?_;refine gQ ps _ (λρ=>∃a b,ρ=[a,b,some (.tup (ns.map Dv.int))]) (src:=dD (ps.map aG)) rfl (by simp[dD]) ⟨_,_,rfl⟩ rfl (λk hk ρ ⟨a,b,e⟩=>by
  subst e;refine⟨aG ps[k],[some (.int ps[k].1),some (.int ps[k].2),some (.tup (ns.map Dv.int))],by simp[dD,hk],rfl,⟨_,_,rfl⟩,rfl, ?_⟩;have r:=o.rng ps[k] (fe hk);have i1:=pS (H:=H) (ns:=ns) (a:=2) (me:=aA 0) (ρ:=[some (.int ps[k].1),some (.int ps[k].2),some (.tup (ns.map Dv.int))]) rfl rfl (hm _ r.1 r.2.1);have i2:=pS (H:=H) (ns:=ns) (a:=2) (me:=aA 1) (ρ:=[some (.int ps[k].1),some (.int ps[k].2),some (.tup (ns.map Dv.int))]) rfl rfl (hm _ r.2.2.1 r.2.2.2);have hd:decide ((ix ns ps[k].1:Int)<(ix ns ps[k].2:Int))=decide (ix ns ps[k].1<ix ns ps[k].2):=by rw[ed];simp
  have hl:eI (.int (ix ns ps[k].1:Int)) (.int (ix ns ps[k].2:Int)) H=.ok (.bl (decide (ix ns ps[k].1<ix ns ps[k].2))) H:=by simp only[eI,hd]
  exact gS i1 i2 hl) (by have:=o.len;omega)
theorem isrow_any (o:Aa n ps) {d:Dv}(h:TK 1 H d):F_qB [aH n ps,d] H=.ok (.bl (iZ n ps d)) H:=by
 have hn:=need_ok (H:=H) o;have ha:=z2o (n:=(n:Int)) h;have w1:bJ (aD F_qq (aB (aA 0) aC)) [some (aH n ps),some d,none,none] H=.nx [some (aH n ps),some d,none,none] H:=by generalize aH n ps=z at hn;simp[bJ,aD,aB,aA,aC,hn]
 have w2:aM (aA 0) (bN 2 (aO (aF 2) (aO (aF 3) bP))) [some (aH n ps),some d,none,none] H=.nx (iO n ps d) H:=rfl;have t1:cD (aD F_qm (aB (aA 2) (aB (aA 1) aC))) (iO n ps d) H=.ok (pQ n d) H:=by generalize aH n ps=z;simp[iO,cD,aD,aB,aA,aC,ha,kD]
 have stop:rC (iO n ps d) H=.ok true H->iZ n ps d=false->F_qB [aH n ps,d] H=.ok (.bl (iZ n ps d)) H:=λe z=>by show bO (rJ [some (aH n ps),some d,none,none] H)=_;rw[NV,bK w1,bK w2,z];unfold aJ;rw[tO e];rfl
 cases ht:pQ n d with
 |false=>
  rw[ht]at t1;refine stop (NS (uO t1)) ?_
  cases d with
  |tup ds=>simp[iZ,ht]
  |_=>rfl
 |true=>
  rw[ht]at t1
  cases d with
  |tup ds=>
   obtain⟨hl,_⟩:=h.2 ds rfl;obtain⟨ns,rfl,hr⟩:=NU (show ds.all (Com.tB n)=true from ht);have hl':ns.length<=500:=by simpa using hl
   have hB:=rowB_ints (ps:=ps) hr;have sl:lM (.tup (ns.map Dv.int)) H=.ok (.int (lL ns)) H:=by
    have:ns.length<1000:=by omega
    simp[lM,uP,this]
   have hm:=k6 ns;have ne:∀a b:Nat,cJ (.int (a:Int)) (.int (b:Int)) H=.ok (.bl (!decide (a=b))) H:=λa b=>by
    have:((a:Int)==(b:Int))=decide (a=b):=by rw[ed];simp;omega
    simp[cJ,cH,bU,bM,this]
   have t2:mB (m2 cJ (aD (f1 eZ) (aB (aA 1) aC)) (aA 2)) (iO n ps (.tup (ns.map Dv.int))) H=.ok (!decide (ns.length=n)) H:=by
    have e:=z2r (H:=H) (ds:=ns.map Dv.int) (i:=1) (ρ:=iO n ps (.tup (ns.map Dv.int))) rfl;have hz:(ns.map Dv.int).length=ns.length:=by simp
    rw[hz]at e;have q:=ne ns.length n;have v2:aA 2 (iO n ps (.tup (ns.map Dv.int))) H=.ok (.int n) H:=rfl;generalize aD (f1 eZ) (aB (aA 1) aC)=M at e;generalize iO n ps (.tup (ns.map Dv.int))=r at e v2;simp[mB,m2,e,v2,q,eR]
   have t3:mB (m2 cJ (aD (f1 lM) (aB (aA 1) aC)) (aA 2)) (iO n ps (.tup (ns.map Dv.int))) H=.ok (!decide (lL ns=n)) H:=by
    have e:aD (f1 lM) (aB (aA 1) aC) (iO n ps (.tup (ns.map Dv.int))) H=.ok (.int (lL ns)) H:=by generalize aH n ps=z;generalize ns.map Dv.int=ys at sl;simp[iO,aD,aB,aA,aC,f1,sl]
    have q:=ne (lL ns) n;have v2:aA 2 (iO n ps (.tup (ns.map Dv.int))) H=.ok (.int n) H:=rfl;generalize aD (f1 lM) (aB (aA 1) aC)=M at e;generalize iO n ps (.tup (ns.map Dv.int))=r at e v2;simp[mB,m2,e,v2,q,eR]
   by_cases c:ns.length=n/\ns.Nodup
   ·have c1:(!decide (ns.length=n))=false:=by simp[c.1]
    have c2:(!decide (lL ns=n))=false:=by have:=hm.mpr c.2;simp;omega
    rw[c1]at t2;rw[c2]at t3;have e:rC (iO n ps (.tup (ns.map Dv.int))) H=.ok false H:=by unfold rC;rw[mY (uO t1),mY t2,t3]
    have Bw:=z2t (H:=H) o (λx h0 h1=>lW hr c.2 c.1 h0 h1);show bO (rJ [some (aH n ps),some (.tup (ns.map Dv.int)),none,none] H)=_;rw[NV,bK w1,bK w2,bK (m:=bQ _ _ _) (by rw[kJ e];rfl),hB];unfold aN;rw[Bw];simp[rowP,c.1,c.2,bO]
   ·refine stop ?_ ?_
    ·unfold rC;rw[mY (uO t1)]
     by_cases c1:ns.length=n
     ·have c1':(!decide (ns.length=n))=false:=by simp[c1]
      rw[c1']at t2;rw[mY t2,t3];have:lL ns≠n:=λz=>c ⟨c1,hm.mp (by omega)⟩;simp[this]
     ·have c1':(!decide (ns.length=n))=true:=by simp[c1]
      rw[c1']at t2;exact NS t2
    ·rw[hB];unfold rowP
     by_cases c1:ns.length=n
     ·have c3:¬ ns.Nodup:=λz=>c ⟨c1,z⟩;simp[c3]
     ·simp[c1]
  |_=>cases ht
end
section
variable{n:Nat}{ps:y'}{H:Hs}{ns:zo}
end
open L2.Mr.Cod (bT iY iN Ag Lse)
section
variable{n:Nat}{ps:y'}{H:Hs}{ns:zo}
def lX (ps:y') (a j:Nat):zv:=if decide (Lse ps a ((a:Int)+1+j))then some (aG ((a:Int),(a:Int)+1+j))else none
theorem NW (a:Nat):∀k,(ay k).filterMap (lX ps a)=(iN ps a k).map aG
 |0=>rfl
 |k+1=>by
  rw[sj,List.filterMap_append,NW a k,iN,gg]
  congr 1
  show(List.filterMap (lX ps a) [k])=_;have ne:(a:Int)≠(a:Int)+1+k:=by omega
  by_cases c1:((a:Int),(a:Int)+1+(k:Int))∈ps
  ·simp[lX,Lse,c1]
  ·by_cases c2:((a:Int)+1+(k:Int),(a:Int))∈ps
   ·simp[lX,Lse,c1,c2]
   ·have:Lse ps a ((a:Int)+1+k):=⟨ne,c1,c2⟩
    simp[lX,this,c1,c2]
theorem NX:∀k,(ay k).flatMap (λa=>(ay (n - (a+1))).filterMap (lX ps a))=(iY n ps k).map aG
 |0=>rfl
 |k+1=>by rw[sj,zl,NX k,iY,gg];simp[NW]
theorem ER (hn:n<=6):(bT n ps).length<=36:=by
 have hB:∀k,(iY n ps k).length<=k*6:=by
  intro k
  induction k with
  |zero=>exact ak _
  |succ k ih=>rw[iY,bw];have:=Cod.looseB_len ps k (n - (k+1));omega
 have:=hB n;unfold bT;omega
def ES:M zu :=aX (aQ cP (aB (aA 1) aC)) [none,none,some 0,some 1] (aF 0) bR (fR (aQ hY (aB (m2 cC (aA 0) (mC (.int 1))) (aB (aA 3) aC))) (aF 1) (cD (aD F_qt (aB (aA 2) (aB (aA 0) (aB (aA 1) aC))))) (aU (aV (aB (aA 0) (aB (aA 1) aC)))))
theorem z2u:pJ=aJ (bJ (aD F_qq (aB (aA 0) aC))) (aJ (aM (m2 aS (aA 0) (mC (.int 0))) (aF 1)) (aN (bH ES))):=rfl
theorem z2v {F:zt}{a b c:Dv}{ρ:Ev}{v:Bool}(ha:aA 2 ρ=λH=>.ok a H) (hb:aA 0 ρ=λH=>.ok b H) (hc:aA 1 ρ=λH=>.ok c H) (e:F [a,b,c] H=.ok (.bl v) H):cD (aD F (aB (aA 2) (aB (aA 0) (aB (aA 1) aC)))) ρ H=.ok v H:=by simp[cD,aD,aB,ha,hb,hc,aC,e,kD]
theorem rng2M {ma mb:M Dv}{ρ:Ev}{A B:Int}(ea:ma ρ H=.ok (.int A) H) (eb:mb ρ H=.ok (.int B) H) (a0:0<=A) (a1:A<=1000) (b0:0<=B) (b1:B<=1000):aQ hY (aB ma (aB mb aC)) ρ H=.ok (dC A B) H:=by
 have h1:gY A=true:=by simp[gY];omega
 have h2:gY B=true:=by simp[gY];omega
 simp[aQ,aB,ea,eb,aC,hY,h1,h2]
theorem z2w (hn:n<=6):ES [some (aH n ps),some (.int n)] H=.ok ((bT n ps).map aG) H:=by
 have hr:=NX (n:=n) (ps:=ps) n;have hlen:((ay n).flatMap (λa=>(ay (n - (a+1))).filterMap (lX ps a))).length<=900000:=by rw[hr,ba];have:=ER (ps:=ps) hn;unfold bT at this;omega
 have w:ES [some (aH n ps),some (.int n)] H=.ok ((ay n).flatMap (λa=>(ay (n - (a+1))).filterMap (lX ps a))) H:=
  DZ (ay n) (λa=>ay (n - (a+1))) (lX ps) (λρ=>∃x y,ρ=[x,y,some (aH n ps),some (.int n)]) (src:=dC 0 n) (yV rfl (by omega) (by omega)) (by simp[dC]) ⟨_,_,rfl⟩ rfl (λk hk ρ ⟨x,y,e⟩=>by
   subst e;have hk':k<n:=by simpa using hk
   have gk:(ay n)[k]=k:=mq ..;have h00:(0+(k:Int))=(k:Int):=by omega
   refine⟨.int (0+k),[some (.int (0+k)),y,some (aH n ps),some (.int n)],dC ((k:Int)+1) n,λρ=>∃y,ρ=[some (.int (k:Int)),y,some (aH n ps),some (.int n)],rfl,rfl,⟨y,by rw[h00]⟩,λρ ⟨y,e⟩=>⟨_,y,e⟩, ?_, ?_,rfl, ?_⟩
   ·rw[h00];exact rng2M (A:=(k:Int)+1) (B:=(n:Int)) rfl rfl (by omega) (by omega) (by omega) (by omega)
   ·rw[gk];simp[dC];omega
   ·intro j hj ρ ⟨y,e⟩;subst e;have gj:(ay (n - ((ay n)[k]+1)))[j]=j:=mq ..;refine⟨.int ((k:Int)+1+j),[some (.int (k:Int)),some (.int ((k:Int)+1+j)),some (aH n ps),some (.int n)],rfl,rfl,⟨_,rfl⟩, ?_⟩;have t:=z2v (ρ:=[some (.int (k:Int)),some (.int ((k:Int)+1+j)),some (aH n ps),some (.int n)]) rfl rfl rfl (loose_is (n:=n) (ps:=ps) (H:=H) (a:=(k:Int)) (b:=(k:Int)+1+j));rw[gj,gk];unfold lX
    cases c:decide (Lse ps (k:Int) ((k:Int)+1+j))with
    |true=>rw[c]at t;exact⟨t,rfl⟩
    |false=>rw[c]at t;exact t) hlen
 rw[hr]at w;exact w
theorem lpairs_ok (o:Aa n ps):F_qi [aH n ps] H=.ok (.ref H.length) (H++[.lst ((bT n ps).map aG)]):=by
 have hn:=need_ok (H:=H) o;have w1:bJ (aD F_qq (aB (aA 0) aC)) [some (aH n ps),none] H=.nx [some (aH n ps),none] H:=by generalize aH n ps=z at hn;simp[bJ,aD,aB,aA,aC,hn]
 have w2:aM (m2 aS (aA 0) (mC (.int 0))) (aF 1) [some (aH n ps),none] H=.nx [some (aH n ps),some (.int n)] H:=rfl;show bO (pJ [some (aH n ps),none] H)=_;rw[z2u,bK w1,bK w2];unfold aN bH;rw[z2w o.n6];rfl
def dX (ns:zo) (q:Int×Int):Int:=if(ix ns q.1:Int) - ix ns q.2<0 then -((ix ns q.1:Int) - ix ns q.2)else(ix ns q.1:Int) - ix ns q.2
theorem yW (q:Int×Int):0<=dX ns q:=by unfold dX;split <;> omega
theorem z2x {ma mb:M Dv}{ρ:Ev}{A B:Int}(ea:ma ρ H=.ok (.int A) H) (eb:mb ρ H=.ok (.int B) H):aD (f1 nQ) (aB (m2 eY ma mb) aC) ρ H=.ok (.int (if A - B<0 then -(A - B)else A - B)) H:=by have hs:eY (.int A) (.int B) H=.ok (.int (A - B)) H:=rfl;have e:=gS ea eb hs;generalize A - B=C at e;generalize m2 eY ma mb=M at e;simp[aD,aB,e,aC,f1,nQ]
theorem z2y {a:Nat}{m0 m1:M Dv}{ρ:Ev}{q:Int×Int}(h1:aA a ρ=λH=>.ok (.tup (ns.map Dv.int)) H) (e0:m0 ρ H=.ok (.int q.1) H) (e1:m1 ρ H=.ok (.int q.2) H) (k0:q.1∈ns) (k1:q.2∈ns):aD (f1 nQ) (aB (m2 eY (hJ (aA a) m0) (hJ (aA a) m1)) aC) ρ H=.ok (.int (dX ns q)) H:=z2x (pS h1 e0 k0) (pS h1 e1 k1)
theorem z2z {q:Int×Int}(k0:q.1∈ns) (k1:q.2∈ns):F_qD [.tup (ns.map Dv.int),aG q] H=.ok (.int (dX ns q)) H:=by have e:=z2y (H:=H) (ns:=ns) (a:=0) (m0:=m2 aS (aA 1) (mC (.int 0))) (m1:=m2 aS (aA 1) (mC (.int 1))) (ρ:=[some (.tup (ns.map Dv.int)),some (aG q)]) (q:=q) rfl rfl rfl k0 k1;show bO (pM [some (.tup (ns.map Dv.int)),some (aG q)] H)=_;unfold pM aN;rw[e];rfl
def cM (n:Nat) (ps:y') (ns:zo):Int:=if(bT n ps).map (dX ns)=[]then 0 else nX ((bT n ps).map (dX ns))
def uR:M zu :=aX (aW bY (aA 1)) [none,some 0] (aF 0) bR (aU (aD F_qD (aB (aA 1) (aB (aA 0) aC))))
theorem z30:pN=aN (m1 (pH 0) (bH uR)):=rfl
theorem NY {F:zt}{a b v:Dv}{x y:Nat}{ρ:Ev}(ha:aA x ρ=λH=>.ok a H) (hb:aA y ρ=λH=>.ok b H) (e:F [a,b] H=.ok v H):aD F (aB (aA x) (aB (aA y) aC)) ρ H=.ok v H:=by simp[aD,aB,ha,hb,aC,e]
theorem z31 {i:Nat}(g:getL H i=some ((bT n ps).map aG)) (hn:n<=6) (hm:∀x:Int,0<=x->x<n->x∈ns):uR [some (.tup (ns.map Dv.int)),some (.ref i)] H=.ok (((bT n ps).map (dX ns)).map Dv.int) H:=by have w:uR [some (.tup (ns.map Dv.int)),some (.ref i)] H=.ok ((bT n ps).filterMap λq=>some (.int (dX ns q))) H:=gQ (bT n ps) (λq=>some (.int (dX ns q))) (λρ=>∃a,ρ=[a,some (.tup (ns.map Dv.int))]) (src:=cO i ((bT n ps).map aG).length) (by simp[aW,aA,bY,g]) (by simp[cO]) ⟨_,rfl⟩ (by simp[cO,g]) (λk hk ρ ⟨a,e⟩=>by subst e;refine⟨aG (bT n ps)[k],[some (aG (bT n ps)[k]),some (.tup (ns.map Dv.int))],by simp[cO,g,hk],rfl,⟨_,rfl⟩,rfl, ?_⟩;have r:=Ag.mp (fe hk);exact NY rfl rfl (z2z (hm _ r.1 (by omega)) (hm _ (by omega) (by omega)))) (by have:=ER (ps:=ps) hn;omega);rw[w,gw];simp[yx]
theorem ga_ok {i:Nat}(g:getL H i=some ((bT n ps).map aG)) (hn:n<=6) (hm:∀x:Int,0<=x->x<n->x∈ns):∃H',F_qc [.tup (ns.map Dv.int),.ref i] H=.ok (.int (cM n ps ns)) H'/\Fr [] H H':=by
 have e:=z31 (H:=H) g hn hm;have ea:bH uR [some (.tup (ns.map Dv.int)),some (.ref i)] H=.ok (.ref H.length) (H++[.lst (((bT n ps).map (dX ns)).map Dv.int)]):=by unfold bH;rw[e];rfl
 have g2:getL (H++[Ob.lst (((bT n ps).map (dX ns)).map Dv.int)]) H.length=some (((bT n ps).map (dX ns)).map Dv.int):=Cod.last_get;have f:Fr [] H (H++[Ob.lst (((bT n ps).map (dX ns)).map Dv.int)]):=Fr.app;unfold cM;generalize (bT n ps).map (dX ns)=L at ea g2 f;generalize H++[Ob.lst (L.map Dv.int)]=H1 at ea g2 f;refine⟨H1, ?_,f⟩;show bO (pN [some (.tup (ns.map Dv.int)),some (.ref i)] H)=_;rw[z30];generalize bH uR=M at ea;generalize ns.map Dv.int=ys at ea;simp[aN,m1,ea,pH,g2,uP,bO]
theorem need_row_ok (o:Aa n ps) {d:Dv}(h:TK 1 H d):F_q5 [aH n ps,d] H=if iZ n ps d then .ok .non H else .ex 5 H:=by
 have e:=isrow_any o h;have t:dY (cD (aD F_qB (aB (aA 0) (aB (aA 1) aC)))) [some (aH n ps),some d] H=.ok (!iZ n ps d) H:=by refine uO ?_;have:=NY (F:=F_qB) (x:=0) (y:=1) (ρ:=[some (aH n ps),some d]) rfl rfl e;unfold cD;rw[this];rfl
 show bO (tX [some (aH n ps),some d] H)=_;unfold tX
 cases hb:iZ n ps d with
 |true=>rw[hb]at t;rw[kJ t];rfl
 |false=>rw[hb]at t;rw[tO t];rfl
theorem z32 (hr:∀x∈ns,0<=x/\x<n) (hb:iZ n ps (.tup (ns.map Dv.int))=true):∀x:Int,0<=x->x<n->x∈ns:=λx h0 h1=>by rw[rowB_ints hr]at hb;unfold rowP at hb;simp only[cw,decide_eq_true_eq]at hb;exact lW hr hb.1.2 hb.1.1 h0 h1
theorem z33 {F:zt}{a b v:Dv}{ρ:Ev}(ha:aA 0 ρ=λH=>.ok a H) (hb:aA 1 ρ=λH=>.ok b H) (e:F [a,b] H=.ok v H):bJ (aD F (aB (aA 0) (aB (aA 1) aC))) ρ H=.nx ρ H:=by simp[bJ,aD,aB,ha,hb,aC,e]
theorem z34 {F G:zt}{a b c v:Dv}{ρ:Ev}{H1 H2:Hs}(ha:aA 0 ρ=λH=>.ok a H) (hb:aA 1 ρ=λH=>.ok b H) (e:G [a] H=.ok c H1) (e2:F [b,c] H1=.ok v H2):bO (aN (aD F (aB (aA 1) (aB (aD G (aB (aA 0) aC)) aC))) ρ H)=.ok v H2:=by simp[aN,aD,aB,ha,hb,aC,e,e2,bO]
theorem span_T (o:Aa n ps) (h:TK 1 H (.tup (ns.map Dv.int))) (hr:∀x∈ns,0<=x/\x<n) (hb:iZ n ps (.tup (ns.map Dv.int))=true):∃H',F_q8 [aH n ps,.tup (ns.map Dv.int)] H=.ok (.int (cM n ps ns)) H'/\Fr [] H H':=by have e1:=need_row_ok o h;rw[hb]at e1;have e2:=lpairs_ok (H:=H) o;have g:getL (H++[Ob.lst ((bT n ps).map aG)]) H.length=some ((bT n ps).map aG):=Cod.last_get;have f:Fr [] H (H++[Ob.lst ((bT n ps).map aG)]):=Fr.app;generalize H++[Ob.lst ((bT n ps).map aG)]=H1 at e2 g f;obtain⟨H2,e3,f3⟩:=ga_ok g o.n6 (z32 hr hb);refine⟨H2, ?_,f.trans f3 (by simp)⟩;show bO (tY [some (aH n ps),some (.tup (ns.map Dv.int))] H)=_;unfold tY;rw[bK (z33 (F:=F_q5) rfl rfl e1)];exact z34 rfl rfl e2 e3
end
section
variable{n:Nat}{ps:y'}{H:Hs}{ns:zo}
theorem eq_int (a b:Int):cI (.int a) (.int b) H=.ok (.bl (decide (a=b))) H:=by
 have:(a==b)=decide (a=b):=by rw[ed];simp
 simp[cI,cH,bU,bM,this]
end
theorem NZ {α:Type}{p q:α->Bool}:∀{l:List α},(∀x∈l,p x=true->q x=true)->(∃a∈l,q a=true/\p a=false)->(l.filter p).length<(l.filter q).length
 | [],_,⟨_,h,_⟩=>nomatch h
 |x::l,h,⟨a,ha,hq,hp⟩=>by
  have le:(l.filter p).length<=(l.filter q).length:=by
   clear hq hp ha
   have h':∀x∈l,p x=true->q x=true:=λy hy=>h y (ao _ hy)
   clear h
   induction l with
   |nil=>exact ak _
   |cons y l ih=>
    have i:=ih λz hz=>h' z (ao _ hz);have hy:=h' y (ax ..);rw[jv,jv]
    cases c:p y with
    |true=>rw[hy c];simpa using i
    |false=>
     cases c2:q y with
     |true=>simp;omega
     |false=>simpa using i
  rw[jv,jv]
  rcases aw.mp ha with rfl|ha
  ·rw[hq,hp];simp;omega
  ·have i:=NZ (l:=l) (λy hy=>h y (ao _ hy)) ⟨a,ha,hq,hp⟩;have hx:=h x (ax ..)
   cases c:p x with
   |true=>rw[hx c];simpa using i
   |false=>
    cases c2:q x with
    |true=>simp;omega
    |false=>simpa using i
section
variable{n st:Nat}{ps:y'}{H:Hs}{xs:zo}
theorem ET (o:Aa n ps) {left:zo}:∀(m:Nat) (x:Int),x∈left->(left.filter λa=>decide ((a,x)∈ps)).length<=m->∃z∈left,∀a∈left,(a,z)∉ps
 |m,x,hx,hm=>by
  by_cases c:∃a∈left,(a,x)∈ps
  ·obtain⟨a,ha,hp⟩:=c;have lt:=NZ (l:=left) (p:=λb=>decide ((b,a)∈ps)) (q:=λb=>decide ((b,x)∈ps)) (λb _ hb=>by simp only[decide_eq_true_eq]at hb ⊢;exact o.tr _ hb _ hp rfl) ⟨a,ha,by simpa using hp,by simp;exact λz=>o.irr _ z rfl⟩
   match m,hm with
   |0,hm=>omega
   |m+1,hm=>exact ET o m a ha (by omega)
  ·exact⟨x,hx,λa ha hp=>c ⟨a,ha,hp⟩⟩
def hV (n:Nat) (xs:zo):zo:=(cX n).filter λx=>!decide (x∈xs)
end
open L2.Mr.Cod (last_get jI)
section
variable{st:Nat}{H:Hs}{ρ:Ev}{ds:zu}{a b:Nat}{y:Dv}
end
section
variable{c:Nat}(hc:c=0∨c=5) {H:Hs}{x0 x2 x3:zv}
include hc
end
section
variable{n m:Nat}{H H':Hs}{i j:Nat}
end
end L2.Mr.K05
namespace L2.Mr.Sam
open PySem PySem.Spec PyProof.Rows L2 L2.Mr L2.Mr.Gen
open L2.Mr.Com
section
variable{H:Hs}
end
end L2.Mr.Sam
namespace L2.Mr.K04
open PySem PySem.Spec PyProof.Rows L2 L2.Mr L2.Mr.Gen
open L2.Mr.Com
open L2.Mr.Sam
open L2.Mr.Cod (last_get jI)
open L2.Mr.K05 (ix hV kM uQ mZ pR Ba pT lW pS)
abbrev aT (r:zo):Dv:=.tup (r.map Dv.int)
def ext (n:Nat) (rs:zm):zm:=rs.flatMap λr=>(hV n r).map λx=>r++[x]
def iB (n:Nat):Nat->zm
 |0=>[[]]
 |k+1=>ext n (iB n k)
def wt (ps:y') (r:zo):zo:=(ps.filter λq=>!decide (q.1∈r)).map λq=>q.2
def gU (n:Nat) (ps:y') (r:zo):zo:=(cX n).filter λx=>!decide (x∈r)&&!decide (x∈wt ps r)
def kN (n:Nat) (ps:y') (rs:zm):zm:=rs.flatMap λr=>(gU n ps r).map λx=>r++[x]
def eW (n:Nat) (ps:y'):Nat->zm
 |0=>[[]]
 |k+1=>kN n ps (eW n ps k)
def jA (ps:y') (r:zo):Bool:=ps.all λq=>!decide (q.2∈r)||(decide (q.1∈r)&&decide (ix r q.1<ix r q.2))
section
variable{n:Nat}{ps:y'}{r:zo}
theorem Bn:jA ps r=true↔∀q∈ps,q.2∈r->q.1∈r/\ix r q.1<ix r q.2:=by
 unfold jA;rw[dz];refine forall_congr' λq=>forall_congr' λ_=>?_
 by_cases h:q.2∈r <;> simp[h]
theorem C' {x:Int}:x∈wt ps r↔∃q∈ps,q.1∉r/\q.2=x:=by simp only[wt,bo,cz,uy,decide_eq_false_iff_not,and_assoc]
theorem N0 (o:Aa n ps) {x:Int}(hx:x∉r):jA ps (r++[x])=(jA ps r&&!decide (x∈wt ps r)):=by
 rw[ed,cw,Bn,Bn,uy,decide_eq_false_iff_not,C'];constructor
 ·intro h;refine⟨λq hq h2=>?_, ?_⟩
  ·obtain⟨a,b⟩:=h q hq (fi _ h2);rw[kM h2]at b;have l2:=mZ h2
   rcases cm.mp a with a|a
   ·rw[kM a]at b;exact⟨a,b⟩
   ·simp only[cg]at a;rw[a,uQ hx]at b;omega
  ·rintro ⟨q,hq,h1,h2⟩
   obtain⟨a,_⟩:=h q hq (by rw[h2];simp)
   rcases cm.mp a with a|a
   ·exact h1 a
   ·simp only[cg]at a;exact o.irr q hq (a.trans h2.symm)
 ·rintro ⟨h,hw⟩ q hq h2
  rcases cm.mp h2 with h2|h2
  ·obtain⟨a,b⟩:=h q hq h2;exact⟨fi _ a,by rw[kM a,kM h2];exact b⟩
  ·simp only[cg]at h2;have a:q.1∈r:=Classical.byContradiction λh1=>hw ⟨q,hq,h1,h2⟩;exact⟨fi _ a,by rw[kM a,h2,uQ hx];exact mZ a⟩
theorem z35 (o:Aa n ps):((hV n r).map λx=>r++[x]).filter (jA ps)=if jA ps r then(gU n ps r).map λx=>r++[x]else[]:=by
 rw[List.filter_map];unfold hV gU;rw[List.filter_filter]
 cases c:jA ps r with
 |true=>
  rw[if_pos rfl]
  congr 1
  refine List.filter_congr λx _=>?_
  by_cases hx:x∈r
  ·simp[hx]
  ·simp[hx,N0 o hx,c]
 |false=>
  rw[if_neg (by decide)];have:((cX n).filter λx=>(jA ps∘λx=>r++[x]) x&&!decide (x∈r))=[]:=List.filter_eq_nil_iff.mpr λx _=>by
   by_cases hx:x∈r
   ·simp[hx]
   ·simp[hx,N0 o hx,c]
  rw[this];rfl
theorem z36 (o:Aa n ps) (rs:zm):(ext n rs).filter (jA ps)=kN n ps (rs.filter (jA ps)):=by
 induction rs with
 |nil=>rfl
 |cons r rs ih=>
  have h1:ext n (r::rs)=((hV n r).map λx=>r++[x])++ext n rs:=rfl;rw[h1,List.filter_append,ih,z35 o,jv]
  cases jA ps r with
  |true=>rfl
  |false=>rfl
theorem pU (o:Aa n ps):∀k,eW n ps k=(iB n k).filter (jA ps)
 |0=>by
  have:jA ps []=true:=Bn.mpr λq _ h=>by simp at h
  simp[eW,iB,this]
 |k+1=>by show kN n ps (eW n ps k)=(ext n (iB n k)).filter (jA ps);rw[pU o k,z36 o]
theorem Bf {x:Int}:x∈hV n r↔(0<=x/\x<n)/\x∉r:=by unfold hV;rw[cz,Ba];simp
theorem rR:∀k,∀r∈iB n k,r.length=k/\r.Nodup/\∀x∈r,0<=x/\x<n
 |0,r,h=>by simp[iB]at h;subst h;simp
 |k+1,r,h=>by
  simp only[iB,ext,ju,bo]at h;obtain⟨s,hs,x,hx,rfl⟩:=h;obtain⟨a,b,c⟩:=rR k s hs;rw[Bf]at hx;refine⟨by simp[a], ?_,λy hy=>?_⟩
  ·rw[kl];exact⟨b,by simp,λu hu v hv=>by simp only[cg]at hv;subst hv;intro e;exact hx.2 (e▸hu)⟩
  ·rcases cm.mp hy with hy|hy
   ·exact c y hy
   ·simp only[cg]at hy;subst hy;exact hx.1
theorem z37 (hn:n<=6):(hV n r).length<=6:=by have:=sv (λx=>!decide (x∈r)) (cX n);simp[cX]at this;unfold hV;simp[cX];omega
theorem z38 (hn:n<=6) (rs:zm):(ext n rs).length<=rs.length*6:=by
 induction rs with
 |nil=>simp[ext]
 |cons r rs ih=>have h1:ext n (r::rs)=((hV n r).map λx=>r++[x])++ext n rs:=rfl;have:=z37 (n:=n) (r:=r) hn;rw[h1,bw,ba,cy];omega
theorem N1 (hn:n<=6):∀k,(iB n k).length<=6 ^ k
 |0=>by simp[iB]
 |k+1=>by have h1:=z38 hn (iB n k);have h2:=N1 hn k;show(ext n (iB n k)).length<=_;rw[Nat.pow_succ];omega
theorem z39 (hn:n<=6) {k:Nat}(hk:k<=n):(iB n k).length<=46656:=dm (N1 hn k) (show 6 ^ k<=6 ^ 6 from zi (by decide) (by omega))
theorem rS (o:Aa n ps) {k:Nat}(hk:k<=n):(eW n ps k).length<=46656:=by rw[pU o];exact dm (sv _ _) (z39 o.n6 hk)
theorem EU (o:Aa n ps) {k:Nat}(h:r∈eW n ps k):r.length=k:=by rw[pU o]at h;exact(rR k r (cz.mp h).1).1
end
abbrev yX:M zu :=aX (aW dF (aA 3)) [none,none,some 1] (bN 2 (aO (aF 0) (aO (aF 1) bP))) (mB (m2 (cN true) (aA 0) (aA 2))) (aU (aA 1))
abbrev EV:M zu :=aX (aQ cP (aB (aA 2) aC)) [none,some 1,some 4] (aF 0) (mI (mB (m2 (cN true) (aA 0) (aA 1))) (mB (m2 (cN true) (aA 0) (aA 2)))) (aU (aA 0))
theorem z3a:pK=aJ (aM (aA 0) (bN 2 (aO (aF 2) (aO (aF 3) bP)))) (aJ (aM (bH yX) (aF 4)) (aN (bH EV))):=rfl
section
variable{n st:Nat}{ps:y'}{H:Hs}{ρ:Ev}{r:zo}
theorem z3b (o:Aa n ps) {x0 x2 x4:zv}:yX [x0,some (aT r),x2,some (.tup (ps.map aG)),x4] H=.ok ((wt ps r).map Dv.int) H:=by
 have w:yX [x0,some (aT r),x2,some (.tup (ps.map aG)),x4] H=.ok (ps.filterMap λq=>if !decide (q.1∈r)then some ((λq:Int×Int=>Dv.int q.2) q)else none) H:=
  gQ ps _ (λρ=>∃a b,ρ=[a,b,some (aT r)]) (src:=dD (ps.map aG)) rfl (by simp[dD]) ⟨_,_,rfl⟩ rfl (λk hk ρ ⟨a,b,e⟩=>by
   subst e;refine⟨aG ps[k],[some (.int ps[k].1),some (.int ps[k].2),some (aT r)],by simp[dD,hk],rfl,⟨_,_,rfl⟩, ?_⟩;have t2:cN true (.int ps[k].1) (aT r) H=.ok (.bl (!decide (ps[k].1∈r))) H:=BP true H ps[k].1 r;generalize aT r=ys at t2 ⊢
   cases c2:!decide (ps[k].1∈r)with
   |true=>rw[c2]at t2;simp[mB,m2,aA,t2,eR]
   |false=>rw[c2]at t2;simp[mB,m2,aA,t2,eR]) (by have:=o.len;omega)
 have:=w.trans (congrArg (λl=>Rs.ok l _) (EN _ _ _));unfold wt;rw[gw];exact this
theorem z3c (hn:n<=6) {x0 x3:zv}{i:Nat}{ws:zo}(g:getL H i=some (ws.map Dv.int)):EV [x0,some (aT r),some (.int n),x3,some (.ref i)] H=.ok (((cX n).filter λx=>!decide (x∈r)&&!decide (x∈ws)).map Dv.int) H:=by
 have w:EV [x0,some (aT r),some (.int n),x3,some (.ref i)] H=.ok ((cX n).filterMap λx=>if(!decide (x∈r)&&!decide (x∈ws))then some (Dv.int x)else none) H:=
  gQ (cX n) _ (λρ=>∃a,ρ=[a,some (aT r),some (.ref i)]) (src:=dC 0 n) (yV (m:=aA 2) rfl (by omega) (by omega)) (by simp[dC,cX]) ⟨_,rfl⟩ rfl (λk hk ρ ⟨a,e1⟩=>by
   subst e1;have gk:(cX n)[k]=(k:Int):=by simp[cX]
   refine⟨.int (0+k),[some (.int (0+k)),some (aT r),some (.ref i)],rfl,rfl,⟨_,rfl⟩, ?_⟩;have h00:(0+(k:Int))=(k:Int):=by omega
   rw[gk,h00];have t1:cN true (.int k) (aT r) H=.ok (.bl (!decide ((k:Int)∈r))) H:=BP true H (k:Int) r;have t2:cN true (.int k) (.ref i) H=.ok (.bl (!decide ((k:Int)∈ws))) H:=z2s true (k:Int) g;generalize aT r=ys at t1 ⊢
   cases c1:!decide ((k:Int)∈r)with
   |false=>rw[c1]at t1;simp[mI,mB,m2,aA,t1,eR]
   |true=>
    rw[c1]at t1
    cases c2:!decide ((k:Int)∈ws)with
    |true=>rw[c2]at t2;simp[mI,mB,m2,aA,t1,t2,eR]
    |false=>rw[c2]at t2;simp[mI,mB,m2,aA,t1,t2,eR]) (by simp[cX];omega)
 exact w.trans (congrArg (λl=>Rs.ok l _) (EN _ _ _))
theorem oI {C:M zu }{xs:zu}{H1:Hs}(e:C ρ H=.ok xs H1):bH C ρ H=.ok (.ref H1.length) (H1++[.lst xs]):=by unfold bH;rw[e];rfl
theorem pV {C:M zu }{xs:zu}{H1:Hs}(e:C ρ H=.ok xs H1):bO (aN (bH C) ρ H)=.ok (.ref H1.length) (H1++[.lst xs]):=by unfold aN;rw[oI e];rfl
theorem z3d (o:Aa n ps):∃i H',F_q3 [aH n ps,aT r] H=.ok (.ref i) H'/\getL H' i=some ((gU n ps r).map Dv.int)/\Fr [] H H':=by
 have e1:=z3b (H:=H) (r:=r) (x0:=some (aH n ps)) (x2:=some (.int n)) (x4:=none) o;obtain⟨H1,hH1⟩:∃H1,H1=H++[Ob.lst ((wt ps r).map Dv.int)]:=⟨_,rfl⟩
 have g1:getL H1 H.length=some ((wt ps r).map Dv.int):=by rw[hH1];exact last_get
 have f1:Fr [] H H1:=by rw[hH1];exact Fr.app
 have e2:=z3c (n:=n) (r:=r) (x0:=some (aH n ps)) (x3:=some (.tup (ps.map aG))) o.n6 g1;rw[show((cX n).filter λx=>!decide (x∈r)&&!decide (x∈wt ps r))=gU n ps r from rfl]at e2;refine⟨H1.length,H1++[Ob.lst ((gU n ps r).map Dv.int)], ?_,last_get,f1.trans (T:=[]) Fr.app (by simp)⟩;have w1:aM (aA 0) (bN 2 (aO (aF 2) (aO (aF 3) bP))) [some (aH n ps),some (aT r),none,none,none] H=.nx [some (aH n ps),some (aT r),some (.int n),some (.tup (ps.map aG)),none] H:=rfl;have w2:aM (bH yX) (aF 4) [some (aH n ps),some (aT r),some (.int n),some (.tup (ps.map aG)),none] H=.nx [some (aH n ps),some (aT r),some (.int n),some (.tup (ps.map aG)),some (.ref H.length)] H1:=by rw[hH1];exact EO e1 rfl
 show bO (pK [some (aH n ps),some (aT r),none,none,none] H)=_;rw[z3a,bK w1,bK w2];exact pV e2
abbrev yY:MC:=fR (aW bY (aD F_q3 (aB (aA 2) (aB (aA 0) aC)))) (aF 1) bR (aU (m2 cC (aA 0) (aV (aB (aA 1) aC))))
abbrev EW:M zu :=aX (aW bY (aA 1)) [none,none,some 0] (aF 0) bR yY
theorem z3e:pL=aJ (bJ (aD F_qq (aB (aA 0) aC))) (aJ (aM (dM (aB (aV aC) aC)) (aF 1)) (aJ (gC (aQ cP (aB (m2 aS (aA 0) (mC (.int 0))) aC)) (aF 2) (aM (bH EW) (aF 1))) (aN (aA 1)))):=rfl
theorem z3f {i j:Nat}{x:Int}(hr:r.length<=100) (h0:aA i ρ=λH=>.ok (aT r) H) (h1:aA j ρ=λH=>.ok (.int x) H):m2 cC (aA i) (aV (aB (aA j) aC)) ρ H=.ok (aT (r++[x])) H:=by
 have e2:aV (aB (aA j) aC) ρ H=.ok (.tup [.int x]) H:=by simp[aV,aB,h1,aC,lim]
 have a:=NT (r.map Dv.int) [.int x] (by simp;omega) (H:=H);have e3:=gS (ma:=aA i) (H1:=H) (x:=aT r) (by rw[h0]) e2 a;have hc:r.map Dv.int++[.int x]=(r++[x]).map Dv.int:=by simp
 rw[hc]at e3;exact e3
theorem z3g {F:zt}{a b:Dv}{x y i:Nat}{H1:Hs}{xs:zu}(ha:aA x ρ=λH=>.ok a H) (hb:aA y ρ=λH=>.ok b H) (e:F [a,b] H=.ok (.ref i) H1) (g:getL H1 i=some xs):aW bY (aD F (aB (aA x) (aB (aA y) aC))) ρ H=.ok (cO i xs.length) H1:=by simp[aW,aD,aB,ha,hb,aC,e,bY,g]
theorem z3h (o:Aa n ps) (hr:r.length<=100) {b:zv}{acc:zu}(hl:acc.length+((gU n ps r).map λx=>aT (r++[x])).length<=900000):∃b' H',yY [some (aT r),b,some (aH n ps)] H acc=.ok ([some (aT r),b',some (aH n ps)],acc++(gU n ps r).map λx=>aT (r++[x])) H'/\Fr [] H H':=by
 obtain⟨i,H1,e1,g1,f1⟩:=z3d (H:=H) (r:=r) o;have fm:∀l:zo,(l.flatMap λx=>[aT (r++[x])])=l.map λx=>aT (r++[x]):=λl=>by
  induction l with
  |nil=>rfl
  |cons x l ih=>rw[gn,ih];rfl
 have es:=z3g (F:=F_q3) (ρ:=[some (aT r),b,some (aH n ps)]) (x:=2) (y:=0) rfl rfl e1 g1;obtain⟨ρ',H',e,⟨b',eb⟩,eh⟩:=uH (src:=cO i ((gU n ps r).map Dv.int).length) (sg:=aF 1) (t:=bR) (m:=aU (m2 cC (aA 0) (aV (aB (aA 1) aC)))) (gU n ps r) (λx=>[aT (r++[x])]) (λρ h=>(∃b,ρ=[some (aT r),b,some (aH n ps)])/\h=H1)
  (λρ h s=>by rw[s.2];simp[cO,g1])
  (λk hk ρ h ⟨⟨b,e⟩,eh⟩=>by subst e;subst eh;refine⟨.int (gU n ps r)[k],[some (aT r),some (.int (gU n ps r)[k]),some (aH n ps)],by simp[cO,g1,hk],rfl,.inr ⟨_,rfl,λacc hl=>⟨_,_,yN (z3f (i:=0) (j:=1) hr rfl rfl) hl,⟨_,rfl⟩,rfl⟩⟩⟩)
  (gU n ps r).length 0 [some (aT r),b,some (aH n ps)] H1 acc (by omega) ⟨⟨_,rfl⟩,rfl⟩ (by rw[tj,fm];exact hl)
 subst eb;subst eh;rw[tj,fm]at e;refine⟨b',H', ?_,f1⟩;unfold yY fR;rw[es];dsimp only;rw[ba]at e ⊢;exact e
theorem N2 (rs:zm):(rs.flatMap λr=>(gU n ps r).map λx=>aT (r++[x]))=(kN n ps rs).map aT:=by
 induction rs with
 |nil=>rfl
 |cons r rs ih=>have h1:kN n ps (r::rs)=((gU n ps r).map λx=>r++[x])++kN n ps rs:=rfl;rw[gn,ih,h1,gg,gw];rfl
theorem z3i (o:Aa n ps) {x2:zv}{i:Nat}{rs:zm}(g:getL H i=some (rs.map aT)) (hr:∀r∈rs,r.length<=100) (hl:(kN n ps rs).length<=900000):∃H',EW [some (aH n ps),some (.ref i),x2] H=.ok ((kN n ps rs).map aT) H'/\Fr [] H H':=by
 obtain⟨ρ',H',h,_,f⟩:=yM (mi:=aW bY (aA 1)) (cap:=[none,none,some 0]) (src:=cO i (rs.map aT).length) (sg:=aF 0) (t:=bR) (m:=yY) (ρ:=[some (aH n ps),some (.ref i),x2]) (H:=H) (H1:=H) rs (λr=>(gU n ps r).map λx=>aT (r++[x])) (λρ Hx=>(∃a b,ρ=[a,b,some (aH n ps)])/\Fr [] H Hx) (by simp[aW,aA,bY,g]) (by simp[cO]) ⟨⟨_,_,rfl⟩,Fr.refl⟩ (λρ Hx s=>by have gx:=s.2.getL g (by simp);simp[cO,gx])
  (λk hk ρ Hx ⟨⟨a,b,e⟩,f⟩=>by subst e;have gx:=f.getL g (by simp);refine⟨aT rs[k],[some (aT rs[k]),b,some (aH n ps)],by simp[cO,gx,hk],rfl,.inr ⟨Hx,rfl,λacc hl=>?_⟩⟩;obtain⟨b',Hy,ea,fa⟩:=z3h (H:=Hx) (b:=b) o (hr _ (fe hk)) hl;exact⟨_,Hy,ea,⟨_,_,rfl⟩,f.trans fa (by simp)⟩) (by rw[N2,ba];exact hl)
 exact⟨H',by rw[<-N2];exact h,f⟩
theorem all_ok (o:Aa n ps):∃i H',F_qz [aH n ps] H=.ok (.ref i) H'/\getL H' i=some ((eW n ps n).map aT)/\Fr [] H H'/\H.length<=i:=by
 have n6:=o.n6;have w0:bJ (aD F_qq (aB (aA 0) aC)) [some (aH n ps),none,none] H=.nx [some (aH n ps),none,none] H:=by have e:F_qq [aH n ps] H=.ok .non H:=Cod.need_ok o;generalize F_qq=F at e;generalize aH n ps=z at e;simp[bJ,aD,aB,aA,aC,e]
 have w1:aM (dM (aB (aV aC) aC)) (aF 1) [some (aH n ps),none,none] H=.nx [some (aH n ps),some (.ref H.length),none] (H++[.lst [aT []]]):=rfl;have hi:aQ cP (aB (m2 aS (aA 0) (mC (.int 0))) aC) [some (aH n ps),some (.ref H.length),none] (H++[.lst [aT []]])=.ok (dC 0 n) (H++[.lst [aT []]]):=yV (L:=n) rfl (by omega) (by omega);have hN:(dC 0 (n:Int)).n=n:=by simp[dC]
 obtain⟨ρ',H',h1,i,y2,h2,h3,h4,h5⟩:=tP (b:=aM (bH EW) (aF 1)) (sg:=aF 2) hi
  (λk ρ H'=>∃(i:Nat) (y2:zv),ρ=[some (aH n ps),some (.ref i),y2]/\getL H' i=some ((eW n ps k).map aT)/\Fr [] H H'/\H.length<=i)
  (λk ρ H' hk ⟨i,y2,e1,e2,e3,e4⟩=>by subst e1;rw[hN]at hk;have hl:(eW n ps (k+1)).length<=46656:=rS o (by omega);obtain⟨H2,b1,b2⟩:=z3i (H:=H') (x2:=some (.int (0+(k:Int)))) o e2 (λr hr=>by rw[EU o hr];omega) (show(eW n ps (k+1)).length<=900000 by omega);have f:=e3.trans b2 (T:=[]) (by simp);exact⟨.int (0+(k:Int)),[some (aH n ps),some (.ref i),some (.int (0+(k:Int)))],_,_,rfl,rfl,EO b1 rfl,H2.length,_,rfl,last_get,f.trans (T:=[]) Fr.app (by simp),f.le⟩) (λ_ _ _=>rfl) ⟨H.length,none,rfl,last_get,Fr.app,ak _⟩
 rw[hN]at h3;refine⟨i,H', ?_,h3,h4,h5⟩;show bO (pL [some (aH n ps),none,none] H)=_;rw[z3e,bK w0,bK w1,bK h1,h2];rfl
end
open L2.Mr.Cod (last_get jI)
section
variable{n st:Nat}{ps:y'}{H:Hs}{ρ:Ev}{r:zo}
end
section
variable{c:Nat}(hc:c=0) {H:Hs}{x0 x2 x3:zv}
include hc
end
section
variable{H H':Hs}{ρ:Ev}{p t k c s:Nat}{ks js:zq}{lc:Nat->Option (zq×M Dv)}
end
end L2.Mr.K04
namespace L2.Mr.Gen
open PySem PySem.Spec PyProof.Rows L2 L2.Mr
abbrev At (ρ:Ev) (i:Nat) (d:Dv):Prop:=ρ[i]?=some (some d)
section
variable{ρ:Ev}{i j:Nat}{d:Dv}{H H':Hs}
theorem At.v (h:At ρ i d):aA i ρ=λH=>.ok d H:=by funext H;unfold aA;rw[h]
theorem At.new (h:i<ρ.length):At (ρ.set i (some d)) i d:=by simp[At,h]
theorem At.o (h:At ρ j d) {x:zv}(hn:i≠j:=by decide):At (ρ.set i x) j d:=(ib hn).trans h
theorem rT {m:M Dv}{v:Dv}(e:m ρ H=.ok v H'):aM m (aF i) ρ H=.nx (ρ.set i (some v)) H':=rQ e rfl
end
end L2.Mr.Gen
namespace L2.Mr.K06
open PySem PySem.Spec PyProof.Rows L2 L2.Mr L2.Mr.Gen
open L2.Mr.Com
open L2.Mr.Sam
open L2.Mr.Cod (last_get jI bT Ag)
open L2.Mr.K04 (aT eW iB pU EU rS rR gU wt kN C' Bf oI pV)
open L2.Mr.K05 (ix mZ hV Ba pT lW cM dX yW ET ER)
section
variable{n:Nat}{ps:y'}{r:zo}
theorem z3j (o:Aa n ps) {k:Nat}(hr:r∈eW n ps k) (hk:k<n):gU n ps r≠[]:=by
 have hl:=EU o hr;have ex:∃x,x∈hV n r:=by
  by_cases c:∃x,x∈hV n r
  ·exact c
  ·exfalso
   have sub:∀x∈cX n,x∈r:=λx hx=>by
    by_cases d:x∈r
    ·exact d
    ·exact absurd ⟨x,cz.mpr ⟨hx,by simpa using d⟩⟩ c
   have:=(pT (n:=n)).length_le_of_subset sub;simp[cX]at this;omega
 obtain⟨x0,hx0⟩:=ex;obtain⟨z,hz,hmin⟩:=ET o (left:=hV n r) _ x0 hx0 (ak _);have hz':=Bf.mp hz;refine mr (a:=z) (cz.mpr ⟨Ba.mpr hz'.1, ?_⟩);have hw:z∉wt ps r:=λh=>by obtain⟨q,hq,h1,h2⟩:=C'.mp h;have rg:=o.rng q hq;exact hmin q.1 (Bf.mpr ⟨⟨rg.1,rg.2.1⟩,h1⟩) (by rw[<-h2];exact hq)
 simp[hz'.2,hw]
theorem N3 (o:Aa n ps):∀k,k<=n->eW n ps k≠[]
 |0,_=>by simp[eW]
 |k+1,h=>by obtain⟨r,hr⟩:=xr _ (N3 o k (by omega));obtain⟨x,hx⟩:=xr _ (z3j o hr (by omega));exact mr (ju.mpr ⟨r,hr,bo.mpr ⟨x,hx,rfl⟩⟩)
theorem N4 (o:Aa n ps) (hr:r∈eW n ps n):∀x:Int,0<=x->x<n->x∈r:=λx h0 h1=>by rw[pU o]at hr;obtain⟨a,b,c⟩:=rR n r (cz.mp hr).1;exact lW c b a h0 h1
def gW (n:Nat) (ps:y'):zo:=(eW n ps n).map (cM n ps)
def iC (n:Nat) (ps:y'):zm:=(eW n ps n).filter λr=>decide (cM n ps r=gL (gW n ps))
theorem pW (o:Aa n ps):gW n ps≠[]:=by have:=N3 o n (ak n);simpa[gW]using this
theorem bst_ne (o:Aa n ps):iC n ps≠[]:=by obtain⟨r,hr,e⟩:=bo.mp (L2.Mr.minI_is (pW o)).1;exact mr (cz.mpr ⟨hr,by simpa using e⟩)
end
end L2.Mr.K06
namespace L2.Mr.Sp
open PySem PySem.Spec PyProof.Rows L2 L2.Mr L2.Mr.Com
open L2.Mr.Cod (bT Ag Lse)
open L2.Mr.K04 (eW iB ext pU rR Bn Bf)
open L2.Mr.K05 (ix mZ pR kM hV Ba pT lW cM dX yW)
open L2.Mr.K06 (gW pW iC N4)
section
variable{n m:Nat}{ps qs:y'}{r l:zo}
theorem jB {x a:Int}(h:a∈x::l):ix (x::l) a=if x=a then 0 else ix l a+1:=by
 show(if x=a then some 0 else(dW a l).map (·+1)).getD 0=_
 split
 ·rfl
 ·rename_i c;rw[K05.pos_mem ((aw.mp h).resolve_left λz=>c z.symm)];rfl
theorem N5:∀(k:Nat) (r:zo),r.length=k->(∀x∈r,0<=x/\x<n)->r.Nodup->r∈iB n k
 |0,r,h,_,_=>by rw[my.mp h];simp[iB]
 |k+1,r,h,hr,nd=>by
  have hne:r≠[]:=by rintro rfl;simp at h
  have e:=wj hne;have nd':=nd;rw[<-e]at nd';have nd2:=kl.mp nd';have hl:r.dropLast.length=k:=by simp[h]
  have:=N5 k r.dropLast hl (λx hx=>hr x (by rw[<-e];exact fi _ hx)) nd2.1;rw[<-e];refine ju.mpr ⟨r.dropLast,this,bo.mpr ⟨r.getLast hne,Bf.mpr ⟨hr _ (List.getLast_mem hne),λz=>?_⟩,rfl⟩⟩;exact nd2.2.2 _ z _ (by simp) rfl
structure Au (n:Nat) (ps:y') (r:zo):Prop where
 rng:∀x∈r,0<=x/\x<n
 nd:r.Nodup
 len:r.length=n
 up:∀q∈ps,ix r q.1<ix r q.2
theorem Au.mem (h:Au n ps r) {x:Int}(h0:0<=x) (h1:x<n):x∈r:=lW h.rng h.nd h.len h0 h1
theorem yZ (o:Aa n ps):r∈eW n ps n↔Au n ps r:=by
 rw[pU o,cz];constructor
 ·rintro ⟨h,k⟩
  obtain⟨a,b,c⟩:=rR n r h;refine⟨c,b,a,λq hq=>?_⟩;have g:=o.rng q hq;exact(Bn.mp k q hq (lW c b a g.2.2.1 g.2.2.2)).2
 ·intro h;refine⟨N5 n r h.len h.rng h.nd,Bn.mpr λq hq _=>?_⟩;have g:=o.rng q hq;exact⟨h.mem g.1 g.2.1,h.up q hq⟩
abbrev bF (n:Nat) (ps:y'):Int:=gL (gW n ps)
theorem N6 (o:Aa n ps) (h:Au n ps r):bF n ps<=cM n ps r:=(L2.Mr.minI_is (pW o)).2 _ (bo.mpr ⟨r,(yZ o).mpr h,rfl⟩)
theorem EX (o:Aa n ps):∃r,Au n ps r/\cM n ps r=bF n ps:=by obtain⟨r,hr,e⟩:=bo.mp (L2.Mr.minI_is (pW o)).1;exact⟨r,(yZ o).mp hr,e⟩
theorem EY:0<=cM n ps r:=by
 unfold cM
 split
 ·omega
 ·rename_i h;obtain⟨q,hq,e⟩:=bo.mp (L2.Mr.maxI_is h).1;rw[<-e];exact yW q
theorem EZ {S:Int}(h0:0<=S) (h:∀q∈bT n ps,dX r q<=S):cM n ps r<=S:=by
 unfold cM
 split
 ·exact h0
 ·rename_i c;obtain⟨q,hq,e⟩:=bo.mp (L2.Mr.maxI_is c).1;rw[<-e];exact h q hq
theorem uS {q:Int×Int}(hq:q∈bT n ps):dX r q<=cM n ps r:=by have hm:dX r q∈(bT n ps).map (dX r):=bo.mpr ⟨q,hq,rfl⟩;unfold cM;rw[if_neg (mr hm)];exact(L2.Mr.maxI_is (mr hm)).2 _ hm
theorem z3k (o:Aa n ps):0<=bF n ps:=by obtain⟨r,_,e⟩:=EX o;rw[<-e];exact EY
theorem E1 (o:Aa n ps) (o':Aa m qs) (h:∀r,Au n ps r->∃r',Au m qs r'/\cM m qs r'<=cM n ps r):bF m qs<=bF n ps:=by obtain⟨r,hr,e⟩:=EX o;obtain⟨r',h1,h2⟩:=h r hr;rw[<-e];exact lh (N6 o' h1) h2
theorem N7 {p:Int->Bool}{b:Int}(hp:p b=true):∀{l:zo},b∈l->ix (l.filter p) b<=ix l b
 |x::l,h=>by
  rw[jB h]
  by_cases c:x=b
  ·subst c;rw[mz hp,jB (ax ..),if_pos rfl,if_pos rfl];exact ak _
  ·have hm:=(aw.mp h).resolve_left λz=>c z.symm;have ih:=N7 hp hm;rw[if_neg c]
   cases d:p x with
   |true=>rw[mz d,jB (ao _ (cz.mpr ⟨hm,hp⟩)),if_neg c];omega
   |false=>rw[ye (by simp[d])];omega
theorem N8 {p:Int->Bool}{a b:Int}(pa:p a=true) (pb:p b=true):∀{l:zo},a∈l->b∈l->ix l a<ix l b->ix (l.filter p) a<ix (l.filter p) b/\ix (l.filter p) b+ix l a<=ix l b+ix (l.filter p) a
 |x::l,ha,hb,h=>by
  rw[jB ha,jB hb]at *
  by_cases cb:x=b
  ·rw[if_pos cb]at h;omega
  ·have mb:=(aw.mp hb).resolve_left λz=>cb z.symm
   by_cases ca:x=a
   ·subst ca;rw[mz pa,jB (ax ..),if_pos rfl,jB (ao _ (cz.mpr ⟨mb,pb⟩)),if_neg cb,if_neg cb,if_pos rfl];have:=N7 pb mb;omega
   ·have ma:=(aw.mp ha).resolve_left λz=>ca z.symm;rw[if_neg ca,if_neg cb]at *;have ih:=N8 pa pb ma mb (by omega)
    cases d:p x with
    |true=>rw[mz d,jB (ao _ (cz.mpr ⟨ma,pa⟩)),jB (ao _ (cz.mpr ⟨mb,pb⟩)),if_neg ca,if_neg cb];omega
    |false=>rw[ye (by simp[d])];omega
theorem E2 {g:Int->Int}{a:Int}:∀{l:zo},(∀x∈l,g x=g a->x=a)->a∈l->ix (l.map g) (g a)=ix l a
 |x::l,hi,h=>by
  rw[df,jB (bo.mpr ⟨a,h,rfl⟩),jB h]
  by_cases c:x=a
  ·rw[if_pos c,if_pos (by rw[c])]
  ·rw[if_neg c,if_neg λz=>c (hi x (ax ..) z),E2 (λy hy=>hi y (ao _ hy)) ((aw.mp h).resolve_left λz=>c z.symm)]
theorem z3l {r r':zo}{a b c d:Int}(ha:a∈r) (hb:b∈r) (hne:a≠b) (h1:ix r a<ix r b->ix r' c<ix r' d/\ix r' d+ix r a<=ix r b+ix r' c) (h2:ix r b<ix r a->ix r' d<ix r' c/\ix r' c+ix r b<=ix r a+ix r' d):dX r' (c,d)<=dX r (a,b):=by
 have:ix r a≠ix r b:=λz=>hne (pR ha hb z);unfold dX;simp only
 rcases Nat.lt_or_gt_of_ne this with k|k
 ·have:=h1 k
  split <;> split <;> omega
 ·have:=h2 k
  split <;> split <;> omega
structure Emb (n:Nat) (ps:y') (m:Nat) (qs:y') (f g:Int->Int) (p:Int->Bool):Prop where
 back:∀x:Int,0<=x->x<n->p x=true->0<=g x/\g x<m/\f (g x)=x
 to:∀y:Int,0<=y->y<m->0<=f y/\f y<n/\p (f y)=true/\g (f y)=y
 mono:∀a b:Int,a<b->f a<f b
 pr:∀a b:Int,0<=a->a<m->0<=b->b<m->((a,b)∈qs↔(f a,f b)∈ps)
theorem z3m {f g:Int->Int}{p:Int->Bool}(o':Aa m qs) (E:Emb n ps m qs f g p) (h:Au n ps r):Au m qs ((r.filter p).map g)/\cM m qs ((r.filter p).map g)<=cM n ps r:=by
 have inj:∀x∈r.filter p,∀y∈r.filter p,g x=g y->x=y:=λx hx y hy e=>by
  have hx:=cz.mp hx;have hy:=cz.mp hy;have bx:=h.rng x hx.1;have by':=h.rng y hy.1
  rw[<- (E.back x bx.1 bx.2 hx.2).2.2,e,(E.back y by'.1 by'.2 hy.2).2.2]
 have mf:∀y:Int,0<=y->y<m->f y∈r/\f y∈r.filter p:=λy h0 h1=>by have t:=E.to y h0 h1;have:=h.mem t.1 t.2.1;exact⟨this,cz.mpr ⟨this,t.2.2.1⟩⟩
 have rng:∀x∈(r.filter p).map g,0<=x/\x<m:=λx hx=>by obtain⟨y,hy,rfl⟩:=bo.mp hx;have hy:=cz.mp hy;have b:=h.rng y hy.1;have:=E.back y b.1 b.2 hy.2;exact⟨this.1,this.2.1⟩
 have nd:((r.filter p).map g).Nodup:=by refine jw _ ?_ ((h.nd.filter p).imp_of_mem (S:=λa b=>g a≠g b) λ{a b} ha hb hne e=>hne (inj a ha b hb e));exact λ_ _ z=>z
 have place:∀y:Int,0<=y->y<m->ix ((r.filter p).map g) y=ix (r.filter p) (f y):=λy h0 h1=>by have t:=E.to y h0 h1;have:=E2 (g:=g) (a:=f y) (l:=r.filter p) (λx hx e=>inj x hx _ (mf y h0 h1).2 e) (mf y h0 h1).2;rw[t.2.2.2]at this;exact this
 have step:∀a b:Int,0<=a->a<m->0<=b->b<m->ix r (f a)<ix r (f b)->ix ((r.filter p).map g) a<ix ((r.filter p).map g) b/\ix ((r.filter p).map g) b+ix r (f a)<=ix r (f b)+ix ((r.filter p).map g) a:=λa b a0 a1 b0 b1 k=>by rw[place a a0 a1,place b b0 b1];exact N8 (E.to a a0 a1).2.2.1 (E.to b b0 b1).2.2.1 (mf a a0 a1).1 (mf b b0 b1).1 k
 have len:((r.filter p).map g).length=m:=by
  have pm:((r.filter p).map g).Perm (cX m):=(jm nd pT).mpr λy=>by rw[Ba];refine⟨λhy=>rng y hy,λhy=>?_⟩;exact bo.mpr ⟨f y,(mf y hy.1 hy.2).2,(E.to y hy.1 hy.2).2.2.2⟩
  rw[pm.length_eq];simp[cX]
 refine⟨⟨rng,nd,len,λq hq=>?_⟩,EZ EY λq hq=>?_⟩
 ·have g:=o'.rng q hq;exact(step q.1 q.2 g.1 g.2.1 g.2.2.1 g.2.2.2 (h.up _ ((E.pr q.1 q.2 g.1 g.2.1 g.2.2.1 g.2.2.2).mp hq))).1
 ·obtain⟨q0,q1,q2,l1,l2,l3⟩:=Ag.mp hq;have a1:q.1<(m:Int):=by omega
  have b0:0<=q.2:=by omega
  have ta:=E.to q.1 q0 a1;have tb:=E.to q.2 b0 q2;have hl:(f q.1,f q.2)∈bT n ps:=Ag.mpr ⟨ta.1,E.mono _ _ q1,tb.2.1,by have:=E.mono _ _ q1;show f q.1≠f q.2;omega,λz=>l2 ((E.pr _ _ q0 a1 b0 q2).mpr z),λz=>l3 ((E.pr _ _ b0 q2 q0 a1).mpr z)⟩;refine lh ?_ (uS hl);exact z3l (mf _ q0 a1).1 (mf _ b0 q2).1 (by have:=E.mono _ _ q1;omega) (step _ _ q0 a1 b0 q2) (step _ _ b0 q2 q0 a1)
theorem uT {f g:Int->Int}{p:Int->Bool}(o:Aa n ps) (o':Aa m qs) (E:Emb n ps m qs f g p):bF m qs<=bF n ps:=E1 o o' λr hr=>⟨_,z3m o' E hr⟩
theorem N9 {a:Int}{xs ys:zo}(h:a∉xs):ix (xs++a::ys) a=xs.length:=by
 induction xs with
 |nil=>rw[List.nil_append,jB (ax ..),if_pos rfl];rfl
 |cons x xs ih=>have hx:x≠a:=λz=>h (by rw[z];exact ax ..);rw[List.cons_append,jB (by simp),if_neg hx,ih λz=>h (ao _ z)];rfl
theorem zA {a:Int}(nd:r.Nodup) (h:a∈r):ix r.reverse a+ix r a+1=r.length:=by obtain⟨xs,ys,rfl⟩:=List.append_of_mem h;have n2:=kl.mp nd;have hx:a∉xs:=λz=>n2.2.2 a z a (by simp) rfl;have hy:a∉ys.reverse:=λz=>(iq.mp n2.2.1).1 (by simpa using z);rw[N9 hx,show(xs++a::ys).reverse=ys.reverse++a::xs.reverse by simp,N9 hy];simp;omega
theorem OA (o':Aa n qs) (hs:∀a b,(a,b)∈qs↔(b,a)∈ps) (h:Au n ps r):Au n qs r.reverse/\cM n qs r.reverse<=cM n ps r:=by
 refine⟨⟨λx hx=>h.rng x (by simpa using hx),(List.reverse_perm r).nodup_iff.mpr h.nd,by simp[h.len],λq hq=>?_⟩,EZ EY λq hq=>?_⟩
 ·have g:=o'.rng q hq;have u:=h.up _ ((hs q.1 q.2).mp hq);have e1:=zA h.nd (h.mem g.1 g.2.1);have e2:=zA h.nd (h.mem g.2.2.1 g.2.2.2);simp only at u;omega
 ·obtain⟨q0,q1,q2,l1,l2,l3⟩:=Ag.mp hq;have hl:(q.1,q.2)∈bT n ps:=Ag.mpr ⟨q0,q1,q2,l1,λz=>l3 ((hs _ _).mpr z),λz=>l2 ((hs _ _).mpr z)⟩;refine lh ?_ (uS hl);have ma:=h.mem (x:=q.1) q0 (by omega);have mb:=h.mem (x:=q.2) (by omega) q2;have e1:=zA h.nd ma;have e2:=zA h.nd mb;unfold dX;simp only
  split <;> split <;> omega
theorem z3n (o:Aa n ps) (o':Aa n qs) (hs:∀a b,(a,b)∈qs↔(b,a)∈ps):bF n qs=bF n ps:=Int.le_antisymm (E1 o o' λr hr=>⟨_,OA o' hs hr⟩) (E1 o' o λr hr=>⟨_,OA o (λa b=>(hs b a).symm) hr⟩)
end
end L2.Mr.Sp
namespace L2.Mr.K03
open PySem PySem.Spec PyProof.Rows L2 L2.Mr
open L2.Mr.Com
open L2.Mr.Sam
def mb_qq:MS:=(bQ (dY (cD (aD F_q0 (aB (aA 0) aC)))) (iJ 0 (aB (mC (.str "this is no order")) aC)) bW)
def F_qq:zt:=aR 1 1 (mb_qq)
def tW:MS:=(aJ (bJ (aD F_qq (aB (aA 0) aC))) (aJ (aM (aA 0) (bN 2 (aO (aF 1) (aO (aF 2) bP)))) (aN (aV (aB (aA 1) (aB (aD (f1 fK) (aB (aD (f1 jW) (aB (bH (aX (aW dF (aA 2)) [none,none] (bN 2 (aO (aF 0) (aO (aF 1) bP))) bR (aU (aV (aB (aA 1) (aB (aA 0) aC)))))) aC)) aC)) aC))))))
def F_qC:zt:=aR 1 3 (tW)
open L2.Mr.Gen
open L2.Mr.Cod (bT iY iN Ag Lse last_get jI)
section
variable{n:Nat}{ps:y'}{H:Hs}{d y:Dv}{x:Int}{ρ:Ev}
theorem need_ok (o:Aa n ps):F_qq [aH n ps] H=.ok .non H:=Cod.need_ok o
end
section
variable{n:Nat}{ps:y'}{H:Hs}{ns:zo}
end
section
variable{n:Nat}{ps qs:y'}{H:Hs}{ρ:Ev}
theorem z3o (qs:y'):bG lJ (qs.map aG)=some (qs.map gE):=by
 induction qs with
 |nil=>rfl
 |cons q qs ih=>simp[bG,ih,aG,lJ,dU,gE]
theorem OB {i:Nat}(g:getL H i=some (qs.map aG)) (hl:qs.length<64):jW (.ref i) H=.ok (.ref H.length) (H++[.lst ((dN bZ qs).map aG)]):=by
 cases qs with
 |nil=>
  have h1:nZ (.ref i) H=.ok (.ref H.length) (H++[.lst []]):=by simp[nZ,g,bG,jR]
  unfold jW;rw[h1];rfl
 |cons q qs=>
  have h1:nZ (.ref i) H=.bad:=by simp[nZ,g,bG,aG,dU]
  have hk:=z3o (q::qs);have hn:pE ((q::qs).map gE)=true:=by unfold pE;rw[dz];intro k hk;obtain⟨z,_,rfl⟩:=bo.mp hk;rfl
  have hs:(dN cW ((q::qs).map gE)).map pD=(dN bZ (q::qs)).map aG:=by rw[J6 rD,gw];rfl
  have hl':((q::qs).map gE).length<64:=by simpa using hl
  have h2:rG (.ref i) H=.ok (.ref H.length) (H++[.lst ((dN cW ((q::qs).map gE)).map pD)]):=by simp only[rG,g,hk,hn,decide_eq_true hl',Bool.and_self,if_true]
  unfold jW;rw[h1];show rG (.ref i) H=_;rw[h2,hs]
def fY (ps:y'):y':=ps.map λq=>(q.2,q.1)
def zB (mi:M Src):M zu :=aX mi [none,none] (bN 2 (aO (aF 0) (aO (aF 1) bP))) bR (aU (aV (aB (aA 1) (aB (aA 0) aC))))
theorem z3p {mi:M Src}(hi:mi ρ H=.ok (dD (ps.map aG)) H) (hl:ps.length<=900):zB mi ρ H=.ok ((fY ps).map aG) H:=by have h:zB mi ρ H=.ok (ps.filterMap λq=>some (aG (q.2,q.1))) H:=gQ ps (λq=>some (aG (q.2,q.1))) (λρ=>∃a b,ρ=[a,b]) hi (by simp[dD]) ⟨_,_,rfl⟩ rfl (λk hk ρ ⟨a,b,e⟩=>by subst e;exact⟨aG ps[k],[some (.int ps[k].1),some (.int ps[k].2)],by simp[dD,hk],rfl,⟨_,_,rfl⟩,rfl,rfl⟩) (by omega);rw[h,fY,gw,nj];rfl
theorem E3 {mn ma:M Dv}{i:Nat}{H1:Hs}(h0:mn ρ H=.ok (.int n) H) (ha:ma ρ H=.ok (.ref i) H1) (g:getL H1 i=some (qs.map aG)) (hl:qs.length<64):
  aV (aB mn (aB (aD (f1 fK) (aB (aD (f1 jW) (aB ma aC)) aC)) aC)) ρ H=.ok (aH n (dN bZ qs)) (H1++[.lst ((dN bZ qs).map aG)]):=by
 have s:=OB g hl;have g2:getL (H1++[Ob.lst ((dN bZ qs).map aG)]) H1.length=some ((dN bZ qs).map aG):=last_get;have t:fK (.ref H1.length) (H1++[Ob.lst ((dN bZ qs).map aG)])=.ok (.tup ((dN bZ qs).map aG)) (H1++[Ob.lst ((dN bZ qs).map aG)]):=by simp[fK,g2]
 simp[aV,aB,h0,aD,ha,aC,f1,s,t,lim,aH]
theorem z3q (hl:ps.length<=36):(fY ps).length<64:=by simp[fY];omega
theorem z3r:tW=aJ (bJ (aD F_qq (aB (aA 0) aC))) (aJ (aM (aA 0) (bN 2 (aO (aF 1) (aO (aF 2) bP)))) (aN (aV (aB (aA 1) (aB (aD (f1 fK) (aB (aD (f1 jW) (aB (bH (zB (aW dF (aA 2)))) aC)) aC)) aC))))):=rfl
theorem turned_ok (o:Aa n ps):∃H',F_qC [aH n ps] H=.ok (aH n (dN bZ (fY ps))) H'/\Fr [] H H':=by
 have hn:=need_ok (H:=H) o;have hl:=o.len;have w1:bJ (aD F_qq (aB (aA 0) aC)) [some (aH n ps),none,none] H=.nx [some (aH n ps),none,none] H:=by generalize aH n ps=z at hn;simp[bJ,aD,aB,aA,aC,hn]
 have w2:aM (aA 0) (bN 2 (aO (aF 1) (aO (aF 2) bP))) [some (aH n ps),none,none] H=.nx [some (aH n ps),some (.int n),some (.tup (ps.map aG))] H:=rfl;have e:=z3p (ps:=ps) (H:=H) (ρ:=[some (aH n ps),some (.int n),some (.tup (ps.map aG))]) (mi:=aW dF (aA 2)) rfl (by omega);have ea:bH (zB (aW dF (aA 2))) [some (aH n ps),some (.int n),some (.tup (ps.map aG))] H=.ok (.ref H.length) (H++[.lst ((fY ps).map aG)]):=by unfold bH;rw[e];rfl
 have t:=E3 (n:=n) (ρ:=[some (aH n ps),some (.int n),some (.tup (ps.map aG))]) (mn:=aA 1) rfl ea last_get (z3q hl);refine⟨H++[Ob.lst ((fY ps).map aG)]++[Ob.lst ((dN bZ (fY ps)).map aG)], ?_,Fr.trans (T:=[]) Fr.app Fr.app (by simp)⟩;show bO (tW [some (aH n ps),none,none] H)=_;rw[z3r,bK w1,bK w2];unfold aN;rw[t];rfl
end
end L2.Mr.K03
namespace L2.Mr.K81
open PySem PySem.Spec PyProof.Rows L2 L2.Mr L2.Mr.Com
def mb_qq:MS:=(bQ (dY (cD (aD F_q0 (aB (aA 0) aC)))) (iJ 0 (aB (mC (.str "this is no order")) aC)) bW)
def F_qq:zt:=aR 1 1 (mb_qq)
def xQ:MS:=(aJ (bJ (aD F_qq (aB (aA 0) aC))) (bQ (dY (cD (aD F_q1 (aB (m2 aS (aA 0) (mC (.int 0))) (aB (aA 1) aC))))) (iJ 4 (aB (mC (.str "this is no thing of the order")) aC)) bW))
def F_qr:zt:=aR 2 2 (xQ)
def tZ:MS:=(aJ (bJ (aD F_qr (aB (aA 0) (aB (aA 1) aC)))) (aJ (aM (aA 0) (bN 2 (aO (aF 2) (aO (aF 3) bP)))) (aJ (bQ (mB (m2 cI (aA 2) (mC (.int 1)))) (iJ 7 (aB (mC (.str "an order has at least one thing")) aC)) bW) (aJ (aM (bH (aX (aQ cP (aB (aA 2) aC)) [none,some 1] (aF 0) (mB (m2 cJ (aA 0) (aA 1))) (aU (aA 0)))) (aF 4)) (aN (aV (aB (m2 eY (aA 2) (mC (.int 1))) (aB (mL mO (aX (aW dF (aA 3)) [none,none,some 4,some 1] (bN 2 (aO (aF 0) (aO (aF 1) bP))) (mB (m2 (cN true) (aA 3) (aV (aB (aA 0) (aB (aA 1) aC))))) (aU (aV (aB (iV (aA 2) (aA 0)) (aB (iV (aA 2) (aA 1)) aC)))))) aC))))))))
def F_qA:zt:=aR 2 5 (tZ)
section
variable{H:Hs}
theorem last_get {x:zu}:getL (H++[.lst x]) H.length=some x:=by simp[getL]
end
section
variable{c:Nat}(hc:c=0∨c=4∨c=7) {H:Hs}{x0 x2 x3:zv}
include hc
end
section
variable{n:Nat}{ps:y'}{H:Hs}{d y:Dv}{x:Int}
theorem need_ok (o:Aa n ps):F_qq [aH n ps] H=.ok .non H:=by simp[F_qq,mb_qq,aR,cQ,bQ,dY,cD,aD,aB,aA,aC,yQ o,kD,bW,bO]
theorem z3s (o:Aa n ps) (h0:0<=x) (h1:x<n):F_qr [aH n ps,.int x] H=.ok .non H:=by
 have ht:Com.isT (n:Int) x=true:=by simp[Com.isT];omega
 have h:=NC (H:=H) (n:=(n:Int)) (x:=x);rw[ht]at h;have hx:=EA (n:=n) (ps:=ps) H;have hn:=need_ok (H:=H) o;generalize aH n ps=d at hx hn;simp[F_qr,xQ,aR,cQ,aJ,bJ,aD,aB,aA,aC,hn,bQ,dY,cD,m2,mC,hx,h,kD,bW,bO]
def jZ (n:Nat) (x:Int):zo:=(ay n).filterMap λk:Nat=>if(k:Int)=x then none else some (k:Int)
theorem z3t {mi:M Src}{cap:List (Option Nat)}{ρ:Ev}(hi:mi ρ H=.ok (dC 0 n) H) (hc:jO cap ρ=[none,some (.int x)]) (hn:n<=6):
  aX mi cap (aF 0) (mB (m2 cJ (aA 0) (aA 1))) (aU (aA 0)) ρ H=.ok ((jZ n x).map Dv.int) H:=by
 have h:aX mi cap (aF 0) (mB (m2 cJ (aA 0) (aA 1))) (aU (aA 0)) ρ H=.ok ((ay n).filterMap λk:Nat=>if(k:Int)=x then none else some (.int (k:Int))) H:=
  gQ (ay n) (λk:Nat=>if(k:Int)=x then none else some (.int (k:Int))) (λρ=>∃a,ρ=[a,some (.int x)]) hi (by simp[dC]) ⟨none,hc⟩ rfl (λk hk ρ ⟨a,e'⟩=>by
   subst e';refine⟨.int (0+k),[some (.int (0+k)),some (.int x)],rfl,rfl,⟨_,rfl⟩, ?_⟩;have h0:(0+(k:Int))=(k:Int):=by omega
   rw[h0,mq]
   by_cases q:(k:Int)=x
   ·rw[if_pos q];simp[mB,m2,aA,cJ,cH,bU,bM,q,eR]
   ·rw[if_neg q];have q':((k:Int)==x)=false:=by simpa using q
    simp[mB,m2,aA,cJ,cH,bU,bM,q',eR]) (by simp;omega)
 rw[h,jZ,qf]
 congr 1
 congr 1
 funext k
 split <;> rfl
def dn (x a:Int):Int:=if a<x then a else a - 1
theorem z3u:∀n:Nat,n<7->∀x:Nat,x<n->∀a:Nat,a<n->a≠x->dW (a:Int) (jZ n (x:Int))=some (if a<x then a else a - 1):=by decide
theorem z3v {a:Int}(hn:n<=6) (x0:0<=x) (x1:x<n) (a0:0<=a) (a1:a<n) (h:a≠x):∃j:Nat,dW a (jZ n x)=some j/\(j:Int)=dn x a:=by
 obtain⟨x',rfl⟩:∃k:Nat,x=k:=⟨x.toNat,by omega⟩
 obtain⟨a',rfl⟩:∃k:Nat,a=k:=⟨a.toNat,by omega⟩
 refine⟨_,z3u n (by omega) x' (by omega) a' (by omega) (by omega), ?_⟩;unfold dn
 by_cases q:a'<x'
 ·rw[if_pos q,if_pos (by omega)]
 ·rw[if_neg q,if_neg (by omega)];omega
theorem OC:∀ns:zo,bG dU (ns.map Dv.int)=some ns
 | []=>rfl
 |n::ns=>by simp[bG,dU,OC ns]
theorem OD {a:Int}{i:Nat}(e:getL H i=some ((jZ n x).map Dv.int)) (hn:n<=6) (x0:0<=x) (x1:x<n) (a0:0<=a) (a1:a<n) (h:a≠x):xH (.ref i) (.int a) H=.ok (.int (dn x a)) H:=by obtain⟨j,e1,e2⟩:=z3v hn x0 x1 a0 a1 h;simp only[xH,e,OC,e1,e2]
def wo (x:Int) (ps:y'):y':=ps.filterMap λp=>if x=p.1∨x=p.2 then none else some (dn x p.1,dn x p.2)
theorem z3w {mi:M Src}{cap:List (Option Nat)}{ρ:Ev}{i:Nat}(o:Aa n ps) (x0:0<=x) (x1:x<n) (hi:mi ρ H=.ok (dD (ps.map aG)) H) (hc:jO cap ρ=[none,none,some (.ref i),some (.int x)]) (e:getL H i=some ((jZ n x).map Dv.int)):
  aX mi cap (bN 2 (aO (aF 0) (aO (aF 1) bP))) (mB (m2 (cN true) (aA 3) (aV (aB (aA 0) (aB (aA 1) aC))))) (aU (aV (aB (iV (aA 2) (aA 0)) (aB (iV (aA 2) (aA 1)) aC)))) ρ H=.ok ((wo x ps).map aG) H:=by
 have h:aX mi cap (bN 2 (aO (aF 0) (aO (aF 1) bP))) (mB (m2 (cN true) (aA 3) (aV (aB (aA 0) (aB (aA 1) aC))))) (aU (aV (aB (iV (aA 2) (aA 0)) (aB (iV (aA 2) (aA 1)) aC)))) ρ H=.ok (ps.filterMap λp=>if x=p.1∨x=p.2 then none else some (aG (dn x p.1,dn x p.2))) H:=
  gQ ps (λp=>if x=p.1∨x=p.2 then none else some (aG (dn x p.1,dn x p.2))) (λρ=>∃a b,ρ=[a,b,some (.ref i),some (.int x)]) hi (by simp[dD]) ⟨none,none,hc⟩ rfl (λk hk ρ ⟨a,b,e'⟩=>by
   subst e';refine⟨aG ps[k],[some (.int ps[k].1),some (.int ps[k].2),some (.ref i),some (.int x)],by simp[dD,hk],rfl,⟨_,_,rfl⟩, ?_⟩;have hp:=o.rng ps[k] (fe hk);have Bz:=BP true H x [ps[k].1,ps[k].2];have ht:∀v:Bool,mB (m2 (cN true) (aA 3) (aV (aB (aA 0) (aB (aA 1) aC)))) [some (.int ps[k].1),some (.int ps[k].2),some (.ref i),some (.int x)] H=.ok (!decide (x∈[ps[k].1,ps[k].2])) H:=λ_=>by simp only[df,yg,if_true]at Bz;simp[mB,m2,aV,aB,aA,aC,lim,Bz,eR]
   by_cases q:x=ps[k].1∨x=ps[k].2
   ·rw[if_pos q];show _=_;rw[ht true];have:decide (x∈[ps[k].1,ps[k].2])=true:=by simpa using q
    rw[this];rfl
   ·rw[if_neg q];have q1:decide (x∈[ps[k].1,ps[k].2])=false:=by simpa using q
    refine⟨by rw[ht true,q1];rfl, ?_⟩;have i1:=OD e o.n6 x0 x1 hp.1 hp.2.1 (λz=>q (.inl z.symm));have i2:=OD e o.n6 x0 x1 hp.2.2.1 hp.2.2.2 (λz=>q (.inr z.symm));have hl:iK (.ref i) H=true:=by simp[iK,e]
    simp[aV,aB,iV,aA,aC,hl,i1,i2,lim,aG]) (by have:=o.len;omega)
 rw[h,wo,qf]
 congr 1
 congr 1
 funext p
 split <;> rfl
def OE:MS:=aJ (aM (bH (aX (aQ cP (aB (aA 2) aC)) [none,some 1] (aF 0) (mB (m2 cJ (aA 0) (aA 1))) (aU (aA 0)))) (aF 4)) (aN (aV (aB (m2 eY (aA 2) (mC (.int 1))) (aB (mL mO (aX (aW dF (aA 3)) [none,none,some 4,some 1] (bN 2 (aO (aF 0) (aO (aF 1) bP))) (mB (m2 (cN true) (aA 3) (aV (aB (aA 0) (aB (aA 1) aC))))) (aU (aV (aB (iV (aA 2) (aA 0)) (aB (iV (aA 2) (aA 1)) aC)))))) aC))))
theorem z3x:tZ=aJ (bJ (aD F_qr (aB (aA 0) (aB (aA 1) aC)))) (aJ (aM (aA 0) (bN 2 (aO (aF 2) (aO (aF 3) bP)))) (aJ (bQ (mB (m2 cI (aA 2) (mC (.int 1)))) (iJ 7 (aB (mC (.str "an order has at least one thing")) aC)) bW) OE)):=rfl
theorem z3y (o:Aa n ps) (x0:0<=x) (x1:x<n) (u:MS):aJ (bJ (aD F_qr (aB (aA 0) (aB (aA 1) aC)))) (aJ (aM (aA 0) (bN 2 (aO (aF 2) (aO (aF 3) bP)))) u) [some (aH n ps),some (.int x),none,none,none] H=u [some (aH n ps),some (.int x),some (.int n),some (.tup (ps.map aG)),none] H:=by
 have e:=z3s (H:=H) o x0 x1;have w1:bJ (aD F_qr (aB (aA 0) (aB (aA 1) aC))) [some (aH n ps),some (.int x),none,none,none] H=.nx [some (aH n ps),some (.int x),none,none,none] H:=by
  have hg:∀d:Dv,F_qr [d,.int x] H=.ok .non H->bJ (aD F_qr (aB (aA 0) (aB (aA 1) aC))) [some d,some (.int x),none,none,none] H=.nx [some d,some (.int x),none,none,none] H:=λd e=>by simp[bJ,aD,aB,aA,aC,e]
  exact hg _ e
 have w2:aM (aA 0) (bN 2 (aO (aF 2) (aO (aF 3) bP))) [some (aH n ps),some (.int x),none,none,none] H=.nx [some (aH n ps),some (.int x),some (.int n),some (.tup (ps.map aG)),none] H:=rfl;rw[bK w1,bK w2]
theorem z3z {z:Int}(h:gY z=true) (ρ:Ev) {m:M zu }(e:m ρ H=.ok [.int z] H):aQ cP m ρ H=.ok (dC 0 z) H:=by simp[aQ,e,cP,h]
theorem z40 (hn:n<=6):gY (n:Int)=true:=by
 match n,hn with
 |0,_=>rfl
 |1,_=>rfl
 |2,_=>rfl
 |3,_=>rfl
 |4,_=>rfl
 |5,_=>rfl
 |6,_=>rfl
theorem z41 (hn:n<=6) (ρ:Ev) {m:M zu }(e:m ρ H=.ok [.int n] H):aQ cP m ρ H=.ok (dC 0 n) H:=z3z (z40 hn) ρ e
theorem wo_ok (o:Aa n ps) (hn:n≠1) (x0:0<=x) (x1:x<n):F_qA [aH n ps,.int x] H=.ok (.tup [.int (n - 1),.tup ((wo x ps).map aG)]) (H++[.lst ((jZ n x).map Dv.int)]):=by
 show bO (tZ [some (aH n ps),some (.int x),none,none,none] H)=_;rw[z3x,z3y o x0 x1];generalize aH n ps=d;have hne:((n:Int)==1)=false:=by
  have:(n:Int)≠1:=by omega
  simpa using this
 have w3:bQ (mB (m2 cI (aA 2) (mC (.int 1)))) (iJ 7 (aB (mC (.str "an order has at least one thing")) aC)) bW [some d,some (.int x),some (.int n),some (.tup (ps.map aG)),none] H=.nx [some d,some (.int x),some (.int n),some (.tup (ps.map aG)),none] H:=by generalize (n:Int)=m at hne;simp[bQ,mB,m2,aA,mC,cI,cH,bU,bM,hne,eR,bW]
 rw[bK w3];have c1:=z3t (H:=H) (n:=n) (x:=x) (mi:=aQ cP (aB (aA 2) aC)) (cap:=[none,some 1]) (ρ:=[some d,some (.int x),some (.int n),some (.tup (ps.map aG)),none]) (z41 o.n6 _ rfl) rfl o.n6;have w4:aM (bH (aX (aQ cP (aB (aA 2) aC)) [none,some 1] (aF 0) (mB (m2 cJ (aA 0) (aA 1))) (aU (aA 0)))) (aF 4) [some d,some (.int x),some (.int n),some (.tup (ps.map aG)),none] H=.nx [some d,some (.int x),some (.int n),some (.tup (ps.map aG)),some (.ref H.length)] (H++[.lst ((jZ n x).map Dv.int)]):=by unfold aM bH;rw[c1];rfl
 unfold OE;rw[bK w4];have g:getL (H++[.lst ((jZ n x).map Dv.int)]) H.length=some ((jZ n x).map Dv.int):=last_get;have c2:=z3w (H:=H++[.lst ((jZ n x).map Dv.int)]) (mi:=aW dF (aA 3)) (cap:=[none,none,some 4,some 1]) (ρ:=[some d,some (.int x),some (.int n),some (.tup (ps.map aG)),some (.ref H.length)]) o x0 x1 rfl rfl g;generalize H++[.lst ((jZ n x).map Dv.int)]=H1 at c2;have c3:mL mO (aX (aW dF (aA 3)) [none,none,some 4,some 1] (bN 2 (aO (aF 0) (aO (aF 1) bP))) (mB (m2 (cN true) (aA 3) (aV (aB (aA 0) (aB (aA 1) aC))))) (aU (aV (aB (iV (aA 2) (aA 0)) (aB (iV (aA 2) (aA 1)) aC))))) [some d,some (.int x),some (.int n),some (.tup (ps.map aG)),some (.ref H.length)] H1=.ok (.tup ((wo x ps).map aG)) H1:=by unfold mL;rw[c2];rfl
 generalize mL mO _=ml at c3;generalize (n:Int)=m at c3;simp[aN,aV,aB,m2,aA,mC,aC,eY,iG,c3,lim,bO]
end
end L2.Mr.K81
namespace L2.Mr.Sp
open PySem PySem.Spec PyProof.Rows L2 L2.Mr L2.Mr.Com
open L2.Mr.Cod (bT Ag Lse)
open L2.Mr.K05 (ix mZ pR kM cM dX yW)
open L2.Mr.K06 (gW pW iC)
open L2.Mr.K03 (fY)
open L2.Mr.K81 (wo dn)
def jJ (n:Nat) (qs:y'):y':=qs.map λq=>((n:Int)+q.1,(n:Int)+q.2)
def gF (n m:Nat):y':=(ay n).flatMap λa:Nat=>(ay m).map λj:Nat=>((a:Int),(n:Int)+(j:Int))
def dS (n:Nat) (ps qs:y'):y':=ps++jJ n qs
def dH (n:Nat) (ps:y') (m:Nat) (qs:y'):y':=dN bZ (dS n ps qs++gF n m)
section
variable{n m:Nat}{ps qs:y'}{r:zo}{a b x:Int}
theorem mem_sh:(a,b)∈jJ n qs↔(a - n,b - n)∈qs:=by
 unfold jJ;rw[bo];constructor
 ·rintro ⟨q,hq,e⟩
  injection e with e1 e2;rw[<-e1,<-e2,show(n:Int)+q.1 - n=q.1 by omega,show(n:Int)+q.2 - n=q.2 by omega];exact hq
 ·intro h;exact⟨_,h,by simp only[Prod.mk.injEq];omega⟩
theorem mem_bt:(a,b)∈gF n m↔0<=a/\a<n/\n<=b/\b<n+m:=by
 unfold gF;simp only[ju,bu,bo,Prod.mk.injEq];constructor
 ·rintro ⟨i,hi,j,hj,rfl,rfl⟩;omega
 ·intro h;exact⟨a.toNat,by omega,(b - n).toNat,by omega,by omega,by omega⟩
theorem OF:(gF n m).length=n*m:=by
 unfold gF;have:∀l:zq,(l.flatMap λa:Nat=>(ay m).map λj:Nat=>((a:Int),(n:Int)+(j:Int))).length=l.length*m:=λl=>by
  induction l with
  |nil=>simp
  |cons a l ih=>rw[gn,bw,ih,cy,vh];simp;omega
 rw[this];simp
theorem Ay:(a,b)∈dS n ps qs↔(a,b)∈ps∨(a - n,b - n)∈qs:=by unfold dS;rw[cm,mem_sh]
theorem Av:(a,b)∈dH n ps m qs↔(a,b)∈ps∨(a - n,b - n)∈qs∨(0<=a/\a<n/\n<=b/\b<n+m):=by unfold dH;rw[(oA _).mem_iff,cm,Ay,mem_bt,or_assoc]
theorem E4 {p q:Int×Int}:bZ p q=true↔p.1<q.1∨(p.1=q.1/\p.2<q.2):=by
 unfold bZ
 by_cases c:p.1=q.1
 ·simp[c]
 ·simp[c]
theorem OG {l:y'}(h:l.Nodup):eE bZ (dN bZ l):=by rw[<-Y0 Bt l h];exact oC Bt l
theorem z42 (o:Aa m qs):eE bZ (jJ n qs):=by unfold jJ eE;refine jw _ (λp q h=>?_) o.rise;rw[E4]at *;simp only;omega
theorem rg (o:Aa n ps) (h:(a,b)∈ps):0<=a/\a<n/\0<=b/\b<n:=o.rng _ h
theorem OH (o:Aa n ps) (o':Aa m qs):eE bZ (dS n ps qs):=by refine zb.mpr ⟨o.rise,z42 o',λp hp q hq=>?_⟩;obtain⟨a,b⟩:=p;obtain⟨c,d⟩:=q;have h1:=rg o hp;have h2:=rg o' (mem_sh.mp hq);rw[E4];left;simp only;omega
theorem pX (o:Aa n ps) (o':Aa m qs) (h:n+m<=6):Aa (n+m) (dS n ps qs):=by
 refine⟨by have:=o.n1;omega,h,λ⟨a,b⟩ hp=>?_,OH o o',λ⟨a,b⟩ hp=>?_,λ⟨a,b⟩ hp ⟨c,d⟩ hq e=>?_⟩
 ·simp only
  rcases Ay.mp hp with k|k
  ·have:=rg o k;omega
  ·have:=rg o' k;omega
 ·simp only
  rcases Ay.mp hp with k|k
  ·exact o.irr _ k
  ·have:=o'.irr _ k;simp only at this;omega
 ·simp only at e ⊢;subst e;rw[Ay]
  rcases Ay.mp hp with k|k <;> rcases Ay.mp hq with k'|k'
  ·exact .inl (o.tr _ k _ k' rfl)
  ·have:=rg o k;have:=rg o' k';omega
  ·have:=rg o' k;have:=rg o k';omega
  ·exact .inr (o'.tr _ k _ k' rfl)
theorem z43 (o:Aa n ps) (o':Aa m qs):(dS n ps qs++gF n m).Nodup:=by
 refine kl.mpr ⟨oD Bt (OH o o'), ?_,λp hp q hq e=>?_⟩
 ·unfold gF List.Nodup;rw[List.pairwise_flatMap];refine⟨λa _=>jw _ (λi j (h:i<j)=>by simp;omega) nh,nh.imp λ{a b} h p hp q hq e=>?_⟩;obtain⟨i,_,rfl⟩:=bo.mp hp;obtain⟨j,_,rfl⟩:=bo.mp hq;injection e with e1 e2;omega
 ·subst e;obtain⟨a,b⟩:=p;have h1:=mem_bt.mp hq
  rcases Ay.mp hp with k|k
  ·have:=rg o k;omega
  ·have:=rg o' k;omega
theorem lY (o:Aa n ps) (o':Aa m qs) (h:n+m<=6):Aa (n+m) (dH n ps m qs):=by
 refine⟨by have:=o.n1;omega,h,λ⟨a,b⟩ hp=>?_,OG (z43 o o'),λ⟨a,b⟩ hp=>?_,λ⟨a,b⟩ hp ⟨c,d⟩ hq e=>?_⟩
 ·simp only
  rcases Av.mp hp with k|k|k
  ·have:=rg o k;omega
  ·have:=rg o' k;omega
  ·omega
 ·simp only
  rcases Av.mp hp with k|k|k
  ·exact o.irr _ k
  ·have:=o'.irr _ k;simp only at this;omega
  ·omega
 ·simp only at e ⊢;subst e;rw[Av]
  rcases Av.mp hp with k|k|k <;> rcases Av.mp hq with k'|k'|k'
  ·exact .inl (o.tr _ k _ k' rfl)
  ·have:=rg o k;have:=rg o' k';omega
  ·have:=rg o k;right;right;omega
  ·have:=rg o' k;have:=rg o k';omega
  ·exact .inr (.inl (o'.tr _ k _ k' rfl))
  ·have:=rg o' k;omega
  ·have:=rg o k';omega
  ·have:=rg o' k';right;right;omega
  ·omega
theorem OI:(dH n ps m qs).length=ps.length+qs.length+n*m:=by unfold dH dS;rw[(oA _).length_eq];simp[jJ,OF];omega
theorem Ca:(a,b)∈dN bZ (fY ps)↔(b,a)∈ps:=by
 rw[(oA _).mem_iff];unfold fY;rw[bo];constructor
 ·rintro ⟨q,hq,e⟩
  injection e with e1 e2;rw[<-e1,<-e2];exact hq
 ·intro h;exact⟨_,h,rfl⟩
theorem OJ:(dN bZ (fY ps)).length=ps.length:=by rw[(oA _).length_eq];simp[fY]
theorem lZ (o:Aa n ps):Aa n (dN bZ (fY ps)):=by
 refine⟨o.n1,o.n6,λ⟨a,b⟩ hp=>?_,OG ?_,λ⟨a,b⟩ hp=>?_,λ⟨a,b⟩ hp ⟨c,d⟩ hq e=>?_⟩
 ·have:=rg o (Ca.mp hp);simp only;omega
 ·unfold fY List.Nodup;refine jw _ (λp q h e=>h ?_) (oD Bt o.rise);injection e with e1 e2;exact Prod.ext e2 e1
 ·exact(o.irr _ (Ca.mp hp)).symm
 ·simp only at e ⊢;subst e;exact Ca.mpr (o.tr _ (Ca.mp hq) _ (Ca.mp hp) rfl)
theorem E5 (o:Aa n ps):bF n (dN bZ (fY ps))=bF n ps:=z3n o (lZ o) λa b=>Ca
def up (x y:Int):Int:=if y<x then y else y+1
theorem rV (x y:Int):(up x y=y/\y<x)∨(up x y=y+1/\x<=y):=by unfold up;split <;> omega
theorem zC (x y:Int):(dn x y=y/\y<x)∨(dn x y=y - 1/\x<=y):=by unfold dn;split <;> omega
theorem OK (ha:a≠x) (hb:b≠x) (hm:(a,b)∈ps):(dn x a,dn x b)∈wo x ps:=by unfold wo;refine gy.mpr ⟨(a,b),hm, ?_⟩;rw[if_neg (by simp only;omega)]
theorem uU {p:Int×Int}(h:p∈wo x ps):∃a b,(a,b)∈ps/\a≠x/\b≠x/\p=(dn x a,dn x b):=by
 unfold wo at h;obtain⟨⟨a,b⟩,hq,e⟩:=gy.mp h
 split at e
 ·cases e
 ·rename_i c;simp only at c;exact⟨a,b,hq,by omega,by omega,(cx e).symm⟩
theorem OL (ha:a≠x) (hb:b≠x):dn x a<dn x b↔a<b:=by unfold dn;split <;> split <;> omega
theorem uV (ha:a≠x) (hb:b≠x):dn x a=dn x b↔a=b:=by unfold dn;split <;> split <;> omega
theorem OM (x0:0<=x) (x1:x<n) (ha:a≠x) (a0:0<=a) (a1:a<n):0<=dn x a/\dn x a<(n:Int) - 1:=by unfold dn;split <;> omega
theorem ON (o:Aa (n+1) ps) (n1:1<=n) (x0:0<=x) (x1:x<(n+1:Nat)):Aa n (wo x ps):=by
 refine⟨n1,by have:=o.n6;omega,λp hp=>?_, ?_,λp hp=>?_,λp hp q hq e=>?_⟩
 ·obtain⟨a,b,h,ha,hb,rfl⟩:=uU hp;have:=rg o h;have k1:=OM x0 x1 ha this.1 this.2.1;have k2:=OM x0 x1 hb this.2.2.1 this.2.2.2;simp only;omega
 ·unfold wo eE;refine List.Pairwise.filterMap _ (λp q h p' hp q' hq=>?_) o.rise
  split at hp
  ·cases hp
  ·split at hq
   ·cases hq
   ·rename_i c d
    cases hp;cases hq
    rw[E4]at *;simp only;rw[OL (by omega) (by omega),uV (by omega) (by omega),OL (by omega) (by omega)];exact h
 ·obtain⟨a,b,h,ha,hb,rfl⟩:=uU hp;have:=o.irr _ h;simp only at this ⊢;rw[Ne,uV ha hb];exact this
 ·obtain⟨a,b,h,ha,hb,rfl⟩:=uU hp;obtain⟨c,d,h',hc,hd,rfl⟩:=uU hq;simp only at e ⊢;rw[uV hb hc]at e;subst e;exact OK ha hd (o.tr _ h _ h' rfl)
theorem z44 (o:Aa (n+1) ps) (x0:0<=x) (x1:x<(n+1:Nat)):Emb (n+1) ps n (wo x ps) (up x) (dn x) (λa=>decide (a≠x)) where
 back:=λa a0 a1 ha=>by
  have ha:a≠x:=by simpa using ha
  have h1:=zC x a;have h2:=rV x (dn x a);refine⟨?_, ?_, ?_⟩ <;> omega
 to:=λy y0 y1=>by
  have h1:=rV x y;have h2:=zC x (up x y);have:up x y≠x:=by omega
  refine⟨by omega,by omega,by simpa using this,by omega⟩
 mono:=λa b h=>by have h1:=rV x a;have h2:=rV x b;omega
 pr:=λa b a0 a1 b0 b1=>by
  have ea:up x a≠x/\dn x (up x a)=a:=by have h1:=rV x a;have h2:=zC x (up x a);omega
  have eb:up x b≠x/\dn x (up x b)=b:=by have h1:=rV x b;have h2:=zC x (up x b);omega
  constructor
  ·intro h;obtain⟨c,d,h',hc,hd,e⟩:=uU h;injection e with e1 e2;rw[(uV ea.1 hc).mp (ea.2.trans e1),(uV eb.1 hd).mp (eb.2.trans e2)];exact h'
  ·intro h;have:=OK ea.1 eb.1 h;rwa [ea.2,eb.2]at this
theorem z45 (o:Aa (n+1) ps) (n1:1<=n) (x0:0<=x) (x1:x<(n+1:Nat)):bF n (wo x ps)<=bF (n+1) ps:=uT o (ON o n1 x0 x1) (z44 o x0 x1)
theorem OO {rs:y'}(h:∀a b:Int,0<=a->a<n->0<=b->b<n->((a,b)∈ps↔(a,b)∈rs)):Emb (n+m) rs n ps id id (λa=>decide (a<(n:Int))) where
 back:=λa a0 a1 ha=>⟨a0,by simpa using ha,rfl⟩
 to:=λy y0 y1=>⟨y0,by simp only[id];omega,by simpa using y1,rfl⟩
 mono:=λa b h=>h
 pr:=λa b a0 a1 b0 b1=>h a b a0 a1 b0 b1
theorem OP {rs:y'}(h:∀a b:Int,0<=a->a<m->0<=b->b<m->((a,b)∈qs↔((n:Int)+a,(n:Int)+b)∈rs)):Emb (n+m) rs m qs (λy=>(n:Int)+y) (λy=>y - n) (λa=>decide ((n:Int)<=a)) where
 back:=λa a0 a1 ha=>by
  have ha:(n:Int)<=a:=by simpa using ha
  refine⟨?_, ?_, ?_⟩ <;> omega
 to:=λy y0 y1=>⟨by omega,by omega,by simp;omega,by omega⟩
 mono:=λa b h=>by omega
 pr:=λa b a0 a1 b0 b1=>h a b a0 a1 b0 b1
theorem z46 (o:Aa n ps) (o':Aa m qs) (h:n+m<=6):bF n ps<=bF (n+m) (dS n ps qs):=uT (pX o o' h) o (OO λa b a0 a1 b0 b1=>by rw[Ay];refine⟨.inl,λk=>k.resolve_right λz=>?_⟩;have:=rg o' z;omega)
theorem z47 (o:Aa n ps) (o':Aa m qs) (h:n+m<=6):bF m qs<=bF (n+m) (dS n ps qs):=uT (pX o o' h) o' (OP λa b a0 a1 b0 b1=>by rw[Ay,show(n:Int)+a - n=a by omega,show(n:Int)+b - n=b by omega];refine⟨.inr,λk=>k.resolve_left λz=>?_⟩;have:=rg o z;omega)
theorem z48 (o:Aa n ps) (o':Aa m qs) (h:n+m<=6):bF n ps<=bF (n+m) (dH n ps m qs):=uT (lY o o' h) o (OO λa b a0 a1 b0 b1=>by
 rw[Av];refine⟨.inl,λk=>k.resolve_right λz=>?_⟩
 rcases z with z|z
 ·have:=rg o' z;omega
 ·omega)
theorem z49 (o:Aa n ps) (o':Aa m qs) (h:n+m<=6):bF m qs<=bF (n+m) (dH n ps m qs):=uT (lY o o' h) o' (OP λa b a0 a1 b0 b1=>by
 rw[Av,show(n:Int)+a - n=a by omega,show(n:Int)+b - n=b by omega];refine⟨λk=>.inr (.inl k),λk=>?_⟩
 rcases k with z|z|z
 ·have:=rg o z;omega
 ·exact z
 ·omega)
theorem z4a (o:Aa n ps) (o':Aa m qs) (h:n+m<=6):1<=bF (n+m) (dS n ps qs):=by
 have n1:=o.n1;have m1:=o'.n1;obtain⟨r,hr,e⟩:=EX (pX o o' h);have hq:((0:Int),(n:Int))∈bT (n+m) (dS n ps qs):=Ag.mpr ⟨by simp,by simp only;omega,by simp only;omega,by show(0:Int)≠n;omega,λz=>by
  rcases Ay.mp z with k|k
  ·have:=rg o k;omega
  ·have:=rg o' k;omega,λz=>by
  rcases Ay.mp z with k|k
  ·have:=rg o k;omega
  ·have:=rg o' k;omega⟩
 have k:=uS (r:=r) hq;have i:=pR (ns:=r) (a:=0) (b:=(n:Int)) (hr.mem (by omega) (by omega)) (hr.mem (by omega) (by omega));rw[e]at k;refine lh ?_ k;unfold dX;simp only;have:ix r 0≠ix r (n:Int):=λz=>by have:=i z;omega
 split <;> omega
theorem z4b {ns ms:zo}{k:Int}(h1:k∉ns) (h2:k∈ms):ix (ns++ms) k=ns.length+ix ms k:=by
 induction ns with
 |nil=>simp
 |cons x xs ih=>have hx:x≠k:=λz=>h1 (by rw[z];exact ax ..);rw[List.cons_append,jB (ao _ (bz _ h2)),if_neg hx,ih λz=>h1 (ao _ z)];simp only[cy];omega
theorem OQ {r:zo}{a b c d:Int}{r':zo}{k:Nat}(h1:ix r a=k+ix r' c) (h2:ix r b=k+ix r' d):dX r (a,b)=dX r' (c,d):=by
 unfold dX;simp only;rw[h1,h2]
 split <;> split <;> omega
def iP (n:Nat) (r r':zo):zo:=r++r'.map λx=>(n:Int)+x
theorem z4c (o:Aa n ps) (o':Aa m qs) (h:n+m<=6) {ra rb:zo}(ha:Au n ps ra) (hb:Au m qs rb) {S:Int}(s0:0<=S) (sa:cM n ps ra<=S) (sb:cM m qs rb<=S):
  Au (n+m) (dH n ps m qs) (iP n ra rb)/\cM (n+m) (dH n ps m qs) (iP n ra rb)<=S:=by
 have eA:∀a:Int,0<=a->a<n->ix (iP n ra rb) a=0+ix ra a:=λa a0 a1=>by unfold iP;rw[kM (ha.mem a0 a1)];omega
 have eB:∀a:Int,n<=a->a<n+m->ix (iP n ra rb) a=n+ix rb (a - n):=λa a0 a1=>by
  have hm:a - n∈rb:=hb.mem (by omega) (by omega);have hx:=E2 (g:=λx=>(n:Int)+x) (a:=a - n) (l:=rb) (λx _ (e:(n:Int)+x=n+(a - n))=>by omega) hm;have he:(n:Int)+(a - n)=a:=by omega
  have hm2:a∈rb.map λx=>(n:Int)+x:=bo.mpr ⟨a - n,hm,he⟩;simp only[he]at hx;unfold iP;rw[z4b (λz=>by have:=ha.rng _ z;omega) hm2,hx,ha.len]
 refine⟨⟨λx hx=>?_, ?_,by simp[iP,ha.len,hb.len],λ⟨a,b⟩ hq=>?_⟩,EZ s0 λ⟨a,b⟩ hq=>?_⟩
 ·rcases cm.mp hx with k|k
  ·have:=ha.rng x k;omega
  ·obtain⟨y,hy,rfl⟩:=bo.mp k;have:=hb.rng y hy;omega
 ·refine kl.mpr ⟨ha.nd,jw _ (λa b h e=>h (by omega)) hb.nd,λa h1 b h2 e=>?_⟩;obtain⟨y,hy,rfl⟩:=bo.mp h2;have:=hb.rng y hy;have:=ha.rng a h1;omega
 ·simp only
  rcases Av.mp hq with k|k|k
  ·have:=rg o k;have:=ha.up _ k;rw[eA a (by omega) (by omega),eA b (by omega) (by omega)];simp only at this;omega
  ·have:=rg o' k;have:=hb.up _ k;rw[eB a (by omega) (by omega),eB b (by omega) (by omega)];simp only at this;omega
  ·have:=mZ (ha.mem (x:=a) (by omega) (by omega));rw[ha.len]at this;rw[eA a (by omega) (by omega),eB b (by omega) (by omega)];omega
 ·obtain⟨q0,q1,q2,l1,l2,l3⟩:=Ag.mp hq;simp only at q0 q1 q2 l1 l2 l3
  by_cases c:b<n
  ·rw[OQ (eA a q0 (by omega)) (eA b (by omega) c)];refine lh (uS ?_) sa;exact Ag.mpr ⟨q0,q1,c,l1,λz=>l2 (Av.mpr (.inl z)),λz=>l3 (Av.mpr (.inl z))⟩
  ·by_cases d:a<n
   ·exact absurd (Av.mpr (.inr (.inr ⟨q0,d,by omega,by omega⟩))) l2
   ·rw[OQ (eB a (by omega) (by omega)) (eB b (by omega) (by omega))];refine lh (uS ?_) sb;exact Ag.mpr ⟨by simp only;omega,by simp only;omega,by simp only;omega,by show a - n≠b - n;omega,λz=>l2 (Av.mpr (.inr (.inl z))),λz=>l3 (Av.mpr (.inr (.inl z)))⟩
def mx (a b:Int):Int:=if b>a then b else a
theorem OR:a<=mx a b:=by unfold mx;split <;> omega
theorem z4d:b<=mx a b:=by unfold mx;split <;> omega
theorem z4e {c:Int}(h1:a<=c) (h2:b<=c):mx a b<=c:=by unfold mx;split <;> omega
theorem zD (o:Aa n ps) (h:r∈iC n ps):Au n ps r/\cM n ps r=bF n ps:=by obtain⟨h1,h2⟩:=cz.mp h;exact⟨(yZ o).mp h1,by simpa using h2⟩
theorem z4f (o:Aa n ps) (h:Au n ps r) (e:cM n ps r=bF n ps):r∈iC n ps:=cz.mpr ⟨(yZ o).mpr h,by simpa using e⟩
theorem E6 (o:Aa n ps) (o':Aa m qs) (h:n+m<=6) {ra rb:zo}(ha:ra∈iC n ps) (hb:rb∈iC m qs):
  Au (n+m) (dH n ps m qs) (iP n ra rb)/\cM (n+m) (dH n ps m qs) (iP n ra rb)=mx (bF n ps) (bF m qs)/\bF (n+m) (dH n ps m qs)=mx (bF n ps) (bF m qs):=by
 obtain⟨a1,a2⟩:=zD o ha;obtain⟨b1,b2⟩:=zD o' hb;obtain⟨k1,k2⟩:=z4c o o' h a1 b1 (S:=mx (bF n ps) (bF m qs)) (lh (z3k o) OR) (by rw[a2];exact OR) (by rw[b2];exact z4d);have k3:=N6 (lY o o' h) k1;have k4:=z4e (z48 o o' h) (z49 o o' h);exact⟨k1,by omega,by omega⟩
end
end L2.Mr.Sp
namespace L2.Mr.K06
open PySem PySem.Spec PyProof.Rows L2 L2.Mr L2.Mr.Gen
open L2.Mr.Com
open L2.Mr.Sam
open L2.Mr.Cod (last_get jI bT)
open L2.Mr.K04 (aT eW rS oI pV)
open L2.Mr.K05 (cM)
section
variable{n:Nat}{ps:y'}{r:zo}{H:Hs}{ρ:Ev}
theorem iD {F:zt}{a v:Dv}{x:Nat}{H':Hs}(ha:aA x ρ=λH=>.ok a H) (e:F [a] H=.ok v H'):aD F (aB (aA x) aC) ρ H=.ok v H':=by simp[aD,aB,ha,aC,e]
theorem pY {F:zt}{m:M Dv}{a v:Dv}{H1 H':Hs}(ha:m ρ H=.ok a H1) (e:F [a] H1=.ok v H'):aD F (aB m aC) ρ H=.ok v H':=by simp[aD,aB,ha,aC,e]
theorem OS {F:zt}{a:Dv}{x i:Nat}{H1:Hs}{xs:zu}(ha:aA x ρ=λH=>.ok a H) (e:F [a] H=.ok (.ref i) H1) (g:getL H1 i=some xs):aW bY (aD F (aB (aA x) aC)) ρ H=.ok (cO i xs.length) H1:=by simp[aW,aD,aB,ha,aC,e,bY,g]
theorem OT {x i:Nat}{xs:zu}(ha:aA x ρ=λH=>.ok (.ref i) H) (g:getL H i=some xs):aW bY (aA x) ρ H=.ok (cO i xs.length) H:=by simp[aW,ha,bY,g]
theorem all_ok (o:Aa n ps):∃i H',F_qz [aH n ps] H=.ok (.ref i) H'/\getL H' i=some ((eW n ps n).map aT)/\Fr [] H H'/\H.length<=i:=K04.all_ok o
theorem lpairs_ok (o:Aa n ps):F_qi [aH n ps] H=.ok (.ref H.length) (H++[.lst ((bT n ps).map aG)]):=K05.lpairs_ok o
theorem ga_ok {i:Nat}(g:getL H i=some ((bT n ps).map aG)) (hn:n<=6) (hm:∀x:Int,0<=x->x<n->x∈r):∃H',F_qc [aT r,.ref i] H=.ok (.int (cM n ps r)) H'/\Fr [] H H':=K05.ga_ok g hn hm
abbrev nA (n:Nat) (ps:y') (r:zo):Dv:=.tup [aT r,.int (cM n ps r)]
abbrev E7:M Dv:=aV (aB (aA 0) (aB (aD F_qc (aB (aA 0) (aB (aA 1) aC))) aC))
abbrev rwC:M zu :=aX (aW bY (aD F_qz (aB (aA 0) aC))) [none,some 1] (aF 0) bR (aU E7)
theorem z4g:uA=aJ (aM (aD F_qi (aB (aA 0) aC)) (aF 1)) (aN (bH rwC)):=rfl
theorem OU {α:Type}(f:α->Dv) (l:List α):(l.flatMap λx=>[f x])=l.map f:=by
 induction l with
 |nil=>rfl
 |cons x l ih=>rw[gn,ih];rfl
theorem OV (o:Aa n ps):∃i H',F_qa [aH n ps] H=.ok (.ref i) H'/\getL H' i=some ((eW n ps n).map (nA n ps))/\Fr [] H H'/\H.length<=i:=by
 have e1:=lpairs_ok (H:=H) o;obtain⟨H1,hH1⟩:∃H1,H1=H++[Ob.lst ((bT n ps).map aG)]:=⟨_,rfl⟩
 have f1':Fr [] H H1:=by rw[hH1];exact Fr.app
 have g1:getL H1 H.length=some ((bT n ps).map aG):=by rw[hH1];exact last_get
 rw[<-hH1]at e1;have w1:aM (aD F_qi (aB (aA 0) aC)) (aF 1) [some (aH n ps),none] H=.nx [some (aH n ps),some (.ref H.length)] H1:=rQ (iD (F:=F_qi) rfl e1) rfl;obtain⟨i,H2,e2,g2,f2,l2⟩:=all_ok (H:=H1) o;have hl:=rS o (ak n);have hf:=λr (h:r∈eW n ps n)=>N4 o h;have es:=OS (F:=F_qz) (ρ:=[some (aH n ps),some (.ref H.length)]) (x:=0) rfl e2 g2;have gp:=f2.getL g1 (by simp);obtain⟨p,hp⟩:∃p,p=H.length:=⟨_,rfl⟩
 rw[<-hp]at w1 gp es;generalize eW n ps n=R at g2 hl hf es;obtain⟨ρ',H3,h,_,f3⟩:=yM (mi:=aW bY (aD F_qz (aB (aA 0) aC))) (cap:=[none,some 1]) (src:=cO i (R.map aT).length) (sg:=aF 0) (t:=bR) (m:=aU E7) (ρ:=[some (aH n ps),some (.ref p)]) (H:=H1) (H1:=H2) R (λr=>[nA n ps r]) (λρ Hx=>(∃a,ρ=[a,some (.ref p)])/\Fr [] H2 Hx) es (by simp[cO]) ⟨⟨_,rfl⟩,Fr.refl⟩ (λρ Hx s=>by have gx:=s.2.getL g2 (by simp);simp[cO,gx])
  (λk hk ρ Hx ⟨⟨a,e⟩,f⟩=>by subst e;have gx:=f.getL g2 (by simp);obtain⟨Hy,ey,fy⟩:=ga_ok (r:=R[k]) (f.getL gp (by simp)) o.n6 (hf _ (fe hk));refine⟨aT R[k],[some (aT R[k]),some (.ref p)],by simp[cO,gx,hk],rfl,.inr ⟨Hx,rfl,λacc hl=>⟨_,Hy,yN ?_ hl,⟨_,rfl⟩,f.trans fy (by simp)⟩⟩⟩;simp[E7,aV,aB,aA,aD,aC,ey,lim]) (by rw[OU,ba];omega)
 rw[OU]at h;refine⟨H3.length,H3++[.lst (R.map (nA n ps))], ?_,last_get,((f1'.trans f2 (by simp)).trans f3 (by simp)).trans (T:=[]) Fr.app (by simp),((f1'.trans f2 (by simp)).trans (T:=[]) f3 (by simp)).le⟩;show bO (uA [some (aH n ps),none] H)=_;rw[z4g,bK w1];exact pV h
abbrev uW (mi:M Src):M zu :=aX mi [none,none] (bN 2 (aO (aF 0) (aO (aF 1) bP))) bR (aU (aA 1))
theorem OW {mi:M Src}{i:Nat}{R:zm}{H1:Hs}(hi:mi ρ H=.ok (cO i (R.map (nA n ps)).length) H1) (g:getL H1 i=some (R.map (nA n ps))) (hl:R.length<=46656):uW mi ρ H=.ok ((R.map (cM n ps)).map Dv.int) H1:=by have w:uW mi ρ H=.ok (R.filterMap λr=>some (.int (cM n ps r))) H1:=gQ R (λr=>some (.int (cM n ps r))) (λρ=>∃a b,ρ=[a,b]) hi (by simp[cO]) ⟨_,_,rfl⟩ (by simp[cO,g]) (λk hk ρ ⟨a,b,e⟩=>by subst e;exact⟨nA n ps R[k],[some (aT R[k]),some (.int (cM n ps R[k]))],by simp[cO,g,hk],rfl,⟨_,_,rfl⟩,rfl,rfl⟩) (by omega);rw[w,gw];simp[yx]
theorem OX {f:zo->Int}{i:Nat}{L:zo}(g:getL H i=some (L.map Dv.int)) (h:L≠[]):f1 (jS f) [.ref i] H=.ok (.int (f L)) H:=by have hp:=ik.mpr h;simp[f1,jS,g,uP,hp]
theorem least_ok (o:Aa n ps):∃H',F_qp [aH n ps] H=.ok (.int (gL (gW n ps))) H'/\Fr [] H H':=by obtain⟨i,H1,e1,g1,f1',_⟩:=OV (H:=H) o;have hs:=oI (OW (OS (F:=F_qa) (ρ:=[some (aH n ps)]) (x:=0) rfl e1 g1) g1 (rS o (ak n)));have gl:=last_get (H:=H1) (x:=(gW n ps).map Dv.int);refine⟨H1++[.lst ((gW n ps).map Dv.int)], ?_,f1'.trans (T:=[]) Fr.app (by simp)⟩;show bO (aN (aD (f1 (jS gL)) (aB (bH (uW (aW bY (aD F_qa (aB (aA 0) aC))))) aC)) [some (aH n ps)] H)=_;unfold aN;rw[pY hs (OX gl (pW o))];rfl
abbrev E8:M zu :=aX (aW bY (aA 1)) [none,none,some 2] (bN 2 (aO (aF 0) (aO (aF 1) bP))) (mB (m2 cI (aA 1) (aA 2))) (aU (aA 0))
theorem z4h:uB=aJ (aM (aD F_qa (aB (aA 0) aC)) (aF 1)) (aJ (aM (aD (f1 (jS gL)) (aB (bH (uW (aW bY (aA 1)))) aC)) (aF 2)) (aN (bH E8))):=rfl
theorem z4i {i:Nat}{R:zm}{m:Int}{x0:zv}(g:getL H i=some (R.map (nA n ps))) (hl:R.length<=46656):E8 [x0,some (.ref i),some (.int m)] H=.ok ((R.filter λr=>decide (cM n ps r=m)).map aT) H:=by
 have w:E8 [x0,some (.ref i),some (.int m)] H=.ok (R.filterMap λr=>if decide (cM n ps r=m)then some (aT r)else none) H:=
  gQ R _ (λρ=>∃a b,ρ=[a,b,some (.int m)]) (src:=cO i (R.map (nA n ps)).length) (OT (x:=1) rfl g) (by simp[cO]) ⟨_,_,rfl⟩ (by simp[cO,g]) (λk hk ρ ⟨a,b,e⟩=>by
   subst e;refine⟨nA n ps R[k],[some (aT R[k]),some (.int (cM n ps R[k])),some (.int m)],by simp[cO,g,hk],rfl,⟨_,_,rfl⟩, ?_⟩;have t:mB (m2 cI (aA 1) (aA 2)) [some (aT R[k]),some (.int (cM n ps R[k])),some (.int m)] H=.ok (decide (cM n ps R[k]=m)) H:=by unfold mB;rw[gS (ma:=aA 1) (mb:=aA 2) rfl rfl (K05.eq_int _ _)];rfl
   cases c:decide (cM n ps R[k]=m)with
   |true=>rw[c]at t;exact⟨t,rfl⟩
   |false=>rw[c]at t;exact t) (by omega)
 exact w.trans (congrArg (λl=>Rs.ok l _) (EN _ _ _))
theorem best_ok (o:Aa n ps):∃i H',F_qv [aH n ps] H=.ok (.ref i) H'/\getL H' i=some ((iC n ps).map aT)/\Fr [] H H'/\H.length<=i:=by obtain⟨i,H1,e1,g1,f1',l1⟩:=OV (H:=H) o;have hl:=rS o (ak n);have w1:aM (aD F_qa (aB (aA 0) aC)) (aF 1) [some (aH n ps),none,none] H=.nx [some (aH n ps),some (.ref i),none] H1:=rQ (iD (F:=F_qa) rfl e1) rfl;have hs:=oI (OW (OT (ρ:=[some (aH n ps),some (.ref i),none]) (x:=1) rfl g1) g1 hl);have gl:=last_get (H:=H1) (x:=(gW n ps).map Dv.int);have g2:=mQ (l:=[Ob.lst ((gW n ps).map Dv.int)]) g1;have f2:Fr [] H (H1++[Ob.lst ((gW n ps).map Dv.int)]):=f1'.trans (T:=[]) Fr.app (by simp);have w2:aM (aD (f1 (jS gL)) (aB (bH (uW (aW bY (aA 1)))) aC)) (aF 2) [some (aH n ps),some (.ref i),none] H1=.nx [some (aH n ps),some (.ref i),some (.int (gL (gW n ps)))] (H1++[.lst ((gW n ps).map Dv.int)]):=rQ (pY hs (OX gl (pW o))) rfl;have e3:=z4i (x0:=some (aH n ps)) (m:=gL (gW n ps)) g2 hl;refine⟨_,_, ?_,last_get (H:=H1++[Ob.lst ((gW n ps).map Dv.int)]),f2.trans (T:=[]) Fr.app (by simp),f2.le⟩;show bO (uB [some (aH n ps),none,none] H)=_;rw[z4h,bK w1,bK w2];exact pV e3
theorem first_ok (o:Aa n ps) (hb:0<(iC n ps).length):∃H',F_qn [aH n ps] H=.ok (aT (iC n ps)[0]) H'/\Fr [] H H':=by obtain⟨i,H1,e1,g1,f1',l1⟩:=best_ok (H:=H) o;refine⟨H1, ?_,f1'⟩;show bO (aN (m2 aS (aD F_qv (aB (aA 0) aC)) (mC (.int 0))) [some (aH n ps)] H)=_;have x:=jI (j:=0) g1 (by simpa using hb);rw[List.getElem_map]at x;unfold aN;rw[gS (mb:=mC (.int 0)) (iD (F:=F_qv) (x:=0) rfl e1) rfl x];rfl
end
end L2.Mr.K06
namespace L2.Mr.Com
open PySem PySem.Spec PyProof.Rows L2 L2.Mr
section
variable{st:Nat}
theorem OY {H:Hs}{m:Int}(m1:1<=m) (m6:m<=6) (s:St st H):∃(n:Nat) (cs:y') (H':Hs),F_qj [.ref st,.int m] H=.ok (aH n cs) H'/\Aa n cs/\(n:Int)<=m/\St st H'/\Fr [st] H H':=by
 have lt:=s.lt;obtain⟨v,H1,v0,v1,w1,s1,f1'⟩:=lU (m:=m) (x2:=none) (x3:=none) (x4:=none) (x5:=none) (x6:=none) (x7:=none) (x8:=none) (x9:=none) s;obtain⟨n,n1,hnm,hn⟩:∃n:Nat,1<=n/\(n:Int)<=m/\(if m - v>1 then m - v else 1)=(n:Int):=by
  by_cases c:m - v>1
  ·exact⟨(m - v).toNat,by omega,by omega,by rw[if_pos c];omega⟩
  ·exact⟨1,by omega,by omega,by rw[if_neg c];rfl⟩
 have n6:n<=6:=by omega
 have w2:o2 [some (.ref st),some (.int m),some (.int (m - v)),none,none,none,none,none,none,none] H1=.nx [some (.ref st),some (.int m),some (.int n),none,none,none,none,none,none,none] H1:=by
  have hm:iR [.int 1,.int (m - v)] H1=.ok (.int n) H1:=by rw[<-hn];rfl
  simp[o2,aM,aD,aB,mC,aA,aC,hm,aF]
 have hL:rH (.int n) H1=.ok (.ref H1.length) (H1++[.lst ((cX n).map Dv.int)]):=by
  have c:(decide (0<=(n:Int))&&decide ((n:Int)<=1000))=true:=by simp;omega
  simp only[rH,c,if_true]
 have fL:Fr [] H1 (H1++[Ob.lst ((cX n).map Dv.int)]):=Fr.app;obtain⟨ir,ys,H2,t2,er,pm,hir,s2,f2⟩:=z21 (s1.fr fL (by simp)) (j:=H1.length) (xs:=cX n) (by simp[getL]) (by simp[cX];omega);have l1:=s1.lt;have hir':H1.length+1<=ir:=by simpa using hir
 have w3:o3 [some (.ref st),some (.int m),some (.int n),none,none,none,none,none,none,none] H1=.nx [some (.ref st),some (.int m),some (.int n),some (.ref ir),none,none,none,none,none,none] H2:=by simp[o3,aM,aD,aB,aA,aC,f1,hL,t2,aF]
 have hy:ys.length=n:=by rw[pm.length_eq];simp[cX]
 obtain⟨w,H3,w0,w5,t3,f3,s3⟩:=oH 5 s2;have er3:=f3.getL er (by simp;omega);have w4:o4 [some (.ref st),some (.int m),some (.int n),some (.ref ir),none,none,none,none,none,none] H2=.nx [some (.ref st),some (.int m),some (.int n),some (.ref ir),some (.int w),none,none,none,none,none] H3:=by simp[o4,aM,aD,aB,aA,mC,aC,t3,aF]
 have w5':o5 [some (.ref st),some (.int m),some (.int n),some (.ref ir),some (.int w),none,none,none,none,none] H3=.nx [some (.ref st),some (.int m),some (.int n),some (.ref ir),some (.int w),some (.ref H3.length),none,none,none,none] (H3++[.lst []]):=rfl;have fM:Fr [] H3 (H3++[Ob.lst []]):=Fr.app;have eP:getL (H3++[Ob.lst []]) H3.length=some (([]:y').map aG):=by simp[getL]
 have l2:=pA er;have l3:=pA er3;have l4:=s3.lt;obtain⟨ms,H4,hms,w6,s4,f4⟩:=lV (x1:=some (.int m)) (x2:=some (.int n)) (x4:=some (.int w)) (x5:=some (.ref H3.length)) (x6:=none) (x7:=none) (x8:=none) (x9:=none) (s3.fr fM (by simp)) (fM.getL er3 (by simp)) (by omega) (by omega);have eP4:=f4.getL eP (by simp;omega);have er4:=f4.getL (fM.getL er3 (by simp)) (by simp;omega);have hle:H3.length+1<=H4.length:=by have:=f4.le;simpa using this
 have fN:Fr [] H4 (H4++[Ob.lst (ms.map Dv.int)]):=Fr.app;have D:Std st ir H4.length ys ms (H4++[Ob.lst (ms.map Dv.int)]):=⟨s4.fr fN (by simp),fN.getL er4 (by simp),by simp[getL]⟩
 obtain⟨x7,x8,x9,H5,ps,w7,eP5,hb,D5,f5⟩:=lS (d1:=.int m) (w:=w) (ip:=H3.length) (n:=n) (x7:=none) (x8:=none) (x9:=none) D (fN.getL eP4 (by simp)) ⟨w0,w5⟩ n6 hy (by omega) (by omega) (by omega) (by omega) (by omega) (by omega);have fall:Fr [st] H H5:=by
  have g1:Fr [st] H H2:=(f1'.trans fL (by simp)).trans f2 (by simp);have g2:Fr [st] H (H3++[Ob.lst []]):=(g1.trans f3 (by simp)).trans fM (by simp);have g3:Fr [st] H (H4++[Ob.lst (ms.map Dv.int)]):=(g2.trans f4 (by simp)).trans fN (by simp);refine g3.trans f5 λj hj=>?_
  rcases aw.mp hj with rfl|hj
  ·exact .inl (by simp)
  ·rw[cg.mp hj];have:=f1'.le;have:=f2.le;have:=f3.le;right;omega
 have fin:∀(q:Nat) (y7:zv) (H6:Hs) (qs:y'),getL H6 q=some (qs.map aG)->yT n qs->Fr [] H5 H6->o8 (cE st ir H3.length H4.length n w (.int m) x7 x8 x9) H5=.nx (cE st ir q H4.length n w (.int m) y7 x8 x9) H6->
   ∃(cs:y') (H':Hs),F_qj [.ref st,.int m] H=.ok (aH n cs) H'/\Aa n cs/\(n:Int)<=m/\St st H'/\Fr [st] H H':=λq y7 H6 qs eq6 g6 f6 w8=>by
  obtain⟨cs,j,H7,hc,tc,ec,f7⟩:=z2b n6 g6.1 (NM eq6);refine⟨cs,H7, ?_,z2c n1 n6 g6 hc,hnm,(D5.s.fr f6 (by simp)).fr f7 (by simp),(fall.trans f6 (by simp)).trans f7 (by simp)⟩;have w9:o9 (cE st ir q H4.length n w (.int m) y7 x8 x9) H6=.rt (aH n cs) H7:=by
   have h1:aD F_qg (aB (aA 5) aC) (cE st ir q H4.length n w (.int m) y7 x8 x9) H6=.ok (.ref j) H7:=by simp[aD,aB,aA,aC,tc]
   have h2:aD (f1 fK) (aB (aD F_qg (aB (aA 5) aC)) aC) (cE st ir q H4.length n w (.int m) y7 x8 x9) H6=.ok (.tup (cs.map aG)) H7:=by
    have h0:aB (aD F_qg (aB (aA 5) aC)) aC (cE st ir q H4.length n w (.int m) y7 x8 x9) H6=.ok [.ref j] H7:=by show(aD F_qg (aB (aA 5) aC) (cE st ir q H4.length n w (.int m) y7 x8 x9) H6).bind _=_;rw[h1];rfl
    show(aB (aD F_qg (aB (aA 5) aC)) aC (cE st ir q H4.length n w (.int m) y7 x8 x9) H6).bind _=_;rw[h0];simp[f1,fK,ec]
   unfold o9 aN aV;rw[show aB (aA 2) (aB (aD (f1 fK) (aB (aD F_qg (aB (aA 5) aC)) aC)) aC) (cE st ir q H4.length n w (.int m) y7 x8 x9) H6=.ok [.int n,.tup (cs.map aG)] H7 by unfold aB;show((Rs.ok (Dv.int n) H6).bind _)=_;rw[Rs.bind_ok];show((aD (f1 fK) (aB (aD F_qg (aB (aA 5) aC)) aC) (cE st ir q H4.length n w (.int m) y7 x8 x9) H6).bind _).bind _=_;rw[h2];rfl];rfl
  show bO (iX [some (.ref st),some (.int m),none,none,none,none,none,none,none,none] H)=_;rw[lT,bK w1,bK w2,bK w3,bK w4,bK w5',bK w6,bK w7,bK w8,w9];rfl
 have t8:mB (m2 cI (aA 4) (mC (.int 3))) (cE st ir H3.length H4.length n w (.int m) x7 x8 x9) H5=.ok (w==3) H5:=by simp[mB,m2,aA,mC,eq_int,eR]
 by_cases h3:w=3
 ·have fQ:Fr [] H5 (H5++[Ob.lst []]):=Fr.app;obtain⟨q,y7,H6,qs,k1,k2,k3,k4⟩:=z2h (st:=st) (ir:=ir) (im:=H4.length) (n:=n) (w:=w) (d1:=.int m) (ip0:=H5.length) (x7:=x7) (x8:=x8) (x9:=x9) (D5.fr fQ (D5.s.fr fQ (by simp)) (by simp) (by simp)) (by simp[getL]) n6 (by omega);obtain⟨cs,H',r⟩:=fin q y7 H6 qs k2 (z2f k3) (fQ.trans k4 (by simp)) (by unfold o8;have wA:aM (dM aC) (aF 5) (cE st ir H3.length H4.length n w (.int m) x7 x8 x9) H5=.nx (cE st ir H5.length H4.length n w (.int m) x7 x8 x9) (H5++[Ob.lst []]):=rfl;rw[tO (t8.trans (by rw[h3];rfl)),bK wA,k1]);exact⟨n,cs,H',r⟩
 ·obtain⟨cs,H',r⟩:=fin H3.length x7 H5 ps eP5 (z2e pm hb) Fr.refl (by
   unfold o8;have:(w==3)=false:=by simpa using h3
   rw[kJ (t8.trans (by rw[this]))];rfl)
  exact⟨n,cs,H',r⟩
end
end L2.Mr.Com
namespace L2.Mr.K82
open PySem PySem.Spec PyProof.Rows L2 L2.Mr L2.Mr.Gen
open L2.Mr.Com
open L2.Mr.Cod (last_get jI bT)
open L2.Mr.K04 (aT oI pV)
open L2.Mr.K05 (cM iZ)
open L2.Mr.K06 (gW iC iD pY)
open L2.Mr.Sp
open L2.Mr.K03 (fY OB E3)
open L2.Mr.K81 (wo)
section
variable{n m:Nat}{ps qs:y'}{r:zo}{H:Hs}{ρ:Ev}{x:Int}
theorem need_ok (o:Aa n ps):F_qq [aH n ps] H=.ok .non H:=K05.need_ok o
theorem turned_ok (o:Aa n ps):∃H',F_qC [aH n ps] H=.ok (aH n (dN bZ (fY ps))) H'/\Fr [] H H':=K03.turned_ok o
theorem wo_ok (o:Aa (n+1) ps) (h1:1<=n) (x0:0<=x) (x1:x<(n+1:Nat)):∃H',F_qA [aH (n+1) ps,.int x] H=.ok (aH n (wo x ps)) H'/\Fr [] H H':=by have e:F_qA [aH (n+1) ps,.int x] H=_:=K81.wo_ok o (by omega) x0 x1;rw[show((n+1:Nat):Int) - 1=n by omega]at e;exact⟨_,e,Fr.app⟩
theorem least_ok (o:Aa n ps):∃H',F_qp [aH n ps] H=.ok (.int (bF n ps)) H'/\Fr [] H H':=K06.least_ok o
theorem best_ok (o:Aa n ps):∃i H',F_qv [aH n ps] H=.ok (.ref i) H'/\getL H' i=some ((iC n ps).map aT)/\Fr [] H H'/\H.length<=i:=K06.best_ok o
theorem first_ok (o:Aa n ps):∃r H',F_qn [aH n ps] H=.ok (aT r) H'/\r∈iC n ps/\Fr [] H H':=by have hb:=ik.mpr (K06.bst_ne o);obtain⟨H',e,f⟩:=K06.first_ok (H:=H) o hb;exact⟨_,H',e,fe hb,f⟩
theorem E9 (h:r.length<=500):TK 1 H (aT r):=.tup (by simpa using h) λx hx=>by
 obtain⟨y,_,rfl⟩:=bo.mp hx
 trivial
theorem Au.l6 (h:Au n ps r) (o:Aa n ps):r.length<=6:=by rw[h.len];exact o.n6
theorem FA (h:Au n ps r):iZ n ps (aT r)=true:=by rw[K05.rowB_ints h.rng];unfold K05.rowP;simp only[cw,decide_eq_true_eq,dz];exact⟨⟨h.len,h.nd⟩,λq hq=>by simpa using h.up q hq⟩
theorem z4j (o:Aa n ps) (h:Au n ps r):F_qB [aH n ps,aT r] H=.ok (.bl true) H:=by have e:F_qB [aH n ps,aT r] H=_:=K05.isrow_any o (E9 (by have:=Au.l6 h o;omega));rw[e,FA h]
theorem OZ (o:Aa n ps) (h:Au n ps r):F_q5 [aH n ps,aT r] H=.ok .non H:=by have e:F_q5 [aH n ps,aT r] H=_:=K05.need_row_ok o (E9 (by have:=Au.l6 h o;omega));rw[e,FA h];rfl
theorem z4k (o:Aa n ps) (h:Au n ps r):∃H',F_q8 [aH n ps,aT r] H=.ok (.int (cM n ps r)) H'/\Fr [] H H':=K05.span_T o (E9 (by have:=Au.l6 h o;omega)) h.rng (FA h)
theorem z4l {k:Int}(h:k<=6):F_q4 [.int k] H=.ok .non H:=by
 have:¬ (k>6):=by omega
 simp[F_q4,MA,aR,cQ,bQ,mB,m2,aA,mC,lD,iG,this,eR,bW,bO]
theorem O2 {F:zt}{a v:Dv}{x:Nat}(ha:aA x ρ=λH=>.ok a H) (e:F [a] H=.ok v H):bJ (aD F (aB (aA x) aC)) ρ H=.nx ρ H:=by simp[bJ,aD,aB,ha,aC,e]
theorem exM {F:zt}{m:M Dv}{a v:Dv}(ha:m ρ H=.ok a H) (e:F [a] H=.ok v H):bJ (aD F (aB m aC)) ρ H=.nx ρ H:=by simp[bJ,aD,aB,ha,aC,e]
theorem uX {F:zt}{a b v:Dv}{x y:Nat}(ha:aA x ρ=λH=>.ok a H) (hb:aA y ρ=λH=>.ok b H) (e:F [a,b] H=.ok v H):bJ (aD F (aB (aA x) (aB (aA y) aC))) ρ H=.nx ρ H:=by simp[bJ,aD,aB,ha,hb,aC,e]
theorem nB {F:zt}{a b v:Dv}{x y:Nat}{H':Hs}(ha:aA x ρ=λH=>.ok a H) (hb:aA y ρ=λH=>.ok b H) (e:F [a,b] H=.ok v H'):aD F (aB (aA x) (aB (aA y) aC)) ρ H=.ok v H':=by simp[aD,aB,ha,hb,aC,e]
abbrev nm:M Dv:=m2 cC (m2 aS (aA 0) (mC (.int 0))) (m2 aS (aA 1) (mC (.int 0)))
theorem FC (h0:aA 0 ρ=λH=>.ok (aH n ps) H) (h1:aA 1 ρ=λH=>.ok (aH m qs) H):nm ρ H=.ok (.int ((n+m:Nat):Int)) H:=by unfold nm m2;rw[h0,h1];rfl
theorem FD (o:Aa n ps) (o':Aa m qs) (h:n+m<=6):F_qy [aH n ps,aH m qs] H=.ok .non H:=by show bO (aJ (bJ (aD F_qq (aB (aA 0) aC))) (aJ (bJ (aD F_qq (aB (aA 1) aC))) (bJ (aD F_q4 (aB nm aC)))) [some (aH n ps),some (aH m qs)] H)=_;rw[bK (O2 (F:=F_qq) rfl (need_ok o)),bK (O2 (F:=F_qq) (x:=1) rfl (need_ok o')),exM (F:=F_q4) (FC rfl rfl) (z4l (by omega))];rfl
abbrev pC:M zu :=aX (aW dF (m2 aS (aA 1) (mC (.int 1)))) [none,none,some 2] (bN 2 (aO (aF 0) (aO (aF 1) bP))) bR (aU (aV (aB (m2 cC (aA 2) (aA 0)) (aB (m2 cC (aA 2) (aA 1)) aC))))
theorem z4m {x0:zv}{N:Int}(hl:qs.length<=900):pC [x0,some (aH m qs),some (.int N)] H=.ok ((qs.map λq=>(N+q.1,N+q.2)).map aG) H:=by have w:pC [x0,some (aH m qs),some (.int N)] H=.ok (qs.filterMap λq=>some (aG (N+q.1,N+q.2))) H:=gQ qs (λq=>some (aG (N+q.1,N+q.2))) (λρ=>∃a b,ρ=[a,b,some (.int N)]) (src:=dD (qs.map aG)) rfl (by simp[dD]) ⟨_,_,rfl⟩ rfl (λk hk ρ ⟨a,b,e⟩=>by subst e;exact⟨aG qs[k],[some (.int qs[k].1),some (.int qs[k].2),some (.int N)],by simp[dD,hk],rfl,⟨_,_,rfl⟩,rfl,rfl⟩) (by omega);rw[w,gw,nj];rfl
theorem nE {i j:Nat}{xs ys:zu}(g:getL H i=some xs) (g':getL H j=some ys) (hl:xs.length+ys.length<=1000000):cC (.ref i) (.ref j) H=.ok (.ref H.length) (H++[.lst (xs++ys)]):=by simp[cC,kX,g,g',lim,hl]
theorem O3 (o:Aa n ps) (o':Aa m qs):∃i H',F_qd [aH n ps,aH m qs] H=.ok (.ref i) H'/\getL H' i=some ((dS n ps qs).map aG)/\Fr [] H H'/\H.length<=i:=by
 have l1:=o.len;have l2:=o'.len;have w1:aM (m2 aS (aA 0) (mC (.int 0))) (aF 2) [some (aH n ps),some (aH m qs),none] H=.nx [some (aH n ps),some (aH m qs),some (.int n)] H:=rfl;have e1:aD (f1 iU) (aB (m2 aS (aA 0) (mC (.int 1))) aC) [some (aH n ps),some (aH m qs),some (.int n)] H=.ok (.ref H.length) (H++[.lst (ps.map aG)]):=rfl;have g1:getL (H++[Ob.lst (ps.map aG)]) H.length=some (ps.map aG):=last_get;have f1':Fr [] H (H++[Ob.lst (ps.map aG)]):=Fr.app;have lt:H.length<(H++[Ob.lst (ps.map aG)]).length:=by simp
 generalize H++[Ob.lst (ps.map aG)]=H1 at e1 g1 f1' lt;have e2:=oI (z4m (H:=H1) (m:=m) (qs:=qs) (x0:=some (aH n ps)) (N:=(n:Int)) (by omega));have g2:getL (H1++[Ob.lst ((jJ n qs).map aG)]) H1.length=some ((jJ n qs).map aG):=last_get;have f2:Fr [] H1 (H1++[Ob.lst ((jJ n qs).map aG)]):=Fr.app;change bH pC _ H1=.ok (.ref H1.length) (H1++[Ob.lst ((jJ n qs).map aG)])at e2;have g1':=f2.getL g1 (by simp);have le2:=f2.le;generalize H1++[Ob.lst ((jJ n qs).map aG)]=H2 at e2 g2 f2 g1' le2;have e3:=nE g1' g2 (by simp[jJ];omega);refine⟨H2.length,H2++[.lst (ps.map aG++(jJ n qs).map aG)], ?_, ?_,(f1'.trans f2 (by simp)).trans (T:=[]) Fr.app (by simp),by omega⟩
 ·show bO (aJ (aM (m2 aS (aA 0) (mC (.int 0))) (aF 2)) (aN (m2 cC (aD (f1 iU) (aB (m2 aS (aA 0) (mC (.int 1))) aC)) (bH pC))) [some (aH n ps),some (aH m qs),none] H)=_;rw[bK w1];unfold aN;rw[gS e1 e2 e3];rfl
 ·rw[last_get,dS,gg]
theorem z4n {ma mb:M Dv}{a b:Dv}{H1 H2:Hs}(h0:ma ρ H=.ok a H1) (h1:mb ρ H1=.ok b H2):aV (aB ma (aB mb aC)) ρ H=.ok (.tup [a,b]) H2:=by simp[aV,aB,h0,h1,aC,lim]
theorem z4o (o:Aa n ps) (o':Aa m qs) (h:n+m<=6):∃H',F_q7 [aH n ps,aH m qs] H=.ok (aH (n+m) (dS n ps qs)) H'/\Fr [] H H':=by
 obtain⟨i,H1,e1,g1,f,_⟩:=O3 (H:=H) o o';refine⟨H1, ?_,f⟩;show bO (aJ (bJ (aD F_qy (aB (aA 0) (aB (aA 1) aC)))) (aN (aV (aB nm (aB (aD (f1 fK) (aB (aD F_qd (aB (aA 0) (aB (aA 1) aC))) aC)) aC)))) [some (aH n ps),some (aH m qs)] H)=_;rw[bK (uX (F:=F_qy) rfl rfl (FD o o' h))];have a1:=FC (n:=n) (m:=m) (ps:=ps) (qs:=qs) (H:=H) (ρ:=[some (aH n ps),some (aH m qs)]) rfl rfl;have a2:aD F_qd (aB (aA 0) (aB (aA 1) aC)) [some (aH n ps),some (aH m qs)] H=.ok (.ref i) H1:=nB (F:=F_qd) rfl rfl e1;have a3:f1 fK [.ref i] H1=.ok (.tup ((dS n ps qs).map aG)) H1:=by simp[f1,fK,g1]
 have a4:=pY a2 a3;unfold aN;rw[z4n a1 a4];rfl
abbrev bC:M zu :=aX (aQ cP (aB (m2 aS (aA 0) (mC (.int 0))) aC)) [none,none,some 2,some 0] (aF 0) bR (fR (aQ hY (aB (m2 aS (aA 3) (mC (.int 0))) (aB (aA 2) aC))) (aF 1) bR (aU (aV (aB (aA 0) (aB (aA 1) aC)))))
theorem z4p (h:n+m<=6) {x1 x3:zv}:bC [some (aH n ps),x1,some (.int ((n+m:Nat):Int)),x3] H=.ok ((gF n m).map aG) H:=by
 have e:((ay n).flatMap λa:Nat=>(ay m).filterMap λj:Nat=>some (aG ((a:Int),(n:Int)+(j:Int))))=(gF n m).map aG:=by
  unfold gF;rw[List.map_flatMap]
  congr 1
  funext a
  rw[nj,gw];rfl
 have hlen:((ay n).flatMap λa:Nat=>(ay m).filterMap λj:Nat=>some (aG ((a:Int),(n:Int)+(j:Int)))).length<=900000:=by rw[e,ba,OF];have:=ku (show n<=6 by omega) (show m<=6 by omega);omega
 have w:=DZ (mi:=aQ cP (aB (m2 aS (aA 0) (mC (.int 0))) aC)) (mj:=aQ hY (aB (m2 aS (aA 3) (mC (.int 0))) (aB (aA 2) aC))) (cap:=[none,none,some 2,some 0]) (sg:=aF 0) (sg2:=aF 1) (t2:=bR) (e:=aV (aB (aA 0) (aB (aA 1) aC))) (ρ:=[some (aH n ps),x1,some (.int ((n+m:Nat):Int)),x3]) (H:=H) (H1:=H) (ay n) (λ_=>ay m) (λa j=>some (aG ((a:Int),(n:Int)+(j:Int)))) (λρ=>∃x y,ρ=[x,y,some (.int ((n+m:Nat):Int)),some (aH n ps)]) (src:=dC 0 n) (yV (L:=(n:Int)) rfl (by omega) (by omega)) (by simp[dC]) ⟨_,_,rfl⟩ rfl (λk hk ρ ⟨x,y,e⟩=>by
   subst e;have gk:(ay n)[k]=k:=mq ..;have h00:(0+(k:Int))=(k:Int):=by omega
   refine⟨.int (0+k),[some (.int (0+k)),y,some (.int ((n+m:Nat):Int)),some (aH n ps)],dC (n:Int) ((n+m:Nat):Int),λρ=>∃y,ρ=[some (.int (k:Int)),y,some (.int ((n+m:Nat):Int)),some (aH n ps)],rfl,rfl,⟨y,by rw[h00]⟩,λρ ⟨y,e⟩=>⟨_,y,e⟩, ?_, ?_,rfl, ?_⟩
   ·exact K05.rng2M (A:=(n:Int)) (B:=((n+m:Nat):Int)) rfl rfl (by omega) (by omega) (by omega) (by omega)
   ·simp[dC];omega
   ·intro j hj ρ ⟨y,e⟩;subst e;have gj:(ay m)[j]=j:=mq ..;refine⟨.int ((n:Int)+j),[some (.int (k:Int)),some (.int ((n:Int)+j)),some (.int ((n+m:Nat):Int)),some (aH n ps)],rfl,rfl,⟨_,rfl⟩, ?_⟩;rw[gj,gk];exact⟨rfl,rfl⟩) hlen
 rw[e]at w;exact w
theorem O4 (o:Aa n ps) (o':Aa m qs) (h:n+m<=6):∃H',F_q9 [aH n ps,aH m qs] H=.ok (aH (n+m) (dH n ps m qs)) H'/\Fr [] H H':=by
 have w2:aM nm (aF 2) [some (aH n ps),some (aH m qs),none,none] H=.nx [some (aH n ps),some (aH m qs),some (.int ((n+m:Nat):Int)),none] H:=rQ (FC rfl rfl) rfl;have w3:aM (bH bC) (aF 3) [some (aH n ps),some (aH m qs),some (.int ((n+m:Nat):Int)),none] H=.nx [some (aH n ps),some (aH m qs),some (.int ((n+m:Nat):Int)),some (.ref H.length)] (H++[.lst ((gF n m).map aG)]):=EO (z4p h) rfl;have g1:getL (H++[Ob.lst ((gF n m).map aG)]) H.length=some ((gF n m).map aG):=last_get;have f1':Fr [] H (H++[Ob.lst ((gF n m).map aG)]):=Fr.app;have le1:=f1'.le;generalize H++[Ob.lst ((gF n m).map aG)]=H1 at w3 g1 f1' le1;obtain⟨i,H2,e2,g2,f2,l2⟩:=O3 (H:=H1) o o';have l3:=(lY o o' h).len;unfold dH at l3;rw[(oA _).length_eq]at l3;have a2:aD F_qd (aB (aA 0) (aB (aA 1) aC)) [some (aH n ps),some (aH m qs),some (.int ((n+m:Nat):Int)),some (.ref H.length)] H1=.ok (.ref i) H2:=nB (F:=F_qd) rfl rfl e2;have a3:=nE g2 (f2.getL g1 (by simp)) (by rw[ba,ba,<-bw];omega);rw[<-gg]at a3;have a4:=gS (mb:=aA 3) a2 rfl a3;have g3:getL (H2++[Ob.lst ((dS n ps qs++gF n m).map aG)]) H2.length=some ((dS n ps qs++gF n m).map aG):=last_get;have f3:Fr [] H2 (H2++[Ob.lst ((dS n ps qs++gF n m).map aG)]):=Fr.app;have t:=E3 (n:=n+m) (mn:=aA 2) rfl a4 g3 (by omega);refine⟨H2++[Ob.lst ((dS n ps qs++gF n m).map aG)]++[Ob.lst ((dH n ps m qs).map aG)], ?_,((f1'.trans f2 (by simp)).trans f3 (by simp)).trans (T:=[]) Fr.app (by simp)⟩
 ·show bO (aJ (bJ (aD F_qy (aB (aA 0) (aB (aA 1) aC)))) (aJ (aM nm (aF 2)) (aJ (aM (bH bC) (aF 3)) (aN (aV (aB (aA 2) (aB (aD (f1 fK) (aB (aD (f1 jW) (aB (m2 cC (aD F_qd (aB (aA 0) (aB (aA 1) aC))) (aA 3)) aC)) aC)) aC)))))) [some (aH n ps),some (aH m qs),none,none] H)=_;rw[bK (uX (F:=F_qy) rfl rfl (FD o o' h)),bK w2,bK w3];unfold aN;rw[t];rfl
abbrev rC:M zu :=aX (aW dF (aA 3)) [none,some 0] (aF 0) bR (aU (m2 cC (m2 aS (aA 1) (mC (.int 0))) (aA 0)))
theorem z4q {x1 x2:zv}(hl:r.length<=900):rC [some (aH n ps),x1,x2,some (aT r)] H=.ok ((r.map λx=>(n:Int)+x).map Dv.int) H:=by have w:rC [some (aH n ps),x1,x2,some (aT r)] H=.ok (r.filterMap λx=>some (.int ((n:Int)+x))) H:=gQ r (λx=>some (.int ((n:Int)+x))) (λρ=>∃a,ρ=[a,some (aH n ps)]) (src:=dD (r.map Dv.int)) rfl (by simp[dD]) ⟨_,rfl⟩ rfl (λk hk ρ ⟨a,e⟩=>by subst e;exact⟨.int r[k],[some (.int r[k]),some (aH n ps)],by simp[dD,hk],rfl,⟨_,rfl⟩,rfl,rfl⟩) (by omega);rw[w,gw,nj];rfl
theorem z4r (o:Aa n ps) (o':Aa m qs) (h:n+m<=6) {r':zo}(hr:Au n ps r) (hr':Au m qs r'):F_qf [aH n ps,aH m qs,aT r,aT r'] H=.ok (aT (iP n r r')) H:=by
 have l1:=Au.l6 hr o;have l2:=Au.l6 hr' o';show bO (aJ (bJ (aD F_qy (aB (aA 0) (aB (aA 1) aC)))) (aJ (bJ (aD F_q5 (aB (aA 0) (aB (aA 2) aC)))) (aJ (bJ (aD F_q5 (aB (aA 1) (aB (aA 3) aC)))) (aN (m2 cC (aA 2) (mL mO rC))))) [some (aH n ps),some (aH m qs),some (aT r),some (aT r')] H)=_;rw[bK (uX (F:=F_qy) rfl rfl (FD o o' h)),bK (uX (F:=F_q5) (x:=0) (y:=2) rfl rfl (OZ o hr)),bK (uX (F:=F_q5) (x:=1) (y:=3) rfl rfl (OZ o' hr'))];have e:=z4q (n:=n) (ps:=ps) (r:=r') (H:=H) (x1:=some (aH m qs)) (x2:=some (aT r)) (by omega);have e2:mL mO rC [some (aH n ps),some (aH m qs),some (aT r),some (aT r')] H=.ok (aT (r'.map λx=>(n:Int)+x)) H:=by unfold mL;rw[e];rfl
 unfold aN;rw[gS (ma:=aA 2) rfl e2 (NT _ _ (by simp;omega)),<-gg];rfl
abbrev rW (r:zo):Dt:=.tup (r.map Dt.int)
theorem O5:∀rs:zm,bG (bU cH H) (rs.map aT)=some (rs.map rW)
 | []=>rfl
 |r::rs=>by
  have h1:bU cH H (aT r)=some (rW r):=by show(match bG (bU 29 H) (r.map Dv.int)with|some ts=>some (Dt.tup ts)|none=>none)=_;rw[rB 28 H r]
  rw[df,bG,h1,O5 rs];rfl
theorem O6:∀r:zo,jD (r.map Dt.int)=true
 | []=>rfl
 |x::r=>by rw[df,jD,O6 r];rfl
theorem z4s {i:Nat}{rs:zm}(g:getL H i=some (rs.map aT)) (h:r∈rs):cN true (aT r) (.ref i) H=.ok (.bl false) H:=by
 have h1:bU cH H (aT r)=some (rW r):=by show(match bG (bU 29 H) (r.map Dv.int)with|some ts=>some (Dt.tup ts)|none=>none)=_;rw[rB 28 H r]
 have h2:(rs.map rW).any (λt=>bM t (rW r))=true:=by rw[jt];exact⟨rW r,bo.mpr ⟨r,h,rfl⟩,vQ _ (by rw[nod];exact O6 r)⟩
 show jQ [] true (aT r) (.ref i) H=_;simp only[jQ,fJ,g,O5 rs,h1,h2];rfl
end
open L2.Mr.Cod (last_get jI bT)
open L2.Mr.K04 (aT oI pV)
open L2.Mr.K05 (cM iZ)
open L2.Mr.K06 (gW iC iD pY)
open L2.Mr.K03 (fY)
open L2.Mr.K81 (wo)
section
variable{n m st:Nat}{ps qs:y'}{r:zo}{H:Hs}{ρ:Ev}{x:Int}
theorem FE {e:M Dv}{H':Hs}(h:e ρ H=.ok (.bl true) H'):mB (m2 (lA true) e (mC (.bl true))) ρ H=.ok false H':=by unfold mB;rw[gS (mb:=mC (.bl true)) h rfl (z:=.bl false) (H3:=H') rfl];rfl
theorem zE {ma mb:M Dv}{a:Int}{H1 H2:Hs}(h1:ma ρ H=.ok (.int a) H1) (h2:mb ρ H1=.ok (.int a) H2):mB (m2 cJ ma mb) ρ H=.ok false H2:=by
 have e:cJ (.int a) (.int a) H2=.ok (.bl false) H2:=by simp[cJ,cH,bU,bM]
 unfold mB;rw[gS h1 h2 e];rfl
theorem O7 {i j:Nat}{ma mb:M Dv}{a b:Dv}{H1 H2:Hs}(h1:ma ρ H=.ok a H1) (h2:mb ρ H1=.ok b H2):mT i j (aB ma (aB mb aC)) ρ H=.nx ((ρ.set i (some a)).set j (some b)) H2:=by simp[mT,aB,h1,h2,aC]
theorem zF {F:zt}{ma mb:M Dv}{a b v:Dv}{H1 H2 H':Hs}(ha:ma ρ H=.ok a H1) (hb:mb ρ H1=.ok b H2) (e:F [a,b] H2=.ok v H'):aD F (aB ma (aB mb aC)) ρ H=.ok v H':=by simp[aD,aB,ha,hb,aC,e]
theorem z4t {F:zt}{ma mb mc md:M Dv}{a b c d v:Dv}{H1 H2 H3 H4 H':Hs}(ha:ma ρ H=.ok a H1) (hb:mb ρ H1=.ok b H2) (hc:mc ρ H2=.ok c H3) (hd:md ρ H3=.ok d H4) (e:F [a,b,c,d] H4=.ok v H'):aD F (aB ma (aB mb (aB mc (aB md aC)))) ρ H=.ok v H':=by simp[aD,aB,ha,hb,hc,hd,aC,e]
theorem v {i:Nat}{d:Dv}(h:At ρ i d):aA i ρ H=.ok d H:=by rw[h.v]
abbrev ls (i:Nat):M Dv:=aD F_qp (aB (aA i) aC)
theorem zG (o:Aa n ps) {i:Nat}(h:At ρ i (aH n ps)):∃H',ls i ρ H=.ok (.int (bF n ps)) H'/\Fr [] H H':=by obtain⟨H',e,f⟩:=least_ok (H:=H) o;exact⟨H',iD (F:=F_qp) h.v e,f⟩
theorem O8 (o:Aa n ps) {e:M Dv}{H1:Hs}(h:e ρ H=.ok (aH n ps) H1):∃H',aD F_qp (aB e aC) ρ H=.ok (.int (bF n ps)) H'/\Fr [] H1 H':=by obtain⟨H',e',f⟩:=least_ok (H:=H1) o;exact⟨H',pY (F:=F_qp) h e',f⟩
abbrev zH:M Dv:=aD iR (aB (aA 5) (aB (aA 6) aC))
theorem FF {a b:Int}(h5:At ρ 5 (.int a)) (h6:At ρ 6 (.int b)):zH ρ H=.ok (.int (mx a b)) H:=nB (F:=iR) h5.v h6.v rfl
abbrev rF:MS:=aN (mC (.bl false))
structure Kn (n:Nat) (ps:y') (m:Nat) (qs:y') (st:Nat) (ρ:Ev):Prop where
 L:ρ.length=10
 a0:At ρ 0 (.ref st)
 a1:At ρ 1 (aH n ps)
 a2:At ρ 2 (aH m qs)
 a3:At ρ 3 (aH (n+m) (dH n ps m qs))
 a4:At ρ 4 (aH (n+m) (dS n ps qs))
 a5:At ρ 5 (.int (bF n ps))
 a6:At ρ 6 (.int (bF m qs))
theorem Kn.set (k:Kn n ps m qs st ρ) {i:Nat}{x:zv}(h:7<=i):Kn n ps m qs st (ρ.set i x):=⟨by simp[k.L],k.a0.o (by omega),k.a1.o (by omega),k.a2.o (by omega),k.a3.o (by omega),k.a4.o (by omega),k.a5.o (by omega),k.a6.o (by omega)⟩
abbrev i1:MS:=bQ (eH (mB (m2 (lA true) (aD F_q0 (aB (aA 3) aC)) (mC (.bl true)))) (eH (mB (m2 (lA true) (aD F_q0 (aB (aA 4) aC)) (mC (.bl true)))) (mB (m2 cJ (ls 3) zH)))) rF bW
theorem z4u (o:Aa n ps) (o':Aa m qs) (h:n+m<=6) (k:Kn n ps m qs st ρ) (hb:bF (n+m) (dH n ps m qs)=mx (bF n ps) (bF m qs)):∃H',i1 ρ H=.nx ρ H'/\Fr [] H H':=by obtain⟨H1,e,f⟩:=zG (H:=H) (lY o o' h) k.a3;rw[hb]at e;refine⟨H1,(kJ ?_).trans rfl,f⟩;rw[mY (FE (iD (F:=F_q0) k.a3.v (yQ (lY o o' h)))),mY (FE (iD (F:=F_q0) k.a4.v (yQ (pX o o' h))))];exact zE e (FF k.a5 k.a6)
abbrev s4:MS:=aM (aD F_qf (aB (aA 1) (aB (aA 2) (aB (aD F_qn (aB (aA 1) aC)) (aB (aD F_qn (aB (aA 2) aC)) aC))))) (aF 7)
theorem z4v (o:Aa n ps) (o':Aa m qs) (h:n+m<=6) (k:Kn n ps m qs st ρ):∃r r' H',s4 ρ H=.nx (ρ.set 7 (some (aT (iP n r r')))) H'/\r∈iC n ps/\r'∈iC m qs/\Fr [] H H':=by obtain⟨r,H1,e1,h1,f1'⟩:=first_ok (H:=H) o;obtain⟨r',H2,e2,h2,f2⟩:=first_ok (H:=H1) o';exact⟨r,r',H2,rT (z4t (F:=F_qf) (v k.a1) (v k.a2) (iD (F:=F_qn) k.a1.v e1) (iD (F:=F_qn) k.a2.v e2) (z4r o o' h (zD o h1).1 (zD o' h2).1)),h1,h2,f1'.trans f2 (by simp)⟩
abbrev i2:MS:=bQ (eH (mB (m2 (lA true) (aD F_qB (aB (aA 3) (aB (aA 7) aC))) (mC (.bl true)))) (eH (mB (m2 cJ (aD F_q8 (aB (aA 3) (aB (aA 7) aC))) zH)) (mB (m2 (cN true) (aA 7) (aD F_qv (aB (aA 3) aC)))))) rF bW
theorem z4w (o:Aa (n+m) (dH n ps m qs)) (k:Kn n ps m qs st ρ) (a7:At ρ 7 (aT r)) (hr:Au (n+m) (dH n ps m qs) r) (hs:cM (n+m) (dH n ps m qs) r=mx (bF n ps) (bF m qs)) (hb:bF (n+m) (dH n ps m qs)=mx (bF n ps) (bF m qs)):∃H',i2 ρ H=.nx ρ H'/\Fr [] H H':=by obtain⟨H1,e1,f1'⟩:=z4k (H:=H) o hr;rw[hs]at e1;obtain⟨i,H2,e2,g2,f2,_⟩:=best_ok (H:=H1) o;refine⟨H2,(kJ ?_).trans rfl,f1'.trans f2 (by simp)⟩;rw[mY (FE (nB (F:=F_qB) k.a3.v a7.v (z4j o hr))),mY (zE (nB (F:=F_q8) k.a3.v a7.v e1) (FF k.a5 k.a6))];unfold mB;rw[gS (v a7) (iD (F:=F_qv) k.a3.v e2) (z4s g2 (z4f o hr (hs.trans hb.symm)))];rfl
abbrev i3:MS:=bQ (mB (m2 eI (ls 4) (aD pI (aB (aA 5) (aB (aA 6) (aB (mC (.int 1)) aC)))))) rF bW
theorem z4x (o:Aa n ps) (o':Aa m qs) (h:n+m<=6) (k:Kn n ps m qs st ρ):∃H',i3 ρ H=.nx ρ H'/\Fr [] H H':=by
 obtain⟨H1,e1,f⟩:=zG (H:=H) (pX o o' h) k.a4;have k1:=z46 o o' h;have k2:=z47 o o' h;have k3:=z4a o o' h;have e2:aD pI (aB (aA 5) (aB (aA 6) (aB (mC (.int 1)) aC))) ρ H1=.ok (.int (mV (bF n ps) (bF m qs) 1)) H1:=by simp[aD,aB,k.a5.v,k.a6.v,mC,aC,pI]
 have lt:¬ (bF (n+m) (dS n ps qs)<mV (bF n ps) (bF m qs) 1):=by
  unfold mV
  split <;> split <;> omega
 refine⟨H1,(kJ ?_).trans rfl,f⟩;have e3:eI (.int (bF (n+m) (dS n ps qs))) (.int (mV (bF n ps) (bF m qs) 1)) H1=.ok (.bl (decide (bF (n+m) (dS n ps qs)<mV (bF n ps) (bF m qs) 1))) H1:=rfl;rw[decide_eq_false lt]at e3;unfold mB;rw[gS e1 e2 e3];rfl
abbrev s7:MS:=aM (aD F_q9 (aB (aD F_qC (aB (aA 2) aC)) (aB (aD F_qC (aB (aA 1) aC)) aC))) (aF 8)
abbrev tu (ps:y'):y':=dN bZ (fY ps)
theorem z4y (o:Aa n ps) (o':Aa m qs) (h:n+m<=6) (k:Kn n ps m qs st ρ):∃H',s7 ρ H=.nx (ρ.set 8 (some (aH (m+n) (dH m (tu qs) n (tu ps))))) H'/\Fr [] H H':=by obtain⟨H1,e1,f1'⟩:=turned_ok (H:=H) o';obtain⟨H2,e2,f2⟩:=turned_ok (H:=H1) o;obtain⟨H3,e3,f3⟩:=O4 (H:=H2) (lZ o') (lZ o) (by omega);exact⟨H3,rT (zF (F:=F_q9) (iD (F:=F_qC) k.a2.v e1) (iD (F:=F_qC) k.a1.v e2) e3),(f1'.trans f2 (by simp)).trans f3 (by simp)⟩
abbrev ln (i:Nat):M Dv:=aD (f1 eZ) (aB (m2 aS (aA i) (mC (.int 1))) aC)
theorem O9 {i:Nat}(h:At ρ i (aH n ps)):ln i ρ H=.ok (.int ps.length) H:=by refine pY (gS (ma:=aA i) (mb:=mC (.int 1)) (v h) rfl (NA H)) ?_;simp[f1,eZ,fX,iH,fJ]
abbrev i4:MS:=bQ (eH (mB (m2 cJ (ln 8) (ln 3))) (mB (m2 cJ (aD F_qp (aB (aD F_qC (aB (aA 3) aC)) aC)) (ls 8)))) rF bW
theorem z4z (a b:Int):mx a b=mx b a:=by unfold mx;split <;> split <;> omega
theorem z50 (o:Aa n ps) (o':Aa m qs) (h:n+m<=6) (k:Kn n ps m qs st ρ) (a8:At ρ 8 (aH (m+n) (dH m (tu qs) n (tu ps)))) (hb:bF (n+m) (dH n ps m qs)=mx (bF n ps) (bF m qs)):∃H',i4 ρ H=.nx ρ H'/\Fr [] H H':=by have ob:=lY o o' h;have oa:=lY (lZ o') (lZ o) (by omega);have q1:=O9 (H:=H) a8;rw[OI,OJ,OJ,show qs.length+ps.length+m*n=ps.length+qs.length+n*m by rw[Nat.mul_comm m n];omega,<-OI]at q1;obtain⟨H1,e1,f1'⟩:=turned_ok (H:=H) ob;obtain⟨H2,e2,f2⟩:=O8 (lZ ob) (iD (F:=F_qC) k.a3.v e1);obtain⟨H3,e3,f3⟩:=zG (H:=H2) oa a8;have Dg:=(E6 (lZ o') (lZ o) (by omega) (fe (ik.mpr (K06.bst_ne (lZ o')))) (fe (ik.mpr (K06.bst_ne (lZ o))))).2.2;rw[E5 ob,hb]at e2;rw[Dg,E5 o,E5 o',z4z]at e3;refine⟨H3,(kJ ?_).trans rfl,(f1'.trans f2 (by simp)).trans f3 (by simp)⟩;rw[mY (zE q1 (O9 k.a3))];exact zE e2 e3
abbrev s9:MS:=aM (aD F_qs (aB (aA 0) (aB (m2 aS (aA 4) (mC (.int 0))) aC))) (aF 9)
theorem z51 (o:Aa n ps) (h:n+m<=6) (k:Kn n ps m qs st ρ) (s:Com.St st H):∃(x:Int) (H':Hs),s9 ρ H=.nx (ρ.set 9 (some (.int x))) H'/\0<=x/\x<(n+m:Nat)/\Fr [st] H H':=by have:=o.n1;obtain⟨x,H1,x0,x1,e,f,_⟩:=oH ((n+m:Nat):Int) s (by omega) (by omega);exact⟨x,H1,rT (zF (F:=F_qs) (v k.a0) (gS (ma:=aA 4) (mb:=mC (.int 0)) (v k.a4) rfl (EA H)) e),x0,x1,f⟩
abbrev wt (i:Nat):M Dv:=aD F_qp (aB (aD F_qA (aB (aA i) (aB (aA 9) aC))) aC)
theorem PB {N i:Nat}{rs:y'}(o:Aa N rs) (h:2<=N) (a:At ρ i (aH N rs)) (a9:At ρ 9 (.int x)) (x0:0<=x) (x1:x<N):∃(z:Int) (H':Hs),wt i ρ H=.ok (.int z) H'/\z<=bF N rs/\Fr [] H H':=by
 obtain⟨k,rfl⟩:∃k,N=k+1:=⟨N - 1,by omega⟩
 obtain⟨H1,e1,f1'⟩:=wo_ok (H:=H) o (by omega) x0 x1;obtain⟨H2,e2,f2⟩:=O8 (ON o (by omega) x0 x1) (nB (F:=F_qA) a.v a9.v e1);exact⟨_,H2,e2,z45 o (by omega) x0 x1,f1'.trans f2 (by simp)⟩
abbrev i5:MS:=bQ (mB (m2 lD (wt 4) (ls 4))) rF bW
theorem z52 (o:Aa n ps) (o':Aa m qs) (h:n+m<=6) (k:Kn n ps m qs st ρ) (a9:At ρ 9 (.int x)) (x0:0<=x) (x1:x<(n+m:Nat)):∃H',i5 ρ H=.nx ρ H':=by have:=o.n1;have:=o'.n1;obtain⟨z,H1,e1,hz,f1'⟩:=PB (H:=H) (pX o o' h) (by omega) k.a4 a9 x0 x1;obtain⟨H2,e2,f2⟩:=zG (H:=H1) (pX o o' h) k.a4;have e3:lD (.int z) (.int (bF (n+m) (dS n ps qs))) H2=.ok (.bl (decide (z>bF (n+m) (dS n ps qs)))) H2:=rfl;rw[decide_eq_false (by omega)]at e3;refine⟨H2,(kJ ?_).trans rfl⟩;unfold mB;rw[gS e1 e2 e3];rfl
abbrev rt:MS:=aN (m2 lC (wt 3) zH)
theorem z53 (o:Aa n ps) (o':Aa m qs) (h:n+m<=6) (k:Kn n ps m qs st ρ) (a9:At ρ 9 (.int x)) (x0:0<=x) (x1:x<(n+m:Nat)) (hb:bF (n+m) (dH n ps m qs)=mx (bF n ps) (bF m qs)):∃H',rt ρ H=.rt (.bl true) H':=by have:=o.n1;have:=o'.n1;obtain⟨z,H1,e1,hz,f1'⟩:=PB (H:=H) (lY o o' h) (by omega) k.a3 a9 x0 x1;have e3:lC (.int z) (.int (mx (bF n ps) (bF m qs))) H1=.ok (.bl (decide (z<=mx (bF n ps) (bF m qs)))) H1:=rfl;rw[decide_eq_true (by omega)]at e3;refine⟨H1, ?_⟩;unfold rt aN;rw[gS e1 (FF k.a5 k.a6) e3];rfl
theorem z54 (o:Aa n ps) (o':Aa m qs) (h:n+m<=6) (s:Com.St st H):∃H',F_qk [.ref st,aH n ps,aH m qs] H=.ok (.bl true) H':=by
 have hb:=(E6 o o' h (fe (ik.mpr (K06.bst_ne o))) (fe (ik.mpr (K06.bst_ne o')))).2.2;obtain⟨H1,e1,f1'⟩:=O4 (H:=H) o o' h;obtain⟨H2,e2,f2⟩:=z4o (H:=H1) o o' h;have w1:mT 3 4 (aB (aD F_q9 (aB (aA 1) (aB (aA 2) aC))) (aB (aD F_q7 (aB (aA 1) (aB (aA 2) aC))) aC)) [some (.ref st),some (aH n ps),some (aH m qs),none,none,none,none,none,none,none] H=.nx [some (.ref st),some (aH n ps),some (aH m qs),some (aH (n+m) (dH n ps m qs)),some (aH (n+m) (dS n ps qs)),none,none,none,none,none] H2:=O7 (nB (F:=F_q9) (x:=1) (y:=2) rfl rfl e1) (nB (F:=F_q7) (x:=1) (y:=2) rfl rfl e2);obtain⟨H3,e3,f3⟩:=least_ok (H:=H2) o;obtain⟨H4,e4,f4⟩:=least_ok (H:=H3) o';have w2:mT 5 6 (aB (ls 1) (aB (ls 2) aC)) [some (.ref st),some (aH n ps),some (aH m qs),some (aH (n+m) (dH n ps m qs)),some (aH (n+m) (dS n ps qs)),none,none,none,none,none] H2=.nx [some (.ref st),some (aH n ps),some (aH m qs),some (aH (n+m) (dH n ps m qs)),some (aH (n+m) (dS n ps qs)),some (.int (bF n ps)),some (.int (bF m qs)),none,none,none] H4:=O7 (iD (F:=F_qp) (x:=1) rfl e3) (iD (F:=F_qp) (x:=2) rfl e4);have k:Kn n ps m qs st [some (.ref st),some (aH n ps),some (aH m qs),some (aH (n+m) (dH n ps m qs)),some (aH (n+m) (dS n ps qs)),some (.int (bF n ps)),some (.int (bF m qs)),none,none,none]:=⟨rfl,rfl,rfl,rfl,rfl,rfl,rfl,rfl⟩
 have fA:Fr [] H H4:=(f1'.trans f2 (by simp)).trans (f3.trans f4 (T:=[]) (by simp)) (by simp);show ∃H',bO (aJ (mT 3 4 _) (aJ (mT 5 6 _) (aJ i1 (aJ s4 (aJ i2 (aJ i3 (aJ s7 (aJ i4 (aJ s9 (aJ i5 rt))))))))) [some (.ref st),some (aH n ps),some (aH m qs),none,none,none,none,none,none,none] H)=_;rw[bK w1,bK w2];generalize [some (.ref st),some (aH n ps),some (aH m qs),some (aH (n+m) (dH n ps m qs)),some (aH (n+m) (dS n ps qs)),some (.int (bF n ps)),some (.int (bF m qs)),none,none,none]=ρ at k;obtain⟨H5,w3,f5⟩:=z4u (H:=H4) o o' h k hb;obtain⟨r,r',H6,w4,hr,hr',f6⟩:=z4v (H:=H5) o o' h k;rw[bK w3,bK w4];obtain⟨hR,hs,_⟩:=E6 o o' h hr hr';have k7:Kn n ps m qs st (ρ.set 7 (some (aT (iP n r r')))):=k.set (by omega);have a7:At (ρ.set 7 (some (aT (iP n r r')))) 7 (aT (iP n r r')):=.new (by rw[k.L];decide);generalize ρ.set 7 (some (aT (iP n r r')))=ρ7 at k7 a7;obtain⟨H7,w5,f7⟩:=z4w (H:=H6) (lY o o' h) k7 a7 hR hs hb;obtain⟨H8,w6,f8⟩:=z4x (H:=H7) o o' h k7;obtain⟨H9,w7,f9⟩:=z4y (H:=H8) o o' h k7;rw[bK w5,bK w6,bK w7];have k8:Kn n ps m qs st (ρ7.set 8 (some (aH (m+n) (dH m (tu qs) n (tu ps))))):=k7.set (by omega);have a8:At (ρ7.set 8 (some (aH (m+n) (dH m (tu qs) n (tu ps))))) 8 (aH (m+n) (dH m (tu qs) n (tu ps))):=.new (by rw[k7.L];decide);generalize ρ7.set 8 (some (aH (m+n) (dH m (tu qs) n (tu ps))))=ρ8 at k8 a8;obtain⟨H10,w8,f10⟩:=z50 (H:=H9) o o' h k8 a8 hb;have fB:Fr [] H H10:=fA.trans ((f5.trans f6 (T:=[]) (by simp)).trans ((f7.trans f8 (T:=[]) (by simp)).trans (f9.trans f10 (T:=[]) (by simp)) (T:=[]) (by simp)) (T:=[]) (by simp)) (by simp);obtain⟨x,H11,w9,x0,x1,_⟩:=z51 (H:=H10) o h k8 (s.fr fB (by simp));rw[bK w8,bK w9];have k9:Kn n ps m qs st (ρ8.set 9 (some (.int x))):=k8.set (by omega);have a9:At (ρ8.set 9 (some (.int x))) 9 (.int x):=.new (by rw[k8.L];decide);generalize ρ8.set 9 (some (.int x))=ρ9 at k9 a9;obtain⟨H12,w10⟩:=z52 (H:=H11) o o' h k9 a9 x0 x1;obtain⟨H13,w11⟩:=z53 (H:=H12) o o' h k9 a9 x0 x1 hb;exact⟨H13,by rw[bK w10,w11];rfl⟩
theorem EF (scr:zo) (k:Nat) (hL:ρ.length=5) (a0:At ρ 0 .scr) (a1:At ρ 1 (.int k)):∃ρ' H',CS scr ρ H=.nx ρ' H'/\ρ'.length=5/\At ρ' 0 .scr:=by
 obtain⟨H1,h1,f1',s1⟩:=z1y scr k H;obtain⟨n,ps,H2,h2,o,n4,s2,f2⟩:=OY (m:=4) (by decide) (by decide) s1;have n1:=o.n1;obtain⟨m,qs,H3,h3,o',m4,s3,f3⟩:=OY (m:=6 - (n:Int)) (by omega) (by omega) s2;obtain⟨H4,h4⟩:=z54 (H:=H3) o o' (by omega) s3;have w1:=rT (i:=2) (nB (F:=F_ql scr) a0.v a1.v h1);have b0:At (ρ.set 2 (some (.ref H.length))) 0 .scr:=a0.o;have b2:At (ρ.set 2 (some (.ref H.length))) 2 (.ref H.length):=.new (by omega);have bL:(ρ.set 2 (some (.ref H.length))).length=5:=by simp[hL]
 generalize H.length=st at *;generalize ρ.set 2 (some (.ref st))=ρ1 at b0 b2 bL w1;have w2:=rT (i:=3) (zF (F:=F_qj) (mb:=mC (.int 4)) (v (H:=H1) b2) rfl h2);have c0:At (ρ1.set 3 (some (aH n ps))) 0 .scr:=b0.o;have c2:At (ρ1.set 3 (some (aH n ps))) 2 (.ref st):=b2.o;have c3:At (ρ1.set 3 (some (aH n ps))) 3 (aH n ps):=.new (by omega);have cL:(ρ1.set 3 (some (aH n ps))).length=5:=by simp[bL]
 generalize ρ1.set 3 (some (aH n ps))=ρ2 at c0 c2 c3 cL w2;have e6:m2 eY (mC (.int 6)) (m2 aS (aA 3) (mC (.int 0))) ρ2 H2=.ok (.int (6 - (n:Int))) H2:=gS (ma:=mC (.int 6)) rfl (gS (ma:=aA 3) (mb:=mC (.int 0)) (v c3) rfl (EA H2)) rfl;have w3:=rT (i:=4) (zF (F:=F_qj) (v (H:=H2) c2) e6 h3);have d0:At (ρ2.set 4 (some (aH m qs))) 0 .scr:=c0.o;have d2:At (ρ2.set 4 (some (aH m qs))) 2 (.ref st):=c2.o;have d3:At (ρ2.set 4 (some (aH m qs))) 3 (aH n ps):=c3.o;have d4:At (ρ2.set 4 (some (aH m qs))) 4 (aH m qs):=.new (by omega);have dL:(ρ2.set 4 (some (aH m qs))).length=5:=by simp[cL]
 generalize ρ2.set 4 (some (aH m qs))=ρ3 at d0 d2 d3 d4 dL w3;have w4:bQ (dY (cD (aD F_qk (aB (aA 2) (aB (aA 3) (aB (aA 4) aC)))))) rF bW ρ3 H3=.nx ρ3 H4:=by
  have e:aD F_qk (aB (aA 2) (aB (aA 3) (aB (aA 4) aC))) ρ3 H3=.ok (.bl true) H4:=by generalize F_qk=F at h4;simp[aD,aB,d2.v,d3.v,d4.v,aC,h4]
  refine(kJ (uO (b:=true) ?_)).trans rfl;unfold cD;rw[e];rfl
 refine⟨ρ3,H4, ?_,dL,d0⟩;show aJ _ (aJ _ (aJ _ _)) ρ H=_;rw[bK w1,bK w2,bK w3];exact w4
end
theorem loop (scr:zo) (m:Int):∀(f k:Nat) (ρ:Ev) (H:Hs),ρ.length=5->At ρ 0 .scr->∃ρ' H',hZ (dC 0 m) (aF 1) (CS scr) f k ρ H=.nx ρ' H'
 |0,k,ρ,H,_,_=>⟨_,H,rfl⟩
 |f+1,k,ρ,H,hL,a0=>by obtain⟨ρ1,H1,h,l1,b0⟩:=EF (H:=H) (ρ:=ρ.set 1 (some (.int k))) scr k (by simp[hL]) a0.o (.new (by omega));obtain⟨ρ',H2,h2⟩:=loop scr m f (k+1) ρ1 H1 l1 b0;refine⟨ρ',H2, ?_⟩;rw[<-h2];exact JP (d:=.int k) (by simp[dC]) rfl h
theorem z55 (scr:zo):∃hh,F_qE scr [.scr] []=.ok (.bl true) hh:=by
 have hi:∃m:Int,aQ cP (aB (aD iR (aB (mC (.int 1)) (aB (aD qM (aB (aD (f1 (iH scr)) (aB (aA 0) aC)) (aB (mC (.int 3)) aC))) aC))) aC) [some .scr,none,none,none,none] []=.ok (dC 0 m) []:=by
  generalize hz:(if(3:Int)<scr.length then(3:Int)else scr.length)=z;have z0:0<=z:=by split at hz <;> omega
  have z1:z<=3:=by split at hz <;> omega
  generalize hm:(if z>(1:Int)then z else 1)=m;have m0:1<=m:=by split at hm <;> omega
  have m1':m<=3:=by split at hm <;> omega
  have hr:gY m=true:=by simp[gY];omega
  refine⟨m, ?_⟩;have e1:qM [.int scr.length,.int 3] []=.ok (.int z) []:=by rw[<-hz];rfl
  have e2:iR [.int 1,.int z] []=.ok (.int m) []:=by rw[<-hm];rfl
  simp[aQ,aB,aD,mC,aA,aC,f1,iH,fJ,e1,e2,cP,hr]
 obtain⟨m,hi⟩:=hi;obtain⟨ρ',H',h⟩:=loop scr m (dC 0 m).n 0 [some .scr,none,none,none,none] [] rfl rfl;refine⟨H', ?_⟩;show bO (xR scr [some .scr,none,none,none,none] [])=_;unfold xR MB;rw[bK ((JO hi).trans h)];rfl
open PySem.Calls PySem.W
theorem mk_of {l:OpenLaw}{w:cp}{K:Frag}{h:da}{mg:Str->Option af}{fa:ah}(hob:ob K=obE) (hnt:noTabs K=true) (X:K.In h) (G:h.Ns du mg) (hfa:mg "law" = some (.ref fa)):
  ∃(fd:bj) (c P:ah),(∀(s:ag) (u:af),yf s fd ⟨[u],[]⟩ [("_law_script",u)])/\tabIn K "law" = some (c,P)/\noTabs K=true /\
   ∀(base:da) (a:ah) (ns:zo),ns.length<=63->K.In base->base.Ns du mg->CodeHd base c P->oW mg base->Lawful l.prog w K mg base 17 fa fd "_law_script" P a ns:=by
 have hc:obF.all (λf=>f K)=true:=congrArg dy hob;have hf:zK K=zL:=congrArg qe hob;have e:=hfa.symm.trans (mg_of X G (v:=.ref 334) (dB hc 40));cases e;refine(λ(z:∀R:Prop,(_->R)->R)=>z _ id) λR hR=>?_;obtain⟨g0,U0,B0,C0,D0⟩:=cS hf hc 94 CT "is_whole" 93 ["thing"] 0 60 101 λ_ _ _ _ _ _=>iA λ_=>rfl;obtain⟨g1,U1,B1,C1,D1⟩:=cS hf hc 101 CU "is_between" 100 ["thing","low","high"] 1 61 102 λ_ _ _ _ _ _=>BB λ_ _ _=>rfl;obtain⟨g2,U2,B2,C2,D2⟩:=cS hf hc 106 xS "is_rising" 105 ["parts"] 2 62 103 λ_ _ _ _ _ _=>iA λ_=>rfl;obtain⟨g3,U3,B3,C3,D3⟩:=cS hf hc 113 CV "is_thing" 112 ["many","thing"] 3 63 104 λ_ _ _ _ _ _=>fS λ_ _=>rfl;obtain⟨g4,U4,B4,C4,D4⟩:=cS hf hc 118 xT "are_things" 117 ["many","thing"] 4 64 105 λ_ _ _ _ _ _=>fS λ_ _=>rfl;obtain⟨g5,U5,B5,C5,D5⟩:=cS hf hc 125 CW "is_pair" 124 ["many","thing"] 5 65 106 λ_ _ _ _ _ _=>fS λ_ _=>rfl;obtain⟨g6,U6,B6,C6,D6⟩:=cS hf hc 130 xU "are_pairs" 129 ["many","things"] 6 66 107 λ_ _ _ _ _ _=>fS λ_ _=>rfl;obtain⟨g7,U7,B7,C7,D7⟩:=cS hf hc 135 xV "has_alike" 134 ["pairs"] 7 67 108 λ_ _ _ _ _ _=>iA λ_=>rfl;obtain⟨g8,U8,B8,C8,D8⟩:=cS hf hc 140 xW "is_complete" 139 ["pairs"] 8 68 109 λ_ _ _ _ _ _=>iA λ_=>rfl;obtain⟨g9,U9,B9,C9,D9⟩:=cS hf hc 147 CY "is_order" 146 ["thing"] 9 69 110 λ_ _ _ _ _ _=>iA λ_=>rfl;obtain⟨g10,U10,B10,C10,D10⟩:=cS hf hc 154 CZ "need_order" 153 ["order"] 10 70 111 λ_ _ _ _ _ _=>iA λ_=>rfl;obtain⟨g11,U11,B11,C11,D11⟩:=cS hf hc 161 DC "need_thing" 160 ["order","thing"] 11 71 112 λ_ _ _ _ _ _=>fS λ_ _=>rfl;obtain⟨g12,U12,B12,C12,D12⟩:=cS hf hc 168 DD "need_few" 167 ["many"] 12 72 113 λ_ _ _ _ _ _=>iA λ_=>rfl;obtain⟨g13,U13,B13,C13,D13⟩:=cS hf hc 175 DE "are_loose" 174 ["order","one","other"] 13 73 114 λ_ _ _ _ _ _=>BB λ_ _ _=>rfl;obtain⟨g14,U14,B14,C14,D14⟩:=cS hf hc 180 xX "loose_pairs" 179 ["order"] 14 74 115 λ_ _ _ _ _ _=>iA λ_=>rfl;obtain⟨g15,U15,B15,C15,D15⟩:=cS hf hc 185 xY "turned" 184 ["order"] 15 75 116 λ_ _ _ _ _ _=>iA λ_=>rfl;obtain⟨g16,U16,B16,C16,D16⟩:=cS hf hc 190 xZ "is_row" 189 ["order","thing"] 16 76 117 λ_ _ _ _ _ _=>fS λ_ _=>rfl;obtain⟨g17,U17,B17,C17,D17⟩:=cS hf hc 197 DF "need_row" 196 ["order","row"] 17 77 118 λ_ _ _ _ _ _=>fS λ_ _=>rfl;obtain⟨g18,U18,B18,C18,D18⟩:=cS hf hc 202 uC "may_come" 201 ["order","begun"] 18 78 119 λ_ _ _ _ _ _=>fS λ_ _=>rfl;obtain⟨g19,U19,B19,C19,D19⟩:=cS hf hc 207 yA "all_rows" 206 ["order"] 19 79 120 λ_ _ _ _ _ _=>iA λ_=>rfl;obtain⟨g20,U20,B20,C20,D20⟩:=cS hf hc 214 DG "apart" 213 ["row","pair"] 20 80 121 λ_ _ _ _ _ _=>fS λ_ _=>rfl;obtain⟨g21,U21,B21,C21,D21⟩:=cS hf hc 219 yB "greatest_apart" 218 ["row","pairs"] 21 81 122 λ_ _ _ _ _ _=>fS λ_ _=>rfl;obtain⟨g22,U22,B22,C22,D22⟩:=cS hf hc 226 DH "span_of" 225 ["order","row"] 22 82 123 λ_ _ _ _ _ _=>fS λ_ _=>rfl;obtain⟨g23,U23,B23,C23,D23⟩:=cS hf hc 233 DI "need_both" 232 ["one","other"] 23 83 124 λ_ _ _ _ _ _=>fS λ_ _=>rfl;obtain⟨g24,U24,B24,C24,D24⟩:=cS hf hc 238 yC "pairs_of_both" 237 ["one","other"] 24 84 125 λ_ _ _ _ _ _=>fS λ_ _=>rfl;obtain⟨g25,U25,B25,C25,D25⟩:=cS hf hc 243 yD "stacked" 242 ["one","other"] 25 85 126 λ_ _ _ _ _ _=>fS λ_ _=>rfl;obtain⟨g26,U26,B26,C26,D26⟩:=cS hf hc 250 DJ "side_by" 249 ["one","other"] 26 86 127 λ_ _ _ _ _ _=>fS λ_ _=>rfl;obtain⟨g27,U27,B27,C27,D27⟩:=cS hf hc 255 uD "without" 254 ["order","thing"] 27 87 128 λ_ _ _ _ _ _=>fS λ_ _=>rfl;obtain⟨g28,U28,B28,C28,D28⟩:=cS hf hc 260 yE "rows_stacked" 259 ["one","other","row","more"] 28 88 129 λ_ _ _ _ _ _=>XW λ_ _ _ _=>rfl;obtain⟨g29,U29,B29,C29,D29⟩:=cS hf hc 265 yF "rows_with_spans" 264 ["order"] 29 89 130 λ_ _ _ _ _ _=>iA λ_=>rfl;obtain⟨g30,U30,B30,C30,D30⟩:=cS hf hc 270 yG "least_span" 269 ["order"] 30 90 131 λ_ _ _ _ _ _=>iA λ_=>rfl;obtain⟨g31,U31,B31,C31,D31⟩:=cS hf hc 275 uE "best_rows" 274 ["order"] 31 91 132 λ_ _ _ _ _ _=>iA λ_=>rfl;obtain⟨g32,U32,B32,C32,D32⟩:=cS hf hc 282 DK "first_best" 281 ["order"] 32 92 133 λ_ _ _ _ _ _=>iA λ_=>rfl;obtain⟨g33,U33,B33,C33,D33⟩:=cS hf hc 289 DL "_law_cell_at" 288 ["_law_script","_law_k"] 33 93 134 λ_ _ _ _ _ _=>fS λ_ _=>rfl;obtain⟨g34,U34,B34,C34,D34⟩:=cS hf hc 296 DM "_law_state" 295 ["_law_script","_law_k"] 34 94 135 λ_ _ _ _ _ _=>fS λ_ _=>rfl;obtain⟨g35,U35,B35,C35,D35⟩:=cS hf hc 303 DN "_law_take" 302 ["_law_state_here","_law_many"] 35 95 136 λ_ _ _ _ _ _=>fS λ_ _=>rfl;obtain⟨g36,U36,B36,C36,D36⟩:=cS hf hc 310 DO "_law_mixed_row" 309 ["_law_state_here","_law_things"] 36 96 137 λ_ _ _ _ _ _=>fS λ_ _=>rfl;obtain⟨g37,U37,B37,C37,D37⟩:=cS hf hc 315 yH "_law_closed" 314 ["_law_pairs"] 37 97 138 λ_ _ _ _ _ _=>iA λ_=>rfl;obtain⟨g38,U38,B38,C38,D38⟩:=cS hf hc 320 uF "_law_order" 319 ["_law_state_here","_law_most"] 38 98 139 λ_ _ _ _ _ _=>fS λ_ _=>rfl;obtain⟨g39,U39,B39,C39,D39⟩:=cS hf hc 327 DP "_law_right" 326 ["_law_state_here","_law_one","_law_other"] 39 99 140 λ_ _ _ _ _ _=>BB λ_ _ _=>rfl;obtain⟨g40,U40,B40,C40,D40⟩:=cS hf hc 334 DQ "law" 333 ["_law_script"] 40 100 141 λ_ _ _ _ _ _=>iA λ_=>rfl;obtain⟨t_MOST_THINGS,c_MOST_THINGS⟩:=PH (n := "MOST_THINGS") (v:=6) (nG hc 142 rfl);refine hR ⟨g40,333,329,λs v=>.of_eq (D40 [v] rfl),dB hc 143,hnt,λbase a ns hlen _ _ hC hB=>⟨?_⟩⟩;obtain⟨hh,hl⟩:=z55 ns;refine⟨{ K:=K,cl:=λc=>match c with|0=>37|4=>49|5=>61|7=>85|_=>0,scr:=ns,sa:=a,tab:=some 329,lq:=(("law" : Str) ++ ".<locals>.") ++ "<lambda>" },F_qE ns,hh,rfl,rfl,rfl,rfl,hl, ?_⟩;refine z1i (A:=⟨94,g0,101,g1,106,g2,113,g3,118,g4,125,g5,130,g6,135,g7,140,g8,147,g9,154,g10,161,g11,168,g12,175,g13,180,g14,185,g15,190,g16,197,g17,202,g18,207,g19,214,g20,219,g21,226,g22,233,g23,238,g24,243,g25,250,g26,255,g27,260,g28,265,g29,270,g30,275,g31,282,g32,289,g33,296,g34,303,g35,310,g36,315,g37,320,g38,327,g39,334,g40,37,49,61,85,t_MOST_THINGS,(0:Nat),333,329⟩) ?_ (λ_ _ _ _ _ _=>trivial) hC hB;exact⟨rfl,U0,B0,cK X G hc 0,U1,B1,cK X G hc 1,U2,B2,cK X G hc 2,U3,B3,cK X G hc 3,U4,B4,cK X G hc 4,U5,B5,cK X G hc 5,U6,B6,cK X G hc 6,U7,B7,cK X G hc 7,U8,B8,cK X G hc 8,U9,B9,cK X G hc 9,U10,B10,cK X G hc 10,U11,B11,cK X G hc 11,U12,B12,cK X G hc 12,U13,B13,cK X G hc 13,U14,B14,cK X G hc 14,U15,B15,cK X G hc 15,U16,B16,cK X G hc 16,U17,B17,cK X G hc 17,U18,B18,cK X G hc 18,U19,B19,cK X G hc 19,U20,B20,cK X G hc 20,U21,B21,cK X G hc 21,U22,B22,cK X G hc 22,U23,B23,cK X G hc 23,U24,B24,cK X G hc 24,U25,B25,cK X G hc 25,U26,B26,cK X G hc 26,U27,B27,cK X G hc 27,U28,B28,cK X G hc 28,U29,B29,cK X G hc 29,U30,B30,cK X G hc 30,U31,B31,cK X G hc 31,U32,B32,cK X G hc 32,U33,B33,cK X G hc 33,U34,B34,cK X G hc 34,U35,B35,cK X G hc 35,U36,B36,cK X G hc 36,U37,B37,cK X G hc 37,U38,B38,cK X G hc 38,U39,B39,cK X G hc 39,U40,B40,cK X G hc 40,mg_none_of X G (dB hc 45),mg_none_of X G (dB hc 46),mg_none_of X G (dB hc 47),mg_none_of X G (dB hc 48),mg_none_of X G (dB hc 49),mg_none_of X G (dB hc 50),mg_none_of X G (dB hc 51),mg_none_of X G (dB hc 52),mg_none_of X G (dB hc 53),mg_none_of X G (dB hc 54),mg_none_of X G (dB hc 55),mg_none_of X G (dB hc 56),mg_none_of X G (dB hc 57),mg_none_of X G (dB hc 58),mg_none_of X G (dB hc 59),mg_of X G c_MOST_THINGS,cK X G hc 41,cK X G hc 42,cK X G hc 43,cK X G hc 44,dB hc 41,nG hc 144 rfl,rfl,dB hc 42,nG hc 145 rfl,rfl,dB hc 43,nG hc 146 rfl,rfl,dB hc 44,nG hc 147 rfl,rfl⟩
end L2.Mr.K82
open PySem PySem.W PyProof.Rows
set_option maxRecDepth 100000 in
set_option maxHeartbeats 0 in
theorem PySem.Challenge.cw_nearorders_k82_whole_spans_put_together_holds : PySem.Challenge.rw_nearorders_k82_whole_spans_put_together.Holds := by
  w_on; o_law
  refine holds_open (XP := XL L2.Mr.K82.vw []) (YP := L2.Mr.Ys L2.Mr.K82.ob L2.Mr.K82.obE) L2.Mr.K82.left L2.Mr.ys_of L2.Mr.ys_keeps (fun s e => xl_of s (Bool.and_eq_true_iff.mp e).1) XL.keeps (by rfl) (by rfl) (by rfl) (fun s e => recFacts_of (Bool.and_eq_true_iff.mp e).2) (by rfl) (by first | assumption | decide +kernel) (by decide +kernel) ⟨rfl,rfl,rfl,rfl,rfl,by decide +kernel⟩ ?hw ?hc
  case hw => w_witness2
  case hc => exact L2.Mr.walkK2 (l := PySem.Challenge.rw_nearorders_k82_whole_spans_put_together) (n := 63) (k := 17) (x := "_law_script") "law" rfl (by decide) rfl ⟨rfl,by decide,by decide⟩ ⟨_,rfl,rfl⟩ (fun K w mg fa h hob hnt X G hmg => L2.Mr.K82.mk_of hob hnt X G hmg)