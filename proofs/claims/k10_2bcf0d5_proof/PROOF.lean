import PyProof.Rows.All
import Wide.All
import OpenK.AllK
import Wide.FinOn
import Lean
import PyProof.EqAt
import PyProof.EqKinds
import PyProof.TupleCall
import PyProof.NeKinds
import PyProof.StationsW
import PyProof.ExcClass3
import PyProof.ExcBaseAll.ValueError
import PyProof.ExcArgsOwn
import KE.KIsAll
import PyProof.ZipIter
import PyProof.RulesAs
import KE.KLam
import PyProof.NsDelKeeps
import PyProof.Rows.Range3
import PyProof.SumWalkG
import PyProof.EnumMake
import PyProof.EnumFor
import PyProof.WalkInts
import PyProof.Rows.SortWalk
import KE.KSortAsk
import PySem.SetOps
import KE.KSortTup
import PyProof.Rows.SetFrom
import PyProof.SetRoads
import PyProof.Rows.CallKwBuiltin
import PyProof.EnumIter
import PySem.Challenge.RW_nearorders_k10_whole_rows_or_papers
abbrev dn:=List (Int×Int)
abbrev wo:=List (List Int)
abbrev zr:=List Int
abbrev zt:=List Nat
abbrev zu:=List PySem.Str
set_option genSizeOf false
set_option compiler.extract_closed false
noncomputable section
open Array renaming getElem?_eq_some_iff->dm,getElem?_eq_getElem->fh,getElem?_setIfInBounds_self_of_lt->ik,getD->jz,length_toList->lh,getElem?_toList->nc,getElem?_eq_none->qv,perm_iff_toList_perm->wz,getElem?_replicate->xp,mem_toList_iff->yr,forIn_toList->zl
open Bool renaming false_eq_true->cn,and_eq_true->da,eq_iff_iff->dy,false_ne_true->ij,not_eq_true'->mr,not_true->nj,and_false->pd,true_and->xw
open Classical renaming em->qf
open False renaming elim->lx
open ForInStep renaming yield->qh
open Function renaming comp->sy
open Int renaming toNat_natCast->fz,le_trans->vf,le_refl->wj
open List renaming mem_cons_of_mem->aq,size_toArray->av,length_map->aw,mem_cons_self->ax,mem_cons->az,getElem?_eq_getElem->ba,range->bj,mem_singleton->bo,getElem?_eq_some_iff->bq,mem_range->bu,mem_append_right->bw,length_append->bx,mem_map->cb,filterMap_cons->cm,length_cons->cp,mem_append->cq,pairwise_cons->cu,map_cons->df,mem_of_getElem?->dg,getElem_mem->dk,getElem?_map->dz,all_eq_true->ff,mem_append_left->fg,getElem?_append_left->fi,pairwise_iff_getElem->fj,mem_filter->gd,flatMap_cons->gg,getElem?_set_ne->gr,getElem?_set_self->gv,getElem?_append_right->gw,nodup_cons->ib,map_append->ic,take_append_drop->ie,lookup_cons->ig,mem_flatMap->iq,map_map->iw,length_take->ji,mem_filterMap->jl,mem_iff_getElem->jo,getElem_of_mem->ju,filter_cons->jv,take_of_length_le->kg,length_nil->kh,length_filter_le->kj,length_range->km,perm_ext_iff_of_nodup->ku,getD_eq_getElem?_getD->kv,any_eq_true->lg,getElem?_zip_eq_some->lj,length_eq_zero_iff->mm,length_drop->nh,length->nr,forIn_cons->oa,dropLast_concat_getLast->oh,length_pos_iff->oq,getD->ow,drop_zero->pg,ne_nil_of_mem->ph,exists_mem_of_ne_nil->pz,pairwise_map->qg,map_drop->qj,length_filterMap_le->qk,countP_cons->qr,nodup_range->qt,any_map->rh,filterMap_eq_map'->rn,append_nil->rq,length_set->rz,range_succ->si,getElem_take->um,append_assoc->uq,ext_getElem?->uu,take_succ_eq_append_getElem->uv,nodup_append->uw,eraseIdx_eq_take_drop_succ->vj,take_append_of_le_length->wc,of_mem_zip->wd,length_zip->wg,nodup_iff_pairwise_ne->xc,length_eraseIdx_of_lt->xf,drop_eq_getElem_cons->xq,mem_of_find?_eq_some->xr,getElem?_take_of_lt->xv,map_take->xx,getElem?_replicate->ya,getElem?_cons_succ->yc,pairwise_singleton->ye,range_succ_eq_map->yg,pairwise_lt_range->yh,filter_eq_nil_iff->yj,length_singleton->yo,getElem?_eq_none->yt,getElem?_toArray->yu,filterMap_eq_map->yw,range'->zb,pairwise_append->zc,map_congr_left->zo,flatMap_append->zq
open List.Pairwise renaming nil->nt,imp_of_mem->uk,map->xh
open List.Perm renaming refl->vc,swap->ve,append_left->xg
open List.cons renaming injEq->zd
open Nat renaming le_refl->aj,lt_of_lt_of_le->ay,ne_of_lt->bg,le_trans->di,lt_irrefl->gn,le_of_lt->gy,lt_succ_of_lt->gz,ne_of_gt->iz,lt_or_ge->ja,zero_le->jd,le_add_right->jk,lt_succ_self->jw,mul_le_mul->mz,succ_ne_self->nq,le_of_eq->sf,min_self->uz,succ_mul->vh,le_of_not_lt->vq,le_succ->we,pow_le_pow_right->zk
open Ne renaming symm->cy
open Option renaming map_eq_some_iff->qq,isSome_iff_exists->xb
open Option.some renaming inj->cw,injEq->xu
open Prod renaming fst->du,snd->pf
open PyProof.Rows renaming slot_tuple_getitem->fv,callWith_type1->jc,IntsAre->ka,AllBare->qw,get?_update_seq->ua,listUpdate_at->vn,size_push'->wa,lt_int->wq,IsTup->yk,tupleItemsOf_->zh
open PySem renaming wpAny_bind->ae,Value->af,Shared->ag,Addr->ah,wpAny_pure->ai,starEach->ar,Program->bf,FuncData->bh,Expr->br,sizeLine->bz,World->cf,Around->cg,Heap->cx,bootBuiltins->dj,wpAny_callSpecial?_slot->dw,wpAny_call_entry->ed,mainGlobals->en,wpAny_newObj_type->fo,wpAny_field->fq,wpAny_holding->fw,IsTupleKey->gb,Stmt->gf,SetTable->gm,wpAny_seqItems->gq,Scope->gu,wpAny_setField_rec->je,sizeLine_eq->jf,mem_of_lookup->jg,wpAny_setState_of->jh,wpAny_truthy_bool->jr,wpAny_pyIter_list->jt,Comprehension->jx,wpAny_passesOwn->kn,NameKind->kq,codeAny_builtin->kr,Builtin->kz,IsPair->lr,wpAny_askSetting->ly,wpAny_pyIter_tuple->mw,Arguments->oi,wpAny_forIn_list->om,wpAny_attempt->ou,codeAny_call_builtin->oz,wpAny_letGo->pb,pushCells_keeps->pq,wpAny_typeOf->qd,wpAny_mono->ql,wpAny_Call_Name_kw->qm,wpAny_rule->qp,wpAny_of_eq->rf,wpAny_standAt->rp,wpAny_onRaise->sd,wpAny_isInstance->sr,wpAny_pyIter_zip->sv,codeAny_mono->tj,wpAny_execs_nil->tq,IsPart->uh,wpAny_updateSeq_pair->uj,wpAny_setEntries_of->vg,plainId_quiet->vk,Model->wk,IsZip->wx,wpAny_eqBool_int->xi,PassesOwn->xj,Result->xk,noFill_tuple_add->xm,wpAny_updateSeq->yd,BindsTo->yf,call_meets->yn,wpAny_setField->yp,isSubtype_stop->yq,wpAny_tryCatch->yv,wpAny_letOwnedTupleGo_zip->yz,seq_tuple_add->zg,call->zi,wpAny_comprehension_free->zj,wpAny_newList->zm
open PySem.Around renaming under_plainId->jn
open PySem.Builtin.Builtins renaming bindParams->td
open PySem.Builtin.List renaming listTooLong->nv,listExtendWith->ug,listSameRef->ur,listTouch->vm
open PySem.Builtin.Slice renaming slicePlaces->ki,sliceAdjust->ni,sliceApplied->ud
open PySem.Builtin.SmallTypes renaming nextOf->fe,ownedTupleIsFree->pw,stopIteration->qi
open PySem.Builtin.Tuple renaming tupleExact->kl,tupleItemsOf->ue
open PySem.Calls renaming evalArgs_plain->sk,Name_function_global->wm,callWith_builtin->yb,spliced_cons->zf
open PySem.Challenge renaming pw_nearorders_k10_whole_rows_or_papers->aa
open PySem.EntryCells renaming newEntry->xn
open PySem.F renaming args_tuple_add_2->pj,entry_tuple_add->qc,plainAttrs_list->qe,slot_tuple_add->qo,excBase_ValueError->vt,slot_tuple_index->wy
open PySem.Heap renaming get?_push_of_some->ak,lt_size->au,get?_push_size->bc,size_push->cz,SameBut->iu,get?_update_self->jm,get?_update_other->kd,get?_update_ne->ll,ExtBut->yy
open PySem.Heap.SameBut renaming update->my,refl->sj
open PySem.IsL renaming update->ym
open PySem.NameKind renaming free->de,cell->dh
open PySem.Obj renaming mapSeq->mf,data_mapFields->ui,isFreed_of_fields->yx
open PySem.SeqAt renaming EqAt->jy,RcAt->qu
open PySem.SetTable renaming insertAt->jb,turns->rj,below->rl,sizeAbove->yi
open PySem.Shared renaming TypeIs->tm
open PySem.Str renaming ofString->jq
open PySem.Value renaming ref->gh,none->jj,isInt_shape->mq,builtin->tw,bool->ub,type->ze
open PySem.W renaming Frag->ao,fnOf->nu,keepIn->oj,CodeHd->sh,methodObj->uc,codeIn->vp,tabObj->vv,kitOne->vz,excIn->wu,cellsFrom_some->xl,nsIn->xo
open PySem.Walks renaming list->uf
open PySem.pickOrder renaming go->xa
open Sum renaming inl->ux,inr->uy
set_option Elab.async false
set_option linter.all false
set_option maxRecDepth 100000
set_option maxHeartbeats 4000000
namespace L2.Mr
open PySem PySem.Spec PySem.Calls PyProof.Rows PySem.W
def OS (o:Obj):Bool:=match o.cls,o.data with
 | .none,.fields _=>false
 |_,_=>true
def nU (h:cx):List ah->Frag
 | []=>[]
 |a::as=>match h.get? a with
  |some o=>match OS o with
   |true=>(a,o)::nU h as
   |false=>nU h as
  |none=>nU h as
def sJ (h:cx):Frag:=nU h (bj h.objs.size)
theorem uR (h:cx):∀as,(nU h as).In h
 | [],_,_,e=>nomatch e
 |a::as,b,o,e=>by
  unfold nU at e
  split at e
  ·rename_i o' q
   split at e
   ·rw[ig]at e
    cases z:b==a with
    |true=>rw[z]at e;cases e;rw[eq_of_beq z];exact q
    |false=>rw[z]at e;exact uR h as b o e
   ·exact uR h as b o e
  ·exact uR h as b o e
theorem uS (h:cx):∀as,noTabs (nU h as)=true
 | []=>rfl
 |a::as=>by
  unfold nU
  split
  ·split
   ·rename_i q;show(_&&_)=true;rw[da];refine⟨?_,uS h as⟩;exact q
   ·exact uS h as
  ·exact uS h as
def cK (K:Frag) (f:ah):Option bh:=match K.lookup f with
 |some o=>match o.data with
  | .func fd=>some { fd with kwdefaults:=.none,doc:=.none,pyModule:=.none,annotations:=none,closureTuple:=.none }
  |_=>none
 |none=>none
theorem OT {K:Frag}{f:ah}{n q:Str}{A:oi}{B:List gf}{S:gu}{dV cd:af}(h:cK K f=some (fnOf n q A B S dV .none .none .none none cd .none)):
  ∃(oc:af) (od:Option ah) (kV dc pm:af) (an:Option ah) (ct:af) (sl:Array (Option af)),K.lookup f=some ⟨oc,od,.func (fnOf n q A B S dV kV dc pm an cd ct),sl⟩:=by
 unfold cK at h
 split at h
 ·rename_i o e
  split at h
  ·rename_i fd q;obtain⟨oc,od,dt,sl⟩:=o;cases fd;simp only[xu,FuncData.mk.injEq]at h;obtain⟨rfl,rfl,rfl,rfl,rfl,rfl,rfl,rfl,_,_,_,_,rfl,_,rfl⟩:=h;simp only at q;subst q;exact⟨_,_,_,_,_,_,_,_,e⟩
  ·cases h
 ·cases h
theorem qQ {F:List (Frag->Bool)}{K:Frag}(h:F.all (λf=>f K)=true) (i:Nat) {f:Frag->Bool}(e:F[i]?=some f):f K=true:=ff.mp h f (dg e)
theorem OU {l m:List (Option bh)}(h:l=m) (i:Nat) {a b:Option bh}(e:l[i]?=some a) (e':m[i]?=some b):a=b:=by subst h;rw[e]at e';exact cw e'
def uT (K:Frag) (n:Str) (v:Int):Bool:=match nsIn K en n with
 |some (some (.int i _))=>i==v
 |_=>false
theorem EY {K:Frag}{n:Str}{v:Int}(h:uT K n v=true):∃t,nsIn K en n=some (some (.int v t)):=by
 unfold uT at h
 split at h
 ·rename_i i t e;rw[eq_of_beq h]at e;exact⟨t,e⟩
 ·cases h
theorem yX (p:bf) (w:cf) (N:Nat) {α:Type}(f:ag->α):(openEnds treeTable p w N).map f=(((Fast.tw10274390034422433532 Fast.tw14364793385576792824 (opening p) w N (PySem.start (opening p)).1 (PySem.start (opening p)).2).bind (Fast.tw14289696077712309145 p)).bind λs₀=>match s₀.heap.isNs en&&s₀.gens.size==0 with
 |true=>(Fast.tw14082659384304107361 Fast.tw14364793385576792824 p w s₀.heap.objs.size (s₀.heap.nsMap en "__annotations__") N s₀ (topStub p)).bind λs₁=>match staticsOk (importedModules p.main.body) s₀.heap s₁.heap&&namesBound p s₁.heap&&gensDone s₁&&laidKept s₀.heap s₁.heap with
   |true=>some s₁
   |false=>none
 |false=>none).map f:=by
 rw[<-Fast.te10274390034422433532,<-Fast.te14364793385576792824,<-Fast.te14289696077712309145,<-Fast.te14082659384304107361];rfl
abbrev OV:List af:=[.type "ValueError",.type "Exception",.type "BaseException",.type "object"]
def OW (s:gf) (cd:ah):Option bh:=match s with
 | .FunctionDef n a b _ _ _ sc _ _ _=>some (fnOf n n a b sc .none .none .none .none none (.ref cd) .none)
 |_=>none
def fE (p:bf) (i:Nat) (cd:ah):Option bh:=OW (p.main.body.getD i (.Pass ⟨0,0,0,0⟩)) cd
def nR (K:Frag) (n:Str) (a:ah):Bool:=decide (nsIn K en n=some (some (.ref a)))
def nN (K:Frag) (n:Str):Bool:=decide (nsIn K en n=some none)
theorem dA {F:List (Frag->Bool)}{K:Frag}(h:F.all (λf=>f K)=true) (i:Nat) {g:Frag->Prop}[∀K,Decidable (g K)] (e:F[i]?=some (λK=>decide (g K))):g K:=of_decide_eq_true (qQ h i e)
end L2.Mr
namespace L2.Mr.K10
open PySem PySem.Spec PySem.Calls PySem.W PyProof.Rows L2.Mr
def vw:bf:={ aa with main:={ aa.main with body:=List.filterMap (λi=>aa.main.body[i]?) [1,2,3,5,6,7,8,10,11,12,13,14,15,16,17,18,19,20,21,22,24,25,26,27,29,30,31,32,33,34,35,36,37,38,39,41,42,44,45,46,47,48,49,50] } }
def Xw:ag->Bool:=λs=>xlAt vw [] s&&recOk (RowW.records (OpenRow.toRowW PySem.Challenge.rw_nearorders_k10_whole_rows_or_papers.row)) s
def obF:List (Frag->Bool):=[(nR · "is_whole" 58),(nR · "is_between" 65),(nR · "need_between" 72),(nR · "is_rising" 77),(nR · "is_thing" 84),(nR · "are_things" 89),(nR · "is_pair" 96),(nR · "are_pairs" 101),(nR · "has_alike" 106),(nR · "is_complete" 111),(nR · "is_order" 118),(nR · "need_order" 125),(nR · "are_loose" 132),(nR · "loose_pairs" 137),(nR · "turned" 142),(nR · "may_come" 147),(nR · "all_rows" 152),(nR · "apart" 159),(nR · "greatest_apart" 164),(nR · "need_order_and_span" 171),(nR · "within_steps" 176),(nR · "are_joined" 181),(nR · "is_spread" 188),(nR · "is_far" 195),(nR · "is_next" 200),(nR · "is_paper" 207),(nR · "paper_shows" 214),(nR · "some_far" 221),(nR · "some_paper" 228),(nR · "paper_for" 235),(nR · "rows_with_spans" 240),(nR · "least_span" 245),(nR · "_law_cell_at" 252),(nR · "_law_state" 259),(nR · "_law_take" 266),(nR · "_law_mixed_row" 273),(nR · "_law_closed" 278),(nR · "_law_order" 283),(nR · "law" 288),(nR · "NoOrder" 37),(nN · "abs"),(nN · "all"),(nN · "any"),(nN · "bool"),(nN · "int"),(nN · "isinstance"),(nN · "len"),(nN · "list"),(nN · "max"),(nN · "min"),(nN · "range"),(nN · "set"),(nN · "sorted"),(nN · "tuple"),(nN · "zip"),(codeIn · (.ref 57) "is_whole"),(codeIn · (.ref 64) "is_between"),(codeIn · (.ref 71) "need_between"),(codeIn · (.ref 76) "is_rising"),(codeIn · (.ref 83) "is_thing"),(codeIn · (.ref 88) "are_things"),(codeIn · (.ref 95) "is_pair"),(codeIn · (.ref 100) "are_pairs"),(codeIn · (.ref 105) "has_alike"),(codeIn · (.ref 110) "is_complete"),(codeIn · (.ref 117) "is_order"),(codeIn · (.ref 124) "need_order"),(codeIn · (.ref 131) "are_loose"),(codeIn · (.ref 136) "loose_pairs"),(codeIn · (.ref 141) "turned"),(codeIn · (.ref 146) "may_come"),(codeIn · (.ref 151) "all_rows"),(codeIn · (.ref 158) "apart"),(codeIn · (.ref 163) "greatest_apart"),(codeIn · (.ref 170) "need_order_and_span"),(codeIn · (.ref 175) "within_steps"),(codeIn · (.ref 180) "are_joined"),(codeIn · (.ref 187) "is_spread"),(codeIn · (.ref 194) "is_far"),(codeIn · (.ref 199) "is_next"),(codeIn · (.ref 206) "is_paper"),(codeIn · (.ref 213) "paper_shows"),(codeIn · (.ref 220) "some_far"),(codeIn · (.ref 227) "some_paper"),(codeIn · (.ref 234) "paper_for"),(codeIn · (.ref 239) "rows_with_spans"),(codeIn · (.ref 244) "least_span"),(codeIn · (.ref 251) "_law_cell_at"),(codeIn · (.ref 258) "_law_state"),(codeIn · (.ref 265) "_law_take"),(codeIn · (.ref 272) "_law_mixed_row"),(codeIn · (.ref 277) "_law_closed"),(codeIn · (.ref 282) "_law_order"),(codeIn · (.ref 287) "law"),(keepIn · (.ref 58)),(keepIn · (.ref 65)),(keepIn · (.ref 72)),(keepIn · (.ref 77)),(keepIn · (.ref 84)),(keepIn · (.ref 89)),(keepIn · (.ref 96)),(keepIn · (.ref 101)),(keepIn · (.ref 106)),(keepIn · (.ref 111)),(keepIn · (.ref 118)),(keepIn · (.ref 125)),(keepIn · (.ref 132)),(keepIn · (.ref 137)),(keepIn · (.ref 142)),(keepIn · (.ref 147)),(keepIn · (.ref 152)),(keepIn · (.ref 159)),(keepIn · (.ref 164)),(keepIn · (.ref 171)),(keepIn · (.ref 176)),(keepIn · (.ref 181)),(keepIn · (.ref 188)),(keepIn · (.ref 195)),(keepIn · (.ref 200)),(keepIn · (.ref 207)),(keepIn · (.ref 214)),(keepIn · (.ref 221)),(keepIn · (.ref 228)),(keepIn · (.ref 235)),(keepIn · (.ref 240)),(keepIn · (.ref 245)),(keepIn · (.ref 252)),(keepIn · (.ref 259)),(keepIn · (.ref 266)),(keepIn · (.ref 273)),(keepIn · (.ref 278)),(keepIn · (.ref 283)),(keepIn · (.ref 288)),(uT · "MOST_THINGS" 6),(uT · "MOST_APART" 5),λK=>decide (tabIn K "law" = some (287,285)),(excIn · 37 OV "ValueError.__new__")]
def yY (K:Frag):List (Option bh):=[cK K 58,cK K 65,cK K 72,cK K 77,cK K 84,cK K 89,cK K 96,cK K 101,cK K 106,cK K 111,cK K 118,cK K 125,cK K 132,cK K 137,cK K 142,cK K 147,cK K 152,cK K 159,cK K 164,cK K 171,cK K 176,cK K 181,cK K 188,cK K 195,cK K 200,cK K 207,cK K 214,cK K 221,cK K 228,cK K 235,cK K 240,cK K 245,cK K 252,cK K 259,cK K 266,cK K 273,cK K 278,cK K 283,cK K 288]
def yZ:List (Option bh):=[fE aa 5 57,fE aa 6 64,fE aa 7 71,fE aa 8 76,fE aa 12 83,fE aa 13 88,fE aa 14 95,fE aa 15 100,fE aa 16 105,fE aa 17 110,fE aa 18 117,fE aa 19 124,fE aa 20 131,fE aa 21 136,fE aa 22 141,fE aa 24 146,fE aa 25 151,fE aa 26 158,fE aa 27 163,fE aa 29 170,fE aa 30 175,fE aa 31 180,fE aa 32 187,fE aa 33 194,fE aa 34 199,fE aa 35 206,fE aa 36 213,fE aa 37 220,fE aa 38 227,fE aa 39 234,fE aa 41 239,fE aa 42 244,fE aa 44 251,fE aa 45 258,fE aa 46 265,fE aa 47 272,fE aa 48 277,fE aa 49 282,fE aa 50 287]
def ob (K:Frag):Bool×List (Option bh):=(obF.all (λf=>f K),yY K)
abbrev obE:Bool×List (Option bh):=(true,yZ)
theorem EZ {α β γ:Type}{o:Option α}{f:α->β}{g:α->γ}{a:β}{b:γ}(h1:o.map f=some a) (h2:o.map g=some b):o.map (λs=>(f s,g s))=some (a,b):=by
 cases o with
 |none=>cases h1
 |some s=>cases h1;cases h2;rfl
theorem OX (w:cf):(openEnds treeTable aa w 8000).map (λs=>openSeen vw [] (importedModules (aa).main.body) Xw true s)=some (openGood vw []):=by rw[yX,Fast.te4187177175401517315];kernel_rfl
theorem OY (w:cf):(openEnds treeTable aa w 8000).map (λs=>obF.all (λf=>f (sJ s.heap)))=some true:=by rw[yX];kernel_rfl
theorem OZ (w:cf):(openEnds treeTable aa w 8000).map (λs=>yY (sJ s.heap))=some yZ:=by rw[yX];kernel_rfl
theorem left:LeftO aa vw [] Xw (λs=>ob (sJ s.heap)) (λ_=>obE) 8000:=λw=>EZ (OX w) (EZ (OY w) (OZ w))
end L2.Mr.K10
namespace L2
open PySem PySem.Spec PyProof.Rows
abbrev hO:=Sum Int Str
def E1:hO->af->Bool
 | .inl k,v=>Value.isInt k v
 | .inr x,v=>Value.isStrOf x v
def O2 (w:cf):hO->Int
 | .inl k=>hashInt k
 | .inr x=>hashStr w x
theorem mQ:∀{k:hO}{v:af},E1 k v=true->(∃i t,k=ux i/\v=Value.int i t)∨(∃x t,k=uy x/\v=Value.str x t)
 | .inl i,v,h=>by obtain⟨t,e⟩:=mq (k:=i) (v:=v) h;exact .inl ⟨i,t,rfl,e⟩
 | .inr x,v,h=>by obtain⟨t,e⟩:=Value.isStrOf_shape (x:=x) (v:=v) h;exact .inr ⟨x,t,rfl,e⟩
theorem O3 (a b:Int):decide ((ux a:hO)=ux b)=(a==b):=by
 by_cases e:a=b
 ·subst e;simp
 ·have h:¬ (ux a:hO)=ux b:=λq=>e (Sum.inl.inj q);rw[decide_eq_false h];exact(beq_eq_false_iff_ne.mpr e).symm
theorem O4 (a b:Str):decide ((uy a:hO)=uy b)=decide (a=b):=by
 by_cases e:a=b
 ·subst e;simp
 ·have h:¬ (uy a:hO)=uy b:=λq=>e (Sum.inr.inj q);rw[decide_eq_false h,decide_eq_false e]
theorem O5 (a:Int) (b:Str):decide ((ux a:hO)=uy b)=false:=decide_eq_false (λq=>nomatch q)
theorem O6 (a:Str) (b:Int):decide ((uy a:hO)=ux b)=false:=decide_eq_false (λq=>nomatch q)
def zA (prog:bf) (w:cf):PySem.KeyKind prog w hO where
 is:=E1
 hash:=O2 w
 inj:=λv a b ha hb=>by
  rcases mQ ha with⟨i,t,rfl,rfl⟩|⟨x,t,rfl,rfl⟩
  ·rcases mQ hb with⟨j,u,rfl,e⟩|⟨y,u,rfl,e⟩
   ·injection e with e1 _;rw[e1]
   ·exact nomatch e
  ·rcases mQ hb with⟨j,u,rfl,e⟩|⟨y,u,rfl,e⟩
   ·exact nomatch e
   ·injection e with e1 _;rw[e1]
 byValue:=λk v h=>by rcases mQ h with⟨i,t,rfl,rfl⟩|⟨x,t,rfl,rfl⟩ <;> rfl
 pyHash:=λhv h=>by
  rcases mQ hv with⟨i,t,rfl,rfl⟩|⟨x,t,rfl,rfl⟩
  ·exact wpAny_pyHash_int h
  ·exact wpAny_pyHash_str h
 eqBool:=λhu hv h=>by
  rcases mQ hu with⟨i,t,rfl,rfl⟩|⟨x,t,rfl,rfl⟩
  ·rcases mQ hv with⟨j,u,rfl,rfl⟩|⟨y,u,rfl,rfl⟩
   ·rw[O3]at h;exact xi h
   ·rw[O5]at h;exact SeqAt.EqAt.int_str i t y u _ _ _ _ h
  ·rcases mQ hv with⟨j,u,rfl,rfl⟩|⟨y,u,rfl,rfl⟩
   ·rw[O6]at h;exact SeqAt.EqAt.str_int x t j u _ _ _ _ h
   ·rw[O4]at h;exact wpAny_eqBool_str h
 «strs»:=λk x t v h=>by
  rcases mQ h with⟨i,u,rfl,e⟩|⟨y,u,rfl,e⟩
  ·exact nomatch e
  ·injection e with e1 _;subst e1
   cases v <;> rfl
inductive V where
 |non|bl (b:Bool)|int (i:Int)|str (x:Str)|byt (b:Array UInt8)|flt (b:UInt64)|ref (a:ah)|ty (n:String)
 deriving DecidableEq
def RelV:V->af->Prop
 | .non,u=>u=jj
 | .bl b,u=>u=ub b
 | .int i,u=>∃t,u=Value.int i t
 | .str x,u=>∃t,u=Value.str x t
 | .byt b,u=>∃t,u=Value.bytes b t
 | .flt b,u=>∃t,u=Value.float b t
 | .ref a,u=>u=gh a
 | .ty n,u=>u=ze n
abbrev Ag:List V->List af->Prop:=Paired RelV
theorem Ag.length {xs:List V}{us:List af}(r:Ag xs us):xs.length=us.length:=Paired.length r
theorem Ag.get:∀{xs:List V}{us:List af}{i:Nat}{x:V},Ag xs us->xs[i]?=some x->∃u,us[i]?=some u/\RelV x u
 |_,_,_,_,.nil,e=>by simp at e
 |_,_,0,_,.cons r _,e=>by simp at e;subst e;exact⟨_,rfl,r⟩
 |_,_,i+1,x,.cons _ t,e=>by obtain⟨u,h1,h2⟩:=Ag.get (i:=i) (x:=x) t (by simpa using e);exact⟨u,by simpa using h1,h2⟩
theorem Ag.set {x:V}{u:af}(r:RelV x u):∀{xs:List V}{us:List af}(i:Nat),Ag xs us->Ag (xs.set i x) (us.set i u)
 |_,_,_,.nil=>.nil
 |_,_,0,.cons _ t=>.cons r t
 |_,_,i+1,.cons q t=>.cons q (Ag.set r i t)
theorem Ag.append:∀{xs ys:List V}{us ws:List af},Ag xs us->Ag ys ws->Ag (xs++ys) (us++ws)
 |_,_,_,_,.nil,s=>s
 |_,_,_,_,.cons r t,s=>.cons r (Ag.append t s)
theorem Ag.take:∀{xs:List V}{us:List af}(n:Nat),Ag xs us->Ag (xs.take n) (us.take n)
 |_,_,0,_=>.nil
 |_,_,_+1,.nil=>.nil
 |_,_,n+1,.cons r t=>.cons r (Ag.take n t)
theorem Ag.drop:∀{xs:List V}{us:List af}(n:Nat),Ag xs us->Ag (xs.drop n) (us.drop n)
 |_,_,0,r=>r
 |_,_,_+1,.nil=>.nil
 |_,_,n+1,.cons _ t=>Ag.drop n t
def E2:Option V->Option af->Prop
 |some v,some u=>RelV v u
 |none,none=>True
 |_,_=>False
def KV {κ:Type}:List (κ×V)->List (κ×af)->Prop:=Paired λ(p:κ×V) (q:κ×af)=>p.1=q.1/\RelV p.2 q.2
def kV:hO->V
 | .inl i=>.int i
 | .inr x=>.str x
inductive HO where
 |lst (xs:List V)
 |tup (xs:List V)
 |dK (kvs:List (hO×V))|dT (kvs:List (List hO×V))
 |set (S:Int->Bool) (n:Nat)
 |ins (C dx:ah) (fs:List (Str×V))
 |own (x:ah)
 |xd (fs:List (Str×V))
 |met (f x:ah)
 |rng (lo hi:Int)
 |frz (o:Obj) (u:HO)
 |tbl (ps:Array af)
 |ext (φ:cx->Prop)
abbrev Hp:=ah->Option HO
def aV (H:Hp) (a:ah) (o:HO):Hp:=λb=>if b=a then some o else H b
theorem eR {H:Hp}{a:ah}{o:HO}:aV H a o a=some o:=by unfold aV;rw[if_pos rfl]
theorem cF {H:Hp}{a b:ah}{o:HO}(h:b≠a):aV H a o b=H b:=by unfold aV;rw[if_neg h]
theorem nV {H:Hp}{a b:ah}{o u:HO}(h:H a=some o) (h':H b=some u) (d:o≠u):a≠b:=by intro e;subst e;rw[h]at h';exact d (cw h')
theorem fV {H:Hp}{a b:ah}{o:HO}(h:H a=some o) (h':H b=none):a≠b:=by intro e;subst e;rw[h]at h';cases h'
def A' (h:cx) (a:ah) (items:Array af):Prop:=∃o,h.get? a=some o/\o.cls=.type "tuple"/\o.dict=none/\∃n,o.data=.seq items n
theorem A'.tup {h:cx}{a:ah}{items:Array af}(x:A' h a items):yk h a items:=let ⟨o,e,c,_,d⟩:=x;⟨o,e,c,d⟩
theorem A'.lt {h:cx}{a:ah}{items:Array af}(x:A' h a items):a<h.objs.size:=let ⟨_,e,_⟩:=x;au e
theorem A'.new (h:cx) (items:Array af):A' (h.push { cls:=.type "tuple",data:=.seq items }) h.objs.size items:=⟨_,bc _ rfl,rfl,rfl,_,rfl⟩
section
variable(P:bf) (w:cf)
def Al (H:Hp) (h:cx) (a:ah):HO->Prop
 | .lst xs=>xs.length<=bz/\∃(its:List af) (n:Nat),Ag xs its/\h.get? a=some { cls:=.type "list",data:=.seq its.toArray n }
 | .tup xs=>xs.length<=bz/\∃its:List af,Ag xs its/\A' h a its.toArray
 | .dK kvs=>kvs.length<=bz/\(a==sysModules)=false/\∃vs,KV kvs vs/\h.DictOf (zA P w) a vs
 | .dT kvs=>kvs.length<=bz/\(a==sysModules)=false/\∃xs:List (List hO×ah×af),
   Paired (λ(p:List hO×V) (q:List hO×ah×af)=>p.1=q.1/\H q.2.1=some (.tup (p.1.map kV))/\RelV p.2 q.2.2) kvs xs /\
   ∃o es ep,h.get? a=some o/\o.ExactDict/\o.data=.dict es ep/\es.toList=xs.map (entryOfKey (tupleKind (zA P w)))/\(xs.map (·.1)).Nodup
 | .set S n=>h.SetOf (intKind P w) a S n
 | .ins C dx fs=>H dx=some (.own a)/\fs.length<=1000/\dx≠a/\h.get? a=some (PySem.W.instObj C dx) /\
   ∃mA,h.Ns1 dx mA/\(∀f,E2 (fs.lookup f) (mA f))/\PySem.Within mA (fs.map (·.1))
 | .own _=>∃o,h.get? a=some o
 | .xd fs=>∃mA,h.Ns1 a mA/\∀f,E2 (fs.lookup f) (mA f)
 | .rng lo hi=>∃t u v,h.get? a=some { cls:=.type "range",data:=.fields #[.int lo t,.int hi u,.int 1 v] }
 | .frz o u=>h.get? a=some o/\Al H h a u
 | .tbl ps=>h.get? a=some { cls:=.none,data:=.fields ps }
 | .met f x=>h.get? a=some (uc (.ref f) (.ref x))
 | .ext φ=>φ h/\(∃o,h.get? a=some o)/\∀h1 h2:cx,φ h1->(∀o,h1.get? a=some o->h2.get? a=some o)->φ h2
def Bk (H:Hp) (h:cx):Prop:=∀a o,H a=some o->Al P w H h a o
end
section
variable{P:bf}{w:cf}{H H':Hp}{h h':cx}{a:ah}{o:HO}
theorem Al.lt (x:Al P w H h a o):a<h.objs.size:=by
 cases o with
 |lst xs=>obtain⟨_,_,_,_,e⟩:=x;exact au e
 |tup xs=>obtain⟨_,_,_,p⟩:=x;exact p.lt
 |dK kvs=>obtain⟨_,_,_,_,o,_,_,e,_⟩:=x;exact au e
 |dT kvs=>obtain⟨_,_,_,_,o,_,_,e,_⟩:=x;exact au e
 |set S n=>obtain⟨o,_,_,_,e,_⟩:=x;exact au e
 |ins C dx fs=>obtain⟨_,_,_,e,_⟩:=x;exact au e
 |own y=>obtain⟨_,e⟩:=x;exact au e
 |xd fs=>obtain⟨_,⟨_,_,_,e,_⟩,_⟩:=x;exact au e
 |rng lo hi=>obtain⟨_,_,_,e⟩:=x;exact au e
 |frz ob u=>obtain⟨e,_⟩:=x;exact au e
 |tbl ps=>exact au (show h.get? a=some _ from x)
 |met f y=>exact au (show h.get? a=some _ from x)
 |ext φ=>obtain⟨_,⟨_,e⟩,_⟩:=x;exact au e
theorem Paired.mapP {α β:Type}{F G:α->β->Prop}:∀{l₁:List α}{l₂:List β},Paired F l₁ l₂->(∀a b,F a b->G a b)->Paired G l₁ l₂
 |_,_,.nil,_=>.nil
 |_,_,.cons r t,f=>.cons (f _ _ r) (Paired.mapP t f)
theorem Al.stay (x:Al P w H h a o) (k:∀b u,(b=a∨H b=some (.own a))->h.get? b=some u->h'.get? b=some u)
  (ho:∀b,H b=some (.own a)->H' b=some (.own a)) (ht:∀b xs,H b=some (.tup xs)->H' b=some (.tup xs)):Al P w H' h' a o:=by
 induction o with
 |lst xs=>obtain⟨z,its,n,r,e⟩:=x;exact⟨z,its,n,r,k _ _ (.inl rfl) e⟩
 |tup xs=>obtain⟨z,its,r,ob,e,c⟩:=x;exact⟨z,its,r,ob,k _ _ (.inl rfl) e,c⟩
 |dK kvs=>obtain⟨z,y,vs,r,ob,es,ep,e,c⟩:=x;exact⟨z,y,vs,r,ob,es,ep,k _ _ (.inl rfl) e,c⟩
 |dT kvs=>obtain⟨z,y,xs,r,ob,es,ep,e,c⟩:=x;exact⟨z,y,xs,Paired.mapP r λp q z=>⟨z.1,ht _ _ z.2.1,z.2.2⟩,ob,es,ep,k _ _ (.inl rfl) e,c⟩
 |set S n=>obtain⟨ob,es,ep,t,e,c⟩:=x;exact⟨ob,es,ep,t,k _ _ (.inl rfl) e,c⟩
 |ins C dx fs=>obtain⟨d,z,ne,e,mA,⟨od,es,ep,e2,c⟩,r⟩:=x;exact⟨ho _ d,z,ne,k _ _ (.inl rfl) e,mA,⟨od,es,ep,k _ _ (.inr d) e2,c⟩,r⟩
 |own y=>obtain⟨ob,e⟩:=x;exact⟨ob,k _ _ (.inl rfl) e⟩
 |xd fs=>obtain⟨mA,⟨od,es,ep,e,c⟩,r⟩:=x;exact⟨mA,⟨od,es,ep,k _ _ (.inl rfl) e,c⟩,r⟩
 |rng lo hi=>obtain⟨t,u,v,e⟩:=x;exact⟨t,u,v,k _ _ (.inl rfl) e⟩
 |frz ob u ih=>obtain⟨e,q⟩:=x;exact⟨k _ _ (.inl rfl) e,ih q⟩
 |tbl ps=>have e:h.get? a=some { cls:=.none,data:=.fields ps }:=x;show h'.get? a=some { cls:=.none,data:=.fields ps };exact k a _ (.inl rfl) e
 |met f y=>have e:h.get? a=some (uc (.ref f) (.ref y)):=x;show h'.get? a=some (uc (.ref f) (.ref y));exact k a _ (.inl rfl) e
 |ext φ=>obtain⟨p,⟨o,e⟩,st⟩:=x;exact⟨st _ _ p λo q=>k _ _ (.inl rfl) q,⟨o,k _ _ (.inl rfl) e⟩,st⟩
theorem Bk.lt (x:Bk P w H h) (e:H a=some o):a<h.objs.size:=(x a o e).lt
theorem Bk.fresh (x:Bk P w H h) (e:h.objs.size<=a):H a=none:=by
 cases q:H a with
 |none=>rfl
 |some u=>exact absurd (ay (x.lt q) e) (gn _)
theorem Bk.kept (x:Bk P w H h) (k:∀b u,h.get? b=some u->h'.get? b=some u):Bk P w H h':=λa o e=>(x a o e).stay (λb u _ q=>k b u q) (λ_ q=>q) λ_ _ q=>q
theorem Bk.laid (x:Bk P w H h) (k:∀b u,h.get? b=some u->h'.get? b=some u) (hp:h.objs.size<=a) (new:Al P w (aV H a o) h' a o):Bk P w (aV H a o) h':=λb u e=>by
 have hn:=x.fresh hp
 by_cases hb:b=a
 ·subst hb;rw[eR]at e;cases e;exact new
 ·rw[cF hb]at e;exact(x b u e).stay (λc v _ q=>k c v q) (λc q=>by rw[cF (fV q hn)];exact q) λc xs q=>by rw[cF (fV q hn)];exact q
end
def Rd (H:Hp) (a:ah) (u:HO):Prop:=H a=some u∨∃o,H a=some (.frz o u)
theorem Rd.ok {P:bf}{w:cf}{H:Hp}{h:cx}{a:ah}{u:HO}(r:Rd H a u) (x:Bk P w H h):Al P w H h a u:=by
 rcases r with r|⟨o,r⟩
 ·exact x a u r
 ·obtain⟨_,q⟩:=x a _ r;exact q
def uU:Option HO->Prop
 |some (.lst _)=>True
 |some (.dK _)=>True
 |some (.dT _)=>True
 |some (.set _ _)=>True
 |some (.ins _ _ _)=>True
 |some (.ext _)=>True
 |_=>False
section
variable{P:bf}{w:cf}{H:Hp}{h h':cx}{x e:ah}{o':HO}
theorem Bk.write (ok:Bk P w H h) (mu:uU (H x)) (he:e=x∨H e=some (.own x)) (k:∀b u,b≠e->h.get? b=some u->h'.get? b=some u) (heo:∃u,h'.get? e=some u)
  (new:Al P w (aV H x o') h' x o'):Bk P w (aV H x o') h':=λb u q=>by
 have nown:∀c y,H c=some (.own y)->c≠x:=λc y r z=>by subst z;rw[r]at mu;exact mu
 have ntup:∀c xs,H c=some (.tup xs)->c≠x:=λc xs r z=>by subst z;rw[r]at mu;exact mu
 by_cases hb:b=x
 ·subst hb;rw[eR]at q;cases q;exact new
 ·rw[cF hb]at q
  by_cases hbe:b=e
  ·have q':H b=some (.own x):=by
    rcases he with z|z
    ·exact absurd (hbe.trans z) hb
    ·rw[hbe];exact z
   rw[q]at q';cases q';obtain⟨v,hv⟩:=heo;exact⟨v,by rw[hbe];exact hv⟩
  ·refine(ok b u q).stay (λc v hc r=>k c v ?_ r) (λc r=>by rw[cF (nown c b r)];exact r) λc xs r=>by rw[cF (ntup c xs r)];exact r
   rcases hc with rfl|hc
   ·exact hbe
   ·rintro rfl
    rcases he with z|z
    ·exact nown c b hc z
    ·rw[hc]at z;cases z;exact hb rfl
end
structure Un (fs ex:List ah) (H H':Hp) (h h':cx):Prop where
 keep:∀b o,h.get? b=some o->H b=none->b∉fs->b∉ex->h'.get? b=some o
 slot:∀b o,h.get? b=some o->H b=none->b∈fs->b∉ex->∃sl,h'.get? b=some { o with slots:=sl }
 free:∀b o,h.get? b=some o->H b=none->b∉ex->H' b=none
 there:∀b o,h.get? b=some o->b∉ex->∃o',h'.get? b=some o'
 tups:∀b xs,H b=some (.tup xs)->H' b=some (.tup xs)
 frzs:∀b o u,H b=some (.frz o u)->H' b=some (.frz o u)
 tbls:∀b ps,H b=some (.tbl ps)->∃more,H' b=some (.tbl (ps++more))
section
variable{fs fs' ex ex':List ah}{H H1 H2:Hp}{h h1 h2 h':cx}{a x e:ah}{o:HO}
theorem Un.any (u:Un fs ex H H1 h h1) {b:ah}{ob:Obj}(q:h.get? b=some ob) (n:H b=none) (hx:b∉ex):∃sl,h1.get? b=some { ob with slots:=sl }:=by
 by_cases hb:b∈fs
 ·exact u.slot b ob q n hb hx
 ·exact⟨ob.slots,u.keep b ob q n hb hx⟩
theorem Un.kept (k:∀b u,h.get? b=some u->h'.get? b=some u):Un fs ex H H h h':=⟨λb ob q _ _ _=>k b ob q,λb ob q _ _ _=>⟨ob.slots,k b ob q⟩,λ_ _ _ n _=>n,λb ob q _=>⟨ob,k b ob q⟩,λ_ _ q=>q,λ_ _ _ q=>q,λ_ ps q=>⟨#[],by rw[q];simp⟩⟩
theorem Un.refl:Un fs ex H H h h:=Un.kept λ_ _ q=>q
theorem Un.laid (k:∀b u,h.get? b=some u->h'.get? b=some u) (hp:h.objs.size<=a) (hn:H a=none):Un fs ex H (aV H a o) h h' where
 keep:=λb u q _ _ _=>k b u q
 slot:=λb u q _ _ _=>⟨u.slots,k b u q⟩
 free:=λb u q n _=>by rw[cF (bg (ay (au q) hp))];exact n
 there:=λb u q _=>⟨u,k b u q⟩
 tups:=λb xs q=>by rw[cF (fV q hn)];exact q
 frzs:=λb u xs q=>by rw[cF (fV q hn)];exact q
 tbls:=λb ps q=>⟨#[],by rw[cF (fV q hn),q];simp⟩
theorem Un.write (mu:uU (H x)) (he:e=x∨H e=some (.own x)) (k:∀b u,b≠e->h.get? b=some u->h'.get? b=some u) (heo:∃u,h'.get? e=some u):Un fs ex H (aV H x o) h h':=by
 have hx:∀b,H b=none->b≠x:=λb n z=>by subst z;rw[n]at mu;exact mu
 have hb:∀b,H b=none->b≠e:=λb n z=>by
  subst z
  rcases he with r|r
  ·exact hx b n r
  ·rw[n]at r;cases r
 have hm:∀b u,H b=some u->¬ uU (some u)->b≠x:=λb u q nm z=>by subst z;rw[q]at mu;exact nm mu
 refine⟨λb u q n _ _=>k b u (hb b n) q,λb u q n _ _=>⟨u.slots,k b u (hb b n) q⟩,λb u q n _=>by rw[cF (hx b n)];exact n,λb u q _=>?_,
  λb xs q=>by rw[cF (hm b _ q λz=>z)];exact q,λb u xs q=>by rw[cF (hm b _ q λz=>z)];exact q,λb ps q=>⟨#[],by rw[cF (hm b _ q λz=>z),q];simp⟩⟩
 by_cases hbe:b=e
 ·subst hbe;exact heo
 ·exact⟨u,k b u hbe q⟩
end
def uV (h:cx) (H:Hp):List ah:=(bj h.objs.size).filter λa=>(H a).isSome
def kH (h:cx) (H:Hp):cx:=PySem.W.hideAll h (uV h H)
theorem O7 (h:cx) (H:Hp):(kH h H).objs.size=h.objs.size:=PySem.W.hideAll_size _ _
theorem O8 {h:cx}{H:Hp}{b:ah}{o:Obj}(e:h.get? b=some o) (n:H b=none):(kH h H).get? b=some o:=PySem.W.hideAll_get _ e λhm=>by have q:(H b).isSome=true:=(gd.mp hm).2;rw[n]at q;simp at q
theorem O9 {h:cx}{H:Hp}{b:ah}{o:Obj}(e:(kH h H).get? b=some o):h.get? b=some o/\H b=none:=by
 have e':h.get? b=some o:=PySem.W.of_hideAll (uV h H) e;refine⟨e', ?_⟩
 cases q:H b with
 |none=>rfl
 |some x=>have hm:b∈uV h H:=gd.mpr ⟨bu.mpr (au e'),by simp[q]⟩;have z:(kH h H).get? b=none:=PySem.W.hideAll_none (uV h H) hm;rw[z]at e;cases e
structure Mod (K:ao) (mg:Str->Option af) (base:cx):Prop where
 kin:K.In base
 glob:base.Ns en mg
 blt:∃mb,base.Ns builtinsNs mb/\∀x:Str,x ≠ "__name__"->mb x=dj x
 nolimit:base.NoLimit
structure Cx where
 prog:bf
 w:cf
 K:ao
 mg:Str->Option af
 base:cx
 A:cg
 N:zu
 s₀:ag
 H₀:Hp
 env:Env
 outer:List Env
 stack:List Env
 ex:List ah
 fn:Str->Bool
 calm:Bool
 pn:List (ah×Obj)
 xe:af->ag->Prop
def eW (l:List Env):List ah:=l.filterMap (·.frame)
abbrev Cx.fs (X:Cx):List ah:=eW X.outer
def sL (sc:gu) (x:Str):Prop:=sc.names.lookup x=some .local∨sc.names.lookup x=some .cell∨sc.names.lookup x=some .free
def nW (sc:gu) (x:Str):Prop:=sc.names.lookup x=some .local∨sc.names.lookup x=some .cell
def PB (env:Env) (h:cx) (m:Str->Option af) (x:Str) (u:af):Prop:=(env.kindOf x=some .local/\m x=some u)∨((env.kindOf x=some .cell∨env.kindOf x=some .free)/\∃c,env.cells.lookup x=some c/\h.IsCell c (some u))
structure Cx.Ok (X:Cx):Prop where
 mod:Mod X.K X.mg X.base
 kind:X.env.scope.kind=.function
 glob:X.env.globals=en
 blt:X.env.builtins=builtinsNs
 above:X.s₀.heap.objs.size<=X.env.locals
 inj:∀x y c,X.env.cells.lookup x=some c->X.env.cells.lookup y=some c->x=y
 has:∀x,(X.env.kindOf x=some .cell∨X.env.kindOf x=some .free)->∃c,X.env.cells.lookup x=some c
 cab:∀x c,X.fn x=true->X.env.cells.lookup x=some c->X.s₀.heap.objs.size<=c
 hd:X.calm=true->X.A.handled=none
 frames:X.A.frames=some X.stack
 stk:X.stack=X.outer∨(X.stack=X.env::X.outer/\X.env.frame=some X.env.locals)
 exf:∀b∈X.ex,b≠X.env.locals/\∀x c,X.env.cells.lookup x=some c->c≠b
 bs:∀b o,X.base.get? b=some o->X.s₀.heap.get? b=some o/\X.H₀ b=none
 bsz:X.base.objs.size<=X.s₀.heap.objs.size
 noex:∀b o,X.base.get? b=some o->b∉X.ex
 exfs:∀b∈X.ex,b∉X.fs
 funs:X.s₀.heap.FunFrames X.base X.outer
 frf:∀b∈X.fs,X.H₀ b=none
structure Inv (X:Cx) (pins:List (ah×Obj)) (σ:List (Option V)) (H:Hp) (s:ag):Prop where
 ok:X.Ok
 os:s.os=X.s₀.os
 bare:qw s.gens
 base:Un X.fs X.ex X.H₀ H X.s₀.heap s.heap
 loc:∃m,s.heap.Ns X.env.locals m/\∀(i:Nat) (x:Str) (v:V),X.N[i]?=some x->σ[i]?=some (some v)->sL X.env.scope x->∃u,RelV v u/\PB X.env s.heap m x u
 cell:∀x c,X.env.cells.lookup x=some c->∃v,s.heap.IsCell c v
 free:H X.env.locals=none
 freeC:∀x c,X.env.cells.lookup x=some c->H c=none
 pin:∀p∈X.pn++pins,s.heap.get? p.1=some p.2/\H p.1=none/\p.1≠X.env.locals/\p.1∉X.fs/\∀v,p.2.data≠.cell v
 hok:Bk X.prog X.w H s.heap
 len:σ.length=X.N.length
section
variable{X:Cx}{pins:List (ah×Obj)}{σ:List (Option V)}{H H':Hp}{s:ag}{h':cx}
theorem Cx.Ok.nofr (ok:X.Ok) {b:ah}{o:Obj}(e:X.base.get? b=some o):b∉X.fs:=λhb=>by have:=(ok.funs.mem hb).1;rw[e]at this;cases this
theorem Inv.bs (I:Inv X pins σ H s):∀b o,X.base.get? b=some o->s.heap.get? b=some o/\H b=none:=λb o e=>⟨I.base.keep b o (I.ok.bs b o e).1 (I.ok.bs b o e).2 (I.ok.nofr e) (I.ok.noex b o e),I.base.free b o (I.ok.bs b o e).1 (I.ok.bs b o e).2 (I.ok.noex b o e)⟩
theorem Inv.bk (I:Inv X pins σ H s):∀b o,X.base.get? b=some o->s.heap.get? b=some o:=λb o e=>(I.bs b o e).1
theorem Inv.mod (I:Inv X pins σ H s):Mod X.K X.mg X.base:=I.ok.mod
theorem Inv.kIn (I:Inv X pins σ H s):X.K.In s.heap:=I.ok.mod.kin.keeps I.bk
theorem Inv.lt (I:Inv X pins σ H s):X.env.locals<s.heap.objs.size:=let ⟨_,hn,_⟩:=I.loc;hn.lt
theorem Inv.sz (I:Inv X pins σ H s):X.s₀.heap.objs.size<=s.heap.objs.size:=di I.ok.above (gy I.lt)
theorem Inv.nofs (I:Inv X pins σ H s) {a:ah}(h:s.heap.objs.size<=a):a∉X.fs:=λhb=>by obtain⟨_,o,ho,_⟩:=I.ok.funs.mem hb;exact absurd (ay (au ho) (di I.sz h)) (gn _)
theorem Inv.cne (I:Inv X pins σ H s):∀x c,X.env.cells.lookup x=some c->c≠X.env.locals:=λx c e z=>by obtain⟨v,o,ho,hd⟩:=I.cell x c e;obtain⟨m,⟨o',es,ep,ho',Cm,_⟩,_⟩:=I.loc;rw[z,ho']at ho;cases ho;rw[Cm]at hd;cases hd
theorem Inv.funs (I:Inv X pins σ H s):s.heap.FunFrames X.base X.outer:=by
 have all:∀(l:List Env),(∀b∈eW l,b∈X.fs)->X.s₀.heap.FunFrames X.base l->s.heap.FunFrames X.base l:=by
  intro l
  induction l with
  |nil=>intro _ _;trivial
  |cons env r ih=>intro hs hl;obtain⟨hk,⟨L,o,hf,hn,ho,hd⟩,hr⟩:=hl;have hL:L∈X.fs:=hs L (by unfold eW;rw[cm,hf];exact ax);obtain⟨sl,e⟩:=I.base.slot L o ho (I.ok.frf L hL) hL λz=>I.ok.exfs L z hL;exact⟨hk,⟨L,_,hf,hn,e,hd⟩,ih (λb hb=>hs b (by unfold eW;rw[cm,hf];exact aq _ hb)) hr⟩
 exact all X.outer (λ_ hb=>hb) I.ok.funs
theorem Inv.stack (I:Inv X pins σ H s):s.heap.FunFrames X.base X.stack:=by
 rcases I.ok.stk with e|⟨e,hf⟩
 ·rw[e];exact I.funs
 ·rw[e];obtain⟨m,hn,_⟩:=I.loc;refine .cons (by rw[I.ok.kind];decide) hf hn ?_ I.funs;exact Heap.get?_none_of_le (di I.ok.bsz I.ok.above)
theorem Inv.stkSub (I:Inv X pins σ H s):∀b∈eW X.stack,b∈X.env.locals::X.fs:=λb hb=>by
 rcases I.ok.stk with e|⟨e,hf⟩
 ·rw[e]at hb;exact aq _ hb
 ·rw[e]at hb;unfold eW at hb;rw[cm,hf]at hb;exact hb
theorem Inv.stkFree (I:Inv X pins σ H s):∀b∈eW X.stack,H b=none:=λb hb=>by
 rcases az.mp (I.stkSub b hb)with e|hb
 ·rw[e];exact I.free
 ·obtain⟨_,o,ho,_⟩:=I.ok.funs.mem hb;exact I.base.free b o ho (I.ok.frf b hb) λz=>I.ok.exfs b z hb
theorem Inv.step {g':Array GenState}{t':Nat}{d':Drawn}{ch:List ah}(I:Inv X pins σ H s)
  (Dd:∀b∈ch,(b∈X.ex∨X.s₀.heap.objs.size<=b)/\b≠X.env.locals/\(∀x c,X.env.cells.lookup x=some c->c≠b)/\∀p∈X.pn++pins,p.1≠b)
  (keep:∀b o,b≠X.env.locals->b∉X.fs->b∉ch->s.heap.get? b=some o->H b=none->h'.get? b=some o)
  (slot:∀b o,b≠X.env.locals->b∈X.fs->b∉ch->s.heap.get? b=some o->H b=none->∃sl,h'.get? b=some { o with slots:=sl }) (free:∀b o,b∉ch->s.heap.get? b=some o->H b=none->H' b=none)
  (there:∀b o,b∉ch->s.heap.get? b=some o->∃o',h'.get? b=some o')
  (tups:∀b xs,H b=some (.tup xs)->H' b=some (.tup xs)) (frzs:∀b o u,H b=some (.frz o u)->H' b=some (.frz o u)) (tbls:∀b ps,H b=some (.tbl ps)->∃more,H' b=some (.tbl (ps++more)))
  (ns:∀m,s.heap.Ns X.env.locals m->h'.Ns X.env.locals m) (hok:Bk X.prog X.w H' h') (hg:qw g'):
  Inv X pins σ H' { s with heap:=h',gens:=g',drawn:=d',toks:=t' }:=by
 have neL:∀b o,X.s₀.heap.get? b=some o->b≠X.env.locals:=λb o e=>bg (ay (au e) I.ok.above);have neC:∀b o,X.s₀.heap.get? b=some o->b∉X.ex->b∉ch:=λb o e hx hb=>by
  rcases(Dd b hb).1 with z|z
  ·exact hx z
  ·exact absurd (ay (au e) z) (gn _)
 have cellK:∀x c,X.env.cells.lookup x=some c->∀v,s.heap.IsCell c v->h'.IsCell c v:=λx c e v ⟨o,ho,hd⟩=>by
  have nch:c∉ch:=λz=>(Dd c z).2.2.1 x c e rfl
  by_cases hc:c∈X.fs
  ·obtain⟨sl,q⟩:=slot c o (I.cne x c e) hc nch ho (I.freeC x c e);exact⟨_,q,hd⟩
  ·exact⟨o,keep c o (I.cne x c e) hc nch ho (I.freeC x c e),hd⟩
 refine⟨I.ok,I.os,hg,⟨λb o e n hb hx=>?_,λb o e n hb hx=>?_,λb o e n hx=>?_,λb o e hx=>?_,λb xs e=>tups b xs (I.base.tups b xs e),λb o xs e=>frzs b o xs (I.base.frzs b o xs e),λb ps e=>?_⟩, ?_,λx c e=>?_, ?_,λx c e=>?_,λp hp=>?_,hok,I.len⟩
 ·exact keep b o (neL b o e) hb (neC b o e hx) (I.base.keep b o e n hb hx) (I.base.free b o e n hx)
 ·obtain⟨sl,e1⟩:=I.base.slot b o e n hb hx;obtain⟨sl',e2⟩:=slot b _ (neL b o e) hb (neC b o e hx) e1 (I.base.free b o e n hx);exact⟨sl',e2⟩
 ·obtain⟨o',e1⟩:=I.base.there b o e hx;exact free b o' (neC b o e hx) e1 (I.base.free b o e n hx)
 ·obtain⟨o',e1⟩:=I.base.there b o e hx;exact there b o' (neC b o e hx) e1
 ·obtain⟨m1,e1⟩:=I.base.tbls b ps e;obtain⟨m2,e2⟩:=tbls b _ e1;exact⟨m1++m2,by rw[e2,Array.append_assoc]⟩
 ·obtain⟨m,hn,hl⟩:=I.loc;refine⟨m,ns m hn,λi x v e1 e2 e3=>?_⟩;obtain⟨u,r,l⟩:=hl i x v e1 e2 e3;refine⟨u,r, ?_⟩
  rcases l with l|⟨k,c,e,z⟩
  ·exact .inl l
  ·exact .inr ⟨k,c,e,cellK x c e _ z⟩
 ·obtain⟨v,z⟩:=I.cell x c e;exact⟨v,cellK x c e v z⟩
 ·obtain⟨m,⟨o,_,_,ho,_⟩,_⟩:=I.loc;exact free _ o (λz=>(Dd _ z).2.1 rfl) ho I.free
 ·obtain⟨v,o,ho,hd⟩:=I.cell x c e;exact free c o (λz=>(Dd c z).2.2.1 x c e rfl) ho (I.freeC x c e)
 ·obtain⟨e,n,ne,nf,d⟩:=I.pin p hp;have nch:p.1∉ch:=λz=>(Dd p.1 z).2.2.2 p hp rfl;exact⟨keep p.1 p.2 ne nf nch e n,free p.1 p.2 nch e n,ne,nf,d⟩
theorem Inv.un {t':Nat}(I:Inv X pins σ H s) (u:Un X.fs [] H H' s.heap h') (hok:Bk X.prog X.w H' h'):Inv X pins σ H' { s with heap:=h',toks:=t' }:=by obtain⟨m,⟨o,es,ep,ho,r⟩,_⟩:=id I.loc;obtain⟨sl,hL⟩:=u.any ho I.free (by simp);exact I.step (g':=s.gens) (d':=s.drawn) (ch:=[]) (λ_ z=>nomatch z) (λb o _ hb _ e n=>u.keep b o e n hb (by simp)) (λb o _ hb _ e n=>u.slot b o e n hb (by simp)) (λb o _ e n=>u.free b o e n (by simp)) (λb o _ e=>u.there b o e (by simp)) u.tups u.frzs u.tbls (λm' hm=>by obtain⟨o',es',ep',ho',r'⟩:=hm;rw[ho]at ho';cases ho';exact⟨_,es',ep',hL,r'⟩) hok I.bare
theorem Inv.call {g':Array GenState}{t':Nat}{d':Drawn}{ch:List ah}(I:Inv X pins σ H s) (u:Un (eW X.stack) ch H H' s.heap h') (hok:Bk X.prog X.w H' h') (hg:qw g')
  (Dd:∀b∈ch,(b∈X.ex∨X.s₀.heap.objs.size<=b)/\b≠X.env.locals/\(∀x c,X.env.cells.lookup x=some c->c≠b)/\∀p∈X.pn++pins,p.1≠b):
  Inv X pins σ H' { s with heap:=h',gens:=g',drawn:=d',toks:=t' }:=by
 obtain⟨m,⟨o,es,ep,ho,r⟩,_⟩:=id I.loc;obtain⟨sl,hL⟩:=u.any ho I.free λz=>(Dd _ z).2.1 rfl;exact I.step (ch:=ch) Dd (λb o hL hb hc e n=>u.keep b o e n (λz=>(az.mp (I.stkSub b z)).elim hL hb) hc) (λb o _ _ hc e n=>u.any e n hc) (λb o hc e n=>u.free b o e n hc) (λb o hc e=>u.there b o e hc) u.tups u.frzs u.tbls (λm' hm=>by obtain⟨o',es',ep',ho',r'⟩:=hm;rw[ho]at ho';cases ho';exact⟨_,es',ep',hL,r'⟩) hok hg
theorem Inv.turned {t':Nat}{it:ah}(I:Inv X pins σ H s) (k:∀b o,b≠it->s.heap.get? b=some o->h'.get? b=some o) (hn:H it=none) (hL:it≠X.env.locals)
  (h1:it∈X.ex∨X.s₀.heap.objs.size<=it) (h2:∀x c,X.env.cells.lookup x=some c->c≠it) (h3:∀p∈X.pn++pins,p.1≠it):Inv X pins σ H { s with heap:=h',toks:=t' }:=by
 have nit:∀b u,H b=some u->b≠it:=λb u e z=>by rw[z,hn]at e;cases e
 refine I.step (g':=s.gens) (d':=s.drawn) (ch:=[it]) (λb hb=>?_) (λb o _ _ hc e _=>k b o (λz=>hc (by simp[z])) e) (λb o _ _ hc e _=>⟨o.slots,k b o (λz=>hc (by simp[z])) e⟩) (λ_ _ _ _ n=>n)
  (λb o hc e=>⟨o,k b o (λz=>hc (by simp[z])) e⟩) (λ_ _ e=>e) (λ_ _ _ e=>e) (λb ps e=>⟨#[],by rw[e];simp⟩) (λm hm=>?_) (λb u e=>?_) I.bare
 ·have e:b=it:=by simpa using hb
  subst e;exact⟨h1,hL,h2,h3⟩
 ·obtain⟨o,es,ep,ho,r⟩:=hm;exact⟨o,es,ep,k _ o (cy hL) ho,r⟩
 ·refine(I.hok b u e).stay (λc v hc q=>k c v ?_ q) (λ_ q=>q) λ_ _ q=>q
  rcases hc with z|z
  ·rw[z];exact nit b u e
  ·exact nit c _ z
theorem Inv.tok (I:Inv X pins σ H s) (t:Nat):Inv X pins σ H { s with toks:=t }:=I.un (h':=s.heap) (t':=t) Un.refl I.hok
theorem Inv.kept {t':Nat}(I:Inv X pins σ H s) (k:∀b u,s.heap.get? b=some u->h'.get? b=some u):Inv X pins σ H { s with heap:=h',toks:=t' }:=I.un (Un.kept k) (I.hok.kept k)
theorem Inv.laid {a:ah}{o:HO}{t':Nat}(I:Inv X pins σ H s) (k:∀b u,s.heap.get? b=some u->h'.get? b=some u) (hp:s.heap.objs.size<=a) (new:Al X.prog X.w (aV H a o) h' a o):
  Inv X pins σ (aV H a o) { s with heap:=h',toks:=t' }:=I.un (Un.laid k hp (I.hok.fresh hp)) (I.hok.laid k hp new)
theorem Inv.write {x e:ah}{o:HO}{t':Nat}(I:Inv X pins σ H s) (mu:uU (H x)) (he:e=x∨H e=some (.own x)) (k:∀b u,b≠e->s.heap.get? b=some u->h'.get? b=some u) (heo:∃u,h'.get? e=some u)
  (new:Al X.prog X.w (aV H x o) h' x o):Inv X pins σ (aV H x o) { s with heap:=h',toks:=t' }:=I.un (Un.write mu he k heo) (I.hok.write mu he k heo new)
theorem Inv.pins_of {pins':List (ah×Obj)}(I:Inv X pins σ H s) (h:∀p∈pins',s.heap.get? p.1=some p.2/\H p.1=none/\p.1≠X.env.locals/\p.1∉X.fs/\∀v,p.2.data≠.cell v):Inv X pins' σ H s:=⟨I.ok,I.os,I.bare,I.base,I.loc,I.cell,I.free,I.freeC,λp hp=>(cq.mp hp).elim (λz=>I.pin p (fg _ z)) (h p),I.hok,I.len⟩
theorem E3 {N:zu}(hN:N.Nodup) {i j:Nat}{x:Str}(a:N[i]?=some x) (b:N[j]?=some x):i=j:=by obtain⟨h1,e1⟩:=bq.mp a;obtain⟨h2,e2⟩:=bq.mp b;exact(List.getElem_inj hN).mp (e1.trans e2.symm)
theorem E4 {M:wk}{A:cg}{E:af->ag->Prop}{i:Nat}{x:Str}{v:V}{u:af}{Q:Unit->ag->Prop}(I:Inv X pins σ H s) (hN:X.N.Nodup) (hi:X.N[i]?=some x) (hx:nW X.env.scope x) (r:RelV v u)
  (h:∀s',Inv X pins (σ.set i (some v)) H s'->(∃a,iu a s.heap s'.heap/\(a=X.env.locals∨X.env.cells.lookup x=some a))->Q () s') (hf:X.fn x=true∨X.env.scope.names.lookup x=some .local:=by first|exact .inl rfl|exact .inr rfl|assumption):wpAny M A (storeName X.env x u) Q E s:=by
 obtain⟨m,hn,hl⟩:=id I.loc;have hcls:(X.env.scope.kind==.class||(X.env.scope.kind==.module&&X.env.locals != X.env.globals))=false:=by rw[I.ok.kind];rfl
 have hiσ:i<σ.length:=by rw[I.len];exact(bq.mp hi).1
 have cne:=I.cne;have tracked:∀{a:ah}{h':cx},(∃o,s.heap.get? a=some o/\H a=none)->iu a s.heap h'->Bk X.prog X.w H h':=λ{a h'} ha hs b ob e=>by
  obtain⟨_,_,hfree⟩:=ha;refine(I.hok b ob e).stay (λc w' hc q=>(hs.2 c ?_).trans q) (λ_ q=>q) λ_ _ q=>q
  rintro rfl
  rcases hc with rfl|hc
  ·rw[hfree]at e;cases e
  ·rw[hfree]at hc;cases hc
 rcases hx with hk|hk
 ·refine wpAny_storeName_local hk hn (λh' hn' hs=>?_) hcls;obtain⟨oL,_,_,hoL,_⟩:=id hn;refine h _ ⟨I.ok,I.os,I.bare,⟨λb o e n hb hx=>?_,λb o e n hb hx=>?_,I.base.free,λb o e hx=>?_,I.base.tups,I.base.frzs,I.base.tbls⟩,⟨_,hn',λj y v' e1 e2 e3=>?_⟩,λy c e=>?_,I.free,I.freeC,λp hp=>?_,tracked ⟨oL,hoL,I.free⟩ hs,by simpa using I.len⟩ ⟨_,hs,.inl rfl⟩
  ·exact(hs.2 b (bg (ay (au e) I.ok.above))).trans (I.base.keep b o e n hb hx)
  ·obtain⟨sl,e1⟩:=I.base.slot b o e n hb hx;exact⟨sl,(hs.2 b (bg (ay (au e) I.ok.above))).trans e1⟩
  ·obtain⟨o',e1⟩:=I.base.there b o e hx;exact⟨o',(hs.2 b (bg (ay (au e) I.ok.above))).trans e1⟩
  ·by_cases hj:j=i
   ·subst hj;rw[hi]at e1;cases e1;rw[gv hiσ]at e2;cases e2;exact⟨u,r,.inl ⟨hk,by simp⟩⟩
   ·rw[gr (cy hj)]at e2;obtain⟨u',r',q⟩:=hl j y v' e1 e2 e3;refine⟨u',r', ?_⟩
    rcases q with⟨k,e⟩|⟨k,c,e,z⟩
    ·refine .inl ⟨k, ?_⟩;have:y≠x:=λe=>hj (E3 hN e1 (e▸hi));simp[this,e]
    ·exact .inr ⟨k,c,e,z.sameBut hs (cne y c e)⟩
  ·obtain⟨w',z⟩:=I.cell y c e;exact⟨w',z.sameBut hs (cne y c e)⟩
  ·obtain⟨e,n,ne,nf,d⟩:=I.pin p hp;exact⟨(hs.2 p.1 ne).trans e,n,ne,nf,d⟩
 ·have hfn:X.fn x=true:=by
   rcases hf with z|z
   ·exact z
   ·rw[z]at hk;cases hk
  obtain⟨c,hc⟩:=I.ok.has x (.inl hk);obtain⟨w',z⟩:=I.cell x c hc;refine wpAny_storeName_cell I.ok.kind hk hc z (λh' hc' hs=>?_);obtain⟨oc,hoc,hocd⟩:=id z;refine h { s with heap:=h' } ⟨I.ok,I.os,I.bare,⟨λb o e n hb hx=>?_,λb o e n hb hx=>?_,I.base.free,λb o e hx=>?_,I.base.tups,I.base.frzs,I.base.tbls⟩,⟨m,hn.sameBut hs (cy (cne x c hc)),λj y v' e1 e2 e3=>?_⟩,λy c' e=>?_,I.free,I.freeC,λp hp=>?_,tracked ⟨oc,hoc,I.freeC x c hc⟩ hs,by simpa using I.len⟩ ⟨c,hs,.inr hc⟩
  ·exact(hs.2 b (bg (ay (au e) (I.ok.cab x c hfn hc)))).trans (I.base.keep b o e n hb hx)
  ·obtain⟨sl,e1⟩:=I.base.slot b o e n hb hx;exact⟨sl,(hs.2 b (bg (ay (au e) (I.ok.cab x c hfn hc)))).trans e1⟩
  ·obtain⟨o',e1⟩:=I.base.there b o e hx;exact⟨o',(hs.2 b (bg (ay (au e) (I.ok.cab x c hfn hc)))).trans e1⟩
  ·by_cases hj:j=i
   ·subst hj;rw[hi]at e1;cases e1;rw[gv hiσ]at e2;cases e2;exact⟨u,r,.inr ⟨.inl hk,c,hc,hc'⟩⟩
   ·rw[gr (cy hj)]at e2;obtain⟨u',r',q⟩:=hl j y v' e1 e2 e3;refine⟨u',r', ?_⟩
    rcases q with q|⟨k,c',e,z'⟩
    ·exact .inl q
    ·refine .inr ⟨k,c',e,z'.sameBut hs ?_⟩
     rintro rfl
     exact hj (E3 hN e1 (I.ok.inj _ _ _ e hc▸hi))
  ·by_cases hcc:c'=c
   ·subst hcc;exact⟨_,hc'⟩
   ·obtain⟨w2,z2⟩:=I.cell y c' e;exact⟨w2,z2.sameBut hs hcc⟩
  ·obtain⟨e,n,ne,nf,d⟩:=I.pin p hp;refine⟨(hs.2 p.1 ?_).trans e,n,ne,nf,d⟩;intro q;rw[q,hoc]at e;have q':oc=p.2:=cw e;exact d w' (by rw[<-q'];exact hocd)
theorem E5 {M:wk}{A:cg}{E:af->ag->Prop}{i:Nat}{x:Str}{v:V}{u:af}{Q:Unit->ag->Prop}(I:Inv X pins σ H s) (hN:X.N.Nodup) (hi:X.N[i]?=some x) (hx:nW X.env.scope x) (r:RelV v u)
  (h:∀s',Inv X pins (σ.set i (some v)) H s'->Q () s') (hf:X.fn x=true∨X.env.scope.names.lookup x=some .local:=by first|exact .inl rfl|exact .inr rfl|assumption):wpAny M A (storeName X.env x u) Q E s:=
 E4 I hN hi hx r (λs' I' _=>h s' I') hf
theorem Inv.call' {s':ag}{ch:List ah}(I:Inv X pins σ H s) (ho:s'.os=s.os) (u:Un (eW X.stack) ch H H' s.heap s'.heap) (hok:Bk X.prog X.w H' s'.heap) (hg:qw s'.gens)
  (Dd:∀b∈ch,(b∈X.ex∨X.s₀.heap.objs.size<=b)/\b≠X.env.locals/\(∀x c,X.env.cells.lookup x=some c->c≠b)/\∀p∈X.pn++pins,p.1≠b):Inv X pins σ H' s':=by
 obtain⟨h',g',d',t',o'⟩:=s';have e:o'=s.os:=ho;subst e;exact I.call (g':=g') (t':=t') (d':=d') u hok hg Dd
end
abbrev XK:=af->Option ah->Hp->Prop
abbrev St:=List (Option V)
abbrev VK:=V->Hp->Prop
abbrev TE:=St->Hp->VK->Prop
abbrev TT:=St->Hp->(Bool->Hp->Prop)->Prop
abbrev TA:=St->Hp->(List V->Hp->Prop)->Prop
structure Ends where
 nx:St->Hp->Prop
 rt:VK
 bk:St->Hp->Prop:=λ_ _=>False
 ct:St->Hp->Prop:=λ_ _=>False
abbrev TS:=Ends->St->Hp->Prop
def EP (X:Cx) (pins:List (ah×Obj)) (σ:St) (Q:VK) (u:af) (s':ag):Prop:=∃v H',Inv X pins σ H' s'/\RelV v u/\Q v H'
def TP (X:Cx) (pins:List (ah×Obj)) (σ:St) (Q:Bool->Hp->Prop) (b:Bool) (s':ag):Prop:=∃H',Inv X pins σ H' s'/\Q b H'
def AP (X:Cx) (pins:List (ah×Obj)) (σ:St) (Q:List V->Hp->Prop) (us:List af) (s':ag):Prop:=∃vs H',Inv X pins σ H' s'/\Ag vs us/\Q vs H'
def SP (X:Cx) (pins:List (ah×Obj)) (D:Ends) (f:Flow) (s':ag):Prop:=
 match f with
 | .next=>∃σ' H',Inv X pins σ' H' s'/\D.nx σ' H'
 | .brk=>∃σ' H',Inv X pins σ' H' s'/\D.bk σ' H'
 | .cont=>∃σ' H',Inv X pins σ' H' s'/\D.ct σ' H'
 | .ret u=>∃v σ' H',Inv X pins σ' H' s'/\RelV v u/\D.rt v H'
def PE (X:Cx) (e:br) (t:TE):Prop:=∀(pins:List (ah×Obj)) (s:ag) (σ:St) (H:Hp) (Q:VK),Inv X pins σ H s->t σ H Q->wpAny (model X.prog X.w) X.A (eval e X.env) (EP X pins σ Q) X.xe s
def PT (X:Cx) (e:br) (t:TT):Prop:=∀(pins:List (ah×Obj)) (s:ag) (σ:St) (H:Hp) (Q:Bool->Hp->Prop),Inv X pins σ H s->t σ H Q->wpAny (model X.prog X.w) X.A (isTrue e X.env (eval e X.env)) (TP X pins σ Q) X.xe s
def PW (X:Cx) (e:br) (t:TT):Prop:=∀(whole:Sem af) (pins:List (ah×Obj)) (s:ag) (σ:St) (H:Hp) (Q:Bool->Hp->Prop),Inv X pins σ H s->t σ H Q->wpAny (model X.prog X.w) X.A (isTrue e X.env whole) (TP X pins σ Q) X.xe s
theorem PW.pt {X:Cx}{e:br}{t:TT}(h:PW X e t):PT X e t:=h _
def PA (X:Cx) (es:List br) (t:TA):Prop:=∀(pos:Pos) (pins:List (ah×Obj)) (s:ag) (σ:St) (H:Hp) (Q:List V->Hp->Prop),Inv X pins σ H s->t σ H Q->wpAny (model X.prog X.w) X.A (spliced (backTo pos (ar es X.env))) (AP X pins σ Q) X.xe s
def PS (X:Cx) (st:gf) (t:TS):Prop:=∀(pins:List (ah×Obj)) (s:ag) (σ:St) (H:Hp) (D:Ends),Inv X pins σ H s->t D σ H->wpAny (model X.prog X.w) X.A (exec st X.env) (SP X pins D) X.xe s
def Dk (X:Cx) (st:List gf) (t:TS):Prop:=∀(pins:List (ah×Obj)) (s:ag) (σ:St) (H:Hp) (D:Ends),Inv X pins σ H s->t D σ H->wpAny (model X.prog X.w) X.A (execs st X.env) (SP X pins D) X.xe s
theorem bD {α:Type}{t:Sem α}{Q Q':α->ag->Prop}{M:wk}{A:cg}{E:af->ag->Prop}{s:ag}(h:wpAny M A t Q E s) (hQ:∀a s,Q a s->Q' a s):wpAny M A t Q' E s:=ql h hQ λ_ _ x=>x
section
variable{X:Cx}
def PC (i:Nat):TE:=λσ H Q=>∃v,σ[i]?=some (some v)/\Q v H
def tC (v:V):TE:=λ_ H Q=>Q v H
theorem PD {i:Nat}{x:Str}{pos:Pos}(hN:X.N[i]?=some x) (hv:sL X.env.scope x) (hd:(x==("__debug__" : Str))=false:=by decide) (hcd:(x==("__classdict__" : Str))=false:=by decide):PE X (.Name x pos) (PC i):=by
 intro pins s σ H Q I h;obtain⟨v,e,h⟩:=h;obtain⟨m,hn,hl⟩:=I.loc;obtain⟨u,r,l⟩:=hl i x v hN e hv;have fin:EP X pins σ Q u s:=⟨v,H,I,r,h⟩
 rcases l with⟨hk,hm⟩|⟨hk,c,hc,hcell⟩
 ·exact wpAny_Name (wpAny_loadName_local I.ok.kind hk hn hm fin) hd
 ·rcases hk with hk|hk
  ·exact wpAny_Name (wpAny_loadName_cell I.ok.kind hk hc hcell fin) hd
  ·exact wpAny_Name (wpAny_loadName_free I.ok.kind hk hc hcell fin hcd) hd
theorem E6 {i j pos}:PE X (.Constant (.int i) j pos) (tC (.int i)):=λ_ _ _ H _ I h=>wpAny_Constant_int ⟨.int i,H,I.tok _,⟨_,rfl⟩,h⟩
theorem PF {b j pos}:PE X (.Constant (.bool b) j pos) (tC (.bl b)):=λ_ _ _ H _ I h=>Constant_bool ⟨.bl b,H,I,rfl,h⟩
theorem PH {j pos}:PE X (.Constant .none j pos) (tC .non):=λ_ _ _ H _ I h=>Constant_none ⟨.non,H,I,rfl,h⟩
theorem PJ {x j pos}:PE X (.Constant (.str x) j pos) (tC (.str x)):=λ_ _ _ H _ I h=>Calls.Constant_str ⟨.str x,H,I.tok _,⟨_,rfl⟩,h⟩
def Gl (X:Cx) (x:Str):Prop:=X.env.kindOf x=some .globalImplicit
theorem zB {E:af->ag->Prop}{pins:List (ah×Obj)}{s:ag}{σ:St}{H:Hp}{x:Str}{u:af}{pos:Pos}{Q:af->ag->Prop}(I:Inv X pins σ H s) (hg:Gl X x) (hm:X.mg x=some u) (h:Q u s)
  (hd:(x==("__debug__" : Str))=false:=by decide):wpAny (model X.prog X.w) X.A (eval (.Name x pos) X.env) Q E s:=
 wm I.ok.kind hg (Calls.loadGlobal_global (by rw[I.ok.glob];exact I.mod.glob.keeps I.bk) hm h) hd
theorem nX {E:af->ag->Prop}{pins:List (ah×Obj)}{s:ag}{σ:St}{H:Hp}{x:Str}{u:af}{pos:Pos}{Q:af->ag->Prop}(I:Inv X pins σ H s) (hg:Gl X x) (hm:X.mg x=none) (hv:dj x=some u) (h:Q u s)
  (hn:x ≠ "__name__" := by decide) (hd:(x==("__debug__" : Str))=false:=by decide):wpAny (model X.prog X.w) X.A (eval (.Name x pos) X.env) Q E s:=by
 obtain⟨mb,h1,h2⟩:=I.mod.blt;exact wm I.ok.kind hg (Calls.loadGlobal_builtin (by rw[I.ok.glob];exact I.mod.glob.keeps I.bk) hm (by rw[I.ok.blt];exact h1.keeps I.bk) ((h2 x hn).trans hv) h) hd
theorem PK {x:Str}{v:V}{u:af}{pos:Pos}(hg:Gl X x) (hm:X.mg x=some u) (r:RelV v u) (hd:(x==("__debug__" : Str))=false:=by decide):PE X (.Name x pos) (tC v):=λ_ _ _ H _ I h=>zB I hg hm ⟨v,H,I,r,h⟩ hd
variable{a b:br}{ta tb:TE}{pos:Pos}
variable{tA tB':TT}{rest:List br}
def E7 (t u:TT):TT:=λσ H Q=>t σ H λc H1=>if c=true then u σ H1 Q else Q false H1
def E8 (t u:TT):TT:=λσ H Q=>t σ H λc H1=>if c=true then Q true H1 else u σ H1 Q
def PL (t:TT):TT:=λσ H Q=>t σ H λc H1=>Q (!c) H1
theorem PM (ha:PT X a tA):PW X (.BoolOp .And [a] pos) tA:=by
 intro wh pins s σ H Q I h;refine isTrue_and (bD (ha pins s σ H Q I h) λc s1 e=>?_)
 cases c with
 |true=>exact isTrue_and_nil e
 |false=>exact e
theorem PN (ha:PT X a tA):PW X (.BoolOp .Or [a] pos) tA:=by
 intro wh pins s σ H Q I h;refine isTrue_or (bD (ha pins s σ H Q I h) λc s1 e=>?_)
 cases c with
 |false=>exact isTrue_or_nil e
 |true=>exact e
theorem PQ (ha:PT X a tA) (hb:PW X (.BoolOp .And (b::rest) pos) tB'):PW X (.BoolOp .And (a::b::rest) pos) (E7 tA tB'):=by
 intro wh pins s σ H Q I h;refine isTrue_and (bD (ha pins s σ H _ I h) λc s1 ⟨H1,I1,q1⟩=>?_)
 cases c with
 |true=>exact hb wh pins s1 σ H1 Q I1 q1
 |false=>exact⟨H1,I1,q1⟩
theorem PR (ha:PT X a tA) (hb:PW X (.BoolOp .Or (b::rest) pos) tB'):PW X (.BoolOp .Or (a::b::rest) pos) (E8 tA tB'):=by
 intro wh pins s σ H Q I h;refine isTrue_or (bD (ha pins s σ H _ I h) λc s1 ⟨H1,I1,q1⟩=>?_)
 cases c with
 |true=>exact⟨H1,I1,q1⟩
 |false=>exact hb wh pins s1 σ H1 Q I1 q1
theorem PU (ha:PT X a tA):PT X (.UnaryOp .Not a pos) (PL tA):=by intro pins s σ H Q I h;exact isTrue_not (ha pins s σ H (λc H1=>Q (!c) H1) I h)
def PV (ta tb:TE):TE:=λσ H Q=>ta σ H λx H1=>∃c,x=.bl c/\if c=true then tb σ H1 Q else Q (.bl false) H1
def PX (ta:TE):TE:=λσ H Q=>ta σ H λx H1=>∃c,x=.bl c/\Q (.bl (!c)) H1
theorem PY {op} {t:TE}(h:PE X a t):PE X (.BoolOp op [a] pos) t:=λpins s σ H Q I hw=>BoolOp_one (h pins s σ H Q I hw)
theorem PZ (ha:PE X a ta) (hb:PE X (.BoolOp .And (b::rest) pos) tb):PE X (.BoolOp .And (a::b::rest) pos) (PV ta tb):=by
 intro pins s σ H Q I h;refine BoolOp_and (bD (ha pins s σ H _ I h) λv s1 ⟨x,H1,I1,r1,q1⟩=>?_);obtain⟨c,rfl,q1⟩:=q1;cases r1;refine jr ?_
 cases c with
 |true=>exact hb pins s1 σ H1 Q I1 q1
 |false=>exact⟨.bl false,H1,I1,rfl,q1⟩
theorem P0 (ha:PE X a ta):PE X (.UnaryOp .Not a pos) (PX ta):=by intro pins s σ H Q I h;refine UnaryOp_ (bD (ha pins s σ H _ I h) λv s1 ⟨x,H1,I1,r1,q1⟩=>?_);obtain⟨c,rfl,q1⟩:=q1;cases r1;exact not_of (jr ⟨.bl (!c),H1,I1,rfl,q1⟩)
end
def Ay (K:ao) (H:Hp) (a:ah) (xs:List V):Prop:=
 Rd H a (.lst xs) ∨
  ∃(o:Obj) (its:Array af) (n:Nat),K.lookup a=some o/\o.cls=.type "list"/\o.dict=none/\o.data=.seq its n/\its.size<=bz/\Ag xs its.toList
def Au (K:ao) (H:Hp) (a:ah) (xs:List V):Prop:=
 Rd H a (.tup xs) ∨
  ∃(o:Obj) (its:Array af) (n:Nat),K.lookup a=some o/\o.cls=.type "tuple"/\o.data=.seq its n/\its.size<=bz/\Ag xs its.toList
def P4:af->Option V
 | .none=>some .non
 | .bool b=>some (.bl b)
 | .int i _=>some (.int i)
 | .str x _=>some (.str x)
 | .bytes b _=>some (.byt b)
 | .float b _=>some (.flt b)
 | .ref a=>some (.ref a)
 | .type n=>some (.ty n)
 |_=>none
theorem RelV.abs {x:V}{u:af}(r:RelV x u):P4 u=some x:=by
 cases x with
 |non=>cases r;rfl
 |bl _=>cases r;rfl
 |int _=>obtain⟨t,rfl⟩:=r;rfl
 |str _=>obtain⟨t,rfl⟩:=r;rfl
 |byt _=>obtain⟨t,rfl⟩:=r;rfl
 |flt _=>obtain⟨t,rfl⟩:=r;rfl
 |ref _=>cases r;rfl
 |ty _=>cases r;rfl
theorem RelV.inj {x y:V}{u:af}(r:RelV x u) (q:RelV y u):x=y:=cw (r.abs.symm.trans q.abs)
theorem Ag.inj:∀{xs ys:List V}{us:List af},Ag xs us->Ag ys us->xs=ys
 |_,_,_,.nil,.nil=>rfl
 |_,_,_,.cons r t,.cons r' t'=>by rw[r.inj r',Ag.inj t t']
section
variable{X:Cx}{pins:List (ah×Obj)}{σ:St}{H:Hp}{s:ag}{a:ah}{xs ys:List V}
theorem Ay.of {K:ao}(h:H a=some (.lst xs)):Ay K H a xs:=.inl (.inl h)
theorem Au.of {K:ao}(h:H a=some (.tup xs)):Au K H a xs:=.inl (.inl h)
theorem Inv.list (I:Inv X pins σ H s) (h:Ay X.K H a xs):∃its:List af,Ag xs its/\PlainL s.heap a its.toArray/\xs.length<=bz:=by
 rcases h with h|⟨o,its,n,hk,hc,hd,hs,hz,r⟩
 ·obtain⟨z,its,n,r,e⟩:=h.ok I.hok;exact⟨its,r,⟨_,n,e,rfl,rfl,rfl⟩,z⟩
 ·refine⟨its.toList,r,⟨o,n,I.kIn a o hk,hc,hd,by simpa using hs⟩, ?_⟩;have e:=r.length;simp only[lh]at e;omega
theorem Inv.tuple (I:Inv X pins σ H s) (h:Au X.K H a xs):∃its:List af,Ag xs its/\yk s.heap a its.toArray/\xs.length<=bz:=by
 rcases h with h|⟨o,its,n,hk,hc,hs,hz,r⟩
 ·obtain⟨z,its,r,p⟩:=h.ok I.hok;exact⟨its,r,p.tup,z⟩
 ·refine⟨its.toList,r,⟨o,I.kIn a o hk,hc,n,by simpa using hs⟩, ?_⟩;have e:=r.length;simp only[lh]at e;omega
theorem Inv.list_inj (I:Inv X pins σ H s) (h:Ay X.K H a xs) (h':Ay X.K H a ys):xs=ys:=by
 obtain⟨its,r,⟨o,n,e,_,_,d⟩,_⟩:=I.list h;obtain⟨its',r',⟨o',n',e',_,_,d'⟩,_⟩:=I.list h';rw[e]at e';cases e';rw[d]at d';injection d' with d1 _;have:its=its':=by simpa using congrArg Array.toList d1
 subst this;exact r.inj r'
theorem Inv.tuple_inj (I:Inv X pins σ H s) (h:Au X.K H a xs) (h':Au X.K H a ys):xs=ys:=by
 obtain⟨its,r,⟨o,e,_,n,d⟩,_⟩:=I.tuple h;obtain⟨its',r',⟨o',e',_,n',d'⟩,_⟩:=I.tuple h';rw[e]at e';cases e';rw[d]at d';injection d' with d1 _;have:its=its':=by simpa using congrArg Array.toList d1
 subst this;exact r.inj r'
end
section
variable{X:Cx}{pins:List (ah×Obj)}{σ:St}{H:Hp}{s:ag}{E:af->ag->Prop}
end
section
variable{X:Cx}{st:gf}{rest:List gf}{t u:TS}{e:br}{te:TE}{pos:Pos}
def P5:TS:=λD σ H=>D.nx σ H
def P6 (t u:TS):TS:=λD σ H=>t { D with nx:=u D } σ H
theorem P7:Dk X [] P5:=λ_ _ σ H _ I h=>tq ⟨σ,H,I,h⟩
theorem P8 (h1:PS X st t) (h2:Dk X rest u):Dk X (st::rest) (P6 t u):=by
 intro pins s σ H D I h;refine wpAny_execs_cons (bD (h1 pins s σ H { D with nx:=u D } I h) λf s1 q=>?_)
 cases f with
 |next=>obtain⟨σ',H',I',q⟩:=q;exact h2 pins s1 σ' H' D I' q
 |ret v=>exact q
 |brk=>exact q
 |cont=>exact q
theorem P9 (h1:PS X st t):Dk X [st] t:=by
 intro pins s σ H D I h;refine wpAny_execs_cons (bD (h1 pins s σ H D I h) λf s1 q=>?_)
 cases f with
 |next=>exact tq q
 |ret v=>exact q
 |brk=>exact q
 |cont=>exact q
def QA:TS:=λD σ H=>D.ct σ H
theorem QB:PS X (.Continue pos) QA:=λ_ _ σ H _ I h=>wpAny_Continue ⟨σ,H,I,h⟩
theorem Inv.quiet {pins:List (ah×Obj)}{σ:St}{H:Hp}{s:ag}(I:Inv X pins σ H s):interactive X.env=false:=by simp[interactive,I.ok.kind]
def QC (te:TE):TS:=λD σ H=>te σ H λ_ H1=>D.nx σ H1
theorem QD (he:PE X e te) (hs:swapsWith e none pos.line X.env=pure false:=by rfl):PS X (.Expr e pos) (QC te):=by intro pins s σ H D I h;exact wpAny_Expr_any (bD (he pins s σ H _ I h) λv s1 ⟨x,H1,I1,r1,q1⟩=>⟨σ,H1,I1,q1⟩) I.quiet hs
def QE (te:TE):TS:=λD σ H=>te σ H D.rt
theorem QF (he:PE X e te):PS X (.Return (some e) pos) (QE te):=by intro pins s σ H D I h;exact wpAny_Return_some (bD (he pins s σ H _ I h) λv s1 ⟨x,H1,I1,r1,q1⟩=>⟨x,σ,H1,I1,r1,q1⟩)
def QG (c:TT) (t u:TS):TS:=λD σ H=>c σ H λb H1=>if b=true then t D σ H1 else u D σ H1
theorem QH {c:br}{a b:List gf}{tc:TT}(hc:PT X c tc) (ha:Dk X a t) (hb:Dk X b u):PS X (.If c a b pos) (QG tc t u):=by
 intro pins s σ H D I h;refine wpAny_If (bD (hc pins s σ H _ I h) λd s1 ⟨H1,I1,q1⟩=>?_)
 cases d with
 |true=>exact ha pins s1 σ H1 D I1 q1
 |false=>exact hb pins s1 σ H1 D I1 q1
end
abbrev TG:=V->St->Hp->(St->Hp->Prop)->Prop
abbrev mR:=List V->St->Hp->(St->Hp->Prop)->Prop
def PG (X:Cx) (target:br) (t:TG):Prop:=
 ∀(pins:List (ah×Obj)) (s:ag) (σ:St) (H:Hp) (v:V) (u:af) (Q:St->Hp->Prop),Inv X pins σ H s->RelV v u->t v σ H Q->
  wpAny (model X.prog X.w) X.A (assign target X.env u) (λ_ s'=>∃σ' H',Inv X pins σ' H' s'/\Q σ' H') X.xe s
def PGs (X:Cx) (ts:List br) (t:mR):Prop:=
 ∀(pins:List (ah×Obj)) (s:ag) (σ:St) (H:Hp) (vs:List V) (us:List af) (Q:St->Hp->Prop),Inv X pins σ H s->Ag vs us->t vs σ H Q->
  wpAny (model X.prog X.w) X.A (assignInOrder ((assignEach ts X.env).map (·.2)) us) (λ_ s'=>∃σ' H',Inv X pins σ' H' s'/\Q σ' H') X.xe s
abbrev zC:=V->V->V->Hp->(Hp->Prop)->Prop
def E9 (X:Cx) (t:zC):Prop:=
 ∀(pins:List (ah×Obj)) (s:ag) (σ:St) (H:Hp) (o i v:V) (ov iv u:af) (Q:Hp->Prop),Inv X pins σ H s->RelV o ov->RelV i iv->RelV v u->t o i v H Q->
  wpAny (model X.prog X.w) X.A (setItem ov iv u) (λ_ s'=>∃H',Inv X pins σ H' s'/\Q H') X.xe s
section
variable{X:Cx}{pos:Pos}
def zD (i:Nat):TG:=λv σ H Q=>Q (σ.set i (some v)) H
theorem QI {i:Nat}{x:Str}(hN:X.N.Nodup) (hi:X.N[i]?=some x) (hx:nW X.env.scope x) (hf:X.fn x=true∨X.env.scope.names.lookup x=some .local:=by first|exact .inl rfl|exact .inr rfl|assumption):PG X (.Name x pos) (zD i):=by intro pins s σ H v u Q I r h;exact wpAny_assign_Name (E5 I hN hi hx r (λs' I'=>⟨_,H,I',h⟩) hf)
def QJ:mR:=λvs σ H Q=>vs=[]/\Q σ H
def QK (t:TG) (u:mR):mR:=λvs σ H Q=>∃v r,vs=v::r/\t v σ H λσ' H'=>u r σ' H' Q
theorem QL:PGs X [] QJ:=by intro pins s σ H vs us Q I r h;obtain⟨e,h⟩:=h;subst e;cases r;exact assignInOrder_nil ⟨σ,H,I,h⟩
theorem QM {e:br}{es:List br}{t:TG}{u:mR}(h1:PG X e t) (h2:PGs X es u)
  (hs:(assignEach (e::es) X.env).map (·.2)=assign e X.env::(assignEach es X.env).map (·.2):=by rfl):PGs X (e::es) (QK t u):=by
 intro pins s σ H vs us Q I r h;obtain⟨v,vr,e1,h⟩:=h;subst e1
 cases r with
 |cons r rr=>rw[hs];refine assignInOrder_cons (bD (h1 pins s σ H _ _ _ I r h) λ_ s1 ⟨σ1,H1,I1,q1⟩=>?_);exact h2 pins s1 σ1 H1 _ _ Q I1 rr q1
def QN (K:ao) (n:Nat) (t:mR):TG:=λv σ H Q=>∃a xs,v=.ref a/\Au K H a xs/\xs.length=n/\t xs σ H Q
theorem QO {es:List br}{k:Nat}{t:mR}{n:Nat}(hc:X.calm=true) (h:PGs X es t)
  (hn:(assignEach es X.env).length=n:=by rfl) (hst:(assignEach es X.env).findIdx? (·.1)=none:=by rfl):PG X (.Tuple es k pos) (QN X.K n t):=by
 intro pins s σ H v u Q I r hw;obtain⟨a,xs,e1,hq,hl,hw⟩:=hw;subst e1;cases r;obtain⟨its,rv,ht,hz⟩:=I.tuple hq;refine assign_Tuple_tuple (I.ok.hd hc) ht (by simp[hn,<-hl,rv.length]) hst λh' hx=>?_;have I1:Inv X pins σ H { s with heap:=h' }:=I.kept (t':=s.toks) λb o e=>hx b o (bg (au e)) e;exact h pins _ σ H xs _ Q I1 (by simpa using rv) hw
def QP (to ti:TE) (t:zC):TG:=λv σ H Q=>to σ H λo H1=>ti σ H1 λi H2=>t o i v H2 λH3=>Q σ H3
theorem QQ {o i:br}{to ti:TE}{t:zC}(ho:PE X o to) (hi:PE X i ti) (hs:E9 X t)
  (ha:∀v,assign (.Subscript o i pos) X.env v=(do
   let ov <-holding [v] (eval o X.env)
   let iv <-holding [v,ov] (eval i X.env)
   standAt pos
   holding [v,ov,iv] (setItem ov iv v)
   release [v,ov,iv] []):=by intro _;rfl):PG X (.Subscript o i pos) (QP to ti t):=by
 intro pins s σ H v u Q I r h;rw[ha];refine ae (fw (bD (ho pins s σ H _ I h) λov s1 ⟨x,H1,I1,r1,q1⟩=>?_));refine ae (fw (bD (hi pins s1 σ H1 _ I1 q1) λiv s2 ⟨y,H2,I2,r2,q2⟩=>?_));refine ae (rp (ae (fw (bD (hs pins s2 σ H2 x y v ov iv u _ I2 r1 r2 r q2) λ_ s3 ⟨H3,I3,q3⟩=>?_))));exact wpAny_release ⟨σ,H3,I3,q3⟩
def uW (te:TE) (g:TG):TS:=λD σ H=>te σ H λx H1=>g x σ H1 D.nx
theorem FA {tg e:br}{te:TE}{g:TG}(he:PE X e te) (hg:PG X tg g) (hs:swapsWithSole [tg] e pos.line X.env=pure false:=by rfl) (hw:swappedStores [tg] e X.env=pure none:=by rfl)
  (h1:(assignEach [tg] X.env).map (·.2)=[assign tg X.env]:=by rfl):PS X (.Assign [tg] e pos) (uW te g):=by
 intro pins s σ H D I h;refine wpAny_Assign_stores (bD (he pins s σ H _ I h) λv s1 ⟨x,H1,I1,r1,q1⟩=>?_) hs hw;rw[h1];exact bD (hg pins s1 σ H1 x v _ I1 r1 q1) λ_ s2 q=>q
theorem QR {i:Nat}{x:Str}{e:br}{te:TE}{pos':Pos}(hN:X.N.Nodup) (hi:X.N[i]?=some x) (hx:nW X.env.scope x) (he:PE X e te) (hs:swapsWith e (some (.Name x pos')) pos.line X.env=pure false:=by rfl) (hf:X.fn x=true∨X.env.scope.names.lookup x=some .local:=by first|exact .inl rfl|exact .inr rfl|assumption):
  PS X (.Assign [.Name x pos'] e pos) (uW te (zD i)):=by
 intro pins s σ H D I h;refine wpAny_Assign_Name (bD (he pins s σ H _ I h) λv s1 ⟨y,H1,I1,r1,q1⟩=>?_) hs;exact E5 I1 hN hi hx r1 (λs2 I2=>⟨_,H1,I2,q1⟩) hf
end
section
variable{X:Cx}{pos:Pos}
def QS (c:TT) (tb:TS):TS:=λD σ H=>∃W:Nat->St->Hp->Prop,(∃m,W m σ H)/\∀m σ H,W m σ H->
 c σ H λb H1=>if b=true then ∃N:St->Hp->Prop,(∀σ' H',N σ' H'->∃m',m'<m/\W m' σ' H')/\tb { D with nx:=N,ct:=N,bk:=D.nx } σ H1 else D.nx σ H1
theorem QT {c:br}{body:List gf}{tc:TT}{tb:TS}(hp:xj (model X.prog X.w) X.A X.env X.xe) (hc:PT X c tc) (hb:Dk X body tb):PS X (.While c body [] pos) (QS tc tb):=by
 intro pins s σ H D I h;obtain⟨W,⟨m0,w0⟩,turn⟩:=h;refine wpAny_While (codeAny_whileLoop (λn s'=>∃σ' H',Inv X pins σ' H' s'/\W n σ' H') ?_ m0 ⟨σ,H,I,w0⟩)
 rintro n s1 ⟨σ1,H1,I1,w1⟩
 refine kn hp (bD (hc pins s1 σ1 H1 _ I1 (turn n σ1 H1 w1)) λb s2 ⟨H2,I2,q2⟩=>?_)
 cases b with
 |true=>
  obtain⟨N,hN,q2⟩:=q2;rw[if_pos rfl];refine kn hp (bD (hb pins s2 σ1 H2 _ I2 q2) λf s3 q3=>?_)
  cases f with
  |next=>obtain⟨σ3,H3,I3,n3⟩:=q3;obtain⟨m',hm,w3⟩:=hN σ3 H3 n3;exact⟨m',hm,σ3,H3,I3,w3⟩
  |cont=>obtain⟨σ3,H3,I3,n3⟩:=q3;obtain⟨m',hm,w3⟩:=hN σ3 H3 n3;exact⟨m',hm,σ3,H3,I3,w3⟩
  |brk=>exact q3
  |ret v=>exact q3
 |false=>rw[if_neg ij];exact tq ⟨σ1,H2,I2,q2⟩
end
structure It where
 go:Nat->Hp->Prop
 yld:Nat->Hp->V->Hp->Prop
 stop:Nat->Hp->Prop
def dJ (X:Cx) (pins:List (ah×Obj)) (H:Hp) (b:ah):Prop:=H b=none/\b≠X.env.locals/\b∉X.fs/\(b∈X.ex∨X.s₀.heap.objs.size<=b)/\(∀x c,X.env.cells.lookup x=some c->c≠b)/\∀p∈X.pn++pins,p.1≠b
theorem Inv.fpOk {X:Cx}{pins:List (ah×Obj)}{σ:St}{H H':Hp}{s:ag}{b:ah}(I:Inv X pins σ H s) (hb:s.heap.objs.size<=b) (hn:H' b=none):dJ X pins H' b:=by
 refine⟨hn,iz (ay I.lt hb),I.nofs hb,.inr (di I.sz hb),λx c e z=>?_,λp hp z=>?_⟩
 ·obtain⟨v,q⟩:=I.cell x c e;exact absurd (ay q.lt (by rw[z];exact hb)) (gn _)
 ·exact absurd (ay (au (I.pin p hp).1) (by rw[z];exact hb)) (gn _)
structure Turn (P:bf) (w:cf) (K:ao) (tg:br) (J:It) (fp:List ah) (it:ah) (tn:Nat->cx->Prop):Prop where
 mem:it∈fp
 obj:∀i h,tn i h->∀b∈fp,∃o,h.get? b=some o/\∀v,o.data≠.cell v
 keep:∀i h h',tn i h->(∀b∈fp,∀o,h.get? b=some o->h'.get? b=some o)->tn i h'
 item:∀(X:Cx),X.prog=P->X.w=w->X.K=K->X.calm=true->∀(i:Nat) (pins:List (ah×Obj)) (s:ag) (σ:St) (H:Hp) (E:af->ag->Prop),Inv X pins σ H s->(∀b∈fp,dJ X pins H b)->tn i s.heap->J.go i H->
  wpAny (model P w) X.A (pyNext (.ref it)) (λr s1=>∃u,r=some u /\
   wpAny (model P w) X.A (letOwnedTupleGo tg (.ref it) u) (λ_ s2=>∃x H',Inv X pins σ H' s2/\RelV x u/\J.yld i H x H'/\tn (i+1) s2.heap/\∀b∈fp,H' b=none) E s1) E s
 done:∀(X:Cx),X.prog=P->X.w=w->X.K=K->X.calm=true->∀(i:Nat) (pins:List (ah×Obj)) (s:ag) (σ:St) (H:Hp) (E:af->ag->Prop),Inv X pins σ H s->(∀b∈fp,dJ X pins H b)->tn i s.heap->J.stop i H->
  wpAny (model P w) X.A (pyNext (.ref it)) (λr s1=>r=none/\Inv X pins σ H s1) E s
 self:∀(A:cg) (i:Nat) (s:ag) (Q:af->ag->Prop) (E:af->ag->Prop),tn i s.heap->Q (.ref it) s->wpAny (model P w) A (pyIter (.ref it)) Q E s
abbrev TI:=St->Hp->(It->Hp->Prop)->Prop
def FC (X:Cx) (pins:List (ah×Obj)) (σ:St) (tg:br) (R:It->Hp->Prop) (itv:af) (s2:ag):Prop:=∃(it:ah) (fp:List ah) (tn:Nat->cx->Prop) (J:It) (H':Hp),itv=.ref it/\Inv X pins σ H' s2/\Turn X.prog X.w X.K tg J fp it tn/\tn 0 s2.heap/\(∀b∈fp,dJ X pins H' b)/\R J H'
def PI (X:Cx) (tg iter:br) (wi:TI):Prop:=
 ∀(pins:List (ah×Obj)) (s:ag) (σ:St) (H:Hp) (R:It->Hp->Prop),Inv X pins σ H s->wi σ H R->
  wpAny (model X.prog X.w) X.A (eval iter X.env) (λv s1=>wpAny (model X.prog X.w) X.A (pyIter v) (FC X pins σ tg R) X.xe s1) X.xe s
theorem zE {M:wk}{A:cg}{E:af->ag->Prop}{s:ag}{tg:br}{it:ah}{u:af}{o:Obj}{n:String}{vs:Array af}{Q:Unit->ag->Prop}(ho:s.heap.get? it=some o) (hc:o.cls=.type n) (hd:o.data=.fields vs)
  (hn:["enumerate","zip","dict_itemiterator","dict_reverseitemiterator","odict_iterator","itertools.zip_longest","itertools.pairwise"].contains n=false) (hQ:Q () s):wpAny M A (letOwnedTupleGo tg (.ref it) u) Q E s:=by
 unfold letOwnedTupleGo
 cases tg <;> first
  |exact ai hQ
  |(cases u <;> first
    |exact ai hQ
    |(refine ae (wpAny_load ho ?_);rw[hc,hd];show wpAny M A (if(["enumerate","zip","dict_itemiterator","dict_reverseitemiterator","odict_iterator","itertools.zip_longest","itertools.pairwise"].contains n&&vs[0]?==some (rawInt _))=true then _ else _) Q E s;rw[if_neg (by intro h;rw[hn,Bool.false_and]at h;cases h)];exact ai hQ))
def FD (K:ao) (a:ah):It:=⟨λi H=>∃xs x,Ay K H a xs/\xs[i]?=some x,λi H x H'=>H'=H/\∀xs,Ay K H a xs->xs[i]?=some x,λi H=>∃xs,Ay K H a xs/\xs.length<=i⟩
def zF (K:ao) (a:ah):It:=⟨λi H=>∃xs x,Au K H a xs/\xs[i]?=some x,λi H x H'=>H'=H/\∀xs,Au K H a xs->xs[i]?=some x,λi H=>∃xs,Au K H a xs/\xs.length<=i⟩
def sM (lo:Int) (n:Nat):It:=⟨λi _=>i<n,λi H x H'=>H'=H/\x=.int (lo+i),λi _=>n<=i⟩
theorem QU {P:bf}{w:cf}{K:ao}{tg:br}(a it:ah):Turn P w K tg (FD K a) [it] it (λi h=>h.IsListIter it a i) where
 mem:=by simp
 obj:=λi h st b hb=>by
  have e:b=it:=by simpa using hb
  subst e;obtain⟨o,e,c,d⟩:=st;exact⟨o,e,λv z=>by rw[d]at z;cases z⟩
 keep:=λi h h' st k=>st.at λo e=>k it (by simp) o e
 item:=by intro X hP hw hK hc i pins s σ H E I hf st hg;subst hP hw hK;obtain⟨xs,x,hq,hx⟩:=hg;obtain⟨its,rv,p,hz⟩:=I.list hq;obtain⟨u,hu,ru⟩:=rv.get hx;obtain⟨f0,f1,f2,f3,f4,f5⟩:=hf it (by simp);refine wpAny_pyNext_list_item st p.isList (x:=u) (by simpa using hu) λh' Cp sb=>?_;have I1:Inv X pins σ H { s with heap:=h' }:=I.turned (t':=s.toks) (λb o hb e=>(sb.2 b hb).trans e) f0 f1 f3 f4 f5;obtain⟨o,e,c,d⟩:=id Cp;exact⟨u,rfl,zE (s:={ s with heap:=h' }) e c d (by decide) ⟨x,H,I1,ru,⟨rfl,λys hy=>by rw[I.list_inj hy hq];exact hx⟩,Cp,λb hb=>(hf b hb).1⟩⟩
 done:=by intro X hP hw hK hc i pins s σ H E I hf st hg;subst hP hw hK;obtain⟨xs,hq,hx⟩:=hg;obtain⟨its,rv,p,hz⟩:=I.list hq;obtain⟨f0,f1,f2,f3,f4,f5⟩:=hf it (by simp);have hl:=rv.length;exact wpAny_pyNext_list_end (I.ok.hd hc) st p.isList (by simp;omega) λh' eb=>⟨rfl,I.turned (t':=s.toks) (λb o hb e=>eb b o hb e) f0 f1 f3 f4 f5⟩
 self:=λ_ _ _ _ _ st h=>wpAny_pyIter_listiter st h
theorem QV {P:bf}{w:cf}{K:ao}{tg:br}(a it:ah):Turn P w K tg (zF K a) [it] it (λi h=>h.IsTupleIter it a i) where
 mem:=by simp
 obj:=λi h st b hb=>by
  have e:b=it:=by simpa using hb
  subst e;obtain⟨o,e,c,d⟩:=st;exact⟨o,e,λv z=>by rw[d]at z;cases z⟩
 keep:=λi h h' st k=>st.at λo e=>k it (by simp) o e
 item:=by intro X hP hw hK hc i pins s σ H E I hf st hg;subst hP hw hK;obtain⟨xs,x,hq,hx⟩:=hg;obtain⟨its,rv,p,hz⟩:=I.tuple hq;obtain⟨u,hu,ru⟩:=rv.get hx;obtain⟨f0,f1,f2,f3,f4,f5⟩:=hf it (by simp);refine wpAny_pyNext_tuple_item st (show s.heap.IsTuple a its.toArray from p) (x:=u) (by simpa using hu) λh' Cp sb=>?_;have I1:Inv X pins σ H { s with heap:=h' }:=I.turned (t':=s.toks) (λb o hb e=>(sb.2 b hb).trans e) f0 f1 f3 f4 f5;obtain⟨o,e,c,d⟩:=id Cp;exact⟨u,rfl,zE (s:={ s with heap:=h' }) e c d (by decide) ⟨x,H,I1,ru,⟨rfl,λys hy=>by rw[I.tuple_inj hy hq];exact hx⟩,Cp,λb hb=>(hf b hb).1⟩⟩
 done:=by intro X hP hw hK hc i pins s σ H E I hf st hg;subst hP hw hK;obtain⟨xs,hq,hx⟩:=hg;obtain⟨its,rv,p,hz⟩:=I.tuple hq;obtain⟨f0,f1,f2,f3,f4,f5⟩:=hf it (by simp);have hl:=rv.length;exact wpAny_pyNext_tuple_end (I.ok.hd hc) st (show s.heap.IsTuple a its.toArray from p) (by simp;omega) λh' eb=>⟨rfl,I.turned (t':=s.toks) (λb o hb e=>eb b o hb e) f0 f1 f3 f4 f5⟩
 self:=λ_ _ _ _ _ st h=>wpAny_pyIter_tupleiter st h
theorem QW {P:bf}{w:cf}{K:ao}{tg:br}(it:ah) (lo:Int) (n:Nat):Turn P w K tg (sM lo n) [it] it (λi h=>IsRangeIter h it (lo+(i:Nat)*1) ((n:Int) - (i:Nat)) 1) where
 mem:=by simp
 obj:=λi h st b hb=>by
  have e:b=it:=by simpa using hb
  subst e;exact⟨_,st,λv z=>by
   have z':Data.fields _=Data.cell v:=z
   cases z'⟩
 keep:=λi h h' st k=>k it (by simp) _ st
 item:=by intro X hP hw hK hc i pins s σ H E I hf st hg;subst hP hw hK;obtain⟨f0,f1,f2,f3,f4,f5⟩:=hf it (by simp);have W:=Walks.range (prog:=X.prog) (w:=X.w) (I.ok.hd hc) it lo 1 n;refine W.item i s _ _ hg st λv h' tk hv Cp kk=>?_;obtain⟨t,rfl⟩:=hv;have I1:Inv X pins σ H { s with heap:=h',toks:=tk }:=I.turned (λb o hb e=>kk b o (by simpa using hb) e) f0 f1 f3 f4 f5;refine⟨_,rfl,zE (s:={ s with heap:=h',toks:=tk }) (n := "range_iterator") Cp rfl rfl (by decide) ⟨.int (lo+i),H,I1,⟨t, ?_⟩,⟨rfl,rfl⟩,Cp,λb hb=>(hf b hb).1⟩⟩;rw[Int.mul_one]
 done:=by intro X hP hw hK hc i pins s σ H E I hf st hg;subst hP hw hK;obtain⟨f0,f1,f2,f3,f4,f5⟩:=hf it (by simp);exact wpAny_pyNext_range_end (I.ok.hd hc) st (by have:n<=i:=hg;omega) λh' eb=>⟨rfl,I.turned (t':=s.toks) (λb o hb e=>eb b o hb e) f0 f1 f3 f4 f5⟩
 self:=λ_ _ _ _ _ st h=>wpAny_pyIter_rangeiter st h
section
variable{X:Cx}{tg:br}
def QX (K:ao) (tl:TE):TI:=λσ H R=>tl σ H λx H1=>∃a,x=.ref a/\(∃xs,Ay K H1 a xs)/\R (FD K a) H1
def QY (K:ao) (tl:TE):TI:=λσ H R=>tl σ H λx H1=>∃a,x=.ref a/\(∃xs,Au K H1 a xs)/\R (zF K a) H1
theorem QZ {l:br}{tl:TE}(hl:PE X l tl):PI X tg l (QX X.K tl):=by
 intro pins s σ H R I h;refine bD (hl pins s σ H _ I h) λv s1 ⟨x,H1,I1,r1,q1⟩=>?_;obtain⟨a,e,⟨xs,hq⟩,q⟩:=q1;subst e;cases r1;obtain⟨its,rv,p,hz⟩:=I1.list hq;refine jt p.isList ?_;refine⟨s1.heap.objs.size,[s1.heap.objs.size],_,_,H1,rfl,I1.kept (t':=s1.toks) λb o e=>ak _ e,QU a _,⟨_,bc _ rfl,rfl,rfl⟩,λb hb=>?_,q⟩;have e:b=s1.heap.objs.size:=by simpa using hb
 subst e;exact I1.fpOk (aj _) (I1.hok.fresh (aj _))
theorem Q0 {l:br}{tl:TE}(hl:PE X l tl):PI X tg l (QY X.K tl):=by
 intro pins s σ H R I h;refine bD (hl pins s σ H _ I h) λv s1 ⟨x,H1,I1,r1,q1⟩=>?_;obtain⟨a,e,⟨xs,hq⟩,q⟩:=q1;subst e;cases r1;obtain⟨its,rv,p,hz⟩:=I1.tuple hq;refine mw (show s1.heap.IsTuple a its.toArray from p) ?_;refine⟨s1.heap.objs.size,[s1.heap.objs.size],_,_,H1,rfl,I1.kept (t':=s1.toks) λb o e=>ak _ e,QV a _,⟨_,bc _ rfl,rfl,rfl⟩,λb hb=>?_,q⟩;have e:b=s1.heap.objs.size:=by simpa using hb
 subst e;exact I1.fpOk (aj _) (I1.hok.fresh (aj _))
theorem FE {pins:List (ah×Obj)}{σ:St}{H:Hp}{s:ag}{R:It->Hp->Prop}{E:af->ag->Prop}{lo hi:Int}{t u v:Tok}{tk:Nat}(I:Inv X pins σ H s) (h1 : -(2 ^ 62)<=lo) (h2:lo<2 ^ 62) (h3 : -(2 ^ 62)<=hi) (h4:hi<2 ^ 62)
  (q:R (sM lo (hi - lo).toNat) H):wpAny (model X.prog X.w) X.A (pyIter (.ref s.heap.objs.size)) (FC X pins σ tg R) E { s with heap:=s.heap.push { cls:=.type "range",data:=.fields #[.int lo t,.int hi u,.int 1 v] },toks:=tk }:=by
 refine wpAny_pyIter_range (IsRange.new ..) (small_one h1 h2 h3 h4) ?_;have I1:Inv X pins σ H { s with heap:=s.heap.push { cls:=.type "range",data:=.fields #[.int lo t,.int hi u,.int 1 v] },toks:=tk }:=I.kept λb o e=>ak _ e;refine⟨(s.heap.push { cls:=.type "range",data:=.fields #[.int lo t,.int hi u,.int 1 v] }).objs.size,[(s.heap.push { cls:=.type "range",data:=.fields #[.int lo t,.int hi u,.int 1 v] }).objs.size],_,_,H,rfl,
  I1.kept (t':=tk) λb o e=>ak _ e,QW _ lo (hi - lo).toNat, ?_,λb hb=>?_,q⟩
 ·have e1:lo+((0:Nat):Int)*1=lo:=by simp
  have e2:(((hi - lo).toNat:Nat):Int) - ((0:Nat):Int)=Builtin.Range.rangeSize lo hi 1:=by rw[rangeSize_one];split <;> omega
  show IsRangeIter _ _ (lo+((0:Nat):Int)*1) ((((hi - lo).toNat:Nat):Int) - ((0:Nat):Int)) 1;rw[e1,e2];exact bc _ rfl
 ·have e:b=(s.heap.push { cls:=.type "range",data:=.fields #[.int lo t,.int hi u,.int 1 v] }).objs.size:=by simpa using hb
  subst e;exact I1.fpOk (aj _) (I1.hok.fresh (aj _))
def Q2 (ta:TA):TI:=λσ H R=>ta σ H λvs H1=>∃j:Int,vs=[.int j]/\-(2 ^ 62)<=j/\j<2 ^ 62/\R (sM 0 j.toNat) H1
def Q3 (ta:TA):TI:=λσ H R=>ta σ H λvs H1=>∃i j:Int,vs=[.int i,.int j]/\(-(2 ^ 62)<=i/\i<2 ^ 62/\-(2 ^ 62)<=j/\j<2 ^ 62)/\R (sM i (j - i).toNat) H1
theorem Q4 {a:br}{ta:TA}{p pos:Pos}(hg:Gl X "range") (hm:X.mg "range" = none) (ha:PA X [a] ta) (hs:ar [a] X.env=[(false,eval a X.env)]:=by rfl):PI X tg (.Call (.Name "range" p) [a] [] pos) (Q2 ta):=by
 intro pins s σ H R I h;refine Call_ (nX I hg hm boot_range (jc (bD (ha pos pins s σ H _ I h) λus s1 ⟨vs,H1,I1,r1,q1⟩=>?_) hs rfl));obtain⟨j,e,q1,q2,q⟩:=q1;subst e
 cases r1 with
 |cons r rr=>cases rr;obtain⟨t,rfl⟩:=r;exact call_range_1 (FE I1 (by omega) (by omega) q1 q2 (by simpa using q))
theorem Q5 {a b:br}{ta:TA}{p pos:Pos}(hg:Gl X "range") (hm:X.mg "range" = none) (ha:PA X [a,b] ta) (hs:ar [a,b] X.env=[(false,eval a X.env),(false,eval b X.env)]:=by rfl) (hs2:ar [b] X.env=[(false,eval b X.env)]:=by rfl):
  PI X tg (.Call (.Name "range" p) [a,b] [] pos) (Q3 ta):=by
 intro pins s σ H R I h;refine Call_ (nX I hg hm boot_range (jc (bD (ha pos pins s σ H _ I h) λus s1 ⟨vs,H1,I1,r1,q1⟩=>?_) (by rw[hs,hs2]) (by rw[hs2];rfl)));obtain⟨i,j,e,⟨q1,q2,q3,q4⟩,q⟩:=q1;subst e
 cases r1 with
 |cons r rr=>
  cases rr with
  |cons r' rr=>cases rr;obtain⟨t,rfl⟩:=r;obtain⟨t',rfl⟩:=r';exact call_range_2 (FE I1 q1 q2 q3 q4 q)
def Q6 (wi:TI) (g:TG) (tb:TS):TS:=λD σ H=>wi σ H λJ H1=>∃W:Nat->Nat->St->Hp->Prop,(∃m,W 0 m σ H1)/\∀i m σ H,W i m σ H->
 (J.stop i H/\D.nx σ H)∨(J.go i H/\∃N:St->Hp->Prop,(∀σ' H',N σ' H'->∃m',m'<m/\W (i+1) m' σ' H')/\∀x H',J.yld i H x H'->g x σ H' λσ2 H2=>tb { D with nx:=N,ct:=N,bk:=D.nx } σ2 H2)
def jN (fp:List ah) (h:cx):List (ah×Obj):=fp.filterMap λb=>(h.get? b).map λo=>(b,o)
theorem qR {fp:List ah}{h:cx}{b:ah}{o:Obj}(hb:b∈fp) (e:h.get? b=some o):(b,o)∈jN fp h:=jl.mpr ⟨b,hb,by rw[e];rfl⟩
theorem zG {fp:List ah}{h:cx}{p:ah×Obj}(hp:p∈jN fp h):p.1∈fp/\h.get? p.1=some p.2:=by
 obtain⟨b,hb,e⟩:=jl.mp hp
 cases q:h.get? b with
 |none=>rw[q]at e;cases e
 |some o=>rw[q]at e;have e':(b,o)=p:=cw e;subst e';exact⟨hb,q⟩
theorem Inv.pinned {pins:List (ah×Obj)}{σ:St}{H:Hp}{s:ag}{fp:List ah}(I:Inv X pins σ H s) (hf:∀b∈fp,dJ X pins H b) (ho:∀b∈fp,∃o,s.heap.get? b=some o/\∀v,o.data≠.cell v):Inv X (pins++jN fp s.heap) σ H s:=I.pins_of λp hp=>(cq.mp hp).elim (λz=>I.pin p (bw _ z)) λz=>by obtain⟨hb,e⟩:=zG z;obtain⟨f0,f1,f2,_⟩:=hf p.1 hb;obtain⟨o,e',d⟩:=ho p.1 hb;rw[e]at e';cases e';exact⟨e,f0,f1,f2,d⟩
theorem Inv.unpinned {pins pl:List (ah×Obj)}{σ:St}{H:Hp}{s:ag}(I:Inv X (pins++pl) σ H s):Inv X pins σ H s:=I.pins_of λp hp=>I.pin p (bw _ (fg _ hp))
theorem Q7 {iter:br}{body:List gf}{wi:TI}{g:TG}{tb:TS}{pos:Pos}(hp:xj (model X.prog X.w) X.A X.env X.xe) (hc:X.calm=true) (hi:PI X tg iter wi) (hg:PG X tg g) (hb:Dk X body tb)
  (hs:∀x,foldedSetIterable iter X.env x=pure x:=by intro _;rfl):PS X (.For tg iter body [] pos) (Q6 wi g tb):=by
 intro pins s σ H D I h;refine wpAny_For (bD (hi pins s σ H _ I h) λv s1 h1=>bD h1 λitv s2 h2=>?_) hs;obtain⟨it,fp,tn,J,H2,e,I2,T,st2,f2,W,⟨m0,w0⟩,turn⟩:=h2;subst e;have stat:∀{H':Hp},(∀b∈fp,H' b=none)->∀b∈fp,dJ X pins H' b:=λhn b hb=>⟨hn b hb,(f2 b hb).2⟩
 refine codeAny_forLoop_any (λn s'=>∃i σ' H',Inv X pins σ' H' s'/\tn i s'.heap/\(∀b∈fp,H' b=none)/\W i n σ' H') ?_ m0 ⟨0,σ,H2,I2,st2,λb hb=>(f2 b hb).1,w0⟩
 rintro n s3 ⟨i,σ3,H3,I3,st3,fr3,w3⟩
 rcases turn i n σ3 H3 w3 with⟨stop,qn⟩|⟨go,N,hN,step⟩
 ·refine kn hp (bD (T.done X rfl rfl rfl hc i pins s3 σ3 H3 X.xe I3 (stat fr3) st3 stop) λr s4 ⟨hr,I4⟩=>?_);subst hr;exact tq ⟨σ3,H3,I4,qn⟩
 ·refine kn hp (bD (T.item X rfl rfl rfl hc i pins s3 σ3 H3 X.xe I3 (stat fr3) st3 go) λr s4 ⟨u,hr,h4⟩=>?_);subst hr;refine kn hp (bD h4 λ_ s5 ⟨x,H5,I5,r5,y5,st5,fr5⟩=>?_);have I5':=I5.pinned (stat fr5) (T.obj _ _ st5);refine kn hp (bD (hg _ s5 σ3 H5 x u _ I5' r5 (step x H5 y5)) λ_ s6 ⟨σ6,H6,I6,q6⟩=>?_);refine kn hp (bD (hb _ s6 σ6 H6 _ I6 q6) λf s7 q7=>?_);have again:∀{σ7:St}{H7:Hp},Inv X (pins++jN fp s5.heap) σ7 H7 s7->N σ7 H7->∃m,m<n/\∃i σ' H',Inv X pins σ' H' s7/\tn i s7.heap/\(∀b∈fp,H' b=none)/\W i m σ' H':=λ{σ7 H7} I7 n7=>by obtain⟨m',hm,w7⟩:=hN σ7 H7 n7;refine⟨m',hm,i+1,σ7,H7,I7.unpinned,T.keep _ _ _ st5 λb hb o e=>(I7.pin (b,o) (bw _ (bw _ (qR hb e)))).1,λb hb=>?_,w7⟩;obtain⟨o,e,d⟩:=T.obj _ _ st5 b hb;exact(I7.pin (b,o) (bw _ (bw _ (qR hb e)))).2.1
  cases f with
  |next=>obtain⟨σ7,H7,I7,n7⟩:=q7;exact again I7 n7
  |cont=>obtain⟨σ7,H7,I7,n7⟩:=q7;exact again I7 n7
  |brk=>obtain⟨σ7,H7,I7,q7⟩:=q7;exact⟨σ7,H7,I7.unpinned,q7⟩
  |ret v=>obtain⟨x7,σ7,H7,I7,r7,q7⟩:=q7;exact⟨x7,σ7,H7,I7.unpinned,r7,q7⟩
end
abbrev R2:=V->V->Hp->VK->Prop
def Ba (X:Cx) (f:af->af->Sem af) (r:R2):Prop:=
 ∀(pins:List (ah×Obj)) (s:ag) (σ:St) (H:Hp) (x y:V) (v u:af) (Q:VK),Inv X pins σ H s->RelV x v->RelV y u->r x y H Q->
  wpAny (model X.prog X.w) X.A (f v u) (EP X pins σ Q) X.xe s
def uX (X:Cx) (f:af->Sem af) (r:V->Hp->VK->Prop):Prop:=
 ∀(pins:List (ah×Obj)) (s:ag) (σ:St) (H:Hp) (x:V) (v:af) (Q:VK),Inv X pins σ H s->RelV x v->r x H Q->
  wpAny (model X.prog X.w) X.A (f v) (EP X pins σ Q) X.xe s
def Aj (X:Cx) (f:af) (r:List V->Hp->VK->Prop):Prop:=
 ∀(pins:List (ah×Obj)) (s:ag) (σ:St) (H:Hp) (xs:List V) (us:List af) (Q:VK),Inv X pins σ H s->Ag xs us->r xs H Q->
  wpAny (model X.prog X.w) X.A (call f us) (EP X pins σ Q) X.xe s
def Q8 (X:Cx) (r:V->Hp->(Bool->Hp->Prop)->Prop):Prop:=
 ∀(pins:List (ah×Obj)) (s:ag) (σ:St) (H:Hp) (x:V) (v:af) (Q:Bool->Hp->Prop),Inv X pins σ H s->RelV x v->r x H Q->
  wpAny (model X.prog X.w) X.A (truthy v) (TP X pins σ Q) X.xe s
def sN (r:R2) (ta tb:TE):TE:=λσ H Q=>ta σ H λx H1=>tb σ H1 λy H2=>r x y H2 Q
def Q9 (r:V->Hp->VK->Prop) (ta:TE):TE:=λσ H Q=>ta σ H λx H1=>r x H1 Q
def rI (C:Int->Int->Prop) (g:Int->Int->V):R2:=λx y H Q=>∃i j,x=.int i/\y=.int j/\C i j/\Q (g i j) H
def jO (g:Int->Int->V):R2:=λx y H Q=>∃i j,x=.int i/\y=.int j/\Q (g i j) H
def rU (g:Int->V):V->Hp->VK->Prop:=λx H Q=>∃i,x=.int i/\Q (g i) H
section
variable{X:Cx}{a b c:br}{ta tb tc:TE}{pos:Pos}
theorem zH (ha:PE X a ta) (hb:PE X b tb) {pins:List (ah×Obj)}{s:ag}{σ:St}{H:Hp}{R:V->V->Hp->Prop}(I:Inv X pins σ H s)
  (h:ta σ H λx H1=>tb σ H1 λy H2=>R x y H2) {Q:af->ag->Prop}{f:af->af->Sem af}
  (hf:∀v u s2 x y H2,Inv X pins σ H2 s2->RelV x v->RelV y u->R x y H2->wpAny (model X.prog X.w) X.A (f v u) Q X.xe s2):
  wpAny (model X.prog X.w) X.A (eval a X.env) (λv s₁=>wpAny (model X.prog X.w) X.A (eval b X.env) (λu s₂=>wpAny (model X.prog X.w) X.A (f v u) Q X.xe s₂) X.xe s₁) X.xe s:=by
 refine bD (ha pins s σ H _ I h) λv s1 ⟨x,H1,I1,r1,q1⟩=>?_;refine bD (hb pins s1 σ H1 _ I1 q1) λu s2 ⟨y,H2,I2,r2,q2⟩=>?_;exact hf v u s2 x y H2 I2 r1 r2 q2
theorem RA {op:Operator}{r:R2}(ho:Ba X (binaryOp op) r) (ha:PE X a ta) (hb:PE X b tb):PE X (.BinOp a op b pos) (sN r ta tb):=by intro pins s σ H Q I h;exact wpAny_BinOp (zH ha hb I h λv u s2 x y H2 I2 rx ry q=>ho pins s2 σ H2 x y v u Q I2 rx ry q)
theorem RC {op:UnaryOp}{r:V->Hp->VK->Prop}(ho:uX X (unaryOp op) r) (ha:PE X a ta):PE X (.UnaryOp op a pos) (Q9 r ta):=by intro pins s σ H Q I h;exact UnaryOp_ (bD (ha pins s σ H _ I h) λv s1 ⟨x,H1,I1,r1,q1⟩=>ho pins s1 σ H1 x v Q I1 r1 q1)
theorem uY {f:af->af->Sem af}{C:Int->Int->Prop}{g:Int->Int->Int}
  (rule:∀(i j:Int) (t u:Tok) (s:ag) (Q:af->ag->Prop) (E:af->ag->Prop),C i j->Q (.int (g i j) s.toks) { s with toks:=s.toks+1 }->wpAny (model X.prog X.w) X.A (f (.int i t) (.int j u)) Q E s):
  Ba X f (rI C λi j=>.int (g i j)):=by
 intro pins s σ H x y v u Q I rx ry h;obtain⟨i,j,rfl,rfl,hc,q⟩:=h;obtain⟨t,rfl⟩:=rx;obtain⟨t',rfl⟩:=ry;exact rule i j t t' s _ _ hc ⟨.int (g i j),H,I.tok _,⟨_,rfl⟩,q⟩
theorem FF {f:af->af->Sem af}{g:Int->Int->Int}
  (rule:∀(i j:Int) (t u:Tok) (s:ag) (Q:af->ag->Prop) (E:af->ag->Prop),Q (.int (g i j) s.toks) { s with toks:=s.toks+1 }->wpAny (model X.prog X.w) X.A (f (.int i t) (.int j u)) Q E s):
  Ba X f (jO λi j=>.int (g i j)):=by
 intro pins s σ H x y v u Q I rx ry h;obtain⟨i,j,rfl,rfl,q⟩:=h;obtain⟨t,rfl⟩:=rx;obtain⟨t',rfl⟩:=ry;exact rule i j t t' s _ _ ⟨.int (g i j),H,I.tok _,⟨_,rfl⟩,q⟩
theorem uZ {f:af->af->Sem af}{g:Int->Int->Bool}
  (rule:∀(i j:Int) (t u:Tok) (s:ag) (Q:af->ag->Prop) (E:af->ag->Prop),Q (.bool (g i j)) s->wpAny (model X.prog X.w) X.A (f (.int i t) (.int j u)) Q E s):
  Ba X f (jO λi j=>.bl (g i j)):=by
 intro pins s σ H x y v u Q I rx ry h;obtain⟨i,j,rfl,rfl,q⟩:=h;obtain⟨t,rfl⟩:=rx;obtain⟨t',rfl⟩:=ry;exact rule i j t t' s _ _ ⟨.bl (g i j),H,I,rfl,q⟩
def zI (i j:Int):Prop:=0<=j/\j<=1000000/\i.natAbs<2 ^ 64
def CMul (i j:Int):Prop:=(-(2 ^ 64)<i/\i<2 ^ 64)∨(-(2 ^ 64)<j/\j<2 ^ 64)
theorem CMul.ok {i j:Int}(h:CMul i j):IntMulOk i j:=by
 rcases h with⟨h1,h2⟩|⟨h1,h2⟩
 ·exact .of_left (intBits_le_64 h1 h2)
 ·exact .of_right (intBits_le_64 h1 h2)
theorem op_add:Ba X (binaryOp .Add) (jO λi j=>.int (i+j)):=FF λ_ _ _ _ _ _ _ q=>add_int q
theorem RD:Ba X (binaryOp .Sub) (jO λi j=>.int (i - j)):=FF λ_ _ _ _ _ _ _ q=>sub_int q
theorem RE:Ba X (binaryOp .Mult) (rI CMul λi j=>.int (i*j)):=uY λ_ _ _ _ _ _ _ hc q=>mul_int q hc.ok
theorem RF:Ba X (binaryOp .Mod) (rI (λ_ j=>0<j) λi j=>.int (i % j)):=uY λi j _ _ _ _ _ hc q=>by have h1:(0:Int)<j:=hc;exact mod_int' (by omega) (by rw[Int.fmod_eq_emod_of_nonneg i (by omega)];exact q)
theorem RG:Ba X (binaryOp .Pow) (rI zI λi j=>.int (i ^ j.toNat)):=uY λ_ _ _ _ _ _ _ hc q=>pow_int_small hc.1 hc.2.1 hc.2.2 q
theorem RH {f:af->Sem af}{g:Int->Int}
  (rule:∀(i:Int) (t:Tok) (s:ag) (Q:af->ag->Prop) (E:af->ag->Prop),Q (.int (g i) s.toks) { s with toks:=s.toks+1 }->wpAny (model X.prog X.w) X.A (f (.int i t)) Q E s):
  uX X f (rU λi=>.int (g i)):=by
 intro pins s σ H x v Q I rx h;obtain⟨i,rfl,q⟩:=h;obtain⟨t,rfl⟩:=rx;exact rule i t s _ _ ⟨.int (g i),H,I.tok _,⟨_,rfl⟩,q⟩
theorem RI:uX X (unaryOp .USub) (rU λi=>.int (-i)):=RH λ_ _ _ _ _ q=>neg_int q
end
section
variable{X:Cx}{a b c:br}{ta tb tc:TE}{pos:Pos}
theorem FG {pins:List (ah×Obj)}{σ:St}{H:Hp}{s:ag}{Q:VK}{k k':Bool}(I:Inv X pins σ H s) (q:Q (.bl k) H) (e:k=k'):EP X pins σ Q (.bool k') s:=by subst e;exact⟨.bl k,H,I,rfl,q⟩
theorem FH:Ba X (compareOp .Lt) (jO λi j=>.bl (decide (i<j))):=uZ λ_ _ _ _ _ _ _ q=>lt_int q
theorem vA:Ba X (compareOp .LtE) (jO λi j=>.bl (decide (i<=j))):=uZ λ_ _ _ _ _ _ _ q=>le_int q
theorem FI:Ba X (compareOp .Gt) (jO λi j=>.bl (decide (j<i))):=uZ λ_ _ _ _ _ _ _ q=>gt_int q
theorem FJ:Ba X (compareOp .GtE) (jO λi j=>.bl (decide (j<=i))):=uZ λ_ _ _ _ _ _ _ q=>ge_int q
theorem RJ:Ba X (compareOp .Is) (λx y H Q=>y=.non/\Q (.bl (decide (x=.non))) H):=by
 intro pins s σ H x y v u Q I rx ry h;obtain⟨rfl,q⟩:=h;cases ry;refine is_none_gen (FG I q ?_)
 cases x <;> first
  |(cases rx;rfl)
  |(obtain⟨t,rfl⟩:=rx;rfl)
theorem RK:Ba X (compareOp .IsNot) (λx y H Q=>y=.non/\Q (.bl (!decide (x=.non))) H):=by
 intro pins s σ H x y v u Q I rx ry h;obtain⟨rfl,q⟩:=h;cases ry;refine isnot_none_gen (FG I q ?_)
 cases x <;> first
  |(cases rx;rfl)
  |(obtain⟨t,rfl⟩:=rx;rfl)
theorem Ba.or {f:af->af->Sem af}{r r':R2}(h:Ba X f r) (h':Ba X f r'):Ba X f (λx y H Q=>r x y H Q∨r' x y H Q):=by
 intro pins s σ H x y v u Q I rx ry q
 rcases q with q|q
 ·exact h pins s σ H x y v u Q I rx ry q
 ·exact h' pins s σ H x y v u Q I rx ry q
theorem iB (b:br) {op:CmpOp}(h:op≠.In:=by decide) (h2:op≠.NotIn:=by decide):behindInMarks op b=false:=by
 have e1:(op==CmpOp.In)=false:=by cases op <;> first|rfl|exact absurd rfl h
 have e2:(op==CmpOp.NotIn)=false:=by cases op <;> first|rfl|exact absurd rfl h2
 cases b <;> simp[behindInMarks,e1,e2]
theorem RM {op:CmpOp}{r:R2}(ho:Ba X (compareOp op) r) (ha:PE X a ta) (hb:PE X b tb) (hm:behindInMarks op b=false):PE X (.Compare a [op] [b] pos) (sN r ta tb):=by intro pins s σ H Q I h;exact wpAny_Compare1 (zH ha hb I h λv u s2 x y H2 I2 rx ry q=>ho pins s2 σ H2 x y v u Q I2 rx ry q) hm
def RN (t:TE):TT:=λσ H Q=>t σ H λx H'=>∃k,x=.bl k/\Q k H'
theorem RO {op:CmpOp}{r:R2}(ho:Ba X (compareOp op) r) (ha:PE X a ta) (hb:PE X b tb) (hm:behindInMarks op b=false):PT X (.Compare a [op] [b] pos) (RN (sN r ta tb)):=by intro pins s σ H Q I h;refine wpAny_isTrue_Compare1 (bD (ha pins s σ H _ I h) λv s1 ⟨x,H1,I1,r1,q1⟩=>bD (hb pins s1 σ H1 _ I1 q1) λu s2 ⟨y,H2,I2,r2,q2⟩=>bD (ho pins s2 σ H2 x y v u _ I2 r1 r2 q2) λc s3 ⟨z,H3,I3,r3,k,e,q3⟩=>?_) hm;subst e;cases r3;exact jr ⟨H3,I3,q3⟩
def FK (r r':R2) (ta tb tc:TE):TE:=λσ H Q=>ta σ H λx H1=>tb σ H1 λy H2=>r x y H2 λz H3=>∃k,z=.bl k /\
 (if k=true then tc σ H3 λw' H4=>r' y w' H4 Q else Q (.bl false) H3)
theorem RP {op op':CmpOp}{r r':R2}(ho:Ba X (compareOp op) r) (ho':Ba X (compareOp op') r') (ha:PE X a ta) (hb:PE X b tb) (hc:PE X c tc)
  (hm:lastMarks [op,op'] [b,c]=false:=by with_unfolding_all rfl):PE X (.Compare a [op,op'] [b,c] pos) (FK r r' ta tb tc):=by
 intro pins s σ H Q I h;refine Compare_chain (bD (ha pins s σ H _ I h) λv s1 ⟨x,H1,I1,r1,q1⟩=>chain_link (bD (hb pins s1 σ H1 _ I1 q1) λu s2 ⟨y,H2,I2,r2,q2⟩=>bD (ho pins s2 σ H2 x y v u _ I2 r1 r2 q2) λd s3 ⟨z,H3,I3,r3,k,e,q3⟩=>?_)) hm;subst e;cases r3;refine jr ?_
 cases k with
 |false=>exact ite_ff ⟨.bl false,H3,I3,rfl,q3⟩
 |true=>exact ite_tt (chain_last (bD (hc pins s3 σ H3 _ I3 q3) λw' s4 ⟨z',H4,I4,r4,q4⟩=>ho' pins s4 σ H4 y z' u w' Q I4 r2 r4 q4))
def FL (K:ao) (x:V) (H:Hp) (k:Bool):Prop:=
 match x with
 | .non=>k=false
 | .bl b=>k=b
 | .int i=>k=(i != 0)
 | .str y=>y.length<=bz/\k=((y.length:Int) != 0)
 | .byt y=>y.size<=bz/\k=((y.size:Int) != 0)
 | .ref p=>(∃xs,Ay K H p xs/\k=!xs.isEmpty)∨(∃xs,Au K H p xs/\k=!xs.isEmpty)∨∃kvs,H p=some (.dK kvs)/\k=!kvs.isEmpty
 |_=>False
theorem RQ {κ:Type}{kvs:List (κ×V)}{vs:List (κ×af)}(r:KV kvs vs):(!vs.isEmpty)=!kvs.isEmpty:=by cases r <;> rfl
theorem FN {xs:List V}{its:List af}(r:Ag xs its):(!its.toArray.isEmpty)=!xs.isEmpty:=by cases r <;> simp
theorem qS:(bz:Nat)<2 ^ 63:=by rw[jf];decide
theorem RR:Q8 X (λx H Q=>∃k,FL X.K x H k/\Q k H):=by
 intro pins s σ H x v Q I rx h;obtain⟨k,e,q⟩:=h;have hl:=qS;have hs:bz=16777216:=jf
 cases x with
 |non=>cases rx;have e':k=false:=e;subst e';exact truthy_none ⟨H,I,q⟩
 |bl b=>cases rx;have e':k=b:=e;subst e';exact jr ⟨H,I,q⟩
 |int i=>obtain⟨t,rfl⟩:=rx;have e':k=(i != 0):=e;subst e';exact PySem.P.truthy_int ⟨H,I,q⟩
 |str y=>obtain⟨t,rfl⟩:=rx;obtain⟨hy,e'⟩:y.length<=bz/\k=((y.length:Int) != 0):=e;subst e';exact PySem.P.truthy_str (by omega) ⟨H,I.tok _,q⟩
 |byt y=>obtain⟨t,rfl⟩:=rx;obtain⟨hy,e'⟩:y.size<=bz/\k=((y.size:Int) != 0):=e;subst e';exact PySem.W.truthy_bytes (by omega) ⟨H,I.tok _,q⟩
 |ref p=>
  cases rx;have e':(∃xs,Ay X.K H p xs/\k=!xs.isEmpty)∨(∃xs,Au X.K H p xs/\k=!xs.isEmpty)∨∃kvs,H p=some (.dK kvs)/\k=!kvs.isEmpty:=e
  rcases e' with⟨xs,hx,e'⟩|⟨xs,hx,e'⟩|⟨kvs,hx,e'⟩
  ·subst e';obtain⟨its,r,pl,hz⟩:=I.list hx;have hlen:=r.length;exact wpAny_truthy_list pl.isList (by simp only[av];omega) ⟨H,I.tok _,by rw[FN r];exact q⟩
  ·subst e';obtain⟨its,r,pl,hz⟩:=I.tuple hx;have hlen:=r.length;exact truthy_tuple pl (by simp only[av];omega) ⟨H,I.tok _,by rw[FN r];exact q⟩
  ·subst e';obtain⟨hz,hS,vs,r,m⟩:kvs.length<=bz/\(p==sysModules)=false/\∃vs,KV kvs vs/\s.heap.DictOf (zA X.prog X.w) p vs:=I.hok p _ hx;have hlen:kvs.length=vs.length:=Paired.length r;exact wpAny_truthy_dict hS m (by omega) ⟨H,I.tok _,by rw[RQ r];exact q⟩
 |_=>exact(show False from e).elim
theorem RS (ha:PE X a ta) (he:∀whole,isTrue a X.env whole=(do let v <-whole;standAt a.pos;holding [v] (truthy v))):
  PT X a (λσ H Q=>ta σ H λx H'=>∃k,FL X.K x H' k/\Q k H'):=by
 intro pins s σ H Q I h;exact isTrue_plain (bD (ha pins s σ H _ I h) λv s1 ⟨x,H1,I1,r1,q1⟩=>RR pins s1 σ H1 x v Q I1 r1 q1) (he _)
theorem iC {x:V}{us:List af}(r:Ag [x] us):∃u,us=[u]/\RelV x u:=by
 cases r with
 |cons r1 r2=>cases r2;exact⟨_,rfl,r1⟩
theorem sO {x y:V}{us:List af}(r:Ag [x,y] us):∃u w',us=[u,w']/\RelV x u/\RelV y w':=by
 cases r with
 |cons r1 r2=>
  cases r2 with
  |cons r3 r4=>cases r4;exact⟨_,_,rfl,r1,r3⟩
theorem RT:Aj X (.builtin "abs") (λxs H Q=>∃i,xs=[.int i]/\Q (.int (if i<0 then -i else i)) H):=by intro pins s σ H xs us Q I r h;obtain⟨i,rfl,q⟩:=h;obtain⟨u,rfl,t,rfl⟩:=iC r;exact call_abs_int λu tk=>⟨.int (if i<0 then -i else i),H,I.tok _,⟨_,rfl⟩,q⟩
theorem RU (hc:X.calm=true):Aj X (.builtin "max") (λxs H Q=>∃i j,xs=[.int i,.int j]/\Q (.int (if j>i then j else i)) H):=by
 intro pins s σ H xs us Q I r h;obtain⟨i,j,rfl,q⟩:=h;obtain⟨u,w',rfl,⟨t,rfl⟩,⟨t',rfl⟩⟩:=sO r;refine max_two_ints (I.ok.hd hc) λh' tk k=>⟨_,H,I.kept k, ?_,q⟩
 by_cases hj:j>i
 ·rw[if_pos hj,if_pos hj];exact⟨_,rfl⟩
 ·rw[if_neg hj,if_neg hj];exact⟨_,rfl⟩
theorem RV (hc:X.calm=true):Aj X (.builtin "min") (λxs H Q=>∃i j,xs=[.int i,.int j]/\Q (.int (if j<i then j else i)) H):=by
 intro pins s σ H xs us Q I r h;obtain⟨i,j,rfl,q⟩:=h;obtain⟨u,w',rfl,⟨t,rfl⟩,⟨t',rfl⟩⟩:=sO r;refine min_two_ints (I.ok.hd hc) λh' tk k=>⟨_,H,I.kept k, ?_,q⟩
 by_cases hj:j<i
 ·rw[if_pos hj,if_pos hj];exact⟨_,rfl⟩
 ·rw[if_neg hj,if_neg hj];exact⟨_,rfl⟩
end
section
variable{prog:bf}{w:cf}{A:cg}{E:af->ag->Prop}{s:ag}{K:ao}{x dx C f:ah}{mA:Str->Option af}{name:Str}{v:af}
end
section
variable{P:bf}{w:cf}{H H':Hp}{h h':cx}{a C dx:ah}{fs fs':List (Str×V)}
end
section
variable{X:Cx}{pins:List (ah×Obj)}{σ:St}{H:Hp}{s:ag}{a C dx:ah}{fs:List (Str×V)}{f:Str}{v:V}{A:cg}{E:af->ag->Prop}
end
section
variable{X:Cx}{o e value:br}{f:Str}{pos pos' tpos:Pos}{ta tv:TE}
end
section
variable{X:Cx}{pins:List (ah×Obj)}{σ:St}{H:Hp}{s:ag}{A:cg}{E:af->ag->Prop}{Q:af->ag->Prop}{c:af}{b:Bool}
end
structure Az (k:Nat) (A:cg):Prop where
 hd:A.handled=none
 dp:A.depth+3*k+5<recursionLimit
 un:A.units+16*k+200<cLine
theorem Az.mono {j k:Nat}{A:cg}(r:Az k A) (h:j<=k):Az j A:=⟨r.hd,by have:=r.dp;omega,by have:=r.un;omega⟩
theorem Az.deeper {k:Nat}{A:cg}(r:Az (k+1) A) (env:Env):Az k (A.deeper env):=⟨r.hd,by have:=r.dp;show A.depth+1+3*k+5<_;omega,by have:=r.un;show A.units+3+16*k+200<_;omega⟩
theorem Az.depth {k:Nat}{A:cg}(r:Az k A):A.depth<recursionLimit:=by have:=r.dp;omega
theorem Az.units {k:Nat}{A:cg}(r:Az k A):A.units+64<cLine:=by have:=r.un;omega
def FO:TA:=λ_ H Q=>Q [] H
def FP (ta:TE) (tr:TA):TA:=λσ H Q=>ta σ H λx H1=>tr σ H1 λxs H2=>Q (x::xs) H2
section
variable{X:Cx}{e:br}{es:List br}{te:TE}{t:TA}{pos:Pos}
theorem mS:PA X [] FO:=λ_ _ _ _ H Q I h=>Calls.spliced_nil ⟨[],H,I,.nil,h⟩
theorem lA (ha:PE X e te) (hr:PA X es t) (hs:ar (e::es) X.env=(false,eval e X.env)::ar es X.env:=by rfl):PA X (e::es) (FP te t):=by intro pos pins s σ H Q I h;rw[hs];show wpAny _ _ (spliced ((false,eval e X.env)::backTo pos (ar es X.env))) _ _ s;refine zf (bD (ha pins s σ H _ I h) λu s1 ⟨x,H1,I1,r1,q1⟩=>?_);exact bD (hr pos pins s1 σ H1 _ I1 q1) λus s2 ⟨xs,H2,I2,r2,q2⟩=>⟨x::xs,H2,I2,.cons r1 r2,q2⟩
def RW (t:TA):TE:=λσ H Q=>t σ H λxs H1=>xs.length<=bz/\∀p,H1 p=none->Q (.ref p) (aV H1 p (.tup xs))
def RX (t:TA):TE:=λσ H Q=>t σ H λxs H1=>xs.length<=bz/\∀p,H1 p=none->Q (.ref p) (aV H1 p (.lst xs))
theorem RY {x1} (h:PA X es t):PE X (.Tuple es x1 pos) (RW t):=by intro pins s σ H Q I hq;refine wpAny_Tuple_spliced (bD (h pos pins s σ H _ I hq) λus s1 ⟨xs,H1,I1,r,z,q⟩=>⟨by rw[<-r.length];exact z, ?_⟩);have hf:H1 s1.heap.objs.size=none:=I1.hok.fresh (aj _);refine⟨.ref s1.heap.objs.size,aV H1 s1.heap.objs.size (.tup xs),I1.laid (t':=s1.toks) (λb u e=>ak _ e) (aj _) ?_,rfl,q _ hf⟩;exact⟨z,us,r,⟨_,bc _ rfl,rfl,rfl,_,rfl⟩⟩
theorem RZ (h:PA X es t):PE X (.List es pos) (RX t):=by intro pins s σ H Q I hq;refine wpAny_List_spliced (bD (h pos pins s σ H _ I hq) λus s1 ⟨xs,H1,I1,r,z,q⟩=>⟨by rw[<-r.length];exact z, ?_⟩);have hf:H1 s1.heap.objs.size=none:=I1.hok.fresh (aj _);refine⟨.ref s1.heap.objs.size,aV H1 s1.heap.objs.size (.lst xs),I1.laid (t':=s1.toks) (λb u e=>ak _ e) (aj _) ?_,rfl,q _ hf⟩;exact⟨z,us,0,r,bc _ rfl⟩
end
abbrev Sp:=List V->Hp->VK->XK->Prop
abbrev mT:=List Env->Hp->ag->XK->af->ag->Prop
structure Env0 (P:bf) (w:cf) (K:ao) (mg:Str->Option af) (base:cx) (A:cg) (outer:List Env) (s:ag) (H:Hp):Prop where
 frames:A.frames=some outer
 mod:Mod K mg base
 bs:∀b o,base.get? b=some o->s.heap.get? b=some o/\H b=none
 bsz:base.objs.size<=s.heap.objs.size
 funs:s.heap.FunFrames base outer
 frf:∀b∈eW outer,H b=none
 hok:Bk P w H s.heap
 bare:qw s.gens
def CE (outer:List Env) (P:bf) (w:cf) (H:Hp) (s:ag) (Q:VK) (u:af) (s':ag):Prop:=∃v H',s'.os=s.os/\qw s'.gens/\Un (eW outer) [] H H' s.heap s'.heap/\Bk P w H' s'.heap/\RelV v u/\Q v H'
def CR (CX:mT) (outer:List Env) (P:bf) (w:cf) (H:Hp) (s:ag) (Q:VK) (E:XK) (r:xk) (s':ag):Prop:=
 match r with
 | .ok (.ret u)=>CE outer P w H s Q u s'
 | .ok _=>False
 | .error e=>CX outer H s E e s'
structure Ak (P:bf) (w:cf) (K:ao) (mg:Str->Option af) (base:cx) (CX:mT) (k:Nat) (f:ah) (fd:bh) (ps:zu) (sp:Sp):Prop where
 len:∀vs H Q E,sp vs H Q E->vs.length=ps.length
 run:∀(A:cg) (outer:List Env) (s:ag) (H:Hp) (args:Args) (us:List af) (vs:List V) (Q:VK) (E:XK),Az k A->Env0 P w K mg base A outer s H->yf s fd args (ps.zip us)->Ag vs us->sp vs H Q E->
  codeAny (model P w) A (.call (.ref f) args) (CR CX outer P w H s Q E) s
section
variable{X:Cx}{pins:List (ah×Obj)}{σ:St}{H:Hp}{s s':ag}
theorem Inv.env0 (I:Inv X pins σ H s):Env0 X.prog X.w X.K X.mg X.base X.A X.stack s H:=⟨I.ok.frames,I.ok.mod,I.bs,di I.ok.bsz I.sz,I.stack,I.stkFree,I.hok,I.bare⟩
theorem Inv.after {Q:VK}{u:af}(I:Inv X pins σ H s) (h:CE X.stack X.prog X.w H s Q u s'):EP X pins σ Q u s':=by obtain⟨v,H',os,bare,un,hok,r,q⟩:=h;obtain⟨hh,g,d,t,os'⟩:=s';obtain rfl:os'=s.os:=os;exact⟨v,H',I.call (h':=hh) (g':=g) (d':=d) (t':=t) (ch:=[]) un hok bare (λb z=>absurd z (by simp)),r,q⟩
end
def R0 (sp:Sp) (dvs:List V) (E:XK) (t:TA):TE:=λσ H Q=>t σ H λvs H1=>sp (vs++dvs) H1 Q E
def Binds (K:ao) (fd:bh) (ps:zu) (ds:List af):Prop:=∀(s:ag) (us:List af),K.In s.heap->(us++ds).length=ps.length->yf s fd ⟨us,[]⟩ (ps.zip (us++ds))
theorem Binds.all {K:ao}{fd:bh}{ps:zu}(h:∀us:List af,us.length=ps.length->bindArgs fd ⟨us,[]⟩=pure (ps.zip us)):Binds K fd ps []:=λs us _ hl=>by rw[rq]at hl ⊢;exact .of_eq (h us hl)
def zJ (CX:mT) (X:Cx) (E:XK):Prop:=∀(pins:List (ah×Obj)) (σ:St) (H:Hp) (s:ag) (e:af) (s':ag),Inv X pins σ H s->CX X.stack H s E e s'->X.xe e s'
section
variable{X:Cx}{CX:mT}{k:Nat}{f C:ah}{fd:bh}{ps:zu}{sp:Sp}{dvs:List V}{ds:List af}{E:XK}{x m:Str}{p pos apos:Pos}{e o:br}{es:List br}{ta:TE}{t:TA}
theorem R3 {pins:List (ah×Obj)}{σ:St}{H:Hp}{s:ag}{Q:VK}{us:List af}{vs:List V}(F:Ak X.prog X.w X.K X.mg X.base CX k f fd ps sp) (hr:Az k X.A) (hb:Binds X.K fd ps ds) (hd:Ag dvs ds) (hx:zJ CX X E)
  (I:Inv X pins σ H s) (r:Ag vs us) (h:sp (vs++dvs) H Q E):wpAny (model X.prog X.w) X.A (call (.ref f) us) (EP X pins σ Q) X.xe s:=by
 have r2:Ag (vs++dvs) (us++ds):=r.append hd;have hl:(us++ds).length=ps.length:=by rw[<-r2.length];exact F.len _ _ _ _ h
 refine wpAny_call (tj (F.run X.A X.stack s H ⟨us,[]⟩ (us++ds) (vs++dvs) Q E hr I.env0 (hb s us I.kIn hl) r2 h) λr s' hq=>?_)
 cases r with
 |error e=>exact hx pins σ H s e s' I hq
 |ok fl=>
  cases fl with
  |ret u=>exact I.after hq
  |next=>exact lx hq
  |brk=>exact lx hq
  |cont=>exact lx hq
theorem R4 (F:Ak X.prog X.w X.K X.mg X.base CX k f fd ps sp) (hr:Az k X.A) (hg:Gl X x) (hm:X.mg x=some (.ref f)) (hk:oj X.K (.ref f)=true) (hb:Binds X.K fd ps ds) (hd:Ag dvs ds) (hx:zJ CX X E)
  (ha:PA X (e::es) t) (Di:(x==("__debug__" : Str))=false:=by decide) (he:ar (e::es) X.env=(false,eval e X.env)::ar es X.env:=by rfl) (Bl:(backTo pos (ar es X.env)).any (·.1)=false:=by rfl):
  PE X (.Call (.Name x p) (e::es) [] pos) (R0 sp dvs E t):=by
 intro pins s σ H Q I h;refine qm (zB I hg hm ?_ Di);refine PySem.W.callWith_K (h₀:=X.base) I.ok.mod.kin hk (bD (ha pos pins s σ H _ I h) λus s1 ⟨vs,H1,I1,r,q⟩=>⟨I1.kIn, ?_⟩) he Bl;exact R3 F hr hb hd hx I1 r q
end
section
variable{X:Cx}{CX:mT}{k:Nat}{f C:ah}{fd:bh}{ps ks:zu}{sp:Sp}{E:XK}{x m:Str}{p pos apos kpos:Pos}{e o:br}{es:List br}{kws:List Keyword}{te ta:TE}{t tk:TA}{nm:Option Str}
variable{g:List af->List af->List af}{gV:List V->List V->List V}
end
structure Ae (N P:zu) (sc:gu):Prop where
 kind:sc.kind=.function
 co:sc.isCoroutine=false
 gen:sc.isGenerator=false
 nd:N.Nodup
 pre:N.take P.length=P
 par:∀x∈P,sc.names.lookup x=some .local∨sc.names.lookup x=some .cell
 nofree:∀y∈sc.names,y.2≠.free
theorem FQ {kindOf:Str->Option kq}{x:Str}:∀{binds:List (Str×af)}{m:Str->Option af},(∀v,(x,v)∉binds)->bindL kindOf binds m x=m x
 | [],_,_=>rfl
 |(n,v)::r,m,h=>by
  unfold bindL;rw[FQ λw hw=>h w (aq _ hw)]
  split
  ·have:x≠n:=by rintro rfl;exact h v ax
   simp[this]
  ·rfl
theorem FR {kindOf:Str->Option kq}{x:Str}:∀{binds:List (Str×af)}{m:Str->Option af},(∀v,(x,v)∉binds)->bindC kindOf binds m x=m x
 | [],_,_=>rfl
 |(n,v)::r,m,h=>by
  unfold bindC;rw[FR λw hw=>h w (aq _ hw)]
  split
  ·rfl
  ·have:x≠n:=by rintro rfl;exact h v ax
   simp[this]
theorem FT {kindOf:Str->Option kq}{x:Str}{v:af}:∀{P:zu}{vs:List af}{i:Nat}{m:Str->Option af},P.Nodup->P[i]?=some x->vs[i]?=some v->kindOf x=some .local->
  bindL kindOf (P.zip vs) m x=some v
 | [],_,_,_,_,h,_,_=>by simp at h
 |_::_,[],_,_,_,_,h,_=>by simp at h
 |p::P,w::vs,0,m,nd,h1,h2,hk=>by simp at h1 h2;subst h1;subst h2;show bindL kindOf ((p,w)::P.zip vs) m p=_;unfold bindL;rw[FQ λv hv=>(ib.mp nd).1 (wd hv).1,if_pos hk];simp
 |p::P,w::vs,i+1,m,nd,h1,h2,hk=>by show bindL kindOf ((p,w)::P.zip vs) m x=_;unfold bindL;exact FT (i:=i) (ib.mp nd).2 (by simpa using h1) (by simpa using h2) hk
theorem FU {kindOf:Str->Option kq}{x:Str}{v:af}:∀{P:zu}{vs:List af}{i:Nat}{m:Str->Option af},P.Nodup->P[i]?=some x->vs[i]?=some v->kindOf x≠some .local->
  bindC kindOf (P.zip vs) m x=some v
 | [],_,_,_,_,h,_,_=>by simp at h
 |_::_,[],_,_,_,_,h,_=>by simp at h
 |p::P,w::vs,0,m,nd,h1,h2,hk=>by simp at h1 h2;subst h1;subst h2;show bindC kindOf ((p,w)::P.zip vs) m p=_;unfold bindC;rw[FR λv hv=>(ib.mp nd).1 (wd hv).1,if_neg hk];simp
 |p::P,w::vs,i+1,m,nd,h1,h2,hk=>by show bindC kindOf ((p,w)::P.zip vs) m x=_;unfold bindC;exact FU (i:=i) (ib.mp nd).2 (by simpa using h1) (by simpa using h2) hk
def start (N:zu) (vs:List V):St:=vs.map some++List.replicate (N.length - vs.length) none
def lB (CX:mT) (P:bf) (w:cf) (K:ao) (mg:Str->Option af) (base:cx) (N:zu) (qual:Str) (scope:gu) (f:ah) (cd:af) (A:cg) (outer:List Env) (s:ag) (H:Hp) (E:XK):Cx where
 prog:=P
 w:=w
 K:=K
 mg:=mg
 base:=base
 A:=A.deeper (envOfC qual scope s.heap.objs.size f cd)
 N:=N
 s₀:=s
 H₀:=H
 env:=envOfC qual scope s.heap.objs.size f cd
 outer:=outer
 stack:=envOfC qual scope s.heap.objs.size f cd::outer
 ex:=[]
 calm:=true
 fn:=λ_=>true
 pn:=[]
 xe:=λe s'=>wpAny (model P w) (A.deeper (envOfC qual scope s.heap.objs.size f cd)) (leaving (envOfC qual scope s.heap.objs.size f cd) e) (λ_ s''=>CX outer H s E e s'') (λe' s''=>CX outer H s E e' s'') s'
theorem FV {sc:gu}{n:Nat}{x:Str}(h:sc.names.lookup x=some .cell):∃c,(cellsFrom n sc.names []).lookup x=some c:=by have q:=xl sc.names n [] (.inl h);exact xb.mp q
theorem R5 {CX:mT}{P:bf}{w:cf}{K:ao}{mg:Str->Option af}{base:cx}{N ps:zu}{qual:Str}{scope:gu}{f:ah}{cd:af}{A:cg}{outer:List Env}{s s1:ag}{H:Hp}{E:XK}{us:List af}{vs:List V}
  (S:Ae N ps scope) (hd:A.handled=none) (e0:Env0 P w K mg base A outer s H) (hl:vs.length=ps.length) (r:Ag vs us)
  (x:InCallC s s.heap.objs.size (bindL (envOfC qual scope s.heap.objs.size f cd).kindOf (ps.zip us) λ_=>none) (cellsFrom (s.heap.objs.size+1) scope.names []) (bindC (envOfC qual scope s.heap.objs.size f cd).kindOf (ps.zip us) λ_=>none) s1):
  Inv (lB CX P w K mg base N qual scope f cd A outer s H E) [] (start N vs) H s1:=by
 have Bl:ps.length<=N.length:=by have:=congrArg nr S.pre;rw[ji]at this;omega
 obtain⟨h1,tk,rfl,hk⟩:=x.done;have noA:∀b:ah,b∉(lB CX P w K mg base N qual scope f cd A outer s H E).ex:=λb z=>absurd (show b∈([]:List ah) from z) (by simp);refine⟨⟨e0.mod,S.kind,rfl,rfl,aj _,λy z c h1 h2=>?_,λy hy=>?_,λy c _ h=>?_,λ_=>hd,Around.frames_deeper e0.frames,.inr ⟨rfl,rfl⟩,λb z=>absurd z (noA b),e0.bs,e0.bsz,λb _ _=>noA b,λb z=>absurd z (noA b),e0.funs,e0.frf⟩,
  rfl,e0.bare,Un.kept hk,⟨_,x.toInCall.ns,λi y v h1 h2 h3=>?_⟩,λy c h=>⟨_,x.cell y c h⟩,e0.hok.fresh (aj _),λy c h=>?_,λp hp=>absurd (show p∈([]:List (ah×Obj)) from hp) (by simp),e0.hok.kept hk, ?_⟩
 ·exact name_of_addr x.apart (jg h1) (jg h2)
 ·have hy:scope.names.lookup y=some .cell∨scope.names.lookup y=some .free:=hy
  rcases hy with hy|hy
  ·exact FV hy
  ·exact absurd rfl (S.nofree _ (jg hy))
 ·exact gy (x.above y c (jg h))
 ·have hi:i<vs.length:=by
   unfold start at h2
   by_cases hi:i<vs.length
   ·exact hi
   ·rw[gw (by simpa using hi)]at h2;rw[ya]at h2
    split at h2 <;> cases h2
  have ha:vs[i]?=some v:=by
   unfold start at h2;rw[fi (by simpa using hi),dz]at h2
   cases e:vs[i]? with
   |none=>rw[e]at h2;cases h2
   |some a=>rw[e]at h2;cases h2;rfl
  obtain⟨u,hu,rv⟩:=r.get ha;have hp:ps[i]?=some y:=by rw[<-S.pre,xv (by omega)];exact h1
  have ndP:ps.Nodup:=by rw[<-S.pre];exact S.nd.sublist (List.take_sublist _ _)
  refine⟨u,rv, ?_⟩
  rcases S.par y (dg hp)with k|k
  ·exact .inl ⟨k,FT ndP hp hu k⟩
  ·obtain⟨c,e⟩:=FV (n:=s.heap.objs.size+1) k;refine .inr ⟨.inl k,c,e, ?_⟩;have q:=x.cell y c e;rw[FU ndP hp hu (by show scope.names.lookup y≠_;rw[k];decide)]at q;exact q
 ·exact e0.hok.fresh (gy (x.above y c (jg h)))
 ·unfold start;show _=N.length;rw[bx,aw,List.length_replicate];omega
theorem FW {CX:mT}{P:bf}{w:cf}{K:ao}{mg:Str->Option af}{base:cx}{k:Nat}{f:ah}{name qual:Str}{params:oi}{body:List gf}{scope:gu}{dV kV doc pm cdv ct oc:af}{an od:Option ah}
  {osl:Array (Option af)}{N ps:zu}{sp:Sp}(lk:K.lookup f=some ⟨oc,od,.func (nu name qual params body scope dV kV doc pm an cdv ct),osl⟩) (hcd:vp K cdv qual=true) (S:Ae N ps scope)
  (len:∀vs H Q E,sp vs H Q E->vs.length=ps.length)
  (C':∀(A:cg) (outer:List Env) (s:ag) (H:Hp) (vs:List V) (Q:VK) (E:XK),Az k (A.deeper (envOfC qual scope s.heap.objs.size f cdv))->sp vs H Q E->
   ∃t,Dk (lB CX P w K mg base N qual scope f cdv A outer s H E) body t/\t { nx:=λ_ H'=>Q .non H',rt:=Q } (start N vs) H):
  Ak P w K mg base CX (k+1) f (nu name qual params body scope dV kV doc pm an cdv ct) ps sp:=by
 refine⟨len,λA outer s H args us vs Q E hr e0 hb r hsp=>?_⟩;have hl:=len _ _ _ _ hsp;have KX:K.In s.heap:=e0.mod.kin.keeps λb o e=>(e0.bs b o e).1;have lim:s.heap.NoLimit:=e0.mod.nolimit.keeps λb o e=>(e0.bs b o e).1;have hkind:∀y∈ps.zip us,scope.names.lookup y.1=some .local∨(scope.names.lookup y.1=some .cell/\((cellsFrom (s.heap.objs.size+1) scope.names []).lookup y.1).isSome=true):=λ⟨n,v⟩ hy=>by
  rcases S.par n (wd hy).1 with q|q
  ·exact .inl q
  ·exact .inr ⟨q,xl _ _ _ (.inl q)⟩
 refine codeAny_call_function hr.depth (KX _ _ lk) rfl S.co S.gen rfl (PySem.W.codeRec_of KX hcd) (hb _ _ _ _ ?_);refine wpAny_newFunctionEnv_cells S.kind hkind λenv he s1 x=>?_;subst he;refine⟨lim.keeps x.toInCall.keep,codeAny_func ?_⟩;obtain⟨t,ht,hq⟩:=C' A outer s H vs Q E (hr.deeper _) hsp;have I:Inv (lB CX P w K mg base N qual scope f cdv A outer s H E) [] (start N vs) H s1:=R5 S hr.hd e0 hl r x;refine ql (ht [] s1 (start N vs) H _ I hq) (λfl s' hs=>?_) λe s' hs=>hs;have fin:∀{σ':St}{H':Hp}{v:V}{u:af},Inv (lB CX P w K mg base N qual scope f cdv A outer s H E) [] σ' H' s'->RelV v u->Q v H'->CE outer P w H s Q u s':=λ{σ' H' v u} J rv q=>⟨v,H',J.os,J.bare,J.base,J.hok,rv,q⟩
 cases fl with
 |ret u=>obtain⟨v,σ',H',J,rv,q⟩:=hs;exact fin J rv q
 |next=>obtain⟨σ',H',J,q⟩:=hs;exact fin (v:=V.non) (u:=jj) J rfl q
 |brk=>obtain⟨_,_,_,q⟩:=hs;exact lx q
 |cont=>obtain⟨_,_,_,q⟩:=hs;exact lx q
section
variable{X:Cx}{x:Str}{p pos:Pos}{e:br}{es:List br}{t:TA}{id T:String}{r:List V->Hp->VK->Prop}
def vB (r:List V->Hp->VK->Prop) (t:TA):TE:=λσ H Q=>t σ H λvs H1=>r vs H1 Q
theorem vC (hc:Aj X (.builtin id) r) (hg:Gl X x) (hm:X.mg x=none) (hv:dj x=some (.builtin id)) (ha:PA X (e::es) t) (hn:x ≠ "__name__" := by decide) (Di:(x==("__debug__" : Str))=false:=by decide)
  (he:ar (e::es) X.env=(false,eval e X.env)::ar es X.env:=by rfl) (Bl:(backTo pos (ar es X.env)).any (·.1)=false:=by rfl):PE X (.Call (.Name x p) (e::es) [] pos) (vB r t):=by
 intro pins s σ H Q I h;refine qm (nX I hg hm hv ?_ hn Di);exact PyProof.Rows.callWith_builtin1 (bD (ha pos pins s σ H _ I h) λus s1 ⟨vs,H1,I1,r1,q1⟩=>hc pins s1 σ H1 vs us Q I1 r1 q1) he Bl
theorem vD (hc:Aj X (.type T) r) (hg:Gl X x) (hm:X.mg x=none) (hv:dj x=some (.type T)) (ha:PA X (e::es) t) (hn:x ≠ "__name__" := by decide) (Di:(x==("__debug__" : Str))=false:=by decide)
  (he:ar (e::es) X.env=(false,eval e X.env)::ar es X.env:=by rfl) (Bl:(backTo pos (ar es X.env)).any (·.1)=false:=by rfl):PE X (.Call (.Name x p) (e::es) [] pos) (vB r t):=by
 intro pins s σ H Q I h;refine qm (nX I hg hm hv ?_ hn Di);exact jc (bD (ha pos pins s σ H _ I h) λus s1 ⟨vs,H1,I1,r1,q1⟩=>hc pins s1 σ H1 vs us Q I1 r1 q1) he Bl
end
end L2
namespace HT
open PySem PyProof.Rows
def lexLt:zr->zr->Bool
 | [],[]=>false
 | [],_::_=>true
 |_::_,[]=>false
 |x::xs,y::ys=>if x=y then lexLt xs ys else decide (x<y)
theorem lexLt_cons (x y:Int) (xs ys:zr):lexLt (x::xs) (y::ys)=if x=y then lexLt xs ys else decide (x<y):=rfl
theorem R6:lexLt [] []=false:=rfl
theorem R7 (y:Int) (ys:zr):lexLt [] (y::ys)=true:=rfl
theorem R8 (x:Int) (xs:zr):lexLt (x::xs) []=false:=rfl
theorem R9 (A:cg) (s:ag) (a:Int) (t:Tok) (c:Int) (u:Tok):∃e,jy A s (.int a t) (.int c u) e/\(e=true↔a=c):=⟨(a==c),SeqAt.EqAt.int_int a t c u,by simp⟩
theorem SA (A:cg) (s:ag) (a:Int) (t:Tok) (c:Int) (u:Tok) (prog:bf) (w:cf) (E:af->ag->Prop) (Q:af->ag->Prop) (h:Q (.bool (decide (a<c))) s):
  wpAny (model prog w) A (richCompare .Lt (.int a t) (.int c u)) Q E s:=
 (wq h:wpAny (model prog w) A (compareOp .Lt (.int a t) (.int c u)) Q E s)
section
open PySem.SeqAt
open PySem.AutoSeq1 (wpAny_loadPart')
open PySem.MeetsSeq PySem.MeetsSeq2 PySem.MeetsSeq3
theorem SD (l b:ah) (items Be:Array af) (n n2:Nat) (dd dd2:Option ah) (sl sl2:Array (Option af)) (ns ms:zr) (hi:ka items.toList ns) (hj:ka Be.toList ms):
  Meets (kz.«tuple.__lt__» ⟨[.ref l,.ref b],[]⟩)
   (λ_ R s=>s.heap.get? l=some { cls:=.type "tuple",dict:=dd,data:=.seq items n,slots:=sl }/\s.heap.get? b=some { cls:=.type "tuple",dict:=dd2,data:=.seq Be n2,slots:=sl2 } /\
    R (.ok (.ret (.bool (lexLt ns ms)))) s):=
 .of_wp λprog w A R s h=>by
  obtain⟨hp,g,d,tk,os⟩:=s;obtain⟨hl,hb,h⟩:=h;have f2:=AutoSeq1.sub_tuple_tuple;have z1:items.size=ns.length:=by rw[<-hi.length];simp
  have z2:Be.size=ms.length:=by rw[<-hj.length];simp
  wp_walk using wpAny_loadPart' hl,wpAny_loadPart' hb,om _ (λrest b s'=>b.1=none/\s'=⟨hp,g,d,tk,os⟩/\∃(vs ws:List af) (ns' ms':zr),rest=vs.zip ws /\
   ka vs ns'/\ka ws ms'/\ns'.length+Be.size=ms'.length+items.size/\R (.ok (.ret (.bool (lexLt ns' ms')))) ⟨hp,g,d,tk,os⟩) _
  case turn=>
   rintro ⟨y,x⟩ rest b s' ⟨hb',rfl,vs,ws,ns',ms',hz,hvi,hwi,hlen,hR⟩
   cases hvi with
   |nil=>rw[List.zip_nil_left]at hz;cases hz
   |cons a t hvi'=>
    cases hwi with
    |nil=>rw[List.zip_nil_right]at hz;cases hz
    |cons c u hwi'=>
     rw[List.zip_cons_cons]at hz;injection hz with hyx hrest;injection hyx with hy hx;subst hy hx;rw[lexLt_cons]at hR;simp only[cp]at hlen;obtain⟨e,he,hiff⟩:=R9 A.in1 ⟨hp,g,d,tk,os⟩ a t c u;refine ae (he prog w _ _ ?_)
     cases e with
     |true=>
      rw[if_pos (hiff.mp rfl)]at hR
      wp_walk
      exact⟨rfl,rfl,_,_,_,_,hrest,hvi',hwi',by omega,hR⟩
     |false=>
      rw[if_neg (λq=>absurd (hiff.mpr q) ij)]at hR;have hri:=SA A.in1 ⟨hp,g,d,tk,os⟩ a t c u prog w
      wp_walk using hri
      exact⟨_,rfl,by simpa using hR⟩
  case fin=>
   rintro ⟨b1,b2⟩ s' ⟨hb',rfl,vs,ws,ns',ms',hz,hvi,hwi,hlen,hR⟩
   simp only at hb';subst hb';have hv:lexLt ns' ms'=decide (items.size<Be.size):=by
    cases hvi with
    |nil=>
     cases hwi with
     |nil=>simp only[kh]at hlen;rw[R6];exact(decide_eq_false (by omega)).symm
     |cons c u hw=>simp only[kh,cp]at hlen;rw[R7];exact(decide_eq_true (by omega)).symm
    |cons a t hv=>
     cases hwi with
     |nil=>simp only[kh,cp]at hlen;rw[R8];exact(decide_eq_false (by omega)).symm
     |cons c u hw=>rw[List.zip_cons_cons]at hz;cases hz
   rw[hv]at hR
   wp_walk
   exact⟨_,rfl,by simpa[Builtin.Tuple.tupleCompareSizes]using hR⟩
  case h=>exact⟨rfl,rfl,items.toList,Be.toList,ns,ms,rfl,hi,hj,by omega,h⟩
end
section
variable{prog:bf}{w:cf}{A:cg}{E:af->ag->Prop}{s:ag}
theorem lt_tupInts {l b:ah}{items Be:Array af}{ns ms:zr}{Q:af->ag->Prop}(hl:yk s.heap l items) (hb:yk s.heap b Be) (hi:ka items.toList ns) (hj:ka Be.toList ms)
  (hu:A.units<cLine) (h:Q (.bool (lexLt ns ms)) s):wpAny (model prog w) A (compareOp .Lt (.ref l) (.ref b)) Q E s:=by
 obtain⟨⟨cls,dd,data,sl⟩,ho,hc,n,hd⟩:=id hl;obtain⟨⟨cls2,dd2,data2,sl2⟩,ho2,hc2,n2,hd2⟩:=id hb;simp only at hc hd hc2 hd2;subst hc hd hc2 hd2;exact richCompare_meets_room (op:=.Lt) ⟨_,ho,rfl⟩ ⟨_,ho2,rfl⟩ PySem.F.slot_tuple_lt PySem.F.entry_tuple_lt (PySem.F.args_tuple_lt_2 _ _) (SD l b items Be n n2 dd dd2 sl sl2 ns ms hi hj)
  ⟨ho,ho2,show ub (lexLt ns ms)≠Value.notImplemented/\Q (.bool (lexLt ns ms)) s from⟨(λx=>nomatch x),h⟩⟩ hu
theorem cat_tup {t b:ah}{vs ws:List af}{Q:af->ag->Prop}(ht:yk s.heap t vs.toArray) (hb:yk s.heap b ws.toArray) (hv:vs≠[])
  (h1:ws=[]->Q (.ref t) s) (h2:ws≠[]->Q (.ref s.heap.objs.size) { s with heap:=s.heap.push { cls:=.type "tuple",data:=.seq (vs++ws).toArray } })
  (Br:vs.length+ws.length<=bz):wpAny (model prog w) A (binaryOp .Add (.ref t) (.ref b)) Q E s:=by
 obtain⟨⟨cls,dd,data,sl⟩,ho,hc,n,hd⟩:=id ht;obtain⟨⟨cls2,dd2,data2,sl2⟩,ho2,hc2,n2,hd2⟩:=id hb;simp only at hc hd hc2 hd2;subst hc hd hc2 hd2;have e:vs.toArray++ws.toArray=(vs++ws).toArray:=by simp
 by_cases hw:ws=[]
 ·exact concat_meets ⟨_,ho,rfl⟩ ⟨_,ho2,rfl⟩ xm zg qo qc (pj _ _)
   (tuple_addW1 t b vs.toArray ws.toArray n n2 dd dd2 sl sl2 (by simpa using hv) (by simp[hw])) ⟨ho,ho2,h1 hw⟩
 ·refine concat_meets ⟨_,ho,rfl⟩ ⟨_,ho2,rfl⟩ xm zg qo qc (pj _ _)
   (tuple_addW2 t b vs.toArray ws.toArray n n2 dd dd2 sl sl2 (by simpa using hv) (by simpa using hw) (by rw[av,av];exact Br)) ⟨ho,ho2, ?_⟩
  rw[e];exact h2 hw
def sIx (n d:Nat):Option Int->Nat
 |none=>d
 |some v=>if v<0 then(v+(n:Int)).toNat else min v.toNat n
theorem sIx_none (n d:Nat):sIx n d none=d:=rfl
theorem sIx_nat (n d k:Nat):sIx n d (some (k:Int))=min k n:=by show(if(k:Int)<0 then((k:Int)+(n:Int)).toNat else min (k:Int).toNat n)=min k n;rw[if_neg (by omega),fz]
theorem SE (n d:Nat) (hd:d<=n) (o:Option Int):sIx n d o<=n:=by
 cases o with
 |none=>exact hd
 |some v=>
  show(if v<0 then(v+(n:Int)).toNat else min v.toNat n)<=n
  by_cases hv:v<0
  ·rw[if_pos hv];omega
  ·rw[if_neg hv];exact Nat.min_le_right _ _
theorem FX (v:Int) (n d:Nat):(if v<0 then max (v+(n:Int)) 0 else min v (n:Int))=((sIx n d (some v):Nat):Int):=by
 show(if v<0 then max (v+(n:Int)) 0 else min v (n:Int))=(((if v<0 then(v+(n:Int)).toNat else min v.toNat n):Nat):Int)
 by_cases hv:v<0
 ·simp only[if_pos hv];omega
 ·simp only[if_neg hv];omega
theorem SF (lo hi:Option Int) (n:Nat):ni lo hi 1 (n:Int)=(((sIx n 0 lo:Nat):Int),((sIx n n hi:Nat):Int)):=by
 have h1:¬ ((1:Int)<0):=by omega
 unfold ni;simp only[h1,if_false];refine Prod.ext ?_ ?_
 ·cases lo with
  |none=>rfl
  |some v=>exact FX v n 0
 ·cases hi with
  |none=>rfl
  |some v=>exact FX v n n
theorem SG (i j:Nat):ki (i:Int) (j:Int) 1=j - i:=by
 unfold ki;have h1:(1:Int)>0:=by omega
 simp only[h1,if_true,Int.ediv_one]
 split <;> omega
theorem FY {v:af}{o:Option Int}{Q:Option Int->ag->Prop}(p:uh v o) (h:Q o s):wpAny (model prog w) A (Builtin.Slice.slicePartIndex v) Q E s:=by
 cases p with
 |none=>exact slicePart_none h
 |int i t=>exact slicePart_int h
theorem sliceApplied_gen {sl:ah}{vl vu:af}{lo hi:Option Int}{n:Nat}{Q:Int×Int×Nat->ag->Prop}(hs:s.heap.IsSliceOf sl vl vu .none) (pl:uh vl lo) (pu:uh vu hi)
  (h:Q (((sIx n 0 lo:Nat):Int),1,sIx n n hi - sIx n 0 lo) s):wpAny (model prog w) A (ud (.ref sl) (pure (n:Int))) Q E s:=by
 obtain⟨os,hos,hcs,hds⟩:=id hs;unfold ud Builtin.Slice.sliceFields;refine ae (ae (fq hos hds (x:=vl) rfl (ae (fq hos hds (x:=vu) rfl (ae (fq hos hds (x:=.none) rfl (ai ?_)))))));refine ae (slicePart_none ?_);show wpAny _ _ (if((1:Int)==0)=true then _ else _) _ _ s;rw[if_neg (by decide)];refine ae (FY pl (ae (FY pu (ae (ai ?_)))));show wpAny _ _ (match ni lo hi 1 (n:Int)with|(lo,hi)=>pure (lo,(1:Int),ki lo hi 1)) _ _ s;rw[SF lo hi n];show wpAny _ _ (pure (((sIx n 0 lo:Nat):Int),(1:Int),ki ((sIx n 0 lo:Nat):Int) ((sIx n n hi:Nat):Int) 1)) _ _ s;rw[SG];exact ai h
theorem SH (xs:Array af) (i k:Nat):((bj k).filterMap λ(m:Nat)=>xs[((i:Int)+(m:Int)*1).toNat]?).toArray=((xs.toList.drop i).take k).toArray:=by
 have e:(λ(m:Nat)=>xs[((i:Int)+(m:Int)*1).toNat]?)=λm=>xs[i+m]?:=by
  funext m
  have:((i:Int)+(m:Int)*1).toNat=i+m:=by omega
  rw[this]
 rw[e];have:=pick_run xs i k;rw[List.filterMap_map]at this;have e2:((λx=>xs[x]?)∘λx=>i+x)=λm=>xs[i+m]?:=rfl;rw[e2]at this;rw[this]
theorem getItem_tuple_cut {t sl:ah}{items:Array af}{vl vu:af}{lo hi:Option Int}{Q:af->ag->Prop}(ht:yk s.heap t items) (hs:s.heap.IsSliceOf sl vl vu .none) (pl:uh vl lo) (pu:uh vu hi)
  (hw:¬ (sIx items.size 0 lo=0/\sIx items.size items.size hi=items.size))
  (h:Q (.ref s.heap.objs.size) { s with heap:=s.heap.push { cls:=.type "tuple",data:=.seq ((items.toList.drop (sIx items.size 0 lo)).take (sIx items.size items.size hi - sIx items.size 0 lo)).toArray } })
  (Br:items.size<=bz):wpAny (model prog w) A (getItem (.ref t) (.ref sl)) Q E s:=by
 have htake:sizeOk (.seq ((items.toList.drop (sIx items.size 0 lo)).take (sIx items.size items.size hi - sIx items.size 0 lo)).toArray):=by show((items.toList.drop (sIx items.size 0 lo)).take (sIx items.size items.size hi - sIx items.size 0 lo)).toArray.size<=bz;rw[av,ji,nh,lh];omega
 have hj:sIx items.size items.size hi<=items.size:=SE _ _ (aj _) hi;obtain⟨os,hos,hcs,hds⟩:=id hs;have hTs:s.TypeIs (.ref sl) "slice" := ⟨os,hos,hcs⟩;unfold getItem
 try with_reducible refine fw ?_
 first|refine ae (ai ?_)|skip
 refine ae (wpAny_sequenceKey ht.typeIs (by decide) ?_);refine ae (dw (name:=jq "__getitem__") ht.typeIs fv
  (ed fv ht.typeIs entry_tuple_getitem ?_ (args_tuple_getitem _ _)))
 show wpAny _ _ (ue (.ref t) >>= _) _ _ s;refine ae (zh ht ?_);refine ae (qd hTs ?_);rw[if_pos (by decide)];refine ae (sliceApplied_gen hs pl pu ?_);have hno:¬ ((((sIx items.size 0 lo:Nat):Int)==0&&(1:Int)==1&&(sIx items.size items.size hi - sIx items.size 0 lo)==items.size)=true):=by intro q;rw[da,da]at q;have q1:((sIx items.size 0 lo:Nat):Int)=0:=eq_of_beq q.1.1;have q2:sIx items.size items.size hi - sIx items.size 0 lo=items.size:=eq_of_beq q.2;exact hw ⟨by omega,by omega⟩
 show wpAny _ _ (if(((sIx items.size 0 lo:Nat):Int)==0&&(1:Int)==1&&(sIx items.size items.size hi - sIx items.size 0 lo)==items.size)=true then _ else _) _ _ s;rw[if_neg hno,SH]
 first
  |exact ae (m:=kl _) (fo (ai ⟨_,rfl,ai h⟩) htake)
  |exact ae (m:=kl _) (fo (ae (ai (ai ⟨_,rfl,ai h⟩))) htake)
  |exact ae (ae (m:=kl _) (fo (ai (ai ⟨_,rfl,ai h⟩)) htake))
  |exact ae (ae (m:=kl _) (fo (ai ⟨_,rfl,ai h⟩) htake))
end
end HT
namespace L2
open PySem PySem.Spec PyProof.Rows
abbrev TO:=St->Hp->(Option Int->Hp->Prop)->Prop
def PO (X:Cx) (e:Option br) (t:TO):Prop:=
 ∀(pins:List (ah×Obj)) (s:ag) (σ:St) (H:Hp) (Q:Option Int->Hp->Prop),Inv X pins σ H s->t σ H Q->
  wpAny (model X.prog X.w) X.A (evalPart e X.env) (λu s'=>∃o H',Inv X pins σ H' s'/\uh u o/\Q o H') X.xe s
def SI:TO:=λ_ H Q=>Q none H
def SJ (t:TE):TO:=λσ H Q=>t σ H λx H1=>∃i,x=.int i/\Q (some i) H1
theorem FZ {ns:zr}:∀{us:List af},Ag (ns.map V.int) us->ka us ns:=by
 induction ns with
 |nil=>intro us r;rw[List.map_nil]at r;cases r;exact .nil
 |cons n ns ih=>
  intro us r;rw[df]at r
  cases r with
  |cons r1 r2=>obtain⟨t,e⟩:=r1;subst e;exact .cons n t (ih r2)
section
variable{X:Cx}{e:br}{te:TE}{lo hi:Option br}{tl th:TO}{pos p2:Pos}
theorem SK:PO X none SI:=by intro pins s σ H Q I h;rw[evalPart_none];exact ai ⟨none,H,I,.none,h⟩
theorem SN (h:PE X e te):PO X (some e) (SJ te):=by intro pins s σ H Q I hw;rw[evalPart_some];refine bD (h pins s σ H _ I hw) λu s1 ⟨x,H1,I1,r1,q1⟩=>?_;obtain⟨i,rfl,q⟩:=q1;obtain⟨t,rfl⟩:=r1;exact⟨some i,H1,I1,.int i t,q⟩
def SlR (X:Cx) (r:V->Option Int->Option Int->Hp->VK->Prop):Prop:=
 ∀(pins:List (ah×Obj)) (s:ag) (σ:St) (H:Hp) (x:V) (v vl vu:af) (lo hi:Option Int) (sl:ah) (Q:VK),Inv X pins σ H s->RelV x v->s.heap.IsSliceOf sl vl vu .none->uh vl lo->uh vu hi->r x lo hi H Q->
  ∃T id,typeLookup (.type T) "__getitem__" = pure (some (.builtin id))/\s.TypeIs v T/\wpAny (model X.prog X.w) X.A (getItem v (.ref sl)) (EP X pins σ Q) X.xe s
theorem SlR.or {r r':V->Option Int->Option Int->Hp->VK->Prop}(h:SlR X r) (h':SlR X r'):SlR X (λx lo hi H Q=>r x lo hi H Q∨r' x lo hi H Q):=by
 intro pins s σ H x v vl vu lo hi sl Q I rx hs pl pu q
 rcases q with q|q
 ·exact h pins s σ H x v vl vu lo hi sl Q I rx hs pl pu q
 ·exact h' pins s σ H x v vl vu lo hi sl Q I rx hs pl pu q
def SO (r:V->Option Int->Option Int->Hp->VK->Prop) (te:TE) (tl th:TO):TE:=λσ H Q=>te σ H λx H1=>tl σ H1 λl H2=>th σ H2 λu H3=>r x l u H3 Q
theorem SQ {r:V->Option Int->Option Int->Hp->VK->Prop}(hr:SlR X r) (he:PE X e te) (hl:PO X lo tl) (hu:PO X hi th):PE X (.Subscript e (.Slice lo hi none p2) pos) (SO r te tl th):=by intro pins s σ H Q I h;refine Subscript_ (bD (he pins s σ H _ I h) λv s1 ⟨x,H1,I1,r1,q1⟩=>?_);refine wpAny_Slice (bD (hl pins s1 σ H1 _ I1 q1) λvl s2 ⟨l,H2,I2,pl,q2⟩=>bD (hu pins s2 σ H2 _ I2 q2) λvu s3 ⟨u,H3,I3,pu,q3⟩=>?_);rw[evalPart_none];refine ai ?_;have I4:Inv X pins σ H3 { s3 with heap:=s3.heap.push { cls:=.type "slice",data:=.fields #[vl,vu,.none] } }:=I3.kept (t':=s3.toks) λb ob q=>ak _ q;obtain⟨T,id,hT,ht,hg⟩:=hr pins { s3 with heap:=s3.heap.push { cls:=.type "slice",data:=.fields #[vl,vu,.none] } } σ H3 x v vl vu l u s3.heap.objs.size Q I4 r1 (Heap.IsSliceOf.new ..) pl pu q3;show wpAny (model X.prog X.w) X.A (subscriptTail e (.Slice lo hi none p2) v (.ref s3.heap.objs.size)) (EP X pins σ Q) X.xe { s3 with heap:=s3.heap.push { cls:=.type "slice",data:=.fields #[vl,vu,.none] } };exact tail_any (ops:=[.ref s3.heap.objs.size,v]) ht hT hg (by with_unfolding_all rfl)
def nY (xs:List V) (lo hi:Option Int):List V:=(xs.drop (HT.sIx xs.length 0 lo)).take (HT.sIx xs.length xs.length hi - HT.sIx xs.length 0 lo)
theorem F0 (xs:List V) (lo hi:Option Int):(nY xs lo hi).length<=xs.length:=by unfold nY;rw[ji,nh];omega
def SS (K:ao):V->Option Int->Option Int->Hp->VK->Prop:=λx lo hi H Q=>∃a xs,x=.ref a/\Au K H a xs /\
 ¬ (HT.sIx xs.length 0 lo=0/\HT.sIx xs.length xs.length hi=xs.length)/\∀p,H p=none->Q (.ref p) (aV H p (.tup (nY xs lo hi)))
theorem SU:SlR X (SS X.K):=by
 intro pins s σ H x v vl vu lo hi sl Q I rx hs pl pu h;obtain⟨a,xs,rfl,hx,hw,q⟩:=h;cases rx;obtain⟨its,r,ht,hz⟩:=I.tuple hx;have hlen:its.toArray.size=xs.length:=by rw[av];exact r.length.symm
 refine⟨"tuple",_,fv.lookup,ht.typeIs, ?_⟩;refine HT.getItem_tuple_cut ht hs pl pu (by rw[hlen];exact hw) ?_ (by rw[hlen];exact hz);rw[hlen];refine⟨.ref s.heap.objs.size,_,I.laid (t':=s.toks) (o:=.tup (nY xs lo hi)) (λb ob q=>ak _ q) (aj _) ?_,rfl,q _ (I.hok.fresh (aj _))⟩;exact⟨di (F0 xs lo hi) hz,_,(r.drop (HT.sIx xs.length 0 lo)).take (HT.sIx xs.length xs.length hi - HT.sIx xs.length 0 lo),A'.new _ _⟩
def F1 (K:ao):R2:=λx y H Q=>∃a b ns ms,x=.ref a/\y=.ref b/\Au K H a (ns.map V.int)/\Au K H b (ms.map V.int)/\Q (.bl (HT.lexLt ns ms)) H
theorem F2 (hu:X.A.units<cLine):Ba X (compareOp .Lt) (F1 X.K):=by intro pins s σ H x y v u Q I rx ry h;obtain⟨a,b,ns,ms,rfl,rfl,ha,hb,q⟩:=h;cases rx;cases ry;obtain⟨its,r1,p1,_⟩:=I.tuple ha;obtain⟨Bn,r2,p2,_⟩:=I.tuple hb;have i1:ka its.toArray.toList ns:=FZ r1;have i2:ka Bn.toArray.toList ms:=FZ r2;exact HT.lt_tupInts p1 p2 i1 i2 hu ⟨.bl (HT.lexLt ns ms),H,I,rfl,q⟩
def F3 (K:ao):R2:=λx y H Q=>∃a b xs ys,x=.ref a/\y=.ref b/\Au K H a xs/\Au K H b ys/\xs≠[]/\xs.length+ys.length<=bz /\
 (ys=[]->Q (.ref a) H)/\(ys≠[]->∀p,H p=none->Q (.ref p) (aV H p (.tup (xs++ys))))
theorem Ag.nil_iff {xs:List V}{us:List af}(r:Ag xs us):us=[]↔xs=[]:=by
 cases r with
 |nil=>simp
 |cons _ _=>simp
theorem SV:Ba X (binaryOp .Add) (F3 X.K):=by intro pins s σ H x y v u Q I rx ry h;obtain⟨a,b,xs,ys,rfl,rfl,ha,hb,hx,hz,q1,q2⟩:=h;cases rx;cases ry;obtain⟨its,r1,p1,_⟩:=I.tuple ha;obtain⟨Bn,r2,p2,_⟩:=I.tuple hb;refine HT.cat_tup p1 p2 (λz=>hx (r1.nil_iff.mp z)) (λz=>⟨.ref a,H,I,rfl,q1 (r2.nil_iff.mp z)⟩) (λz=>?_) (by rw[<-r1.length,<-r2.length];exact hz);refine⟨.ref s.heap.objs.size,_,I.laid (t':=s.toks) (o:=.tup (xs++ys)) (λb ob q=>ak _ q) (aj _) ?_,rfl,q2 (λw=>z (r2.nil_iff.mpr w)) _ (I.hok.fresh (aj _))⟩;exact⟨by rw[bx];exact hz,_,r1.append r2,A'.new _ _⟩
end
def gA (n:Nat) (i:Int):Option Nat:=if 0<=i then(if i<n then some i.toNat else none)else if -(n:Int)<=i then some (i+n).toNat else none
def gU {α:Type}(xs:List α) (i:Int):Option α:=(gA xs.length i).bind λj=>xs[j]?
theorem zK {n:Nat}{i:Int}{j:Nat}(h:gA n i=some j):seqIndex? i n=some j/\j<n/\-(n:Int)<=i/\i<n:=by
 unfold gA at h
 by_cases h0:0<=i
 ·rw[if_pos h0]at h
  by_cases h1:i<n
  ·rw[if_pos h1]at h;have e:i.toNat=j:=cw h;exact⟨by rw[seqIndex_of h0 h1,e],by omega,by omega,h1⟩
  ·rw[if_neg h1]at h;cases h
 ·rw[if_neg h0]at h
  by_cases h1 : -(n:Int)<=i
  ·rw[if_pos h1]at h;have e:(i+n).toNat=j:=cw h;exact⟨by rw[seqIndex_neg (by omega) h1,e],by omega,h1,by omega⟩
  ·rw[if_neg h1]at h;cases h
theorem zL {α:Type}{xs:List α}{i:Int}{v:α}(h:gU xs i=some v):∃j,seqIndex? i xs.length=some j/\xs[j]?=some v/\j<xs.length/\-(xs.length:Int)<=i/\i<xs.length:=by
 unfold gU at h
 cases e:gA xs.length i with
 |none=>rw[e]at h;cases h
 |some j=>rw[e]at h;obtain⟨h1,h2,h3,h4⟩:=zK e;exact⟨j,h1,h,h2,h3,h4⟩
def zM (b:br):Prop:=∀o i,subscripted b false o i=operate [o,i] (getItem o i)
def IxR (X:Cx) (r:R2):Prop:=
 ∀(value slice:br) (pins:List (ah×Obj)) (s:ag) (σ:St) (H:Hp) (x y:V) (v u:af) (Q:VK),Inv X pins σ H s->RelV x v->RelV y u->r x y H Q->
  subscripted slice false v u=operate [v,u] (getItem v u)->wpAny (model X.prog X.w) X.A (subscriptTail value slice v u) (EP X pins σ Q) X.xe s
def zN (X:Cx) (id:String) (r:V->List V->Hp->VK->Prop):Prop:=
 ∀(pins:List (ah×Obj)) (s:ag) (σ:St) (H:Hp) (x:V) (xs:List V) (v:af) (us:List af) (Q:VK),Inv X pins σ H s->RelV x v->Ag xs us->r x xs H Q->
  wpAny (model X.prog X.w) X.A (call (.builtin id) (v::us)) (EP X pins σ Q) X.xe s
section
variable{X:Cx}{a b:br}{ta tb:TE}{pos:Pos}
theorem IxR.or {r r':R2}(h:IxR X r) (h':IxR X r'):IxR X (λx y H Q=>r x y H Q∨r' x y H Q):=by
 intro value slice pins s σ H x y v u Q I rx ry q hs
 rcases q with q|q
 ·exact h value slice pins s σ H x y v u Q I rx ry q hs
 ·exact h' value slice pins s σ H x y v u Q I rx ry q hs
theorem F5 {r:R2}(hr:IxR X r) (ha:PE X a ta) (hb:PE X b tb) (hs:zM b):PE X (.Subscript a b pos) (sN r ta tb):=by intro pins s σ H Q I h;exact Subscript_ (zH ha hb I h λv u s2 x y H2 I2 rx ry q=>hr a b pins s2 σ H2 x y v u Q I2 rx ry q (hs _ _))
def F6 (K:ao):R2:=λx y H Q=>∃p xs i v,x=.ref p/\y=.int i/\Ay K H p xs/\gU xs i=some v/\Q v H
def F7 (K:ao):R2:=λx y H Q=>∃p xs i v,x=.ref p/\y=.int i/\Au K H p xs/\gU xs i=some v/\Q v H
def F8:R2:=λx y H Q=>∃z i c,x=.str z/\y=.int i/\z.length<=bz/\gU z.cps.toList i=some c/\Q (.str ⟨#[c]⟩) H
theorem ix_list:IxR X (F6 X.K):=by
 intro value slice pins s σ H x y v u Q I rx ry h hs;obtain⟨p,xs,i,z,rfl,rfl,hq,he,q⟩:=h;cases rx;obtain⟨t,rfl⟩:=ry;obtain⟨its,r,pl,hz⟩:=I.list hq;obtain⟨j,h1,h2,h3,h4,h5⟩:=zL he;obtain⟨w,ew,rw'⟩:=r.get h2;have hl:=r.length;have hn:=qS;have fin:EP X pins σ Q w s:=⟨z,H,I,rw',q⟩
 by_cases h0:0<=i
 ·have hj:i.toNat=j:=by rw[seqIndex_of h0 h5]at h1;exact cw h1
  exact item_listR pl.isList h0 (by omega) (by rw[hj];simpa using ew) fin hs
 ·have hj:(i+(its.toArray.size:Int)).toNat=j:=by rw[seqIndex_neg (by omega) h4]at h1;rw[av,<-hl];exact cw h1
  exact subscriptTail_builtinR (x:=w) pl.isList.typeIs slot_list_getitem.lookup
   (wpAny_getItem_list_neg (Q:=λr s'=>r=w/\EP X pins σ Q r s') pl.isList (by omega) (by rw[av] <;> omega) (by omega) (by rw[hj];simpa using ew) ⟨rfl,fin⟩) hs
theorem ix_tup:IxR X (F7 X.K):=by
 intro value slice pins s σ H x y v u Q I rx ry h hs;obtain⟨p,xs,i,z,rfl,rfl,hq,he,q⟩:=h;cases rx;obtain⟨t,rfl⟩:=ry;obtain⟨its,r,pl,hz⟩:=I.tuple hq;obtain⟨j,h1,h2,h3,h4,h5⟩:=zL he;obtain⟨w,ew,rw'⟩:=r.get h2;have hl:=r.length;have hn:=qS;have fin:EP X pins σ Q w s:=⟨z,H,I,rw',q⟩
 exact subscriptTail_builtinR (x:=w) pl.typeIs slot_tuple_getitem.lookup
  (getItem_tuple (j:=j) (Q:=λr s'=>r=w/\EP X pins σ Q r s') pl (by omega) (by omega) (by rw[av,<-hl];exact h1) (by simpa using ew) ⟨rfl,fin⟩) hs
theorem SW:IxR X F8:=by
 intro value slice pins s σ H x y v u Q I rx ry h hs;obtain⟨z,i,c,rfl,rfl,hz,he,q⟩:=h;obtain⟨t,rfl⟩:=rx;obtain⟨t',rfl⟩:=ry;obtain⟨j,h1,h2,h3,h4,h5⟩:=zL he;have hl:z.cps.toList.length=z.length:=by simp[Str.length]
 rw[hl]at h1 h4 h5;have hn:=qS;exact tail_any (typeIs_str s z t) slot_str_getitem.lookup (getItem_str (c:=c) (by have e1:decide (i < -(2 ^ 63:Int))=false:=decide_eq_false (by omega);have e2:decide (i>=2 ^ 63)=false:=decide_eq_false (by omega);rw[e1,e2,Bool.or_false]) (by rw[h1];simpa using h2) ⟨.str ⟨#[c]⟩,H,I.tok _,⟨_,rfl⟩,q⟩) hs
def zO (K:ao):R2:=λx y H Q=>F6 K x y H Q∨F7 K x y H Q∨F8 x y H Q
theorem F9:IxR X (zO X.K):=ix_list.or (ix_tup.or SW)
theorem SX (its:List af) (n j:Nat) (u:af):mf (·.setIfInBounds j u) { cls:=.type "list",data:=.seq its.toArray n }={ cls:=.type "list",data:=.seq (its.set j u).toArray n }:=by simp[mf]
theorem Inv.lst {pins:List (ah×Obj)}{σ:St}{H:Hp}{s:ag}{p:ah}{xs:List V}(I:Inv X pins σ H s) (h:H p=some (.lst xs)):
  ∃(its:List af) (n:Nat),Ag xs its/\s.heap.get? p=some { cls:=.type "list",data:=.seq its.toArray n }/\xs.length<=bz:=by
 obtain⟨z,its,n,r,e⟩:=I.hok p _ h;exact⟨its,n,r,e,z⟩
theorem Inv.lstUpd {pins:List (ah×Obj)}{σ:St}{H:Hp}{s:ag}{p:ah}{xs ys:List V}{its its':List af}{n n':Nat}{f:Obj->Obj}(I:Inv X pins σ H s) (h:H p=some (.lst xs))
  (ho:s.heap.get? p=some { cls:=.type "list",data:=.seq its.toArray n }) (hf:f { cls:=.type "list",data:=.seq its.toArray n }={ cls:=.type "list",data:=.seq its'.toArray n' }) (r:Ag ys its') (hz:ys.length<=bz) (t:Nat):
  Inv X pins σ (aV H p (.lst ys)) { s with heap:=s.heap.update p f,toks:=t }:=by
 have e:(s.heap.update p f).get? p=some { cls:=.type "list",data:=.seq its'.toArray n' }:=by rw[jm f ho (by rw[hf] <;> rfl),hf]
 refine I.write (x:=p) (e:=p) (by rw[h];trivial) (.inl rfl) (λb u hb q=>(kd _ _ (cy hb)).trans q) ⟨_,e⟩ ?_;exact⟨hz,its',n',r,e⟩
def SY:V->V->V->Hp->(Hp->Prop)->Prop:=λo i v H Q=>∃p xs k j,o=.ref p/\i=.int k/\H p=some (.lst xs)/\gA xs.length k=some j/\Q (aV H p (.lst (xs.set j v)))
theorem S0:E9 X SY:=by
 intro pins s σ H o i v ov iv u Q I ro ri rv h;obtain⟨p,xs,k,j,rfl,rfl,hp,hj,q⟩:=h;cases ro;obtain⟨t,rfl⟩:=ri;obtain⟨its,n,r,ho,hz⟩:=I.lst hp;obtain⟨h1,h2,h3,h4⟩:=zK hj;have hl:=r.length;have hn:=qS;have I':Inv X pins σ (aV H p (.lst (xs.set j v))) { s with heap:=s.heap.update p (mf (·.setIfInBounds j u)) }:=I.lstUpd hp ho (SX its n j u) (r.set rv j) (by rw[rz];exact hz) s.toks
 by_cases h0:0<=k
 ·have hk:k.toNat=j:=by rw[seqIndex_of h0 h4]at h1;exact cw h1
  exact PySem.W.ki_setAt ho h0 (by omega) (by rw[av,<-hl];exact h4) (by rw[hk];exact⟨_,I',q⟩)
 ·have hk:(k+(its.toArray.size:Int)).toNat=j:=by rw[seqIndex_neg (by omega) h3]at h1;rw[av,<-hl];exact cw h1
  exact PySem.W.ki_setBack ho (by omega) (by rw[av,<-hl];exact h3) (by omega) (by rw[hk];exact⟨_,I',q⟩)
theorem S1 (lo hi:Option Int) (n:Nat):(sliceBounds lo hi none n).1=((HT.sIx n 0 lo:Nat):Int)/\(sliceBounds lo hi none n).2.1=((HT.sIx n n hi:Nat):Int)/\(sliceBounds lo hi none n).2.2=1:=by
 refine⟨?_, ?_,rfl⟩
 ·cases lo with
  |none=>simp[sliceBounds,HT.sIx]
  |some i=>
   simp only[sliceBounds,HT.sIx,Option.getD_none,show(1:Int)>0 by decide,if_true]
   by_cases h:i<0
   ·simp only[h,if_true] <;> omega
   ·simp only[h,if_false] <;> omega
 ·cases hi with
  |none=>simp[sliceBounds,HT.sIx]
  |some i=>
   simp only[sliceBounds,HT.sIx,Option.getD_none,show(1:Int)>0 by decide,if_true]
   by_cases h:i<0
   ·simp only[h,if_true] <;> omega
   ·simp only[h,if_false] <;> omega
theorem S3 (its:List af) (lo hi:Option Int):slicePick its.toArray lo hi none=((its.drop (HT.sIx its.length 0 lo)).take (HT.sIx its.length its.length hi - HT.sIx its.length 0 lo)).toArray:=by obtain⟨h1,h2,h3⟩:=S1 lo hi its.toArray.size;unfold slicePick;rw[h1,h2,h3];simp only[sliceRange_one,pick_run,av] <;> rfl
def S4 (K:ao):V->Option Int->Option Int->Hp->VK->Prop:=λx lo hi H Q=>∃a xs,x=.ref a/\Ay K H a xs/\∀p,H p=none->Q (.ref p) (aV H p (.lst (nY xs lo hi)))
theorem S5:SlR X (S4 X.K):=by intro pins s σ H x v vl vu lo hi sl Q I rx hs pl pu h;obtain⟨a,xs,rfl,hx,q⟩:=h;cases rx;obtain⟨its,r,ht,hz⟩:=I.list hx;have hlen:=r.length;refine⟨"list",_,slot_list_getitem.lookup,ht.isList.typeIs, ?_⟩;refine wpAny_getItem_list_slice ht.isList hs pl pu .none (by simp) ?_ (by rw[av] <;> omega);rw[S3,<-hlen];refine⟨.ref s.heap.objs.size,_,I.laid (t':=s.toks) (o:=.lst (nY xs lo hi)) (λb ob q=>ak _ q) (aj _) ?_,rfl,q _ (I.hok.fresh (aj _))⟩;exact⟨di (F0 xs lo hi) hz,_,0,(r.drop (HT.sIx xs.length 0 lo)).take (HT.sIx xs.length xs.length hi - HT.sIx xs.length 0 lo),bc _ rfl⟩
theorem GA:Aj X (.builtin "len") (λxs H Q=>∃p ys,xs=[.ref p]/\(Ay X.K H p ys∨Au X.K H p ys)/\Q (.int ys.length) H):=by
 intro pins s σ H xs us Q I r h;obtain⟨p,ys,rfl,hq,q⟩:=h;obtain⟨u,rfl,rx⟩:=iC r;cases rx;have hn:=qS
 rcases hq with hq|hq
 ·obtain⟨its,r',pl,hz⟩:=I.list hq;have hlen:=r'.length;exact Calls.call_len_list pl.isList (by simp only[av] <;> omega) ⟨.int ys.length,H,I.tok _,⟨s.toks+1,by rw[av,hlen]⟩,q⟩
 ·obtain⟨its,r',pl,hz⟩:=I.tuple hq;have hlen:=r'.length;exact len_tuple pl (by simp only[av] <;> omega) ⟨.int ys.length,H,I.tok _,⟨s.toks+1,by rw[av,hlen]⟩,q⟩
theorem S6:Aj X (.type "list") (λxs H Q=>∃p ys,xs=[.ref p]/\(Ay X.K H p ys∨Au X.K H p ys)/\∀l,H l=none->Q (.ref l) (aV H l (.lst ys))):=by
 intro pins s σ H xs us Q I r h;obtain⟨p,ys,rfl,hq,q⟩:=h;obtain⟨u,rfl,rx⟩:=iC r;cases rx;have fin:∀(its:List af),Ag ys its->ys.length<=bz->∀(h':cx) (c':Nat),(∀b o',s.heap.get? b=some o'->h'.get? b=some o')->
   h'.get? s.heap.objs.size=some { cls:=.type "list",dict:=none,data:=.seq its.toArray c',slots:=#[] }->EP X pins σ Q (.ref s.heap.objs.size) { s with heap:=h' }:=λits r' hz h' c' kp e=>
  ⟨.ref s.heap.objs.size,_,I.laid (t':=s.toks) kp (aj _) (show Al X.prog X.w _ h' _ (.lst ys) from⟨hz,its,c',r',e⟩),rfl,q _ (I.hok.fresh (aj _))⟩
 rcases hq with hq|hq
 ·obtain⟨its,r',pl,hz⟩:=I.list hq;have hlen:=r'.length;obtain⟨o,ho,hc,n,hd⟩:=pl.isList;exact call_list_seq p (.inl rfl) ho hc hd (λh' c' kp e=>fin its r' hz h' c' kp e) (by simp only[av] <;> omega)
 ·obtain⟨its,r',pl,hz⟩:=I.tuple hq;have hlen:=r'.length;obtain⟨o,ho,hc,n,hd⟩:=pl;exact call_list_seq p (.inr rfl) ho hc hd (λh' c' kp e=>fin its r' hz h' c' kp e) (by simp only[av] <;> omega)
theorem S7:Aj X (.type "tuple") (λxs H Q=>∃p ys,xs=[.ref p]/\((Ay X.K H p ys/\∀l,H l=none->Q (.ref l) (aV H l (.tup ys)))∨(Au X.K H p ys/\Q (.ref p) H))):=by
 intro pins s σ H xs us Q I r h;obtain⟨p,ys,rfl,h⟩:=h;obtain⟨u,rfl,rx⟩:=iC r;cases rx
 rcases h with⟨hq,q⟩|⟨hq,q⟩
 ·obtain⟨its,r',pl,hz⟩:=I.list hq;have hlen:=r'.length;refine call_tuple_list pl.isList (λh' kp=>?_) (by simp only[av] <;> omega);have I1:Inv X pins σ H { s with heap:=h' }:=I.kept (t':=s.toks) kp;have I2:Inv X pins σ (aV H h'.objs.size (.tup ys)) { s with heap:=h'.push { cls:=.type "tuple",data:=.seq its.toArray } }:=I1.laid (t':=s.toks) (λb o e=>ak _ e) (aj _) (show Al X.prog X.w _ _ _ (.tup ys) from⟨hz,its,r',A'.new _ _⟩);exact⟨.ref h'.objs.size,_,I2,rfl,q _ (I1.hok.fresh (aj _))⟩
 ·obtain⟨its,r',pl,hz⟩:=I.tuple hq;exact call_tuple_same pl ⟨.ref p,H,I,rfl,q⟩
def vE (K:ao) (T:String) (x:V) (H:Hp):Prop:=match x with
 | .str _=>T = "str"
 | .int _=>T = "int"
 | .ref p=>(T = "list"/\∃xs,Ay K H p xs)∨(T = "tuple"/\∃o,K.lookup p=some o/\o.cls=.type "tuple"/\o.dict=none) ∨
   (T = "dict"/\((∃kvs,H p=some (.dK kvs))∨∃kvs,H p=some (.dT kvs)))∨(T = "set"/\∃S n,H p=some (.set S n))
 |_=>False
theorem S8 {pins:List (ah×Obj)}{σ:St}{H:Hp}{s:ag}{T:String}{x:V}{v:af}(I:Inv X pins σ H s) (r:RelV x v) (ty:vE X.K T x H):
  s.TypeIs v T/\∀a,v=.ref a->∃ob,s.heap.get? a=some ob/\ob.dict=none:=by
 cases x with
 |str z=>
  obtain⟨t,rfl⟩:=r
  cases (show T = "str" from ty)
  exact⟨typeIs_str s z t,λ_ e=>nomatch e⟩
 |int i=>
  obtain⟨t,rfl⟩:=r
  cases (show T = "int" from ty)
  exact⟨typeIs_int s i t,λ_ e=>nomatch e⟩
 |ref p=>
  cases r
  rcases ty with⟨rfl,xs,hq⟩|⟨rfl,o,hk,hc,hd⟩|⟨rfl,hk⟩|⟨rfl,S,n,hk⟩
  ·obtain⟨its,_,pl,_⟩:=I.list hq;refine⟨pl.isList.typeIs,λa e=>?_⟩;cases e;obtain⟨o,n,e,c,hd,_⟩:=pl;exact⟨o,e,hd⟩
  ·refine⟨⟨o,I.kIn p o hk,hc⟩,λa e=>?_⟩;cases e;exact⟨o,I.kIn _ o hk,hd⟩
  ·have z:∃o,s.heap.get? p=some o/\o.ExactDict:=by
    rcases hk with⟨kvs,hk⟩|⟨kvs,hk⟩
    ·obtain⟨_,_,_,_,o,_,_,e,ex,_⟩:=I.hok p _ hk;exact⟨o,e,ex⟩
    ·obtain⟨_,_,_,_,o,_,_,e,ex,_⟩:=I.hok p _ hk;exact⟨o,e,ex⟩
   obtain⟨o,e,ex⟩:=z;refine⟨⟨o,e,ex.1⟩,λa e2=>?_⟩;cases e2;exact⟨o,e,ex.2.1⟩
  ·obtain⟨o,_,_,_,e,ex,_⟩:=I.hok p _ hk;refine⟨⟨o,e,ex.1⟩,λa e2=>?_⟩;cases e2;exact⟨o,e,ex.2.1⟩
 |_=>exact lx ty
def S9 (K:ao) (T:String) (r:V->List V->Hp->VK->Prop) (to:TE) (t:TA):TE:=λσ H Q=>to σ H λx H1=>vE K T x H1/\t σ H1 λxs H2=>r x xs H2 Q
variable{o e:br}{es:List br}{to:TE}{t:TA}{name:Str}{apos cpos:Pos}{T id:String}{r:V->List V->Hp->VK->Prop}
theorem zP (pa:PlainAttrs T) (slot:Slot T name id) (hty:typeOf (.builtin id)=pure (.type "method_descriptor")) (hm:zN X id r) (ho:PE X o to) (ha:PA X (e::es) t)
  (hbase:attributeBase o name X.env (eval o X.env)=eval o X.env:=by rfl)
  (hfew:((backTo cpos (ar (e::es) X.env)).all (λx=>!x.1)&&(backToKw cpos (keywordEach [] X.env)).all (λx=>x.1.isSome)
   && decide ((e::es).length+([]:List Keyword).length+(if([]:List Keyword).isEmpty then 0 else 1)<30))=true:=by rfl)
  (hline:(apos.endLine==cpos.line)=true:=by rfl) (hs:ar (e::es) X.env=(false,eval e X.env)::ar es X.env:=by rfl) (hplain:(backTo cpos (ar es X.env)).any (·.1)=false:=by rfl):
  PE X (.Call (.Attribute o name apos) (e::es) [] cpos) (S9 X.K T r to t):=by
 intro pins s σ H Q I h;refine wpAny_Call_method_late hbase hfew hline rfl (bD (ho pins s σ H _ I h) λv s1 ⟨x,H1,I1,r1,ty,q1⟩=>?_);obtain⟨h1,h2⟩:=S8 I1 r1 ty;refine⟨T,id,pa,slot,hty,h1,h2, ?_⟩;have hA:=ha cpos pins s1 σ H1 _ I1 q1;rw[hs]at hA ⊢;refine yb (by show(false||(backTo cpos (ar es X.env)).any (·.1))=false;rw[hplain] <;> rfl) (sk ?_);exact bD hA λus s2 ⟨vs,H2,I2,r2,q2⟩=>hm pins s2 σ H2 x vs v us Q I2 r1 r2 q2
end
def zQ (X:Cx) (id:String) (r:V->List V->Hp->VK->Prop):Prop:=
 ∀(pins:List (ah×Obj)) (s:ag) (σ:St) (H:Hp) (x:V) (xs:List V) (v:af) (us:List af) (Q:VK),Inv X pins σ H s->RelV x v->Ag xs us->r x xs H Q->
  wpAny (model X.prog X.w) X.A (call (.builtin id) (v::us)) (EP X pins σ Q) X.xe s
theorem Ag.one:∀{x:V}{us:List af},Ag [x] us->∃u,us=[u]/\RelV x u
 |_,_,.cons r .nil=>⟨_,rfl,r⟩
theorem Ag.eraseIdx:∀{xs:List V}{us:List af}(i:Nat),Ag xs us->Ag (xs.eraseIdx i) (us.eraseIdx i)
 |_,_,_,.nil=>.nil
 |_,_,0,.cons _ t=>t
 |_,_,i+1,.cons r t=>.cons r (Ag.eraseIdx i t)
theorem GB {α:Type}:∀(l:List α) (i:Nat),(l.eraseIdx i).length<=l.length
 | [],_=>aj _
 |_::_,0=>we _
 |_::r,i+1=>Nat.succ_le_succ (GB r i)
section
variable{X:Cx}{pins:List (ah×Obj)}{σ:St}{H:Hp}{s:ag}{l b:ah}{xs ys zs:List V}
theorem Inv.lset {its its':List af}{n:Nat}{f:Array af->Array af}{t':Nat}(I:Inv X pins σ H s) (hH:H l=some (.lst xs))
  (e:s.heap.get? l=some { cls:=.type "list",data:=.seq its.toArray n }) (hf:f its.toArray=its'.toArray) (hv:Ag ys its') (hz:ys.length<=bz):
  Inv X pins σ (aV H l (.lst ys)) { s with heap:=s.heap.update l (mf f),toks:=t' }:=by
 have q:=ym e f;rw[hf]at q;refine I.write (x:=l) (e:=l) (by rw[hH];exact trivial) (.inl rfl) (λb' u hb hu=>(kd s.heap (mf f) (cy hb)).trans hu) ⟨_,q⟩ ?_;exact⟨hz,its',_,hv,q⟩
theorem Inv.lnew {its:List af}{t':Nat}(I:Inv X pins σ H s) (hv:Ag ys its) (hz:ys.length<=bz):
  Inv X pins σ (aV H s.heap.objs.size (.lst ys)) { s with heap:=s.heap.push { cls:=.type "list",data:=.seq its.toArray },toks:=t' }:=
 I.laid (λ_ _ q=>ak _ q) (aj _) ⟨hz,its,0,hv,bc _ rfl⟩
theorem Inv.fresh (I:Inv X pins σ H s):H s.heap.objs.size=none:=I.hok.fresh (aj _)
theorem Inv.lstM (I:Inv X pins σ H s) (hH:H l=some (.lst xs)):xs.length<=bz/\∃(its:List af) (n:Nat),Ag xs its/\xs.length=its.length/\s.heap.get? l=some { cls:=.type "list",data:=.seq its.toArray n }:=by obtain⟨z,its,n,r,e⟩:=I.hok l _ hH;exact⟨z,its,n,r,r.length,e⟩
theorem TB {n:Nat}(h:n<=bz):nv n=false:=by unfold nv;exact decide_eq_false (by omega)
end
section
variable{X:Cx}
def TF:V->List V->Hp->VK->Prop:=λx vs H Q=>∃l xs y,x=.ref l/\vs=[y]/\H l=some (.lst xs)/\xs.length<bz/\Q .non (aV H l (.lst (xs++[y])))
theorem TH:zQ X "list.append" TF:=by intro pins s σ H x vs v us Q I rx rv h;obtain⟨l,xs,y,rfl,rfl,hH,hz,q⟩:=h;cases rx;obtain⟨u,rfl,ru⟩:=rv.one;obtain⟨z,its,n,r,hl,e⟩:=I.lstM hH;refine yn F.slot_list_append ⟨_,e,rfl⟩ F.entry_list_append (F.args_list_append_2 _ _) (PySem.list_append l its.toArray n u (by rw[av];omega)) ⟨e, ?_⟩;refine⟨.non,_,I.lset (its':=its++[u]) hH e (by simp) (r.append (.cons ru .nil)) ?_,rfl,q⟩;rw[bx,yo];omega
def TJ:V->List V->Hp->VK->Prop:=λx vs H Q=>∃l b xs zs,x=.ref l/\vs=[.ref b]/\H l=some (.lst xs)/\H b=some (.lst zs)/\xs.length+zs.length<=bz/\Q .non (aV H l (.lst (xs++zs)))
theorem TK:zQ X "list.extend" TJ:=by
 intro pins s σ H x vs v us Q I rx rv h;obtain⟨l,b,xs,zs,rfl,rfl,hH,hB,hz,q⟩:=h;cases rx;obtain⟨u,rfl,ru⟩:=rv.one;cases ru;obtain⟨z,its,n,r,hl,e⟩:=I.lstM hH;obtain⟨z2,Bn,n2,r2,hl2,e2⟩:=I.lstM hB;have Br:its.toArray.size+Bn.toArray.size<=bz:=by rw[av,av];omega
 have hlong:¬ (!its.toArray.isEmpty&&nv (its.toArray.size+Bn.toArray.size))=true:=by rw[TB Br,pd];exact ij
 refine yn F.slot_list_extend ⟨_,e,rfl⟩ F.entry_list_extend (F.args_list_extend_2 _ _)
  (AutoSeq1.list_extend_list_list_0 l its.toArray n b Bn.toArray n2 hlong (by rw[av];omega) (by omega)) ⟨e,e2, ?_⟩
 refine⟨.non,_,I.lset (its':=its++Bn) hH e (by simp) (r.append r2) ?_,rfl,q⟩;rw[bx];omega
def TL:V->List V->Hp->VK->Prop:=λx vs H Q=>∃l xs i k y,x=.ref l/\vs=[.int i]/\H l=some (.lst xs)/\-(2 ^ 63)<=i/\i<2 ^ 63/\seqIndex? i xs.length=some k/\xs[k]?=some y/\Q y (aV H l (.lst (xs.eraseIdx k)))
theorem TM:zQ X "list.pop" TL:=by
 intro pins s σ H x vs v us Q I rx rv h;obtain⟨l,xs,i,k,y,rfl,rfl,hH,h1,h2,hk,hy,q⟩:=h;cases rx;obtain⟨u,rfl,ru⟩:=rv.one;obtain⟨t,rfl⟩:=ru;obtain⟨z,its,n,r,hl,e⟩:=I.lstM hH;obtain⟨w,hw,rw'⟩:=r.get hy;refine yn F.slot_list_pop ⟨_,e,rfl⟩ F.entry_list_pop (F.args_list_pop_2 _ _)
  (MeetsSeq.list_pop_at l its.toArray n i t k w (fitsIndex_both h1 h2) (by rw[av,<-hl];exact hk) (by rw[<-nc];exact hw) (by rw[av];omega)) ⟨e, ?_⟩
 refine⟨y,_,I.lset (its':=its.eraseIdx k) hH e ?_ (r.eraseIdx k) ?_,rw',q⟩
 ·show its.toArray.eraseIdxIfInBounds k=(its.eraseIdx k).toArray;rw[List.eraseIdxIfInBounds_toArray]
 ·have:=GB xs k;omega
def GC:R2:=λx y H Q=>∃l b xs zs,x=.ref l/\y=.ref b/\H l=some (.lst xs)/\H b=some (.lst zs)/\xs.length+zs.length<=bz/\∀p,H p=none->Q (.ref p) (aV H p (.lst (xs++zs)))
theorem op_cat:Ba X (binaryOp .Add) GC:=by
 intro pins s σ H x y v u Q I rx ry h;obtain⟨l,b,xs,zs,rfl,rfl,hH,hB,hz,q⟩:=h;cases rx;cases ry;obtain⟨z,its,n,r,hl,e⟩:=I.lstM hH;obtain⟨z2,Bn,n2,r2,hl2,e2⟩:=I.lstM hB;refine PySem.P.add_list e e2 ?_ (by rw[av,av];omega);have ea:its.toArray++Bn.toArray=(its++Bn).toArray:=by simp
 rw[ea];exact⟨.ref _,_,I.lnew (t':=s.toks) (r.append r2) (by rw[bx];omega),rfl,q _ I.fresh⟩
end
section
variable{prog:bf}{w:cf}{A:cg}{E:af->ag->Prop}{s:ag}
set_option maxRecDepth 100000 in
end
section
variable{X:Cx}
end
end L2
namespace Att
open PySem PySem.W PySem.Calls PyProof.Rows
theorem TN {P:Params}{h:cx}:∀(ns:zr) (vs:List af),WellAll P h vs (ns.map WData.int)->ka vs ns:=by
 intro ns
 induction ns with
 |nil=>intro vs w;rw[List.map_nil]at w;cases w;exact .nil
 |cons n ns ih=>
  intro vs w;rw[df]at w
  cases w with
  |cons a b=>cases a;exact .cons _ _ (ih _ b)
theorem TQ {l:OpenLaw}{n:Nat}(hn:l.most=some n) {P:Params}{h:cx}{args:List WData}{vals:List af}
  (hpre:l.row.toRowW.claim.pre args=true) (hwl:WellAll P h vals args):
  ∃a vs ns,vals=[gh a]/\args=[WData.list (ns.map WData.int)]/\h.get? a=some { cls:=.type "list",data:=.seq vs.toArray }/\ka vs ns/\ns.length<=n:=by
 have hsh:WShape.hasAll [] args [.list .int]=true:=(pre_splitW hpre).1;have hc:l.pre.holds [] { args:=args }=true:=(pre_splitW hpre).2;obtain⟨d,r,rfl,h1,h2⟩:=hasAllW_cons hsh;obtain rfl:=hasAllW_nil h2;obtain⟨xs,rfl,h3⟩:=hasW_list h1;obtain⟨ns,rfl⟩:=items_int h3;have hlen:ns.length<=n:=by
  unfold OpenLaw.pre at hc;have h4:(WTm.not (.lt (.lit (.int (n:Int))) (.len (.arg 0)))).holds [] { args:=[.list (ns.map .int)] }=true:=by have h4:=(holds_andW hc).1;rw[hn]at h4;exact h4
  have h5:=condW_of h4 (w_not (w_lt w_lit (w_len_list (w_arg rfl))));rw[aw]at h5;refine vq λq=>?_;have q':(n:Int)<((ns.length:Nat):Int):=by omega
  first
   |(rw[decide_eq_true q']at h5;exact absurd h5 (by decide))
   |(simp at h5;omega)
 cases hwl with
 |cons w1 w2=>
  cases w2
  cases w1 with
  |list ho Cd=>exact⟨_,_,ns,rfl,rfl,ho,TN ns _ Cd,hlen⟩
theorem TR (l:OpenLaw) (args:List WData):l.row.toRowW.claim.post args (.bool true) args=true:=
 postW_of (r:=l.row.toRowW) (X:=(true==true))
  (show WShape.has [] (.bool true) .bool=true by first|rfl|decide|simp[WShape.has,WShape.arms,WShape.armsAll])
  (show(WTm.eq .res (.lit (.bool true))).value [] { args:=args,res:=some (.bool true),after:=args }=some (.bool (true==true)) from w_eq_bool (w_res rfl) w_lit) rfl
theorem attach_call {l:OpenLaw}{n:Nat}{q:bf}{bK:zu}{XP:(Str->Option af)->cx->Prop}{YP:cf->cx->Prop}{d:DefRec}
  (hn:l.most=some n) (hdf:d.params.defaults=[])
  (call:∀(w:cf) (s₀ s₁:ag) (mg mb:Str->Option af) (fa:ah) (o:Obj) (pm cd doc:af) (a:ah) (vs:List af) (ns:zr),
   Ground q bK [] XP w s₀ mg mb s₁.heap->YP w s₁.heap->
   s₁.heap.get? fa=some o->o.data=.func (docDef d.name d.params d.body d.scope pm cd doc)->s₁.heap.CodeRec cd d.name->mg d.name=some (.ref fa)->
   s₁.heap.get? a=some { cls:=.type "list",data:=.seq vs.toArray }->ka vs ns->ns.length<=n->s₁.gens=#[]->
   codeAny (model l.prog w) callerA (.call (.ref fa) ⟨[.ref a],[]⟩) (λr s'=>r=.ok (.ret (.bool true))/\OldK s₁.heap s'.heap/\s'.os=s₁.os/\qw s'.gens) s₁):
  WalkO q bK XP YP l.row.toRowW d [] (λf vs=>zi f vs):=by
 intro w s₀ s₁ mg mb G Y fa o pm cd doc dV kV ho hd hcd hD hmg hg args vals as hpre hlay hrd hwl hlo;obtain rfl:dV=.none:=Dflts.none hD hdf;obtain rfl:kV=.none:=Dflts.noKw hD;obtain⟨a,vs,ns,rfl,rfl,hobj,hints,hlen⟩:=TQ hn hpre hwl;refine enter_call (tj (call w s₀ s₁ mg mb fa o pm cd doc a vs ns G Y ho (fd_plain hd) hcd hmg hobj hints hlen hg) λr s' hq=>?_);obtain⟨rfl,h2,h3,h4⟩:=hq;exact⟨.inl ⟨.bool true,.bool true,[],rfl,λ_=>rfl,.bool true,TR l _,λ_=>⟨nt,λ_ hm=>(nomatch hm)⟩⟩,h2,h3,h4⟩
section
variable{prog:bf}{w:cf}{A:cg}{E:af->ag->Prop}{s:ag}{K:Frag}
end
end Att
namespace L2
open PySem PySem.Spec PyProof.Rows
theorem sP:∀{vs:List af}{ns:zr},ka vs ns->Ag (ns.map V.int) vs
 |_,_,.nil=>.nil
 |_,_,.cons n t h=>.cons ⟨t,rfl⟩ (sP h)
def nZ (s:gf):oi:=match s with
 | .FunctionDef _ a _ _ _ _ _ _ _ _=>a
 |_=>{ posonlyargs:=[],args:=[],vararg:=none,kwonlyargs:=[],kw_defaults:=[],kwarg:=none,defaults:=[] }
def lC (s:gf):List gf:=match s with
 | .FunctionDef _ _ b _ _ _ _ _ _ _=>b
 |_=>[]
def bF (s:gf):gu:=match s with
 | .FunctionDef _ _ _ _ _ _ sc _ _ _=>sc
 |_=>{ kind:=.function,names:=[],isGenerator:=false,isCoroutine:=false }
abbrev E0:XK:=λ_ _ _=>False
structure Bb (K:ao) (x qual:Str) (st:gf) (f:ah) (fd:bh):Prop where
 ex:∃(oc:af) (od:Option ah) (kV doc pm:af) (an:Option ah) (cdv ct:af) (osl:Array (Option af)),
  fd=nu x qual (nZ st) (lC st) (bF st) .none kV doc pm an cdv ct/\K.lookup f=some ⟨oc,od,.func fd,osl⟩/\vp K cdv qual=true
 kp:oj K (.ref f)=true
section
variable{P:bf}{w:cf}{K:ao}{mg:Str->Option af}{base:cx}
theorem Bb.binds {x qual:Str}{st:gf}{f:ah}{fd:bh}{ps:zu}(F:Bb K x qual st f fd)
  (h:∀(kV doc pm:af) (an:Option ah) (cdv ct:af) (us:List af),us.length=ps.length->bindArgs (nu x qual (nZ st) (lC st) (bF st) .none kV doc pm an cdv ct) ⟨us,[]⟩=pure (ps.zip us)):Binds K fd ps []:=by
 obtain⟨oc,od,kV,doc,pm,an,cdv,ct,osl,rfl,lk,hcd⟩:=F.ex;exact .all (h kV doc pm an cdv ct)
theorem GD {x qual:Str}{st:gf}{f:ah}{oc:af}{od an:Option ah}{osl:Array (Option af)}{kV doc pm cdv ct:af}(l:K.lookup f=some ⟨oc,od,.func (nu x qual (nZ st) (lC st) (bF st) .none kV doc pm an cdv ct),osl⟩)
  (c:vp K cdv qual=true) (k:oj K (.ref f)=true):Bb K x qual st f (nu x qual (nZ st) (lC st) (bF st) .none kV doc pm an cdv ct):=⟨⟨oc,od,kV,doc,pm,an,cdv,ct,osl,rfl,l,c⟩,k⟩
end
section
variable{X:Cx}
end
theorem GF {A B:Prop}(h:B):if false=true then A else B:=by rw[if_neg ij];exact h
theorem GG {A B:Prop}(h:A):if true=true then A else B:=by rw[if_pos rfl];exact h
def Bw (H H':Hp):Prop:=∀b o,H b=some o->H' b=some o
theorem Bw.refl (H:Hp):Bw H H:=λ_ _ h=>h
theorem vF {β:Type}(x y:Str) (c:β) (acc:List (Str×β)):((y,c)::acc).lookup x=if x=y then some c else acc.lookup x:=by
 rw[ig]
 by_cases e:x=y
 ·have hb:(x==y)=true:=beq_iff_eq.mpr e;rw[hb,if_pos e]
 ·have hb:(x==y)=false:=beq_eq_false_iff_ne.mpr e;rw[hb,if_neg e]
def fW (env:Env):List (Str×kq)->List (Str×ah)->List (Str×ah)
 | [],acc=>acc
 |(x,k)::r,acc=>fW env r (if k==.free then(x,(env.cells.lookup x).getD 0)::acc else acc)
theorem zR {env:Env}:∀(l:List (Str×kq)) (acc:List (Str×ah)),(∀x,(x,de)∈l->∃c,env.cells.lookup x=some c)->
  (forIn l acc (λ(x:Str×kq) (r:List (Str×ah))=>match x with
   |(name,kind)=>if(kind==de)=true then(do let a <-cellOf env name;pure (qh ((name,a)::r)))else(pure (qh r):Sem (ForInStep (List (Str×ah))))))=(pure (fW env l acc):Sem (List (Str×ah)))
 | [],acc,_=>rfl
 |(x,k)::l,acc,h=>by
  rw[oa];dsimp only
  cases hk:k==de with
  |true=>
   have e:k=.free:=by cases k <;> first|rfl|cases hk
   subst e;obtain⟨c,hc⟩:=h x (ax ..);rw[if_pos rfl,show fW env ((x,de)::l) acc=fW env l ((x,c)::acc)by rw[fW,if_pos hk,hc];rfl,<-zR l ((x,c)::acc) λy hy=>h y (aq _ hy)];unfold cellOf;rw[hc];rfl
  |false=>rw[if_neg (by simp),show fW env ((x,k)::l) acc=fW env l acc by rw[fW,hk];rfl,<-zR l acc λy hy=>h y (aq _ hy)];rfl
theorem GH {env:Env}{scope:gu}(h:∀x,(x,de)∈scope.names->∃c,env.cells.lookup x=some c):closureFor scope env=pure (fW env scope.names []):=by unfold closureFor;have:=zR (env:=env) scope.names [] h;show(forIn scope.names [] _ >>= λcs=>pure cs)=_;exact(congrArg (λ(m:Sem (List (Str×ah)))=>m >>= λcs=>pure cs) this)
theorem vG {env:Env}{x:Str}:∀(l:List (Str×kq)) (acc:List (Str×ah)),((x,de)∈l∨acc.lookup x=some ((env.cells.lookup x).getD 0))->(fW env l acc).lookup x=some ((env.cells.lookup x).getD 0)
 | [],acc,h=>h.elim (λz=>nomatch z) id
 |(y,k)::l,acc,h=>by
  rw[fW]
  cases hk:k==de with
  |true=>
   refine vG l _ ?_;rw[if_pos rfl]
   by_cases e:x=y
   ·subst e;right;rw[vF,if_pos rfl]
   ·rcases h with h|h
    ·rcases az.mp h with h|h
     ·cases h;exact absurd rfl e
     ·exact .inl h
    ·right;rw[vF,if_neg e];exact h
  |false=>
   refine vG l _ ?_
   rcases h with h|h
   ·rcases az.mp h with h|h
    ·cases h;simp at hk
    ·exact .inl h
   ·exact .inr h
structure BlkCells (h h':cx) (names:List (Str×kq)) (acc cs:List (Str×ah)):Prop where
 cases:∀x c,cs.lookup x=some c->acc.lookup x=some c∨(h.objs.size<=c/\h'.IsCell c none/\(x,dh)∈names)
 own:∀x,(x,dh)∈names->∃c,cs.lookup x=some c
 old:∀x,(x,dh)∉names->cs.lookup x=acc.lookup x
 inj:(∀x y c,acc.lookup x=some c->acc.lookup y=some c->x=y)->(∀x c,acc.lookup x=some c->c<h.objs.size)->∀x y c,cs.lookup x=some c->cs.lookup y=some c->x=y
theorem sQ:∀(names:List (Str×kq)) (h:cx) (acc:List (Str×ah)),BlkCells h (pushCells h names) names acc (cellsFrom h.objs.size names acc)
 | [],h,acc=>{ cases:=λ_ _ e=>.inl e,own:=λ_ z=>(nomatch z),old:=λ_ _=>rfl,inj:=λa _=>a }
 |(y,k)::r,h,acc=>by
  cases hk:k==dh with
  |true=>
   have ek:k=.cell:=by cases k <;> first|rfl|cases hk
   subst ek;have ih:=sQ r (h.push { cls:=.type "cell",data:=.cell none }) ((y,h.objs.size)::acc);have e1:pushCells h ((y,dh)::r)=pushCells (h.push { cls:=.type "cell",data:=.cell none }) r:=rfl;have e2:cellsFrom h.objs.size ((y,dh)::r) acc=cellsFrom (h.push { cls:=.type "cell",data:=.cell none }).objs.size r ((y,h.objs.size)::acc):=by rw[cz];rfl
   rw[e1,e2];have look:∀x,((y,h.objs.size)::acc).lookup x=if x=y then some h.objs.size else acc.lookup x:=λx=>vF ..
   refine⟨λx c e=>?_,λx hx=>?_,λx hx=>?_,λh1 h2 x z c ex ez=>?_⟩
   ·rcases ih.cases x c e with q|⟨q1,q2,q3⟩
    ·rw[look]at q
     by_cases exy:x=y
     ·rw[if_pos exy]at q;cases q;refine .inr ⟨aj _,⟨_,pq r _ _ _ (bc _ rfl),rfl⟩,by rw[exy];exact ax ..⟩
     ·rw[if_neg exy]at q;exact .inl q
    ·rw[cz]at q1;exact .inr ⟨Nat.le_of_succ_le q1,q2,aq _ q3⟩
   ·by_cases hr:(x,dh)∈r
    ·exact ih.own x hr
    ·rw[ih.old x hr,look]
     rcases az.mp hx with z|z
     ·cases z;exact⟨_,if_pos rfl⟩
     ·exact absurd z hr
   ·rw[ih.old x λz=>hx (aq _ z),look,if_neg]
    rintro rfl
    exact hx (ax ..)
   ·refine ih.inj ?_ ?_ x z c ex ez
    ·intro a b c ea eb;rw[look]at ea eb
     by_cases qa:a=y
     ·rw[if_pos qa]at ea;cases ea
      by_cases qb:b=y
      ·exact qa.trans qb.symm
      ·rw[if_neg qb]at eb;exact absurd (h2 b _ eb) (gn _)
     ·rw[if_neg qa]at ea
      by_cases qb:b=y
      ·rw[if_pos qb]at eb;cases eb;exact absurd (h2 a _ ea) (gn _)
      ·rw[if_neg qb]at eb;exact h1 a b c ea eb
    ·intro a c ea;rw[cz];rw[look]at ea
     by_cases qa:a=y
     ·rw[if_pos qa]at ea;cases ea;exact jw _
     ·rw[if_neg qa]at ea;exact gz (h2 a c ea)
  |false=>
   have ih:=sQ r h acc;have e1:pushCells h ((y,k)::r)=pushCells h r:=by rw[pushCells,hk];rfl
   have e2:cellsFrom h.objs.size ((y,k)::r) acc=cellsFrom h.objs.size r acc:=by rw[cellsFrom,hk];rfl
   rw[e1,e2];have nk:∀x,(x,dh)∈(y,k)::r->(x,dh)∈r:=λx z=>by
    rcases az.mp z with z|z
    ·cases z;simp at hk
    ·exact z
   exact⟨λx c e=>(ih.cases x c e).imp id λ⟨a,b,c⟩=>⟨a,b,aq _ c⟩,λx hx=>ih.own x (nk x hx),λx hx=>ih.old x λz=>hx (aq _ z),ih.inj⟩
def GI (scope:gu) (env:Env) (L:ah):Env:={ scope:=relabel scope env,locals:=L,globals:=env.globals,cells:=cellsFrom (L+1) scope.names (fW env scope.names []),qual:=env.qual,func:=none,code:=env.code,frame:=env.frame,builtins:=env.builtins }
theorem TU {M:wk}{A:cg}{E:af->ag->Prop}{s:ag}{scope:gu}{env:Env}{cl:List (Str×ah)}{qual:Str}{g:ah}{Q:Env->ag->Prop}
  (h:Q { scope:=scope,locals:=s.heap.objs.size,globals:=g,cells:=cellsFrom (s.heap.objs.size+1) scope.names cl,qual:=qual,func:=none,code:=env.code,frame:=env.frame,builtins:=env.builtins }
   { s with heap:=pushCells (s.heap.push { cls:=.type "dict",data:=.dict #[] }) scope.names }):
  wpAny M A (newFunctionEnv scope g cl [] qual none .none (some env)) Q E s:=by
 simp only[newFunctionEnv,Option.isSome_some,if_true];refine ae (wpAny_alloc ?_);refine ae (wpAny_layCells _ (λname kind cells=>by cases hkc:kind==dh <;> simp[hkc]) _ _ _ _ ?_);rw[show({ s with heap:=s.heap.push { cls:=.type "dict",data:=.dict #[] } }:ag).heap.objs.size=s.heap.objs.size+1 from cz ..];exact ae (ai (ai h))
def cY (X:Cx) (scope:gu) (N:zu) (s:ag) (H:Hp) (ex:List ah):Cx:={ X with N:=N,s₀:=s,H₀:=H,env:=GI scope X.env s.heap.objs.size,outer:=X.stack,stack:=X.stack,ex:=ex,fn:=λx=>scope.names.lookup x==some .cell,xe:=λ_ _=>False }
def qT (cap:List (Option Nat)) (σ:St):St:=cap.map λo=>match o with|some j=>(σ[j]?).getD none|none=>none
structure Bh (X:Cx) (scope:gu) (N:zu) (cap:List (Option Nat)):Prop where
 kind:scope.kind=.function
 nd:∀x∈scope.names,x.2=.local->scope.names.lookup x.1=some .local
 len:cap.length=N.length
 free:∀x,(x,de)∈scope.names->X.env.kindOf x=some .cell∨X.env.kindOf x=some .free
 apart:∀x,(x,de)∈scope.names->(x,dh)∉scope.names
 cap:∀(i j:Nat) (x:Str),cap[i]?=some (some j)->N[i]?=some x->X.N[j]?=some x/\(x,de)∈scope.names/\(relabel scope X.env).names.lookup x≠some .local
theorem zS {scope:gu}{env:Env}{x:Str}:∀{l:List (Str×kq)}{k:kq},(l.map λ(n,k)=>if(k==de&&env.scope.kind==.function&&env.kindOf n==some .cell)then(n,dh)else(n,k)).lookup x=some k->
  (x,k)∈l∨(k=.cell/\(x,de)∈l)
 | [],_,h=>by simp at h
 |(n,q)::r,k,h=>by
  have ih:=@zS scope env x r k;rw[df]at h
  by_cases hc:(q==de&&env.scope.kind==.function&&env.kindOf n==some .cell)=true
  ·have hq:q=.free:=by
    have:(q==de)=true:=by
     cases z:q==de with
     |true=>rfl
     |false=>rw[z]at hc;simp at hc
    cases q <;> first|rfl|cases this
   dsimp only at h;rw[if_pos hc,ig]at h
   cases e:x==n with
   |true=>rw[e]at h;have h':dh=k:=cw h;subst h';have ex:=beq_iff_eq.mp e;subst ex;subst hq;exact .inr ⟨rfl,ax ..⟩
   |false=>rw[e]at h;exact(ih h).imp (aq _) λ⟨a,b⟩=>⟨a,aq _ b⟩
  ·dsimp only at h;rw[if_neg hc,ig]at h
   cases e:x==n with
   |true=>rw[e]at h;have h':q=k:=cw h;subst h';have ex:=beq_iff_eq.mp e;subst ex;exact .inl (ax ..)
   |false=>rw[e]at h;exact(ih h).imp (aq _) λ⟨a,b⟩=>⟨a,aq _ b⟩
theorem zT {env:Env}{x:Str}{c:ah}:∀(l:List (Str×kq)) (acc:List (Str×ah)),(fW env l acc).lookup x=some c->acc.lookup x=some c∨((x,de)∈l/\c=(env.cells.lookup x).getD 0)
 | [],acc,h=>.inl h
 |(y,k)::l,acc,h=>by
  rw[fW]at h
  cases hk:k==de with
  |true=>
   have ek:k=.free:=by cases k <;> first|rfl|cases hk
   subst ek;rw[if_pos hk]at h
   rcases zT l _ h with q|⟨q1,q2⟩
   ·rw[vF]at q
    by_cases e:x=y
    ·rw[if_pos e]at q;subst e;exact .inr ⟨ax ..,(cw q).symm⟩
    ·rw[if_neg e]at q;exact .inl q
   ·exact .inr ⟨aq _ q1,q2⟩
  |false=>rw[if_neg (by rw[hk];exact ij)]at h;exact(zT l _ h).imp id λ⟨a,b⟩=>⟨aq _ a,b⟩
section
variable{X:Cx}{pins:List (ah×Obj)}{σ:St}{H:Hp}{s:ag}{scope:gu}{N:zu}{cap:List (Option Nat)}{ex:List ah}
theorem vH (I:Inv X pins σ H s) (C:Bh X scope N cap) {x:Str}{c:ah}(e:(fW X.env scope.names []).lookup x=some c):(x,de)∈scope.names/\X.env.cells.lookup x=some c:=by
 rcases zT _ _ e with q|⟨q1,q2⟩
 ·cases q
 ·obtain⟨c',h'⟩:=I.ok.has x (C.free x q1);rw[h']at q2;subst q2;exact⟨q1,h'⟩
theorem vI (I:Inv X pins σ H s) (C:Bh X scope N cap) {x:Str}{c:ah}(e:(GI scope X.env s.heap.objs.size).cells.lookup x=some c):
  (X.env.cells.lookup x=some c/\(x,de)∈scope.names)∨(s.heap.objs.size<c/\(pushCells (s.heap.push { cls:=.type "dict",data:=.dict #[] }) scope.names).IsCell c none/\(x,dh)∈scope.names):=by
 have B:=sQ scope.names (s.heap.push { cls:=.type "dict",data:=.dict #[] }) (fW X.env scope.names []);rw[cz]at B
 rcases B.cases x c e with q|⟨q1,q2,q3⟩
 ·obtain⟨a,b⟩:=vH I C q;exact .inl ⟨b,a⟩
 ·rw[cz]at q1;exact .inr ⟨q1,q2,q3⟩
theorem GJ (I:Inv X pins σ H s) (C:Bh X scope N cap) (hex:∀b∈ex,dJ X pins H b/\b<s.heap.objs.size):(cY X scope N s H ex).Ok:=by
 have B:=sQ scope.names (s.heap.push { cls:=.type "dict",data:=.dict #[] }) (fW X.env scope.names []);rw[cz]at B;have kf:∀x,(x,de)∈scope.names->∃c,X.env.cells.lookup x=some c:=λx hx=>I.ok.has x (C.free x hx);refine⟨I.ok.mod,C.kind,I.ok.glob,I.ok.blt,aj _, ?_, ?_, ?_,I.ok.hd,I.ok.frames,.inl rfl, ?_,I.bs,di I.ok.bsz I.sz, ?_, ?_,I.stack,I.stkFree⟩
 ·refine B.inj (λx y c e1 e2=>?_) λx c e=>?_
  ·exact I.ok.inj x y c (vH I C e1).2 (vH I C e2).2
  ·obtain⟨v,q⟩:=I.cell x c (vH I C e).2;rw[cz];exact gz q.lt
 ·intro x hx;have hx':(relabel scope X.env).names.lookup x=some .cell∨(relabel scope X.env).names.lookup x=some .free:=hx;have mem:(x,dh)∈scope.names∨(x,de)∈scope.names:=by
   rcases hx' with h|h
   ·rcases zS (scope:=scope) h with q|⟨_,q⟩
    ·exact .inl q
    ·exact .inr q
   ·rcases zS (scope:=scope) h with q|⟨z,q⟩
    ·exact .inr q
    ·exact .inr q
  by_cases hc:(x,dh)∈scope.names
  ·exact B.own x hc
  ·rcases mem with h|h
   ·exact absurd h hc
   ·exact⟨_,(B.old x hc).trans (vG _ _ (.inl h))⟩
 ·intro x c hf e;have hf':(scope.names.lookup x==some .cell)=true:=hf;have hm:(x,dh)∈scope.names:=jg (eq_of_beq hf')
  rcases vI I C e with⟨_,q⟩|⟨q,_⟩
  ·exact absurd hm (C.apart x q)
  ·exact gy q
 ·intro b hb;obtain⟨⟨f0,f1,f2,f3,f4,f5⟩,hlt⟩:=hex b hb;refine⟨bg hlt,λx c e z=>?_⟩
  rcases vI I C e with⟨q,_⟩|⟨q,_⟩
  ·exact f4 x c q z
  ·subst z;exact gn _ (Nat.lt_trans q hlt)
 ·intro b o e hb;obtain⟨⟨f0,f1,f2,f3,f4,f5⟩,hlt⟩:=hex b hb
  rcases f3 with q|q
  ·exact I.ok.noex b o e q
  ·exact gn _ (ay (au e) (di I.ok.bsz q))
 ·intro b hb z;obtain⟨⟨f0,f1,f2,f3,f4,f5⟩,hlt⟩:=hex b hb
  rcases az.mp (I.stkSub b z)with q|q
  ·exact f1 q
  ·exact f2 q
theorem TV (I:Inv X pins σ H s) (C:Bh X scope N cap) (hex:∀b∈ex,dJ X pins H b/\b<s.heap.objs.size):
  Inv (cY X scope N s H ex) pins (qT cap σ) H { s with heap:=pushCells (s.heap.push { cls:=.type "dict",data:=.dict #[] }) scope.names }:=by
 have B:=sQ scope.names (s.heap.push { cls:=.type "dict",data:=.dict #[] }) (fW X.env scope.names []);rw[cz]at B;have kp:∀b o,s.heap.get? b=some o->(pushCells (s.heap.push { cls:=.type "dict",data:=.dict #[] }) scope.names).get? b=some o:=λb o e=>pq _ _ _ _ (ak _ e);have ns:(pushCells (s.heap.push { cls:=.type "dict",data:=.dict #[] }) scope.names).Ns s.heap.objs.size (λ_=>none):=⟨_,#[],_,pq _ _ _ _ (bc _ rfl),rfl,(λe he=>absurd he (by simp)),λ_=>rfl⟩
 obtain⟨m,hn,hl⟩:=I.loc;refine⟨GJ I C hex,rfl,I.bare,Un.kept kp,⟨_,ns,λi x v h1 h2 h3=>?_⟩,λx c e=>?_,I.hok.fresh (aj _),λx c e=>?_,λp hp=>?_,I.hok.kept kp, ?_⟩
 ·have h2':(cap.map λo=>match o with|some j=>(σ[j]?).getD none|none=>none)[i]?=some (some v):=h2;rw[dz]at h2'
  cases q:cap[i]? with
  |none=>rw[q]at h2';cases h2'
  |some o=>
   rw[q]at h2'
   cases o with
   |none=>cases h2'
   |some j=>
    have e1:(σ[j]?).getD none=some v:=cw h2';have e2:σ[j]?=some (some v):=by
     cases z:σ[j]? with
     |none=>rw[z]at e1;cases e1
     |some w=>rw[z]at e1;exact congrArg some e1
    obtain⟨c1,c2,c3⟩:=C.cap i j x q h1;have vis:sL X.env.scope x:=by
     rcases C.free x c2 with z|z
     ·exact .inr (.inl z)
     ·exact .inr (.inr z)
    obtain⟨u,r,l⟩:=hl j x v c1 e2 vis;refine⟨u,r, ?_⟩
    rcases l with⟨hk,hm⟩|⟨hk,c,hc,hcell⟩
    ·rcases C.free x c2 with z|z
     ·rw[z]at hk;cases hk
     ·rw[z]at hk;cases hk
    ·refine .inr ⟨?_,c, ?_, ?_⟩
     ·have h3':sL (relabel scope X.env) x:=h3
      rcases h3' with z|z|z
      ·exact absurd z c3
      ·exact .inl z
      ·exact .inr z
     ·have:=(B.old x (C.apart x c2)).trans (vG _ _ (.inl c2));rw[hc]at this;exact this
     ·obtain⟨o,ho,hd⟩:=hcell;exact⟨o,kp _ _ ho,hd⟩
 ·rcases vI I C e with⟨q,_⟩|⟨_,q,_⟩
  ·obtain⟨v,o,ho,hd⟩:=I.cell x c q;exact⟨v,o,kp _ _ ho,hd⟩
  ·exact⟨none,q⟩
 ·rcases vI I C e with⟨q,_⟩|⟨q,_⟩
  ·exact I.freeC x c q
  ·exact I.hok.fresh (gy q)
 ·obtain⟨a1,a2,a3,a4,a5⟩:=I.pin p hp;refine⟨kp _ _ a1,a2,bg (au a1),λz=>?_,a5⟩
  rcases az.mp (I.stkSub _ z)with q|q
  ·exact a3 q
  ·exact a4 q
 ·show(cap.map _).length=N.length;rw[aw];exact C.len
theorem TX (I:Inv X pins σ H s) (C:Bh X scope N cap) (hex:∀b∈ex,dJ X pins H b/\b<s.heap.objs.size):∀b∈ex,dJ (cY X scope N s H ex) pins H b:=by intro b hb;obtain⟨⟨f0,f1,f2,f3,f4,f5⟩,hlt⟩:=hex b hb;have ok:=GJ (N:=N) I C hex;exact⟨f0,(ok.exf b hb).1,ok.exfs b hb,.inl hb,(ok.exf b hb).2,f5⟩
theorem TY {σ':St}{H':Hp}{s':ag}{h':cx}(I:Inv X pins σ H s) (hex:∀b∈ex,dJ X pins H b/\b<s.heap.objs.size) (I':Inv (cY X scope N s H ex) pins σ' H' s') (hh:iu s.heap.objs.size s'.heap h'):
  Inv X pins σ H' { s' with heap:=h' }:=by
 have u:Un (eW X.stack) ex H H' s.heap s'.heap:=I'.base;have up:∀b o o',s.heap.get? b=some o->s'.heap.get? b=some o'->h'.get? b=some o':=λb o o' e e'=>(hh.2 b (bg (au e))).trans e';have hL:H' s.heap.objs.size=none:=I'.free;refine I.call' (s':={ s' with heap:=h' }) (ch:=ex) I'.os ⟨λb o q n hb hx=>up b o o q (u.keep b o q n hb hx),λb o q n hb hx=>?_,u.free,λb o q hx=>?_,u.tups,u.frzs,u.tbls⟩ (λb o e=>?_) I'.bare λb hb=>?_
 ·obtain⟨sl,e⟩:=u.slot b o q n hb hx;exact⟨sl,up b o _ q e⟩
 ·obtain⟨o',e⟩:=u.there b o q hx;exact⟨o',up b o _ q e⟩
 ·refine(I'.hok b o e).stay (λc v hc q=>(hh.2 c ?_).trans q) (λ_ q=>q) λ_ _ q=>q
  rcases hc with z|z
  ·rw[z];rintro rfl;rw[hL]at e;cases e
  ·rintro rfl;rw[hL]at z;cases z
 ·obtain⟨⟨f0,f1,f2,f3,f4,f5⟩,hlt⟩:=hex b hb;exact⟨f3,f1,f4,f5⟩
theorem Inv.adopt {a:ah}{o:HO}(I:Inv X pins σ H s) (f:dJ X pins H a) (ha:X.s₀.heap.objs.size<=a) (new:Al X.prog X.w (aV H a o) s.heap a o):Inv X pins σ (aV H a o) s:=by
 obtain⟨f0,f1,f2,f3,f4,f5⟩:=f;have ne0:∀b ob,X.s₀.heap.get? b=some ob->b≠a:=λb ob e z=>by subst z;exact gn _ (ay (au e) ha)
 refine⟨I.ok,I.os,I.bare,⟨I.base.keep,I.base.slot,λb ob e n hx=>by rw[cF (ne0 b ob e)];exact I.base.free b ob e n hx,I.base.there,λb xs e=>?_,λb ob u e=>?_,λb ps e=>?_⟩,I.loc,I.cell,by rw[cF (cy f1)];exact I.free,
  λx c e=>by rw[cF (f4 x c e)];exact I.freeC x c e,λp hp=>?_,λb u e=>?_,I.len⟩
 ·have:=I.base.tups b xs e;rw[cF (fV this f0)];exact this
 ·have:=I.base.frzs b ob u e;rw[cF (fV this f0)];exact this
 ·obtain⟨more,this⟩:=I.base.tbls b ps e;exact⟨more,by rw[cF (fV this f0)];exact this⟩
 ·obtain⟨a1,a2,a3,a4,a5⟩:=I.pin p hp;exact⟨a1,by rw[cF (f5 p hp)];exact a2,a3,a4,a5⟩
 ·by_cases hb:b=a
  ·subst hb;rw[eR]at e;cases e;exact new
  ·rw[cF hb]at e;exact(I.hok b u e).stay (λ_ _ _ q=>q) (λc q=>by rw[cF (fV q f0)];exact q) λc xs q=>by rw[cF (fV q f0)];exact q
end
def AccAt (s:ag) (D:ah) (xs:List V):Prop:=xs.length<=bz/\∃(its:List af) (n:Nat),Ag xs its/\s.heap.get? D=some { cls:=.type "list",data:=.seq its.toArray n }
abbrev TC:=St->Hp->List V->(St->Hp->List V->Prop)->Prop
def Dl (X:Cx) (D:ah) (m:Sem Unit) (t:TC):Prop:=
 ∀(pins:List (ah×Obj)) (s:ag) (σ:St) (H:Hp) (xs:List V) (K:St->Hp->List V->Prop),Inv X pins σ H s->AccAt s D xs->dJ X pins H D->t σ H xs K->
  wpAny (model X.prog X.w) X.A m (λ_ s'=>∃σ' H' xs',Inv X pins σ' H' s'/\AccAt s' D xs'/\H' D=none/\K σ' H' xs') X.xe s
section
variable{X:Cx}{D:ah}
theorem AccAt.obj {s:ag}{xs:List V}(a:AccAt s D xs):∃o,s.heap.get? D=some o/\∀v,o.data≠.cell v:=by obtain⟨_,its,n,_,e⟩:=a;exact⟨_,e,λv z=>nomatch z⟩
theorem Inv.pinD {pins:List (ah×Obj)}{s:ag}{σ:St}{H:Hp}{xs:List V}(I:Inv X pins σ H s) (a:AccAt s D xs) (f:dJ X pins H D):Inv X (pins++jN [D] s.heap) σ H s:=
 I.pinned (λb hb=>by (have e:b=D:=by simpa using hb);subst e;exact f) λb hb=>by
  have e:b=D:=by simpa using hb
  subst e;exact a.obj
theorem Inv.atD {pins:List (ah×Obj)}{s s':ag}{σ':St}{H':Hp}{xs:List V}(a:AccAt s D xs) (I:Inv X (pins++jN [D] s.heap) σ' H' s'):AccAt s' D xs/\H' D=none:=by obtain⟨z,its,n,r,e⟩:=a;have:=I.pin (D,_) (bw _ (bw _ (qR (by simp) e)));exact⟨⟨z,its,n,r,this.1⟩,this.2.1⟩
def GK (te:TE):TC:=λσ H xs K=>te σ H λv H1=>xs.length<bz/\K σ H1 (xs++[v])
theorem zU {elt:br}{te:TE}(he:PE X elt te):Dl X D (do let x <-eval elt X.env;let _ <-call (.builtin "list.append") [.ref D,x];pure ()) (GK te):=by
 intro pins s σ H xs K I a f h;refine ae (bD (he _ s σ H _ (I.pinD a f) h) λu s1 ⟨v,H1,I1,r1,hz,q1⟩=>?_);obtain⟨a1,n1⟩:=Inv.atD a I1;have I1':=I1.unpinned;obtain⟨z,its,n,r,e⟩:=a1;have hl:=r.length;refine ae (yn F.slot_list_append ⟨_,e,rfl⟩ F.entry_list_append (F.args_list_append_2 _ _) (PySem.list_append D its.toArray n u (by rw[av];omega)) ⟨e, ?_⟩);have q:=ym e (·.push u);have e2:its.toArray.push u=(its++[u]).toArray:=by simp
 rw[e2]at q;refine ai ⟨σ,H1,xs++[v], ?_,⟨by rw[bx,yo];omega,its++[u],_,r.append (.cons r1 .nil),q⟩,n1,q1⟩;obtain⟨f0,f1,f2,f3,f4,f5⟩:=f;exact I1'.turned (t':=s1.toks) (λb o hb z=>(kd s1.heap _ (cy hb)).trans z) n1 f1 f3 f4 f5
def GL (ifs:List br) (env:Env):Sem Bool:=forIn ifs true λc r=>if r=true then do let ok <-isTrue c env (eval c env);pure (qh ok)else pure (qh r)
def PTs (X:Cx) (ifs:List br) (t:TT):Prop:=∀(pins:List (ah×Obj)) (s:ag) (σ:St) (H:Hp) (Q:Bool->Hp->Prop),Inv X pins σ H s->t σ H Q->wpAny (model X.prog X.w) X.A (GL ifs X.env) (TP X pins σ Q) X.xe s
def TZ:TT:=λ_ H Q=>Q true H
theorem T1:PTs X [] TZ:=λpins s σ H Q I h=>wpAny_tests_nil ⟨H,I,h⟩
theorem T3 {c:br}{t:TT}(h:PT X c t):PTs X [c] t:=λpins s σ H Q I q=>wpAny_tests_one (h pins s σ H Q I q)
def lD (p:Pos) (it:af) (tg:br) (ifs:List br) (env:Env) (inner:Sem Unit) (c:Code):Sem PySem.Fin:=do
 standAt p
 match <-pyNext it with
 |none=>pure (.done .next)
 |some v=>do
  letOwnedTupleGo tg it v
  assign tg env v
  let ok <-GL ifs env
  if ok=true then do inner;again c
  else again c
def sR (J:It) (g:TG) (tt:TT) (inner:TC) (K:St->Hp->List V->Prop) (σ:St) (H:Hp) (xs:List V):Prop:=
 ∃W:Nat->Nat->St->Hp->List V->Prop,(∃m,W 0 m σ H xs)/\∀i m σ H xs,W i m σ H xs->
  (J.stop i H/\K σ H xs)∨(J.go i H/\∃N:St->Hp->List V->Prop,(∀σ' H' xs',N σ' H' xs'->∃m',m'<m/\W (i+1) m' σ' H' xs') /\
   ∀x H',J.yld i H x H'->g x σ H' λσ2 H2=>tt σ2 H2 λb H3=>if b=true then inner σ2 H3 xs N else N σ2 H3 xs)
theorem GN {elt:br}{gens:List jx}{sc:gu}{ps:Pos}{d:Nat}{it:ah}{tg:br}{ifs:List br}{p:Pos}{inner:Sem Unit}{g:TG}{tt:TT}{ti:TC}{J:It}{fp:List ah}{tn:Nat->cx->Prop}
  (hx:X.xe=λ_ _=>False) (hc:X.calm=true)
  (ht:compTurn (.ListComp elt gens sc ps) d (.ref it) (.ref D) X.env=lD p (.ref it) tg ifs X.env inner (.compLoop (.ListComp elt gens sc ps) d (.ref it) (.ref D) X.env))
  (hg:PG X tg g) (Dh:PTs X ifs tt) (hi:Dl X D inner ti) (T:Turn X.prog X.w X.K tg J fp it tn)
  {pins:List (ah×Obj)}{s:ag}{σ:St}{H:Hp}{xs:List V}{K:St->Hp->List V->Prop}{R:xk->ag->Prop}(I:Inv X pins σ H s) (a:AccAt s D xs) (f:dJ X pins H D) (st:tn 0 s.heap) (hf:∀b∈fp,dJ X pins H b) (hD:D∉fp)
  (h:sR J g tt ti K σ H xs) (hR:∀σ' H' xs' s',Inv X pins σ' H' s'->AccAt s' D xs'->H' D=none->K σ' H' xs'->R (.ok .next) s'):
  codeAny (model X.prog X.w) X.A (.compLoop (.ListComp elt gens sc ps) d (.ref it) (.ref D) X.env) R s:=by
 obtain⟨W,⟨m0,w0⟩,turn⟩:=h;have stat:∀{H':Hp},(∀b∈fp,H' b=none)->∀b∈fp,dJ X pins H' b:=λhn b hb=>⟨hn b hb,(hf b hb).2⟩
 have statD:∀{H':Hp},H' D=none->dJ X pins H' D:=λhn=>⟨hn,f.2⟩
 refine codeAny_loop rfl (λn s'=>∃i σ' H' xs',Inv X pins σ' H' s'/\AccAt s' D xs'/\H' D=none/\tn i s'.heap/\(∀b∈fp,H' b=none)/\W i n σ' H' xs') ?_ m0 ⟨0,σ,H,xs,I,a,f.1,st,λb hb=>(hf b hb).1,w0⟩
 rintro n s3 ⟨i,σ3,H3,xs3,I3,a3,n3,st3,fr3,w3⟩
 show wpAny _ X.A ((compTurn (.ListComp elt gens sc ps) d (.ref it) (.ref D) X.env).onRaise (λx=>do noteFrame x X.env;theTreesLotGoes x)) _ _ s3;rw[ht];refine sd (ql (Q:=λfin s'=>match fin with | .done f=>R (.ok f) s' | .again c'=>c'=.compLoop (.ListComp elt gens sc ps) d (.ref it) (.ref D) X.env/\∃m,m<n/\∃i σ' H' xs',Inv X pins σ' H' s'/\AccAt s' D xs'/\H' D=none/\tn i s'.heap/\(∀b∈fp,H' b=none)/\W i m σ' H' xs') (E:=λ_ _=>False) ?_ (λ_ _ z=>z) λ_ _ z=>z.elim);unfold lD;refine ae (rp (ae ?_));have xe':∀{α:Type}{m:Sem α}{Q:α->ag->Prop}{s:ag},wpAny (model X.prog X.w) X.A m Q X.xe s->wpAny (model X.prog X.w) X.A m Q (λ_ _=>False) s:=λ{α m Q s} z=>by rw[hx]at z;exact z
 have I3':=I3.pinD a3 (statD n3);have fr3':∀b∈fp,dJ X (pins++jN [D] s3.heap) H3 b:=λb hb=>by
  obtain⟨g0,g1,g2,g3,g4,g5⟩:=stat fr3 b hb;refine⟨g0,g1,g2,g3,g4,λp hp=>?_⟩
  rcases cq.mp hp with z|z
  ·exact g5 p (fg _ z)
  ·rcases cq.mp z with z|z
   ·exact g5 p (bw _ z)
   ·have:=(zG z).1;have e:p.1=D:=by simpa using this
    rw[e];rintro rfl;exact hD hb
 rcases turn i n σ3 H3 xs3 w3 with⟨stop,qn⟩|⟨go,N,hN,step⟩
 ·refine bD (T.done X rfl rfl rfl hc i _ s3 σ3 H3 (λ_ _=>False) I3' fr3' st3 stop) λr s4 ⟨hr,I4⟩=>?_;subst hr;obtain⟨a4,n4⟩:=Inv.atD a3 I4;exact ai (hR σ3 H3 xs3 s4 I4.unpinned a4 n4 qn)
 ·refine bD (T.item X rfl rfl rfl hc i _ s3 σ3 H3 (λ_ _=>False) I3' fr3' st3 go) λr s4 ⟨u,hr,h4⟩=>?_;subst hr;refine ae (bD h4 λ_ s5 ⟨x,H5,I5,r5,y5,st5,fr5⟩=>?_);obtain⟨a5,n5⟩:=Inv.atD a3 I5;have I5u:=I5.unpinned;have I5p:=I5u.pinned (stat fr5) (T.obj _ _ st5);have fD5:dJ X (pins++jN fp s5.heap) H5 D:=by
   obtain⟨g0,g1,g2,g3,g4,g5⟩:=statD n5;refine⟨g0,g1,g2,g3,g4,λp hp=>?_⟩
   rcases cq.mp hp with z|z
   ·exact g5 p (fg _ z)
   ·rcases cq.mp z with z|z
    ·exact g5 p (bw _ z)
    ·rintro rfl;exact hD (zG z).1
  have I5':=I5p.pinD a5 fD5;refine ae (xe' (bD (hg _ s5 σ3 H5 x u _ I5' r5 (step x H5 y5)) λ_ s6 ⟨σ6,H6,I6,q6⟩=>?_));obtain⟨a6,n6⟩:=Inv.atD a5 I6;have pin':∀{s σ H},Inv X (pins++jN fp s5.heap) σ H s->tn (i+1) s.heap/\∀b∈fp,H b=none:=λ{s σ H} J=>by refine⟨T.keep _ _ _ st5 λb hb o e=>(J.pin (b,o) (bw _ (bw _ (qR hb e)))).1,λb hb=>?_⟩;obtain⟨o,e,d⟩:=T.obj _ _ st5 b hb;exact(J.pin (b,o) (bw _ (bw _ (qR hb e)))).2.1
  have fD6:dJ X (pins++jN fp s5.heap) H6 D:=⟨n6,fD5.2⟩
  have I6u:=I6.unpinned;have I6p:=I6u.pinD a6 fD6;refine ae (xe' (bD (Dh _ s6 σ6 H6 _ I6p q6) λb s7 ⟨H7,I7,q7⟩=>?_));obtain⟨a7,n7⟩:=Inv.atD a6 I7;have I7u:=I7.unpinned;have fin:∀{s8 σ8 H8 xs8},Inv X (pins++jN fp s5.heap) σ8 H8 s8->AccAt s8 D xs8->H8 D=none->N σ8 H8 xs8->
    ∃m,m<n/\∃i σ' H' xs',Inv X pins σ' H' s8/\AccAt s8 D xs'/\H' D=none/\tn i s8.heap/\(∀b∈fp,H' b=none)/\W i m σ' H' xs':=λ{s8 σ8 H8 xs8} J a8 n8 q8=>by
   obtain⟨m',hm,w8⟩:=hN σ8 H8 xs8 q8;obtain⟨t8,fr8⟩:=pin' J;exact⟨m',hm,i+1,σ8,H8,xs8,J.unpinned,a8,n8,t8,fr8,w8⟩
  cases b with
  |true=>
   rw[if_pos rfl]at q7 ⊢;have fD7:dJ X (pins++jN fp s5.heap) H7 D:=⟨n7,fD5.2⟩
   refine ae (xe' (bD (hi _ s7 σ6 H7 xs3 N I7u a7 fD7 q7) λ_ s8 ⟨σ8,H8,xs8,I8,a8,n8,q8⟩=>?_));exact ai ⟨rfl,fin I8 a8 n8 q8⟩
  |false=>rw[if_neg ij]at q7 ⊢;exact ai ⟨rfl,fin I7u a7 n7 q7⟩
end
theorem T4 (elt tg iter:br) (ifs:List br) (sc:gu) (ps:Pos) (it:af) (D:ah) (env:Env):
  compTurn (.ListComp elt [⟨tg,iter,ifs,0⟩] sc ps) 0 it (.ref D) env =
   lD iter.pos it tg ifs env (do let x <-eval elt env;let _ <-call (.builtin "list.append") [.ref D,x];pure ()) (.compLoop (.ListComp elt [⟨tg,iter,ifs,0⟩] sc ps) 0 it (.ref D) env):=by rfl
def qU (iter:br) (e:br) (d:Nat) (D:ah) (env:Env):Sem Unit:=do
 let x <-eval iter env
 standAt iter.pos
 let x <-foldedSetIterable iter env x
 let it <-holding [x] (pyIter x)
 let _ <-runOwn (.compStart e d it (.ref D) env) env
 pure ()
theorem GO (elt tg iter Cg Aq:br) (ifs Bc:List br) (sc:gu) (ps:Pos) (it:af) (D:ah) (env:Env):
  compTurn (.ListComp elt [⟨tg,iter,ifs,0⟩,⟨Cg,Aq,Bc,0⟩] sc ps) 0 it (.ref D) env =
   lD iter.pos it tg ifs env (qU Aq (.ListComp elt [⟨tg,iter,ifs,0⟩,⟨Cg,Aq,Bc,0⟩] sc ps) 1 D env) (.compLoop (.ListComp elt [⟨tg,iter,ifs,0⟩,⟨Cg,Aq,Bc,0⟩] sc ps) 0 it (.ref D) env):=by
 unfold lD qU;simp only[bind_assoc,pure_bind];rfl
theorem GP (elt tg iter Cg Aq:br) (ifs Bc:List br) (sc:gu) (ps:Pos) (it:af) (D:ah) (env:Env):
  compTurn (.ListComp elt [⟨tg,iter,ifs,0⟩,⟨Cg,Aq,Bc,0⟩] sc ps) 1 it (.ref D) env =
   lD Aq.pos it Cg Bc env (do let x <-eval elt env;let _ <-call (.builtin "list.append") [.ref D,x];pure ()) (.compLoop (.ListComp elt [⟨tg,iter,ifs,0⟩,⟨Cg,Aq,Bc,0⟩] sc ps) 1 it (.ref D) env):=by rfl
section
variable{X:Cx}{D:ah}
theorem GQ {prog:bf}{w:cf}{A:cg}{R:xk->ag->Prop}{s:ag}{elt:br}{gens:List jx}{sc:gu}{ps:Pos}{d:Nat}{it acc:af}{env:Env}(ha:((gens)[d]?).elim false (·.is_async != 0)=false)
  (h0:codeAny (model prog w) A (.compLoop (.ListComp elt gens sc ps) d it acc env) R s)
  (h:wpAny (model prog w) A (pyIter it) (λit' s'=>codeAny (model prog w) A (.compLoop (.ListComp elt gens sc ps) d it' acc env) R s') (λ_ _=>False) s):
  codeAny (model prog w) A (.compStart (.ListComp elt gens sc ps) d it acc env) R s:=by
 refine codeAny_of_tree ?_;show wpAny _ _ ((compStart (.ListComp elt gens sc ps) d it acc env).onRaise (λx=>do noteFrame x env;standAt theWindowsPlace)) _ _ s;refine wpAny_notedAt (ql (E:=λ_ _=>False) ?_ (λ_ _ z=>z) λ_ _ z=>z.elim);unfold compStart;rw[show((clausesOf (.ListComp elt gens sc ps))[d]?).elim false (·.is_async != 0)=false from ha];simp only[cn,if_false];refine ae (ly (wpAny_ite ?_))
 split
 ·first
   |exact ae (ai (ai (And.intro rfl h0)))
   |exact ai (And.intro rfl h0)
 ·have fin:∀s:ag,wpAny (model prog w) A (pyIter it) (λit' s'=>codeAny (model prog w) A (.compLoop (.ListComp elt gens sc ps) d it' acc env) R s') (λ_ _=>False) s->
    wpAny (model prog w) A (do let it' <-pyIter it;again (.compLoop (.ListComp elt gens sc ps) d it' acc env)) (λfin s'=>match fin with | .done f=>R (.ok f) s' | .again c=>c.quiet=true/\codeAny (model prog w) A c R s') (λ_ _=>False) s:=λs h=>ae (ql h (λit' s' h'=>ai ⟨rfl,h'⟩) λ_ _ x=>x)
  refine ae (qp ?_);have ec:clausesOf (.ListComp elt gens sc ps)=gens:=rfl;rw[ec]
  cases q:gens[d]? with
  |none=>exact fin s h
  |some g=>exact ae (rp (fin s h))
def GR (wi:TI) (g:TG) (tt:TT) (inner:TC):TC:=λσ H xs K=>wi σ H λJ H1=>sR J g tt inner K σ H1 xs
theorem GS {elt:br}{gens:List jx}{sc:gu}{ps:Pos}{d:Nat}{tg iter:br}{ifs:List br}{inner:Sem Unit}{wi:TI}{g:TG}{tt:TT}{ti:TC}
  (hx:X.xe=λ_ _=>False) (hc:X.calm=true) (ha:((gens)[d]?).elim false (·.is_async != 0)=false)
  (ht:∀it,compTurn (.ListComp elt gens sc ps) d (.ref it) (.ref D) X.env=lD iter.pos (.ref it) tg ifs X.env inner (.compLoop (.ListComp elt gens sc ps) d (.ref it) (.ref D) X.env))
  (hi:PI X tg iter wi) (hg:PG X tg g) (Dh:PTs X ifs tt) (Cc:Dl X D inner ti) (hs:∀x,foldedSetIterable iter X.env x=pure x):
  Dl X D (qU iter (.ListComp elt gens sc ps) d D X.env) (GR wi g tt ti):=by
 intro pins s σ H xs K I a f h;unfold qU;refine ae (bD (hi _ s σ H _ (I.pinD a f) h) λv s1 h1=>ae (rp (ae (rf (hs v) (ae (fw (bD h1 λitv s2 h2=>?_)))))));obtain⟨it,fp,tn,J,H2,e,I2,T,st2,f2,lp⟩:=h2;subst e;obtain⟨a2,n2⟩:=Inv.atD a I2;have I2u:=I2.unpinned;have hpD:∀b∈fp,b≠D:=λb hb z=>by subst z;obtain⟨_,its,n,_,eo⟩:=a;exact(f2 b hb).2.2.2.2.2 (b,_) (bw _ (bw _ (qR (by simp) eo))) rfl
 have f2u:∀b∈fp,dJ X pins H2 b:=λb hb=>by
  obtain⟨g0,g1,g2,g3,g4,g5⟩:=f2 b hb;exact⟨g0,g1,g2,g3,g4,λp hp=>g5 p (by
   rcases cq.mp hp with z|z
   ·exact fg _ z
   ·exact bw _ (fg _ z))⟩
 have fD:dJ X pins H2 D:=⟨n2,f.2⟩
 refine ae (wpAny_runOwn ?_);have loop:codeAny (model X.prog X.w) X.A (.compLoop (.ListComp elt gens sc ps) d (.ref it) (.ref D) X.env) (λr s'=>match r with
   | .ok f=>wpAny (model X.prog X.w) X.A (pure ():Sem Unit) (λ_ s'=>∃σ' H' xs',Inv X pins σ' H' s'/\AccAt s' D xs'/\H' D=none/\K σ' H' xs') X.xe s'
   | .error e=>cameBackBy (model X.prog X.w) X.A X.env X.xe e s') s2:=
  GN hx hc (ht it) hg Dh Cc T I2u a2 fD st2 f2u (λz=>hpD D z rfl) lp λσ' H' xs' s' I' a' n' k'=>ai ⟨σ',H',xs',I',a',n',k'⟩
 exact GQ ha loop (T.self _ 0 s2 _ _ st2 loop)
end
def zV (wi:TI) (cap:List (Option Nat)) (g:TG) (tt:TT) (inner:TC):TE:=λσ H Q=>wi σ H λJ H1=>sR J g tt inner (λ_ H' xs=>∀p,H' p=none->Q (.ref p) (aV H' p (.lst xs))) (qT cap σ) H1 []
section
variable{X:Cx}
theorem GU {elt:br}{gens:List jx}{sc:gu}{ps:Pos}{tg iter:br}{ifs:List br}{rest:List jx}{inner:ah->Env->Sem Unit}{g:TG}{tt:TT}{ti:TC}{N:zu}{cap:List (Option Nat)}{E:af->ag->Prop}
  (hc:X.calm=true) (C:Bh X sc N cap) (eg:gens=⟨tg,iter,ifs,0⟩::rest)
  (ht:∀it D env,compTurn (.ListComp elt gens sc ps) 0 (.ref it) (.ref D) env=lD iter.pos (.ref it) tg ifs env (inner D env) (.compLoop (.ListComp elt gens sc ps) 0 (.ref it) (.ref D) env))
  (hg:∀s H ex,PG (cY X sc N s H ex) tg g) (Dh:∀s H ex,PTs (cY X sc N s H ex) ifs tt)
  {pins:List (ah×Obj)}{s2:ag}{σ:St}{H2:Hp}(Cc:∀s ex D,Inv X pins σ H2 s->(∀b∈ex,dJ X pins H2 b/\b<s.heap.objs.size)->Dl (cY X sc N s H2 ex) D (inner D (cY X sc N s H2 ex).env) ti)
  {K:St->Hp->List V->Prop}{it:ah}{fp:List ah}{tn:Nat->cx->Prop}{J:It}(I2:Inv X pins σ H2 s2) (T:Turn X.prog X.w X.K tg J fp it tn) (st2:tn 0 s2.heap) (f2:∀b∈fp,dJ X pins H2 b)
  (lp:sR J g tt ti K (qT cap σ) H2 []) {R:af->ah->xk->ag->Prop}
  (hR:∀σ' H' xs (s3 s':ag) (C D:ah),X.s₀.heap.objs.size<=D->C=s3.heap.objs.size->(∃m,s'.heap.Ns C m)->AccAt s' D xs->dJ X pins H' D->dJ X pins H' C->D<C->(∀h',iu C s'.heap h'->Inv X pins σ H' { s' with heap:=h' })->K σ' H' xs->R (.ref D) C (.ok .next) s'):
  wpAny (model X.prog X.w) X.A (newList []) (λacc s3=>wpAny (model X.prog X.w) X.A (newFunctionEnv sc X.env.globals (fW X.env sc.names []) [] X.env.qual none .none (some X.env)) (λcenv s4=>codeAny (model X.prog X.w) X.A (.compStart (.ListComp elt gens sc ps) 0 (.ref it) acc { cenv with scope:=relabel sc X.env }) (R acc cenv.locals) s4) E s3) E s2:=by
 refine fo (TU ?_);dsimp only;generalize hs3:({ s2 with heap:=s2.heap.push { cls:=.type "list",dict:=none,data:=.seq ([]:List af).toArray } }:ag)=s3;have kp:∀b o,s2.heap.get? b=some o->s3.heap.get? b=some o:=λb o e=>by rw[<-hs3];exact ak _ e
 have I3:Inv X pins σ H2 s3:=by rw[<-hs3];exact I2.kept (t':=s2.toks) λb o e=>ak _ e
 have eD:s3.heap.get? s2.heap.objs.size=some { cls:=.type "list",data:=.seq ([]:List af).toArray 0 }:=by rw[<-hs3];exact bc _ rfl
 have nD:H2 s2.heap.objs.size=none:=I2.hok.fresh (aj _);have fD:dJ X pins H2 s2.heap.objs.size:=I2.fpOk (aj _) nD;have hlt:s2.heap.objs.size<s3.heap.objs.size:=au eD;have hex:∀b∈s2.heap.objs.size::fp,dJ X pins H2 b/\b<s3.heap.objs.size:=λb hb=>by
  rcases az.mp hb with rfl|hb
  ·exact⟨fD,hlt⟩
  ·obtain⟨o,e,_⟩:=T.obj 0 _ st2 b hb;exact⟨f2 b hb,au (kp b o e)⟩
 have hDfp:s2.heap.objs.size∉fp:=λz=>by obtain⟨o,e,_⟩:=T.obj 0 _ st2 _ z;exact gn _ (au e)
 have I4:=TV (N:=N) (ex:=s2.heap.objs.size::fp) I3 C hex;have F4:=TX (N:=N) I3 C hex;have st4:tn 0 (pushCells (s3.heap.push { cls:=.type "dict",data:=.dict #[] }) sc.names):=T.keep 0 _ _ st2 λb hb o e=>pq _ _ _ _ (ak _ (kp b o e));have a4:AccAt { s3 with heap:=pushCells (s3.heap.push { cls:=.type "dict",data:=.dict #[] }) sc.names } s2.heap.objs.size []:=⟨jd _,[],0,.nil,pq _ _ _ _ (ak _ eD)⟩
 have loop:codeAny (model X.prog X.w) X.A (.compLoop (.ListComp elt gens sc ps) 0 (.ref it) (.ref s2.heap.objs.size) (cY X sc N s3 H2 (s2.heap.objs.size::fp)).env) (R (.ref s2.heap.objs.size) s3.heap.objs.size)
   { s3 with heap:=pushCells (s3.heap.push { cls:=.type "dict",data:=.dict #[] }) sc.names }:=by
  refine GN (X:=cY X sc N s3 H2 (s2.heap.objs.size::fp)) rfl hc (ht it _ _) (hg _ _ _) (Dh _ _ _) (Cc _ _ _ I3 hex) T I4 a4 (F4 _ (ax ..)) st4 (λb hb=>F4 b (aq _ hb)) hDfp lp λσ' H' xs' s' I' a' n' k'=>?_;obtain⟨m,hn,_⟩:=I'.loc;exact hR σ' H' xs' s3 s' _ _ (di I2.sz (aj _)) rfl ⟨m,hn⟩ a' ⟨n',fD.2⟩ (I3.fpOk (aj _) I'.free) hlt (λh' hh=>TY I3 hex I' hh) k'
 have ha:((gens)[0]?).elim false (·.is_async != 0)=false:=by rw[eg];rfl
 subst hs3;exact GQ ha loop (T.self _ 0 _ _ _ st4 loop)
theorem GV {elt:br}{gens:List jx}{sc:gu}{ps:Pos}{tg iter:br}{ifs:List br}{rest:List jx}{inner:ah->Env->Sem Unit}{wi:TI}{g:TG}{tt:TT}{ti:TC}{N:zu}{cap:List (Option Nat)}
  (hc:X.calm=true) (C:Bh X sc N cap) (eg:gens=⟨tg,iter,ifs,0⟩::rest)
  (ht:∀it D env,compTurn (.ListComp elt gens sc ps) 0 (.ref it) (.ref D) env=lD iter.pos (.ref it) tg ifs env (inner D env) (.compLoop (.ListComp elt gens sc ps) 0 (.ref it) (.ref D) env))
  (hi:PI X tg iter wi) (hg:∀s H ex,PG (cY X sc N s H ex) tg g) (Dh:∀s H ex,PTs (cY X sc N s H ex) ifs tt) (Cc:∀s H ex D,Dl (cY X sc N s H ex) D (inner D (cY X sc N s H ex).env) ti)
  (hs:∀x,foldedSetIterable iter X.env x=pure x):PE X (.ListComp elt gens sc ps) (zV wi cap g tt ti):=by
 intro pins s σ H Q I h;rw[eval_ListComp];have hcl:closureFor sc X.env=pure (fW X.env sc.names []):=GH λx hx=>I.ok.has x (C.free x hx);have e1:firstAsync gens=false:=by rw[eg];rfl
 have e2:firstIter gens X.env=eval iter X.env:=by rw[eg];rfl
 rw[e1,e2];refine zj (use:=none) (g:=⟨tg,iter,ifs,0⟩) (gs:=rest) (by rw[eg];rfl) hs hcl C.kind C.nd (bD (hi pins s σ H _ I h) λv s1 h1=>bD h1 λitv s2 h2=>?_);obtain⟨it,fp,tn,J,H2,e,I2,T,st2,f2,lp⟩:=h2;subst e;refine GU (N:=N) (inner:=inner) (R:=λacc C=>compPost (model X.prog X.w) X.A X.xe none (EP X pins σ Q) acc C) hc C eg ht hg Dh (λs ex D _ _=>Cc s _ ex D) I2 T st2 f2 lp ?_;intro σ' H' xs s3 s' C D hD0 hC hn a f fC hDC Bs k;obtain⟨m,hn⟩:=hn;refine⟨m,hn,λh' hh=>?_⟩;have I5:=Bs h' hh;obtain⟨hz,its,n,r,eD⟩:=a;have eD':h'.get? D=some { cls:=.type "list",data:=.seq its.toArray n }:=(hh.2 D (bg hDC)).trans eD;refine⟨.ref D,aV H' D (.lst xs),I5.adopt f hD0 ⟨hz,its,n,r,eD'⟩,rfl,k D f.1⟩
end
section
variable{X:Cx}
theorem T5 {i:Nat}{x:Str}{px pos:Pos}{elt:br}{gens:List jx}{sc:gu}{ps:Pos}{tg iter:br}{ifs:List br}{rest:List jx}{inner:ah->Env->Sem Unit}{wi:TI}{g:TG}{tt:TT}{ti:TC}{N:zu}{cap:List (Option Nat)}
  (hsw:swapsWith (.ListComp elt gens sc ps) (some (.Name x px)) pos.line X.env=pure true) (hN:X.N.Nodup) (hi':X.N[i]?=some x) (hx:X.env.scope.names.lookup x=some .local)
  (hc:X.calm=true) (C:Bh X sc N cap) (eg:gens=⟨tg,iter,ifs,0⟩::rest)
  (ht:∀it D env,compTurn (.ListComp elt gens sc ps) 0 (.ref it) (.ref D) env=lD iter.pos (.ref it) tg ifs env (inner D env) (.compLoop (.ListComp elt gens sc ps) 0 (.ref it) (.ref D) env))
  (hi:PI X tg iter wi) (hg:∀s H ex,PG (cY X sc N s H ex) tg g) (Dh:∀s H ex,PTs (cY X sc N s H ex) ifs tt) (Cc:∀s H ex D,Dl (cY X sc N s H ex) D (inner D (cY X sc N s H ex).env) ti)
  (hs:∀x,foldedSetIterable iter X.env x=pure x):PS X (.Assign [.Name x px] (.ListComp elt gens sc ps) pos) (uW (zV wi cap g tt ti) (zD i)):=by
 intro pins s σ H D I h;rw[exec_Assign_Name_used _ _ _ _ hsw];have hcl:closureFor sc X.env=pure (fW X.env sc.names []):=GH λx hx=>I.ok.has x (C.free x hx);have e1:firstAsync gens=false:=by rw[eg];rfl
 have e2:firstIter gens X.env=eval iter X.env:=by rw[eg];rfl
 refine ae (rp (ae ?_));show wpAny _ X.A (do let _ <-comprehension (.ListComp elt gens sc ps) sc X.env (firstIterPos gens ps) (newList []) (firstAsync gens) (firstIter gens X.env) (some (assign (.Name x px) X.env))) _ _ s;rw[e1,e2];refine ae (bD (zj (use:=some (assign (.Name x px) X.env)) (Q:=λ_ s'=>SP X pins D .next s') (g:=⟨tg,iter,ifs,0⟩) (gs:=rest) (by rw[eg];rfl) hs hcl C.kind C.nd (bD (hi pins s σ H _ I h) λv s1 h1=>bD h1 λitv s2 h2=>?_)) λ_ s' hq=>ai (ai hq));obtain⟨it,fp,tn,J,H2,e,I2,T,st2,f2,lp⟩:=h2;subst e;refine GU (N:=N) (inner:=inner) (R:=λacc C=>compPost (model X.prog X.w) X.A X.xe (some (assign (.Name x px) X.env)) (λ_ s'=>SP X pins D .next s') acc C) hc C eg ht hg Dh (λs ex D _ _=>Cc s _ ex D) I2 T st2 f2 lp ?_;intro σ' H' xs s3 s' C D' hD0 hC hn a f fC hDC Bs k;obtain⟨m,hn⟩:=hn;have I5:Inv X pins σ H' s':=Bs s'.heap (sj ..);obtain⟨hz,its,n,r,eD⟩:=a;have I6:Inv X pins σ (aV H' D' (.lst xs)) s':=I5.adopt f hD0 ⟨hz,its,n,r,eD⟩;show wpAny _ X.A (assign (.Name x px) X.env (.ref D')) _ _ s';obtain⟨c0,c1,c2,c3,c4,c5⟩:=fC;have nC:aV H' D' (.lst xs) C=none:=by rw[cF (cy (bg hDC))];exact c0
 refine wpAny_assign_Name (E4 (v:=V.ref D') I6 hN hi' (.inl hx) rfl (λs'' I7 ⟨a,sb,ha⟩=>?_) (.inr hx));have hCa:C≠a:=by
  rcases ha with z|z
  ·rw[z];exact c1
  ·exact cy (c4 x a z)
 refine⟨m,hn.sameBut sb hCa,λh' hh=>?_⟩;have I8:Inv X pins (σ.set i (some (.ref D'))) (aV H' D' (.lst xs)) { s'' with heap:=h' }:=I7.turned (t':=s''.toks) (λb o hb e=>(hh.2 b hb).trans e) nC c1 c3 c4 c5;exact⟨_,_,I8,k D' f.1⟩
end
inductive Dt where
 |non|bl (b:Bool)|int (i:Int)|str (x:Str)|tup (xs:List Dt)|lst (xs:List Dt)|dct
mutual
def Den (P:ah->Prop) (H:Hp):Dt->V->Prop
 | .non,v=>v=.non
 | .bl b,v=>v=.bl b
 | .int i,v=>v=.int i
 | .str x,v=>v=.str x
 | .tup ds,v=>∃a vs,v=.ref a/\H a=some (.tup vs)/\Am P H ds vs
 | .lst ds,v=>∃a vs,v=.ref a/\P a/\H a=some (.lst vs)/\Am P H ds vs
 | .dct,v=>∃a,v=.ref a/\P a/\H a=some (.dK [])
def Am (P:ah->Prop) (H:Hp):List Dt->List V->Prop
 | [],vs=>vs=[]
 |d::ds,vs=>∃v r,vs=v::r/\Den P H d v/\Am P H ds r
end
theorem Am.length {P:ah->Prop}{H:Hp}:∀{ds:List Dt}{vs:List V},Am P H ds vs->vs.length=ds.length
 | [],vs,h=>by rw[Am]at h;rw[h];rfl
 |d::ds,vs,h=>by rw[Am]at h;obtain⟨v,r,rfl,_,h2⟩:=h;simp[Am.length h2]
theorem Am.get {P:ah->Prop}{H:Hp}:∀{ds:List Dt}{vs:List V}{i:Nat}{v:V},Am P H ds vs->vs[i]?=some v->∃d,ds[i]?=some d/\Den P H d v
 | [],vs,i,v,h,e=>by rw[Am]at h;rw[h]at e;simp at e
 |d::ds,vs,i,v,h,e=>by
  rw[Am]at h;obtain⟨w,r,rfl,h1,h2⟩:=h
  cases i with
  |zero=>simp at e;subst e;exact⟨d,rfl,h1⟩
  |succ i=>simp at e;exact Am.get (i:=i) h2 e
theorem Am.nil {P:ah->Prop}{H:Hp}:Am P H [] []:=by rw[Am]
theorem Am.cons {P:ah->Prop}{H:Hp}{d:Dt}{v:V}{ds:List Dt}{vs:List V}(h:Den P H d v) (t:Am P H ds vs):Am P H (d::ds) (v::vs):=by rw[Am];exact⟨v,vs,rfl,h,t⟩
mutual
def bN:Dt->Dt->Bool
 | .non,.non=>true
 | .bl a,.bl b=>a==b
 | .bl a,.int j=>(if a then 1 else 0)==j
 | .int i,.bl b=>i==(if b then 1 else 0)
 | .int i,.int j=>i==j
 | .str x,.str y=>x==y
 | .tup xs,.tup ys=>gB xs ys
 | .lst xs,.lst ys=>gB xs ys
 |_,_=>false
def gB:List Dt->List Dt->Bool
 | [],[]=>true
 |x::xs,y::ys=>bN x y&&gB xs ys
 |_,_=>false
end
mutual
def eU:Dt->Nat
 | .tup xs=>mU xs+1
 | .lst xs=>mU xs+1
 |_=>0
def mU:List Dt->Nat
 | []=>0
 |x::xs=>max (eU x) (mU xs)
end
mutual
def nod:Dt->Bool
 | .tup xs=>kJ xs
 | .lst xs=>kJ xs
 | .dct=>false
 |_=>true
def kJ:List Dt->Bool
 | []=>true
 |x::xs=>nod x&&kJ xs
end
mutual
theorem zW:∀d:Dt,nod d=true->bN d d=true
 | .non,_=>rfl
 | .bl b,_=>by simp[bN]
 | .int i,_=>by simp[bN]
 | .str x,_=>by simp[bN]
 | .tup xs,h=>by rw[bN];exact zX xs (by rw[nod]at h;exact h)
 | .lst xs,h=>by rw[bN];exact zX xs (by rw[nod]at h;exact h)
 | .dct,h=>by simp[nod]at h
theorem zX:∀l:List Dt,kJ l=true->gB l l=true
 | [],_=>rfl
 |x::xs,h=>by rw[kJ,da]at h;rw[gB,zW x h.1,zX xs h.2];rfl
end
theorem GW:∀{l:List Dt}{d:Dt},d∈l->eU d<=mU l
 |x::xs,d,h=>by
  rw[mU]
  rcases az.mp h with rfl|h
  ·omega
  ·have:=GW h;omega
theorem zY:∀{l:List Dt}{d:Dt},kJ l=true->d∈l->nod d=true
 |x::xs,d,h,hd=>by
  rw[kJ,da]at h
  rcases az.mp hd with rfl|hd
  ·exact h.1
  ·exact zY h.2 hd
theorem sT:∀{xs ys:List Dt},xs.length=ys.length->gB xs ys=(bj xs.length).all λi=>bN (xs.getD i .non) (ys.getD i .non)
 | [],[],_=>rfl
 |x::xs,y::ys,h=>by rw[gB,sT (xs:=xs) (ys:=ys) (by simpa using h),cp,yg,List.all_cons,List.all_map];rfl
theorem sU:∀{xs ys:List Dt},xs.length≠ys.length->gB xs ys=false
 | [],[],h=>absurd rfl h
 | [],_::_,_=>rfl
 |_::_,[],_=>rfl
 |x::xs,y::ys,h=>by rw[gB,sU (xs:=xs) (ys:=ys) (by simpa using h),pd]
mutual
theorem Den.inj {P:ah->Prop}{H:Hp}:∀(d d':Dt) (v:V),Den P H d v->Den P H d' v->d=d'
 | .non,d',v,h,h'=>by
  rw[Den]at h;subst h
  cases d' <;> rw[Den]at h' <;> first|rfl|(obtain⟨_,_,e,_⟩:=h';cases e;done)|(obtain⟨_,e,_⟩:=h';cases e;done)|(cases h';done)
 | .bl b,d',v,h,h'=>by
  rw[Den]at h;subst h
  cases d' <;> rw[Den]at h' <;> first|(obtain⟨_,_,e,_⟩:=h';cases e;done)|(obtain⟨_,e,_⟩:=h';cases e;done)|(cases h';done)|(cases h';rfl)
 | .int b,d',v,h,h'=>by
  rw[Den]at h;subst h
  cases d' <;> rw[Den]at h' <;> first|(obtain⟨_,_,e,_⟩:=h';cases e;done)|(obtain⟨_,e,_⟩:=h';cases e;done)|(cases h';done)|(cases h';rfl)
 | .str b,d',v,h,h'=>by
  rw[Den]at h;subst h
  cases d' <;> rw[Den]at h' <;> first|(obtain⟨_,_,e,_⟩:=h';cases e;done)|(obtain⟨_,e,_⟩:=h';cases e;done)|(cases h';done)|(cases h';rfl)
 | .tup ds,d',v,h,h'=>by
  rw[Den]at h;obtain⟨a,vs,rfl,h1,h2⟩:=h
  cases d' <;> rw[Den]at h' <;> first|(cases h';done)|(obtain⟨_,_,e,_,q,_⟩:=h';cases e;rw[h1]at q;cases q;done)|(obtain⟨_,e,_,q⟩:=h';cases e;rw[h1]at q;cases q;done)|(obtain⟨_,_,e,q,g⟩:=h';cases e;rw[h1]at q;cases q;rw[Am.inj ds _ vs h2 g])
 | .lst ds,d',v,h,h'=>by
  rw[Den]at h;obtain⟨a,vs,rfl,_,h1,h2⟩:=h
  cases d' <;> rw[Den]at h' <;> first|(cases h';done)|(obtain⟨_,_,e,q,_⟩:=h';cases e;rw[h1]at q;cases q;done)|(obtain⟨_,e,_,q⟩:=h';cases e;rw[h1]at q;cases q;done)|(obtain⟨_,_,e,_,q,g⟩:=h';cases e;rw[h1]at q;cases q;rw[Am.inj ds _ vs h2 g])
 | .dct,d',v,h,h'=>by
  rw[Den]at h;obtain⟨a,rfl,_,h1⟩:=h
  cases d' <;> rw[Den]at h' <;> first|rfl|(cases h';done)|(obtain⟨_,_,e,q,_⟩:=h';cases e;rw[h1]at q;cases q;done)|(obtain⟨_,_,e,_,q,_⟩:=h';cases e;rw[h1]at q;cases q;done)
theorem Am.inj {P:ah->Prop}{H:Hp}:∀(ds Bt:List Dt) (vs:List V),Am P H ds vs->Am P H Bt vs->ds=Bt
 | [],Bt,vs,h,h'=>by
  rw[Am]at h;subst h
  cases Bt with
  |nil=>rfl
  |cons d Bt=>rw[Am]at h';obtain⟨_,_,e,_⟩:=h';cases e
 |d::ds,Bt,vs,h,h'=>by
  rw[Am]at h;obtain⟨v,r,rfl,h1,h2⟩:=h
  cases Bt with
  |nil=>rw[Am]at h';cases h'
  |cons d' Bt=>rw[Am]at h';obtain⟨v',r',e,h1',h2'⟩:=h';cases e;rw[Den.inj d d' v h1 h1',Am.inj ds Bt r h2 h2']
end
section
variable{Pg:bf}{w:cf}{P:ah->Prop}{H:Hp}{s:ag}
theorem T6 (hok:Bk Pg w H s.heap) {a:ah}{vs:List V}(e:H a=some (.tup vs)):∃its:List af,Ag vs its/\s.heap.IsTuple a its.toArray:=by
 obtain⟨_,its,r,p⟩:=(show Al Pg w H s.heap a (.tup vs) from hok a _ e)
 exact⟨its,r,p.tup⟩
theorem T7 (hok:Bk Pg w H s.heap) {a:ah}{vs:List V}(e:H a=some (.lst vs)):∃its:List af,Ag vs its/\s.heap.IsList a its.toArray:=by
 obtain⟨_,its,n,r,p⟩:=(show Al Pg w H s.heap a (.lst vs) from hok a _ e)
 exact⟨its,r,_,p,rfl,n,rfl⟩
theorem GX {vs:List V}{its:List af}(r:Ag vs its) {j:Nat}(h:j<its.toArray.size):∃v,vs[j]?=some v/\RelV v its.toArray[j]:=by
 have hl:=r.length;have h':j<its.length:=by simpa using h
 have hv:j<vs.length:=by omega
 obtain⟨u,e,q⟩:=r.get (i:=j) (x:=vs[j]) (ba hv);refine⟨vs[j],ba hv, ?_⟩;have:its.toArray[j]=u:=by have:its[j]?=some its[j]:=ba h';rw[this]at e;simpa using e
 rw[this];exact q
inductive Vw (P:ah->Prop) (H:Hp) (s:ag):Dt->af->Prop
 |non:Vw P H s .non .none
 |bl {b:Bool}:Vw P H s (.bl b) (.bool b)
 |int {i:Int}{t:Tok}:Vw P H s (.int i) (.int i t)
 |str {x:Str}{t:Tok}:Vw P H s (.str x) (.str x t)
 |tup {ds:List Dt}{a:ah}{vs:List V}{its:List af}(e:H a=some (.tup vs)) (g:Am P H ds vs) (q:Ag vs its) (tp:s.heap.IsTuple a its.toArray):Vw P H s (.tup ds) (.ref a)
 |lst {ds:List Dt}{a:ah}{vs:List V}{its:List af}(e:H a=some (.lst vs)) (g:Am P H ds vs) (q:Ag vs its) (tp:s.heap.IsList a its.toArray):Vw P H s (.lst ds) (.ref a)
theorem vw (hok:Bk Pg w H s.heap) {d:Dt}{v:V}{u:af}(n:nod d=true) (h:Den P H d v) (r:RelV v u):Vw P H s d u:=by
 cases d <;> rw[Den]at h
 case tup=>obtain⟨a,vs,rfl,e,g⟩:=h;cases r;obtain⟨its,q,tp⟩:=T6 hok e;exact .tup e g q tp
 case lst=>obtain⟨a,vs,rfl,_,e,g⟩:=h;cases r;obtain⟨its,q,tp⟩:=T7 hok e;exact .lst e g q tp
 case dct=>simp[nod]at n
 all_goals subst h
 case int=>obtain⟨t,rfl⟩:=r;exact .int
 case str=>obtain⟨t,rfl⟩:=r;exact .str
 all_goals cases r;constructor
theorem vJ (hok:Bk Pg w H s.heap) {A:cg}{n:Nat}(ih:∀(d d':Dt) (u u':af),eU d<=n->nod d=true->nod d'=true->Vw P H s d u->Vw P H s d' u'->jy A s u u' (bN d d')) {vs Bp:List V}{ds Bt:List Dt}{its its':List af}(hd:mU ds<=n) (m1:kJ ds=true) (m2:kJ Bt=true) (g:Am P H ds vs) (g':Am P H Bt Bp) (q:Ag vs its) (q':Ag Bp its')
  (j:Nat) (h1:j<its.toArray.size) (h2:j<its'.toArray.size):jy A s its.toArray[j] its'.toArray[j] (bN (ds.getD j .non) (Bt.getD j .non)):=by
 obtain⟨x,ex,rx⟩:=GX q h1;obtain⟨x',ex',rx'⟩:=GX q' h2;obtain⟨dx,edx,gx⟩:=g.get ex;obtain⟨dx',edx',gx'⟩:=g'.get ex';have e1:ds.getD j .non=dx:=by simp[ow,edx]
 have e2:Bt.getD j .non=dx':=by simp[ow,edx']
 rw[e1,e2];have hm:=dg edx;have k1:=zY m1 hm;have k2:=zY m2 (dg edx');exact ih dx dx' _ _ (di (GW hm) hd) k1 k2 (vw hok k1 gx rx) (vw hok k2 gx' rx')
theorem GY (hok:Bk Pg w H s.heap) (n:Nat) (ih:∀m,m+1=n->∀(A:cg) (d d':Dt) (u u':af),eU d<=m->A.units+m+1<cLine->nod d=true->nod d'=true->Vw P H s d u->Vw P H s d' u'->qu A s u u' (bN d d')/\jy A s u u' (bN d d'))
  (A:cg) (d d':Dt) (u u':af) (hn:eU d<=n) (hu:A.units+n+1<cLine) (n1:nod d=true) (n2:nod d'=true) (h:Vw P H s d u) (h':Vw P H s d' u'):qu A s u u' (bN d d')/\jy A s u u' (bN d d'):=by
 have Aw:A.units<cLine:=by omega
 have ok:∀{a1 a2:ah}{b:Bool},(qu A s (.ref a1) (.ref a2) b)->(a1=a2->b=true)->qu A s (.ref a1) (.ref a2) b/\jy A s (.ref a1) (.ref a2) b:=λ{a1 a2 b} key z=>⟨key,by
  by_cases Cq:a1=a2
  ·rw[z Cq,Cq];exact .same _
  ·exact .of_refs Cq key⟩
 have Cc:1<=n->∀(d d':Dt) (u u':af),eU d<=n - 1->nod d=true->nod d'=true->Vw P H s d u->Vw P H s d' u'->jy A.in1 s u u' (bN d d'):=λhd d d' u u' a b c e f=>(ih (n - 1) (by omega) A.in1 d d' u u' a (by show A.units+1+(n - 1)+1<cLine;omega) b c e f).2
 cases h <;> cases h'
 case tup.tup ds a1 vs1 its1 e1 g1 q1 tp1 Bt a2 vs2 Bn e2 g2 q2 tp2=>
  rw[nod]at n1 n2;rw[eU]at hn;have hl1:=g1.length;have hl2:=g2.length;have hq1:=q1.length;have hq2:=q2.length;refine ok ?_ λCq=>?_
  ·rw[bN];have z:=SeqAt.RcAt.tuples (e:=λj=>bN (ds.getD j .non) (Bt.getD j .non)) tp1 tp2 Aw (vJ hok (Cc (by omega)) (by omega) n1 n2 g1 g2 q1 q2);have s1:its1.toArray.size=ds.length:=by simp;omega
   have s2:Bn.toArray.size=Bt.length:=by simp;omega
   rw[s1,s2]at z
   by_cases hlen:ds.length=Bt.length
   ·rw[sT hlen];rw[<-hlen,uz]at z;simpa using z
   ·rw[sU hlen];rw[show(ds.length==Bt.length)=false from beq_eq_false_iff_ne.mpr hlen,pd]at z;exact z
  ·subst Cq;rw[e1]at e2;cases e2;rw[Am.inj ds Bt _ g1 g2,zW _ (by rw[nod];exact n2)]
 case lst.lst ds a1 vs1 its1 e1 g1 q1 tp1 Bt a2 vs2 Bn e2 g2 q2 tp2=>
  rw[nod]at n1 n2;rw[eU]at hn;have hl1:=g1.length;have hl2:=g2.length;have hq1:=q1.length;have hq2:=q2.length;refine ok ?_ λCq=>?_
  ·rw[bN]
   by_cases hlen:ds.length=Bt.length
   ·have z:=SeqAt.RcAt.lists (e:=λj=>bN (ds.getD j .non) (Bt.getD j .non)) tp1 tp2 (by simp;omega) Aw (vJ hok (Cc (by omega)) (by omega) n1 n2 g1 g2 q1 q2);rw[sT hlen];simpa[hq1.symm,hl1]using z
   ·rw[sU hlen];exact SeqAt.RcAt.lists_lengths tp1 tp2 (by simp;omega) Aw
  ·subst Cq;rw[e1]at e2;cases e2;rw[Am.inj ds Bt _ g1 g2,zW _ (by rw[nod];exact n2)]
 case non.non=>exact⟨.none_none,.same _⟩
 case non.bl=>exact⟨.none_bool _,.none_bool _⟩
 case non.int=>exact⟨.none_int _ _,.none_int _ _⟩
 case non.str=>exact⟨.none_str _ _,.none_str _ _⟩
 case non.tup=>exact⟨.none_tuple ‹_› Aw,.none_tuple ‹_› Aw⟩
 case non.lst=>exact⟨.none_list ‹_› Aw,.none_list ‹_› Aw⟩
 case bl.non=>exact⟨.bool_none _,.bool_none _⟩
 case bl.bl=>exact⟨.bool_bool _ _,.bool_bool _ _⟩
 case bl.int=>exact⟨.bool_int _ _ _,.bool_int _ _ _⟩
 case bl.str=>exact⟨.bool_str _ _ _,.bool_str _ _ _⟩
 case bl.tup=>exact⟨.bool_tuple _ ‹_› Aw,.bool_tuple _ ‹_› Aw⟩
 case bl.lst=>exact⟨.bool_list _ ‹_› Aw,.bool_list _ ‹_› Aw⟩
 case int.non=>exact⟨.int_none _ _,.int_none _ _⟩
 case int.bl=>exact⟨.int_bool _ _ _,.int_bool _ _ _⟩
 case int.int=>exact⟨.int_int _ _ _ _,.int_int _ _ _ _⟩
 case int.str=>exact⟨.int_str _ _ _ _,.int_str _ _ _ _⟩
 case int.tup=>exact⟨.int_tuple _ _ ‹_› Aw,.int_tuple _ _ ‹_› Aw⟩
 case int.lst=>exact⟨.int_list _ _ ‹_› Aw,.int_list _ _ ‹_› Aw⟩
 case str.non=>exact⟨.str_none _ _,.str_none _ _⟩
 case str.bl=>exact⟨.str_bool _ _ _,.str_bool _ _ _⟩
 case str.int=>exact⟨.str_int _ _ _ _,.str_int _ _ _ _⟩
 case str.str=>exact⟨.str_str _ _ _ _,.str_str _ _ _ _⟩
 case str.tup=>exact⟨.str_tuple _ _ ‹_› Aw,.str_tuple _ _ ‹_› Aw⟩
 case str.lst=>exact⟨.str_list _ _ ‹_› Aw,.str_list _ _ ‹_› Aw⟩
 case tup.non=>exact⟨.tuple_none ‹_› Aw,.tuple_none ‹_› Aw⟩
 case tup.bl=>exact⟨.tuple_bool _ ‹_› Aw,.tuple_bool _ ‹_› Aw⟩
 case tup.int=>exact⟨.tuple_int _ _ ‹_› Aw,.tuple_int _ _ ‹_› Aw⟩
 case tup.str=>exact⟨.tuple_str _ _ ‹_› Aw,.tuple_str _ _ ‹_› Aw⟩
 case tup.lst=>exact⟨.tuple_list ‹_› ‹_› Aw,.tuple_list ‹_› ‹_› Aw⟩
 case lst.non=>exact⟨.list_none ‹_› Aw,.list_none ‹_› Aw⟩
 case lst.bl=>exact⟨.list_bool _ ‹_› Aw,.list_bool _ ‹_› Aw⟩
 case lst.int=>exact⟨.list_int _ _ ‹_› Aw,.list_int _ _ ‹_› Aw⟩
 case lst.str=>exact⟨.list_str _ _ ‹_› Aw,.list_str _ _ ‹_› Aw⟩
 case lst.tup=>exact⟨.list_tuple ‹_› ‹_› Aw,.list_tuple ‹_› ‹_› Aw⟩
theorem zZ (hok:Bk Pg w H s.heap):∀(n:Nat) (A:cg) (d d':Dt) (u u':af),eU d<=n->A.units+n+1<cLine->nod d=true->nod d'=true->Vw P H s d u->Vw P H s d' u'->qu A s u u' (bN d d')/\jy A s u u' (bN d d')
 |0=>GY hok 0 λ_ e=>by cases e
 |n+1=>GY hok _ λm e=>by cases e;exact zZ hok n
theorem GZ (hok:Bk Pg w H s.heap) (n:Nat) (A:cg) (d d':Dt) (v v':V) (u u':af) (a:eU d<=n) (b:A.units+n+1<cLine) (n1:nod d=true) (n2:nod d'=true) (h:Den P H d v) (h':Den P H d' v') (r:RelV v u) (r':RelV v' u'):
  qu A s u u' (bN d d')/\jy A s u u' (bN d d'):=zZ hok n A d d' u u' a b n1 n2 (vw hok n1 h r) (vw hok n2 h' r')
end
end L2
namespace L2.Mr
open PySem PySem.Spec PyProof.Rows
inductive Dv where
 |non|bl (b:Bool)|int (i:Int)|str (x:Str)|tup (xs:List Dv)|ref (i:Nat)|edc|exc (c:Nat)|scr
inductive Ob where
 |lst (xs:List Dv)
 |clo (k t:Nat)
abbrev Hs:=List Ob
abbrev Ev:=List (Option Dv)
inductive Rs (α:Type) where
 |ok (a:α) (h:Hs)|ex (c:Nat) (h:Hs)|bad
abbrev zv:=List Dv->Hs->Rs Dv
abbrev zw:=List Dv
abbrev zx:=Option Dv
noncomputable def Rs.bind {α β:Type}(r:Rs α) (f:α->Hs->Rs β):Rs β:=match r with
 | .ok a h=>f a h
 | .ex c h=>.ex c h
 | .bad=>.bad
@[simp] theorem Rs.bind_ok {α β:Type}(a:α) (h:Hs) (f:α->Hs->Rs β):(Rs.ok a h).bind f=f a h:=rfl
@[simp] theorem Rs.bind_ex {α β:Type}(c:Nat) (h:Hs) (f:α->Hs->Rs β):(Rs.ex c h).bind f=.ex c h:=rfl
@[simp] theorem Rs.bind_bad {α β:Type}(f:α->Hs->Rs β):(Rs.bad).bind f=.bad:=rfl
abbrev M (α:Type):=Ev->Hs->Rs α
structure Cf0 where
 K:ao
 cl:Nat->ah
 scr:zr
 sa:ah
 tab:Option ah:=none
 lq:Str:=Str.empty
def eV (C:af) (e T:ah) (a0:af) (h:cx):Prop:=∃oe vs,h.get? e=some oe/\oe.cls=C/\oe.data=.fields vs/\vs[0]?=some a0/\vs[1]?=some (.ref T)/\oe.dict=none
def vK (G:Cf0) (H:Hp) (c:Nat) (u:af):Prop:=∃e φ,u=.ref e/\H e=some (.ext φ)/\∀h,φ h->∃o,h.get? e=some o/\o.cls=.ref (G.cl c)
def AA:HO->Prop
 | .tup _=>True
 | .dK kvs=>kvs=[]
 | .frz _ _=>True
 |_=>False
def FzL (K:ao) (H:Hp) (a:ah) (xs:List V):Prop:=(∃o,H a=some (.frz o (.lst xs))) ∨
  ∃(o:Obj) (its:Array af) (n:Nat),K.lookup a=some o/\o.cls=.type "list"/\o.dict=none/\o.data=.seq its n/\its.size<=bz/\Ag xs its.toList
theorem FzL.sq {K:ao}{H:Hp}{a:ah}{xs:List V}(h:FzL K H a xs):Ay K H a xs:=by
 rcases h with⟨o,h⟩|h
 ·exact .inl (.inr ⟨o,h⟩)
 ·exact .inr h
theorem FzL.keep {K:ao}{H H':Hp}{a:ah}{xs:List V}(h:FzL K H a xs) (k:∀a o,AA o->H a=some o->H' a=some o):FzL K H' a xs:=by
 rcases h with⟨o,h⟩|h
 ·exact .inl ⟨o,k a _ trivial h⟩
 ·exact .inr h
mutual
def Af (G:Cf0) (μ:Nat->ah) (n:Nat) (H:Hp):Dv->V->Prop
 | .non,v=>v=.non
 | .bl b,v=>v=.bl b
 | .int i,v=>v=.int i
 | .str x,v=>v=.str x
 | .tup ds,v=>∃a vs,v=.ref a/\H a=some (.tup vs)/\RelDL G μ n H ds vs
 | .ref i,v=>i<n/\v=.ref (μ i)
 | .edc,v=>∃a,v=.ref a/\H a=some (.dK [])
 | .exc c,v=>∃a o u,v=.ref a/\H a=some (.frz o u)/\o.cls=.ref (G.cl c)/\o.dict=none/\∃vs,o.data=.fields vs
 | .scr,v=>v=.ref G.sa/\FzL G.K H G.sa (G.scr.map V.int)
def RelDL (G:Cf0) (μ:Nat->ah) (n:Nat) (H:Hp):zw->List V->Prop
 | [],vs=>vs=[]
 |d::ds,vs=>∃v r,vs=v::r/\Af G μ n H d v/\RelDL G μ n H ds r
end
structure Ext (μ:Nat->ah) (n:Nat) (H:Hp) (μ':Nat->ah) (n':Nat) (H':Hp):Prop where
 le:n<=n'
 mu:∀i,i<n->μ' i=μ i
 im:∀a o,AA o->H a=some o->H' a=some o
theorem Ext.refl {μ:Nat->ah}{n:Nat}{H:Hp}:Ext μ n H μ n H:=⟨aj _,λ_ _=>rfl,λ_ _ _ e=>e⟩
theorem Ext.trans {μ μ1 μ2:Nat->ah}{n n1 n2:Nat}{H H1 H2:Hp}(a:Ext μ n H μ1 n1 H1) (b:Ext μ1 n1 H1 μ2 n2 H2):Ext μ n H μ2 n2 H2:=⟨di a.le b.le,λi hi=>(b.mu i (ay hi a.le)).trans (a.mu i hi),λc o i e=>b.im c o i (a.im c o i e)⟩
structure Cfg extends Cf0 where
 clo:(Nat->ah)->Nat->Hp->Nat->Nat->ah->Prop:=λ_ _ _ _ _ _=>True
 cloM:∀{μ μ':Nat->ah}{n n':Nat}{H H':Hp}{k t:Nat}{a:ah},Ext μ n H μ' n' H'->clo μ n H k t a->clo μ' n' H' k t a:=by intros;trivial
instance:Coe Cfg Cf0:=⟨Cfg.toCf0⟩
section
variable{G:Cf0}{μ μ':Nat->ah}{n n':Nat}{H H':Hp}
mutual
theorem Af.mono (x:Ext μ n H μ' n' H'):∀(d:Dv) (v:V),Af G μ n H d v->Af G μ' n' H' d v
 | .non,v,h=>h
 | .bl b,v,h=>h
 | .int i,v,h=>h
 | .str s,v,h=>h
 | .tup ds,v,h=>by obtain⟨a,vs,e,h1,h2⟩:=h;exact⟨a,vs,e,x.im a _ trivial h1,RelDL.mono x ds vs h2⟩
 | .ref i,v,h=>by obtain⟨h1,h2⟩:=h;exact⟨ay h1 x.le,by rw[x.mu i h1];exact h2⟩
 | .edc,v,h=>by obtain⟨a,e,h1⟩:=h;exact⟨a,e,x.im a _ rfl h1⟩
 | .exc c,v,h=>by obtain⟨a,o,u,e,h1,h2⟩:=h;exact⟨a,o,u,e,x.im a _ trivial h1,h2⟩
 | .scr,v,h=>by obtain⟨h1,h2⟩:=h;exact⟨h1,h2.keep x.im⟩
theorem RelDL.mono (x:Ext μ n H μ' n' H'):∀(ds:zw) (vs:List V),RelDL G μ n H ds vs->RelDL G μ' n' H' ds vs
 | [],vs,h=>h
 |d::ds,vs,h=>by obtain⟨v,r,e,h1,h2⟩:=h;exact⟨v,r,e,Af.mono x d v h1,RelDL.mono x ds r h2⟩
end
theorem RelDL.length:∀{ds:zw}{vs:List V},RelDL G μ n H ds vs->vs.length=ds.length
 | [],_,h=>by rw[RelDL]at h;subst h;rfl
 |d::ds,_,h=>by rw[RelDL]at h;obtain⟨v,r,rfl,_,h2⟩:=h;rw[cp,cp,RelDL.length h2]
theorem RelDL.get:∀{ds:zw}{vs:List V}{i:Nat}{d:Dv},RelDL G μ n H ds vs->ds[i]?=some d->∃v,vs[i]?=some v/\Af G μ n H d v
 | [],_,_,_,_,e=>by simp at e
 |d::ds,_,0,d',h,e=>by rw[RelDL]at h;obtain⟨v,r,rfl,h1,_⟩:=h;simp at e;subst e;exact⟨v,rfl,h1⟩
 |d::ds,_,i+1,d',h,e=>by rw[RelDL]at h;obtain⟨v,r,rfl,_,h2⟩:=h;obtain⟨u,e1,h3⟩:=RelDL.get (i:=i) h2 (by simpa using e);exact⟨u,by simpa using e1,h3⟩
theorem RelDL.nil:RelDL G μ n H [] []:=by rw[RelDL]
theorem RelDL.cons {d:Dv}{v:V}{ds:zw}{vs:List V}(h:Af G μ n H d v) (t:RelDL G μ n H ds vs):RelDL G μ n H (d::ds) (v::vs):=by rw[RelDL];exact⟨v,vs,rfl,h,t⟩
theorem RelDL.append:∀{ds es:zw}{vs ws:List V},RelDL G μ n H ds vs->RelDL G μ n H es ws->RelDL G μ n H (ds++es) (vs++ws)
 | [],_,_,_,h,h'=>by rw[RelDL]at h;subst h;exact h'
 |d::ds,_,_,_,h,h'=>by rw[RelDL]at h;obtain⟨v,r,rfl,h1,h2⟩:=h;exact RelDL.cons h1 (RelDL.append h2 h')
theorem RelDL.take:∀{ds:zw}{vs:List V}(k:Nat),RelDL G μ n H ds vs->RelDL G μ n H (ds.take k) (vs.take k)
 | [],_,k,h=>by rw[RelDL]at h;subst h;simp[RelDL.nil]
 |d::ds,_,0,h=>by simp[RelDL.nil]
 |d::ds,_,k+1,h=>by rw[RelDL]at h;obtain⟨v,r,rfl,h1,h2⟩:=h;exact RelDL.cons h1 (RelDL.take k h2)
theorem RelDL.drop:∀{ds:zw}{vs:List V}(k:Nat),RelDL G μ n H ds vs->RelDL G μ n H (ds.drop k) (vs.drop k)
 | [],_,k,h=>by rw[RelDL]at h;subst h;simp[RelDL.nil]
 |d::ds,_,0,h=>h
 |d::ds,_,k+1,h=>by rw[RelDL]at h;obtain⟨v,r,rfl,h1,h2⟩:=h;exact RelDL.drop k h2
theorem RelDL.set {x:Dv}{u:V}(hx:Af G μ n H x u):∀{ds:zw}{vs:List V}(i:Nat),RelDL G μ n H ds vs->RelDL G μ n H (ds.set i x) (vs.set i u)
 | [],_,_,h=>by rw[RelDL]at h;subst h;exact RelDL.nil
 |d::ds,_,0,h=>by rw[RelDL]at h;obtain⟨v,r,rfl,h1,h2⟩:=h;exact RelDL.cons hx h2
 |d::ds,_,i+1,h=>by rw[RelDL]at h;obtain⟨v,r,rfl,h1,h2⟩:=h;exact RelDL.cons h1 (RelDL.set hx i h2)
end
def ObR (G:Cfg) (μ:Nat->ah) (n:Nat) (H:Hp) (a:ah):Ob->Prop
 | .lst xs=>∃vs,H a=some (.lst vs)/\RelDL G μ n H xs vs
 | .clo k t=>t<n/\(∃o u,H a=some (.frz o u))/\G.clo μ n H k t a
theorem ObR.clo {G:Cfg}{μ μ':Nat->ah}{n n':Nat}{H H':Hp}{a:ah}{k t:Nat}(r:ObR G μ n H a (.clo k t)) (x:Ext μ n H μ' n' H'):ObR G μ' n' H' a (.clo k t):=by obtain⟨h1,⟨o,u,h2⟩,h3⟩:=r;exact⟨ay h1 x.le,⟨o,u,x.im _ _ trivial h2⟩,G.cloM x h3⟩
def T9 (q:Str) (oc:Obj):Prop:=∃vs t,oc.data=.fields vs/\vs[1]?=some (.str q t)
def TabOk (G:Cf0) (H:Hp):Prop:=∀P,G.tab=some P->∃ps,H P=some (.tbl ps)/\TriplesOk ps.toList/\∀pos cv,codeAmong pos ps.toList=some cv->∃q oc,cv=.ref q/\H q=some (.frz oc (.own 0))/\T9 G.lq oc
theorem TabOk.keep {G:Cf0}{H H':Hp}(t:TabOk G H) (k:∀a o,(∀xs,o≠.lst xs)->(∀φ,o≠.ext φ)->H a=some o->H' a=some o):TabOk G H':=λP e=>by obtain⟨ps,h1,h2,h3⟩:=t P e;refine⟨ps,k P _ (λ_ z=>by cases z) (λ_ z=>by cases z) h1,h2,λpos cv q=>?_⟩;obtain⟨a,oc,e1,e2,e3⟩:=h3 pos cv q;exact⟨a,oc,e1,k a _ (λ_ z=>by cases z) (λ_ z=>by cases z) e2,e3⟩
structure Av (G:Cfg) (μ:Nat->ah) (h:Hs) (H:Hp):Prop where
 inj:∀i j,i<h.length->j<h.length->μ i=μ j->i=j
 ob:∀(i:Nat) (o:Ob),h[i]?=some o->ObR G μ h.length H (μ i) o
 tab:TabOk G H
structure Ao (G:Cfg) (μ:Nat->ah) (n:Nat) (H:Hp) (ρ:Ev) (σ:St):Prop where
 len:ρ.length=σ.length
 at_:∀(i:Nat) (d:Dv),ρ[i]?=some (some d)->∃v,σ[i]?=some (some v)/\Af G μ n H d v
theorem Ao.mono {G:Cfg}{μ μ':Nat->ah}{n n':Nat}{H H':Hp}{ρ:Ev}{σ:St}(r:Ao G μ n H ρ σ) (x:Ext μ n H μ' n' H'):Ao G μ' n' H' ρ σ:=⟨r.len,λi d e=>let ⟨v,e1,h⟩:=r.at_ i d e;⟨v,e1,Af.mono x d v h⟩⟩
def Out {α β:Type}(G:Cfg) (E:XK) (μ:Nat->ah) (n:Nat) (H:Hp) (r:Rs α) (R:(Nat->ah)->Nat->Hp->α->β->Prop) (Q:β->Hp->Prop):Prop:=
 match r with
 | .ok d h'=>∀μ' H' v,Ext μ n H μ' h'.length H'->Av G μ' h' H'->R μ' h'.length H' d v->Q v H'
 | .ex c h'=>∀μ' H' u,Ext μ n H μ' h'.length H'->Av G μ' h' H'->vK G H' c u->E u none H'
 | .bad=>False
theorem Out.bind {α β γ δ:Type}{G:Cfg}{E:XK}{μ:Nat->ah}{n:Nat}{H:Hp}{r:Rs α}{f:α->Hs->Rs γ}{R:(Nat->ah)->Nat->Hp->γ->δ->Prop}{Q:δ->Hp->Prop}{R1:(Nat->ah)->Nat->Hp->α->β->Prop}
  (o:Out G E μ n H (r.bind f) R Q):Out G E μ n H r R1 λv H1=>∃μ1 d h1,Ext μ n H μ1 h1.length H1/\Av G μ1 h1 H1/\R1 μ1 h1.length H1 d v/\Out G E μ1 h1.length H1 (f d h1) R Q:=by
 cases r with
 |bad=>exact o
 |ex c h'=>exact o
 |ok d h'=>
  intro μ1 H1 v x1 s1 r1;refine⟨μ1,d,h',x1,s1,r1, ?_⟩;have o':Out G E μ n H (f d h') R Q:=o
  cases e:f d h' with
  |bad=>rw[e]at o';exact o'
  |ex c h2=>rw[e]at o';exact λμ2 H2 u x2 s2 r2=>o' μ2 H2 u (x1.trans x2) s2 r2
  |ok d2 h2=>rw[e]at o';exact λμ2 H2 u x2 s2 r2=>o' μ2 H2 u (x1.trans x2) s2 r2
theorem Out.mono {α β:Type}{G:Cfg}{E:XK}{μ:Nat->ah}{n:Nat}{H:Hp}{r:Rs α}{R:(Nat->ah)->Nat->Hp->α->β->Prop}{Q Q':β->Hp->Prop}(o:Out G E μ n H r R Q) (h:∀v H',Q v H'->Q' v H'):Out G E μ n H r R Q':=by
 cases r with
 |bad=>exact o
 |ex c h'=>exact o
 |ok d h'=>exact λμ' H' v x s r=>h _ _ (o μ' H' v x s r)
abbrev RB:(Nat->ah)->Nat->Hp->Bool->Bool->Prop:=λ_ _ _ b b'=>b'=b
def hV (G:Cfg) (E:XK) (m:M Dv):TE:=λσ H Q=>∃μ ρ h,Ao G μ h.length H ρ σ/\Av G μ h H/\Out G E μ h.length H (m ρ h) (Af G) Q
def iD (G:Cfg) (E:XK) (m:M Bool):TT:=λσ H Q=>∃μ ρ h,Ao G μ h.length H ρ σ/\Av G μ h H/\Out G E μ h.length H (m ρ h) RB Q
def AB (G:Cfg) (E:XK) (m:M zw ):TA:=λσ H Q=>∃μ ρ h,Ao G μ h.length H ρ σ/\Av G μ h H/\Out G E μ h.length H (m ρ h) (RelDL G) Q
def aK (X:Cx) (G:Cfg) (E:XK) (pe:br) (m:M Dv):Prop:=X.K=G.K->PE X pe (hV G E m)
def fO (X:Cx) (G:Cfg) (E:XK) (pe:br) (m:M Bool):Prop:=X.K=G.K->PT X pe (iD G E m)
def dY (X:Cx) (G:Cfg) (E:XK) (pe:List br) (m:M zw ):Prop:=X.K=G.K->PA X pe (AB G E m)
theorem PE.imp {X:Cx}{e:br}{t t':TE}(h:PE X e t) (i:∀σ H Q,t' σ H Q->t σ H Q):PE X e t':=λpins s σ H Q I q=>h pins s σ H Q I (i σ H Q q)
theorem PT.imp {X:Cx}{e:br}{t t':TT}(h:PT X e t) (i:∀σ H Q,t' σ H Q->t σ H Q):PT X e t':=λpins s σ H Q I q=>h pins s σ H Q I (i σ H Q q)
theorem PA.imp {X:Cx}{e:List br}{t t':TA}(h:PA X e t) (i:∀σ H Q,t' σ H Q->t σ H Q):PA X e t':=λpos pins s σ H Q I q=>h pos pins s σ H Q I (i σ H Q q)
section
variable{G:Cfg}{E:XK}{σ:St}{H:Hp}
theorem fG {m:M Dv}{γ δ:Type}{f:Dv->Hs->Rs γ}{R:(Nat->ah)->Nat->Hp->γ->δ->Prop}{Q:δ->Hp->Prop}{Q1:V->Hp->Prop}{μ:Nat->ah}{ρ:Ev}{h:Hs}(rs:Ao G μ h.length H ρ σ) (s:Av G μ h H) (o:Out G E μ h.length H ((m ρ h).bind f) R Q)
  (k:∀μ1 d h1 v H1,Ext μ h.length H μ1 h1.length H1->Ao G μ1 h1.length H1 ρ σ->Av G μ1 h1 H1->Af G μ1 h1.length H1 d v->Out G E μ1 h1.length H1 (f d h1) R Q->Q1 v H1):hV G E m σ H Q1:=
 ⟨μ,ρ,h,rs,s,(o.bind (R1:=Af G)).mono λv H1 ⟨μ1,d,h1,x,s1,r1,o1⟩=>k μ1 d h1 v H1 x (rs.mono x) s1 r1 o1⟩
theorem AD {m:M Bool}{γ δ:Type}{f:Bool->Hs->Rs γ}{R:(Nat->ah)->Nat->Hp->γ->δ->Prop}{Q:δ->Hp->Prop}{Q1:Bool->Hp->Prop}{μ:Nat->ah}{ρ:Ev}{h:Hs}(rs:Ao G μ h.length H ρ σ) (s:Av G μ h H) (o:Out G E μ h.length H ((m ρ h).bind f) R Q)
  (k:∀μ1 b h1 H1,Ext μ h.length H μ1 h1.length H1->Ao G μ1 h1.length H1 ρ σ->Av G μ1 h1 H1->Out G E μ1 h1.length H1 (f b h1) R Q->Q1 b H1):iD G E m σ H Q1:=
 ⟨μ,ρ,h,rs,s,(o.bind (R1:=RB)).mono λv H1 ⟨μ1,d,h1,x,s1,r1,o1⟩=>by have e:v=d:=r1;subst e;exact k μ1 v h1 H1 x (rs.mono x) s1 o1⟩
theorem kK {m:M zw }{γ δ:Type}{f:zw->Hs->Rs γ}{R:(Nat->ah)->Nat->Hp->γ->δ->Prop}{Q:δ->Hp->Prop}{Q1:List V->Hp->Prop}{μ:Nat->ah}{ρ:Ev}{h:Hs}(rs:Ao G μ h.length H ρ σ) (s:Av G μ h H) (o:Out G E μ h.length H ((m ρ h).bind f) R Q)
  (k:∀μ1 d h1 v H1,Ext μ h.length H μ1 h1.length H1->Ao G μ1 h1.length H1 ρ σ->Av G μ1 h1 H1->RelDL G μ1 h1.length H1 d v->Out G E μ1 h1.length H1 (f d h1) R Q->Q1 v H1):AB G E m σ H Q1:=
 ⟨μ,ρ,h,rs,s,(o.bind (R1:=RelDL G)).mono λv H1 ⟨μ1,d,h1,x,s1,r1,o1⟩=>k μ1 d h1 v H1 x (rs.mono x) s1 r1 o1⟩
theorem Out.val {α β:Type}{μ:Nat->ah}{h:Hs}{d:α}{R:(Nat->ah)->Nat->Hp->α->β->Prop}{Q:β->Hp->Prop}{v:β}(s:Av G μ h H) (o:Out G E μ h.length H (.ok d h) R Q) (r:R μ h.length H d v):Q v H:=o μ H v Ext.refl s r
end
section
variable{G:Cfg}{μ:Nat->ah}{h:Hs}{H H':Hp}{p:ah}{n:Nat}
theorem Ext.same (e:Bw H H'):Ext μ n H μ n H':=⟨aj _,λ_ _=>rfl,λa o _ q=>e a o q⟩
theorem Av.same (s:Av G μ h H) (e:Bw H H'):Av G μ h H':=⟨s.inj,λi o q=>by
 have r:=s.ob i o q
 cases o with
 |lst xs=>obtain⟨vs,e1,r1⟩:=r;exact⟨vs,e _ _ e1,RelDL.mono (Ext.same e) _ _ r1⟩
 |clo k t=>exact r.clo (Ext.same e),s.tab.keep λa o _ _ q=>e a o q⟩
theorem dQ {o:HO}(h:H p=none):Bw H (aV H p o):=λb u e=>by rw[cF (fV e h)];exact e
theorem Av.not (s:Av G μ h H) (hp:H p=none):∀(i:Nat),i<h.length->μ i≠p:=λi hi z=>by
 have q:h[i]?=some h[i]:=ba hi;generalize h[i]=o at q
 cases o with
 |lst xs=>obtain⟨vs,e1,_⟩:=s.ob i _ q;rw[z,hp]at e1;cases e1
 |clo k t=>obtain⟨_,⟨o,u,e1⟩,_⟩:=s.ob i _ q;rw[z,hp]at e1;cases e1
theorem Av.alloc {ds:zw}{vs:List V}(s:Av G μ h H) (hp:H p=none) (r:RelDL G μ h.length H ds vs):
  Ext μ h.length H (λi=>if i=h.length then p else μ i) (h++[Ob.lst ds]).length (aV H p (.lst vs))/\Av G (λi=>if i=h.length then p else μ i) (h++[.lst ds]) (aV H p (.lst vs)):=by
 have hl:(h++[Ob.lst ds]).length=h.length+1:=by simp
 have hq:=s.not hp;have x:Ext μ h.length H (λi=>if i=h.length then p else μ i) (h++[Ob.lst ds]).length (aV H p (.lst vs)):=⟨by omega,λi hi=>if_neg (bg hi),λa o _ e=>dQ hp a o e⟩
 refine⟨x,λi j hi hj e=>?_,λi o q=>?_,s.tab.keep λa o _ _ q=>dQ hp a o q⟩
 ·rw[hl]at hi hj
  by_cases h1:i=h.length <;> by_cases h2:j=h.length
  ·omega
  ·rw[if_pos h1,if_neg h2]at e;exact absurd e.symm (hq j (by omega))
  ·rw[if_neg h1,if_pos h2]at e;exact absurd e (hq i (by omega))
  ·rw[if_neg h1,if_neg h2]at e;exact s.inj i j (by omega) (by omega) e
 ·by_cases h1:i<h.length
  ·rw[fi h1]at q;have r1:=s.ob i o q
   cases o with
   |lst xs=>obtain⟨ws,e1,r2⟩:=r1;exact⟨ws,by rw[if_neg (bg h1)];exact dQ hp _ _ e1,RelDL.mono x _ _ r2⟩
   |clo k t=>rw[if_neg (bg h1)];exact r1.clo x
  ·rw[gw (by omega)]at q;have h2:i=h.length:=by have:=(bq.mp q).1;simp at this;omega
   subst h2;simp at q;subst q;exact⟨vs,by rw[if_pos rfl];exact eR,RelDL.mono x _ _ r⟩
theorem Av.write {xs ys:zw}{i:Nat}{vs:List V}(s:Av G μ h H) (q:h[i]?=some (.lst xs)) (r:RelDL G μ h.length H ys vs):
  Ext μ h.length H μ (h.set i (.lst ys)).length (aV H (μ i) (.lst vs))/\Av G μ (h.set i (.lst ys)) (aV H (μ i) (.lst vs)):=by
 obtain⟨us,e0,r0⟩:=s.ob i _ q;have hi:i<h.length:=(bq.mp q).1;have im:∀a o,AA o->H a=some o->aV H (μ i) (.lst vs) a=some o:=λa o m e=>by
  rw[cF];exact e
  rintro rfl;rw[e0]at e;cases e;exact m
 have x:Ext μ h.length H μ (h.set i (.lst ys)).length (aV H (μ i) (.lst vs)):=⟨by simp,λ_ _=>rfl,im⟩
 refine⟨x,λa b ha hb=>?_,λj o e=>?_,s.tab.keep λa o n1 _ q=>?_⟩
 rotate_left 2
 ·rw[cF];exact q
  rintro rfl;rw[e0]at q;cases q;exact n1 _ rfl
 ·rw[rz]at ha hb;exact s.inj a b ha hb
 ·by_cases Bx:i=j
  ·subst Bx;rw[gv hi]at e;cases e;exact⟨vs,eR,RelDL.mono x _ _ r⟩
  ·rw[gr Bx]at e;have hj:j<h.length:=(bq.mp e).1;have r1:=s.ob j o e;have ne:μ j≠μ i:=λz=>Bx (s.inj j i hj hi z).symm
   cases o with
   |lst zs=>obtain⟨ws,e1,r2⟩:=r1;exact⟨ws,by rw[cF ne];exact e1,RelDL.mono x _ _ r2⟩
   |clo k t=>exact r1.clo x
end
def lim {α:Type}(n:Nat) (r:Rs α):Rs α:=if n<=1000000 then r else .bad
theorem sV {n:Nat}(h:n<=1000000):n<=bz:=di h (by decide)
def getL (h:Hs) (i:Nat):Option zw :=match h[i]? with
 |some (.lst xs)=>some xs
 |_=>none
theorem dG {h:Hs}{i:Nat}{xs:zw}(e:getL h i=some xs):h[i]?=some (.lst xs):=by
 unfold getL at e
 cases q:h[i]? with
 |none=>rw[q]at e;cases e
 |some o=>
  cases o with
  |lst ys=>rw[q]at e;cases e;rfl
  |clo k t=>rw[q]at e;cases e
section
variable{X:Cx}{G:Cfg}{E:XK}{a b c:br}{ma mb mc:M Dv}{pos:Pos}{es:List br}{aQ:M zw }
def aA (i:Nat):M Dv:=λρ h=>match ρ[i]? with
 |some (some d)=>.ok d h
 |_=>.bad
theorem aE (i:Nat) {x:Str}(hN:X.N[i]?=some x:=by rfl) (hv:sL X.env.scope x:=by first|exact Or.inl rfl|exact Or.inr (Or.inl rfl)|exact Or.inr (Or.inr rfl))
  (hd:(x==("__debug__" : Str))=false:=by decide) (hcd:(x==("__classdict__" : Str))=false:=by decide):aK X G E (.Name x pos) (aA i):=λ_=>PE.imp (PD hN hv hd hcd) λσ H Q ⟨μ,ρ,h,rs,s,o⟩=>by
 unfold aA at o
 split at o
 ·rename_i d e;obtain⟨v,e1,r⟩:=rs.at_ i d e;exact⟨v,e1,o.val s r⟩
 ·exact o.elim
def mC (d:Dv):M Dv:=λ_ h=>.ok d h
theorem aW {i j}:aK X G E (.Constant (.int i) j pos) (mC (.int i)):=λ_=>PE.imp E6 λσ H Q ⟨μ,ρ,h,rs,s,o⟩=>o.val s (show Af G μ _ H (.int i) (.int i) from rfl)
theorem gF {i j}:aK X G E (.Constant (.bool i) j pos) (mC (.bl i)):=λ_=>PE.imp PF λσ H Q ⟨μ,ρ,h,rs,s,o⟩=>o.val s (show Af G μ _ H (.bl i) (.bl i) from rfl)
theorem mV {j}:aK X G E (.Constant .none j pos) (mC .non):=λ_=>PE.imp PH λσ H Q ⟨μ,ρ,h,rs,s,o⟩=>o.val s (show Af G μ _ H .non .non from rfl)
theorem oA {x j}:aK X G E (.Constant (.str x) j pos) (mC (.str x)):=λ_=>PE.imp PJ λσ H Q ⟨μ,ρ,h,rs,s,o⟩=>o.val s (show Af G μ _ H (.str x) (.str x) from rfl)
def aC:M zw :=λ_ h=>.ok [] h
def aB (m:M Dv) (ms:M zw ):M zw :=λρ h=>(m ρ h).bind λd h1=>(ms ρ h1).bind λds h2=>.ok (d::ds) h2
theorem aN:dY X G E [] aC:=λ_=>PA.imp mS λσ H Q ⟨μ,ρ,h,rs,s,o⟩=>o.val s RelDL.nil
theorem aG (ha:aK X G E a ma) (hr:dY X G E es aQ) (hs:ar (a::es) X.env=(false,eval a X.env)::ar es X.env:=by rfl):dY X G E (a::es) (aB ma aQ):=λhK=>PA.imp (lA (ha hK) (hr hK) hs) λσ H Q ⟨μ,ρ,h,rs,s,o⟩=>fG rs s o λμ1 d h1 v H1 x1 Ax s1 r1 o1=>kK Ax s1 o1 λμ2 ds h2 vs H2 x2 Cv s2 r2 o2=>o2.val s2 (RelDL.cons (Af.mono x2 _ _ r1) r2)
def aT (ms:M zw ):M Dv:=λρ h=>(ms ρ h).bind λds h1=>lim ds.length (.ok (.tup ds) h1)
theorem fX {k} (h:dY X G E es aQ):aK X G E (.Tuple es k pos) (aT aQ):=λhK=>PE.imp (RY (h hK)) λσ H Q ⟨μ,ρ,h,rs,s,o⟩=>kK rs s o λμ1 ds h1 vs H1 x1 Ax s1 r1 o1=>by
 unfold lim at o1
 split at o1
 ·rename_i hl;refine⟨by rw[r1.length];exact sV hl,λp hp=>?_⟩;exact o1 μ1 _ _ (Ext.same (dQ hp)) (s1.same (dQ hp)) ⟨p,vs,rfl,eR,RelDL.mono (Ext.same (dQ hp)) _ _ r1⟩
 ·exact o1.elim
def cA (ms:M zw ):M Dv:=λρ h=>(ms ρ h).bind λds h1=>lim ds.length (.ok (.ref h1.length) (h1++[.lst ds]))
theorem oC {μ:Nat->ah}{h:Hs}{H:Hp}{ds:zw}{vs:List V}{Q:VK}{p:ah}(s:Av G μ h H) (r:RelDL G μ h.length H ds vs) (hp:H p=none) (o:Out G E μ h.length H (.ok (.ref h.length) (h++[.lst ds])) (Af G) Q):Q (.ref p) (aV H p (.lst vs)):=by obtain⟨x,s'⟩:=s.alloc hp r;exact o _ _ _ x s' ⟨by simp,by show V.ref p=V.ref (if h.length=h.length then p else μ h.length);rw[if_pos rfl]⟩
theorem iW (h:dY X G E es aQ):aK X G E (.List es pos) (cA aQ):=λhK=>PE.imp (RZ (h hK)) λσ H Q ⟨μ,ρ,h,rs,s,o⟩=>kK rs s o λμ1 ds h1 vs H1 x1 Ax s1 r1 o1=>by
 unfold lim at o1
 split at o1
 ·rename_i hl;exact⟨by rw[r1.length];exact sV hl,λp hp=>oC s1 r1 hp o1⟩
 ·exact o1.elim
def m2 (f:Dv->Dv->Hs->Rs Dv) (ma mb:M Dv):M Dv:=λρ h=>(ma ρ h).bind λx h1=>(mb ρ h1).bind λy h2=>f x y h2
def fY (G:Cfg) (r:R2) (f:Dv->Dv->Hs->Rs Dv):Prop:=∀(E:XK) (μ:Nat->ah) (h:Hs) (H:Hp) (x y:Dv) (vx vy:V) (Q:VK),Av G μ h H->Af G μ h.length H x vx->Af G μ h.length H y vy->Out G E μ h.length H (f x y h) (Af G) Q->r vx vy H Q
theorem sW {r:R2}{f:Dv->Dv->Hs->Rs Dv}(hd:fY G r f) {σ:St}{H:Hp}{Q:VK}(t:hV G E (m2 f ma mb) σ H Q):sN r (hV G E ma) (hV G E mb) σ H Q:=by obtain⟨μ,ρ,h,rs,s,o⟩:=t;exact fG rs s o λμ1 x h1 vx H1 x1 Ax s1 r1 o1=>fG Ax s1 o1 λμ2 y h2 vy H2 x2 Cv s2 r2 o2=>hd E μ2 h2 H2 x y vx vy Q s2 (Af.mono x2 _ _ r1) r2 o2
theorem qV {op:Operator}{r:R2}{f:Dv->Dv->Hs->Rs Dv}(ho:Ba X (binaryOp op) r) (hd:fY G r f) (ha:aK X G E a ma) (hb:aK X G E b mb):aK X G E (.BinOp a op b pos) (m2 f ma mb):=λhK=>PE.imp (RA ho (ha hK) (hb hK)) λ_ _ _ t=>sW hd t
theorem mW {op:CmpOp}{r:R2}{f:Dv->Dv->Hs->Rs Dv}(ho:Ba X (compareOp op) r) (hd:fY G r f) (ha:aK X G E a ma) (hb:aK X G E b mb) (hm:behindInMarks op b=false):aK X G E (.Compare a [op] [b] pos) (m2 f ma mb):=λhK=>PE.imp (RM ho (ha hK) (hb hK) hm) λ_ _ _ t=>sW hd t
def gJ:Dv->Hs->Rs Bool
 | .bl b,h=>.ok b h
 |_,_=>.bad
def mB (m:M Dv):M Bool:=λρ h=>(m ρ h).bind gJ
theorem UA {m:M Dv}{σ:St}{H:Hp}{Q:Bool->Hp->Prop}(t:iD G E (mB m) σ H Q):hV G E m σ H λx H'=>∃k,x=.bl k/\Q k H':=by
 obtain⟨μ,ρ,h,rs,s,o⟩:=t;refine fG rs s o λμ1 x h1 vx H1 x1 Ax s1 r1 o1=>?_
 cases x with
 |bl k=>exact⟨k,r1,o1.val s1 rfl⟩
 |_=>exact o1.elim
theorem lE {op:CmpOp}{r:R2}{f:Dv->Dv->Hs->Rs Dv}(ho:Ba X (compareOp op) r) (hd:fY G r f) (ha:aK X G E a ma) (hb:aK X G E b mb) (hm:behindInMarks op b=false):fO X G E (.Compare a [op] [b] pos) (mB (m2 f ma mb)):=λhK=>PT.imp (RO ho (ha hK) (hb hK) hm) λσ H Q t=>sW hd (UA t)
def qW (f f':Dv->Dv->Hs->Rs Dv) (ma mb mc:M Dv):M Dv:=λρ h=>(ma ρ h).bind λx h1=>(mb ρ h1).bind λy h2=>(f x y h2).bind λz h3=>match z with
 | .bl true=>(mc ρ h3).bind λw h4=>f' y w h4
 | .bl false=>.ok (.bl false) h3
 |_=>.bad
theorem UB {r r':R2}{f f':Dv->Dv->Hs->Rs Dv}(hd:fY G r f) (Cm:fY G r' f') {σ:St}{H:Hp}{Q:VK}(t:hV G E (qW f f' ma mb mc) σ H Q):FK r r' (hV G E ma) (hV G E mb) (hV G E mc) σ H Q:=by
 obtain⟨μ,ρ,h,rs,s,o⟩:=t;refine fG rs s o λμ1 x h1 vx H1 x1 Ax s1 r1 o1=>fG Ax s1 o1 λμ2 y h2 vy H2 x2 Cv s2 r2 o2=>?_;refine hd E μ2 h2 H2 x y vx vy _ s2 (Af.mono x2 _ _ r1) r2 ((o2.bind (R1:=Af G)).mono λvz H3 ⟨μ3,z,h3,x3,s3,r3,o3⟩=>?_)
 cases z with
 |bl k=>
  refine⟨k,r3, ?_⟩
  cases k with
  |true=>exact GG (fG (Cv.mono x3) s3 o3 λμ4 w h4 vw H4 x4 rs4 s4 r4 o4=>Cm E μ4 h4 H4 y w vy vw Q s4 (Af.mono (x3.trans x4) _ _ r2) r4 o4)
  |false=>exact GF (o3.val s3 rfl)
 |_=>exact o3.elim
theorem UC {op op':CmpOp}{r r':R2}{f f':Dv->Dv->Hs->Rs Dv}(ho:Ba X (compareOp op) r) (ho':Ba X (compareOp op') r') (hd:fY G r f) (Cm:fY G r' f') (ha:aK X G E a ma) (hb:aK X G E b mb) (hc:aK X G E c mc)
  (hm:lastMarks [op,op'] [b,c]=false:=by with_unfolding_all rfl):aK X G E (.Compare a [op,op'] [b,c] pos) (qW f f' ma mb mc):=λhK=>
 PE.imp (RP ho ho' (ha hK) (hb hK) (hc hK) hm) λ_ _ _ t=>UB hd Cm t
def iX (G:Cfg) (r:V->Hp->VK->Prop) (f:Dv->Hs->Rs Dv):Prop:=∀(E:XK) (μ:Nat->ah) (h:Hs) (H:Hp) (x:Dv) (vx:V) (Q:VK),Av G μ h H->Af G μ h.length H x vx->Out G E μ h.length H (f x h) (Af G) Q->r vx H Q
def m1 (f:Dv->Hs->Rs Dv) (ma:M Dv):M Dv:=λρ h=>(ma ρ h).bind f
theorem UD {op:UnaryOp}{r:V->Hp->VK->Prop}{f:Dv->Hs->Rs Dv}(ho:uX X (unaryOp op) r) (hd:iX G r f) (ha:aK X G E a ma):aK X G E (.UnaryOp op a pos) (m1 f ma):=λhK=>PE.imp (RC ho (ha hK)) λσ H Q ⟨μ,ρ,h,rs,s,o⟩=>fG rs s o λμ1 x h1 vx H1 x1 Ax s1 r1 o1=>hd E μ1 h1 H1 x vx Q s1 r1 o1
variable{tA tB':M Bool}{rest:List br}
def dW (t u:M Bool):M Bool:=λρ h=>(t ρ h).bind λc h1=>if c=true then u ρ h1 else .ok false h1
def dE (t u:M Bool):M Bool:=λρ h=>(t ρ h).bind λc h1=>if c=true then .ok true h1 else u ρ h1
def cG (t:M Bool):M Bool:=λρ h=>(t ρ h).bind λc h1=>.ok (!c) h1
def Bd (X:Cx) (G:Cfg) (E:XK) (pe:br) (m:M Bool):Prop:=X.K=G.K->PW X pe (iD G E m)
theorem Bd.t {pe:br}{m:M Bool}(h:Bd X G E pe m):fO X G E pe m:=λhK=>(h hK).pt
theorem PW.imp {e:br}{t t':TT}(h:PW X e t) (i:∀σ H Q,t' σ H Q->t σ H Q):PW X e t':=λwh pins s σ H Q I q=>h wh pins s σ H Q I (i σ H Q q)
theorem sX (ha:fO X G E a tA):Bd X G E (.BoolOp .And [a] pos) tA:=λhK=>PM (ha hK)
theorem mX (ha:fO X G E a tA):Bd X G E (.BoolOp .Or [a] pos) tA:=λhK=>PN (ha hK)
theorem UE {σ:St}{H:Hp}{Q:Bool->Hp->Prop}(t:iD G E (dW tA tB') σ H Q):E7 (iD G E tA) (iD G E tB') σ H Q:=by
 obtain⟨μ,ρ,h,rs,s,o⟩:=t;refine AD rs s o λμ1 k h1 H1 x1 Ax s1 o1=>?_
 cases k with
 |true=>rw[if_pos rfl]at o1 ⊢;exact⟨μ1,ρ,h1,Ax,s1,o1⟩
 |false=>rw[if_neg (by decide)]at o1 ⊢;exact o1.val s1 rfl
theorem UG {σ:St}{H:Hp}{Q:Bool->Hp->Prop}(t:iD G E (dE tA tB') σ H Q):E8 (iD G E tA) (iD G E tB') σ H Q:=by
 obtain⟨μ,ρ,h,rs,s,o⟩:=t;refine AD rs s o λμ1 k h1 H1 x1 Ax s1 o1=>?_
 cases k with
 |false=>rw[if_neg (by decide)]at o1 ⊢;exact⟨μ1,ρ,h1,Ax,s1,o1⟩
 |true=>rw[if_pos rfl]at o1 ⊢;exact o1.val s1 rfl
theorem sY (ha:fO X G E a tA) (hb:Bd X G E (.BoolOp .And (b::rest) pos) tB'):Bd X G E (.BoolOp .And (a::b::rest) pos) (dW tA tB'):=λhK=>PW.imp (PQ (ha hK) (hb hK)) λ_ _ _ t=>UE t
theorem iY (ha:fO X G E a tA) (hb:Bd X G E (.BoolOp .Or (b::rest) pos) tB'):Bd X G E (.BoolOp .Or (a::b::rest) pos) (dE tA tB'):=λhK=>PW.imp (PR (ha hK) (hb hK)) λ_ _ _ t=>UG t
theorem iF (ha:fO X G E a tA):fO X G E (.UnaryOp .Not a pos) (cG tA):=λhK=>PT.imp (PU (ha hK)) λσ H Q ⟨μ,ρ,h,rs,s,o⟩=>AD rs s o λμ1 k h1 H1 x1 Ax s1 o1=>o1.val s1 rfl
def dH (m u:M Dv):M Dv:=λρ h=>(m ρ h).bind λd h1=>match d with
 | .bl true=>u ρ h1
 | .bl false=>.ok (.bl false) h1
 |_=>.bad
def sZ:Dv->Hs->Rs Dv
 | .bl b,h=>.ok (.bl (!b)) h
 |_,_=>.bad
theorem mY {op} {m:M Dv}(h:aK X G E a m):aK X G E (.BoolOp op [a] pos) m:=λhK=>PY (h hK)
theorem kL (ha:aK X G E a ma) (hb:aK X G E (.BoolOp .And (b::rest) pos) mb):aK X G E (.BoolOp .And (a::b::rest) pos) (dH ma mb):=λhK=>PE.imp (PZ (ha hK) (hb hK)) λσ H Q ⟨μ,ρ,h,rs,s,o⟩=>
 fG rs s o λμ1 x h1 vx H1 x1 Ax s1 r1 o1=>by
  cases x with
  |bl k=>
   refine⟨k,r1, ?_⟩
   cases k with
   |true=>exact GG ⟨μ1,ρ,h1,Ax,s1,o1⟩
   |false=>exact GF (o1.val s1 rfl)
  |_=>exact o1.elim
theorem G0 (ha:aK X G E a ma):aK X G E (.UnaryOp .Not a pos) (m1 sZ ma):=λhK=>PE.imp (P0 (ha hK)) λσ H Q ⟨μ,ρ,h,rs,s,o⟩=>
 fG rs s o λμ1 x h1 vx H1 x1 Ax s1 r1 o1=>by
  cases x with
  |bl k=>exact⟨k,r1,o1.val s1 rfl⟩
  |_=>exact o1.elim
def lF:Dv->Hs->Rs Bool
 | .non,h=>.ok false h
 | .bl b,h=>.ok b h
 | .int i,h=>.ok (i != 0) h
 | .tup xs,h=>.ok (!xs.isEmpty) h
 | .ref i,h=>match getL h i with
  |some xs=>.ok (!xs.isEmpty) h
  |none=>.bad
 |_,_=>.bad
def bI (m:M Dv):M Bool:=λρ h=>(m ρ h).bind lF
theorem G1 {μ:Nat->ah}{n:Nat}{H:Hp}{ds:zw}{vs:List V}(r:RelDL G μ n H ds vs):vs.isEmpty=ds.isEmpty:=by
 have:=r.length
 cases ds <;> cases vs <;> simp_all
theorem fZ (ha:aK X G E a ma) (he:∀whole,isTrue a X.env whole=(do let v <-whole;standAt a.pos;holding [v] (truthy v)):=by intro _;rfl):fO X G E a (bI ma):=λhK=>PT.imp (RS (ha hK) he) λσ H Q ⟨μ,ρ,h,rs,s,o⟩=>
 fG rs s o λμ1 x h1 vx H1 x1 Ax s1 r1 o1=>by
  cases x with
  |non=>rw[Af]at r1;subst r1;exact⟨_,rfl,o1.val s1 rfl⟩
  |bl k=>rw[Af]at r1;subst r1;exact⟨_,rfl,o1.val s1 rfl⟩
  |int i=>rw[Af]at r1;subst r1;exact⟨_,rfl,o1.val s1 rfl⟩
  |tup ds=>obtain⟨p,vs,rfl,e,r⟩:=r1;exact⟨_,.inr (.inl ⟨vs,Au.of e,rfl⟩),by rw[G1 r];exact o1.val s1 rfl⟩
  |ref i=>
   obtain⟨hi,rfl⟩:=r1;dsimp only[lF]at o1
   cases q:getL h1 i with
   |none=>rw[q]at o1;exact o1.elim
   |some xs=>obtain⟨vs,e,r⟩:=s1.ob i _ (dG q);rw[q]at o1;exact⟨_,.inl ⟨vs,Ay.of e,rfl⟩,by rw[G1 r];exact o1.val s1 rfl⟩
  |_=>exact o1.elim
end
end L2.Mr
namespace L2
open PySem PySem.Spec PyProof.Rows
section
variable{Pg:bf}{w:cf}{P:ah->Prop}{H:Hp}{s:ag}
theorem UH (hok:Bk Pg w H s.heap) (n:Nat) (A:cg) (d d':Dt) (v v':V) (u u':af) (hn:eU d<=n) (hu:A.units+n+1<cLine) (n1:nod d=true) (n2:nod d'=true) (h:Den P H d v) (h':Den P H d' v') (r:RelV v u) (r':RelV v' u'):
  SeqAt.RcNeAt A s u u' (!bN d d'):=by
 have Aw:A.units<cLine:=by omega
 have Cc:1<=n->∀(d d':Dt) (u u':af),eU d<=n - 1->nod d=true->nod d'=true->Vw P H s d u->Vw P H s d' u'->jy A.in1 s u u' (bN d d'):=λhd d d' u u' a b c e f=>(zZ hok (n - 1) A.in1 d d' u u' a (by show A.units+1+(n - 1)+1<cLine;omega) b c e f).2;have k:=vw hok n1 h r;have k':=vw hok n2 h' r'
 clear h h' r r'
 cases k <;> cases k'
 case tup.tup ds a1 vs1 its1 e1 g1 q1 tp1 Bt a2 vs2 Bn e2 g2 q2 tp2=>
  rw[nod]at n1 n2;rw[eU]at hn;have hl1:=g1.length;have hl2:=g2.length;have hq1:=q1.length;have hq2:=q2.length;rw[bN];have z:=SeqAt.RcNeAt.tuples (e:=λj=>bN (ds.getD j .non) (Bt.getD j .non)) tp1 tp2 Aw (vJ hok (Cc (by omega)) (by omega) n1 n2 g1 g2 q1 q2);have s1:its1.toArray.size=ds.length:=by simp;omega
  have s2:Bn.toArray.size=Bt.length:=by simp;omega
  rw[s1,s2]at z
  by_cases hlen:ds.length=Bt.length
  ·rw[sT hlen];rw[<-hlen,uz]at z;simpa using z
  ·rw[sU hlen];rw[show(ds.length==Bt.length)=false from beq_eq_false_iff_ne.mpr hlen,pd]at z;exact z
 case lst.lst ds a1 vs1 its1 e1 g1 q1 tp1 Bt a2 vs2 Bn e2 g2 q2 tp2=>
  rw[nod]at n1 n2;rw[eU]at hn;have hl1:=g1.length;have hl2:=g2.length;have hq1:=q1.length;have hq2:=q2.length;rw[bN]
  by_cases hlen:ds.length=Bt.length
  ·have z:=SeqAt.RcNeAt.lists (e:=λj=>bN (ds.getD j .non) (Bt.getD j .non)) tp1 tp2 (by simp;omega) Aw (vJ hok (Cc (by omega)) (by omega) n1 n2 g1 g2 q1 q2);rw[sT hlen];simpa[hq1.symm,hl1]using z
  ·rw[sU hlen];exact SeqAt.RcNeAt.lists_lengths tp1 tp2 (by simp;omega) Aw
 case non.non=>exact .none_none
 case non.bl=>exact .none_bool _
 case non.int=>exact .none_int _ _
 case non.str=>exact .none_str _ _
 case non.tup=>exact .none_tuple ‹_› Aw
 case non.lst=>exact .none_list ‹_› Aw
 case bl.non=>exact .bool_none _
 case bl.bl=>exact .bool_bool _ _
 case bl.int=>exact .bool_int _ _ _
 case bl.str=>exact .bool_str _ _ _
 case bl.tup=>exact .bool_tuple _ ‹_› Aw
 case bl.lst=>exact .bool_list _ ‹_› Aw
 case int.non=>exact .int_none _ _
 case int.bl=>exact .int_bool _ _ _
 case int.int=>exact .int_int _ _ _ _
 case int.str=>exact .int_str _ _ _ _
 case int.tup=>exact .int_tuple _ _ ‹_› Aw
 case int.lst=>exact .int_list _ _ ‹_› Aw
 case str.non=>exact .str_none _ _
 case str.bl=>exact .str_bool _ _ _
 case str.int=>exact .str_int _ _ _ _
 case str.str=>exact .str_str _ _ _ _
 case str.tup=>exact .str_tuple _ _ ‹_› Aw
 case str.lst=>exact .str_list _ _ ‹_› Aw
 case tup.non=>exact .tuple_none ‹_› Aw
 case tup.bl=>exact .tuple_bool _ ‹_› Aw
 case tup.int=>exact .tuple_int _ _ ‹_› Aw
 case tup.str=>exact .tuple_str _ _ ‹_› Aw
 case tup.lst=>exact .tuple_list ‹_› ‹_› Aw
 case lst.non=>exact .list_none ‹_› Aw
 case lst.bl=>exact .list_bool _ ‹_› Aw
 case lst.int=>exact .list_int _ _ ‹_› Aw
 case lst.str=>exact .list_str _ _ ‹_› Aw
 case lst.tup=>exact .list_tuple ‹_› ‹_› Aw
end
end L2
namespace L2.Mr
open PySem PySem.Spec PyProof.Rows
def bB {α β:Type}(f:α->Option β):List α->Option (List β)
 | []=>some []
 |x::xs=>match f x with
  |none=>none
  |some y=>match bB f xs with
   |none=>none
   |some ys=>some (y::ys)
def cB:Nat->Hs->Dv->Option Dt
 |0,_,_=>none
 |k+1,h,d=>match d with
  | .non=>some .non
  | .bl b=>some (.bl b)
  | .int i=>some (.int i)
  | .str x=>some (.str x)
  | .tup xs=>match bB (cB k h) xs with
   |some ts=>some (.tup ts)
   |none=>none
  | .ref i=>match getL h i with
   |some xs=>match bB (cB k h) xs with
    |some ts=>some (.lst ts)
    |none=>none
   |none=>none
  |_=>none
abbrev jP:ah->Prop:=λ_=>True
section
variable{G:Cfg}{μ:Nat->ah}{h:Hs}{H:Hp}
theorem qX (s:Av G μ h H):∀(k:Nat) (d:Dv) (v:V) (t:Dt),Af G μ h.length H d v->cB k h d=some t->Den jP H t v/\eU t<=k/\nod t=true:=by
 intro k
 induction k with
 |zero=>intro d v t _ e;cases e
 |succ k ih=>
  have il:∀(xs:zw) (vs:List V) (ts:List Dt),RelDL G μ h.length H xs vs->bB (cB k h) xs=some ts->Am jP H ts vs/\mU ts<=k/\kJ ts=true:=by
   intro xs
   induction xs with
   |nil=>intro vs ts r e;cases e;rw[RelDL]at r;subst r;exact⟨Am.nil,by simp[mU],rfl⟩
   |cons x xs ihx=>
    intro vs ts r e;rw[RelDL]at r;obtain⟨v,rr,rfl,r1,r2⟩:=r;unfold bB at e
    cases q:cB k h x with
    |none=>rw[q]at e;cases e
    |some y=>
     rw[q]at e;dsimp only at e
     cases q2:bB (cB k h) xs with
     |none=>rw[q2]at e;cases e
     |some ys=>rw[q2]at e;cases e;obtain⟨a1,a2,a3⟩:=ih x v y r1 q;obtain⟨b1,b2,b3⟩:=ihx rr ys r2 q2;exact⟨Am.cons a1 b1,by rw[mU];omega,by rw[kJ,a3,b3];rfl⟩
  intro d v t r e;unfold cB at e
  cases d with
  |non=>cases e;rw[Af]at r;subst r;exact⟨by rw[Den],by simp[eU],rfl⟩
  |bl b=>cases e;rw[Af]at r;subst r;exact⟨by rw[Den],by simp[eU],rfl⟩
  |int b=>cases e;rw[Af]at r;subst r;exact⟨by rw[Den],by simp[eU],rfl⟩
  |str b=>cases e;rw[Af]at r;subst r;exact⟨by rw[Den],by simp[eU],rfl⟩
  |tup xs=>
   dsimp only at e
   cases q:bB (cB k h) xs with
   |none=>rw[q]at e;cases e
   |some ts=>rw[q]at e;cases e;obtain⟨a,vs,rfl,e1,r1⟩:=r;obtain⟨b1,b2,b3⟩:=il xs vs ts r1 q;exact⟨by rw[Den];exact⟨a,vs,rfl,e1,b1⟩,by rw[eU];omega,by rw[nod];exact b3⟩
  |ref i=>
   dsimp only at e
   cases g:getL h i with
   |none=>rw[g]at e;cases e
   |some xs=>
    rw[g]at e;dsimp only at e
    cases q:bB (cB k h) xs with
    |none=>rw[q]at e;cases e
    |some ts=>rw[q]at e;cases e;obtain⟨hi,rfl⟩:=r;obtain⟨vs,e1,r1⟩:=s.ob i _ (dG g);obtain⟨b1,b2,b3⟩:=il xs vs ts r1 q;exact⟨by rw[Den];exact⟨_,vs,rfl,trivial,e1,b1⟩,by rw[eU];omega,by rw[nod];exact b3⟩
  |edc=>cases e
  |exc c=>cases e
  |scr=>cases e
end
def cQ:Nat:=30
def bE (x y:Dv) (h:Hs):Rs Dv:=match cB cQ h x,cB cQ h y with
 |some s,some t=>.ok (.bl (bN s t)) h
 |_,_=>.bad
def dN (x y:Dv) (h:Hs):Rs Dv:=match cB cQ h x,cB cQ h y with
 |some s,some t=>.ok (.bl (!bN s t)) h
 |_,_=>.bad
def vL (neg:Bool):R2:=λx y H Q=>∃t t',Den jP H t x/\Den jP H t' y/\eU t<=cQ/\nod t=true/\nod t'=true/\Q (.bl (if neg then !bN t t' else bN t t')) H
section
variable{X:Cx}{G:Cfg}
theorem G2 (hu:X.A.units+64<cLine):Ba X (compareOp .Eq) (vL false):=by intro pins s σ H x y v u Q I r1 r2 ⟨t,t',d,d',hd,n1,n2,q⟩;exact EqBoolInt.of_rc (GZ I.hok cQ X.A t t' x y v u hd (by unfold cQ;omega) n1 n2 d d' r1 r2).1 ⟨.bl _,H,I,rfl,q⟩
theorem G3 (hu:X.A.units+64<cLine):Ba X (compareOp .NotEq) (vL true):=by intro pins s σ H x y v u Q I r1 r2 ⟨t,t',d,d',hd,n1,n2,q⟩;exact EqBoolInt.of_rcne (UH I.hok cQ X.A t t' x y v u hd (by unfold cQ;omega) n1 n2 d d' r1 r2) ⟨.bl _,H,I,rfl,q⟩
theorem G4:fY G (vL false) bE:=by
 intro E μ h H x y vx vy Q s rx ry o;unfold bE at o
 split at o
 ·rename_i t t' e e';obtain⟨a1,a2,a3⟩:=qX s _ x vx t rx e;obtain⟨b1,b2,b3⟩:=qX s _ y vy t' ry e';exact⟨t,t',a1,b1,a2,a3,b3,o.val s rfl⟩
 ·exact o.elim
theorem G5:fY G (vL true) dN:=by
 intro E μ h H x y vx vy Q s rx ry o;unfold dN at o
 split at o
 ·rename_i t t' e e';obtain⟨a1,a2,a3⟩:=qX s _ x vx t rx e;obtain⟨b1,b2,b3⟩:=qX s _ y vy t' ry e';exact⟨t,t',a1,b1,a2,a3,b3,o.val s rfl⟩
 ·exact o.elim
end
def iZ (g:Int->Int->Dv):Dv->Dv->Hs->Rs Dv
 | .int i,.int j,h=>.ok (g i j) h
 |_,_,_=>.bad
def kM (C:Int->Int->Bool) (g:Int->Int->Dv):Dv->Dv->Hs->Rs Dv
 | .int i,.int j,h=>if C i j=true then .ok (g i j) h else .bad
 |_,_,_=>.bad
section
variable{X:Cx}{G:Cfg}
theorem UI {f:Int->Int->Int}:fY G (jO λi j=>.int (f i j)) (iZ λi j=>.int (f i j)):=by
 intro E μ h H x y vx vy Q s rx ry o
 cases x with
 |int i=>
  cases y with
  |int j=>exact⟨i,j,rx,ry,o.val s rfl⟩
  |_=>exact o.elim
 |_=>exact o.elim
theorem mZ {f:Int->Int->Bool}:fY G (jO λi j=>.bl (f i j)) (iZ λi j=>.bl (f i j)):=by
 intro E μ h H x y vx vy Q s rx ry o
 cases x with
 |int i=>
  cases y with
  |int j=>exact⟨i,j,rx,ry,o.val s rfl⟩
  |_=>exact o.elim
 |_=>exact o.elim
theorem vM {C:Int->Int->Prop}{B:Int->Int->Bool}{f:Int->Int->Int}(hB:∀i j,B i j=true->C i j):fY G (rI C λi j=>.int (f i j)) (kM B λi j=>.int (f i j)):=by
 intro E μ h H x y vx vy Q s rx ry o
 cases x with
 |int i=>
  cases y with
  |int j=>
   dsimp only[kM]at o
   split at o
   ·rename_i hb;exact⟨i,j,rx,ry,hB i j hb,o.val s rfl⟩
   ·exact o.elim
  |_=>exact o.elim
 |_=>exact o.elim
def kN (i:Int):Bool:=decide (-18446744073709551616<i)&&decide (i<18446744073709551616)
def qY (i j:Int):Bool:=kN i||kN j
theorem UJ (i j:Int) (h:qY i j=true):CMul i j:=by
 unfold qY kN at h;unfold CMul;simp only[Bool.or_eq_true,da,decide_eq_true_eq]at h
 rcases h with h|h
 ·exact .inl ⟨by omega,by omega⟩
 ·exact .inr ⟨by omega,by omega⟩
def qZ (_ j:Int):Bool:=decide (0<j)
theorem UK (i j:Int) (h:qZ i j=true):0<j:=by unfold qZ at h;simpa using h
def tB (i j:Int):Bool:=decide (0<=j)&&decide (j<=1000000)&&decide (i.natAbs<18446744073709551616)
theorem UL (i j:Int) (h:tB i j=true):zI i j:=by unfold tB at h;unfold zI;simp only[da,decide_eq_true_eq]at h;exact⟨h.1.1,h.1.2,by have:=h.2;omega⟩
def nA:Dv->Dv->Hs->Rs Dv
 | .int i,.int j,h=>.ok (.int (i+j)) h
 | .ref i,.ref j,h=>match getL h i,getL h j with
  |some xs,some ys=>lim (xs.length+ys.length) (.ok (.ref h.length) (h++[.lst (xs++ys)]))
  |_,_=>.bad
 | .tup xs,.tup ys,h=>if xs.isEmpty=true then .bad else lim (xs.length+ys.length) (.ok (.tup (xs++ys)) h)
 |_,_,_=>.bad
def AE (K:ao):R2:=λx y H Q=>(jO λi j=>.int (i+j)) x y H Q∨GC x y H Q∨F3 K x y H Q
theorem UM:Ba X (binaryOp .Add) (AE X.K):=op_add.or (op_cat.or SV)
theorem UN:fY G (AE G.K) nA:=by
 intro E μ h H x y vx vy Q s rx ry o
 cases x with
 |int i=>
  cases y with
  |int j=>exact .inl ⟨i,j,rx,ry,o.val s rfl⟩
  |_=>exact o.elim
 |ref i=>
  cases y with
  |ref j=>
   dsimp only[nA]at o
   cases g1:getL h i with
   |none=>rw[g1]at o;exact o.elim
   |some xs=>
    cases g2:getL h j with
    |none=>rw[g1,g2]at o;exact o.elim
    |some ys=>
     rw[g1,g2]at o;dsimp only at o;unfold lim at o
     split at o
     ·rename_i hl;obtain⟨vs,e1,r1⟩:=s.ob i _ (dG g1);obtain⟨ws,e2,r2⟩:=s.ob j _ (dG g2);obtain⟨_,rfl⟩:=rx;obtain⟨_,rfl⟩:=ry;exact .inr (.inl ⟨_,_,vs,ws,rfl,rfl,e1,e2,by rw[r1.length,r2.length];exact sV hl,λp hp=>oC s (r1.append r2) hp o⟩)
     ·exact o.elim
  |_=>exact o.elim
 |tup xs=>
  cases y with
  |tup ys=>
   dsimp only[nA]at o
   split at o
   ·exact o.elim
   ·rename_i hne;unfold lim at o
    split at o
    ·rename_i hl;obtain⟨a,vs,rfl,e1,r1⟩:=rx;obtain⟨b,ws,rfl,e2,r2⟩:=ry;refine .inr (.inr ⟨a,b,vs,ws,rfl,rfl,Au.of e1,Au.of e2, ?_,by rw[r1.length,r2.length];exact sV hl,λz=>?_,λ_ p hp=>?_⟩)
     ·intro z;subst z;have:=r1.length
      cases xs <;> simp_all
     ·subst z;have e3:ys=[]:=by have:=r2.length;cases ys <;> simp_all
      subst e3;refine o.val s ?_;rw[rq];exact⟨a,vs,rfl,e1,r1⟩
     ·exact o μ _ _ (Ext.same (dQ hp)) (s.same (dQ hp)) ⟨p,_,rfl,eR,RelDL.mono (Ext.same (dQ hp)) _ _ (r1.append r2)⟩
    ·exact o.elim
  |_=>exact o.elim
 |_=>exact o.elim
def jQ (xs:zw) (i:Int) (h:Hs):Rs Dv:=match gU xs i with
 |some d=>.ok d h
 |none=>.bad
def gW (scr:zr):Dv->Dv->Hs->Rs Dv
 | .tup xs,.int i,h=>jQ xs i h
 | .ref k,.int i,h=>match getL h k with
  |some xs=>jQ xs i h
  |none=>.bad
 | .scr,.int i,h=>jQ (scr.map Dv.int) i h
 |_,_,_=>.bad
theorem rA {μ:Nat->ah}{n:Nat}{H:Hp}:∀ns:zr,RelDL G μ n H (ns.map Dv.int) (ns.map V.int)
 | []=>RelDL.nil
 |i::ns=>RelDL.cons rfl (rA ns)
theorem AF {E:XK}{μ:Nat->ah}{h:Hs}{H:Hp}{xs:zw}{vs:List V}{i:Int}{Q:VK}(s:Av G μ h H) (r:RelDL G μ h.length H xs vs) (o:Out G E μ h.length H (jQ xs i h) (Af G) Q):∃v,gU vs i=some v/\Q v H:=by
 unfold jQ at o
 cases e:gU xs i with
 |none=>rw[e]at o;exact o.elim
 |some d=>
  rw[e]at o;unfold gU at e ⊢;rw[r.length]
  cases q:gA xs.length i with
  |none=>rw[q]at e;cases e
  |some j=>rw[q]at e;obtain⟨v,e1,r1⟩:=r.get e;exact⟨v,e1,o.val s r1⟩
theorem G6:fY G (zO G.K) (gW G.scr):=by
 intro E μ h H x y vx vy Q s rx ry o
 cases y with
 |int i=>
  cases x with
  |tup xs=>obtain⟨a,vs,rfl,e1,r1⟩:=rx;obtain⟨v,e2,q⟩:=AF s r1 o;exact .inr (.inl ⟨a,vs,i,v,rfl,ry,Au.of e1,e2,q⟩)
  |ref k=>
   dsimp only[gW]at o
   cases g:getL h k with
   |none=>rw[g]at o;exact o.elim
   |some xs=>rw[g]at o;obtain⟨vs,e1,r1⟩:=s.ob k _ (dG g);obtain⟨_,rfl⟩:=rx;obtain⟨v,e2,q⟩:=AF s r1 o;exact .inl ⟨_,vs,i,v,rfl,ry,Ay.of e1,e2,q⟩
  |scr=>obtain⟨rfl,hf⟩:=rx;obtain⟨v,e2,q⟩:=AF s (rA G.scr) o;exact .inl ⟨_,_,i,v,rfl,ry,hf.sq,e2,q⟩
  |_=>exact o.elim
 |_=>cases x <;> exact o.elim
theorem UO {E:XK}{a b:br}{ma mb:M Dv}{pos:Pos}(ha:aK X G E a ma) (hb:aK X G E b mb) (hs:zM b:=by intro _ _;rfl):aK X G E (.Subscript a b pos) (m2 (gW G.scr) ma mb):=λhK=>PE.imp (F5 (by have:=F9 (X:=X);rw[hK]at this;exact this) (ha hK) (hb hK) hs) λ_ _ _ t=>sW G6 t
theorem UP:dj "abs" = some (.builtin "abs"):=by decide +kernel
theorem G7:dj "tuple" = some (.type "tuple"):=by decide +kernel
theorem G8:dj "list" = some (.type "list"):=by decide +kernel
theorem G9:dj "max" = some (.builtin "max"):=by decide +kernel
theorem HC:dj "min" = some (.builtin "min"):=by decide +kernel
variable{E:XK}{aQ:M zw }{e:br}{es:List br}{x:Str}{p pos:Pos}{id T:String}
def pE (G:Cfg) (r:List V->Hp->VK->Prop) (f:zv):Prop:=∀(E:XK) (μ:Nat->ah) (h:Hs) (H:Hp) (xs:zw) (vs:List V) (Q:VK),Av G μ h H->RelDL G μ h.length H xs vs->Out G E μ h.length H (f xs h) (Af G) Q->r vs H Q
def aD (f:zv) (ms:M zw ):M Dv:=λρ h=>(ms ρ h).bind f
theorem HD {r:List V->Hp->VK->Prop}{f:zv}(hd:pE G r f) {σ:St}{H:Hp}{Q:VK}(t:hV G E (aD f aQ) σ H Q):vB r (AB G E aQ) σ H Q:=by obtain⟨μ,ρ,h,rs,s,o⟩:=t;exact kK rs s o λμ1 ds h1 vs H1 x1 Ax s1 r1 o1=>hd E μ1 h1 H1 ds vs Q s1 r1 o1
theorem pG {r:List V->Hp->VK->Prop}{f:zv}(hc:Aj X (.builtin id) r) (hd:pE G r f) (hg:Gl X x) (hm:X.mg x=none) (hv:dj x=some (.builtin id)) (ha:dY X G E (e::es) aQ) (hn:x ≠ "__name__" := by decide) (Di:(x==("__debug__" : Str))=false:=by decide)
  (he:ar (e::es) X.env=(false,eval e X.env)::ar es X.env:=by rfl) (Bl:(backTo pos (ar es X.env)).any (·.1)=false:=by rfl):aK X G E (.Call (.Name x p) (e::es) [] pos) (aD f aQ):=λhK=>
 PE.imp (vC hc hg hm hv (ha hK) hn Di he Bl) λ_ _ _ t=>HD hd t
theorem HE {r:List V->Hp->VK->Prop}{f:zv}(hc:Aj X (.type T) r) (hd:pE G r f) (hg:Gl X x) (hm:X.mg x=none) (hv:dj x=some (.type T)) (ha:dY X G E (e::es) aQ) (hn:x ≠ "__name__" := by decide) (Di:(x==("__debug__" : Str))=false:=by decide)
  (he:ar (e::es) X.env=(false,eval e X.env)::ar es X.env:=by rfl) (Bl:(backTo pos (ar es X.env)).any (·.1)=false:=by rfl):aK X G E (.Call (.Name x p) (e::es) [] pos) (aD f aQ):=λhK=>
 PE.imp (vD hc hg hm hv (ha hK) hn Di he Bl) λ_ _ _ t=>HD hd t
def fP (scr:zr):Dv->Hs->Option zw 
 | .tup xs,_=>some xs
 | .ref i,h=>getL h i
 | .scr,_=>some (scr.map Dv.int)
 |_,_=>none
def f1 (g:Dv->Hs->Rs Dv):zv
 | [d],h=>g d h
 |_,_=>.bad
def hW (scr:zr) (d:Dv) (h:Hs):Rs Dv:=match fP scr d h with
 |some xs=>.ok (.int xs.length) h
 |none=>.bad
theorem tD {μ:Nat->ah}{n:Nat}{H:Hp}{d:Dv}{vs:List V}(r:RelDL G μ n H [d] vs):∃v,vs=[v]/\Af G μ n H d v:=by rw[RelDL]at r;obtain⟨v,rr,rfl,h1,h2⟩:=r;rw[RelDL]at h2;subst h2;exact⟨v,rfl,h1⟩
theorem pH {r:V->Hp->VK->Prop}{g:Dv->Hs->Rs Dv}(hg:iX G r g):pE G (λxs H Q=>∃v,xs=[v]/\r v H Q) (f1 g):=by
 intro E μ h H xs vs Q s rr o
 match xs,rr,o with
 | [],_,o=>exact o.elim
 |_::_::_,_,o=>exact o.elim
 | [d],rr,o=>obtain⟨v,rfl,r1⟩:=tD rr;exact⟨v,rfl,hg E μ h H d v Q s r1 o⟩
theorem vN {μ:Nat->ah}{n:Nat}{H:Hp}{d d':Dv}{vs:List V}(r:RelDL G μ n H [d,d'] vs):∃v v',vs=[v,v']/\Af G μ n H d v/\Af G μ n H d' v':=by rw[RelDL]at r;obtain⟨v,rr,rfl,h1,h2⟩:=r;obtain⟨v',rfl,h3⟩:=tD h2;exact⟨v,v',rfl,h1,h3⟩
theorem AG {μ:Nat->ah}{h:Hs}{H:Hp}{d:Dv}{v:V}{xs:zw}(s:Av G μ h H) (r:Af G μ h.length H d v) (e:fP G.scr d h=some xs):∃a vs,v=.ref a/\(Ay G.K H a vs∨Au G.K H a vs)/\RelDL G μ h.length H xs vs:=by
 cases d with
 |tup ds=>cases e;obtain⟨a,vs,rfl,e1,r1⟩:=r;exact⟨a,vs,rfl,.inr (Au.of e1),r1⟩
 |ref i=>obtain⟨_,rfl⟩:=r;obtain⟨vs,e1,r1⟩:=s.ob i _ (dG e);exact⟨_,vs,rfl,.inl (Ay.of e1),r1⟩
 |scr=>cases e;obtain⟨rfl,hf⟩:=r;exact⟨_,_,rfl,.inl hf.sq,rA _⟩
 |_=>cases e
def HF (K:ao):V->Hp->VK->Prop:=λx H Q=>∃p ys,x=.ref p/\(Ay K H p ys∨Au K H p ys)/\Q (.int ys.length) H
theorem HG:iX G (HF G.K) (hW G.scr):=by
 intro E μ h H d v Q s r1 o;unfold hW at o
 cases e:fP G.scr d h with
 |none=>rw[e]at o;exact o.elim
 |some ys=>rw[e]at o;obtain⟨a,ws,rfl,hs,r2⟩:=AG s r1 e;exact⟨a,ws,rfl,hs,by rw[r2.length];exact o.val s rfl⟩
theorem Aj.imp {f:af}{r r':List V->Hp->VK->Prop}(h:Aj X f r) (i:∀xs H Q,r' xs H Q->r xs H Q):Aj X f r':=λpins s σ H xs us Q I rv q=>h pins s σ H xs us Q I rv (i xs H Q q)
theorem HH (hg:Gl X "len") (hm:X.mg "len" = none) (ha:dY X G E (e::es) aQ)
  (he:ar (e::es) X.env=(false,eval e X.env)::ar es X.env:=by rfl) (Bl:(backTo pos (ar es X.env)).any (·.1)=false:=by rfl):aK X G E (.Call (.Name "len" p) (e::es) [] pos) (aD (f1 (hW G.scr)) aQ):=λhK=>
 pG (Aj.imp (GA (X:=X)) λxs H Q ⟨v,h1,a,ys,h2,h3,h4⟩=>⟨a,ys,by rw[h1,h2],by rw[hK];exact h3,h4⟩) (pH HG) hg hm PySem.boot_len ha (by decide) (by decide) he Bl hK
def oE:Dv->Hs->Rs Dv
 | .int i,h=>.ok (.int (if i<0 then -i else i)) h
 |_,_=>.bad
theorem UQ:iX G (λx H Q=>∃i,x=.int i/\Q (.int (if i<0 then -i else i)) H) oE:=by
 intro E μ h H d v Q s r1 o
 cases d with
 |int i=>rw[Af]at r1;subst r1;exact⟨i,rfl,o.val s rfl⟩
 |_=>exact o.elim
theorem UR (hg:Gl X "abs") (hm:X.mg "abs" = none) (ha:dY X G E (e::es) aQ)
  (he:ar (e::es) X.env=(false,eval e X.env)::ar es X.env:=by rfl) (Bl:(backTo pos (ar es X.env)).any (·.1)=false:=by rfl):aK X G E (.Call (.Name "abs" p) (e::es) [] pos) (aD (f1 oE) aQ):=
 pG (Aj.imp (RT (X:=X)) λxs H Q ⟨v,h1,i,h2,h3⟩=>⟨i,by rw[h1,h2],h3⟩) (pH UQ) hg hm UP ha (by decide) (by decide) he Bl
def nB:zv
 | [.int i,.int j],h=>.ok (.int (if j>i then j else i)) h
 |_,_=>.bad
def rB:zv
 | [.int i,.int j],h=>.ok (.int (if j<i then j else i)) h
 |_,_=>.bad
theorem HI {f:zv}{g:Int->Int->Int}(h2:∀i j h,f [.int i,.int j] h=.ok (.int (g i j)) h) (hb:∀xs h,(∀i j,xs≠[.int i,.int j])->f xs h=.bad):
  pE G (λxs H Q=>∃i j,xs=[.int i,.int j]/\Q (.int (g i j)) H) f:=by
 intro E μ h H xs vs Q s r o
 by_cases hx:∃i j,xs=[.int i,.int j]
 ·obtain⟨i,j,rfl⟩:=hx;obtain⟨v,v',rfl,r1,r2⟩:=vN r;rw[Af]at r1 r2;subst r1;subst r2;rw[h2]at o;exact⟨i,j,rfl,o.val s rfl⟩
 ·rw[hb xs h (λi j e=>hx ⟨i,j,e⟩)]at o;exact o.elim
theorem US:pE G (λxs H Q=>∃i j,xs=[.int i,.int j]/\Q (.int (if j>i then j else i)) H) nB:=HI (λ_ _ _=>rfl) λxs h hx=>by
 unfold nB;split
 ·rename_i i j;exact absurd rfl (hx i j)
 ·rfl
theorem UT:pE G (λxs H Q=>∃i j,xs=[.int i,.int j]/\Q (.int (if j<i then j else i)) H) rB:=HI (λ_ _ _=>rfl) λxs h hx=>by
 unfold rB;split
 ·rename_i i j;exact absurd rfl (hx i j)
 ·rfl
def eM:Dv->Hs->Rs Dv
 | .tup xs,h=>.ok (.tup xs) h
 | .ref i,h=>match getL h i with
  |some xs=>.ok (.tup xs) h
  |none=>.bad
 |_,_=>.bad
def UU (K:ao):V->Hp->VK->Prop:=λx H Q=>∃p ys,x=.ref p/\((Ay K H p ys/\∀l,H l=none->Q (.ref l) (aV H l (.tup ys)))∨(Au K H p ys/\Q (.ref p) H))
theorem UW:iX G (UU G.K) eM:=by
 intro E μ h H d v Q s r1 o
 cases d with
 |tup ds=>have r1':=r1;obtain⟨a,ws,rfl,e1,r2⟩:=r1;exact⟨a,ws,rfl,.inr ⟨Au.of e1,o.val s r1'⟩⟩
 |ref i=>
  dsimp only[eM]at o
  cases g:getL h i with
  |none=>rw[g]at o;exact o.elim
  |some ys=>rw[g]at o;obtain⟨_,rfl⟩:=r1;obtain⟨ws,e1,r2⟩:=s.ob i _ (dG g);exact⟨_,ws,rfl,.inl ⟨Ay.of e1,λl hl=>o μ _ _ (Ext.same (dQ hl)) (s.same (dQ hl)) ⟨l,ws,rfl,eR,RelDL.mono (Ext.same (dQ hl)) _ _ r2⟩⟩⟩
 |_=>exact o.elim
theorem vO (hg:Gl X "tuple") (hm:X.mg "tuple" = none) (ha:dY X G E (e::es) aQ)
  (he:ar (e::es) X.env=(false,eval e X.env)::ar es X.env:=by rfl) (Bl:(backTo pos (ar es X.env)).any (·.1)=false:=by rfl):aK X G E (.Call (.Name "tuple" p) (e::es) [] pos) (aD (f1 eM) aQ):=λhK=>
 HE (Aj.imp (S7 (X:=X)) λxs H Q ⟨v,h1,a,ys,h2,h3⟩=>⟨a,ys,by rw[h1,h2],by rw[hK];exact h3⟩) (pH UW) hg hm G7 ha (by decide) (by decide) he Bl hK
def rC (scr:zr) (d:Dv) (h:Hs):Rs Dv:=match fP scr d h with
 |some xs=>.ok (.ref h.length) (h++[.lst xs])
 |none=>.bad
theorem UX:iX G (λx H Q=>∃p ys,x=.ref p/\(Ay G.K H p ys∨Au G.K H p ys)/\∀l,H l=none->Q (.ref l) (aV H l (.lst ys))) (rC G.scr):=by
 intro E μ h H d v Q s r1 o;unfold rC at o
 cases e:fP G.scr d h with
 |none=>rw[e]at o;exact o.elim
 |some ys=>rw[e]at o;obtain⟨a,ws,rfl,hs,r2⟩:=AG s r1 e;exact⟨a,ws,rfl,hs,λl hl=>oC s r2 hl o⟩
theorem HJ (hc:X.calm=true) (hg:Gl X "max") (hm:X.mg "max" = none) (ha:dY X G E (e::es) aQ)
  (he:ar (e::es) X.env=(false,eval e X.env)::ar es X.env:=by rfl) (Bl:(backTo pos (ar es X.env)).any (·.1)=false:=by rfl):aK X G E (.Call (.Name "max" p) (e::es) [] pos) (aD nB aQ):=
 pG (RU hc) US hg hm G9 ha (by decide) (by decide) he Bl
theorem UY (hc:X.calm=true) (hg:Gl X "min") (hm:X.mg "min" = none) (ha:dY X G E (e::es) aQ)
  (he:ar (e::es) X.env=(false,eval e X.env)::ar es X.env:=by rfl) (Bl:(backTo pos (ar es X.env)).any (·.1)=false:=by rfl):aK X G E (.Call (.Name "min" p) (e::es) [] pos) (aD rB aQ):=
 pG (RV hc) UT hg hm HC ha (by decide) (by decide) he Bl
end
inductive Sr where
 |nx (ρ:Ev) (h:Hs)|rt (d:Dv) (h:Hs)|bk (ρ:Ev) (h:Hs)|ct (ρ:Ev) (h:Hs)|ex (c:Nat) (h:Hs)|bad
abbrev MS:=Ev->Hs->Sr
def Bf (G:Cfg) (E:XK) (μ:Nat->ah) (n:Nat) (H:Hp) (r:Sr) (D:Ends):Prop:=match r with
 | .nx ρ h'=>∀μ' H' σ',Ext μ n H μ' h'.length H'->Av G μ' h' H'->Ao G μ' h'.length H' ρ σ'->D.nx σ' H'
 | .bk ρ h'=>∀μ' H' σ',Ext μ n H μ' h'.length H'->Av G μ' h' H'->Ao G μ' h'.length H' ρ σ'->D.bk σ' H'
 | .ct ρ h'=>∀μ' H' σ',Ext μ n H μ' h'.length H'->Av G μ' h' H'->Ao G μ' h'.length H' ρ σ'->D.ct σ' H'
 | .rt d h'=>∀μ' H' v,Ext μ n H μ' h'.length H'->Av G μ' h' H'->Af G μ' h'.length H' d v->D.rt v H'
 | .ex c h'=>∀μ' H' u,Ext μ n H μ' h'.length H'->Av G μ' h' H'->vK G H' c u->E u none H'
 | .bad=>False
theorem Bf.ext {G:Cfg}{E:XK}{μ μ1:Nat->ah}{n n1:Nat}{H H1:Hp}{r:Sr}{D:Ends}(o:Bf G E μ n H r D) (x:Ext μ n H μ1 n1 H1):Bf G E μ1 n1 H1 r D:=by
 cases r with
 |nx ρ h'=>exact λμ' H' σ' y=>o μ' H' σ' (x.trans y)
 |bk ρ h'=>exact λμ' H' σ' y=>o μ' H' σ' (x.trans y)
 |ct ρ h'=>exact λμ' H' σ' y=>o μ' H' σ' (x.trans y)
 |rt d h'=>exact λμ' H' σ' y=>o μ' H' σ' (x.trans y)
 |ex c h'=>exact λμ' H' σ' y=>o μ' H' σ' (x.trans y)
 |bad=>exact o
def AH (G:Cfg) (E:XK) (m:MS):TS:=λD σ H=>∃μ ρ h,Ao G μ h.length H ρ σ/\Av G μ h H/\Bf G E μ h.length H (m ρ h) D
def iG (X:Cx) (G:Cfg) (E:XK) (st:gf) (m:MS):Prop:=X.K=G.K->PS X st (AH G E m)
def lG (X:Cx) (G:Cfg) (E:XK) (st:List gf) (m:MS):Prop:=X.K=G.K->Dk X st (AH G E m)
theorem PS.imp {X:Cx}{e:gf}{t t':TS}(h:PS X e t) (i:∀D σ H,t' D σ H->t D σ H):PS X e t':=λpins s σ H D I q=>h pins s σ H D I (i D σ H q)
theorem Dk.imp {X:Cx}{e:List gf}{t t':TS}(h:Dk X e t) (i:∀D σ H,t' D σ H->t D σ H):Dk X e t':=λpins s σ H D I q=>h pins s σ H D I (i D σ H q)
noncomputable def Rs.thenS {α:Type}(r:Rs α) (f:α->Hs->Sr):Sr:=match r with
 | .ok a h=>f a h
 | .ex c h=>.ex c h
 | .bad=>.bad
@[simp] theorem Rs.thenS_ok {α:Type}(a:α) (h:Hs) (f:α->Hs->Sr):(Rs.ok a h).thenS f=f a h:=rfl
@[simp] theorem Rs.thenS_ex {α:Type}(c:Nat) (h:Hs) (f:α->Hs->Sr):(Rs.ex c h).thenS f=.ex c h:=rfl
@[simp] theorem Rs.thenS_bad {α:Type}(f:α->Hs->Sr):(Rs.bad).thenS f=.bad:=rfl
theorem Bf.thenS {α β:Type}{G:Cfg}{E:XK}{μ:Nat->ah}{n:Nat}{H:Hp}{r:Rs α}{f:α->Hs->Sr}{D:Ends}{R:(Nat->ah)->Nat->Hp->α->β->Prop}
  (o:Bf G E μ n H (r.thenS f) D):Out G E μ n H r R λv H1=>∃μ1 d h1,Ext μ n H μ1 h1.length H1/\Av G μ1 h1 H1/\R μ1 h1.length H1 d v/\Bf G E μ1 h1.length H1 (f d h1) D:=by
 cases r with
 |bad=>exact o
 |ex c h'=>exact o
 |ok d h'=>exact λμ1 H1 v x1 s1 r1=>⟨μ1,d,h',x1,s1,r1,Bf.ext o x1⟩
section
variable{X:Cx}{G:Cfg}{E:XK}{st:gf}{rest:List gf}{m u:MS}{e:br}{me:M Dv}{pos:Pos}
theorem oF {m:M Dv}{σ:St}{H:Hp}{f:Dv->Hs->Sr}{D:Ends}{Q1:V->Hp->Prop}{μ:Nat->ah}{ρ:Ev}{h:Hs}(rs:Ao G μ h.length H ρ σ) (s:Av G μ h H) (o:Bf G E μ h.length H ((m ρ h).thenS f) D)
  (k:∀μ1 d h1 v H1,Ext μ h.length H μ1 h1.length H1->Ao G μ1 h1.length H1 ρ σ->Av G μ1 h1 H1->Af G μ1 h1.length H1 d v->Bf G E μ1 h1.length H1 (f d h1) D->Q1 v H1):hV G E m σ H Q1:=
 ⟨μ,ρ,h,rs,s,(o.thenS (R:=Af G)).mono λv H1 ⟨μ1,d,h1,x,s1,r1,o1⟩=>k μ1 d h1 v H1 x (rs.mono x) s1 r1 o1⟩
theorem HK {m:M Bool}{σ:St}{H:Hp}{f:Bool->Hs->Sr}{D:Ends}{Q1:Bool->Hp->Prop}{μ:Nat->ah}{ρ:Ev}{h:Hs}(rs:Ao G μ h.length H ρ σ) (s:Av G μ h H) (o:Bf G E μ h.length H ((m ρ h).thenS f) D)
  (k:∀μ1 b h1 H1,Ext μ h.length H μ1 h1.length H1->Ao G μ1 h1.length H1 ρ σ->Av G μ1 h1 H1->Bf G E μ1 h1.length H1 (f b h1) D->Q1 b H1):iD G E m σ H Q1:=
 ⟨μ,ρ,h,rs,s,(o.thenS (R:=RB)).mono λv H1 ⟨μ1,d,h1,x,s1,r1,o1⟩=>by have e:v=d:=r1;subst e;exact k μ1 v h1 H1 x (rs.mono x) s1 o1⟩
def bG:MS:=λρ h=>.nx ρ h
def aI (m u:MS):MS:=λρ h=>match m ρ h with
 | .nx ρ1 h1=>u ρ1 h1
 |r=>r
theorem eH:lG X G E [] bG:=λ_=>Dk.imp P7 λD σ H ⟨μ,ρ,h,rs,s,o⟩=>o μ H σ Ext.refl s rs
theorem aZ (h1:iG X G E st m) (h2:lG X G E rest u):lG X G E (st::rest) (aI m u):=λhK=>Dk.imp (P8 (h1 hK) (h2 hK)) λD σ H ⟨μ,ρ,h,rs,s,o⟩=>by
 refine⟨μ,ρ,h,rs,s, ?_⟩;unfold aI at o
 cases q:m ρ h with
 |nx ρ1 h1=>rw[q]at o;exact λμ1 H1 σ1 x1 s1 Ax=>⟨μ1,ρ1,h1,Ax,s1,Bf.ext o x1⟩
 |bk ρ1 h1=>rw[q]at o;exact o
 |ct ρ1 h1=>rw[q]at o;exact o
 |rt ρ1 h1=>rw[q]at o;exact o
 |ex ρ1 h1=>rw[q]at o;exact o
 |bad=>rw[q]at o;exact o
theorem aY (h1:iG X G E st m):lG X G E [st] m:=λhK=>P9 (h1 hK)
def vP:MS:=λρ h=>.ct ρ h
theorem UZ:iG X G E (.Continue pos) vP:=λ_=>PS.imp QB λD σ H ⟨μ,ρ,h,rs,s,o⟩=>o μ H σ Ext.refl s rs
def cC (me:M Dv):MS:=λρ h=>(me ρ h).thenS λ_ h1=>.nx ρ h1
theorem jR (he:aK X G E e me) (hs:swapsWith e none pos.line X.env=pure false:=by rfl):iG X G E (.Expr e pos) (cC me):=λhK=>PS.imp (QD (he hK) hs) λD σ H ⟨μ,ρ,h,rs,s,o⟩=>oF rs s o λμ1 d h1 v H1 x1 Ax s1 r1 o1=>o1 μ1 H1 σ Ext.refl s1 Ax
def aL (me:M Dv):MS:=λρ h=>(me ρ h).thenS λd h1=>.rt d h1
theorem bT (he:aK X G E e me):iG X G E (.Return (some e) pos) (aL me):=λhK=>PS.imp (QF (he hK)) λD σ H ⟨μ,ρ,h,rs,s,o⟩=>oF rs s o λμ1 d h1 v H1 x1 Ax s1 r1 o1=>o1 μ1 H1 v Ext.refl s1 r1
def aX (c:M Bool) (t u:MS):MS:=λρ h=>(c ρ h).thenS λb h1=>if b=true then t ρ h1 else u ρ h1
theorem eI {c:br}{a b:List gf}{mc:M Bool}(hc:fO X G E c mc) (ha:lG X G E a m) (hb:lG X G E b u):iG X G E (.If c a b pos) (aX mc m u):=λhK=>PS.imp (QH (hc hK) (ha hK) (hb hK)) λD σ H ⟨μ,ρ,h,rs,s,o⟩=>
 HK rs s o λμ1 k h1 H1 x1 Ax s1 o1=>by
  cases k with
  |true=>rw[if_pos rfl]at o1 ⊢;exact⟨μ1,ρ,h1,Ax,s1,o1⟩
  |false=>rw[if_neg (by decide)]at o1 ⊢;exact⟨μ1,ρ,h1,Ax,s1,o1⟩
theorem Ao.set {μ:Nat->ah}{n:Nat}{H:Hp}{ρ:Ev}{σ:St}{d:Dv}{v:V}(rs:Ao G μ n H ρ σ) (i:Nat) (r:Af G μ n H d v):Ao G μ n H (ρ.set i (some d)) (σ.set i (some v)):=⟨by rw[rz,rz];exact rs.len,λj d' e=>by
 have hl:=rs.len
 by_cases Bx:i=j
 ·subst Bx;have hi:i<ρ.length:=by have:=(bq.mp e).1;simpa using this
  rw[gv hi]at e;cases e;exact⟨v,gv (by omega),r⟩
 ·rw[gr Bx]at e ⊢;exact rs.at_ j d' e⟩
abbrev dI:=Dv->Ev->Option Ev
def tE (G:Cfg) (st:dI):TG:=λv σ H Q=>∃μ ρ h d ρ',Ao G μ h H ρ σ/\Af G μ h H d v/\st d ρ=some ρ'/\∀σ',Ao G μ h H ρ' σ'->Q σ' H
def kP (X:Cx) (G:Cfg) (tg:br) (st:dI):Prop:=X.K=G.K->PG X tg (tE G st)
theorem PG.imp {tg:br}{t t':TG}(h:PG X tg t) (i:∀v σ H Q,t' v σ H Q->t v σ H Q):PG X tg t':=λpins s σ H v u Q I r q=>h pins s σ H v u Q I r (i v σ H Q q)
theorem PGs.imp {tg:List br}{t t':mR}(h:PGs X tg t) (i:∀v σ H Q,t' v σ H Q->t v σ H Q):PGs X tg t':=λpins s σ H v u Q I r q=>h pins s σ H v u Q I r (i v σ H Q q)
def aF (i:Nat):dI:=λd ρ=>some (ρ.set i (some d))
theorem VA {i:Nat}{x:Str}(hN:X.N.Nodup) (hi:X.N[i]?=some x) (hx:nW X.env.scope x) (hf:X.fn x=true∨X.env.scope.names.lookup x=some .local:=by first|exact .inl rfl|exact .inr rfl|assumption):kP X G (.Name x pos) (aF i):=λ_=>PG.imp (QI hN hi hx hf) λv σ H Q ⟨μ,ρ,h,d,ρ',rs,r,e,k⟩=>by cases e;exact k _ (rs.set i r)
abbrev oG:=zw->Ev->Option Ev
def VB (G:Cfg) (st:oG):mR:=λvs σ H Q=>∃μ ρ h ds ρ',Ao G μ h H ρ σ/\RelDL G μ h H ds vs/\st ds ρ=some ρ'/\∀σ',Ao G μ h H ρ' σ'->Q σ' H
def vQ (X:Cx) (G:Cfg) (tg:List br) (st:oG):Prop:=X.K=G.K->PGs X tg (VB G st)
def cO:oG:=λds ρ=>match ds with
 | []=>some ρ
 |_=>none
def aU (s:dI) (t:oG):oG:=λds ρ=>match ds with
 |d::r=>match s d ρ with
  |some ρ1=>t r ρ1
  |none=>none
 | []=>none
theorem jA:vQ X G [] cO:=λ_=>PGs.imp QL λvs σ H Q ⟨μ,ρ,h,ds,ρ',rs,r,e,k⟩=>by
 cases ds with
 |nil=>cases e;rw[RelDL]at r;subst r;exact⟨rfl,k _ rs⟩
 |cons d r=>cases e
theorem eO {tg:br}{tgs:List br}{s:dI}{t:oG}(h1:kP X G tg s) (h2:vQ X G tgs t)
  (hs:(assignEach (tg::tgs) X.env).map (·.2)=assign tg X.env::(assignEach tgs X.env).map (·.2):=by rfl):vQ X G (tg::tgs) (aU s t):=λhK=>PGs.imp (QM (h1 hK) (h2 hK) hs) λvs σ H Q ⟨μ,ρ,h,ds,ρ',rs,r,e,k⟩=>by
 cases ds with
 |nil=>cases e
 |cons d ds=>
  rw[RelDL]at r;obtain⟨v,rr,rfl,r1,r2⟩:=r;unfold aU at e;dsimp only at e
  cases q:s d ρ with
  |none=>rw[q]at e;cases e
  |some ρ1=>rw[q]at e;exact⟨v,rr,rfl,μ,ρ,h,d,ρ1,rs,r1,q,λσ1 Ax=>⟨μ,ρ1,h,ds,ρ',Ax,r2,e,k⟩⟩
def cM (n:Nat) (t:oG):dI:=λd ρ=>match d with
 | .tup ds=>if ds.length=n then t ds ρ else none
 |_=>none
theorem jB {tgs:List br}{k:Nat}{t:oG}{n:Nat}(hc:X.calm=true) (h:vQ X G tgs t)
  (hn:(assignEach tgs X.env).length=n:=by rfl) (hst:(assignEach tgs X.env).findIdx? (·.1)=none:=by rfl):kP X G (.Tuple tgs k pos) (cM n t):=λhK=>
 PG.imp (QO hc (h hK) hn hst) λv σ H Q ⟨μ,ρ,hh,d,ρ',rs,r,e,kk⟩=>by
  cases d with
  |tup ds=>
   dsimp only[cM]at e
   split at e
   ·rename_i hl;obtain⟨a,vs,rfl,e1,r1⟩:=r;exact⟨a,vs,rfl,Au.of e1,by rw[r1.length];exact hl,μ,ρ,hh,ds,ρ',rs,r1,e,kk⟩
   ·cases e
  |_=>cases e
def aM (me:M Dv) (st:dI):MS:=λρ h=>(me ρ h).thenS λd h1=>match st d ρ with
 |some ρ1=>.nx ρ1 h1
 |none=>.bad
theorem VC {st:dI}{σ:St}{H:Hp}{D:Ends}(t:AH G E (aM me st) D σ H):uW (hV G E me) (tE G st) D σ H:=by
 obtain⟨μ,ρ,h,rs,s,o⟩:=t;refine oF rs s o λμ1 d h1 v H1 x1 Ax s1 r1 o1=>?_
 cases q:st d ρ with
 |none=>rw[q]at o1;exact o1.elim
 |some ρ1=>rw[q]at o1;exact⟨μ1,ρ,h1.length,d,ρ1,Ax,r1,q,λσ' rs'=>o1 μ1 H1 σ' Ext.refl s1 rs'⟩
theorem AI {tg:br}{st:dI}(he:aK X G E e me) (hg:kP X G tg st) (hs:swapsWithSole [tg] e pos.line X.env=pure false:=by rfl) (hw:swappedStores [tg] e X.env=pure none:=by rfl)
  (h1:(assignEach [tg] X.env).map (·.2)=[assign tg X.env]:=by rfl):iG X G E (.Assign [tg] e pos) (aM me st):=λhK=>PS.imp (FA (he hK) (hg hK) hs hw h1) λ_ _ _ t=>VC t
theorem VD {i:Nat}{x:Str}{pos':Pos}(hN:X.N.Nodup) (hi:X.N[i]?=some x) (hx:nW X.env.scope x) (he:aK X G E e me) (hs:swapsWith e (some (.Name x pos')) pos.line X.env=pure false:=by rfl) (hf:X.fn x=true∨X.env.scope.names.lookup x=some .local:=by first|exact .inl rfl|exact .inr rfl|assumption):
  iG X G E (.Assign [.Name x pos'] e pos) (aM me (aF i)):=λhK=>PS.imp (QR hN hi hx (he hK) hs hf) λD σ H t=>by
 obtain⟨μ,ρ,h,rs,s,o⟩:=t;exact oF rs s o λμ1 d h1 v H1 x1 Ax s1 r1 o1=>o1 μ1 H1 _ Ext.refl s1 (Ax.set i r1)
end
structure Src where
 n:Nat
 get:Nat->Hs->zx
 fin:Hs->Bool
def Bo (G:Cfg) (μ0:Nat->ah) (n0:Nat) (H0:Hp) (src:Src) (J:It):Prop:=
 ∀(k:Nat) (μ:Nat->ah) (h:Hs) (H:Hp),Ext μ0 n0 H0 μ h.length H->Av G μ h H->
  (k<src.n->∀d,src.get k h=some d->J.go k H/\∀x H',J.yld k H x H'->Bw H H'/\Af G μ h.length H' d x)/\(k=src.n->src.fin h=true->J.stop k H)
def AJ (G:Cfg) (E:XK) (m:M Src):TI:=λσ H R=>∃μ ρ h,Ao G μ h.length H ρ σ/\Av G μ h H/\Out G E μ h.length H (m ρ h) (Bo G) R
def jS (X:Cx) (G:Cfg) (E:XK) (tg iter:br) (m:M Src):Prop:=X.K=G.K->PI X tg iter (AJ G E m)
theorem PI.imp {X:Cx}{tg iter:br}{t t':TI}(h:PI X tg iter t) (i:∀σ H R,t' σ H R->t σ H R):PI X tg iter t':=λpins s σ H R I q=>h pins s σ H R I (i σ H R q)
def dO (xs:zw):Src:=⟨xs.length,λk _=>xs[k]?,λ_=>true⟩
def bZ (i n:Nat):Src:=⟨n,λk h=>match getL h i with
 |some xs=>if xs.length=n then xs[k]? else none
 |none=>none,λh=>match getL h i with
 |some xs=>xs.length==n
 |none=>false⟩
def bX (lo hi:Int):Src:=⟨(hi - lo).toNat,λk _=>some (.int (lo+k)),λ_=>true⟩
def bC (f:Dv->Hs->Rs Src) (m:M Dv):M Src:=λρ h=>(m ρ h).bind f
section
variable{X:Cx}{G:Cfg}{E:XK}{tg e a b:br}{me ma mb:M Dv}{pos p:Pos}
def cD:Dv->Hs->Rs Src
 | .ref i,h=>match getL h i with
  |some xs=>.ok (bZ i xs.length) h
  |none=>.bad
 |_,_=>.bad
def dZ:Dv->Hs->Rs Src
 | .tup xs,h=>.ok (dO xs) h
 |_,_=>.bad
theorem kQ (he:aK X G E e me):jS X G E tg e (bC cD me):=λhK=>PI.imp (QZ (he hK)) λσ H R ⟨μ,ρ,h,rs,s,o⟩=>fG rs s o λμ1 x h1 vx H1 x1 Ax s1 r1 o1=>by
 rw[hK]
 cases x with
 |ref i=>
  obtain⟨hi,rfl⟩:=r1;dsimp only[cD]at o1
  cases g:getL h1 i with
  |none=>rw[g]at o1;exact o1.elim
  |some xs=>
   rw[g]at o1;obtain⟨vs,e1,r2⟩:=s1.ob i _ (dG g);refine⟨_,rfl,⟨vs,Ay.of e1⟩,o1.val s1 λk μ2 h2 H2 x2 s2=>?_⟩;have emu:=x2.mu i hi;constructor
   ·intro hk d hd;dsimp only[bZ]at hd
    cases g2:getL h2 i with
    |none=>rw[g2]at hd;cases hd
    |some ys=>
     rw[g2]at hd;dsimp only at hd
     split at hd
     ·obtain⟨ws,e2,r3⟩:=s2.ob i _ (dG g2);rw[emu]at e2;obtain⟨v,ev,rv⟩:=r3.get hd;refine⟨⟨ws,v,Ay.of e2,ev⟩,λx H' hy=>?_⟩;obtain⟨rfl,hy⟩:=hy;have:=hy ws (Ay.of e2);rw[ev]at this;cases this;exact⟨Bw.refl _,rv⟩
     ·cases hd
   ·intro hk hf;dsimp only[bZ]at hf
    cases g2:getL h2 i with
    |none=>rw[g2]at hf;cases hf
    |some ys=>
     rw[g2]at hf;obtain⟨ws,e2,r3⟩:=s2.ob i _ (dG g2);rw[emu]at e2;refine⟨ws,Ay.of e2, ?_⟩;have h3:ys.length=xs.length:=by simpa using hf
     rw[r3.length,h3,hk];exact aj _
 |_=>exact o1.elim
theorem Bo.tup {μ:Nat->ah}{n:Nat}{H:Hp}{a:ah}{vs:List V}{xs:zw}{K:ao}(e:H a=some (.tup vs)) (r:RelDL G μ n H xs vs) (hi:∀(X:Cx),True):Bo G μ n H (dO xs) (zF K a):=by
 intro k μ2 h2 H2 x2 s2;have e2:=x2.im a (.tup vs) trivial e;have r2:=RelDL.mono x2 _ _ r;have inj:∀ws,Au K H2 a ws->ws=vs->True:=λ_ _ _=>trivial;constructor
 ·intro hk d hd;obtain⟨v,ev,rv⟩:=r2.get hd;refine⟨⟨vs,v,Au.of e2,ev⟩,λx H' hy=>?_⟩;obtain⟨rfl,hy⟩:=hy;have:=hy vs (Au.of e2);rw[ev]at this;cases this;exact⟨Bw.refl _,rv⟩
 ·intro hk _;exact⟨vs,Au.of e2,by rw[r2.length,hk];exact aj _⟩
theorem nE (he:aK X G E e me):jS X G E tg e (bC dZ me):=λhK=>PI.imp (Q0 (he hK)) λσ H R ⟨μ,ρ,h,rs,s,o⟩=>fG rs s o λμ1 x h1 vx H1 x1 Ax s1 r1 o1=>by
 cases x with
 |tup xs=>obtain⟨a,vs,rfl,e1,r2⟩:=r1;exact⟨a,rfl,⟨vs,Au.of e1⟩,o1.val s1 (Bo.tup e1 r2 λ_=>trivial)⟩
 |_=>exact o1.elim
def iH (i:Int):Bool:=decide (-4611686018427387904<=i)&&decide (i<4611686018427387904)
def cH:zw->Hs->Rs Src
 | [.int j],h=>if iH j=true then .ok (bX 0 j) h else .bad
 |_,_=>.bad
def hX:zw->Hs->Rs Src
 | [.int i,.int j],h=>if iH i=true/\iH j=true then .ok (bX i j) h else .bad
 |_,_=>.bad
def aQ (f:zw->Hs->Rs Src) (ms:M zw ):M Src:=λρ h=>(ms ρ h).bind f
theorem Bo.rng {μ:Nat->ah}{n:Nat}{H:Hp}(lo hi:Int):Bo G μ n H (bX lo hi) (sM lo (hi - lo).toNat):=by
 intro k μ2 h2 H2 x2 s2;constructor
 ·intro hk d hd;cases hd;exact⟨hk,λx H' hy=>by obtain⟨rfl,rfl⟩:=hy;exact⟨Bw.refl _,rfl⟩⟩
 ·intro hk _;exact sf hk.symm
variable{ms:M zw }
theorem jT (hg:Gl X "range") (hm:X.mg "range" = none) (ha:dY X G E [a] ms) (hs:ar [a] X.env=[(false,eval a X.env)]:=by rfl):jS X G E tg (.Call (.Name "range" p) [a] [] pos) (aQ cH ms):=λhK=>
 PI.imp (Q4 hg hm (ha hK) hs) λσ H R ⟨μ,ρ,h,rs,s,o⟩=>kK rs s o λμ1 ds h1 vs H1 x1 Ax s1 r1 o1=>by
  unfold cH at o1
  split at o1
  ·rename_i j
   split at o1
   ·rename_i hj;obtain⟨v,rfl,rv⟩:=tD r1;rw[Af]at rv;subst rv;simp only[iH,da,decide_eq_true_eq]at hj;refine⟨j,rfl,by omega,by omega, ?_⟩;have:=o1.val s1 (Bo.rng (G:=G) (μ:=μ1) (n:=h1.length) (H:=H1) 0 j);rw[Int.sub_zero]at this;exact this
   ·exact o1.elim
  ·exact o1.elim
theorem AK (hg:Gl X "range") (hm:X.mg "range" = none) (ha:dY X G E [a,b] ms) (hs:ar [a,b] X.env=[(false,eval a X.env),(false,eval b X.env)]:=by rfl) (hs2:ar [b] X.env=[(false,eval b X.env)]:=by rfl):jS X G E tg (.Call (.Name "range" p) [a,b] [] pos) (aQ hX ms):=λhK=>
 PI.imp (Q5 hg hm (ha hK) hs hs2) λσ H R ⟨μ,ρ,h,rs,s,o⟩=>kK rs s o λμ1 ds h1 vs H1 x1 Ax s1 r1 o1=>by
  unfold hX at o1
  split at o1
  ·rename_i i j
   split at o1
   ·rename_i hj;obtain⟨v,v',rfl,rv,rv'⟩:=vN r1;rw[Af]at rv rv';subst rv;subst rv';simp only[iH,da,decide_eq_true_eq]at hj;exact⟨i,j,rfl,⟨by omega,by omega,by omega,by omega⟩,o1.val s1 (Bo.rng (G:=G) (μ:=μ1) (n:=h1.length) (H:=H1) i j)⟩
   ·exact o1.elim
  ·exact o1.elim
end
def eC (src:Src) (st:dI) (body:MS):Nat->Nat->MS
 |0,_=>λρ h=>if src.fin h=true then .nx ρ h else .bad
 |f+1,k=>λρ h=>match src.get k h with
  |none=>.bad
  |some d=>match st d ρ with
   |none=>.bad
   |some ρ1=>match body ρ1 h with
    | .nx ρ2 h2=>eC src st body f (k+1) ρ2 h2
    | .ct ρ2 h2=>eC src st body f (k+1) ρ2 h2
    | .bk ρ2 h2=>.nx ρ2 h2
    |r=>r
def dR (mi:M Src) (st:dI) (body:MS):MS:=λρ h=>(mi ρ h).thenS λsrc h1=>eC src st body src.n 0 ρ h1
section
variable{X:Cx}{G:Cfg}{E:XK}{tg iter:br}{body:List gf}{mi:M Src}{st:dI}{mb:MS}{pos:Pos}
theorem kR (hp:xj (model X.prog X.w) X.A X.env X.xe) (hc:X.calm=true) (hi:jS X G E tg iter mi) (hg:kP X G tg st) (hb:lG X G E body mb)
  (hs:∀x,foldedSetIterable iter X.env x=pure x:=by intro _;rfl):iG X G E (.For tg iter body [] pos) (dR mi st mb):=λhK=>PS.imp (Q7 hp hc (hi hK) (hg hK) (hb hK) hs) λD σ H ⟨μ,ρ,h,rs,s,o⟩=>by
 refine⟨μ,ρ,h,rs,s,(o.thenS (R:=Bo G)).mono λJ H1 ⟨μ1,src,h1,x1,s1,ok,o1⟩=>?_⟩;refine⟨λi m σ H=>∃μ2 ρ2 h2,Ext μ1 h1.length H1 μ2 h2.length H/\Ao G μ2 h2.length H ρ2 σ/\Av G μ2 h2 H/\i+m=src.n/\Bf G E μ2 h2.length H (eC src st mb m i ρ2 h2) D,⟨src.n,μ1,ρ,h1,Ext.refl,rs.mono x1,s1,Nat.zero_add _,o1⟩, ?_⟩
 rintro i m σ2 H2 ⟨μ2,ρ2,h2,x2,Cv,s2,him,o2⟩
 cases m with
 |zero=>
  unfold eC at o2
  split at o2
  ·rename_i hf;exact .inl ⟨(ok i μ2 h2 H2 x2 s2).2 (by omega) hf,o2 μ2 H2 σ2 Ext.refl s2 Cv⟩
  ·exact o2.elim
 |succ m=>
  unfold eC at o2
  cases q:src.get i h2 with
  |none=>rw[q]at o2;exact o2.elim
  |some d=>
   rw[q]at o2;dsimp only at o2
   cases q2:st d ρ2 with
   |none=>rw[q2]at o2;exact o2.elim
   |some ρ3=>
    rw[q2]at o2;dsimp only at o2;obtain⟨go,yl⟩:=(ok i μ2 h2 H2 x2 s2).1 (by omega) d q;refine .inr ⟨go,λσ' H'=>∃μ3 ρ4 h4,Ext μ1 h1.length H1 μ3 h4.length H'/\Ao G μ3 h4.length H' ρ4 σ'/\Av G μ3 h4 H'/\(i+1)+m=src.n/\Bf G E μ3 h4.length H' (eC src st mb m (i+1) ρ4 h4) D,λσ' H' z=>⟨m,jw m,z⟩,λx H' hy=>?_⟩;obtain⟨sm,rx⟩:=yl x H' hy;have xs:Ext μ2 h2.length H2 μ2 h2.length H':=Ext.same sm;refine⟨μ2,ρ2,h2.length,d,ρ3,Cv.mono xs,rx,q2,λσ3 rs3=>⟨μ2,ρ3,h2,rs3,s2.same sm, ?_⟩⟩;have step:∀ρ5 h5,Bf G E μ2 h2.length H2 (eC src st mb m (i+1) ρ5 h5) D->∀μ6 H6 σ6,Ext μ2 h2.length H' μ6 h5.length H6->Av G μ6 h5 H6->Ao G μ6 h5.length H6 ρ5 σ6->
      ∃μ3 ρ4 h4,Ext μ1 h1.length H1 μ3 h4.length H6/\Ao G μ3 h4.length H6 ρ4 σ6/\Av G μ3 h4 H6/\(i+1)+m=src.n/\Bf G E μ3 h4.length H6 (eC src st mb m (i+1) ρ4 h4) D:=
     λρ5 h5 o5 μ6 H6 σ6 x6 s6 rs6=>⟨μ6,ρ5,h5,(x2.trans xs).trans x6,rs6,s6,by omega,o5.ext (xs.trans x6)⟩
    cases q3:mb ρ3 h2 with
    |nx ρ5 h5=>rw[q3]at o2;exact step ρ5 h5 o2
    |ct ρ5 h5=>rw[q3]at o2;exact step ρ5 h5 o2
    |bk ρ5 h5=>rw[q3]at o2;exact λμ6 H6 σ6 x6 s6 rs6=>o2 μ6 H6 σ6 (xs.trans x6) s6 rs6
    |rt d5 h5=>rw[q3]at o2;exact λμ6 H6 σ6 x6 s6 rs6=>o2 μ6 H6 σ6 (xs.trans x6) s6 rs6
    |ex d5 h5=>rw[q3]at o2;exact λμ6 H6 σ6 x6 s6 rs6=>o2 μ6 H6 σ6 (xs.trans x6) s6 rs6
    |bad=>rw[q3]at o2;exact o2.elim
end
abbrev MC:=Ev->Hs->zw->Rs (Ev×zw)
def bA (me:M Dv):MC:=λρ h acc=>match me ρ h with
 | .ok d h1=>if acc.length<1000000 then .ok (ρ,acc++[d]) h1 else .bad
 |_=>.bad
def gK (src:Src) (st:dI) (test:M Bool) (inner:MC):Nat->Nat->MC
 |0,_=>λρ h acc=>if src.fin h=true then .ok (ρ,acc) h else .bad
 |f+1,k=>λρ h acc=>match src.get k h with
  |none=>.bad
  |some d=>match st d ρ with
   |none=>.bad
   |some ρ1=>match test ρ1 h with
    | .ok true h2=>match inner ρ1 h2 acc with
     | .ok r h3=>gK src st test inner f (k+1) r.1 h3 r.2
     |_=>.bad
    | .ok false h2=>gK src st test inner f (k+1) ρ1 h2 acc
    |_=>.bad
def fI (mi:M Src) (st:dI) (test:M Bool) (inner:MC):MC:=λρ h acc=>match mi ρ h with
 | .ok src h1=>gK src st test inner src.n 0 ρ h1 acc
 |_=>.bad
def bQ:M Bool:=λ_ h=>.ok true h
def jU (cap:List (Option Nat)) (ρ:Ev):Ev:=cap.map λo=>match o with
 |some j=>(ρ[j]?).getD none
 |none=>none
def bJ (mi:M Src) (cap:List (Option Nat)) (st:dI) (test:M Bool) (inner:MC):M zw :=λρ h=>(mi ρ h).bind λsrc h1=>match gK src st test inner src.n 0 (jU cap ρ) h1 []with
 | .ok r h2=>.ok r.2 h2
 |_=>.bad
def tF (G:Cfg) (m:MC):TC:=λσ H vs K=>∃μ ρ h xs ρ' xs' h',Ao G μ h.length H ρ σ/\Av G μ h H/\RelDL G μ h.length H xs vs/\m ρ h xs=.ok (ρ',xs') h' /\
 ∀μ' H' σ' Bp,Ext μ h.length H μ' h'.length H'->Av G μ' h' H'->Ao G μ' h'.length H' ρ' σ'->RelDL G μ' h'.length H' xs' Bp->K σ' H' Bp
section
variable{G:Cfg}
theorem VE {μ:Nat->ah}{n:Nat}{H:Hp}{ρ:Ev}{σ:St}(rs:Ao G μ n H ρ σ) (cap:List (Option Nat)):Ao G μ n H (jU cap ρ) (qT cap σ):=⟨by simp[jU,qT],λi d e=>by
 unfold jU at e;rw[dz]at e
 cases q:cap[i]? with
 |none=>rw[q]at e;cases e
 |some o=>
  rw[q]at e
  cases o with
  |none=>cases e
  |some j=>
   have e':(ρ[j]?).getD none=some d:=by simpa using e
   have e2:ρ[j]?=some (some d):=by
    cases z:ρ[j]? with
    |none=>rw[z]at e';cases e'
    |some y=>rw[z]at e';simp at e';rw[e']
   obtain⟨v,e3,r⟩:=rs.at_ j d e2;refine⟨v, ?_,r⟩;unfold qT;rw[dz,q];simp[e3]⟩
theorem AL {E:XK}{me:M Dv}{σ:St}{H:Hp}{vs:List V}{K:St->Hp->List V->Prop}(t:tF G (bA me) σ H vs K):GK (hV G E me) σ H vs K:=by
 obtain⟨μ,ρ,h,xs,ρ',xs',h',rs,s,r,e,k⟩:=t;refine⟨μ,ρ,h,rs,s, ?_⟩;unfold bA at e
 cases q:me ρ h with
 |bad=>rw[q]at e;cases e
 |ex c h1=>rw[q]at e;cases e
 |ok d h1=>
  rw[q]at e;dsimp only at e
  split at e
  ·rename_i hl;cases e;intro μ1 H1 v x1 s1 r1;refine⟨?_,k μ1 H1 σ _ x1 s1 (rs.mono x1) ((RelDL.mono x1 _ _ r).append (RelDL.cons r1 RelDL.nil))⟩;rw[r.length];exact ay hl (by decide)
  ·cases e
theorem HL {E:XK}{src:Src}{st:dI}{test:M Bool}{inner:MC}{J:It}{μ1:Nat->ah}{h1:Hs}{H1:Hp}{ρ ρ':Ev}{σ:St}{xs xs':zw}{vs:List V}{h':Hs}{K:St->Hp->List V->Prop}
  (ok:Bo G μ1 h1.length H1 src J) (rs:Ao G μ1 h1.length H1 ρ σ) (s1:Av G μ1 h1 H1) (r:RelDL G μ1 h1.length H1 xs vs) (e:gK src st test inner src.n 0 ρ h1 xs=.ok (ρ',xs') h')
  (k:∀μ' H' σ' Bp,Ext μ1 h1.length H1 μ' h'.length H'->Av G μ' h' H'->Ao G μ' h'.length H' ρ' σ'->RelDL G μ' h'.length H' xs' Bp->K σ' H' Bp):
  sR J (tE G st) (iD G E test) (tF G inner) K σ H1 vs:=by
 refine⟨λi m σ H vs=>∃μ2 ρ2 h2 xs2,Ext μ1 h1.length H1 μ2 h2.length H/\Ao G μ2 h2.length H ρ2 σ/\Av G μ2 h2 H/\RelDL G μ2 h2.length H xs2 vs/\i+m=src.n/\gK src st test inner m i ρ2 h2 xs2=.ok (ρ',xs') h',⟨src.n,μ1,ρ,h1,xs,Ext.refl,rs,s1,r,Nat.zero_add _,e⟩, ?_⟩
 rintro i m σ2 H2 vs2 ⟨μ2,ρ2,h2,xs2,x2,Cv,s2,r2,him,e2⟩
 cases m with
 |zero=>
  unfold gK at e2
  split at e2
  ·rename_i hf;cases e2;exact .inl ⟨(ok i μ2 _ H2 x2 s2).2 (by omega) hf,k μ2 H2 σ2 vs2 x2 s2 Cv r2⟩
  ·cases e2
 |succ m=>
  unfold gK at e2
  cases q:src.get i h2 with
  |none=>rw[q]at e2;cases e2
  |some d=>
   rw[q]at e2;dsimp only at e2
   cases q2:st d ρ2 with
   |none=>rw[q2]at e2;cases e2
   |some ρ3=>
    rw[q2]at e2;dsimp only at e2;obtain⟨go,yl⟩:=(ok i μ2 h2 H2 x2 s2).1 (by omega) d q;refine .inr ⟨go,λσ' H' Bp=>∃μ3 ρ4 h4 xs4,Ext μ1 h1.length H1 μ3 h4.length H'/\Ao G μ3 h4.length H' ρ4 σ'/\Av G μ3 h4 H'/\RelDL G μ3 h4.length H' xs4 Bp/\(i+1)+m=src.n/\gK src st test inner m (i+1) ρ4 h4 xs4=.ok (ρ',xs') h',
     λσ' H' Bp z=>⟨m,jw m,z⟩,λx H' hy=>?_⟩
    obtain⟨sm,rx⟩:=yl x H' hy;have xsm:Ext μ2 h2.length H2 μ2 h2.length H':=Ext.same sm;refine⟨μ2,ρ2,h2.length,d,ρ3,Cv.mono xsm,rx,q2,λσ3 rs3=>⟨μ2,ρ3,h2,rs3,s2.same sm, ?_⟩⟩
    cases q3:test ρ3 h2 with
    |bad=>rw[q3]at e2;cases e2
    |ex c h3=>rw[q3]at e2;cases e2
    |ok b h3=>
     rw[q3]at e2;intro μ4 H4 b' x4 s4 rb;have eb:b'=b:=rb;subst eb
     cases b' with
     |false=>rw[if_neg (by decide)];exact⟨μ4,ρ3,h3,xs2,(x2.trans xsm).trans x4,rs3.mono x4,s4,RelDL.mono (xsm.trans x4) _ _ r2,by omega,e2⟩
     |true=>
      rw[if_pos rfl];dsimp only at e2
      cases q4:inner ρ3 h3 xs2 with
      |bad=>rw[q4]at e2;cases e2
      |ex c h5=>rw[q4]at e2;cases e2
      |ok rr h5=>rw[q4]at e2;obtain⟨ρ5,xs5⟩:=rr;exact⟨μ4,ρ3,h3,xs2,ρ5,xs5,h5,rs3.mono x4,s4,RelDL.mono (xsm.trans x4) _ _ r2,q4,λμ6 H6 σ6 vs6 x6 s6 rs6 r6=>⟨μ6,ρ5,h5,xs5,((x2.trans xsm).trans x4).trans x6,rs6,s6,r6,by omega,e2⟩⟩
theorem HM {E:XK}{mi:M Src}{st:dI}{test:M Bool}{inner:MC}{σ:St}{H:Hp}{vs:List V}{K:St->Hp->List V->Prop}(t:tF G (fI mi st test inner) σ H vs K):GR (AJ G E mi) (tE G st) (iD G E test) (tF G inner) σ H vs K:=by
 obtain⟨μ,ρ,h,xs,ρ',xs',h',rs,s,r,e,k⟩:=t;refine⟨μ,ρ,h,rs,s, ?_⟩;unfold fI at e
 cases q:mi ρ h with
 |bad=>rw[q]at e;cases e
 |ex c h1=>rw[q]at e;cases e
 |ok src h1=>rw[q]at e;exact λμ1 H1 J x1 s1 ok=>HL ok (rs.mono x1) s1 (RelDL.mono x1 _ _ r) e λμ2 H2 σ2 vs2 x2=>k μ2 H2 σ2 vs2 (x1.trans x2)
def RL (G:Cfg):(Nat->ah)->Nat->Hp->zw->V->Prop:=λμ n H xs v=>∃p vs,v=.ref p/\H p=some (.lst vs)/\(∀i,i<n->μ i≠p)/\RelDL G μ n H xs vs
def vR (G:Cfg) (E:XK) (m:M zw ):TE:=λσ H Q=>∃μ ρ h,Ao G μ h.length H ρ σ/\Av G μ h H/\Out G E μ h.length H (m ρ h) (RL G) Q
def pI (X:Cx) (G:Cfg) (E:XK) (pe:br) (m:M zw ):Prop:=X.K=G.K->PE X pe (vR G E m)
theorem Av.adopt {μ:Nat->ah}{h:Hs}{H:Hp}{p:ah}{ds:zw}{vs:List V}(s:Av G μ h H) (e:H p=some (.lst vs)) (hq:∀i,i<h.length->μ i≠p) (r:RelDL G μ h.length H ds vs):
  Ext μ h.length H (λi=>if i=h.length then p else μ i) (h++[Ob.lst ds]).length H/\Av G (λi=>if i=h.length then p else μ i) (h++[.lst ds]) H:=by
 have hl:(h++[Ob.lst ds]).length=h.length+1:=by simp
 have x:Ext μ h.length H (λi=>if i=h.length then p else μ i) (h++[Ob.lst ds]).length H:=⟨by omega,λi hi=>if_neg (bg hi),λa o _ e=>e⟩
 refine⟨x,λi j hi hj e=>?_,λi o q=>?_,s.tab⟩
 ·rw[hl]at hi hj
  by_cases h1:i=h.length <;> by_cases h2:j=h.length
  ·omega
  ·rw[if_pos h1,if_neg h2]at e;exact absurd e.symm (hq j (by omega))
  ·rw[if_neg h1,if_pos h2]at e;exact absurd e (hq i (by omega))
  ·rw[if_neg h1,if_neg h2]at e;exact s.inj i j (by omega) (by omega) e
 ·by_cases h1:i<h.length
  ·rw[fi h1]at q;have r1:=s.ob i o q
   cases o with
   |lst xs=>obtain⟨ws,e1,r2⟩:=r1;exact⟨ws,by rw[if_neg (bg h1)];exact e1,RelDL.mono x _ _ r2⟩
   |clo k t=>rw[if_neg (bg h1)];exact r1.clo x
  ·rw[gw (by omega)]at q;have h2:i=h.length:=by have:=(bq.mp q).1;simp at this;omega
   subst h2;simp at q;subst q;exact⟨vs,by rw[if_pos rfl];exact e,RelDL.mono x _ _ r⟩
def bM (m:M zw ):M Dv:=λρ h=>(m ρ h).bind λxs h1=>.ok (.ref h1.length) (h1++[.lst xs])
theorem HN {E:XK}{m:M zw }{σ:St}{H:Hp}{Q:VK}(t:hV G E (bM m) σ H Q):vR G E m σ H Q:=by obtain⟨μ,ρ,h,rs,s,o⟩:=t;refine⟨μ,ρ,h,rs,s,(o.bind (R1:=RL G)).mono λv H1 ⟨μ1,xs,h1,x1,s1,⟨p,vs,ev,e1,hq,r1⟩,o1⟩=>?_⟩;subst ev;obtain⟨x2,s2⟩:=s1.adopt e1 hq r1;exact o1 _ _ _ x2 s2 ⟨by simp,by show V.ref p=V.ref (if h1.length=h1.length then p else μ1 h1.length);rw[if_pos rfl]⟩
theorem jV {X:Cx}{E:XK}{pe:br}{m:M zw }(h:pI X G E pe m):aK X G E pe (bM m):=λhK=>PE.imp (h hK) λ_ _ _ t=>HN t
theorem AM {E E':XK}{mi:M Src}{cap:List (Option Nat)}{st:dI}{test:M Bool}{inner:MC}{σ:St}{H:Hp}{Q:VK}(t:vR G E (bJ mi cap st test inner) σ H Q):zV (AJ G E mi) cap (tE G st) (iD G E' test) (tF G inner) σ H Q:=by
 obtain⟨μ,ρ,h,rs,s,o⟩:=t;refine⟨μ,ρ,h,rs,s,(o.bind (R1:=Bo G)).mono λJ H1 ⟨μ1,src,h1,x1,s1,ok,o1⟩=>?_⟩
 cases q:gK src st test inner src.n 0 (jU cap ρ) h1 []with
 |bad=>rw[q]at o1;exact o1.elim
 |ex c h2=>rw[q]at o1;exact o1.elim
 |ok r h2=>rw[q]at o1;obtain⟨ρ',xs'⟩:=r;refine HL ok (VE (rs.mono x1) cap) s1 RelDL.nil q λμ2 H2 σ2 vs2 x2 s2 Cv r2 p hp=>?_;exact o1 μ2 _ _ (x2.trans (Ext.same (dQ hp))) (s2.same (dQ hp)) ⟨p,vs2,rfl,eR,s2.not hp,RelDL.mono (Ext.same (dQ hp)) _ _ r2⟩
end
section
variable{X:Cx}{G:Cfg}{E:XK}{elt tg iter Cg Aq:br}{ifs Bc:List br}{sc:gu}{ps pos:Pos}{mi mi':M Src}{st Cp:dI}{test Cr:M Bool}{me:M Dv}{N:zu}{cap:List (Option Nat)}
def pJ (X:Cx) (G:Cfg) (ifs:List br) (m:M Bool):Prop:=X.K=G.K->PTs X ifs (iD G E0 m)
theorem PTs.imp {Y:Cx}{ifs:List br}{t t':TT}(h:PTs Y ifs t) (i:∀σ H Q,t' σ H Q->t σ H Q):PTs Y ifs t':=λpins s σ H Q I q=>h pins s σ H Q I (i σ H Q q)
theorem gX {Y:Cx}:pJ Y G [] bQ:=λ_=>PTs.imp T1 λσ H Q ⟨μ,ρ,h,rs,s,o⟩=>o.val s rfl
theorem nF {Y:Cx}{c:br}{m:M Bool}(h:fO Y G E0 c m):pJ Y G [c] m:=λhK=>T3 (h hK)
theorem Dl.imp {Y:Cx}{D:ah}{m:Sem Unit}{t t':TC}(h:Dl Y D m t) (i:∀σ H xs K,t' σ H xs K->t σ H xs K):Dl Y D m t':=λpins s σ H xs K I a f q=>h pins s σ H xs K I a f (i σ H xs K q)
theorem gL (hc:X.calm=true) (C:Bh X sc N cap) (hi:jS X G E tg iter mi) (hg:∀s H ex,kP (cY X sc N s H ex) G tg st) (Dh:∀s H ex,pJ (cY X sc N s H ex) G ifs test) (hel:∀s H ex,aK (cY X sc N s H ex) G E0 elt me)
  (hs:∀x,foldedSetIterable iter X.env x=pure x:=by intro _;rfl):pI X G E (.ListComp elt [⟨tg,iter,ifs,0⟩] sc ps) (bJ mi cap st test (bA me)):=λhK=>
 PE.imp (GV hc C rfl (λit D env=>T4 elt tg iter ifs sc ps (.ref it) D env) (hi hK) (λs H ex=>hg s H ex hK) (λs H ex=>Dh s H ex hK) (λs H ex D=>Dl.imp (zU (hel s H ex hK)) λ_ _ _ _ t=>AL t) hs) λ_ _ _ t=>AM t
theorem AN (hc:X.calm=true) (C:Bh X sc N cap) (hi:jS X G E tg iter mi) (hg:∀s H ex,kP (cY X sc N s H ex) G tg st) (Dh:∀s H ex,pJ (cY X sc N s H ex) G ifs test)
  (hi':∀s H ex,jS (cY X sc N s H ex) G E0 Cg Aq mi') (hg':∀s H ex,kP (cY X sc N s H ex) G Cg Cp) (htt':∀s H ex,pJ (cY X sc N s H ex) G Bc Cr) (hel:∀s H ex,aK (cY X sc N s H ex) G E0 elt me)
  (hs:∀x,foldedSetIterable iter X.env x=pure x:=by intro _;rfl) (hs':∀s H ex x,foldedSetIterable Aq (cY X sc N s H ex).env x=pure x:=by intro _ _ _ _;rfl):
  pI X G E (.ListComp elt [⟨tg,iter,ifs,0⟩,⟨Cg,Aq,Bc,0⟩] sc ps) (bJ mi cap st test (fI mi' Cp Cr (bA me))):=λhK=>
 PE.imp (GV hc C rfl (inner:=λD env=>qU Aq (.ListComp elt [⟨tg,iter,ifs,0⟩,⟨Cg,Aq,Bc,0⟩] sc ps) 1 D env) (λit D env=>GO elt tg iter Cg Aq ifs Bc sc ps (.ref it) D env) (hi hK) (λs H ex=>hg s H ex hK) (λs H ex=>Dh s H ex hK)
  (λs H ex D=>Dl.imp (GS (X:=cY X sc N s H ex) (D:=D) (gens:=[⟨tg,iter,ifs,0⟩,⟨Cg,Aq,Bc,0⟩]) (d:=1) rfl hc rfl (λit=>GP elt tg iter Cg Aq ifs Bc sc ps (.ref it) D _) (hi' s H ex hK) (hg' s H ex hK) (htt' s H ex hK) (Dl.imp (zU (hel s H ex hK)) λ_ _ _ _ t=>AL t) (hs' s H ex)) λ_ _ _ _ t=>HM t) hs) λ_ _ _ t=>AM t
end
def gY (T:ah) (h:cx):Prop:=∃oT ts,h.get? T=some oT/\oT.data=.fields ts/\ts[3]?=some .none
structure Chg (fs:List ah) (e T:ah) (h h':cx):Prop where
 new:h.objs.size<=T
 keep:∀b o,b≠e->b∉fs->h.get? b=some o->h'.get? b=some o
 slot:∀b o,b≠e->h.get? b=some o->∃sl,h'.get? b=some { o with slots:=sl }
 tb:gY T h'
theorem VF (f:Array af->Array af) (o:Obj):(Obj.mapFields f o).dict=o.dict:=by
 unfold Obj.mapFields
 split <;> rfl
section
variable{M:wk}{A:cg}{E:af->ag->Prop}{s:ag}
theorem AO {a:ah}{o:Obj}{vs:Array af}{i:Nat}{v:af}{Q:Unit->ag->Prop}(e:s.heap.get? a=some o) (hd:o.data=.fields vs) (hi:i<vs.size)
  (k:∀h' o',iu a s.heap h'->h'.get? a=some o'->o'.cls=o.cls->o'.dict=o.dict->o'.data=.fields (vs.setIfInBounds i v)->Q () { s with heap:=h' }):wpAny M A (setField (.ref a) i v) Q E s:=
 have d':=ui hd (·.setIfInBounds i v)
 yp e hd hi (k _ _ (my ..) (jm _ e (yx d')) (Obj.cls_mapFields ..) (VF ..) d')
theorem VG {head v:af}{L:Int}{pl:List af}{Q:af->ag->Prop}(Bl:IsPlace pl) (k:∀ob ts,ob.data=.fields ts->3<ts.size->ob.isFreed=false->Q (.ref s.heap.objs.size) { s with heap:=s.heap.push ob }):
  wpAny M A (xn head v .none (rawInt L) .none pl) Q E s:=
 fo (k _ _ rfl (by simp only[av,bx,cp,kh];omega) rfl) (Bl.sizeOk5 ..)
theorem VH {e T:ah}{oe oT:Obj}{vs ts:Array af}{Q:Unit->ag->Prop}(he:s.heap.get? e=some oe) (hd:oe.data=.fields vs) (h1:vs[1]?=some (.ref T)) (hT:s.heap.get? T=some oT) (hdT:oT.data=.fields ts) (hs:3<ts.size)
  (k:∀h',iu T s.heap h'->gY T h'->Q () { s with heap:=h' }):wpAny M A (setFlight (.ref e) none) Q E s:=by
 refine ae (fq he hd h1 ?_);show wpAny M A (if(gh T != jj)=true then _ else _) Q E s;rw[if_pos (by simp)];exact AO hT hdT hs λh' o' sb g _ _ d=>k h' sb ⟨o',_,g,d,by rw[ik hs];rfl⟩
theorem HP {base:cx}{l:List Env}{a:ah}{o:Obj}{vs:Array af}(hl:s.heap.FunFrames base l) (e:s.heap.get? a=some o) (hd:o.data=.fields vs):a∉eW l:=λhm=>by obtain⟨_,o',e',nf⟩:=hl.mem hm;rw[e]at e';cases e';exact nf vs hd
theorem HQ {base:cx}{env:Env}{outer:List Env}{L e:ah}{oe:Obj}{vs:Array af}{head a0:af}{nx:Bool}{Q:Unit->ag->Prop}(hfr:A.frames=some (env::outer)) (hl:s.heap.FunFrames base (env::outer)) (hf:env.frame=some L)
  (he:s.heap.get? e=some oe) (hd:oe.data=.fields vs) (hdn:oe.dict=none) (Br:1<vs.size) (h0:vs[0]?=some a0)
  (k:∀h' T,Chg (eW (env::outer)) e T s.heap h'->eV oe.cls e T a0 h'->Q () { s with heap:=h' }):
  wpAny M A (do let a <-frameOf env;let pl <-entryPlaceOf L nx;let b <-xn head a .none (rawInt L) .none pl;setField (.ref e) 1 b)
   (λ_ s'=>wpAny M A (setFlight (.ref e) none) Q E s') E s:=by
 have ne:=HP hl he hd;refine ae (wpAny_frameOf_fun hfr hl hf λg1 so=>ae (wpAny_entryPlaceOf λpl Bl=>ae (VG Bl λob ts dt hts nf=>?_)));have e1:g1.get? e=some oe:=(so.2.1 e ne).trans he;have lt:e<g1.objs.size:=au e1;refine AO (s:={ s with heap:=g1.push ob }) (ak _ e1) hd Br λg2 oe2 sb2 ge c2 dn2 d2=>?_;have gT:g2.get? g1.objs.size=some ob:=sb2.extBut _ _ (iz lt) (bc _ nf);refine VH (s:={ s with heap:=g2 }) ge d2 (T:=g1.objs.size) (by rw[ik Br]) gT dt hts λg3 sb3 tb=>?_;have kp:∀b o,b≠e->g1.get? b=some o->g3.get? b=some o:=λb o hb q=>sb3.extBut _ _ (bg (au q)) (sb2.extBut _ _ hb (ak _ q));refine k g3 g1.objs.size ⟨sf so.1.symm,λb o hb hn q=>kp b o hb ((so.2.1 b hn).trans q),λb o hb q=>?_,tb⟩ ⟨oe2,_,sb3.extBut _ _ (bg lt) ge,c2,d2, ?_, ?_,dn2.trans hdn⟩
 ·obtain⟨sl,q'⟩:=so.2.2 b o q;exact⟨sl,kp b _ hb q'⟩
 ·rw[Array.getElem?_setIfInBounds_ne (by decide)];exact h0
 ·rw[ik Br]
theorem VI {base:cx}{env:Env}{outer:List Env}{L e:ah}{oe:Obj}{vs:Array af}{a0:af}{Q:Unit->ag->Prop}(hfr:A.frames=some (env::outer)) (hl:s.heap.FunFrames base (env::outer)) (hf:env.frame=some L)
  (he:s.heap.get? e=some oe) (hd:oe.data=.fields vs) (hdn:oe.dict=none) (h0:vs[0]?=some a0) (h1:vs[1]?=some .none)
  (k:∀h' T,Chg (eW (env::outer)) e T s.heap h'->eV oe.cls e T a0 h'->Q () { s with heap:=h' }):
  wpAny M A (noteFrame (.ref e) env) (λ_ s'=>wpAny M A (setFlight (.ref e) none) Q E s') E s:=by
 unfold noteFrame;rw[hf];refine ae (fq he hd h1 ?_);exact HQ hfr hl hf he hd hdn (dm.mp h1).1 h0 k
theorem VJ {base:cx}{env:Env}{outer:List Env}{L e T:ah}{C a0:af}{Q:Unit->ag->Prop}(hfr:A.frames=some (env::outer)) (hl:s.heap.FunFrames base (env::outer)) (hf:env.frame=some L)
  (hx:eV C e T a0 s.heap) (ht:gY T s.heap) (hne:T≠e)
  (k:∀h' T',s.heap.objs.size<=T'->(∀b o,b≠e->b≠T->b∉eW (env::outer)->s.heap.get? b=some o->h'.get? b=some o)->(∀b o,b≠e->b≠T->s.heap.get? b=some o->∃sl,h'.get? b=some { o with slots:=sl })->
   eV C e T' a0 h'->gY T h'->gY T' h'->Q () { s with heap:=h' }):
  wpAny M A (noteFrame (.ref e) env) (λ_ s'=>wpAny M A (setFlight (.ref e) none) Q E s') E s:=by
 obtain⟨oe,vs,he,rfl,hd,h0,h1,hdn⟩:=hx;obtain⟨oT,ts,hT,hdT,h3⟩:=ht;have l3:3<ts.size:=(dm.mp h3).1;have nT:=HP hl hT hdT;unfold noteFrame;rw[hf];refine ae (fq he hd h1 ?_);rw[if_pos (by simp)];refine ae (fq hT hdT h3 ?_);rw[if_neg (by simp[rawInt])];refine ae (AO hT hdT l3 λg o' sb gT _ _ dT=>?_);have hl':g.FunFrames base (env::outer):=hl.of_keeps λb o q nf=>⟨o,sb.extBut _ _ (λz=>by subst z;rw[hT]at q;cases q;exact nf ts hdT) q,rfl⟩
 refine HQ (s:={ s with heap:=g }) hfr hl' hf (sb.extBut _ _ (cy hne) he) hd hdn (dm.mp h1).1 h0 λh' T' c x=>?_;refine k h' T' (by rw[<-sb.1];exact c.new) (λb o n1 n2 n3 q=>c.keep b o n1 n3 (sb.extBut _ _ n2 q)) (λb o n1 n2 q=>c.slot b o n1 (sb.extBut _ _ n2 q)) x ⟨_,_,c.keep T _ hne nT gT,dT, ?_⟩ c.tb;rw[ik l3]
end
theorem AQ {P:bf}{w:cf}{H:Hp}{h:cx}{a:ah}{o:HO}(x:Al P w H h a o):∃ob,h.get? a=some ob:=by
 cases o with
 |lst xs=>obtain⟨_,_,_,_,e⟩:=x;exact⟨_,e⟩
 |tup xs=>obtain⟨_,_,_,ob,e,_⟩:=x;exact⟨_,e⟩
 |dK kvs=>obtain⟨_,_,_,_,o,_,_,e,_⟩:=x;exact⟨_,e⟩
 |dT kvs=>obtain⟨_,_,_,_,o,_,_,e,_⟩:=x;exact⟨_,e⟩
 |set S n=>obtain⟨o,_,_,_,e,_⟩:=x;exact⟨_,e⟩
 |ins C dx fs=>obtain⟨_,_,_,e,_⟩:=x;exact⟨_,e⟩
 |own y=>exact x
 |xd fs=>obtain⟨_,⟨_,_,_,e,_⟩,_⟩:=x;exact⟨_,e⟩
 |rng lo hi=>obtain⟨_,_,_,e⟩:=x;exact⟨_,e⟩
 |frz ob u=>obtain⟨e,_⟩:=x;exact⟨_,e⟩
 |tbl ps=>exact⟨_,(show h.get? a=some _ from x)⟩
 |met f y=>exact⟨_,(show h.get? a=some _ from x)⟩
 |ext φ=>obtain⟨_,e,_⟩:=x;exact e
def vS (base:cx) (H:Hp) (C:af) (e:ah):Prop:=∃T a0,H e=some (.ext (eV C e T a0))/\H T=some (.ext (gY T))/\base.get? e=none/\T≠e
def vT (e:ah) (H H':Hp):Prop:=∀b o,b≠e->H b=some o->H' b=some o
theorem VL {C a0:af}{e T:ah}{h1 h2:cx}(x:eV C e T a0 h1) (k:∀o,h1.get? e=some o->h2.get? e=some o):eV C e T a0 h2:=by obtain⟨oe,vs,he,r⟩:=x;exact⟨oe,vs,k oe he,r⟩
theorem VM {T:ah}{h1 h2:cx}(x:gY T h1) (k:∀o,h1.get? T=some o->h2.get? T=some o):gY T h2:=by obtain⟨oe,vs,he,r⟩:=x;exact⟨oe,vs,k oe he,r⟩
theorem HR {P:bf}{w:cf}{H:Hp}{h:cx}{C a0:af}{e T:ah}(x:eV C e T a0 h):Al P w H h e (.ext (eV C e T a0)):=⟨x,(let ⟨oe,_,he,_⟩:=x;⟨oe,he⟩),λ_ _ y k=>VL y k⟩
theorem AR {P:bf}{w:cf}{H:Hp}{h:cx}{T:ah}(x:gY T h):Al P w H h T (.ext (gY T)):=⟨x,(let ⟨oe,_,he,_⟩:=x;⟨oe,he⟩),λ_ _ y k=>VM y k⟩
section
variable{P:bf}{w:cf}{M:wk}{A:cg}{E:af->ag->Prop}{s:ag}{H:Hp}{base:cx}{env:Env}{outer:List Env}{L e:ah}{C:af}
theorem VN {Q:Unit->ag->Prop}(hfr:A.frames=some (env::outer)) (hl:s.heap.FunFrames base (env::outer)) (hf:env.frame=some L) (hok:Bk P w H s.heap) (hfree:∀b∈eW (env::outer),H b=none) (fl:vS base H C e)
  (k:∀h' H',Un (eW (env::outer)) [] H H' s.heap h'->Bk P w H' h'->vS base H' C e->vT e H H'->Q () { s with heap:=h' }):
  wpAny M A (noteFrame (.ref e) env) (λ_ s'=>wpAny M A (setFlight (.ref e) none) Q E s') E s:=by
 obtain⟨T,a0,he,hT,hb,hne⟩:=fl;have xe:eV C e T a0 s.heap:=(show Al P w H s.heap e _ from hok e _ he).1;have xt:gY T s.heap:=(show Al P w H s.heap T _ from hok T _ hT).1;refine VJ hfr hl hf xe xt hne λh' T' Cb keep slot x' t0 t'=>?_;have nT':H T'=none:=hok.fresh Cb;have eT':T'≠e:=(fV he nT').symm;have TT':T'≠T:=(fV hT nT').symm;have sx:vT e H (aV (aV H e (.ext (eV C e T' a0))) T' (.ext (gY T'))):=λb o hbe q=>by rw[cF (fV q nT'),cF hbe];exact q
 have ee:aV (aV H e (.ext (eV C e T' a0))) T' (.ext (gY T')) e=some (.ext (eV C e T' a0)):=by rw[cF (cy eT'),eR]
 refine k h' (aV (aV H e (.ext (eV C e T' a0))) T' (.ext (gY T'))) ?_ ?_ ⟨T',a0,ee,eR,hb,eT'⟩ sx
 ·have free:∀b o,s.heap.get? b=some o->H b=none->aV (aV H e (.ext (eV C e T' a0))) T' (.ext (gY T')) b=none:=λb o q n=>by have h1:b≠T':=bg (ay (au q) Cb);have h2:b≠e:=(fV he n).symm;rw[cF h1,cF h2];exact n
  refine⟨λb o q n hb _=>keep b o (fV he n).symm (fV hT n).symm hb q,λb o q n _ _=>slot b o (fV he n).symm (fV hT n).symm q,λb o q n _=>free b o q n,λb o q _=>?_,λb xs q=>?_,λb o u q=>?_,λb ps q=>?_⟩
  ·by_cases h1:b=e
   ·subst h1;obtain⟨oe,_,z,_⟩:=x';exact⟨oe,z⟩
   ·by_cases h2:b=T
    ·subst h2;obtain⟨oe,_,z,_⟩:=t0;exact⟨oe,z⟩
    ·obtain⟨sl,z⟩:=slot b o h1 h2 q;exact⟨_,z⟩
  ·exact sx b _ (nV q he (by intro z;cases z)) q
  ·exact sx b _ (nV q he (by intro z;cases z)) q
  ·exact⟨#[],by rw[sx b _ (nV q he (by intro z;cases z)) q];simp⟩
 ·intro a o q
  by_cases h1:a=T'
  ·subst h1;rw[eR]at q;cases q;exact AR t'
  ·rw[cF h1]at q
   by_cases h2:a=e
   ·subst h2;rw[eR]at q;cases q;exact HR x'
   ·rw[cF h2]at q
    by_cases h3:a=T
    ·subst h3;rw[hT]at q;cases q;exact AR t0
    ·have nf:a∉eW (env::outer):=λz=>by rw[hfree a z]at q;cases q
     refine(hok a o q).stay (λb u hb z=>?_) (λb z=>sx b _ (nV z he (by intro y;cases y)) z) λb xs z=>sx b _ (nV z he (by intro y;cases y)) z
     rcases hb with rfl|hb
     ·exact keep b u h2 h3 nf z
     ·exact keep b u (nV hb he (by intro y;cases y)) (nV hb hT (by intro y;cases y)) (λy=>by rw[hfree b y]at hb;cases hb) z
theorem VO {Q:Unit->ag->Prop}{h0:cx}{args:List af}(hfr:A.frames=some (env::outer)) (hl:h0.FunFrames base (env::outer)) (hf:env.frame=some L) (hok:Bk P w H h0) (hfree:∀b∈eW (env::outer),H b=none) (hsb:∀b o,base.get? b=some o->h0.get? b=some o)
  (mx:Heap.MadeExcOf h0 s.heap e C args)
  (k:∀h' H',Un (eW (env::outer)) [] H H' h0 h'->Bk P w H' h'->vS base H' C e->Bw H H'->Q () { s with heap:=h' }):
  wpAny M A (noteFrame (.ref e) env) (λ_ s'=>wpAny M A (setFlight (.ref e) none) Q E s') E s:=by
 obtain⟨t,he,hnt,ht⟩:=mx.there;have hbn:base.get? e=none:=by
  cases q:base.get? e with
  |none=>rfl
  |some o=>have:=hsb e o q;rw[mx.new]at this;cases this
 have nH:H e=none:=by
  cases q:H e with
  |none=>rfl
  |some o=>
   have z:∀a o,H a=some o->h0.get? a≠none:=λa o q n=>by
    have lt:=hok.lt q;have:=(hok a o q)
    have ex:∃ob,h0.get? a=some ob:=AQ this;obtain⟨ob,eo⟩:=ex;rw[n]at eo;cases eo
   exact absurd mx.new (z e o q)
 have hl1:s.heap.FunFrames base (env::outer):=hl.of_keeps λb o hb _=>⟨o,mx.keeps b o hb,rfl⟩
 refine VI hfr hl1 hf he rfl rfl (a0:=.ref t) rfl rfl λh' T c x=>?_;have ne_e:∀b o,h0.get? b=some o->b≠e:=λb o q z=>by subst z;rw[mx.new]at q;cases q
 have lt0:∀b o,h0.get? b=some o->b<T:=λb o q=>ay (au (mx.keeps b o q)) c.new;have nT:H T=none:=by
  cases q:H T with
  |none=>rfl
  |some o=>obtain⟨ob,eo⟩:=AQ (hok T o q);exact absurd (lt0 T ob eo) (gn _)
 have eT:T≠e:=iz (ay (au he) c.new);have sm:Bw H (aV (aV H e (.ext (eV C e T (.ref t)))) T (.ext (gY T))):=λb o q=>by rw[cF (fV q nT),cF (fV q nH)];exact q
 refine k h' (aV (aV H e (.ext (eV C e T (.ref t)))) T (.ext (gY T))) ?_ ?_ ⟨T,.ref t,by rw[cF (cy eT),eR],eR,hbn,eT⟩ sm
 ·refine⟨λb o q n hb _=>c.keep b o (ne_e b o q) hb (mx.keeps b o q),λb o q n _ _=>c.slot b o (ne_e b o q) (mx.keeps b o q),λb o q n _=>?_,λb o q _=>?_,λb xs q=>sm b _ q,λb o u q=>sm b _ q,λb ps q=>⟨#[],by rw[sm b _ q];simp⟩⟩
  ·rw[cF (bg (lt0 b o q)),cF (ne_e b o q)];exact n
  ·obtain⟨sl,z⟩:=c.slot b o (ne_e b o q) (mx.keeps b o q);exact⟨_,z⟩
 ·intro a o q
  by_cases h1:a=T
  ·subst h1;rw[eR]at q;cases q;exact AR c.tb
  ·rw[cF h1]at q
   by_cases h2:a=e
   ·subst h2;rw[eR]at q;cases q;exact HR x
   ·rw[cF h2]at q;have nf:a∉eW (env::outer):=λz=>by rw[hfree a z]at q;cases q
    refine(hok a o q).stay (λb u hb z=>?_) (λb z=>sm b _ z) λb xs z=>sm b _ z
    rcases hb with rfl|hb
    ·exact c.keep b u (ne_e b u z) nf (mx.keeps b u z)
    ·exact c.keep b u (ne_e b u z) (λy=>by rw[hfree b y]at hb;cases hb) (mx.keeps b u z)
end
def bY (P:bf) (w:cf) (base:cx):mT:=λouter H s E u s'=>∃e C H',u=.ref e/\s'.os=s.os/\qw s'.gens/\Un (eW outer) [] H H' s.heap s'.heap/\Bk P w H' s'.heap/\vS base H' C e/\E u none H'
def VP (X:Cx) (E:XK):Prop:=∀(pins:List (ah×Obj)) (σ:St) (H:Hp) (s:ag) (h':cx) (e:ah) (C:af) (args:List af),Inv X pins σ H s->Heap.MadeExcOf s.heap h' e C args->
 (∀H',Bw H H'->(∃T a0,H' e=some (.ext (eV C e T a0)))->E (.ref e) none H')->X.xe (.ref e) { s with heap:=h' }
structure Good (X:Cx) (G:Cfg) (E:XK) (k:Nat):Prop where
 calm:X.calm=true
 room:Az k X.A
 K:X.K=G.K
 pas:zJ (bY X.prog X.w X.base) X E
 own:xj (model X.prog X.w) X.A X.env X.xe
 rais:VP X E
def HS (E:XK):Prop:=∀e H H',vT e H H'->(∃C T a0 T' a0',H e=some (.ext (eV C e T a0))/\(∃h,eV C e T a0 h)/\H' e=some (.ext (eV C e T' a0')))->E (.ref e) none H->E (.ref e) none H'
section
variable{P:bf}{w:cf}{K:ao}{mg:Str->Option af}{base:cx}{N:zu}{qual:Str}{scope:gu}{f:ah}{cdv:af}{A:cg}{outer:List Env}{s0:ag}{H0:Hp}{E0:XK}{G:Cfg}{E:XK}{k:Nat}
theorem HU (hr:Az k (A.deeper (envOfC qual scope s0.heap.objs.size f cdv))) (hK:K=G.K) (hE:∀u H',E u none H'->E0 u none H') (hF:HS E):
  Good (lB (bY P w base) P w K mg base N qual scope f cdv A outer s0 H0 E0) G E k where
 calm:=rfl
 room:=hr
 K:=hK
 own:=PassesOwn.leaving
 pas:=by intro pins σ H s u s' I ⟨e,C,H',eu,os,bare,un,hok,fl,he⟩;subst eu;have I':=I.call' os un hok bare (λb z=>absurd z (by simp));refine ae (VN (P:=P) (w:=w) (H:=H') (base:=base) I'.ok.frames I'.stack rfl hok I'.stkFree fl λh'' H'' un2 hok2 fl2 sx=>?_);have I2:=I'.call (h':=h'') (g':=s'.gens) (d':=s'.drawn) (t':=s'.toks) un2 hok2 I'.bare (λb z=>absurd z (by simp));obtain⟨T,a0,h1,_⟩:=id fl;obtain⟨T2,a2,h3,_⟩:=id fl2;have xe1:eV C e T a0 s'.heap:=(show Al P w H' s'.heap e _ from hok e _ h1).1;have:E (.ref e) none H'':=hF e H' H'' sx ⟨C,T,a0,T2,a2,h1,⟨_,xe1⟩,h3⟩ he;exact⟨e,C,H'',rfl,I2.os,I2.bare,I2.base,hok2,fl2,hE _ _ this⟩
 rais:=by intro pins σ H s h' e C args I mx he;refine ae (VO (P:=P) (w:=w) (H:=H) (base:=base) I.ok.frames I.stack rfl I.hok I.stkFree I.bk mx λh'' H'' un2 hok2 fl2 sm=>?_);have I2:=I.call (h':=h'') (g':=s.gens) (d':=s.drawn) (t':=s.toks) un2 hok2 I.bare (λb z=>absurd z (by simp));obtain⟨T2,a2,h3,_⟩:=id fl2;exact⟨e,C,H'',rfl,I2.os,I2.bare,I2.base,hok2,fl2,hE _ _ (he H'' sm ⟨T2,a2,h3⟩)⟩
theorem dF {X:Cx}{sc:gu}{N':zu}{s:ag}{H:Hp}{ex:List ah}(g:Good X G E k):Good (cY X sc N' s H ex) G L2.E0 k where
 calm:=g.calm
 room:=g.room
 K:=g.K
 own:=PassesOwn.never
 pas:=λ_ _ _ _ _ _ _ ⟨_,_,_,_,_,_,_,_,_,z⟩=>z
 rais:=λ_ _ H s h' e C args I mx he=>by
  have nH:H e=none:=by
   cases q:H e with
   |none=>rfl
   |some o=>obtain⟨ob,eo⟩:=AQ (I.hok e o q);rw[mx.new]at eo;cases eo
  exact he (aV H e (.ext (eV C e 0 .none))) (dQ nH) ⟨0,.none,eR⟩
def dD (n:Nat) (ds:zw):Ev:=ds.map some++List.replicate (n - ds.length) none
def bP:Sr->Rs Dv
 | .rt d h=>.ok d h
 | .nx _ h=>.ok .non h
 | .ex c h=>.ex c h
 |_=>.bad
def aS (np n:Nat) (mb:MS):zv:=λds h=>if ds.length=np then bP (mb (dD n ds) h)else .bad
def cE (G:Cfg) (F:zv):Sp:=λvs H Q E=>∃μ h ds,RelDL G μ h.length H ds vs/\Av G μ h H/\Out G E μ h.length H (F ds h) (Af G) Q
theorem HV {μ:Nat->ah}{n:Nat}{H:Hp}{ds:zw}{vs:List V}(r:RelDL G μ n H ds vs) (N:zu):Ao G μ n H (dD N.length ds) (start N vs):=by
 have hl:=r.length;refine⟨by simp[dD,start,hl],λi d e=>?_⟩;unfold dD at e
 by_cases hi:i<ds.length
 ·rw[fi (by simpa using hi),dz]at e
  cases q:ds[i]? with
  |none=>rw[q]at e;cases e
  |some d'=>rw[q]at e;cases e;obtain⟨v,e1,r1⟩:=r.get q;refine⟨v, ?_,r1⟩;unfold start;rw[fi (by simp;omega),dz,e1];rfl
 ·rw[gw (by simpa using hi),ya]at e
  split at e <;> cases e
def EB (G:Cfg) (μ0:Nat->ah) (n0:Nat) (H0:Hp) (r:Sr):XK:=λu _ H'=>∃c h' μ',r=.ex c h'/\Ext μ0 n0 H0 μ' h'.length H'/\Av G μ' h' H'/\vK G H' c u
theorem Av.sameX {μ:Nat->ah}{h:Hs}{H H':Hp}{e:ah}(s:Av G μ h H) (sx:vT e H H') (hx:∃φ,H e=some (.ext φ)):Av G μ h H'/\∀(n:Nat),Ext μ n H μ n H':=by
 obtain⟨φ,hx⟩:=hx;have x:∀n:Nat,Ext μ n H μ n H':=λn=>⟨aj _,λ_ _=>rfl,λa o i q=>sx a o (by rintro rfl;rw[hx]at q;cases q;exact i) q⟩
 refine⟨⟨s.inj,λi o q=>?_,s.tab.keep λa o _ n2 q=>sx a o (by rintro rfl;rw[hx]at q;cases q;exact n2 _ rfl) q⟩,x⟩;have r:=s.ob i o q
 cases o with
 |lst xs=>obtain⟨vs,e1,r1⟩:=r;exact⟨vs,sx _ _ (nV e1 hx (by intro z;cases z)) e1,RelDL.mono (x _) _ _ r1⟩
 |clo k t=>exact r.clo (x _)
theorem HW {μ0:Nat->ah}{n0:Nat}{H0:Hp}{r:Sr}:HS (EB G μ0 n0 H0 r):=by intro e H H' sx ⟨C,T,a0,T',a0',h1,⟨hp,hx⟩,h3⟩ ⟨c,h',μ',er,x,s,e',φ,eu,h4,h5⟩;cases eu;obtain⟨s2,x2⟩:=s.sameX sx ⟨_,h1⟩;refine⟨c,h',μ',er,x.trans (x2 _),s2,e,_,rfl,h3,λhh z=>?_⟩;rw[h1]at h4;cases h4;obtain⟨o,g1,g2⟩:=h5 hp hx;obtain⟨oe,vs,g3,g4,_⟩:=hx;rw[g3]at g1;cases g1;obtain⟨oe',Bp,g5,g6,_⟩:=z;exact⟨oe',g5,by rw[g6,<-g4,g2]⟩
theorem cZ {x qual:Str}{st:gf}{fd:bh}{ps:zu}{mb:MS}(Fn:Bb K x qual st f fd) (S:Ae N ps (bF st)) (hK:K=G.K)
  (C':∀(cdv:af) (A:cg) (outer:List Env) (s:ag) (H:Hp) (E₀ E:XK),Good (lB (bY P w base) P w K mg base N qual (bF st) f cdv A outer s H E₀) G E k->lG (lB (bY P w base) P w K mg base N qual (bF st) f cdv A outer s H E₀) G E (lC st) mb):
  Ak P w K mg base (bY P w base) (k+1) f fd ps (cE G (aS ps.length N.length mb)):=by
 obtain⟨oc,od,kV,doc,pm,an,cdv,ct,osl,rfl,lk,hcd⟩:=Fn.ex;have hlen:∀vs H Q E,cE G (aS ps.length N.length mb) vs H Q E->vs.length=ps.length:=λvs H Q E ⟨μ,h,ds,r,sm,o⟩=>by
  rw[r.length];unfold aS at o
  by_cases hd:ds.length=ps.length
  ·exact hd
  ·rw[if_neg hd]at o;exact o.elim
 refine FW lk hcd S hlen λA outer s H vs Q E hr hsp=>?_;have hl:=hlen _ _ _ _ hsp;obtain⟨μ,h,ds,r,sm,o⟩:=hsp;have o':Out G E μ h.length H (bP (mb (dD N.length ds) h)) (Af G) Q:=by unfold aS at o;rw[if_pos (by rw[<-r.length];exact hl)]at o;exact o
 refine⟨_,C' cdv A outer s H E (EB G μ h.length H (mb (dD N.length ds) h)) (HU hr hK (λu H' ⟨c,h',μ',er,x,s',fl⟩=>?_) HW) hK, ?_⟩
 ·rw[er]at o';exact o' μ' H' u x s' fl
 ·refine⟨μ,dD N.length ds,h,HV r N,sm, ?_⟩
  cases q:mb (dD N.length ds) h with
  |bad=>rw[q]at o';exact o'.elim
  |bk ρ h'=>rw[q]at o';exact o'.elim
  |ct ρ h'=>rw[q]at o';exact o'.elim
  |rt d h'=>rw[q]at o';exact o'
  |nx ρ h'=>rw[q]at o';exact λμ' H' σ' x' s' rs'=>o' μ' H' .non x' s' rfl
  |ex c h'=>exact λμ' H' u x' s' fl=>⟨c,h',μ',rfl,x',s',fl⟩
theorem lH {X:Cx}{F:zv}{ps:zu}{fd:bh}{x:Str}{p pos:Pos}{e:br}{es:List br}{ms:M zw }{j:Nat}(g:Good X G E k) (Fn:Ak X.prog X.w X.K X.mg X.base (bY X.prog X.w X.base) j f fd ps (cE G F)) (hj:j<=k)
  (hg:Gl X x) (hm:X.mg x=some (.ref f)) (hk:oj X.K (.ref f)=true) (hb:Binds X.K fd ps []) (ha:dY X G E (e::es) ms)
  (Di:(x==("__debug__" : Str))=false:=by decide) (he:ar (e::es) X.env=(false,eval e X.env)::ar es X.env:=by rfl) (Bl:(backTo pos (ar es X.env)).any (·.1)=false:=by rfl):
  aK X G E (.Call (.Name x p) (e::es) [] pos) (aD F ms):=λhK=>
 PE.imp (R4 Fn (g.room.mono hj) hg hm hk hb .nil g.pas (ha hK) Di he Bl) λσ H Q ⟨μ,ρ,h,rs,s,o⟩=>kK rs s o λμ1 ds1 h1 vs H1 x1 Ax s1 r1 o1=>by rw[rq];exact⟨μ1,h1,ds1,r1,s1,o1⟩
end
abbrev AS:List af:=[.type "ValueError",.type "Exception",.type "BaseException",.type "object"]
theorem VQ {K:ao}{mg:Str->Option af}{base:cx}(p:bf) (m:Mod K mg base):∃bK mb,PySem.W.TopRead p bK mg mb base:=by
 obtain⟨mb,hb,hbb⟩:=m.blt;obtain⟨o,es,ep,ho,hd,hk,hf⟩:=id m.glob;refine⟨es.toList.filterMap λe=>match e.key with
  | .str n _=>some n
  |_=>none,mb,m.glob,hb,m.nolimit,hbb,λx _ hx _ _ _=>?_⟩
 rw[<-hf x]
 cases q:nsFind es x with
 |none=>rfl
 |some v=>
  exfalso
  apply hx
  unfold nsFind findBy at q;obtain⟨e,he,_⟩:=qq.mp q;have h1:=Array.find?_some he;have h2:=Array.mem_of_find?_eq_some he;obtain⟨n,t,hn⟩:=hk e h2;rw[hn]at h1;have h3:n=x:=by simpa[Value.isStr]using h1
  exact jl.mpr ⟨e,by simpa using h2,by rw[hn,h3]⟩
section
variable{X:Cx}{G:Cfg}{E:XK}{k:Nat}{x:Str}{C:ah}{np cpos pos:Pos}{e:br}{es:List br}{t:TA}{ms:M zw }{c:Nat}
theorem VR (g:Good X G E k) (hg:Gl X x) (hm:X.mg x=some (.ref C)) (hns:xo X.K en x=some (some (.ref C))) (hx:wu X.K C AS "ValueError.__new__" = true) (ha:PA X (e::es) t) (hd:(x==("__debug__" : Str))=false:=by decide)
  (he:ar (e::es) X.env=(false,eval e X.env)::ar es X.env:=by rfl) (Bl:(backTo cpos (ar es X.env)).any (·.1)=false:=by rfl):
  PS X (.Raise (some (.Call (.Name x np) (e::es) [] cpos)) none pos) (λ_ σ H=>t σ H λvs H1=>vs.length<=bz/\∀e H',Bw H1 H'->(∃T a0,H' e=some (.ext (eV (.ref C) e T a0)))->E (.ref e) none H'):=by
 intro pins s σ H D I h;obtain⟨bm,N,nm,q,bs,hdct,sn,sub,ab,col,dd,k0,k1,k2,k3,k5,mN,hC,hN,hni,T⟩:=(let ⟨_,_,tr⟩:=VQ X.prog I.ok.mod;PySem.W.own_of_in I.ok.mod.kin tr hns hx).obj;refine wpAny_Raise_call_subU (C:=C) (nm:=nm) (q:=q) (N:=N) (bs:=bs) (bm:=bm) (hdct:=hdct) (sn:=sn) (sub:=sub) (ab:=ab) (col:=col) (dd:=dd) (k0:=k0) (k1:=k1) (k2:=k2) (k3:=k3) (k5:=k5)
  vt (by decide) vt (mN:=mN) (T.hasType (by decide)) (I.ok.hd g.calm) (by rw[he];show(false||(backTo cpos (ar es X.env)).any (·.1))=false;rw[Bl];rfl) hni (zB I hg hm ⟨rfl, ?_⟩ hd)
 have hh:=ha cpos pins s σ H _ I h;rw[he]at hh ⊢;refine sk (bD hh λus s2 ⟨vs,H2,I2,r,hz,w⟩=>⟨rfl,by rw[<-r.length];exact hz,I2.bk _ _ hC,hN.keeps I2.bk,T.keeps I2.bk,λh' e' mx=>?_⟩);exact g.rais pins σ H2 s2 h' e' _ _ I2 mx λH' sm z=>w e' H' sm z
theorem VS {H:Hp}{e:ah}(hc:C=G.cl c) (z:∃T a0,H e=some (.ext (eV (.ref C) e T a0))):vK G H c (.ref e):=by obtain⟨T,a0,z⟩:=z;exact⟨e,_,rfl,z,λh ⟨oe,vs,h1,h2,_⟩=>⟨oe,h1,by rw[h2,hc]⟩⟩
def rD (c:Nat) (ms:M zw ):MS:=λρ h=>(ms ρ h).thenS λds h1=>if ds.length<=1000 then .ex c h1 else .bad
theorem VT (g:Good X G E k) (hg:Gl X x) (hm:X.mg x=some (.ref C)) (hns:xo X.K en x=some (some (.ref C))) (hx:wu X.K C AS "ValueError.__new__" = true) (hc:C=G.cl c) (ha:dY X G E (e::es) ms) (hd:(x==("__debug__" : Str))=false:=by decide)
  (he:ar (e::es) X.env=(false,eval e X.env)::ar es X.env:=by rfl) (Bl:(backTo cpos (ar es X.env)).any (·.1)=false:=by rfl):
  iG X G E (.Raise (some (.Call (.Name x np) (e::es) [] cpos)) none pos) (rD c ms):=λhK=>PS.imp (VR g hg hm hns hx (ha hK) hd he Bl) λD σ H ⟨μ,ρ,h,rs,s,o⟩=>
 ⟨μ,ρ,h,rs,s,(o.thenS (R:=RelDL G)).mono λvs H1 ⟨μ1,ds,h1,x1,s1,r1,o1⟩=>by
  split at o1
  ·rename_i hl;refine⟨by rw[r1.length];exact di hl (by decide),λe' H' sm z=>?_⟩;exact o1 μ1 H' (.ref e') (Ext.same sm) (s1.same sm) (VS hc z)
  ·exact o1.elim⟩
end
open PySem.W
section
variable{prog:bf}{w:cf}{A:cg}{E:af->ag->Prop}{h:cx}{g:Array GenState}{d:Drawn}{t:Nat}{os:OsState}{a C:ah}{o:Obj}{K:Frag}
structure ExK (K:Frag) (C:ah):Prop where
 ga:findIn K (.ref C) "__getattribute__" = some (some (.builtin "BaseException.__getattribute__"))
 ng:findIn K (.ref C) "__getattr__" = some none
 cl:findIn K (.ref C) "__class__" = some (some (.builtin "object.__class__"))
 ob:mroIn K C (.type "object")=some true
 be:subIn K (.ref C) (.type "BaseException")=some true
 se:kitCls K (.ref C) (.ref C)=some true
 lk:∃oc od cd osl,K.lookup C=some ⟨oc,od,.cls cd,osl⟩
theorem kindGa:builtinKind "BaseException.__getattribute__" = some .slot/\splitId "BaseException.__getattribute__" = some ("BaseException","__getattribute__"):=by decide +kernel
theorem VU:(tw "BaseException.__getattribute__" == tw "object.__getattribute__")=false:=by decide +kernel
section
variable{R:xk->ag->Prop}{s:ag}
theorem VV {M:wk}{n:af}{Q:Unit->ag->Prop}(X:K.In s.heap) (I:InstAt s.heap a o C none) (k:ExK K C) (hq:Q () s):wpAny M A (checkBuiltinCall "BaseException.__getattribute__" ⟨[.ref a,n],[]⟩) Q E s:=by
 have one:Looks M s.heap (isInstance (.ref a) (.type "BaseException")) true:=I.type.andThen (looks_subIn X k.be);have two:=F.args_bexc_ga (.ref a) n;obtain⟨hh,g,d,t,os⟩:=s;unfold checkBuiltinCall;rw[kindGa.1,kindGa.2];refine ae (one.at ?_)
 repeat (first|assumption|wp_step)
theorem VW {n:Tok}(X:K.In s.heap) (I:InstAt s.heap a o C none) (k:ExK K C) (hq:R (.ok (.ret (.ref C))) s):codeAny (model prog w) A (.call (.builtin "BaseException.__getattribute__") ⟨[.ref a,.str "__class__" n],[]⟩) R s:=by
 refine oz F.excAttr_ValueError.ga.plain F.entry_bexc_ga (VV X I k ?_);have own:=I.type (M:=model prog w);have entry:=looks_findIn (M:=model prog w) X k.cl;have of_get:=F.slot_gs_get.lookup;have of_set:=F.slot_gs_set.lookup;have kind:=F.typeOf_object_class;have kindIs:s.TypeIs (.builtin "object.__class__") "getset_descriptor" := kind;obtain⟨hh,g,d,t,os⟩:=s
 repeat (any_goals (first|assumption|with_reducible refine own.at ?_|with_reducible refine entry.at ?_|wp_step))
 exact class_get (s:=⟨hh,g,d,t,os⟩) X I k.ob (by repeat (any_goals (first|assumption|wp_step)))
end
theorem VX {Q:Option af->ag->Prop}(X:K.In h) (I:InstAt h a o C none) (k:ExK K C) (hq:Q (some (.ref C)) ⟨h,g,d,t+1,os⟩):
  wpAny (model prog w) A (getAttr? (.ref a) "__class__") Q E ⟨h,g,d,t,os⟩:=by
 have own:=I.type (M:=model prog w);have first_:=looks_findIn (M:=model prog w) X k.ga;have then_:=looks_findIn (M:=model prog w) X k.ng;have bound:=F.excAttr_ValueError.ga.bind (.ref a);have other:=VU;have apart:(onTheHeap (gh C)&&tw "BaseException.__getattribute__" == tw "object.__getattribute__")=false:=by rw[other];rfl
 unfold getAttr? getAttrBy?
 repeat (any_goals (first|assumption|with_reducible refine own.at ?_|with_reducible refine first_.at ?_|with_reducible refine then_.at ?_|wp_step))
 exact VW X I k (by repeat (any_goals (first|assumption|wp_step)))
def VY (a C:ah) (h:cx):Prop:=∃o,InstAt h a o C none
theorem VZ (k:ExK K C):KitX K (.ref a) (.ref C) (VY a C) where
 ty:=λ_ _ _ ⟨_,I⟩=>I.type
 it:=λ_ _ X _=>(kit_cls X k.se).2.1
 ne:=λh tp dd its n sl X htp=>by
  cases z:(gh C==gh tp)with
  |false=>rfl
  |true=>
   obtain rfl:C=tp:=by simpa using z
   obtain⟨oc,od,cd,osl,lk⟩:=k.lk;have:=X _ _ lk;rw[htp]at this;simp at this
 ca:=λ{prog w A E Q s} X ⟨o,I⟩ hq=>by obtain⟨hh,g,d,t,os⟩:=s;exact VX X I k hq
end
inductive Ty where
 |non|bl|int|str|tup|lst|dct|exc (c:Nat)
def oH:Dv->Hs->Option Ty
 | .non,_=>some .non
 | .bl _,_=>some .bl
 | .int _,_=>some .int
 | .str _,_=>some .str
 | .tup _,_=>some .tup
 | .ref i,h=>match getL h i with
  |some _=>some .lst
  |none=>none
 | .edc,_=>some .dct
 | .exc c,_=>some (.exc c)
 | .scr,_=>none
def rE (cl:Nat->ah):Ty->af
 | .non=>.type "NoneType"
 | .bl=>.type "bool"
 | .int=>.type "int"
 | .str=>.type "str"
 | .tup=>.type "tuple"
 | .lst=>.type "list"
 | .dct=>.type "dict"
 | .exc c=>.ref (cl c)
def eX (f:Ty->Option Bool) (d:Dv) (h:Hs):Rs Dv:=match oH d h with
 |some ty=>match f ty with
  |some b=>.ok (.bl b) h
  |none=>.bad
 |none=>.bad
section
variable{X:Cx}{G:Cfg}{E:XK}{pins:List (ah×Obj)}{σ:St}{H:Hp}{s:ag}
theorem V0 {μ:Nat->ah}{h:Hs}{d:Dv}{v:V}{u:af}{ty:Ty}(I:Inv X pins σ H s) (sm:Av G μ h H) (r:Af G μ h.length H d v) (ru:RelV v u) (e:oH d h=some ty) (hex:∀c,ty=.exc c->ExK X.K (G.cl c)):
  ∃P,KitX X.K u (rE G.cl ty) P/\P s.heap/\u≠.builtin "__main__.__loader__#opaque":=by
 cases d with
 |non=>cases e;rw[Af]at r;subst r;cases ru;exact⟨_,kitx_none,trivial,λz=>nomatch z⟩
 |bl b=>cases e;rw[Af]at r;subst r;cases ru;exact⟨_,kitx_bool,trivial,λz=>nomatch z⟩
 |int i=>cases e;rw[Af]at r;subst r;obtain⟨t,rfl⟩:=ru;exact⟨_,kitx_int,trivial,λz=>nomatch z⟩
 |str i=>cases e;rw[Af]at r;subst r;obtain⟨t,rfl⟩:=ru;exact⟨_,kitx_str,trivial,λz=>nomatch z⟩
 |tup ds=>
  cases e;obtain⟨a,vs,rfl,ea,_⟩:=r;cases ru;obtain⟨_,_,_,o,h1,h2,_⟩:=(show Al X.prog X.w H s.heap a (.tup vs) from I.hok a _ ea)
  exact⟨_,kitx_tuple,⟨o,h1,h2⟩,λz=>nomatch z⟩
 |ref i=>
  dsimp only[oH]at e
  cases g:getL h i with
  |none=>rw[g]at e;cases e
  |some xs=>
   rw[g]at e;cases e;obtain⟨_,rfl⟩:=r;cases ru;obtain⟨vs,ea,_⟩:=sm.ob i _ (dG g);obtain⟨_,_,n,_,h1⟩:=(show Al X.prog X.w H s.heap (μ i) (.lst vs) from I.hok _ _ ea)
   exact⟨_,kitx_list,⟨_,h1,rfl⟩,λz=>nomatch z⟩
 |edc=>
  cases e;obtain⟨a,rfl,ea⟩:=r;cases ru;obtain⟨_,_,vs,_,p⟩:=(show Al X.prog X.w H s.heap a (.dK []) from I.hok a _ ea)
  obtain⟨o,es,ep,h1,h2,_⟩:=p;exact⟨_,kitx_dict,⟨o,h1,h2.1⟩,λz=>nomatch z⟩
 |exc c=>
  cases e;obtain⟨a,o,uo,rfl,ea,hc,hdn,vs,hd⟩:=r;cases ru;obtain⟨h1,_⟩:=(show Al X.prog X.w H s.heap a (.frz o uo) from I.hok a _ ea)
  refine⟨_,VZ (hex c rfl),⟨o,h1,hc, ?_, ?_⟩,λz=>nomatch z⟩
  ·unfold notCls;rw[hd]
  ·rw[hdn];trivial
 |scr=>cases e
end
section
variable{X:Cx}{G:Cfg}{E:XK}{a b:br}{ma:M Dv}{p pos:Pos}{f:Ty->Option Bool}
theorem V1:dj "isinstance" = some (.builtin "isinstance"):=by decide +kernel
def HX (G:Cfg) (f:Ty->Option Bool) (c:V):List V->Hp->VK->Prop:=λxs H Q=>∃μ h d v ty bb,xs=[v,c]/\Av G μ h H/\Af G μ h.length H d v/\oH d h=some ty/\f ty=some bb/\Q (.bl bb) H
theorem V2 {c:V}{u:af}(hc:(∃T,c=.ty T)∨∃C,c=.ref C) (rc:RelV c u) (hf:∀ty bb,f ty=some bb->kitOne X.K (rE G.cl ty) u=some bb) (hex:∀c bb,f (.exc c)=some bb->ExK X.K (G.cl c)):Aj X (.builtin "isinstance") (HX G f c):=by
 intro pins s σ H xs us Q I rv ⟨μ,h,d,v,ty,bb,e1,sm,r,et,ef,q⟩;subst e1;obtain⟨u1,u2,rfl,r1,r2⟩:=sO rv;have e2:u2=u:=by rcases hc with⟨T,rfl⟩|⟨C,rfl⟩ <;> (cases rc;cases r2;rfl)
 subst e2;obtain⟨P,Z,hP,hne⟩:=V0 I sm r r1 et (λc z=>by subst z;exact hex c bb ef);exact kia_one Z I.kIn hP (hf ty bb ef) hne λtk=>⟨.bl bb,H,I.tok _,rfl,q⟩
theorem AU {x:Str}{T:String}(hg:Gl X x) (hm:X.mg x=none) (hv:dj x=some (.type T)) (hn:x ≠ "__name__" := by decide) (hd:(x==("__debug__" : Str))=false:=by decide):PE X (.Name x pos) (tC (.ty T)):=λpins s σ H Q I h=>nX I hg hm hv ⟨.ty T,H,I,rfl,h⟩ hn hd
theorem AV {c:V}{u:af}(hg:Gl X "isinstance") (hm:X.mg "isinstance" = none) (ha:aK X G E a ma) (hb:PE X b (tC c)) (hc:(∃T,c=.ty T)∨∃C,c=.ref C) (rc:RelV c u)
  (hf:∀ty bb,f ty=some bb->kitOne G.K (rE G.cl ty) u=some bb) (hex:∀c bb,f (.exc c)=some bb->ExK G.K (G.cl c))
  (he:ar [a,b] X.env=[(false,eval a X.env),(false,eval b X.env)]:=by rfl) (he2:ar [b] X.env=[(false,eval b X.env)]:=by rfl):
  aK X G E (.Call (.Name "isinstance" p) [a,b] [] pos) (m1 (eX f) ma):=λhK=>
 PE.imp (vC (V2 (G:=G) (f:=f) hc rc (by rw[hK];exact hf) (by rw[hK];exact hex)) hg hm V1 (lA (ha hK) (lA hb mS he2) (by rw[he,he2])) (by decide) (by decide) (by rw[he,he2]) (by rw[he2];rfl))
  λσ H Q ⟨μ,ρ,h,rs,s,o⟩=>fG rs s o λμ1 d h1 v H1 x1 Ax s1 r1 o1=>by
   show HX G f c [v,c] H1 Q;unfold eX at o1
   cases q:oH d h1 with
   |none=>rw[q]at o1;exact o1.elim
   |some ty=>
    rw[q]at o1;dsimp only at o1
    cases q2:f ty with
    |none=>rw[q2]at o1;exact o1.elim
    |some bb=>rw[q2]at o1;exact⟨μ1,h1,d,v,ty,bb,rfl,s1,r1,q,q2,o1.val s1 rfl⟩
end
def oI:Dv->Option Bool
 | .bl b=>some b
 |_=>none
theorem AW {G:Cfg}{μ:Nat->ah}{n:Nat}{H:Hp}:∀{xs:zw}{vs:List V}{bs:List Bool},RelDL G μ n H xs vs->bB oI xs=some bs->vs=bs.map V.bl
 | [],vs,bs,r,e=>by cases e;rw[RelDL]at r;exact r
 |x::xs,vs,bs,r,e=>by
  rw[RelDL]at r;obtain⟨v,rr,rfl,r1,r2⟩:=r;unfold bB at e
  cases x with
  |bl b=>
   dsimp only[oI]at e
   cases q:bB oI xs with
   |none=>rw[q]at e;cases e
   |some zs=>rw[q]at e;cases e;rw[Af]at r1;subst r1;rw[AW r2 q];rfl
  |_=>cases e
section
variable{X:Cx}{pins:List (ah×Obj)}{σ:St}{H:Hp}{s:ag}
theorem V3 (bs:List Bool):(bj bs.length).all (λi=>bs.getD i false)=bs.all id:=by
 rw[dy,ff,ff];constructor
 ·intro h b hb;obtain⟨i,hi,rfl⟩:=jo.mp hb;simpa[ow,hi]using h i (bu.mpr hi)
 ·intro h i hi;have hi:=bu.mp hi;simpa[ow,hi]using h _ (dk hi)
theorem V4 (bs:List Bool):(bj bs.length).any (λi=>bs.getD i false)=bs.any id:=by
 rw[dy,lg,lg];constructor
 ·rintro ⟨i,hi,h⟩
  have hi:=bu.mp hi;exact⟨bs[i],dk hi,by simpa[ow,hi]using h⟩
 ·rintro ⟨b,hb,h⟩
  obtain⟨i,hi,rfl⟩:=jo.mp hb;exact⟨i,bu.mpr hi,by simpa[ow,hi]using h⟩
theorem V5 {bs:List Bool}{its:List af}(rv:Ag (bs.map V.bl) its) {i:Nat}{v:af}(e:its.toArray[i]?=some v):v=.bool (bs.getD i false):=by
 have hl:=rv.length;rw[aw]at hl;have e':its[i]?=some v:=by simpa using e
 have hi:i<its.length:=(bq.mp e').1;have hb:i<bs.length:=by omega
 obtain⟨u,e2,r⟩:=rv.get (i:=i) (x:=V.bl bs[i]) (by simp[hb]);rw[e']at e2;cases e2;have hg:bs.getD i false=bs[i]:=by simp[ow,hb]
 rw[hg];exact r
theorem HY {bs:List Bool}{its:List af}{A:cg}(rv:Ag (bs.map V.bl) its):TruthOf X.prog X.w A (λi v=>its.toArray[i]?=some v) (λi=>bs.getD i false):=by intro i v s Q E e q;rw[V5 rv e];exact jr q
theorem AX {o:Obj}{h':cx}{tk:Nat}(I:Inv X pins σ H s) (k:∀b u,b∉[s.heap.objs.size]->(s.heap.push o).get? b=some u->h'.get? b=some u):Inv X pins σ H { s with heap:=h',toks:=tk }:=by have I1:Inv X pins σ H { s with heap:=s.heap.push o }:=I.kept (t':=s.toks) λb u e=>ak _ e;obtain⟨f0,f1,f2,f3,f4,f5⟩:=I.fpOk (aj s.heap.objs.size) I.fresh;exact I1.turned (t':=tk) (λb u hb e=>k b u (by simpa using hb) e) f0 f1 f3 f4 f5
theorem V6 (hc:X.calm=true):Aj X (.builtin "all") (λxs H Q=>∃(p:ah) (bs:List Bool),xs=[.ref p]/\H p=some (.lst (bs.map V.bl))/\Q (.bl (bs.all id)) H):=by
 intro pins s σ H xs us Q I rv ⟨p,bs,e,hp,q⟩;subst e;obtain⟨u,rfl,ru⟩:=iC rv;cases ru;obtain⟨its,rits,pl,hz⟩:=I.list (Ay.of hp);have hn:its.toArray.size=bs.length:=by have:=rits.length;simp at this ⊢;omega
 have ne:p≠s.heap.objs.size:=bg (I.hok.lt hp);refine call_all_walk (jt pl.isList ⟨_,_,_,_,_,_,λi=>bs.getD i false,rfl,uf (A:=X.A.in1) (show X.A.in1.handled=none from I.ok.hd hc) _ p ne its.toArray,⟨⟨_,bc _ rfl,rfl,rfl⟩,pl.isList.push _⟩,HY rits,λh' tk k=>?_⟩);rw[hn,V3];exact⟨.bl _,H,(AX (tk:=tk) I k:Inv X pins σ H { s with heap:=h',toks:=tk }),rfl,q⟩
theorem V7 (hc:X.calm=true):Aj X (.builtin "any") (λxs H Q=>∃(p:ah) (bs:List Bool),xs=[.ref p]/\H p=some (.lst (bs.map V.bl))/\Q (.bl (bs.any id)) H):=by
 intro pins s σ H xs us Q I rv ⟨p,bs,e,hp,q⟩;subst e;obtain⟨u,rfl,ru⟩:=iC rv;cases ru;obtain⟨its,rits,pl,hz⟩:=I.list (Ay.of hp);have hn:its.toArray.size=bs.length:=by have:=rits.length;simp at this ⊢;omega
 have ne:p≠s.heap.objs.size:=bg (I.hok.lt hp);refine call_any_walk (jt pl.isList ⟨_,_,_,_,_,_,λi=>bs.getD i false,rfl,uf (A:=X.A.in1) (show X.A.in1.handled=none from I.ok.hd hc) _ p ne its.toArray,⟨⟨_,bc _ rfl,rfl,rfl⟩,pl.isList.push _⟩,HY rits,λh' tk k=>?_⟩);rw[hn,V4];exact⟨.bl _,H,(AX (tk:=tk) I k:Inv X pins σ H { s with heap:=h',toks:=tk }),rfl,q⟩
end
section
variable{X:Cx}{G:Cfg}{E:XK}{e:br}{ml:M zw }{x:Str}{p pos:Pos}{bid T:String}
def mL (f:zv) (ml:M zw ):M Dv:=λρ h=>(ml ρ h).bind f
def HZ (G:Cfg) (r:List V->Hp->VK->Prop) (f:zv):Prop:=∀(E:XK) (μ:Nat->ah) (h:Hs) (H:Hp) (xs:zw) (a:ah) (vs:List V) (Q:VK),Av G μ h H->H a=some (.lst vs)->RelDL G μ h.length H xs vs->Out G E μ h.length H (f xs h) (Af G) Q->r [.ref a] H Q
theorem V8 {r:List V->Hp->VK->Prop}{f:zv}(hd:HZ G r f) {σ:St}{H:Hp}{Q:VK}(t:hV G E (mL f ml) σ H Q):vB r (FP (vR G E ml) FO) σ H Q:=by obtain⟨μ,ρ,h,rs,s,o⟩:=t;refine⟨μ,ρ,h,rs,s,(o.bind (R1:=RL G)).mono λv H1 ⟨μ1,xs,h1,x1,s1,⟨a,vs,ev,ea,_,r1⟩,o1⟩=>?_⟩;subst ev;exact hd E μ1 h1 H1 xs a vs Q s1 ea r1 o1
theorem IA {r:List V->Hp->VK->Prop}{f:zv}(hc:Aj X (.builtin bid) r) (hd:HZ G r f) (hg:Gl X x) (hm:X.mg x=none) (hv:dj x=some (.builtin bid)) (ha:pI X G E e ml) (hn:x ≠ "__name__" := by decide) (Di:(x==("__debug__" : Str))=false:=by decide)
  (he:ar [e] X.env=[(false,eval e X.env)]:=by rfl):aK X G E (.Call (.Name x p) [e] [] pos) (mL f ml):=λhK=>
 PE.imp (vC hc hg hm hv (lA (ha hK) mS he) hn Di he rfl) λ_ _ _ t=>V8 hd t
theorem V9:dj "all" = some (.builtin "all"):=by decide +kernel
theorem WA:dj "any" = some (.builtin "any"):=by decide +kernel
def hY (xs:zw) (h:Hs):Rs Dv:=match bB oI xs with
 |some bs=>.ok (.bl (bs.all id)) h
 |none=>.bad
def pK (xs:zw) (h:Hs):Rs Dv:=match bB oI xs with
 |some bs=>.ok (.bl (bs.any id)) h
 |none=>.bad
theorem rG (hc:X.calm=true) (hg:Gl X "all") (hm:X.mg "all" = none) (ha:pI X G E e ml) (he:ar [e] X.env=[(false,eval e X.env)]:=by rfl):aK X G E (.Call (.Name "all" p) [e] [] pos) (mL hY ml):=
 IA (V6 hc) (λE μ h H xs a vs Q s ea r o=>by
  unfold hY at o
  cases q:bB oI xs with
  |none=>rw[q]at o;exact o.elim
  |some bs=>rw[q]at o;exact⟨a,bs,rfl,by rw[ea,AW r q],o.val s rfl⟩) hg hm V9 ha (by decide) (by decide) he
theorem IB (hc:X.calm=true) (hg:Gl X "any") (hm:X.mg "any" = none) (ha:pI X G E e ml) (he:ar [e] X.env=[(false,eval e X.env)]:=by rfl):aK X G E (.Call (.Name "any" p) [e] [] pos) (mL pK ml):=
 IA (V7 hc) (λE μ h H xs a vs Q s ea r o=>by
  unfold pK at o
  cases q:bB oI xs with
  |none=>rw[q]at o;exact o.elim
  |some bs=>rw[q]at o;exact⟨a,bs,rfl,by rw[ea,AW r q],o.val s rfl⟩) hg hm WA ha (by decide) (by decide) he
end
section
variable{X:Cx}{G:Cfg}{E:XK}{o e i:br}{mo me mi:M Dv}{ml:M zw }{pos apos cpos:Pos}
theorem WB {H:Hp}{a:ah}{vs:List V}(e:H a=some (.lst vs)):vE X.K "list" (.ref a) H:=.inl ⟨rfl,vs,Ay.of e⟩
def pM (o d:Dv) (h:Hs):Rs Dv:=match o with
 | .ref j=>match getL h j with
  |some xs=>if xs.length<1000000 then .ok .non (h.set j (.lst (xs++[d])))else .bad
  |none=>.bad
 |_=>.bad
def jD (o:Dv) (h:Hs):Bool:=match o with
 | .ref j=>(getL h j).isSome
 |_=>false
def iN (mo me:M Dv):M Dv:=λρ h=>(mo ρ h).bind λx h1=>if jD x h1=true then(me ρ h1).bind λd h2=>pM x d h2 else .bad
theorem AY {μ:Nat->ah}{h:Hs}{H:Hp}{x:Dv}{v:V}(s:Av G μ h H) (r:Af G μ h.length H x v) (e:jD x h=true):vE X.K "list" v H:=by
 cases x with
 |ref j=>obtain⟨xs,q⟩:=xb.mp (show(getL h j).isSome=true from e);obtain⟨vs,ea,_⟩:=s.ob j _ (dG q);obtain⟨_,rfl⟩:=r;exact WB ea
 |_=>cases e
theorem vU {y:Str}{np:Pos}(ho:aK X G E (.Name y np) mo) (he:aK X G E e me) (hs:ar [e] X.env=[(false,eval e X.env)]:=by rfl) (hl:(apos.endLine==cpos.line)=true:=by rfl):aK X G E (.Call (.Attribute (.Name y np) "append" apos) [e] [] cpos) (iN mo me):=λhK=>
 PE.imp (zP qe PySem.F.slot_list_append PySem.F.type_list_append TH (ho hK) (lA (he hK) mS hs) rfl (by rw[hs];rfl) hl hs rfl) λσ H Q ⟨μ,ρ,h,rs,s,oo⟩=>fG rs s oo λμ1 x h1 vx H1 x1 Ax s1 r1 o1=>by
  split at o1
  ·rename_i hl;refine⟨AY s1 r1 hl,fG Ax s1 o1 λμ2 d h2 vd H2 x2 Cv s2 r2 o2=>?_⟩
   cases x with
   |ref j=>
    dsimp only[pM]at o2
    cases q:getL h2 j with
    |none=>rw[q]at o2;exact o2.elim
    |some xs=>
     rw[q]at o2;dsimp only at o2
     split at o2
     ·rename_i hz;obtain⟨vs,ea,ra⟩:=s2.ob j _ (dG q);obtain⟨_,rfl⟩:=Af.mono x2 _ _ r1;obtain⟨x3,s3⟩:=s2.write (dG q) (ra.append (RelDL.cons r2 RelDL.nil));exact⟨_,vs,vd,rfl,rfl,ea,by rw[ra.length];exact ay hz (by decide),o2 μ2 _ _ x3 s3 rfl⟩
     ·exact o2.elim
   |_=>exact o2.elim
  ·exact o1.elim
end
section
variable{X:Cx}{G:Cfg}{E:XK}{e i:br}{mo me mi:M Dv}{ml:M zw }{pos apos cpos np:Pos}{y:Str}
def vV (o:Dv) (ys:zw) (h:Hs):Rs Dv:=match o with
 | .ref j=>match getL h j with
  |some xs=>lim (xs.length+ys.length) (.ok .non (h.set j (.lst (xs++ys))))
  |none=>.bad
 |_=>.bad
def pN (mo:M Dv) (ml:M zw ):M Dv:=λρ h=>(mo ρ h).bind λx h1=>if jD x h1=true then(ml ρ h1).bind λys h2=>vV x ys h2 else .bad
theorem WC (ho:aK X G E (.Name y np) mo) (he:pI X G E e ml) (hs:ar [e] X.env=[(false,eval e X.env)]:=by rfl) (hl:(apos.endLine==cpos.line)=true:=by rfl):aK X G E (.Call (.Attribute (.Name y np) "extend" apos) [e] [] cpos) (pN mo ml):=λhK=>
 PE.imp (zP qe PySem.F.slot_list_extend PySem.F.type_list_extend TK (ho hK) (lA (he hK) mS hs) rfl (by rw[hs];rfl) hl hs rfl) λσ H Q ⟨μ,ρ,h,rs,s,oo⟩=>fG rs s oo λμ1 x h1 vx H1 x1 Ax s1 r1 o1=>by
  split at o1
  ·rename_i hl;refine⟨AY s1 r1 hl,μ1,ρ,h1,Ax,s1,(o1.bind (R1:=RL G)).mono λv H2 ⟨μ2,ys,h2,x2,s2,⟨b,ws,ev,eb,nb,rb⟩,o2⟩=>?_⟩;subst ev
   cases x with
   |ref j=>
    dsimp only[vV]at o2
    cases q:getL h2 j with
    |none=>rw[q]at o2;exact o2.elim
    |some xs=>
     rw[q]at o2;dsimp only at o2;unfold lim at o2
     split at o2
     ·rename_i hz;obtain⟨vs,ea,ra⟩:=s2.ob j _ (dG q);obtain⟨_,rfl⟩:=Af.mono x2 _ _ r1;obtain⟨x3,s3⟩:=s2.write (dG q) (ra.append rb);exact⟨_,b,vs,ws,rfl,rfl,ea,eb,by rw[ra.length,rb.length];exact sV hz,o2 μ2 _ _ x3 s3 rfl⟩
     ·exact o2.elim
   |_=>exact o2.elim
  ·exact o1.elim
def vW (o i d:Dv) (h:Hs):Option Hs:=match o,i with
 | .ref j,.int k=>match getL h j with
  |some xs=>match gA xs.length k with
   |some n=>some (h.set j (.lst (xs.set n d)))
   |none=>none
  |none=>none
 |_,_=>none
def tG (mo mi me:M Dv):MS:=λρ h=>(me ρ h).thenS λd h1=>(mo ρ h1).thenS λo h2=>(mi ρ h2).thenS λi h3=>match vW o i d h3 with
 |some h4=>.nx ρ h4
 |none=>.bad
theorem IC {o:br}{spos:Pos}(ho:aK X G E o mo) (hi:aK X G E i mi) (he:aK X G E e me)
  (ha:∀v,assign (.Subscript o i spos) X.env v=(do
   let ov <-holding [v] (eval o X.env)
   let iv <-holding [v,ov] (eval i X.env)
   standAt spos
   holding [v,ov,iv] (setItem ov iv v)
   release [v,ov,iv] []):=by intro _;rfl)
  (hs:swapsWithSole [.Subscript o i spos] e pos.line X.env=pure false:=by rfl) (hw:swappedStores [.Subscript o i spos] e X.env=pure none:=by rfl)
  (h1:(assignEach [.Subscript o i spos] X.env).map (·.2)=[assign (.Subscript o i spos) X.env]:=by rfl):iG X G E (.Assign [.Subscript o i spos] e pos) (tG mo mi me):=λhK=>
 PS.imp (FA (he hK) (QQ (ho hK) (hi hK) S0 ha) hs hw h1) λD σ H ⟨μ,ρ,h,rs,s,oo⟩=>oF rs s oo λμ1 d h1 v H1 x1 Ax s1 r1 o1=>oF Ax s1 o1 λμ2 ob h2 vo H2 x2 Cv s2 r2 o2=>oF Cv s2 o2 λμ3 ix h3 vi H3 x3 rs3 s3 r3 o3=>by
  cases ob with
  |ref j=>
   cases ix with
   |int k=>
    dsimp only[vW]at o3
    cases q:getL h3 j with
    |none=>rw[q]at o3;exact o3.elim
    |some xs=>
     rw[q]at o3;dsimp only at o3
     cases q2:gA xs.length k with
     |none=>rw[q2]at o3;exact o3.elim
     |some n=>rw[q2]at o3;obtain⟨vs,ea,ra⟩:=s3.ob j _ (dG q);obtain⟨_,rfl⟩:=Af.mono x3 _ _ r2;rw[Af]at r3;subst r3;obtain⟨x4,s4⟩:=s3.write (dG q) (RelDL.set (Af.mono (x2.trans x3) _ _ r1) n ra);exact⟨_,vs,k,n,rfl,rfl,ea,by rw[ra.length];exact q2,o3 μ3 _ σ x4 s4 (rs3.mono x4)⟩
   |_=>exact o3.elim
  |_=>cases ix <;> exact o3.elim
end
section
variable{prog:bf}{w:cf}{A:cg}{E:af->ag->Prop}{s:ag}
theorem WD {it t:ah}{i:Nat}{items:Array af}{x:af}{Q:af->ag->Prop}(hit:s.heap.IsTupleIter it t i) (ht:s.heap.IsTuple t items) (hx:items[i]?=some x)
  (k:∀h',h'.IsTupleIter it t (i+1)->iu it s.heap h'->Q x { s with heap:=h' }):wpAny (model prog w) A (fe (.ref it)) Q E s:=by
 obtain⟨o,ho,hc,hd⟩:=id hit;obtain⟨ol,hol,hcl,nl,hdl⟩:=id ht;refine ae (dw (name:=jq "__next__") hit.typeIs F.slot_tuple_iterator_next (ed F.slot_tuple_iterator_next hit.typeIs F.entry_tuple_iterator_next ?_ (F.args_tuple_iterator_next_1 _)));have q0:∀{Q':af->ag->Prop}{E':af->ag->Prop}{B:cg},Q' (.ref t) s->wpAny (model prog w) B (field (.ref it) 0) Q' E' s:=λq=>fq ho hd (x:=.ref t) rfl q;have q1:∀{Q':af->ag->Prop}{E':af->ag->Prop}{B:cg},Q' (.int i 0) s->wpAny (model prog w) B (field (.ref it) 1) Q' E' s:=λq=>fq ho hd (x:=.int i 0) rfl q;refine ae (ai (ae (q0 ?_)));dsimp only;rw[if_neg (by simp)];refine ae (q1 (ae (gq hol hdl ?_)));rw[show((i:Int)).toNat=i from fz i];dsimp only;rw[hx];refine ae (yp ho hd (by simp) (ai ⟨x,rfl,ai (k _ ⟨_,jm _ ho (yx (ui hd _)), ?_, ?_⟩ (my ..))⟩))
 ·rw[Obj.cls_mapFields];exact hc
 ·rw[ui hd];simp[rawInt]
end
section
variable{prog:bf}{w:cf}{A:cg}{E:af->ag->Prop}{s:ag}
theorem WE {α:Type}{Q:α->ag->Prop}(hh:A.handled=none) (k:∀h' e,(∀b o,s.heap.get? b=some o->h'.get? b=some o)->(∃o,h'.get? e=some o/\o.cls=.type "StopIteration")->E (.ref e) { s with heap:=h' }):
  wpAny (model prog w) A (qi:Sem α) Q E s:=by
 have e0:firstArgMember (.type "StopIteration") []=pure jj:=by show(pure (if _ then jj else jj):Sem af)=_;rw[ite_self]
 unfold qi newExc newTuple;refine ae (ae (fo (ae (rf e0 (fo (wpAny_raiseNew_none hh (k _ _ (λb o q=>ak _ (ak _ q)) ⟨_,bc _ rfl,rfl⟩)) (by size_fits)))) (by size_fits)))
theorem WG {it t:ah}{i:Nat}{items:Array af}{Q:af->ag->Prop}(hh:A.handled=none) (hit:s.heap.IsTupleIter it t i) (ht:s.heap.IsTuple t items) (hx:items[i]?=none)
  (k:∀h' e,yy it s.heap h'->(∃o,h'.get? e=some o/\o.cls=.type "StopIteration")->E (.ref e) { s with heap:=h' }):wpAny (model prog w) A (fe (.ref it)) Q E s:=by
 obtain⟨o,ho,hc,hd⟩:=id hit;obtain⟨ol,hol,hcl,nl,hdl⟩:=id ht;refine ae (dw (name:=jq "__next__") hit.typeIs F.slot_tuple_iterator_next (ed F.slot_tuple_iterator_next hit.typeIs F.entry_tuple_iterator_next ?_ (F.args_tuple_iterator_next_1 _)));have q0:∀{Q':af->ag->Prop}{E':af->ag->Prop}{B:cg},Q' (.ref t) s->wpAny (model prog w) B (field (.ref it) 0) Q' E' s:=λq=>fq ho hd (x:=.ref t) rfl q;have q1:∀{Q':af->ag->Prop}{E':af->ag->Prop}{B:cg},Q' (.int i 0) s->wpAny (model prog w) B (field (.ref it) 1) Q' E' s:=λq=>fq ho hd (x:=.int i 0) rfl q;refine ae (ai (ae (q0 ?_)));dsimp only;rw[if_neg (by simp)];refine ae (q1 (ae (gq hol hdl ?_)));rw[show((i:Int)).toNat=i from fz i];dsimp only;rw[hx];refine ae (qp (ae (yp ho hd (by simp) (WE (show A.in1.handled=none from hh) λh' e kp st=>k h' e (λb u hb q=>kp b u ?_) st))));rw[kd _ _ (cy hb)];exact q
end
structure Draws (prog:bf) (w:cf) (it src:ah) (xs:List af) (st:Nat->cx->Prop):Prop where
 keep:∀i h h',st i h->(∀b o,b=it∨b=src->h.get? b=some o->h'.get? b=some o)->st i h'
 there:∀i h,st i h->∃o vs,h.get? it=some o/\o.data=.fields vs
 item:∀(A:cg) (i:Nat) (x:af) (s:ag) (Q:af->ag->Prop) (E:af->ag->Prop),xs[i]?=some x->st i s.heap->
  (∀h',st (i+1) h'->iu it s.heap h'->Q x { s with heap:=h' })->wpAny (model prog w) A (fe (.ref it)) Q E s
 done:∀(A:cg) (i:Nat) (s:ag) (Q:af->ag->Prop) (E:af->ag->Prop),A.handled=none->xs[i]?=none->st i s.heap->
  (∀h' e,yy it s.heap h'->(∃o,h'.get? e=some o/\o.cls=.type "StopIteration")->E (.ref e) { s with heap:=h' })->wpAny (model prog w) A (fe (.ref it)) Q E s
structure Dm (z TI TO i j u v:ah):Prop where
 a:z≠TO
 b:z≠i
 c:z≠j
 d:TO≠i
 e:TO≠j
 f:i≠j
 g:TI≠z
 h:TI≠TO
 k:TI≠i
 l:TI≠j
 u1:u≠z
 u2:u≠TO
 u3:u≠i
 u4:u≠j
 v1:v≠z
 v2:v≠TO
 v3:v≠i
 v4:v≠j
theorem iO {b x y c:ah}(h:b=x∨b=y) (p:x≠c) (q:y≠c):b≠c:=by
 rcases h with h|h
 ·rw[h];exact p
 ·rw[h];exact q
def vX (z TO i j:ah) (h h':cx):Prop:=∀b o,b≠z->b≠TO->b≠i->b≠j->h.get? b=some o->h'.get? b=some o
section
variable{prog:bf}{w:cf}{A:cg}{E:af->ag->Prop}{s:ag}{z TI TO i j u v:ah}{xs ys:List af}{st su:Nat->cx->Prop}
theorem ID {n:Nat}{x y a b:af}{Q:af->ag->Prop}(F4:Dm z TI TO i j u v) (P:Draws prog w i u xs st) (R:Draws prog w j v ys su) (hz:wx s.heap z TI TO .none) (hTI:lr s.heap TI (.ref i) (.ref j)) (hTO:lr s.heap TO a b)
  (p:st n s.heap) (r:su n s.heap) (hx:xs[n]?=some x) (hy:ys[n]?=some y)
  (k:∀h' T,s.heap.objs.size<=T->wx h' z TI TO (rawInt T)->lr h' TI (.ref i) (.ref j)->lr h' TO x y->st (n+1) h'->su (n+1) h'->lr h' T x y->vX z TO i j s.heap h'->Q (.ref T) { s with heap:=h' }):
  wpAny (model prog w) A (kz.«zip.__next__» ⟨[.ref z],[]⟩) (λfin s'=>∃v,fin=.done (.ret v)/\Q v s') E s:=by
 refine ae (ai (ae (fq hz rfl (x:=.bool false) rfl (ae (fq hz rfl (x:=.ref TI) rfl (ae (gq hTI rfl ?_)))))));have fr:∀{Q':Bool->ag->Prop}{E':af->ag->Prop},Q' true s->wpAny (model prog w) A (pw (.ref z)) Q' E' s:=λq=>ae (fq hz rfl (x:=.none) rfl (ai q));refine ae (fr ?_);rw[if_pos rfl];refine ae (qp (ae (fq hz rfl (x:=.ref TO) rfl (ae (je hz (by simp) λg1 z1 b1=>?_)))));have z1':wx g1 z TI TO .ellipsis:=z1;refine ae ?_;show wpAny _ _ (forIn [(gh i,0),(gh j,1)] _ _) _ _ _;rw[oa];refine ae (ae (sd ?_));show wpAny _ _ (fe (.ref i) >>= _) _ _ _;refine ae (P.item A n x _ _ _ hx (P.keep n _ _ p λb o hb q=>b1.extBut _ _ (iO hb (cy F4.b) F4.u1) q) λg2 p2 b2=>ai ?_);have t2:lr g2 TO a b:=b2.extBut _ _ F4.d (b1.extBut _ _ (cy F4.a) hTO);refine ae (gq t2 rfl (ae (uj t2 λg3 t3 b3=>ae (pb (ai ?_)))));have t3':lr g3 TO x b:=t3;dsimp only;rw[oa];refine ae (ae (sd ?_));show wpAny _ _ (fe (.ref j) >>= _) _ _ _;have r3:su n g3:=R.keep n _ _ r λb o hb q=>b3.extBut _ _ (iO hb (cy F4.e) F4.v2) (b2.extBut _ _ (iO hb (cy F4.f) F4.v3) (b1.extBut _ _ (iO hb (cy F4.c) F4.v1) q));refine ae (R.item A n y _ _ _ hy r3 λg4 r4 b4=>ai ?_);have t4:lr g4 TO x b:=b4.extBut _ _ F4.e t3';refine ae (gq t4 rfl (ae (uj t4 λg5 t5 b5=>ae (pb (ai ?_)))));have t5':lr g5 TO x y:=t5;dsimp only;rw[List.forIn_nil];refine ai ?_;refine ae (gq t5' rfl (ae (wpAny_newTuple ?_)));have z5:wx g5 z TI TO .ellipsis:=b5.extBut _ _ F4.a (b4.extBut _ _ F4.c (b3.extBut _ _ F4.a (b2.extBut _ _ F4.b z1')));have sz:g5.objs.size=s.heap.objs.size:=by rw[b5.1,b4.1,b3.1,b2.1,b1.1]
 have all5:vX z TO i j s.heap g5:=λc o c1 c2 c3 c4 q=>b5.extBut _ _ c2 (b4.extBut _ _ c4 (b3.extBut _ _ c2 (b2.extBut _ _ c3 (b1.extBut _ _ c1 q))));have p5:st (n+1) g5:=P.keep _ _ _ p2 λb o hb q=>b5.extBut _ _ (iO hb (cy F4.d) F4.u2) (b4.extBut _ _ (iO hb F4.f F4.u4) (b3.extBut _ _ (iO hb (cy F4.d) F4.u2) q));have r5:su (n+1) g5:=R.keep _ _ _ r4 λb o hb q=>b5.extBut _ _ (iO hb (cy F4.e) F4.v2) q;generalize hob:({ cls:=.type "tuple",dict:=none,data:=.seq [x,y].toArray }:Obj)=ob;have zp:wx (g5.push ob) z TI TO .ellipsis:=ak _ z5;refine ae (ae (je zp (by simp) λg7 z7 b7=>?_));have z7':wx g7 z TI TO (rawInt g5.objs.size):=z7;refine je z7' (by simp) λg8 z8 b8=>ai ⟨_,rfl, ?_⟩;have up:∀c o,c≠z->g5.get? c=some o->g8.get? c=some o:=λc o c1 q=>b8.extBut _ _ c1 (b7.extBut _ _ c1 (ak _ q));have lz:z<g5.objs.size:=au z5;have T8:lr g8 g5.objs.size x y:=b8.extBut _ _ (iz lz) (b7.extBut _ _ (iz lz) (by rw[<-hob];exact bc _ rfl));refine k g8 g5.objs.size (sf sz.symm) z8 (up _ _ F4.g (all5 _ _ F4.g F4.h F4.k F4.l hTI)) (up _ _ (cy F4.a) t5') (P.keep _ _ _ p5 λb o hb q=>up _ _ (iO hb (cy F4.b) F4.u1) q) (R.keep _ _ _ r5 λb o hb q=>up _ _ (iO hb (cy F4.c) F4.v1) q) T8 λc o c1 c2 c3 c4 q=>up _ _ c1 (all5 c o c1 c2 c3 c4 q)
end
section
variable{prog:bf}{w:cf}{A:cg}{E:af->ag->Prop}{s:ag}{z TI TO i j u v:ah}{xs ys:List af}{st su:Nat->cx->Prop}
theorem IE {n:Nat}{a b:af}{Q:PySem.Fin->ag->Prop}(hh:A.handled=none) (F4:Dm z TI TO i j u v) (P:Draws prog w i u xs st) (R:Draws prog w j v ys su) (hz:wx s.heap z TI TO .none) (hTI:lr s.heap TI (.ref i) (.ref j)) (hTO:lr s.heap TO a b)
  (p:st n s.heap) (r:su n s.heap) (hend:xs[n]?=none∨ys[n]?=none)
  (k:∀h' e,vX z TO i j s.heap h'->(∃o,h'.get? e=some o/\o.cls=.type "StopIteration")->E (.ref e) { s with heap:=h' }):
  wpAny (model prog w) A (kz.«zip.__next__» ⟨[.ref z],[]⟩) Q E s:=by
 refine ae (ai (ae (fq hz rfl (x:=.bool false) rfl (ae (fq hz rfl (x:=.ref TI) rfl (ae (gq hTI rfl ?_)))))));have fr:∀{Q':Bool->ag->Prop}{E':af->ag->Prop},Q' true s->wpAny (model prog w) A (pw (.ref z)) Q' E' s:=λq=>ae (fq hz rfl (x:=.none) rfl (ai q));refine ae (fr ?_);rw[if_pos rfl];refine ae (qp (ae (fq hz rfl (x:=.ref TO) rfl (ae (je hz (by simp) λg1 z1 b1=>?_)))));have z1':wx g1 z TI TO .ellipsis:=z1;have p1:st n g1:=P.keep n _ _ p λb o hb q=>b1.extBut _ _ (iO hb (cy F4.b) F4.u1) q;have fin:∀(g:cx) (e:ah),wx g z TI TO .ellipsis->vX z TO i j s.heap g->(∃o,g.get? e=some o/\o.cls=.type "StopIteration")->
   wpAny (model prog w) A (setField (.ref z) 0 .none) (λ_ s'=>E (.ref e) s') E { s with heap:=g }:=λg e zz bt ⟨o,he,hc⟩=>
  je zz (by simp) λg' _ b'=>k g' e (λc u c1 c2 c3 c4 q=>b'.extBut _ _ c1 (bt c u c1 c2 c3 c4 q)) ⟨o,b'.extBut _ _ (λq=>by subst q;rw[zz]at he;cases he;simp at hc) he,hc⟩
 refine ae ?_;show wpAny _ _ (forIn [(gh i,0),(gh j,1)] _ _) _ _ _;rw[oa];refine ae (ae (sd ?_));show wpAny _ _ (fe (.ref i) >>= _) _ _ _
 cases hx:xs[n]? with
 |none=>exact ae (P.done A n _ _ _ hh hx p1 λg2 e b2 he=>fin g2 e (b2 _ _ F4.b z1') (λc u c1 _ c3 _ q=>b2 _ _ c3 (b1.extBut _ _ c1 q)) he)
 |some x=>
  have hy:ys[n]?=none:=by
   rcases hend with q|q
   ·rw[hx]at q;cases q
   ·exact q
  refine ae (P.item A n x _ _ _ hx p1 λg2 p2 b2=>ai ?_);have t2:lr g2 TO a b:=b2.extBut _ _ F4.d (b1.extBut _ _ (cy F4.a) hTO);refine ae (gq t2 rfl (ae (uj t2 λg3 t3 b3=>ae (pb (ai ?_)))));dsimp only;rw[oa];refine ae (ae (sd ?_));show wpAny _ _ (fe (.ref j) >>= _) _ _ _;have r3:su n g3:=R.keep n _ _ r λb o hb q=>b3.extBut _ _ (iO hb (cy F4.e) F4.v2) (b2.extBut _ _ (iO hb (cy F4.f) F4.v3) (b1.extBut _ _ (iO hb (cy F4.c) F4.v1) q));exact ae (R.done A n _ _ _ hh hy r3 λg4 e b4 he=>fin g4 e (b4 _ _ F4.c (b3.extBut _ _ F4.a (b2.extBut _ _ F4.b z1'))) (λc u c1 c2 c3 c4 q=>b4 _ _ c4 (b3.extBut _ _ c2 (b2.extBut _ _ c3 (b1.extBut _ _ c1 q)))) he)
theorem rH {it t:ah}{items:Array af}(hne:t≠it):Draws prog w it t items.toList (λi h=>h.IsTupleIter it t i/\h.IsTuple t items) where
 keep:=λi h h' ⟨⟨o,e,r⟩,⟨o2,e2,r2⟩⟩ k=>⟨⟨o,k _ _ (.inl rfl) e,r⟩,⟨o2,k _ _ (.inr rfl) e2,r2⟩⟩
 there:=λi h ⟨⟨o,e,_,d⟩,_⟩=>⟨o,_,e,d⟩
 item:=λA i x s Q E hx ⟨a,b⟩ k=>WD a b (by simpa using hx) λh' a' sb=>k h' ⟨a',b.extBut sb.extBut hne⟩ sb
 done:=λA i s Q E hh hx ⟨a,b⟩ k=>WG hh a b (by simpa using hx) k
end
def AZ (K:ao) (t u:ah):It:=
 ⟨λi H=>∃vs ws v w,Au K H t vs/\Au K H u ws/\vs[i]?=some v/\ws[i]?=some w,
  λi H x H'=>∃p v w,x=.ref p/\H p=none/\H'=aV H p (.tup [v,w])/\(∀vs,Au K H t vs->vs[i]?=some v)/\∀ws,Au K H u ws->ws[i]?=some w,
  λi H=>∃vs ws,Au K H t vs/\Au K H u ws/\(vs.length<=i∨ws.length<=i)⟩
structure ZipAt (z TI TO i j t u:ah) (n:Nat) (h:cx):Prop where
 zp:wx h z TI TO .none
 ti:lr h TI (.ref i) (.ref j)
 to:∃a b,lr h TO a b
 i1:h.IsTupleIter i t n
 i2:h.IsTupleIter j u n
section
variable{X:Cx}{pins:List (ah×Obj)}{σ:St}{H:Hp}{s:ag}
theorem Inv.turns {h':cx}{ch:List ah}{T:ah}{vs:List V}{its:List af}(I:Inv X pins σ H s) (Dd:∀b∈ch,dJ X pins H b) (k:∀b o,b∉ch->s.heap.get? b=some o->h'.get? b=some o) (there:∀b∈ch,∃o,h'.get? b=some o)
  (hT:s.heap.objs.size<=T) (hv:Ag vs its) (hl:vs.length<=bz) (tp:A' h' T its.toArray):Inv X pins σ (aV H T (.tup vs)) { s with heap:=h' }:=by
 have nT:H T=none:=I.hok.fresh hT;have nch:∀b o,H b=some o->b∉ch:=λb o q z=>by rw[(Dd b z).1]at q;cases q
 have un:Un (eW X.stack) ch H (aV H T (.tup vs)) s.heap h':=
  ⟨λb o q _ _ hb=>k b o hb q,λb o q _ _ hb=>⟨o.slots,k b o hb q⟩,λb o q n _=>by rw[cF (bg (ay (au q) hT))];exact n,
   λb o q hb=>⟨o,k b o hb q⟩,λb xs q=>dQ nT b _ q,λb o u q=>dQ nT b _ q,λb ps q=>⟨#[],by rw[dQ nT b _ q];simp⟩⟩
 have ok:Bk X.prog X.w (aV H T (.tup vs)) h':=λb o q=>by
  by_cases hb:b=T
  ·subst hb;rw[eR]at q;cases q;exact⟨hl,its,hv,tp⟩
  ·rw[cF hb]at q;refine(I.hok b o q).stay (λc v hc z=>k c v ?_ z) (λc z=>dQ nT c _ z) λc xs z=>dQ nT c _ z
   rcases hc with rfl|hc
   ·exact nch c o q
   ·exact nch c _ hc
 exact I.call (g':=s.gens) (d':=s.drawn) (t':=s.toks) un ok I.bare λb hb=>let ⟨_,f1,_,f3,f4,f5⟩:=Dd b hb;⟨f3,f1,f4,f5⟩
theorem Inv.turns0 {h':cx}{ch:List ah}(I:Inv X pins σ H s) (Dd:∀b∈ch,dJ X pins H b) (k:∀b o,b∉ch->s.heap.get? b=some o->h'.get? b=some o):Inv X pins σ H { s with heap:=h' }:=by
 have nch:∀b o,H b=some o->b∉ch:=λb o q z=>by rw[(Dd b z).1]at q;cases q
 refine I.call (g':=s.gens) (d':=s.drawn) (t':=s.toks) (ch:=ch) ⟨λb o q _ _ hb=>k b o hb q,λb o q _ _ hb=>⟨o.slots,k b o hb q⟩,λ_ _ _ n _=>n,λb o q hb=>⟨o,k b o hb q⟩,λ_ _ q=>q,λ_ _ _ q=>q,λb ps q=>⟨#[],by rw[q];simp⟩⟩ (λb o q=>?_) I.bare λb hb=>let ⟨_,f1,_,f3,f4,f5⟩:=Dd b hb;⟨f3,f1,f4,f5⟩;refine(I.hok b o q).stay (λc v hc z=>k c v ?_ z) (λ_ z=>z) λ_ _ z=>z
 rcases hc with rfl|hc
 ·exact nch c o q
 ·exact nch c _ hc
end
theorem WH {P:bf}{w:cf}{K:ao}{elts:List br}{kk:Nat}{tp:Pos}{z TI TO i j t u:ah}(F4:Dm z TI TO i j t u) (hti:t≠i) (huj:u≠j):
  Turn P w K (.Tuple elts kk tp) (AZ K t u) [z,TI,TO,i,j] z (ZipAt z TI TO i j t u) where
 mem:=by simp
 obj:=λn h st b hb=>by
  obtain⟨zp,ti,⟨a,b',to⟩,⟨o1,e1,_,d1⟩,⟨o2,e2,_,d2⟩⟩:=st;simp at hb
  rcases hb with rfl|rfl|rfl|rfl|rfl
  ·exact⟨_,zp,λv q=>by cases q⟩
  ·exact⟨_,ti,λv q=>by cases q⟩
  ·exact⟨_,to,λv q=>by cases q⟩
  ·exact⟨_,e1,λv q=>by rw[d1]at q;cases q⟩
  ·exact⟨_,e2,λv q=>by rw[d2]at q;cases q⟩
 keep:=λn h h' st k=>by obtain⟨zp,ti,⟨a,b',to⟩,⟨o1,e1,r1⟩,⟨o2,e2,r2⟩⟩:=st;exact⟨k _ (by simp) _ zp,k _ (by simp) _ ti,⟨a,b',k _ (by simp) _ to⟩,⟨o1,k _ (by simp) _ e1,r1⟩,⟨o2,k _ (by simp) _ e2,r2⟩⟩
 item:=by
  intro X hP hw hK hc n pins s σ H E I hf st hg;subst hP hw hK;obtain⟨vs,ws,v,w',hq,hr,hv,hw'⟩:=hg;obtain⟨its,rv,p1,z1⟩:=I.tuple hq;obtain⟨jts,rw',p2,z2⟩:=I.tuple hr;obtain⟨x,hx,rx⟩:=rv.get hv;obtain⟨y,hy,ry⟩:=rw'.get hw';obtain⟨zp,ti,⟨a,b,to⟩,i1,i2⟩:=st;have hT:s.TypeIs (.ref z) "zip" := ⟨_,zp,rfl⟩;unfold pyNext;refine ae (ou (dw (name:=jq "__next__") hT F.slot_zip_next (ed F.slot_zip_next hT F.entry_zip_next
   (ID F4 (rH (items:=its.toArray) hti) (rH (items:=jts.toArray) huj) zp ti to ⟨i1,p1⟩ ⟨i2,p2⟩ (by simpa using hx) (by simpa using hy) λh' T Cb a1 a2 a3 a4 a5 a6 bt=>ai ⟨_,rfl, ?_⟩) (F.args_zip_next_1 _))))
  refine yz a1 λh2 z2' sb=>?_;have kp:∀b o,b∉[z,TI,TO,i,j]->s.heap.get? b=some o->h2.get? b=some o:=λb o hb q=>by simp at hb;obtain⟨n1,n2,n3,n4,n5⟩:=hb;exact sb.extBut _ _ n1 (bt b o n1 n3 n4 n5 q)
  have Tz:T≠z:=iz (ay (au zp) Cb);have T2:lr h2 T x y:=sb.extBut _ _ Tz a6;have th:∀b∈[z,TI,TO,i,j],∃o,h2.get? b=some o:=λb hb=>by
   obtain⟨⟨o1,e1,_⟩,_⟩:=a4;obtain⟨⟨o2,e2,_⟩,_⟩:=a5;simp at hb
   rcases hb with rfl|rfl|rfl|rfl|rfl
   ·exact⟨_,z2'⟩
   ·exact⟨_,sb.extBut _ _ F4.g a2⟩
   ·exact⟨_,sb.extBut _ _ (cy F4.a) a3⟩
   ·exact⟨_,sb.extBut _ _ (cy F4.b) e1⟩
   ·exact⟨_,sb.extBut _ _ (cy F4.c) e2⟩
  have I2:=Inv.turns (T:=T) (vs:=[v,w']) (its:=[x,y]) I hf kp th Cb (.cons rx (.cons ry .nil)) (by show 2<=bz;decide) ⟨_,T2,rfl,rfl,_,rfl⟩;have nT:H T=none:=I.hok.fresh Cb;refine⟨.ref T,_,I2,rfl,⟨T,v,w',rfl,nT,rfl,λBp h'=>by rw[I.tuple_inj h' hq];exact hv,λws' h'=>by rw[I.tuple_inj h' hr];exact hw'⟩, ?_,λb hb=>?_⟩
  ·exact⟨z2',sb.extBut _ _ F4.g a2,⟨_,_,sb.extBut _ _ (cy F4.a) a3⟩,a4.1.extBut sb.extBut (cy F4.b),a5.1.extBut sb.extBut (cy F4.c)⟩
  ·obtain⟨o,q,_⟩:∃o,s.heap.get? b=some o/\True:=by
    obtain⟨o1,e1,_⟩:=i1;obtain⟨o2,e2,_⟩:=i2;simp at hb
    rcases hb with rfl|rfl|rfl|rfl|rfl
    ·exact⟨_,zp,trivial⟩
    ·exact⟨_,ti,trivial⟩
    ·exact⟨_,to,trivial⟩
    ·exact⟨_,e1,trivial⟩
    ·exact⟨_,e2,trivial⟩
   rw[cF (bg (ay (au q) Cb))];exact(hf b hb).1
 done:=by
  intro X hP hw hK hc n pins s σ H E I hf st hg;subst hP hw hK;obtain⟨vs,ws,hq,hr,hend⟩:=hg;obtain⟨its,rv,p1,z1⟩:=I.tuple hq;obtain⟨jts,rw',p2,z2⟩:=I.tuple hr;have l1:=rv.length;have l2:=rw'.length;obtain⟨zp,ti,⟨a,b,to⟩,i1,i2⟩:=st;have hT:s.TypeIs (.ref z) "zip" := ⟨_,zp,rfl⟩;unfold pyNext;refine ae (ou (dw (name:=jq "__next__") hT F.slot_zip_next (ed F.slot_zip_next hT F.entry_zip_next
   (IE (show X.A.in1.handled=none from I.ok.hd hc) F4 (rH (items:=its.toArray) hti) (rH (items:=jts.toArray) huj) zp ti to ⟨i1,p1⟩ ⟨i2,p2⟩ (by
    rcases hend with q|q
    ·exact .inl (by simp;omega)
    ·exact .inr (by simp;omega)) λh' e bt ⟨o,he,hcl⟩=>ae (sr (T := "StopIteration") (b:=true) ⟨o,he,hcl⟩ yq (ai ⟨rfl, ?_⟩))) (F.args_zip_next_1 _))))
  refine Inv.turns0 I hf λb o hb q=>?_;simp at hb;exact bt b o hb.1 hb.2.2.1 hb.2.2.2.1 hb.2.2.2.2 q
 self:=λ_ _ _ _ _ st h=>sv st.zp h
def IF (t u:ah) (h:cx) (z:ah) (h':cx):Prop:=∃TI TO i j,ZipAt z TI TO i j t u 0 h'/\Dm z TI TO i j t u/\(∀b∈[z,TI,TO,i,j],h.objs.size<=b)/\∀b o,h.get? b=some o->h'.get? b=some o
theorem lI {h h':cx}{o:Obj}(e:h'=h.push o) (nf:o.isFreed=false):h'.get? h.objs.size=some o:=by rw[e];exact bc _ nf
theorem IG (n t u:Nat) (lt:t<n) (lu:u<n):Dm (n+4) (n+2) (n+3) n (n+1) t u:=by
 have ne:∀{a b:Nat},(a<b∨b<a)->a≠b:=λh=>by omega
 exact⟨ne (by omega),ne (by omega),ne (by omega),ne (by omega),ne (by omega),ne (by omega),ne (by omega),ne (by omega),ne (by omega),ne (by omega),ne (by omega),ne (by omega),ne (by omega),ne (by omega),ne (by omega),ne (by omega),ne (by omega),ne (by omega)⟩
theorem WI {t u:ah}{hp h1 h2 h3 h4 h5:cx}{n:Nat}(hn:n=hp.objs.size) (lt:t<n) (lu:u<n)
  (e1:h1=hp.push { cls:=.type "tuple_iterator",data:=.fields #[.ref t,.int 0 0] }) (e2:h2=h1.push { cls:=.type "tuple_iterator",data:=.fields #[.ref u,.int 0 0] }) (e3:h3=h2.push { cls:=.type "tuple",data:=.seq #[.ref n,.ref (n+1)] })
  (e4:h4=h3.push { cls:=.type "tuple",data:=.seq #[.none,.none] }) (e5:h5=h4.push { cls:=.type "zip",data:=.fields #[.none,.bool false,.bool false,.ref (n+2),.ref (n+3)] }):IF t u hp (n+4) h5:=by
 have z1:h1.objs.size=n+1:=by rw[e1,cz,hn]
 have z2:h2.objs.size=n+2:=by rw[e2,cz,z1]
 have z3:h3.objs.size=n+3:=by rw[e3,cz,z2]
 have z4:h4.objs.size=n+4:=by rw[e4,cz,z3]
 have up:∀(h:cx) (o:Obj) (b:ah) (q:Obj),h.get? b=some q->(h.push o).get? b=some q:=λh o b q e=>ak _ e;have g1:=lI e1 rfl;have g2:=lI e2 rfl;have g3:=lI e3 rfl;have g4:=lI e4 rfl;have g5:=lI e5 rfl;rw[<-hn]at g1;rw[z1]at g2;rw[z2]at g3;rw[z3]at g4;rw[z4]at g5;have u2:∀b q,h2.get? b=some q->h5.get? b=some q:=λb q e=>by rw[e5,e4,e3];exact up _ _ _ _ (up _ _ _ _ (up _ _ _ _ e))
 have u1:∀b q,h1.get? b=some q->h5.get? b=some q:=λb q e=>u2 b q (by rw[e2];exact up _ _ _ _ e);have u3:∀b q,h3.get? b=some q->h5.get? b=some q:=λb q e=>by rw[e5,e4];exact up _ _ _ _ (up _ _ _ _ e)
 have u4:∀b q,h4.get? b=some q->h5.get? b=some q:=λb q e=>by rw[e5];exact up _ _ _ _ e
 refine⟨n+2,n+3,n,n+1,⟨g5,u3 _ _ g3,⟨_,_,u4 _ _ g4⟩,⟨_,u1 _ _ g1,rfl,rfl⟩,⟨_,u2 _ _ g2,rfl,rfl⟩⟩, ?_, ?_,λb q e=>u1 b q (by rw[e1];exact up _ _ _ _ e)⟩
 ·exact IG n t u lt lu
 ·intro b hb;rw[<-hn];simp at hb
  rcases hb with rfl|rfl|rfl|rfl|rfl
  ·exact jk _ _
  ·exact jk _ _
  ·exact jk _ _
  ·exact aj _
  ·exact jk _ _
theorem WJ {t u:ah}(xs ys:Array af):Meets (kz.«zip.__new__» ⟨[.type "zip",.ref t,.ref u],[]⟩) (λ_ R s=>s.heap.IsTuple t xs/\s.heap.IsTuple u ys/\∀h' z,IF t u s.heap z h'->R (.ok (.ret (.ref z))) { s with heap:=h' }):=
 .of_wp λprog w A R s h=>by
  obtain⟨ht,hu,k⟩:=h;obtain⟨hp,g,d,tk,os⟩:=s;have sub:=sub_zip;have ht':(⟨hp,g,d,tk,os⟩:ag).heap.IsTuple t xs:=ht;have Aw:(⟨hp.push { cls:=.type "tuple_iterator",data:=.fields #[.ref t,.int 0 0] },g,d,tk,os⟩:ag).heap.IsTuple u ys:=hu.push _
  wp_walk using mw ht',mw Aw
  have lt:t<hp.objs.size:=by obtain⟨o,e,_⟩:=ht;exact au e
  have lu:u<hp.objs.size:=by obtain⟨o,e,_⟩:=hu;exact au e
  simp only[cz];refine⟨_,rfl,k _ _ (WI rfl lt lu rfl rfl rfl rfl ?_)⟩;simp only[cz];rfl
section
variable{X:Cx}{G:Cfg}{E:XK}{a b:br}{elts:List br}{kk:Nat}{tp p pos:Pos}{ta:TA}{ms:M zw }
def WK (K:ao) (ta:TA):TI:=λσ H R=>ta σ H λvs H1=>∃t u xs ys,vs=[.ref t,.ref u]/\Au K H1 t xs/\Au K H1 u ys/\R (AZ K t u) H1
theorem IH:dj "zip" = some (.type "zip"):=by decide +kernel
theorem WL (hg:Gl X "zip") (hm:X.mg "zip" = none) (ha:PA X [a,b] ta) (hs:ar [a,b] X.env=[(false,eval a X.env),(false,eval b X.env)]:=by rfl) (hs2:ar [b] X.env=[(false,eval b X.env)]:=by rfl):
  PI X (.Tuple elts kk tp) (.Call (.Name "zip" p) [a,b] [] pos) (WK X.K ta):=by
 intro pins s σ H R I h;refine Call_ (nX I hg hm IH (jc (bD (ha pos pins s σ H _ I h) λus s1 ⟨vs,H1,I1,r1,q1⟩=>?_) (by rw[hs,hs2]) (by rw[hs2];rfl)));obtain⟨t,u,xs,ys,e,hq,hr,q⟩:=q1;subst e;obtain⟨u1,u2,rfl,e1,e2⟩:=sO r1;cases e1;cases e2;obtain⟨its,rv,p1,_⟩:=I1.tuple hq;obtain⟨jts,rw',p2,_⟩:=I1.tuple hr;refine callType_new F.called_zip (by decide) (F.typeCall_zip_2 _ _) (F.newCall_zip_2 _ _) (λobj=>F.args_object_init_3 obj _ _) F.entry_zip_new (WJ its.toArray jts.toArray) ⟨p1,p2,λh' z nz=>?_⟩;obtain⟨TI,TO,i,j,za,f4,fresh,kp⟩:=nz;refine⟨⟨_,za.zp,rfl⟩, ?_⟩;have I2:Inv X pins σ H1 { s1 with heap:=h' }:=I1.kept (t':=s1.toks) kp;refine sv za.zp ⟨z,[z,TI,TO,i,j],_,_,H1,rfl,I2,WH f4 f4.u3 f4.v4,za,λb hb=>I1.fpOk (fresh b hb) (I1.hok.fresh (fresh b hb)),q⟩
def oJ (xs ys:zw):Src:=dO ((xs.zip ys).map λq=>.tup [q.1,q.2])
def nG:zw->Hs->Rs Src
 | [.tup xs,.tup ys],h=>.ok (oJ xs ys) h
 |_,_=>.bad
theorem Bo.zip {μ:Nat->ah}{n:Nat}{H:Hp}{t u:ah}{vs ws:List V}{xs ys:zw}{K:ao}(e:H t=some (.tup vs)) (e':H u=some (.tup ws)) (r:RelDL G μ n H xs vs) (r':RelDL G μ n H ys ws):Bo G μ n H (oJ xs ys) (AZ K t u):=by
 intro k μ2 h2 H2 x2 s2;have f:=x2.im t (.tup vs) trivial e;have f':=x2.im u (.tup ws) trivial e';have g:=RelDL.mono x2 _ _ r;have g':=RelDL.mono x2 _ _ r';have hl:(oJ xs ys).n=min xs.length ys.length:=by simp[oJ,dO]
 constructor
 ·intro hk d hd;have Cm:((xs.zip ys).map λq=>Dv.tup [q.1,q.2])[k]?=some d:=hd;rw[dz]at Cm
  cases q:(xs.zip ys)[k]? with
  |none=>rw[q]at Cm;cases Cm
  |some xy=>
   rw[q]at Cm;cases Cm;obtain⟨qx,qy⟩:=lj.mp q;obtain⟨v,ev,rv⟩:=g.get qx;obtain⟨w',ew,rw'⟩:=g'.get qy;refine⟨⟨vs,ws,v,w',Au.of f,Au.of f',ev,ew⟩,λx H' hy=>?_⟩;obtain⟨pp,v1,w1,rfl,np,rfl,a1,a2⟩:=hy;have b1:=a1 vs (Au.of f);have b2:=a2 ws (Au.of f');rw[ev]at b1;rw[ew]at b2
   cases b1;cases b2
   have sm:Bw H2 (aV H2 pp (.tup [v,w'])):=dQ np;exact⟨sm,pp,_,rfl,eR,RelDL.cons (Af.mono (Ext.same sm) _ _ rv) (RelDL.cons (Af.mono (Ext.same sm) _ _ rw') RelDL.nil)⟩
 ·intro hk _;refine⟨vs,ws,Au.of f,Au.of f', ?_⟩;rw[g.length,g'.length,hk,hl];omega
theorem WM (hg:Gl X "zip") (hm:X.mg "zip" = none) (ha:dY X G E [a,b] ms) (hs:ar [a,b] X.env=[(false,eval a X.env),(false,eval b X.env)]:=by rfl) (hs2:ar [b] X.env=[(false,eval b X.env)]:=by rfl):
  jS X G E (.Tuple elts kk tp) (.Call (.Name "zip" p) [a,b] [] pos) (aQ nG ms):=λhK=>
 PI.imp (WL hg hm (ha hK) hs hs2) λσ H R ⟨μ,ρ,h,rs,s,o⟩=>kK rs s o λμ1 ds h1 vs H1 x1 Ax s1 r1 o1=>by
  unfold nG at o1
  split at o1
  ·rename_i xs ys;obtain⟨v,v',rfl,rv,rv'⟩:=vN r1;obtain⟨t,us,rfl,e,r⟩:=rv;obtain⟨u,ws,rfl,e',r'⟩:=rv';exact⟨t,u,us,ws,rfl,Au.of e,Au.of e',o1.val s1 (Bo.zip e e' r r')⟩
  ·exact o1.elim
end
section
variable{prog:bf}{w:cf}{A:cg}{E:af->ag->Prop}{s:ag}{K:Frag}{e C N:ah}{o:Obj}
end
section
variable{P:bf}{w:cf}{K:ao}{mg:Str->Option af}{base:cx}{N:zu}{qual:Str}{scope:gu}{f:ah}{cdv:af}{cl:List (Str×ah)}{A:cg}{outer:List Env}{s0:ag}{H0:Hp}{E0:XK}{G:Cfg}{E:XK}{k:Nat}
end
section
variable{P:bf}{w:cf}{K:ao}{mg:Str->Option af}{base:cx}{N:zu}{params:oi}{body:br}{scope:gu}{f c':ah}{cl:List (Str×ah)}{A:cg}{outer:List Env}{s:ag}{H:Hp}{E:XK}{G:Cfg}{k:Nat}{μ:Nat->ah}{h:Hs}{ds:zw}
end
section
variable{X:Cx}{pins:List (ah×Obj)}{σ:St}{H:Hp}{s:ag}
end
section
variable{X:Cx}{G:Cfg}{E:XK}{k:Nat}{N:zu}{params:oi}{body:br}{scope:gu}{me:M Dv}{ncl:Nat}{NE:ah}
end
section
variable{P:bf}{w:cf}{K:ao}{mg:Str->Option af}{base:cx}{f:ah}{G:Cfg}{k:Nat}{Nm Nl:zu}{params:oi}{body:br}{scope:gu}{me:M Dv}{ncl:Nat}{NE:ah}{mb:MS}
end
def pO (mg:Str->Option af) (base:cx):Prop:=∃bm ob,mg "__builtins__" = some (.ref bm)/\bm≠builtinsNs/\base.get? bm=some ob/\ob.cls=.type "module"/\ob.dict=some builtinsNs/\ob.data=.plain
section
variable{X:Cx}{G:Cfg}{params:oi}{body:br}{scope:gu}{lpos:Pos}{c P:ah}
end
section
variable{X:Cx}{G:Cfg}{E:XK}{k:Nat}{q x:Str}{p pos lpos:Pos}{params:oi}{body:br}{scope:gu}{c P fr:ah}{fdr:bh}{Nl:zu}{me:M Dv}{n ncl j:Nat}{mb:MS}{caps:zt}
end
section
variable{X:Cx}{G:Cfg}
open Classical in
def isT (H:Hp) (tx:Dt) (u:af):Bool:=decide (∃v t,RelV v u/\Den jP H t v/\bN t tx=true)
open Classical in
theorem II {H:Hp}{tx t:Dt}{u:af}{v:V}(r:RelV v u) (d:Den jP H t v):isT H tx u=bN t tx:=by
 unfold isT
 cases q:bN t tx with
 |true=>exact decide_eq_true ⟨v,t,r,d,q⟩
 |false=>refine decide_eq_false λ⟨v',t',r',d',q'⟩=>?_;have e:=r'.inj r;subst e;rw[Den.inj t' t v' d' d,q]at q';cases q'
theorem tH {H:Hp}{tx:Dt}:∀{ts:List Dt}{vs:List V}{us:List af},Am jP H ts vs->Ag vs us->us.any (isT H tx)=ts.any λt=>bN t tx
 | [],_,_,d,r=>by rw[Am]at d;subst d;cases r;rfl
 |t::ts,_,_,d,r=>by
  rw[Am]at d;obtain⟨v,rr,rfl,d1,d2⟩:=d
  cases r with
  |cons r1 r2=>rw[List.any_cons,List.any_cons,II r1 d1,tH d2 r2]
def vY (K:ao) (neg:Bool):R2:=λx y H Q=>∃a vs ts tx,y=.ref a/\(Ay K H a vs∨Au K H a vs)/\Am jP H ts vs/\Den jP H tx x/\(∀t∈ts,eU t<=cQ/\nod t=true)/\nod tx=true/\Q (.bl (if neg then !(ts.any λt=>bN t tx)else ts.any λt=>bN t tx)) H
theorem vZ {pins:List (ah×Obj)}{σ:St}{H:Hp}{s:ag}{x:V}{v:af}{vs:List V}{its:List af}{ts:List Dt}{tx:Dt}(hu:X.A.units+64<cLine) (I:Inv X pins σ H s) (rx:RelV x v) (r:Ag vs its) (d:Am jP H ts vs) (dx:Den jP H tx x)
  (ht:∀t∈ts,eU t<=cQ/\nod t=true) (nx:nod tx=true):∀y,y∈its.toArray->jy X.A.in1 s y v (isT H tx y):=λy hy=>by
 have hy':y∈its:=by simpa using hy
 obtain⟨j,hj,e⟩:=jo.mp hy';have hl:=r.length;obtain⟨u,eu,ru⟩:=r.get (i:=j) (x:=vs[j]'(by omega)) (ba (by omega));have:u=y:=by rw[ba hj,e]at eu;cases eu;rfl
 subst this;obtain⟨t,et,dt⟩:=d.get (i:=j) (ba (by omega:j<vs.length));obtain⟨h1,h2⟩:=ht t (dg et);rw[II ru dt];exact(GZ I.hok cQ X.A.in1 t tx _ x _ v h1 (by show X.A.units+1+cQ+1<cLine;unfold cQ;omega) h2 nx dt dx ru rx).2
theorem IJ (hu:X.A.units+64<cLine):Ba X (compareOp .In) (vY X.K false):=by
 intro pins s σ H x y v u Q I r1 r2 ⟨a,vs,ts,tx,e,hs,d,dx,ht,nx,q⟩;subst e;cases r2
 rcases hs with hs|hs
 ·obtain⟨its,r,pl,hz⟩:=I.list hs;refine SeqAt.in_listAt (isT H tx) pl.isList (vZ hu I r1 r d dx ht nx) ?_;exact⟨.bl _,H,I,by rw[show its.toArray.any (isT H tx)=its.any (isT H tx)by simp,tH d r];rfl,q⟩
 ·obtain⟨its,r,pl,hz⟩:=I.tuple hs;refine SeqAt.in_tupleAt (isT H tx) pl (vZ hu I r1 r d dx ht nx) ?_;exact⟨.bl _,H,I,by rw[show its.toArray.any (isT H tx)=its.any (isT H tx)by simp,tH d r];rfl,q⟩
theorem IK (hu:X.A.units+64<cLine):Ba X (compareOp .NotIn) (vY X.K true):=by
 intro pins s σ H x y v u Q I r1 r2 ⟨a,vs,ts,tx,e,hs,d,dx,ht,nx,q⟩;subst e;cases r2
 rcases hs with hs|hs
 ·obtain⟨its,r,pl,hz⟩:=I.list hs;refine SeqAt.notIn_listAt (isT H tx) pl.isList (vZ hu I r1 r d dx ht nx) ?_;exact⟨.bl _,H,I,by rw[show its.toArray.any (isT H tx)=its.any (isT H tx)by simp,tH d r];rfl,q⟩
 ·obtain⟨its,r,pl,hz⟩:=I.tuple hs;refine SeqAt.notIn_tupleAt (isT H tx) pl (vZ hu I r1 r d dx ht nx) ?_;exact⟨.bl _,H,I,by rw[show its.toArray.any (isT H tx)=its.any (isT H tx)by simp,tH d r];rfl,q⟩
def jW (scr:zr) (neg:Bool) (x c:Dv) (h:Hs):Rs Dv:=match fP scr c h with
 |some ys=>match bB (cB cQ h) ys,cB cQ h x with
  |some ts,some tx=>.ok (.bl (if neg then !(ts.any λt=>bN t tx)else ts.any λt=>bN t tx)) h
  |_,_=>.bad
 |none=>.bad
theorem IL {μ:Nat->ah}{h:Hs}{H:Hp}(s:Av G μ h H):∀{xs:zw}{vs:List V}{ts:List Dt},RelDL G μ h.length H xs vs->bB (cB cQ h) xs=some ts->Am jP H ts vs/\∀t∈ts,eU t<=cQ/\nod t=true
 | [],_,_,r,e=>by cases e;rw[RelDL]at r;subst r;exact⟨Am.nil,λt ht=>by simp at ht⟩
 |x::xs,_,_,r,e=>by
  rw[RelDL]at r;obtain⟨v,rr,rfl,r1,r2⟩:=r;unfold bB at e
  cases q:cB cQ h x with
  |none=>rw[q]at e;cases e
  |some y=>
   rw[q]at e;dsimp only at e
   cases q2:bB (cB cQ h) xs with
   |none=>rw[q2]at e;cases e
   |some ys=>
    rw[q2]at e;cases e;obtain⟨a1,a2,a3⟩:=qX s _ x v y r1 q;obtain⟨b1,b2⟩:=IL s r2 q2;refine⟨Am.cons a1 b1,λt ht=>?_⟩
    rcases az.mp ht with rfl|ht
    ·exact⟨a2,a3⟩
    ·exact b2 t ht
theorem WN (neg:Bool):fY G (vY G.K neg) (jW G.scr neg):=by
 intro E μ h H x y vx vy Q s rx ry o;unfold jW at o
 cases q:fP G.scr y h with
 |none=>rw[q]at o;exact o.elim
 |some ys=>
  rw[q]at o;dsimp only at o
  split at o
  ·rename_i ts tx e1 e2;obtain⟨a,vs,rfl,hs,r⟩:=AG s ry q;obtain⟨b1,b2⟩:=IL s r e1;obtain⟨c1,c2,c3⟩:=qX s _ x vx tx rx e2;exact⟨a,vs,ts,tx,rfl,hs,b1,c1,b2,c3,o.val s rfl⟩
  ·exact o.elim
end
section
variable{X:Cx}{G:Cfg}
theorem IM {M:wk}{A:cg}{E:af->ag->Prop}{s:ag}{x:V}{u:af}{b:Bool}{Q:Bool->ag->Prop}(r:RelV x u) (q:Q (decide (x=.bl b)) s):wpAny M A (isSame u (.bool b)) Q E s:=by
 cases x with
 |non=>cases r;exact ai q
 |bl c=>
  cases r;refine ai ?_;have:decide (V.bl c=V.bl b)=(ub c==ub b):=by cases c <;> cases b <;> rfl
  rw[this]at q;exact q
 |int i=>obtain⟨t,rfl⟩:=r;exact ai q
 |str i=>obtain⟨t,rfl⟩:=r;exact ai q
 |byt i=>obtain⟨t,rfl⟩:=r;exact ai q
 |flt i=>obtain⟨t,rfl⟩:=r;exact ai q
 |ref a=>cases r;exact ai q
 |ty n=>cases r;exact ai q
def A0 (neg:Bool):R2:=λx y H Q=>∃b,y=.bl b/\Q (.bl (if neg then !decide (x=.bl b)else decide (x=.bl b))) H
theorem WO:Ba X (compareOp .Is) (A0 false):=by intro pins s σ H x y v u Q I rx ry ⟨b,e,q⟩;subst e;cases ry;exact ae (IM rx (ai ⟨.bl _,H,I,rfl,q⟩))
theorem WQ:Ba X (compareOp .IsNot) (A0 true):=by intro pins s σ H x y v u Q I rx ry ⟨b,e,q⟩;subst e;cases ry;exact ae (IM rx (ai ⟨.bl _,H,I,rfl,q⟩))
def wB:Dv->Dv->Option Bool
 | .non,.non=>some true
 |_,.non=>some false
 | .bl a,.bl b=>some (a==b)
 |_,.bl _=>some false
 |_,_=>none
def dP (neg:Bool) (x y:Dv) (h:Hs):Rs Dv:=match wB x y with
 |some b=>.ok (.bl (if neg then !b else b)) h
 |none=>.bad
def A1 (neg:Bool):R2:=λx y H Q=>(y=.non/\Q (.bl (if neg then !decide (x=.non)else decide (x=.non))) H)∨A0 neg x y H Q
theorem IP:Ba X (compareOp .Is) (A1 false):=Ba.or RJ WO
theorem WR:Ba X (compareOp .IsNot) (A1 true):=Ba.or RK WQ
theorem WS {μ:Nat->ah}{n:Nat}{H:Hp}{x:Dv}{v:V}{b:Bool}(r:Af G μ n H x v) (e:wB x .non=some b):decide (v=.non)=b:=by
 cases x with
 |non=>cases e;rw[Af]at r;subst r;rfl
 |bl c=>cases e;rw[Af]at r;subst r;rfl
 |int c=>cases e;rw[Af]at r;subst r;rfl
 |str c=>cases e;rw[Af]at r;subst r;rfl
 |tup c=>cases e;obtain⟨a,vs,rfl,_⟩:=r;rfl
 |ref c=>cases e;obtain⟨_,rfl⟩:=r;rfl
 |edc=>cases e;obtain⟨a,rfl,_⟩:=r;rfl
 |exc c=>cases e;obtain⟨a,o,u,rfl,_⟩:=r;rfl
 |scr=>cases e;obtain⟨rfl,_⟩:=r;rfl
theorem WT {μ:Nat->ah}{n:Nat}{H:Hp}{x:Dv}{v:V}{b c:Bool}(r:Af G μ n H x v) (e:wB x (.bl c)=some b):decide (v=.bl c)=b:=by
 cases x with
 |non=>cases e;rw[Af]at r;subst r;rfl
 |bl d=>cases e;rw[Af]at r;subst r;cases c <;> cases d <;> rfl
 |int c=>cases e;rw[Af]at r;subst r;rfl
 |str c=>cases e;rw[Af]at r;subst r;rfl
 |tup c=>cases e;obtain⟨a,vs,rfl,_⟩:=r;rfl
 |ref c=>cases e;obtain⟨_,rfl⟩:=r;rfl
 |edc=>cases e;obtain⟨a,rfl,_⟩:=r;rfl
 |exc c=>cases e;obtain⟨a,o,u,rfl,_⟩:=r;rfl
 |scr=>cases e;obtain⟨rfl,_⟩:=r;rfl
theorem A2 (neg:Bool):fY G (A1 neg) (dP neg):=by
 intro E μ h H x y vx vy Q s rx ry o;unfold dP at o
 cases q:wB x y with
 |none=>rw[q]at o;exact o.elim
 |some b=>
  rw[q]at o
  cases y with
  |non=>rw[Af]at ry;exact .inl ⟨ry,by rw[WS rx q];exact o.val s rfl⟩
  |bl c=>rw[Af]at ry;exact .inr ⟨c,ry,by rw[WT rx q];exact o.val s rfl⟩
  |_=>cases x <;> cases q
end
def iI (c:M Bool) (body:MS):Nat->MS
 |0=>λ_ _=>.bad
 |f+1=>λρ h=>(c ρ h).thenS λb h1=>if b=true then(match body ρ h1 with
  | .nx ρ2 h2=>iI c body f ρ2 h2
  | .ct ρ2 h2=>iI c body f ρ2 h2
  | .bk ρ2 h2=>.nx ρ2 h2
  |r=>r)else .nx ρ h1
section
variable{X:Cx}{G:Cfg}{E:XK}{c:br}{body:List gf}{mc:M Bool}{mb:MS}{pos:Pos}
theorem IQ (n:Nat) (hp:xj (model X.prog X.w) X.A X.env X.xe) (hc:fO X G E c mc) (hb:lG X G E body mb):iG X G E (.While c body [] pos) (iI mc mb n):=λhK=>PS.imp (QT hp (hc hK) (hb hK)) λD σ H ⟨μ,ρ,h,rs,s,o⟩=>by
 refine⟨λm σ H=>∃μ ρ h,Ao G μ h.length H ρ σ/\Av G μ h H/\Bf G E μ h.length H (iI mc mb m ρ h) D,⟨n,μ,ρ,h,rs,s,o⟩, ?_⟩
 rintro m σ1 H1 ⟨μ1,ρ1,h1,Ax,s1,o1⟩
 cases m with
 |zero=>exact o1.elim
 |succ m=>
  refine HK Ax s1 o1 λμ2 b h2 H2 x2 Cv s2 o2=>?_
  cases b with
  |false=>rw[if_neg (by decide)]at o2 ⊢;exact o2 μ2 H2 σ1 Ext.refl s2 Cv
  |true=>
   rw[if_pos rfl]at o2 ⊢;refine⟨λσ' H'=>∃μ ρ h,Ao G μ h.length H' ρ σ'/\Av G μ h H'/\Bf G E μ h.length H' (iI mc mb m ρ h) D,λσ' H' z=>⟨m,jw m,z⟩,μ2,ρ1,h2,Cv,s2, ?_⟩
   cases q:mb ρ1 h2 with
   |nx ρ3 h3=>rw[q]at o2;exact λμ4 H4 σ4 x4 s4 rs4=>⟨μ4,ρ3,h3,rs4,s4,Bf.ext o2 x4⟩
   |ct ρ3 h3=>rw[q]at o2;exact λμ4 H4 σ4 x4 s4 rs4=>⟨μ4,ρ3,h3,rs4,s4,Bf.ext o2 x4⟩
   |bk ρ3 h3=>rw[q]at o2;exact o2
   |rt d h3=>rw[q]at o2;exact o2
   |ex d h3=>rw[q]at o2;exact o2
   |bad=>rw[q]at o2;exact o2.elim
end
section
variable{X:Cx}{G:Cfg}{E:XK}{e o:br}{mo me:M Dv}{pos apos cpos np p2:Pos}{y:Str}
def wD (x i:Dv) (h:Hs):Rs Dv:=match x,i with
 | .ref j,.int n=>match getL h j with
  |some xs=>match gA xs.length n with
   |some k=>match xs[k]? with
    |some d=>if xs.length<=1000000 then .ok d (h.set j (.lst (xs.eraseIdx k)))else .bad
    |none=>.bad
   |none=>.bad
  |none=>.bad
 |_,_=>.bad
theorem IS {μ:Nat->ah}{n:Nat}{H:Hp}:∀{ds:zw}{vs:List V}(k:Nat),RelDL G μ n H ds vs->RelDL G μ n H (ds.eraseIdx k) (vs.eraseIdx k)
 | [],_,_,h=>by rw[RelDL]at h;subst h;exact RelDL.nil
 |d::ds,_,0,h=>by rw[RelDL]at h;obtain⟨v,r,rfl,h1,h2⟩:=h;exact h2
 |d::ds,_,k+1,h=>by rw[RelDL]at h;obtain⟨v,r,rfl,h1,h2⟩:=h;exact RelDL.cons h1 (IS k h2)
def tI (mo me:M Dv):M Dv:=λρ h=>(mo ρ h).bind λx h1=>if jD x h1=true then(me ρ h1).bind λd h2=>wD x d h2 else .bad
theorem WU (ho:aK X G E (.Name y np) mo) (he:aK X G E e me) (hs:ar [e] X.env=[(false,eval e X.env)]:=by rfl) (hl:(apos.endLine==cpos.line)=true:=by rfl):aK X G E (.Call (.Attribute (.Name y np) "pop" apos) [e] [] cpos) (tI mo me):=λhK=>
 PE.imp (zP qe PySem.F.slot_list_pop PySem.F.type_list_pop TM (ho hK) (lA (he hK) mS hs) rfl (by rw[hs];rfl) hl hs rfl) λσ H Q ⟨μ,ρ,h,rs,s,oo⟩=>fG rs s oo λμ1 x h1 vx H1 x1 Ax s1 r1 o1=>by
  split at o1
  ·rename_i hl;refine⟨AY s1 r1 hl,fG Ax s1 o1 λμ2 d h2 vd H2 x2 Cv s2 r2 o2=>?_⟩
   cases x with
   |ref j=>
    cases d with
    |int n=>
     dsimp only[wD]at o2
     cases q:getL h2 j with
     |none=>rw[q]at o2;exact o2.elim
     |some xs=>
      rw[q]at o2;dsimp only at o2
      cases q2:gA xs.length n with
      |none=>rw[q2]at o2;exact o2.elim
      |some k=>
       rw[q2]at o2;dsimp only at o2
       cases q3:xs[k]? with
       |none=>rw[q3]at o2;exact o2.elim
       |some d'=>
        rw[q3]at o2;dsimp only at o2
        split at o2
        ·rename_i hz;obtain⟨vs,ea,ra⟩:=s2.ob j _ (dG q);obtain⟨_,rfl⟩:=Af.mono x2 _ _ r1;rw[Af]at r2;subst r2;obtain⟨v,ev,rv⟩:=ra.get q3;obtain⟨i1,i2,i3,i4⟩:=zK q2;obtain⟨x3,s3⟩:=s2.write (dG q) (IS k ra);exact⟨_,vs,n,k,v,rfl,rfl,ea,by omega,by omega,by rw[ra.length];exact i1,ev,o2 μ2 _ _ x3 s3 (Af.mono x3 _ _ rv)⟩
        ·exact o2.elim
    |_=>exact o2.elim
   |_=>exact o2.elim
  ·exact o1.elim
def oK (xs:zw) (lo hi:Option Int):zw:=(xs.drop (HT.sIx xs.length 0 lo)).take (HT.sIx xs.length xs.length hi - HT.sIx xs.length 0 lo)
theorem IT {μ:Nat->ah}{n:Nat}{H:Hp}{xs:zw}{vs:List V}(r:RelDL G μ n H xs vs) (lo hi:Option Int):RelDL G μ n H (oK xs lo hi) (nY vs lo hi):=by unfold oK nY;rw[r.length];exact(r.drop _).take _
abbrev MO:=Ev->Hs->Rs (Option Int)
def WV (G:Cfg) (E:XK) (m:MO):TO:=λσ H Q=>∃μ ρ h,Ao G μ h.length H ρ σ/\Av G μ h H/\Out G E μ h.length H (m ρ h) (λ_ _ _ a b=>b=a) Q
def wF (X:Cx) (G:Cfg) (E:XK) (pe:Option br) (m:MO):Prop:=X.K=G.K->PO X pe (WV G E m)
theorem PO.imp {pe:Option br}{t t':TO}(h:PO X pe t) (i:∀σ H Q,t' σ H Q->t σ H Q):PO X pe t':=λpins s σ H Q I q=>h pins s σ H Q I (i σ H Q q)
def oM:MO:=λ_ h=>.ok none h
def A3:Dv->Hs->Rs (Option Int)
 | .int i,h=>.ok (some i) h
 |_,_=>.bad
def oO (m:M Dv):MO:=λρ h=>(m ρ h).bind A3
theorem WW:wF X G E none oM:=λ_=>PO.imp SK λσ H Q ⟨μ,ρ,h,rs,s,oo⟩=>oo.val s rfl
theorem WX (he:aK X G E e me):wF X G E (some e) (oO me):=λhK=>PO.imp (SN (he hK)) λσ H Q ⟨μ,ρ,h,rs,s,oo⟩=>fG rs s oo λμ1 d h1 v H1 x1 Ax s1 r1 o1=>by
 cases d with
 |int i=>exact⟨i,r1,o1.val s1 rfl⟩
 |_=>exact o1.elim
end
section
variable{X:Cx}{G:Cfg}{E:XK}{pos:Pos}
theorem WY:aK X G E (.Dict [] [] pos) (mC .edc):=λ_ pins s σ H Q I ⟨μ,ρ,h,rs,sm,o⟩=>by have hb:sysModules<s.heap.objs.size:=Nat.lt_trans (by decide) (I.mod.glob.keeps I.bk).lt;have hn:=I.hok.fresh (aj s.heap.objs.size);refine wpAny_Dict_empty ⟨.ref s.heap.objs.size,_,I.laid (a:=s.heap.objs.size) (o:=.dK []) (t':=s.toks) (λ_ _ q=>ak _ q) (aj _) ⟨jd _,beq_eq_false_iff_ne.mpr (cy (bg hb)),[],.nil,Heap.DictOf.new s.heap⟩,rfl, ?_⟩;exact o μ _ _ (Ext.same (dQ hn)) (sm.same (dQ hn)) ⟨_,rfl,eR⟩
theorem A4 {x:Str}{i:Int}{t:Tok}(hg:Gl X x) (hm:X.mg x=some (.int i t)) (hd:(x==("__debug__" : Str))=false:=by decide):aK X G E (.Name x pos) (mC (.int i)):=λ_=>PE.imp (PK (v:=.int i) hg hm ⟨t,rfl⟩ hd) λσ H Q ⟨μ,ρ,h,rs,s,o⟩=>o.val s (show Af G μ _ H (.int i) (.int i) from rfl)
def oP:Dv->Hs->Rs Dv
 | .int i,h=>.ok (.int (-i)) h
 |_,_=>.bad
theorem WZ:iX G (rU λi=>.int (-i)) oP:=by
 intro E μ h H x vx Q s r o
 cases x with
 |int i=>rw[Af]at r;subst r;exact⟨i,rfl,o.val s rfl⟩
 |_=>exact o.elim
end
section
variable{X:Cx}{G:Cfg}{E:XK}{tg a b c:br}{p pos:Pos}{ms:M zw }
end
structure Lawful (lp:bf) (w:cf) (K:ao) (mg:Str->Option af) (base:cx) (k:Nat) (fa:ah) (fd:bh) (x:Str) (P a:ah) (ns:zr):Prop where
 ex:∃(G:Cfg) (lawF:zv) (hh:Hs),G.K=K/\G.scr=ns/\G.sa=a/\G.tab=some P/\lawF [.scr] []=.ok (.bl true) hh/\Ak lp w K mg base (bY lp w base) k fa fd [x] (cE G lawF)
theorem IU {lp:bf}{w:cf}{K:ao}{mg mb:Str->Option af}{k:Nat}{fa a c P:ah}{fd:bh}{x:Str}{s₁:ag}{vs:List af}{ns:zr}
  (KX:K.In s₁.heap) (hns:s₁.heap.Ns en mg) (hb:s₁.heap.Ns builtinsNs mb) (hbb:∀x:Str,x ≠ "__name__"->mb x=dj x) (hlim:s₁.heap.NoLimit) (hg:s₁.gens=#[])
  (ha:s₁.heap.get? a=some { cls:=.type "list",data:=.seq vs.toArray }) (hi:ka vs ns) (hl:ns.length<=bz) (hr:Az k callerA)
  (hC:sh s₁.heap c P) (hP:s₁.heap.get? P=some (vv #[])) (hB:pO mg s₁.heap) (hnt:PySem.W.noTabs K=true)
  (F:∀base:cx,K.In base->base.Ns en mg->sh base c P->pO mg base->Lawful lp w K mg base k fa fd x P a ns) (hbind:∀(s:ag) (u:af),yf s fd ⟨[u],[]⟩ [(x,u)]):
  codeAny (model lp w) callerA (.call (.ref fa) ⟨[.ref a],[]⟩) (λr s'=>r=.ok (.ret (.bool true))/\OldK s₁.heap s'.heap/\s'.os=s₁.os/\qw s'.gens) s₁:=by
 have rv:=sP hi;have lenV:=hi.length;have KP:K.lookup P=none:=by
  cases q:K.lookup P with
  |none=>rfl
  |some o=>have e:=KX P o q;rw[hP]at e;cases e;have:=ff.mp hnt (P,vv #[]) (PySem.W.mem_of_lookupK q);exact absurd (show false=true from this) ij
 have aP:a≠P:=λz=>by rw[z,hP]at ha;cases ha
 have core:∀H:Hp,H P=some (.tbl #[])->FzL K H a (ns.map V.int)->Bk lp w H s₁.heap->(∀b,H b≠none->b=a∨b=P)->(H a≠none->K.lookup a=none)->(∀u,H a=some u->∃o xs,u=.frz o (.lst xs))->
   codeAny (model lp w) callerA (.call (.ref fa) ⟨[.ref a],[]⟩) (λr s'=>r=.ok (.ret (.bool true))/\OldK s₁.heap s'.heap/\s'.os=s₁.os/\qw s'.gens) s₁:=by
  intro H hHP hS hok hA hK hF;have base_of:∀{b:ah}{o:Obj},s₁.heap.get? b=some o->H b=none->(kH s₁.heap H).get? b=some o:=λe n=>O8 e n;have none_of:∀{b:ah},b≠a->b≠P->H b=none:=λ{b} h1 h2=>by
   cases q:H b with
   |none=>rfl
   |some u=>exact((hA b (by rw[q];simp)).elim h1 h2).elim
  have noD:∀{b:ah}{o:Obj}{es:Array DictEntry}{ep:Nat},s₁.heap.get? b=some o->o.data=.dict es ep->H b=none:=λ{b o es ep} e d=>none_of (λz=>by
    subst z;rw[ha]at e;cases e;have d':Data.seq vs.toArray _=Data.dict es ep:=d
    cases d') (λz=>by
    subst z;rw[hP]at e;cases e;have d':Data.fields _=Data.dict es ep:=d
    cases d')
  have nsK:∀{b:ah}{m:Str->Option af},s₁.heap.Ns b m->(kH s₁.heap H).Ns b m:=λ{b m} ⟨o,es,ep,e,d,r⟩=>⟨o,es,ep,base_of e (noD e d),d,r⟩
  have hKb:K.In (kH s₁.heap H):=λb o e=>base_of (KX b o e) (by
   cases q:H b with
   |none=>rfl
   |some u=>
    rcases hA b (by rw[q];simp)with z|z
    ·subst z;rw[hK (by rw[q];simp)]at e;cases e
    ·subst z;rw[KP]at e;cases e)
  have hM:Mod K mg (kH s₁.heap H):=⟨hKb,nsK hns,⟨mb,nsK hb,hbb⟩,let ⟨mc,h1,h2⟩:=hlim;⟨mc,nsK h1,h2⟩⟩
  have hCb:sh (kH s₁.heap H) c P:=by obtain⟨o,Bp,file,tf,flags,tg,inF,text,tt,e1,r1,r⟩:=hC;refine⟨o,Bp,file,tf,flags,tg,inF,text,tt,base_of e1 (none_of (λz=>?_) r.2.2.2.2.2.2.2),r1,r⟩;subst z;rw[ha]at e1;cases e1;exact absurd r1 (by intro w;injection w with w;exact absurd w (by decide))
  have hBb:pO mg (kH s₁.heap H):=by
   obtain⟨bm,ob,b1,b2,b3,b4,b5,b6⟩:=hB;refine⟨bm,ob,b1,b2,base_of b3 (none_of (λz=>?_) (λz=>?_)),b4,b5,b6⟩
   ·subst z;rw[ha]at b3;cases b3;exact absurd b4 (by intro w;injection w with w;exact absurd w (by decide))
   ·subst z;rw[hP]at b3;cases b3;cases b4
  have e0:Env0 lp w K mg (kH s₁.heap H) callerA [] s₁ H:=⟨rfl,hM,λb o e=>O9 e,sf (O7 _ _),trivial,λb hb=>absurd (show b∈([]:List ah) from hb) (by simp),hok,.of_eq hg⟩
  obtain⟨G,lawF,hh,g1,g2,g3,g4,hlaw,Fn⟩:=(F _ hKb (nsK hns) hCb hBb).ex;have rd:RelDL G (λ_=>0) 0 H [.scr] [.ref a]:=by refine RelDL.cons ?_ RelDL.nil;rw[Af,g1,g2,g3];exact⟨rfl,hS⟩
  have sm:Av G (λ_=>0) [] H:=⟨λi j h1=>absurd h1 (by simp),λi o q=>by simp at q,λP' e=>by
   rw[g4]at e;cases e;exact⟨#[],hHP,trivial,λpos cv q=>by
    have q':(none:Option af)=some cv:=q
    cases q'⟩⟩
  refine tj (Fn.run callerA [] s₁ H ⟨[.ref a],[]⟩ [.ref a] [.ref a] (λv _=>v=.bl true) (λ_ _ _=>False) hr e0 (hbind s₁ (.ref a)) (.cons rfl .nil) ⟨λ_=>0,[],[.scr],rd,sm, ?_⟩) λr s' h=>?_
  ·rw[hlaw];exact λμ' H' v _ _ r=>r
  cases r with
  |error e=>obtain⟨_,_,_,_,_,_,_,_,_,z⟩:=h;exact z.elim
  |ok fl=>
   cases fl with
   |next=>exact lx h
   |brk=>exact lx h
   |cont=>exact lx h
   |ret u=>
    obtain⟨v,H',os,bare,un,hok',r',q⟩:=h;have q':v=.bl true:=q;subst q';obtain rfl:u=ub true:=r';have kept:∀b o,b≠P->s₁.heap.get? b=some o->s'.heap.get? b=some o:=λb o hbP e=>by
     cases q:H b with
     |none=>exact un.keep b o e q (by intro z;exact absurd (show b∈([]:List ah) from z) (by simp)) (by simp)
     |some u=>
      rcases hA b (by rw[q];simp)with z|z
      ·subst z;obtain⟨ob,xs,rfl⟩:=hF u q;have z2:=un.frzs b ob _ q;obtain⟨e1,_⟩:=hok b _ q;obtain⟨e2,_⟩:=hok' b _ z2;rw[e]at e1;cases e1;exact e2
      ·exact absurd z hbP
    obtain⟨more,hm⟩:=un.tbls P #[] hHP;have gP:s'.heap.get? P=some (vv (#[]++more)):=hok' P _ hm;refine⟨rfl,⟨λb o e=>?_,λb o e=>?_⟩,os,bare⟩
    ·by_cases hb:b=P
     ·subst hb;rw[hP]at e;cases e;exact .inr (.inl ⟨(hC.tab hP).isCodeTable,rfl,#[],more,rfl,gP⟩)
     ·exact .inl (kept b o hb e)
    ·by_cases hb:b=P
     ·subst hb;exact⟨_,gP⟩
     ·exact⟨_,kept b o hb e⟩
 cases hk:K.lookup a with
 |some o=>
  have e:=KX a o hk;rw[ha]at e;cases e;refine core (λb=>if b=P then some (.tbl #[])else none) (if_pos rfl) (.inr ⟨_,vs.toArray,_,hk,rfl,rfl,rfl,by rw[av,lenV];exact hl,by simpa using rv⟩) (λb u z=>?_) (λb z=>?_) (λz=>absurd (if_neg aP) z) (λu z=>?_)
  ·by_cases hb:b=P
   ·have z':=(if_pos hb).symm.trans z;cases z';subst hb;exact hP
   ·have z':=(if_neg hb).symm.trans z;cases z'
  ·by_cases hb:b=P
   ·exact .inr hb
   ·exact absurd (if_neg hb) z
  ·have z':=(if_neg aP).symm.trans z;cases z'
 |none=>
  have ea:(λb=>if b=a then some (HO.frz { cls:=.type "list",data:=.seq vs.toArray } (.lst (ns.map V.int)))else if b=P then some (.tbl #[])else none) a=some (.frz { cls:=.type "list",data:=.seq vs.toArray } (.lst (ns.map V.int))):=if_pos rfl;refine core (λb=>if b=a then some (.frz { cls:=.type "list",data:=.seq vs.toArray } (.lst (ns.map V.int)))else if b=P then some (.tbl #[])else none) ((if_neg (cy aP)).trans (if_pos rfl)) (.inl ⟨{ cls:=.type "list",data:=.seq vs.toArray },ea⟩) (λb u z=>?_) (λb z=>?_) (λ_=>hk) (λu z=>?_)
  ·by_cases hb:b=a
   ·have z':=(if_pos hb).symm.trans z;cases z';subst hb;exact⟨ha,by rw[aw];exact hl,vs,_,rv,ha⟩
   ·have z':=(if_neg hb).symm.trans z
    by_cases hb2:b=P
    ·have z2:=(if_pos hb2).symm.trans z';cases z2;subst hb2;exact hP
    ·have z2:=(if_neg hb2).symm.trans z';cases z2
  ·by_cases hb:b=a
   ·exact .inl hb
   ·by_cases hb2:b=P
    ·exact .inr hb2
    ·exact absurd ((if_neg hb).trans (if_neg hb2)) z
  ·have z':=ea.symm.trans z;cases z';exact⟨_,_,rfl⟩
open L2
theorem jF {α:Type}{P:List α->Prop}(h:∀a,P [a]):∀us:List α,us.length=1->P us
 | [a],_=>h a
theorem iP {α:Type}{P:List α->Prop}(h:∀a b,P [a,b]):∀us:List α,us.length=2->P us
 | [a,b],_=>h a b
theorem oQ {α:Type}{P:List α->Prop}(h:∀a b c,P [a,b,c]):∀us:List α,us.length=3->P us
 | [a,b,c],_=>h a b c
theorem A5 {α:Type}{P:List α->Prop}(h:∀a b c d,P [a,b,c,d]):∀us:List α,us.length=4->P us
 | [a,b,c,d],_=>h a b c d
open PySem.Calls
abbrev Ys {β:Type}(ob:Frag->β) (obE:β):cf->cx->Prop:=λ_ h=>∃K:Frag,K.In h/\noTabs K=true/\ob K=obE
theorem ys_of {β:Type}{ob:Frag->β}{obE:β}:∀(w:cf) (s:ag),ob (sJ s.heap)=obE->Ys ob obE w s.heap:=λ_ s e=>⟨sJ s.heap,uR _ _,uS _ _,e⟩
theorem ys_keeps {β:Type}{ob:Frag->β}{obE:β}:∀(w:cf) (h h':cx),Ys ob obE w h->(∀b o,h.get? b=some o->h'.get? b=some o)->Ys ob obE w h':=λ_ _ _ ⟨K,x,n,e⟩ k=>⟨K,x.keeps k,n,e⟩
theorem z3y {β:Type}{ob:Frag->β}{obE:β}{l:OpenLaw}{n k:Nat}{q:bf}{bK:zu}{XP:(Str->Option af)->cx->Prop}{d:DefRec}{x:Str}
  (hn:l.most=some n) (hn2:n<=bz) (hdf:d.params.defaults=[]) (hr:Az k callerA) (hfind:(recsOf q).find? (λe=>e.name==d.name)=some d)
  (F:∀(K:Frag) (w:cf) (mg:Str->Option af) (fa:ah) (h:cx),ob K=obE->noTabs K=true->K.In h->h.Ns en mg->mg d.name=some (.ref fa)->
   ∃(fd:bh) (c P:ah),(∀(s:ag) (u:af),yf s fd ⟨[u],[]⟩ [(x,u)])/\tabIn K d.name=some (c,P)/\noTabs K=true /\
    ∀(base:cx) (a:ah) (ns:zr),ns.length<=n->K.In base->base.Ns en mg->CodeHd base c P->pO mg base->Lawful l.prog w K mg base k fa fd x P a ns):
  WalkO q bK XP (Ys ob obE) l.row.toRowW d [] (λf vs=>zi f vs):=by
 refine Att.attach_call hn hdf λw s₀ s₁ mg mb fa o pm cd doc a vs ns G Y ho hd hcd hmg hobj hints hlen hg=>?_;obtain⟨K,KX,hnt',hob⟩:=Y;obtain⟨fd,c,P,hb,ht,hnt,hF⟩:=F K w mg fa _ hob hnt' KX G.T.g hmg;obtain⟨hC,hP⟩:=tab_of G.T KX hfind ht;exact IU KX G.T.g G.T.b G.T.builtins G.T.nolimit hg hobj hints (di hlen hn2) hr hC hP G.T.bmain hnt (λbase h1 h2 h3 h4=>hF base a ns hlen h1 h2 h3 h4) hb
theorem W0 {K:Frag}{f c:ah}{st:gf}{n:Str}{ps:zu}(h:cK K f=some (fnOf n n (nZ st) (lC st) (bF st) .none .none .none .none none (.ref c) .none)) (hc:codeIn K (.ref c) n=true) (hk:keepIn K (.ref f)=true)
  (hb:∀(kV doc pm:af) (an:Option ah) (cdv ct:af) (us:List af),us.length=ps.length->bindArgs (fnOf n n (nZ st) (lC st) (bF st) .none kV doc pm an cdv ct) ⟨us,[]⟩=pure (ps.zip us)):
  ∃fd:bh,Bb K n n st f fd/\Binds K fd ps []/\fd.code=.ref c/\∀us:List af,us.length=ps.length->bindArgs fd ⟨us,[]⟩=pure (ps.zip us):=by
 obtain⟨oc,od,kV,dc,pm,an,ct,sl,e⟩:=OT h;exact⟨_,GD e hc hk,(GD e hc hk).binds hb,rfl,hb kV dc pm an (.ref c) ct⟩
theorem walkK2 {β:Type}{ob:Frag->β}{obE:β}{l:OpenLaw}{n k:Nat}{q:bf}{bK:zu}{XP:(Str->Option af)->cx->Prop}{d:DefRec}{x:Str}(nm:Str)
  (hn:l.most=some n) (hn2:n<=bz) (hdf:d.params.defaults=[]) (hr:Az k callerA) (hfind:∃d2:DefRec,(recsOf q).find? (λe=>e.name==nm)=some d2/\d2.name=nm)
  (F:∀(K:Frag) (w:cf) (mg:Str->Option af) (fa:ah) (h:cx),ob K=obE->noTabs K=true->K.In h->h.Ns en mg->mg d.name=some (.ref fa)->
   ∃(fd:bh) (c P:ah),(∀(s:ag) (u:af),yf s fd ⟨[u],[]⟩ [(x,u)])/\tabIn K nm=some (c,P)/\noTabs K=true /\
    ∀(base:cx) (a:ah) (ns:zr),ns.length<=n->K.In base->base.Ns en mg->CodeHd base c P->pO mg base->Lawful l.prog w K mg base k fa fd x P a ns):
  WalkO q bK XP (Ys ob obE) l.row.toRowW d [] (λf vs=>zi f vs):=by
 refine Att.attach_call hn hdf λw s₀ s₁ mg mb fa o pm cd doc a vs ns G Y ho hd hcd hmg hobj hints hlen hg=>?_;obtain⟨K,KX,hnt',hob⟩:=Y;obtain⟨fd,c,P,hb,ht,hnt,hF⟩:=F K w mg fa _ hob hnt' KX G.T.g hmg;obtain⟨d2,hf,hnm⟩:=hfind;have hf':(recsOf q).find? (λe=>e.name==d2.name)=some d2:=by rw[hnm];exact hf
 obtain⟨hC,hP⟩:=tab_of G.T KX hf' (by rw[hnm];exact ht);exact IU KX G.T.g G.T.b G.T.builtins G.T.nolimit hg hobj hints (di hlen hn2) hr hC hP G.T.bmain hnt (λbase h1 h2 h3 h4=>hF base a ns hlen h1 h2 h3 h4) hb
theorem dB {F:List (Frag->Bool)}{K:Frag}(h:F.all (λf=>f K)=true) (i:Nat) {g:Frag->Prop}[∀K,Decidable (g K)] (e:F[i]?=some (λK=>decide (g K)):=by rfl):g K:=dA h i e
theorem cS {K:Frag}{h:cx}{mg:Str->Option af}{n:Str}{v:af}{F:List (Frag->Bool)}(X:K.In h) (G:h.Ns en mg) (hc:F.all (λf=>f K)=true) (i:Nat) (e:F[i]?=some (λK=>decide (nsIn K en n=some (some v))):=by rfl):mg n=some v:=mg_of X G (dA hc i e)
theorem W2 {α:Type}{P:List α->Prop}(h:∀a b c d e,P [a,b,c,d,e]):∀us:List α,us.length=5->P us
 | [a,b,c,d,e],_=>h a b c d e
theorem A6 {env:Env}{x:Str}:∀{l:List (Str×kq)},l.lookup x=some .free->(l.map λ(n,k)=>if(k==de&&env.scope.kind==.function&&env.kindOf n==some .cell)then(n,dh)else(n,k)).lookup x≠some .local
 | [],h=>by simp at h
 |(n,q)::r,h=>by
  rw[ig]at h;rw[df]
  cases e:x==n with
  |true=>
   rw[e]at h;have hq:q=.free:=cw h;subst hq;dsimp only
   split
   ·rw[ig,e];simp
   ·rw[ig,e];simp
  |false=>
   rw[e]at h;dsimp only
   split
   ·rw[ig,e];exact A6 h
   ·rw[ig,e];exact A6 h
theorem W3 {X:Cx}{sc os:gu}{oN N:zu}{cap:List (Option Nat)}(hs:X.env.scope.names=os.names) (hN:X.N=oN) (h1:sc.kind=.function) (h2:∀p∈sc.names,p.2=.local->sc.names.lookup p.1=some .local) (h3:cap.length=N.length)
  (h4:∀p∈sc.names,p.2=.free->os.names.lookup p.1=some .cell∨os.names.lookup p.1=some .free) (h5:∀p∈sc.names,p.2=.free->(p.1,dh)∉sc.names) (h6:∀q∈cap.zip N,∀j∈q.1,oN[j]?=some q.2/\sc.names.lookup q.2=some .free):Bh X sc N cap:=by
 refine⟨h1,h2,h3,λx hx=>?_,λx hx=>h5 _ hx rfl,λi j x e1 e2=>?_⟩
 ·have:=h4 _ hx rfl;rw[<-hs]at this;exact this
 ·have hm:(some j,x)∈cap.zip N:=dg (i:=i) (lj.mpr ⟨e1,e2⟩);obtain⟨a,b⟩:=h6 _ hm j rfl;rw[hN];refine⟨a,jg b, ?_⟩;exact A6 b
def eE:Dv->Dv->Hs->Rs Dv:=iZ λi j=>.int (i - j)
def lJ:Dv->Dv->Hs->Rs Dv:=kM qY λi j=>.int (i*j)
def lK:Dv->Dv->Hs->Rs Dv:=kM qZ λi j=>.int (i % j)
def tJ:Dv->Dv->Hs->Rs Dv:=kM tB λi j=>.int (i ^ j.toNat)
def gM:Dv->Dv->Hs->Rs Dv:=iZ λi j=>.bl (decide (i<=j))
def nI:Dv->Dv->Hs->Rs Dv:=iZ λi j=>.bl (decide (i>j))
def pP:Dv->Dv->Hs->Rs Dv:=iZ λi j=>.bl (decide (i>=j))
section
variable{X:Cx}{G:Cfg}{E:XK}{k:Nat}{a b:br}{ma mb:M Dv}{pos:Pos}
theorem nJ (ha:aK X G E a ma) (hb:aK X G E b mb):aK X G E (.BinOp a .Sub b pos) (m2 eE ma mb):=qV RD UI ha hb
theorem rJ (ha:aK X G E a ma) (hb:aK X G E b mb):aK X G E (.BinOp a .Mult b pos) (m2 lJ ma mb):=qV RE (vM UJ) ha hb
theorem rK (ha:aK X G E a ma) (hb:aK X G E b mb):aK X G E (.BinOp a .Mod b pos) (m2 lK ma mb):=qV RF (vM UK) ha hb
theorem IV (ha:aK X G E a ma) (hb:aK X G E b mb):aK X G E (.BinOp a .Pow b pos) (m2 tJ ma mb):=qV RG (vM UL) ha hb
theorem IW (ha:aK X G E a ma):aK X G E (.UnaryOp .USub a pos) (m1 oP ma):=UD RI WZ ha
theorem IX (ha:aK X G E a ma) (hb:aK X G E b mb):aK X G E (.Compare a [.LtE] [b] pos) (m2 gM ma mb):=mW vA mZ ha hb (iB _)
theorem IY (ha:aK X G E a ma) (hb:aK X G E b mb):aK X G E (.Compare a [.Gt] [b] pos) (m2 nI ma mb):=mW FI mZ ha hb (iB _)
theorem W4 (ha:aK X G E a ma) (hb:aK X G E b mb):aK X G E (.Compare a [.GtE] [b] pos) (m2 pP ma mb):=mW FJ mZ ha hb (iB _)
theorem pQ (g:Good X G E k) (ha:aK X G E a ma) (hb:aK X G E b mb):aK X G E (.Compare a [.Eq] [b] pos) (m2 bE ma mb):=mW (G2 g.room.units) G4 ha hb (iB _)
theorem W5 (g:Good X G E k) (ha:aK X G E a ma) (hb:aK X G E b mb):aK X G E (.Compare a [.NotEq] [b] pos) (m2 dN ma mb):=mW (G3 g.room.units) G5 ha hb (iB _)
theorem W6 (ha:aK X G E a ma) (hb:aK X G E b mb):fO X G E (.Compare a [.LtE] [b] pos) (mB (m2 gM ma mb)):=lE vA mZ ha hb (iB _)
theorem W7 (ha:aK X G E a ma) (hb:aK X G E b mb):fO X G E (.Compare a [.Gt] [b] pos) (mB (m2 nI ma mb)):=lE FI mZ ha hb (iB _)
theorem W8 (ha:aK X G E a ma) (hb:aK X G E b mb):fO X G E (.Compare a [.GtE] [b] pos) (mB (m2 pP ma mb)):=lE FJ mZ ha hb (iB _)
theorem lL (g:Good X G E k) (ha:aK X G E a ma) (hb:aK X G E b mb):fO X G E (.Compare a [.Eq] [b] pos) (mB (m2 bE ma mb)):=lE (G2 g.room.units) G4 ha hb (iB _)
theorem rL (g:Good X G E k) (ha:aK X G E a ma) (hb:aK X G E b mb):fO X G E (.Compare a [.NotEq] [b] pos) (mB (m2 dN ma mb)):=lE (G3 g.room.units) G5 ha hb (iB _)
variable{c:br}{mc:M Dv}
theorem W9 (ha:aK X G E a ma) (hb:aK X G E b mb) (hc:aK X G E c mc) (hm:lastMarks [.LtE,.LtE] [b,c]=false:=by with_unfolding_all rfl):aK X G E (.Compare a [.LtE,.LtE] [b,c] pos) (qW gM gM ma mb mc):=UC vA vA mZ mZ ha hb hc hm
end
def wG:Ty->Option Bool
 | .bl=>some true | .int=>some true | .exc _=>none|_=>some false
def wH:Ty->Option Bool
 | .bl=>some true | .exc _=>none|_=>some false
def gN:Ty->Option Bool
 | .tup=>some true | .exc _=>none|_=>some false
section
variable{K:ao}{cl:Nat->ah}
theorem XA:∀ty bb,wG ty=some bb->vz K (rE cl ty) (.type "int")=some bb:=by intro ty bb h;cases ty <;> first|(cases h;rfl)|cases h
theorem XB:∀ty bb,wH ty=some bb->vz K (rE cl ty) (.type "bool")=some bb:=by intro ty bb h;cases ty <;> first|(cases h;rfl)|cases h
theorem XC:∀ty bb,gN ty=some bb->vz K (rE cl ty) (.type "tuple")=some bb:=by intro ty bb h;cases ty <;> first|(cases h;rfl)|cases h
end
theorem XD:dj "int" = some (.type "int"):=by decide +kernel
theorem XE:dj "bool" = some (.type "bool"):=by decide +kernel
section
variable{X:Cx}{G:Cfg}{E:XK}{a:br}{ma:M Dv}{p q r pos:Pos}
theorem XF (hg:Gl X "isinstance") (hm:X.mg "isinstance" = none) (hg':Gl X "int") (hm':X.mg "int" = none) (ha:aK X G E a ma) (he:ar [a,.Name "int" q] X.env=[(false,eval a X.env),(false,eval (.Name "int" q) X.env)]:=by rfl):
  aK X G E (.Call (.Name "isinstance" p) [a,.Name "int" q] [] pos) (m1 (eX wG) ma):=AV hg hm ha (AU hg' hm' XD) (.inl ⟨_,rfl⟩) rfl XA (λc bb h=>by cases h) he
theorem XG (hg:Gl X "isinstance") (hm:X.mg "isinstance" = none) (hg':Gl X "bool") (hm':X.mg "bool" = none) (ha:aK X G E a ma) (he:ar [a,.Name "bool" q] X.env=[(false,eval a X.env),(false,eval (.Name "bool" q) X.env)]:=by rfl):
  aK X G E (.Call (.Name "isinstance" p) [a,.Name "bool" q] [] pos) (m1 (eX wH) ma):=AV hg hm ha (AU hg' hm' XE) (.inl ⟨_,rfl⟩) rfl XB (λc bb h=>by cases h) he
theorem tK (hg:Gl X "isinstance") (hm:X.mg "isinstance" = none) (hg':Gl X "tuple") (hm':X.mg "tuple" = none) (ha:aK X G E a ma) (he:ar [a,.Name "tuple" q] X.env=[(false,eval a X.env),(false,eval (.Name "tuple" q) X.env)]:=by rfl):
  aK X G E (.Call (.Name "isinstance" p) [a,.Name "tuple" q] [] pos) (m1 (eX gN) ma):=AV hg hm ha (AU hg' hm' G7) (.inl ⟨_,rfl⟩) rfl XC (λc bb h=>by cases h) he
end
section
variable{P:bf}{w:cf}{K:ao}{mg:Str->Option af}{base:cx}{f:ah}{G:Cfg}{k:Nat}{N:zu}
theorem XH {x qual:Str}{st:gf}{fd:bh}{ps:zu}{mb:MS}(Fn:Bb K x qual st f fd) (S:Ae N ps (bF st)) (hK:K=G.K)
  (C':∀(cdv:af) (A:cg) (outer:List Env) (s:ag) (H:Hp) (E₀ E:XK),fd.code=cdv->Good (lB (bY P w base) P w K mg base N qual (bF st) f cdv A outer s H E₀) G E k->lG (lB (bY P w base) P w K mg base N qual (bF st) f cdv A outer s H E₀) G E (lC st) mb):
  Ak P w K mg base (bY P w base) (k+1) f fd ps (cE G (aS ps.length N.length mb)):=by
 obtain⟨oc,od,kV,doc,pm,an,cdv,ct,osl,rfl,lk,hcd⟩:=Fn.ex;have hlen:∀vs H Q E,cE G (aS ps.length N.length mb) vs H Q E->vs.length=ps.length:=λvs H Q E ⟨μ,h,ds,r,sm,o⟩=>by
  rw[r.length];unfold aS at o
  by_cases hd:ds.length=ps.length
  ·exact hd
  ·rw[if_neg hd]at o;exact o.elim
 refine FW lk hcd S hlen λA outer s H vs Q E hr hsp=>?_;have hl:=hlen _ _ _ _ hsp;obtain⟨μ,h,ds,r,sm,o⟩:=hsp;have o':Out G E μ h.length H (bP (mb (dD N.length ds) h)) (Af G) Q:=by unfold aS at o;rw[if_pos (by rw[<-r.length];exact hl)]at o;exact o
 refine⟨_,C' cdv A outer s H E (EB G μ h.length H (mb (dD N.length ds) h)) rfl (HU hr hK (λu H' ⟨c,h',μ',er,x,s',fl⟩=>?_) HW) hK, ?_⟩
 ·rw[er]at o';exact o' μ' H' u x s' fl
 ·refine⟨μ,dD N.length ds,h,HV r N,sm, ?_⟩
  cases q:mb (dD N.length ds) h with
  |bad=>rw[q]at o';exact o'.elim
  |bk ρ h'=>rw[q]at o';exact o'.elim
  |ct ρ h'=>rw[q]at o';exact o'.elim
  |rt d h'=>rw[q]at o';exact o'
  |nx ρ h'=>rw[q]at o';exact λμ' H' σ' x' s' rs'=>o' μ' H' .non x' s' rfl
  |ex c h'=>exact λμ' H' u x' s' fl=>⟨c,h',μ',rfl,x',s',fl⟩
theorem IZ {fd:bh}{ps:zu}:Ak P w K mg base (bY P w base) k f fd ps (cE G (λ_ _=>.bad)):=⟨λvs H Q E ⟨_,_,_,_,_,o⟩=>o.elim,λ_ _ _ _ _ _ _ _ _ _ _ _ _ ⟨_,_,_,_,_,o⟩=>o.elim⟩
end
section
variable{X:Cx}{G:Cfg}{E:XK}{k:Nat}{q x:Str}{p pos lpos:Pos}{params:oi}{body:br}{scope os:gu}{c P fr:ah}{fdr:bh}{Nl oN:zu}{me:M Dv}{n ncl j:Nat}{mb:MS}{caps:zt}
end
def gC:Dv->Bool
 | .scr=>false
 |_=>true
def aO (x y:Dv) (h:Hs):Rs Dv:=if gC x=true then gW [] x y h else .bad
def bR (x:Dv) (h:Hs):Rs Dv:=if gC x=true then hW [] x h else .bad
def kS (x:Dv) (h:Hs):Rs Dv:=if gC x=true then rC [] x h else .bad
def bU (neg:Bool) (x y:Dv) (h:Hs):Rs Dv:=if gC y=true then jW [] neg x y h else .bad
theorem A7 {scr:zr}{x:Dv}{h:Hs}(e:gC x=true):fP [] x h=fP scr x h:=by cases x <;> first|rfl|cases e
section
variable{X:Cx}{G:Cfg}{E:XK}{k:Nat}{a b e:br}{es:List br}{ma mb:M Dv}{aQ:M zw }{p pos:Pos}
theorem XI:fY G (zO G.K) aO:=by
 intro E μ h H x y vx vy Q s rx ry o;unfold aO at o
 split at o
 ·rename_i hx;refine G6 E μ h H x y vx vy Q s rx ry ?_;have e:gW G.scr x y h=gW [] x y h:=by cases x <;> cases y <;> first|rfl|exact absurd hx (by decide)
  rw[e];exact o
 ·exact o.elim
theorem XJ:iX G (HF G.K) bR:=by
 intro E μ h H x vx Q s rx o;unfold bR at o
 split at o
 ·rename_i hx;refine HG E μ h H x vx Q s rx ?_;unfold hW at o ⊢;rw[<-A7 hx];exact o
 ·exact o.elim
theorem XM:iX G (λx H Q=>∃p ys,x=.ref p/\(Ay G.K H p ys∨Au G.K H p ys)/\∀l,H l=none->Q (.ref l) (aV H l (.lst ys))) kS:=by
 intro E μ h H x vx Q s rx o;unfold kS at o
 split at o
 ·rename_i hx;refine UX E μ h H x vx Q s rx ?_;unfold rC at o ⊢;rw[<-A7 hx];exact o
 ·exact o.elim
theorem wI (neg:Bool):fY G (vY G.K neg) (bU neg):=by
 intro E μ h H x y vx vy Q s rx ry o;unfold bU at o
 split at o
 ·rename_i hx;refine WN neg E μ h H x y vx vy Q s rx ry ?_;unfold jW at o ⊢;rw[<-A7 hx];exact o
 ·exact o.elim
theorem dC (ha:aK X G E a ma) (hb:aK X G E b mb) (hs:zM b:=by intro _ _;rfl):aK X G E (.Subscript a b pos) (m2 aO ma mb):=λhK=>PE.imp (F5 (by have:=F9 (X:=X);rw[hK]at this;exact this) (ha hK) (hb hK) hs) λ_ _ _ t=>sW XI t
theorem iQ (hg:Gl X "len") (hm:X.mg "len" = none) (ha:dY X G E (e::es) aQ)
  (he:ar (e::es) X.env=(false,eval e X.env)::ar es X.env:=by rfl) (Bl:(backTo pos (ar es X.env)).any (·.1)=false:=by rfl):aK X G E (.Call (.Name "len" p) (e::es) [] pos) (aD (f1 bR) aQ):=λhK=>
 pG (Aj.imp (GA (X:=X)) λxs H Q ⟨v,h1,a,ys,h2,h3,h4⟩=>⟨a,ys,by rw[h1,h2],by rw[hK];exact h3,h4⟩) (pH XJ) hg hm PySem.boot_len ha (by decide) (by decide) he Bl hK
theorem I0 (hg:Gl X "list") (hm:X.mg "list" = none) (ha:dY X G E (e::es) aQ)
  (he:ar (e::es) X.env=(false,eval e X.env)::ar es X.env:=by rfl) (Bl:(backTo pos (ar es X.env)).any (·.1)=false:=by rfl):aK X G E (.Call (.Name "list" p) (e::es) [] pos) (aD (f1 kS) aQ):=λhK=>
 HE (Aj.imp (S6 (X:=X)) λxs H Q ⟨v,h1,a,ys,h2,h3,h4⟩=>⟨a,ys,by rw[h1,h2],by rw[hK];exact h3,h4⟩) (pH XM) hg hm G8 ha (by decide) (by decide) he Bl hK
end
theorem XN (h l:Hs) (k:Nat):getL (h++l) (h.length+k)=getL l k:=by unfold getL;rw[gw (by omega),show h.length+k - h.length=k by omega]
theorem XO (h l:Hs):getL (h++l) h.length=getL l 0:=XN h l 0
section
variable{n:Nat}
end
section
variable{ma mb mc:M Dv}{aQ:M zw }{t u:M Bool}{f f':Dv->Dv->Hs->Rs Dv}{g:Dv->Hs->Rs Dv}{F:zv}
end
section
variable{mi mi':M Src}{st Cp:dI}{test Cr:M Bool}{inner:MC}{me:M Dv}{cap:List (Option Nat)}
end
section
variable{mo me mi:M Dv}{ml:M zw }{m u:MS}{t:M Bool}
end
def fR:Dv->Option Int
 | .int i=>some i
 |_=>none
theorem oR {G:Cfg}{μ:Nat->ah}{n:Nat}{H:Hp}:∀{xs:zw}{vs:List V}{ns:zr},RelDL G μ n H xs vs->bB fR xs=some ns->vs=ns.map V.int
 | [],_,ns,r,e=>by cases e;rw[RelDL]at r;subst r;rfl
 |x::xs,_,ns,r,e=>by
  rw[RelDL]at r;obtain⟨v,rr,rfl,r1,r2⟩:=r;unfold bB at e
  cases x with
  |int i=>
   dsimp only[fR]at e
   cases q:bB fR xs with
   |none=>rw[q]at e;cases e
   |some zs=>rw[q]at e;cases e;rw[Af]at r1;subst r1;rw[oR r2 q];rfl
  |_=>cases e
section
variable{X:Cx}{G:Cfg}{E:XK}{e a b:br}{es:List br}{ma mb:M Dv}{aQ:M zw }{p pos:Pos}
theorem wJ {ns:zr}{its:List af}(rv:Ag (ns.map V.int) its) {i:Nat}{v:af}(e:its.toArray[i]?=some v):∃t,v=.int (ns.getD i 0) t:=by
 have hl:=rv.length;rw[aw]at hl;have e':its[i]?=some v:=by simpa using e
 have hi:i<its.length:=(bq.mp e').1;have hb:i<ns.length:=by omega
 obtain⟨u,e2,r⟩:=rv.get (i:=i) (x:=V.int ns[i]) (by simp[hb]);rw[e']at e2;cases e2;have hg:ns.getD i 0=ns[i]:=by simp[ow,hb]
 rw[hg];exact r
end
section
variable{X:Cx}{G:Cfg}{E:XK}{a:br}{elts:List br}{kk:Nat}{tp p pos:Pos}{ma:M Dv}{ms:M zw }
end
def fS (g:Int->Int->Bool) (val:Nat->Int):Nat->Int
 |0=>val 0
 |k+1=>if g (val (k+1)) (fS g val k)then val (k+1)else fS g val k
theorem I9 (g:Int->Int->Bool) (val:Nat->Int):∀k,val (argBest (λi j=>g (val i) (val j)) k)=fS g val k
 |0=>rfl
 |k+1=>by
  rw[argBest,fS,<-I9 g val k]
  split <;> rfl
def oS (ns:zr):Int:=fS (λa b=>decide (a>b)) (λi=>ns.getD i 0) (ns.length - 1)
def kT (ns:zr):Int:=fS (λa b=>decide (a<b)) (λi=>ns.getD i 0) (ns.length - 1)
def pR (x:Int):zr->zr
 | []=>[x]
 |y::ys=>if x<=y then x::y::ys else y::pR x ys
def jX:zr->zr
 | []=>[]
 |x::xs=>pR x (jX xs)
theorem oU (x:Int):∀ys,(pR x ys).Perm (x::ys)
 | []=>vc _
 |y::ys=>by
  unfold pR
  split
  ·exact vc _
  ·exact((oU x ys).cons y).trans (ve x y ys)
theorem A8:∀xs,(jX xs).Perm xs
 | []=>vc _
 |x::xs=>(oU x (jX xs)).trans ((A8 xs).cons x)
theorem JA (x:Int):∀ys,ys.Pairwise (·<=·)->(pR x ys).Pairwise (·<=·)
 | [],_=>by simp[pR]
 |y::ys,h=>by
  have h1:=cu.mp h;unfold pR
  split
  ·rename_i hxy;refine cu.mpr ⟨λz hz=>?_,h⟩
   rcases az.mp hz with rfl|hz
   ·exact hxy
   ·exact vf hxy (h1.1 z hz)
  ·rename_i hxy;refine cu.mpr ⟨λz hz=>?_,JA x ys h1.2⟩
   rcases az.mp ((oU x ys).subset hz)with rfl|hz
   ·omega
   ·exact h1.1 z hz
theorem JB:∀xs,(jX xs).Pairwise (·<=·)
 | []=>nt
 |x::xs=>JA x _ (JB xs)
theorem XQ {ms ns:zr}(hp:ms.Perm ns) (hs:ms.Pairwise (·<=·)):ms=jX ns:=List.Perm.eq_of_pairwise (le:=(·<=·)) (λa b _ _ h1 h2=>Int.le_antisymm h1 h2) hs (JB ns) (hp.trans (A8 ns).symm)
theorem XR (xs:zr):(jX xs).length=xs.length:=(A8 xs).length_eq
section
variable{X:Cx}{G:Cfg}{E:XK}{e a b:br}{es:List br}{ma mb:M Dv}{aQ:M zw }{p pos:Pos}
abbrev JC (f:zr->Int):List V->Hp->VK->Prop:=λxs H Q=>∃(p:ah) (ns:zr),xs=[.ref p]/\H p=some (.lst (ns.map V.int))/\0<ns.length/\Q (.int (f ns)) H
theorem XS (hc:X.calm=true):Aj X (.builtin "min") (JC kT):=by
 intro pins s σ H xs us Q I rv ⟨p,ns,e,hp,h0,q⟩;subst e;obtain⟨u,rfl,ru⟩:=iC rv;cases ru;obtain⟨its,rits,pl,hz⟩:=I.list (Ay.of hp);have hn:its.toArray.size=ns.length:=by have:=rits.length;simp at this ⊢;omega
 have lp:=I.hok.lt hp;have ne:p≠s.heap.objs.size:=bg lp;refine call_min_walk (jt pl.isList ⟨_,_,_,_,_,_,_,rfl,uf (A:=X.A.in1) (show X.A.in1.handled=none from I.ok.hd hc) _ p ne its.toArray,⟨⟨_,bc _ rfl,rfl,rfl⟩,pl.isList.push _⟩,λb hb=>?_,by rw[hn];exact h0,CmpOf.ints_lt (λi=>ns.getD i 0) (λi v ev=>wJ rits ev),λv h' tk ev k=>?_⟩)
 ·simp only[cz];simp at hb
  rcases hb with rfl|rfl
  ·exact jw _
  ·exact gz lp
 ·obtain⟨t',rfl⟩:=wJ rits ev;refine⟨.int (kT ns),H,(AX (tk:=tk) I k:Inv X pins σ H { s with heap:=h',toks:=tk }),⟨t', ?_⟩,q⟩;rw[hn];rw[I9 (λa b=>decide (a<b)) (λi=>ns.getD i 0)];rfl
theorem A9:∀{vs:List af}{ns:zr},Ag (ns.map V.int) vs->ka vs ns
 | [],[],_=>.nil
 | [],n::ns,h=>by cases h
 |v::vs,[],h=>by cases h
 |v::vs,n::ns,h=>by
  cases h with
  |cons h1 h2=>obtain⟨t,rfl⟩:=h1;exact .cons _ _ (A9 h2)
theorem sP:∀{vs:List af}{ns:zr},ka vs ns->Ag (ns.map V.int) vs
 |_,_,.nil=>.nil
 |_,_,.cons _ _ h=>.cons ⟨_,rfl⟩ (sP h)
theorem XT:Aj X (.builtin "sorted") (λxs H Q=>∃(p:ah) (ns:zr),xs=[.ref p]/\H p=some (.lst (ns.map V.int))/\ns.length<64/\∀l,H l=none->Q (.ref l) (aV H l (.lst ((jX ns).map V.int)))):=by
 intro pins s σ H xs us Q I rv ⟨p,ns,e,hp,h0,q⟩;subst e;obtain⟨u,rfl,ru⟩:=iC rv;cases ru;obtain⟨its,rits,pl,hz⟩:=I.list (Ay.of hp);have hl:=rits.length;rw[aw]at hl;refine sorted_ints pl.isList (A9 rits) (by omega) λout ns' a1 a2 a3=>?_;obtain⟨ep,he⟩:=sortedAll_at s.heap its out;have hu:=XQ a2 a3;subst hu;refine⟨.ref (s.heap.objs.size+1),_,I.laid (t':=s.toks) (λb u hb=>sortedAll_old hb) (we _) (show Al X.prog X.w _ _ _ (.lst ((jX ns).map V.int)) from⟨?_,out.toList,ep,sP a1, ?_⟩),rfl,q _ (I.hok.fresh (we _))⟩
 ·rw[aw,XR];exact di (gy h0) (by decide)
 ·rw[he]
def oV (f:zr->Int) (x:Dv) (h:Hs):Rs Dv:=match x with
 | .ref i=>match getL h i with
  |some xs=>match bB fR xs with
   |some ns=>if 0<ns.length then .ok (.int (f ns)) h else .bad
   |none=>.bad
  |none=>.bad
 |_=>.bad
theorem XU {f:zr->Int}:iX G (λx H Q=>JC f [x] H Q) (oV f):=by
 intro E μ h H x vx Q s r o
 cases x with
 |ref i=>
  dsimp only[oV]at o
  cases q:getL h i with
  |none=>rw[q]at o;exact o.elim
  |some xs=>
   rw[q]at o;dsimp only at o
   cases q2:bB fR xs with
   |none=>rw[q2]at o;exact o.elim
   |some ns=>
    rw[q2]at o;dsimp only at o
    split at o
    ·rename_i h0;obtain⟨vs,e1,r1⟩:=s.ob i _ (dG q);obtain⟨_,rfl⟩:=r;exact⟨_,ns,rfl,by rw[e1,oR r1 q2],h0,o.val s rfl⟩
    ·exact o.elim
 |_=>exact o.elim
theorem JD:dj "sorted" = some (.builtin "sorted"):=by decide +kernel
theorem XW (hc:X.calm=true) (hg:Gl X "min") (hm:X.mg "min" = none) (ha:dY X G E [e] aQ)
  (he:ar [e] X.env=[(false,eval e X.env)]:=by rfl):aK X G E (.Call (.Name "min" p) [e] [] pos) (aD (f1 (oV kT)) aQ):=
 pG (Aj.imp (XS hc) λxs H Q ⟨v,h1,a,ns,h2,h3⟩=>⟨a,ns,by rw[h1,h2],h3⟩) (pH XU) hg hm HC ha (by decide) (by decide) he rfl
def oW (x:Dv) (h:Hs):Rs Dv:=match x with
 | .ref i=>match getL h i with
  |some xs=>match bB fR xs with
   |some ns=>if ns.length<64 then .ok (.ref h.length) (h++[.lst ((jX ns).map Dv.int)])else .bad
   |none=>.bad
  |none=>.bad
 |_=>.bad
theorem XX:iX G (λx H Q=>∃(p:ah) (ns:zr),x=.ref p/\H p=some (.lst (ns.map V.int))/\ns.length<64/\∀l,H l=none->Q (.ref l) (aV H l (.lst ((jX ns).map V.int)))) oW:=by
 intro E μ h H x vx Q s r o
 cases x with
 |ref i=>
  dsimp only[oW]at o
  cases q:getL h i with
  |none=>rw[q]at o;exact o.elim
  |some xs=>
   rw[q]at o;dsimp only at o
   cases q2:bB fR xs with
   |none=>rw[q2]at o;exact o.elim
   |some ns=>
    rw[q2]at o;dsimp only at o
    split at o
    ·rename_i h0;obtain⟨vs,e1,r1⟩:=s.ob i _ (dG q);obtain⟨_,rfl⟩:=r;exact⟨_,ns,rfl,by rw[e1,oR r1 q2],h0,λl hl=>oC s (rA _) hl o⟩
    ·exact o.elim
 |_=>exact o.elim
end
section
variable{X:Cx}{G:Cfg}{E:XK}{e o a b:br}{es:List br}{ma mb mo me:M Dv}{aQ:M zw }{p pos np apos cpos:Pos}{y:Str}
def BA (_ j:Int):Prop:=0<j/\j<18446744073709551616
theorem XY:Ba X (binaryOp .FloorDiv) (rI BA λi j=>.int (i / j)):=uY λi j _ _ _ _ _ hc q=>by
 have h1:(0:Int)<j:=hc.1;have h2:j<18446744073709551616:=hc.2;refine floordiv_int (by omega) (by rw[Int.fdiv_eq_ediv_of_nonneg i (by omega)];exact q) (.inl (PyProof.noPylong_of_log2 ?_));have h3:j.natAbs≠0:=by omega
 have h4:j.natAbs<2 ^ 64:=by omega
 have:=(Nat.log2_lt h3).mpr h4;omega
def tM (_ j:Int):Bool:=decide (0<j)&&decide (j<18446744073709551616)
theorem XZ (i j:Int) (h:tM i j=true):BA i j:=by unfold tM at h;unfold BA;simpa only[da,decide_eq_true_eq]using h
def tN:Dv->Dv->Hs->Rs Dv:=kM tM λi j=>.int (i / j)
theorem JE (ha:aK X G E a ma) (hb:aK X G E b mb):aK X G E (.BinOp a .FloorDiv b pos) (m2 tN ma mb):=qV XY (vM XZ) ha hb
def JF (K:ao):R2:=λx y H Q=>∃a b ys,x=.ref a/\y=.ref b/\Au K H a []/\Au K H b ys/\Q (.ref b) H
theorem op_catT0:Ba X (binaryOp .Add) (JF X.K):=by
 intro pins s σ H x y v u Q I rx ry ⟨a,b,ys,e1,e2,ha,hb,q⟩;subst e1;subst e2;cases rx;cases ry;obtain⟨its,r1,p1,_⟩:=I.tuple ha;obtain⟨Bn,r2,p2,_⟩:=I.tuple hb;have hn:its=[]:=r1.nil_iff.mpr rfl;subst hn;obtain⟨⟨cls,dd,data,sl⟩,ho,hc,n,hd⟩:=p1;obtain⟨⟨cls2,dd2,data2,sl2⟩,ho2,hc2,n2,hd2⟩:=p2;simp only at hc hd hc2 hd2;subst hc hd hc2 hd2;exact concat_meets ⟨_,ho,rfl⟩ ⟨_,ho2,rfl⟩ xm zg qo qc (pj _ _)
  (tuple_addW0 a b _ _ n n2 dd dd2 sl sl2 rfl) ⟨ho,ho2,⟨.ref b,H,I,rfl,q⟩⟩
def cN (x y:Dv) (h:Hs):Rs Dv:=match x,y with
 | .tup [],.tup ys=>.ok (.tup ys) h
 |x,y=>nA x y h
theorem X0:fY G (λx y H Q=>JF G.K x y H Q∨AE G.K x y H Q) cN:=by
 intro E μ h H x y vx vy Q s rx ry o;unfold cN at o
 split at o
 ·rename_i ys;obtain⟨a,vs,rfl,ea,ra⟩:=rx;obtain⟨b,ws,rfl,eb,rb⟩:=id ry;have:vs=[]:=by rw[RelDL]at ra;exact ra
  subst this;exact .inl ⟨a,b,ws,rfl,rfl,Au.of ea,Au.of eb,o.val s ry⟩
 ·exact .inr (UN E μ h H _ _ vx vy Q s rx ry o)
theorem jY (ha:aK X G E a ma) (hb:aK X G E b mb):aK X G E (.BinOp a .Add b pos) (m2 cN ma mb):=λhK=>qV (op_catT0.or UM) (by rw[hK];exact X0) ha hb hK
def eY (k:Int):zr->Option Nat
 | []=>none
 |n::ns=>if n=k then some 0 else(eY k ns).map (·+1)
theorem tO {k:Int}:∀{ns:zr}{j:Nat},eY k ns=some j->ns[j]?=some k/\∀m,m<j->ns[m]?≠some k
 | [],j,h=>by cases h
 |n::ns,j,h=>by
  unfold eY at h
  split at h
  ·rename_i e;cases h;exact⟨by simp[e],λm hm=>by omega⟩
  ·rename_i e
   cases q:eY k ns with
   |none=>rw[q]at h;cases h
   |some i=>
    rw[q]at h;cases h;obtain⟨h1,h2⟩:=tO q;refine⟨by simpa using h1,λm hm=>?_⟩
    cases m with
    |zero=>simpa using e
    |succ m=>
     have hm':m<i:=by simpa using hm
     simpa using h2 m hm'
theorem JG:∀{vs:List af}{ns:zr}{i:Nat}{n:Int},ka vs ns->ns[i]?=some n->∃t,vs[i]?=some (.int n t)
 |_,_,0,n,.cons m t h,e=>by simp at e;subst e;exact⟨t,rfl⟩
 |_,_,i+1,n,.cons m t h,e=>by simpa using JG h (by simpa using e)
 |_,_,i,n,.nil,e=>by simp at e
theorem X1 (a b:af):argsOk "tuple.index" ⟨[a,b],[]⟩:=by unfold argsOk;kernel_rfl
theorem X2 {prog:bf}{w:cf}{A:cg}{E:af->ag->Prop}{s:ag}{t:ah}{items:Array af}{ns:zr}{k:Int}{u:Tok}{j:Nat}{P:Fin->ag->Prop}(ht:yk s.heap t items) (hi:ka items.toList ns)
  (hj:ns[j]?=some k) (hno:∀m,m<j->ns[m]?≠some k) (h:P (.done (.ret (.int j s.toks))) { s with toks:=s.toks+1 }):wpAny (model prog w) A (kz.«tuple.index» ⟨[.ref t,.int k u],[]⟩) P E s:=by
 show wpAny _ _ (ue (.ref t) >>= _) _ _ s;refine ae (zh ht ?_);refine ae (ai ?_);refine ae (ai ?_);show wpAny _ _ (forIn [:min items.size items.size] (none,()) _ >>= _) _ _ s;rw[uz,Std.Legacy.Range.forIn_eq_forIn_range'];have Br:items.size=ns.length:=by have:=hi.length;simpa using this
 have hjn:j<ns.length:=(bq.mp hj).1;refine ae (om _ (λrest b s'=>b=(none,())/\s'=s/\∃i,i<=j/\rest=zb i (items.size - i) 1) _ ?_ ?_ _ _ ⟨rfl,rfl,0,jd _, ?_⟩)
 ·rintro x rest b s' ⟨rfl,rfl,i,Bx,hr⟩
  have hlt:i<items.size:=by omega
  obtain⟨z,hz⟩:∃z,items.size - i=z+1:=⟨items.size - i - 1,by omega⟩
  rw[hz,List.range'_succ]at hr;injection hr with hx hrest;subst hx;obtain⟨n,hn⟩:∃n,ns[x]?=some n:=⟨ns[x]'(by omega),by simp[show x<ns.length by omega]⟩
  obtain⟨tt,ht2⟩:=JG hi hn;have ht3:items[x]?=some (.int n tt):=by simpa using ht2
  rw[ht3];dsimp only;refine ae (xi ?_)
  by_cases hxj:x=j
  ·subst hxj;have hnk:n=k:=by rw[hj]at hn;cases hn;rfl
   subst hnk;rw[if_pos (by simp)];refine ae (ae (wpAny_mkInt ?_));exact ai (ai (ai h))
  ·have hne:n≠k:=λe=>hno x (by omega) (by rw[hn,e]);rw[if_neg (by simpa using hne)];exact ai ⟨rfl,rfl,x+1,by omega,by rw[hrest];congr 1;omega⟩
 ·rintro b s' ⟨rfl,rfl,i,Bx,hr⟩
  exfalso
  have hlt:i<items.size:=by omega
  have:=congrArg nr hr;simp at this;omega
 ·simp[Std.Legacy.Range.size]
theorem X3:zN X "tuple.index" (λx xs H Q=>∃(a:ah) (ns:zr) (k:Int) (j:Nat),x=.ref a/\xs=[.int k]/\H a=some (.tup (ns.map V.int))/\eY k ns=some j/\Q (.int j) H):=by intro pins s σ H x xs v us Q I rx rv ⟨a,ns,k,j,e1,e2,ha,hj,q⟩;subst e1;subst e2;cases rx;obtain⟨u,rfl,ru⟩:=iC rv;obtain⟨t,rfl⟩:=ru;obtain⟨its,rits,p1,_⟩:=I.tuple (Au.of ha);obtain⟨h1,h2⟩:=tO hj;refine ed wy p1.typeIs PySem.F.entry_tuple_index (X2 p1 (A9 rits) h1 h2 ⟨_,rfl, ?_⟩) (X1 _ _);exact⟨.int j,H,I.tok _,⟨_,rfl⟩,q⟩
theorem X4 {id:String}{name:Str}{r:V->List V->Hp->VK->Prop}{to:TE}{t:TA}(slot:Slot "tuple" name id) (hty:typeOf (.builtin id)=pure (.type "method_descriptor")) (hm:zN X id r) (ho:PE X o to) (ha:PA X [e] t)
  (hbase:attributeBase o name X.env (eval o X.env)=eval o X.env)
  (hfew:((backTo cpos (ar [e] X.env)).all (λx=>!x.1)&&(backToKw cpos (keywordEach [] X.env)).all (λx=>x.1.isSome)
   && decide ([e].length+([]:List Keyword).length+(if([]:List Keyword).isEmpty then 0 else 1)<30))=true)
  (hline:(apos.endLine==cpos.line)=true) (hs:ar [e] X.env=[(false,eval e X.env)]):
  PE X (.Call (.Attribute o name apos) [e] [] cpos) (λσ H Q=>to σ H λx H1=>(∃a xs,x=.ref a/\H1 a=some (.tup xs))/\t σ H1 λxs H2=>r x xs H2 Q):=by
 intro pins s σ H Q I h;refine wpAny_Call_method_late hbase hfew hline rfl (bD (ho pins s σ H _ I h) λv s1 ⟨x,H1,I1,r1,⟨a,ys,ex,ea⟩,q1⟩=>?_);subst ex;cases r1;obtain⟨_,its,rits,ob,g1,g2,g3,n,g4⟩:=(show Al X.prog X.w H1 s1.heap a (.tup ys) from I1.hok a _ ea)
 refine⟨"tuple",id,PySem.F.plainAttrs_tuple,slot,hty,⟨ob,g1,g2⟩,λb eb=>?_, ?_⟩
 ·cases eb;exact⟨ob,g1,g3⟩
 ·have hA:=ha cpos pins s1 σ H1 _ I1 q1;rw[hs]at hA ⊢;exact yb (by rfl) (sk (bD hA λus s2 ⟨vs,H2,I2,r2,q2⟩=>hm pins s2 σ H2 (.ref a) vs (.ref a) us Q I2 rfl r2 q2))
def BB (x i:Dv) (h:Hs):Rs Dv:=match x,i with
 | .tup xs,.int k=>match bB fR xs with
  |some ns=>match eY k ns with
   |some j=>.ok (.int j) h
   |none=>.bad
  |none=>.bad
 |_,_=>.bad
def JH (x:Dv):Bool:=match x with
 | .tup _=>true
 |_=>false
def jG (mo me:M Dv):M Dv:=λρ h=>(mo ρ h).bind λx h1=>if JH x=true then(me ρ h1).bind λd h2=>BB x d h2 else .bad
theorem BC (ho:aK X G E (.Name y np) mo) (he:aK X G E e me) (hs:ar [e] X.env=[(false,eval e X.env)]:=by rfl) (hl:(apos.endLine==cpos.line)=true:=by rfl):aK X G E (.Call (.Attribute (.Name y np) "index" apos) [e] [] cpos) (jG mo me):=λhK=>
 PE.imp (X4 wy PySem.F.type_tuple_index X3 (ho hK) (lA (he hK) mS hs) rfl (by rw[hs];rfl) hl hs) λσ H Q ⟨μ,ρ,h,rs,s,oo⟩=>fG rs s oo λμ1 x h1 vx H1 x1 Ax s1 r1 o1=>by
  split at o1
  ·rename_i hl
   cases x with
   |tup xs=>
    obtain⟨a,vs,rfl,ea,ra⟩:=id r1;refine⟨⟨a,vs,rfl,ea⟩,fG Ax s1 o1 λμ2 d h2 vd H2 x2 Cv s2 r2 o2=>?_⟩
    cases d with
    |int k=>
     dsimp only[BB]at o2
     cases q:bB fR xs with
     |none=>rw[q]at o2;exact o2.elim
     |some ns=>
      rw[q]at o2;dsimp only at o2
      cases q2:eY k ns with
      |none=>rw[q2]at o2;exact o2.elim
      |some j=>rw[q2]at o2;obtain⟨a',Bp,e',ea',ra'⟩:=Af.mono x2 _ _ r1;cases e';rw[Af]at r2;subst r2;exact⟨_,ns,k,j,rfl,rfl,by rw[ea',oR ra' q],q2,o2.val s2 rfl⟩
    |_=>exact o2.elim
   |_=>cases hl
  ·exact o1.elim
end
section
variable{X:Cx}{G:Cfg}{E:XK}{k:Nat}{a b:br}{ma mb mo:M Dv}{pos:Pos}
theorem JI (g:Good X G E k) (ha:aK X G E a ma) (hb:aK X G E b mb) (hm:lastMarks [.In] [b]=false:=by with_unfolding_all rfl):aK X G E (.Compare a [.In] [b] pos) (m2 (bU false) ma mb):=λhK=>mW (IJ g.room.units) (by rw[hK];exact wI false) ha hb hm hK
theorem JJ (g:Good X G E k) (ha:aK X G E a ma) (hb:aK X G E b mb) (hm:lastMarks [.NotIn] [b]=false:=by with_unfolding_all rfl):aK X G E (.Compare a [.NotIn] [b] pos) (m2 (bU true) ma mb):=λhK=>mW (IK g.room.units) (by rw[hK];exact wI true) ha hb hm hK
theorem JK (g:Good X G E k) (ha:aK X G E a ma) (hb:aK X G E b mb) (hm:lastMarks [.In] [b]=false:=by with_unfolding_all rfl):fO X G E (.Compare a [.In] [b] pos) (mB (m2 (bU false) ma mb)):=λhK=>lE (IJ g.room.units) (by rw[hK];exact wI false) ha hb hm hK
theorem rM (g:Good X G E k) (ha:aK X G E a ma) (hb:aK X G E b mb) (hm:lastMarks [.NotIn] [b]=false:=by with_unfolding_all rfl):fO X G E (.Compare a [.NotIn] [b] pos) (mB (m2 (bU true) ma mb)):=λhK=>lE (IK g.room.units) (by rw[hK];exact wI true) ha hb hm hK
theorem JL (ha:aK X G E a ma) (hb:aK X G E b mb):aK X G E (.Compare a [.Is] [b] pos) (m2 (dP false) ma mb):=mW IP (A2 false) ha hb (iB _)
theorem JM (ha:aK X G E a ma) (hb:aK X G E b mb):fO X G E (.Compare a [.Is] [b] pos) (mB (m2 (dP false) ma mb)):=lE IP (A2 false) ha hb (iB _)
theorem wK (ha:aK X G E a ma) (hb:aK X G E b mb):fO X G E (.Compare a [.IsNot] [b] pos) (mB (m2 (dP true) ma mb)):=lE WR (A2 true) ha hb (iB _)
end
theorem nK {H:Hs}{n:Nat}{xs ys:zw}(e:getL H n=some xs):getL (H.set n (.lst ys)) n=some ys:=by have h:=(bq.mp (dG e)).1;unfold getL;rw[gv h]
theorem rN {H:Hs}{n j:Nat}{o:Ob}(h:n≠j):getL (H.set n o) j=getL H j:=by unfold getL;rw[gr h]
theorem pS {H:Hs}{n:Nat}{xs:zw}(e:getL H n=some xs):n<H.length:=(bq.mp (dG e)).1
theorem lM {H l:Hs}{n:Nat}{xs:zw}(e:getL H n=some xs):getL (H++l) n=some xs:=by unfold getL;rw[fi (pS e),dG e]
structure Fr (S:zt) (H H':Hs):Prop where
 le:H.length<=H'.length
 at_:∀j,j<H.length->j∉S->H'[j]?=H[j]?
theorem Fr.refl {S:zt}{H:Hs}:Fr S H H:=⟨aj _,λ_ _ _=>rfl⟩
theorem Fr.trans {S T:zt}{H H1 H2:Hs}(a:Fr S H H1) (b:Fr T H1 H2) (h:∀j∈T,j∈S∨H.length<=j):Fr S H H2:=⟨di a.le b.le,λj hj hS=>(b.at_ j (ay hj a.le) λz=>(h j z).elim hS λw=>absurd (ay hj w) (gn _)).trans (a.at_ j hj hS)⟩
theorem Fr.app {S:zt}{H l:Hs}:Fr S H (H++l):=⟨by simp,λj hj _=>fi hj⟩
theorem Fr.set {H:Hs}{n:Nat}{o:Ob}:Fr [n] H (H.set n o):=⟨by simp,λj hj hS=>gr (by simpa using cy (by simpa using hS))⟩
theorem Fr.getL {S:zt}{H H':Hs}{j:Nat}{xs:zw}(a:Fr S H H') (e:getL H j=some xs) (h:j∉S):getL H' j=some xs:=by unfold L2.Mr.getL at e ⊢;rw[a.at_ j (pS e) h];exact e
theorem Fr.mono {S T:zt}{H H':Hs}(a:Fr S H H') (h:∀j∈S,j∈T):Fr T H H':=⟨a.le,λj hj hT=>a.at_ j hj λz=>hT (h j z)⟩
theorem bH {m u:MS}{ρ ρ1:Ev}{h h1:Hs}(e:m ρ h=.nx ρ1 h1):aI m u ρ h=u ρ1 h1:=by unfold aI;rw[e]
theorem nL {mi:M Src}{st:dI}{b:MS}{ρ:Ev}{h h1:Hs}{src:Src}(e:mi ρ h=.ok src h1):dR mi st b ρ h=eC src st b src.n 0 ρ h1:=by unfold dR;rw[e];rfl
theorem kU {c:M Bool}{t u:MS}{ρ:Ev}{h h1:Hs}(e:c ρ h=.ok true h1):aX c t u ρ h=t ρ h1:=by unfold aX;rw[e];rfl
theorem gD {c:M Bool}{t u:MS}{ρ:Ev}{h h1:Hs}(e:c ρ h=.ok false h1):aX c t u ρ h=u ρ h1:=by unfold aX;rw[e];rfl
theorem oX {src:Src}{sg:dI}{b:MS}{f k:Nat}{ρ ρ1 ρ2:Ev}{H H2:Hs}{d:Dv}(hg:src.get k H=some d) (hs:sg d ρ=some ρ1) (hb:b ρ1 H=.nx ρ2 H2):eC src sg b (f+1) k ρ H=eC src sg b f (k+1) ρ2 H2:=by simp[eC,hg,hs,hb]
theorem JN {src:Src}{sg:dI}{b:MS}(P:Nat->Ev->Hs->Prop)
  (step:∀k ρ H,k<src.n->P k ρ H->∃d ρ1 ρ2 H2,src.get k H=some d/\sg d ρ=some ρ1/\b ρ1 H=.nx ρ2 H2/\P (k+1) ρ2 H2)
  (fin:∀ρ H,P src.n ρ H->src.fin H=true):∀(f k:Nat) (ρ:Ev) (H:Hs),f+k=src.n->P k ρ H->∃ρ' H',eC src sg b f k ρ H=.nx ρ' H'/\P src.n ρ' H'
 |0,k,ρ,H,h,p=>by
  have hk:k=src.n:=by omega
  subst hk;exact⟨ρ,H,by simp[eC,fin ρ H p],p⟩
 |f+1,k,ρ,H,h,p=>by obtain⟨d,ρ1,ρ2,H2,e1,e2,e3,p2⟩:=step k ρ H (by omega) p;rw[oX e1 e2 e3];exact JN P step fin f (k+1) ρ2 H2 (by omega) p2
theorem tP {mi:M Src}{src:Src}{sg:dI}{b:MS}{ρ:Ev}{H H1:Hs}(hi:mi ρ H=.ok src H1) (P:Nat->Ev->Hs->Prop)
  (step:∀k ρ H,k<src.n->P k ρ H->∃d ρ1 ρ2 H2,src.get k H=some d/\sg d ρ=some ρ1/\b ρ1 H=.nx ρ2 H2/\P (k+1) ρ2 H2)
  (fin:∀ρ H,P src.n ρ H->src.fin H=true) (p:P 0 ρ H1):∃ρ' H',dR mi sg b ρ H=.nx ρ' H'/\P src.n ρ' H':=by
 rw[nL hi];exact JN P step fin src.n 0 ρ H1 (by omega) p
theorem BD {src:Src}{sg:dI}{t:M Bool}{m:MC}(P:Nat->Ev->Hs->zw->Prop)
  (step:∀k ρ H acc,k<src.n->P k ρ H acc->∃d ρ1,src.get k H=some d/\sg d ρ=some ρ1 /\
   ((∃H2,t ρ1 H=.ok false H2/\P (k+1) ρ1 H2 acc)∨∃H2 ρ3 acc3 H3,t ρ1 H=.ok true H2/\m ρ1 H2 acc=.ok (ρ3,acc3) H3/\P (k+1) ρ3 H3 acc3))
  (fin:∀ρ H acc,P src.n ρ H acc->src.fin H=true):∀(f k:Nat) (ρ:Ev) (H:Hs) (acc:zw),f+k=src.n->P k ρ H acc->∃ρ' H' Ce,gK src sg t m f k ρ H acc=.ok (ρ',Ce) H'/\P src.n ρ' H' Ce
 |0,k,ρ,H,acc,h,p=>by
  have hk:k=src.n:=by omega
  subst hk;exact⟨ρ,H,acc,by simp[gK,fin ρ H acc p],p⟩
 |f+1,k,ρ,H,acc,h,p=>by
  obtain⟨d,ρ1,e1,e2,e3⟩:=step k ρ H acc (by omega) p
  rcases e3 with⟨H2,e3,p2⟩|⟨H2,ρ3,acc3,H3,e3,e4,p2⟩
  ·obtain⟨ρ',H',Ce,e5,p5⟩:=BD P step fin f (k+1) ρ1 H2 acc (by omega) p2;exact⟨ρ',H',Ce,by simp[gK,e1,e2,e3,e5],p5⟩
  ·obtain⟨ρ',H',Ce,e5,p5⟩:=BD P step fin f (k+1) ρ3 H3 acc3 (by omega) p2;exact⟨ρ',H',Ce,by simp[gK,e1,e2,e3,e4,e5],p5⟩
theorem tQ (k:Nat) (H:Hs):∀ns:zr,bB (cB (k+1) H) (ns.map Dv.int)=some (ns.map Dt.int)
 | []=>rfl
 |n::ns=>by rw[df,bB,tQ k H ns];rfl
def aH (p:Int×Int):Dv:=.tup [.int p.1,.int p.2]
def hZ (p:Int×Int):Dt:=.tup [.int p.1,.int p.2]
theorem BE (k:Nat) (H:Hs) (p:Int×Int):cB (k+2) H (aH p)=some (hZ p):=rfl
theorem wL (k:Nat) (H:Hs):∀ps:dn,bB (cB (k+2) H) (ps.map aH)=some (ps.map hZ)
 | []=>rfl
 |p::ps=>by rw[df,bB,wL k H ps,BE];rfl
theorem BF (p q:Int×Int):bN (hZ p) (hZ q)=decide (p=q):=by obtain⟨a,b⟩:=p;obtain⟨c,d⟩:=q;simp only[hZ,bN,gB,Bool.and_true];rw[dy];simp
theorem BG (neg:Bool) (H:Hs) (p:Int×Int) (ps:dn):bU neg (aH p) (.tup (ps.map aH)) H=.ok (.bl (if neg then !decide (p∈ps)else decide (p∈ps))) H:=by
 have e:(ps.map hZ).any (λt=>bN t (hZ p))=decide (p∈ps):=by
  rw[dy];simp only[rh,lg,sy,BF,decide_eq_true_eq];constructor
  ·rintro ⟨q,hq,rfl⟩;exact hq
  ·intro h;exact⟨p,h,rfl⟩
 have h1:bB (cB cQ H) (ps.map aH)=some (ps.map hZ):=wL 28 H ps;have h2:cB cQ H (aH p)=some (hZ p):=BE 28 H p;show jW [] neg (aH p) (.tup (ps.map aH)) H=_;simp only[jW,fP,h1,h2,e]
theorem tR (neg:Bool) (H:Hs) (x:Int) (ns:zr):bU neg (.int x) (.tup (ns.map Dv.int)) H=.ok (.bl (if neg then !decide (x∈ns)else decide (x∈ns))) H:=by
 have e:(ns.map Dt.int).any (λt=>bN t (.int x))=decide (x∈ns):=by
  rw[dy];simp only[rh,lg,sy,bN,decide_eq_true_eq,beq_iff_eq];constructor
  ·rintro ⟨q,hq,rfl⟩;exact hq
  ·intro h;exact⟨x,h,rfl⟩
 have h1:bB (cB cQ H) (ns.map Dv.int)=some (ns.map Dt.int):=tQ 29 H ns;have h2:cB cQ H (.int x)=some (.int x):=rfl;show jW [] neg (.int x) (.tup (ns.map Dv.int)) H=_;simp only[jW,fP,h1,h2,e]
section
variable{X:Cx}{G:Cfg}{E:XK}{elt tg iter Cg Aq:br}{ifs Bc:List br}{sc:gu}{ps px pos:Pos}{N:zu}{cap:List (Option Nat)}{mi mi':M Src}{st Cp:dI}{test Cr:M Bool}{me:M Dv}{i:Nat}{x:Str}
theorem X5 (hN:X.N.Nodup) (hi1:X.N[i]?=some x) (hc:X.calm=true) (C:Bh X sc N cap) (hi:jS X G E tg iter mi) (hg:∀s H ex,kP (cY X sc N s H ex) G tg st) (Dh:∀s H ex,pJ (cY X sc N s H ex) G ifs test)
  (hi':∀s H ex,jS (cY X sc N s H ex) G E0 Cg Aq mi') (hg':∀s H ex,kP (cY X sc N s H ex) G Cg Cp) (htt':∀s H ex,pJ (cY X sc N s H ex) G Bc Cr) (hel:∀s H ex,aK (cY X sc N s H ex) G E0 elt me)
  (hx:X.env.scope.names.lookup x=some .local:=by rfl) (hsw:swapsWith (.ListComp elt [⟨tg,iter,ifs,0⟩,⟨Cg,Aq,Bc,0⟩] sc ps) (some (.Name x px)) pos.line X.env=pure true:=by rfl)
  (hs:∀x,foldedSetIterable iter X.env x=pure x:=by intro _;rfl) (hs':∀s H ex x,foldedSetIterable Aq (cY X sc N s H ex).env x=pure x:=by intro _ _ _ _;rfl):
  iG X G E (.Assign [.Name x px] (.ListComp elt [⟨tg,iter,ifs,0⟩,⟨Cg,Aq,Bc,0⟩] sc ps) pos) (aM (bM (bJ mi cap st test (fI mi' Cp Cr (bA me)))) (aF i)):=λhK=>
 PS.imp (T5 hsw hN hi1 hx hc C rfl (inner:=λD env=>qU Aq (.ListComp elt [⟨tg,iter,ifs,0⟩,⟨Cg,Aq,Bc,0⟩] sc ps) 1 D env) (λit D env=>GO elt tg iter Cg Aq ifs Bc sc ps (.ref it) D env) (hi hK) (λs H ex=>hg s H ex hK) (λs H ex=>Dh s H ex hK)
  (λs H ex D=>Dl.imp (GS (X:=cY X sc N s H ex) (D:=D) (gens:=[⟨tg,iter,ifs,0⟩,⟨Cg,Aq,Bc,0⟩]) (d:=1) rfl hc rfl (λit=>GP elt tg iter Cg Aq ifs Bc sc ps (.ref it) D _) (hi' s H ex hK) (hg' s H ex hK) (htt' s H ex hK) (Dl.imp (zU (hel s H ex hK)) λ_ _ _ _ t=>AL t) (hs' s H ex)) λ_ _ _ _ t=>HM t) hs) λD σ H ⟨μ,ρ,h,rs,s,o⟩=>
  AM (HN (oF rs s o λμ1 d h1 v H1 x1 Ax s1 r1 o1=>o1 μ1 H1 _ Ext.refl s1 (Ax.set i r1)))
end
end L2.Mr
namespace SoM
open PySem PySem.W PyProof.Rows
variable{n:Nat}{f:Nat->Nat}{s:ag}
def nM (n:Nat) (f:Nat->Nat) (i j:Nat) (C:Bool->ag->Prop) (s:ag):Prop:=i<n/\j<n/\C (decide (f i<f j)) s
def F (f:Nat->Nat) (p:Array Nat) (k:Nat):Nat:=f (p.getD k 0)
def Ent (n:Nat) (p:Array Nat):Prop:=p.size=n/\p.toList.Perm (bj n)
theorem Ent.lt {p:Array Nat}(e:Ent n p) (hn:0<n) (k:Nat):p.getD k 0<n:=by
 by_cases h:k<p.size
 ·have:p.getD k 0=p[k]:=by simp[jz,h]
  rw[this];have hm:p[k]∈p.toList:=by simp
  exact bu.mp (e.2.mem_iff.mp hm)
 ·have:p.getD k 0=0:=by simp[jz,h]
  omega
theorem tS {p q:Array Nat}{i j:Nat}(h:p[i]?=q[j]?):F f p i=F f q j:=by unfold F;simp only[Array.getD_eq_getD_getElem?,h]
theorem Ent.mirror {p:Array Nat}(e:Ent n p) (i j d:Nat):Ent n (mirror p i j d):=⟨(mirror_size ..).trans e.1,((wz.mp (mirror_perm p i j d))).trans e.2⟩
theorem Ent.bubble {p:Array Nat}(e:Ent n p) (k d:Nat):Ent n (bubble p k d):=⟨(bubble_size ..).trans e.1,((wz.mp (bubble_perm p k d))).trans e.2⟩
theorem Ent.rev {p:Array Nat}(e:Ent n p) (i j:Nat):Ent n (kas_rev p i j):=e.mirror _ _ _
theorem tT {p:Array Nat}{i j:Nat}(hj:j<=p.size) (k:Nat):F f (kas_rev p i j) k=if i<=k/\k<j then F f p (i+j - 1 - k)else F f p k:=by
 have e:=getElem?_mirror_all (i:=i) hj k
 by_cases h:i<=k/\k<j
 ·rw[if_pos h]at e ⊢;exact tS e
 ·rw[if_neg h]at e ⊢;exact tS e
theorem JO {p:Array Nat}{k d:Nat}(hs:k<p.size) (hd:d<=k) (i:Nat):F f (bubble p k d) i=if i=k - d then F f p k else if k - d<i/\i<=k then F f p (i - 1)else F f p i:=by
 have e:=getElem?_bubble hs d hd i
 by_cases h1:i=k - d
 ·rw[if_pos h1]at e ⊢;exact tS e
 ·rw[if_neg h1]at e ⊢
  by_cases h2:k - d<i/\i<=k
  ·rw[if_pos h2]at e ⊢;exact tS e
  ·rw[if_neg h2]at e ⊢;exact tS e
def Inc (f:Nat->Nat) (p:Array Nat) (m:Nat):Prop:=∀i j,i<=j->j<m->F f p i<=F f p j
def Dec (f:Nat->Nat) (p:Array Nat) (m:Nat):Prop:=∀i j,i<=j->j<m->F f p j<=F f p i
theorem Inc.succ {p:Array Nat}{m:Nat}(h:Inc f p m) (hm:1<=m) (h1:F f p (m - 1)<=F f p m):Inc f p (m+1):=by
 intro i j Bx hj
 by_cases q:j=m
 ·subst q
  by_cases r:i=j
  ·subst r;exact aj _
  ·exact di (h i (j - 1) (by omega) (by omega)) h1
 ·exact h i j Bx (by omega)
theorem Dec.succ {p:Array Nat}{m:Nat}(h:Dec f p m) (hm:1<=m) (h1:F f p m<=F f p (m - 1)):Dec f p (m+1):=by
 intro i j Bx hj
 by_cases q:j=m
 ·subst q
  by_cases r:i=j
  ·subst r;exact aj _
  ·exact di h1 (h i (j - 1) (by omega) (by omega))
 ·exact h i j Bx (by omega)
theorem BH {p:Array Nat}(e:Ent n p) (hn:0<n) {Q:Nat->ag->Prop}:∀(fu m:Nat) (s:ag),1<=m->Inc f p m->
  (∀m',m<=m'->m'<=m+fu->Inc f p m'->(m'=m+fu∨F f p m'<F f p (m' - 1))->Q m' s)->(kas_asc p fu m).kasWp (nM n f) Q s
 |0,m,s,h1,hi,h=>h m (aj _) (aj _) hi (.inl rfl)
 |fu+1,m,s,h1,hi,h=>by
  refine⟨e.lt hn _,e.lt hn _, ?_⟩
  by_cases c:f (p.getD m 0)<f (p.getD (m - 1) 0)
  ·rw[decide_eq_true c];exact h m (aj _) (by omega) hi (.inr c)
  ·rw[decide_eq_false c];refine BH e hn fu (m+1) s (by omega) (hi.succ h1 (vq c)) λm' a b c d=>h m' (by omega) (by omega) c ?_
   rcases d with d|d
   ·exact .inl (by omega)
   ·exact .inr d
theorem wM (hn:0<n) {Q:Array Nat×Nat×Nat->ag->Prop}:∀(fu m q:Nat) (p:Array Nat) (s:ag),Ent n p->q+1<=m->m+fu<=n->Dec f p m->(∀k,m - 1 - q<=k->k<m->F f p k=F f p (m - 1))->
  (∀p' m' q',Ent n p'->q'+1<=m'->m<=m'->m'<=m+fu->Dec f p' m'->(∀k,m' - 1 - q'<=k->k<m'->F f p' k=F f p' (m' - 1))->Q (p',m',q') s)->(kas_desc fu p m q).kasWp (nM n f) Q s
 |0,m,q,p,s,e,h1,h2,hd,he,h=>h p m q e h1 (aj _) (aj _) hd he
 |fu+1,m,q,p,s,e,h1,h2,hd,he,h=>by
  refine⟨e.lt hn _,e.lt hn _, ?_⟩
  by_cases c:f (p.getD m 0)<f (p.getD (m - 1) 0)
  ·have c':F f p m<F f p (m - 1):=c;rw[decide_eq_true c];show KasT.kasWp _ (if true=true then(if q>0 then _ else _)else _) _ _;rw[if_pos rfl]
   by_cases hq:q>0
   ·rw[if_pos hq];have Br:m<=p.size:=by rw[e.1];omega
    have hF:∀k,F f (kas_rev p (m - (q+1)) m) k=F f p k:=by
     intro k;rw[tT Br]
     split
     ·rw[he _ (by omega) (by omega),he k (by omega) (by omega)]
     ·rfl
    have Cm:Dec f (kas_rev p (m - (q+1)) m) (m+1):=by intro i j Bx hj;rw[hF,hF];exact hd.succ (by omega) (gy c') i j Bx hj
    refine wM hn fu (m+1) 0 _ s (e.rev _ _) (by omega) (by omega) Cm ?_ λp' m' q' a b c d=>h p' m' q' a b (by omega) (by omega);intro k k1 k2;have:k=m:=by omega
    subst this;rfl
   ·rw[if_neg hq];refine wM hn fu (m+1) 0 _ s e (by omega) (by omega) (hd.succ (by omega) (gy c')) ?_ λp' m' q' a b c d=>h p' m' q' a b (by omega) (by omega);intro k k1 k2;have:k=m:=by omega
    subst this;rfl
  ·have c':¬ F f p m<F f p (m - 1):=c;rw[decide_eq_false c];show KasT.kasWp _ (if false=true then _ else KasT.ask _ _ _) _ _;rw[if_neg (by simp)];refine⟨e.lt hn _,e.lt hn _, ?_⟩
   by_cases c2:f (p.getD (m - 1) 0)<f (p.getD m 0)
   ·rw[decide_eq_true c2];exact h p m q e h1 (aj _) (by omega) hd he
   ·have c2':¬ F f p (m - 1)<F f p m:=c2;rw[decide_eq_false c2];have eq:F f p m=F f p (m - 1):=by omega
    refine wM hn fu (m+1) (q+1) _ s e (by omega) (by omega) (hd.succ (by omega) (by omega)) ?_ λp' m' q' a b c d=>h p' m' q' a b (by omega) (by omega);intro k k1 k2;show F f p k=F f p m
    by_cases r:k=m
    ·subst r;rfl
    ·rw[eq];exact he k (by omega) (by omega)
theorem Dec.rev {p:Array Nat}{m:Nat}(hm:m<=p.size) (h:Dec f p m):Inc f (kas_rev p 0 m) m:=by intro i j Bx hj;rw[tT hm,tT hm,if_pos ⟨jd _,by omega⟩,if_pos ⟨jd _,hj⟩];exact h _ _ (by omega) (by omega)
theorem JP (hn:0<n) {p:Array Nat}{m:Nat}{Q:Nat×Array Nat->ag->Prop}(e:Ent n p) (h1:1<=m) (h2:m<=n) (hd:Dec f p m)
  (h:∀m' p',Ent n p'->1<=m'->m'<=n->Inc f p' m'->Q (m',p') s):(kas_tail3 m n p).kasWp (nM n f) Q s:=by
 unfold kas_tail3;rw[KasT.kasWp_bind];refine BH (e.rev 0 m) hn (n - m) m s h1 (hd.rev (by rw[e.1];exact h2)) λm' a b c _=>?_;exact h m' _ (e.rev 0 m) (by omega) (by omega) c
theorem JQ (hn:0<n) {p:Array Nat}{m:Nat}{Q:Nat×Array Nat->ag->Prop}(e:Ent n p) (h2:m+1<=n) (hd:Dec f p (m+1))
  (h:∀m' p',Ent n p'->1<=m'->m'<=n->Inc f p' m'->Q (m',p') s):(kas_descPart m n p).kasWp (nM n f) Q s:=by
 unfold kas_descPart;rw[KasT.kasWp_bind];refine wM hn (n - (m+1)) (m+1) 0 p s e (by omega) (by omega) hd (λk k1 k2=>by (have:k=m:=by omega);subst this;rfl) λp' m' q' e' a b c d eq=>?_;show KasT.kasWp _ (if q'>0 then _ else _) _ _
 by_cases hq:q'>0
 ·rw[if_pos hq];have Br:m'<=p'.size:=by rw[e'.1];omega
  have hF:∀k,F f (kas_rev p' (m' - (q'+1)) m') k=F f p' k:=by
   intro k;rw[tT Br]
   split
   ·rw[eq _ (by omega) (by omega),eq k (by omega) (by omega)]
   ·rfl
  refine JP hn (e'.rev _ _) (show 1<=m' by omega) (show m'<=n by omega) ?_ h;intro i j Bx hj;rw[hF,hF];exact d i j Bx hj
 ·rw[if_neg hq];exact JP hn e' (show 1<=m' by omega) (show m'<=n by omega) d h
theorem X6 (hn:1<=n) {p:Array Nat}{Q:Nat×Array Nat->ag->Prop}(e:Ent n p)
  (h:∀m' p',Ent n p'->1<=m'->m'<=n->Inc f p' m'->Q (m',p') s):(kas_count n p).kasWp (nM n f) Q s:=by
 unfold kas_count;rw[KasT.kasWp_bind];refine BH e (by omega) (n - 1) 1 s (aj _) (λi j Bx hj=>by (have:i=j:=by omega);subst this;exact aj _) λm a b c d=>?_;show KasT.kasWp _ (if(m==n)=true then _ else if m>1 then _ else _) _ _
 by_cases q:m=n
 ·rw[if_pos (beq_iff_eq.mpr q)];exact h m p e (by omega) (by omega) c
 ·rw[if_neg (by intro z;exact q (beq_iff_eq.mp z))];have hlt:F f p m<F f p (m - 1):=by
   rcases d with d|d
   ·omega
   ·exact d
  by_cases q1:m>1
  ·rw[if_pos q1];refine⟨e.lt (by omega) _,e.lt (by omega) _, ?_⟩
   by_cases c2:f (p.getD 0 0)<f (p.getD (m - 1) 0)
   ·rw[decide_eq_true c2];exact h m p e (by omega) (by omega) c
   ·have c2':¬ F f p 0<F f p (m - 1):=c2;rw[decide_eq_false c2];have Br:m<=p.size:=by rw[e.1];omega
    have eq:∀k,k<m->F f p k=F f p 0:=by intro k hk;have:=c 0 k (by omega) hk;have:=c k (m - 1) (by omega) (by omega);omega
    have hF:∀k,F f (kas_rev p 0 m) k=F f p k:=by
     intro k;rw[tT Br]
     split
     ·rw[eq _ (by omega),eq k (by omega)]
     ·rfl
    refine JQ (by omega) (e.rev _ _) (by omega) ?_ h;intro i j Bx hj;rw[hF,hF]
    by_cases r:j=m
    ·subst r
     by_cases r2:i=j
     ·subst r2;exact aj _
     ·have:=eq i (by omega);have:=eq (j - 1) (by omega);omega
    ·rw[eq i (by omega),eq j (by omega)];exact aj _
  ·rw[if_neg q1];have:m=1:=by omega
   subst this;refine JQ (by omega) e (by omega) ?_ h;intro i j Bx hj
   by_cases r:i=j
   ·subst r;exact aj _
   ·have h1:i=0:=by omega
    have h2:j=1:=by omega
    subst h1;subst h2;exact gy hlt
theorem BI {p:Array Nat}(e:Ent n p) (hn:0<n) {k:Nat}(hi:Inc f p k) {Q:Nat->ag->Prop}:∀(fu l r:Nat) (s:ag),r - l<=fu->l<=r->r<=k->
  (∀i,i<l->F f p i<=F f p k)->(∀i,r<=i->i<k->F f p k<F f p i)->
  (∀l',l'<=k->(∀i,i<l'->F f p i<=F f p k)->(∀i,l'<=i->i<k->F f p k<F f p i)->Q l' s)->(kas_place p k fu l r).kasWp (nM n f) Q s
 |0,l,r,s,h1,h2,h3,ha,hb,h=>by
  have:l=r:=by omega
  subst this;exact h l h3 ha hb
 |fu+1,l,r,s,h1,h2,h3,ha,hb,h=>by
  unfold kas_place
  by_cases q:l>=r
  ·rw[if_pos q];have:l=r:=by omega
   subst this;exact h l h3 ha hb
  ·rw[if_neg q];refine⟨e.lt hn _,e.lt hn _, ?_⟩
   by_cases c:f (p.getD k 0)<f (p.getD ((l+r) / 2) 0)
   ·have c':F f p k<F f p ((l+r) / 2):=c;rw[decide_eq_true c];refine BI e hn hi fu l ((l+r) / 2) s (by omega) (by omega) (by omega) ha ?_ h;intro i i1 i2;have:=hi ((l+r) / 2) i i1 i2;omega
   ·have c':¬ F f p k<F f p ((l+r) / 2):=c;rw[decide_eq_false c];refine BI e hn hi fu ((l+r) / 2+1) r s (by omega) (by omega) (by omega) ?_ hb h;intro i i1;have:=hi i ((l+r) / 2) (by omega) (by omega);omega
theorem JR (hn:0<n) {Q:Array Nat->ag->Prop}:∀(fu k:Nat) (p:Array Nat) (s:ag),Ent n p->k+fu<=n->Inc f p k->(∀p',Ent n p'->Inc f p' (k+fu)->Q p' s)->(kas_bin fu p k).kasWp (nM n f) Q s
 |0,k,p,s,e,h1,hi,h=>h p e hi
 |fu+1,k,p,s,e,h1,hi,h=>by
  unfold kas_bin;rw[KasT.kasWp_bind];refine BI e hn hi k 0 k s (by omega) (by omega) (aj _) (λi hi=>absurd hi (by omega)) (λi a b=>absurd b (by omega)) λl hl ha hb=>?_;have Br:k<p.size:=by rw[e.1];omega
  refine JR hn fu (k+1) _ s (e.bubble _ _) (by omega) ?_ λp' e' i'=>h p' e' (by rw[show k+(fu+1)=k+1+fu by omega];exact i');intro i j Bx hj;rw[JO Br (by omega),JO Br (by omega)];have hkl:k - (k - l)=l:=by omega
  rw[hkl]
  by_cases i1:i=l
  ·rw[if_pos i1]
   by_cases j1:j=l
   ·rw[if_pos j1];exact aj _
   ·rw[if_neg j1,if_pos (by omega)];exact gy (hb (j - 1) (by omega) (by omega))
  ·rw[if_neg i1]
   by_cases i2:l<i/\i<=k
   ·rw[if_pos i2,if_neg (by omega),if_pos (by omega)];exact hi (i - 1) (j - 1) (by omega) (by omega)
   ·rw[if_neg i2]
    by_cases j1:j=l
    ·rw[if_pos j1];exact ha i (by omega)
    ·rw[if_neg j1]
     by_cases j2:l<j/\j<=k
     ·rw[if_pos j2];exact hi i (j - 1) (by omega) (by omega)
     ·rw[if_neg j2];exact hi i j Bx (by omega)
theorem X7 (hn:1<=n) {Q:Array Nat->ag->Prop}(h:∀p,Ent n p->Inc f p n->Q p s):(kas_sort n).kasWp (nM n f) Q s:=by
 unfold kas_sort;rw[KasT.kasWp_bind];refine X6 hn ⟨by simp,by simp⟩ λm p e h1 h2 hi=>?_;show KasT.kasWp _ (if m<n then _ else _) _ _
 by_cases q:m<n
 ·rw[if_pos q];have:max m 1=m:=by omega
  rw[this];refine JR (by omega) (n - m) m p s e (by omega) hi λp' e' i'=>h p' e' ?_;rw[show m+(n - m)=n by omega]at i';exact i'
 ·rw[if_neg q];have:m=n:=by omega
  subst this;exact h p e hi
theorem JS {α:Type}{cmp:Nat->Nat->(Bool->ag->Prop)->ag->Prop}{I:ag->Prop}(hc:∀i j C s,I s->i<n->j<n->(∀s',I s'->C (decide (f i<f j)) s')->cmp i j C s):
  ∀(t:KasT α) (Q:α->Prop) (Q':α->ag->Prop) (s₀ s:ag),t.kasWp (nM n f) (λa _=>Q a) s₀->I s->(∀a s',Q a->I s'->Q' a s')->t.kasWp cmp Q' s
 | .ret a,Q,Q',s₀,s,h,hi,k=>k a s h hi
 | .ask i j c,Q,Q',s₀,s,h,hi,k=>hc i j _ s hi h.1 h.2.1 λs' hi'=>JS hc (c _) Q Q' s₀ s' h.2.2 hi' k
end SoM
namespace L2
structure Co {α:Type}(lt:α->α->Bool):Prop where
 irr:∀x,lt x x=false
 tr:∀x y z,lt x y=true->lt y z=true->lt x z=true
 tot:∀x y,lt x y=false->lt y x=false->x=y
section
variable{α:Type}{lt:α->α->Bool}
theorem Co.asy (o:Co lt) {x y:α}(h:lt x y=true):lt y x=false:=by
 cases q:lt y x with
 |false=>rfl
 |true=>have:=o.tr x y x h q;rw[o.irr]at this;cases this
theorem Co.lt_le (o:Co lt) {x y z:α}(h:lt x y=true) (h2:lt z y=false):lt x z=true:=by
 cases q:lt y z with
 |true=>exact o.tr x y z h q
 |false=>rw[<-o.tot y z q h2];exact h
theorem Co.le_tr (o:Co lt) {x y z:α}(h:lt y x=false) (h2:lt z y=false):lt z x=false:=by
 cases q:lt z x with
 |false=>rfl
 |true=>have:=o.lt_le q h;rw[h2]at this;cases this
def lN (lt:α->α->Bool) (x:α):List α->List α
 | []=>[x]
 |y::r=>if lt y x then y::lN lt x r else x::y::r
def dS (lt:α->α->Bool):List α->List α
 | []=>[]
 |x::r=>lN lt x (dS lt r)
theorem BJ (x:α):∀l,(lN lt x l).Perm (x::l)
 | []=>.refl _
 |y::r=>by
  unfold lN
  split
  ·exact((BJ x r).cons y).trans (ve ..)
  ·exact .refl _
theorem wN:∀l,(dS lt l).Perm l
 | []=>.refl _
 |x::r=>(BJ x _).trans ((wN r).cons x)
abbrev fJ (lt:α->α->Bool) (l:List α):Prop:=l.Pairwise λa b=>lt b a=false
abbrev fK (lt:α->α->Bool) (l:List α):Prop:=l.Pairwise λa b=>lt a b=true
theorem JT (o:Co lt) (x:α):∀l,fJ lt l->fJ lt (lN lt x l)
 | [],_=>by simp[lN,fJ]
 |y::r,h=>by
  have h1:=cu.mp h;unfold lN
  split
  ·rename_i q;refine cu.mpr ⟨λz hz=>?_,JT o x r h1.2⟩
   rcases az.mp ((BJ x r).mem_iff.mp hz)with rfl|hz
   ·exact o.asy q
   ·exact h1.1 z hz
  ·rename_i q;have q':lt y x=false:=by simpa using q
   refine cu.mpr ⟨λz hz=>?_,h⟩
   rcases az.mp hz with rfl|hz
   ·exact q'
   ·exact o.le_tr q' (h1.1 z hz)
theorem JU (o:Co lt):∀l,fJ lt (dS lt l)
 | []=>nt
 |x::r=>JT o x _ (JU o r)
theorem BK (o:Co lt):∀{l l':List α},fJ lt l->fJ lt l'->l.Perm l'->l=l'
 | [],l',_,_,p=>(List.nil_perm.mp p).symm
 |x::r,[],_,_,p=>by simp at p
 |x::r,y::r',h,h',p=>by
  have h1:=cu.mp h;have h2:=cu.mp h';have e:x=y:=by
   refine o.tot x y ?_ ?_
   ·rcases az.mp (p.mem_iff.mp (ax ..))with e|e
    ·rw[e];exact o.irr y
    ·exact h2.1 x e
   ·rcases az.mp (p.mem_iff.mpr (ax ..))with e|e
    ·rw[e];exact o.irr x
    ·exact h1.1 y e
  subst e;rw[BK o h1.2 h2.2 (List.Perm.cons_inv p)]
theorem JV (o:Co lt) {l l':List α}(h:fJ lt l') (p:l'.Perm l):l'=dS lt l:=BK o h (JU o l) (p.trans (wN l).symm)
def kW (lt:α->α->Bool) (x:α):List α->List α
 | []=>[x]
 |y::r=>if lt y x then y::kW lt x r else if lt x y then x::y::r else y::r
def eF (lt:α->α->Bool):List α->List α
 | []=>[]
 |x::r=>kW lt x (eF lt r)
theorem BL (o:Co lt) (x z:α):∀l,z∈kW lt x l↔z=x∨z∈l
 | []=>by simp[kW]
 |y::r=>by
  unfold kW
  split
  ·rw[az,BL o x z r,az];constructor
   ·rintro (h|h|h)
    ·exact .inr (.inl h)
    ·exact .inl h
    ·exact .inr (.inr h)
   ·rintro (h|h|h)
    ·exact .inr (.inl h)
    ·exact .inl h
    ·exact .inr (.inr h)
  ·rename_i q1
   split
   ·simp
   ·rename_i q2;have e:=o.tot x y (by simpa using q2) (by simpa using q1);subst e;simp
theorem lO (o:Co lt) (z:α):∀l,z∈eF lt l↔z∈l
 | []=>.rfl
 |x::r=>by rw[eF,BL o,lO o z r,az]
theorem JW (o:Co lt) (x:α):∀l,fK lt l->fK lt (kW lt x l)
 | [],_=>by simp[kW,fK]
 |y::r,h=>by
  have h1:=cu.mp h;unfold kW
  split
  ·rename_i q;refine cu.mpr ⟨λz hz=>?_,JW o x r h1.2⟩
   rcases(BL o x z r).mp hz with rfl|hz
   ·exact q
   ·exact h1.1 z hz
  ·split
   ·rename_i q;refine cu.mpr ⟨λz hz=>?_,h⟩
    rcases az.mp hz with rfl|hz
    ·exact q
    ·exact o.tr _ _ _ q (h1.1 z hz)
   ·exact h
theorem oY (o:Co lt):∀l,fK lt (eF lt l)
 | []=>nt
 |x::r=>JW o x _ (oY o r)
theorem BM (o:Co lt) {l:List α}(h:fK lt l):fJ lt l:=h.imp λh=>o.asy h
theorem pT (o:Co lt) {l:List α}(h:fK lt l):l.Nodup:=h.imp λ{a b} h e=>by rw[e,o.irr]at h;cases h
theorem BN (o:Co lt) {l l':List α}(h:fK lt l) (h':fK lt l') (m:∀z,z∈l↔z∈l'):l=l':=by refine BK o (BM o h) (BM o h') ?_;exact(ku (pT o h) (pT o h')).mpr m
theorem X8 (o:Co lt) {l l':List α}(h:fK lt l') (m:∀z,z∈l'↔z∈l):l'=eF lt l:=BN o h (oY o l) λz=>(m z).trans (lO o z l).symm
theorem X9 (o:Co lt) (l:List α) (h:l.Nodup):eF lt l=dS lt l:=by refine JV o (BM o (oY o l)) ?_;exact(ku (pT o (oY o l)) h).mpr λz=>lO o z l
def rk (lt:α->α->Bool) (ks:List α) (x:α):Nat:=ks.countP λy=>lt y x
theorem BO {p q:α->Bool}:∀(l:List α),(∀y,p y=true->q y=true)->l.countP p<=l.countP q
 | [],_=>aj _
 |y::r,h=>by
  have:=BO r h;rw[qr,qr]
  cases hp:p y with
  |true=>rw[h y hp];simp;omega
  |false=>cases q y <;> simp <;> omega
theorem JX {p q:α->Bool}:∀(l:List α),(∀y,p y=true->q y=true)->∀x,x∈l->q x=true->p x=false->l.countP p<l.countP q
 | [],_,x,hx,_,_=>by simp at hx
 |y::r,h,x,hx,h1,h2=>by
  rw[qr,qr]
  rcases az.mp hx with rfl|hx
  ·have:=BO r h;rw[h1,h2];simp;omega
  ·have:=JX r h x hx h1 h2
   cases hp:p y with
   |true=>rw[h y hp];simp;omega
   |false=>cases q y <;> simp <;> omega
theorem JY (o:Co lt) {ks:List α}{x z:α}(hx:x∈ks):decide (rk lt ks x<rk lt ks z)=lt x z:=by
 cases q:lt x z with
 |true=>exact decide_eq_true (JX ks (λy h=>o.tr y x z h q) x hx q (o.irr x))
 |false=>exact decide_eq_false (Nat.not_lt.mpr (BO ks λy h=>o.lt_le h q))
theorem YA (o:Co lt) {ks:List α}{x z:α}(hz:z∈ks) (h:rk lt ks x<=rk lt ks z):lt z x=false:=by rw[<-JY o hz];exact decide_eq_false (Nat.not_lt.mpr h)
end
def cT:zr->zr->Bool
 | [],[]=>false
 | [],_::_=>true
 |_::_,[]=>false
 |a::x,b::y=>if a==b then cT x y else decide (a<b)
theorem Bz:Co cT:=by
 refine⟨λx=>?_,λx=>?_,λx=>?_⟩
 ·induction x with
  |nil=>rfl
  |cons a x ih=>simp[cT,ih]
 ·induction x with
  |nil=>
   intro y z h1 h2
   cases z with
   |nil=>cases y with
    |nil=>exact h1
    |cons b y=>cases h2
   |cons c z=>rfl
  |cons a x ih=>
   intro y z h1 h2
   cases y with
   |nil=>cases h1
   |cons b y=>
    cases z with
    |nil=>cases h2
    |cons c z=>
     simp only[cT,beq_iff_eq]at h1 h2 ⊢
     by_cases e1:a=b <;> by_cases e2:b=c
     ·rw[if_pos e1]at h1;rw[if_pos e2]at h2;rw[if_pos (e1.trans e2)];exact ih y z h1 h2
     ·rw[if_neg e2]at h2;rw[if_neg (by rw[e1];exact e2)];rw[e1];exact h2
     ·rw[if_neg e1]at h1;rw[if_neg (by rw[<-e2];exact e1)];rw[<-e2];exact h1
     ·rw[if_neg e1]at h1;rw[if_neg e2]at h2;simp only[decide_eq_true_eq]at h1 h2;rw[if_neg (by omega)];simp;omega
 ·induction x with
  |nil=>
   intro y h1 h2
   cases y with
   |nil=>rfl
   |cons b y=>cases h1
  |cons a x ih=>
   intro y h1 h2
   cases y with
   |nil=>cases h2
   |cons b y=>
    simp only[cT,beq_iff_eq]at h1 h2
    by_cases e:a=b
    ·subst e;rw[if_pos rfl]at h1 h2;rw[ih y h1 h2]
    ·rw[if_neg e]at h1;rw[if_neg (cy e)]at h2;simp at h1 h2;omega
def cJ (p q:Int×Int):Bool:=if p.1==q.1 then decide (p.2<q.2)else decide (p.1<q.1)
def gG (p:Int×Int):zr:=[p.1,p.2]
theorem rO (p q:Int×Int):cT (gG p) (gG q)=cJ p q:=by
 unfold cJ gG cT
 split
 ·unfold cT
  split
  ·rename_i h;simp at h;simp[cT,h]
  ·rfl
 ·rfl
theorem YB {p q:Int×Int}(h:gG p=gG q):p=q:=by obtain⟨a,b⟩:=p;obtain⟨c,d⟩:=q;simp[gG]at h;rw[h.1,h.2]
theorem By:Co cJ:=⟨λx=>by rw[<-rO];exact Bz.irr _,λx y z h1 h2=>by rw[<-rO]at *;exact Bz.tr _ _ _ h1 h2,λx y h1 h2=>by rw[<-rO]at *;exact YB (Bz.tot _ _ h1 h2)⟩
section
variable{α β:Type}{lt:α->α->Bool}{lt':β->β->Bool}{f:α->β}
theorem JZ (h:∀x y,lt' (f x) (f y)=lt x y) (x:α):∀l,lN lt' (f x) (l.map f)=(lN lt x l).map f
 | []=>rfl
 |y::r=>by
  simp only[df,lN,h]
  split
  ·rw[JZ h x r];rfl
  ·rfl
theorem J0 (h:∀x y,lt' (f x) (f y)=lt x y):∀l,dS lt' (l.map f)=(dS lt l).map f
 | []=>rfl
 |x::r=>by rw[df,dS,J0 h r,JZ h];rfl
theorem J1 (h:∀x y,lt' (f x) (f y)=lt x y) (x:α):∀l,kW lt' (f x) (l.map f)=(kW lt x l).map f
 | []=>rfl
 |y::r=>by
  simp only[df,kW,h]
  split
  ·rw[J1 h x r];rfl
  ·split <;> rfl
theorem J2 (h:∀x y,lt' (f x) (f y)=lt x y):∀l,eF lt' (l.map f)=(eF lt l).map f
 | []=>rfl
 |x::r=>by rw[df,eF,J2 h r,J1 h];rfl
end
end L2
namespace SM
open PySem PySem.SetTable
def fJ (l:zt):Prop:=l.Pairwise (·<·)
theorem BP {l:zt}(hr:fJ l) {i k x:Nat}(a:l[i]?=some x) (b:l[k]?=some x):i=k:=by
 obtain⟨p1,p2⟩:=bq.mp a;obtain⟨q1,q2⟩:=bq.mp b
 rcases Nat.lt_trichotomy i k with h|h|h
 ·have:=fj.mp hr i k p1 q1 h;omega
 ·exact h
 ·have:=fj.mp hr k i q1 p1 h;omega
theorem YC (xs:Array Nat) (j:Nat) (hr:fJ xs.toList):∀(fuel lo hi:Nat),lo<=hi->hi<=xs.size->hi - lo<=fuel->
  (∀i (h:i<xs.size),i<lo->xs[i]<j)->(∀i (h:i<xs.size),hi<=i->j<=xs[i])->
  (∀i (h:i<xs.size),i<below.go xs j fuel lo hi->xs[i]<j)/\(∀i (h:i<xs.size),below.go xs j fuel lo hi<=i->j<=xs[i])/\below.go xs j fuel lo hi<=xs.size:=by
 intro fuel
 induction fuel with
 |zero=>
  intro lo hi h1 h2 h3 ha hb;have:lo=hi:=by omega
  subst this;exact⟨ha,hb,h2⟩
 |succ n ih=>
  intro lo hi h1 h2 h3 ha hb;unfold below.go
  by_cases hlt:lo<hi
  ·rw[if_pos hlt];dsimp only;have hm:(lo+hi) / 2<xs.size:=by omega
   have e:xs.getD ((lo+hi) / 2) j=xs[(lo+hi) / 2]:=by simp[jz,hm]
   have mono:∀a b (ha:a<xs.size) (hb:b<xs.size),a<b->xs[a]<xs[b]:=by intro a b ha hb Cq;have:=fj.mp hr a b (by simpa using ha) (by simpa using hb) Cq;simpa using this
   by_cases hc:xs.getD ((lo+hi) / 2) j<j
   ·rw[if_pos hc];refine ih _ _ (by omega) h2 (by omega) ?_ hb;intro i h hi';rw[e]at hc
    by_cases q:i=(lo+hi) / 2
    ·subst q;exact hc
    ·have:=mono i _ h hm (by omega);omega
   ·rw[if_neg hc];refine ih _ _ (by omega) (by omega) (by omega) ha ?_;intro i h hi';rw[e]at hc
    by_cases q:i=(lo+hi) / 2
    ·subst q;omega
    ·have:=mono _ i hm h (by omega);omega
  ·rw[if_neg hlt];have:lo=hi:=by omega
   subst this;exact⟨ha,hb,h2⟩
theorem tU {xs:Array Nat}{j:Nat}(hr:fJ xs.toList):
  (∀i (h:i<xs.size),i<below xs j->xs[i]<j)/\(∀i (h:i<xs.size),below xs j<=i->j<=xs[i])/\below xs j<=xs.size:=
 YC xs j hr xs.size 0 xs.size (jd _) (aj _) (by omega) (λi h hi=>absurd hi (by omega)) (λi h hi=>absurd h (by omega))
theorem J3 {xs:Array Nat}{j:Nat}(hr:fJ xs.toList) (hm:j∈xs.toList):xs[below xs j]?=some j:=by
 obtain⟨h1,h2,h3⟩:=tU (j:=j) hr;obtain⟨i,hi,e⟩:=ju hm;have hi':i<xs.size:=by simpa using hi
 have e':xs[i]=j:=by simpa using e
 have hle:below xs j<=i:=by
  rcases ja i (below xs j)with q|q
  ·have:=h1 i hi' q;omega
  ·exact q
 have hb:below xs j<xs.size:=by omega
 have:=h2 (below xs j) hb (aj _);have mono:∀a b (ha:a<xs.size) (hb:b<xs.size),a<b->xs[a]<xs[b]:=by intro a b ha hb Cq;have:=fj.mp hr a b (by simpa using ha) (by simpa using hb) Cq;simpa using this
 have hE:below xs j=i:=by
  rcases ja (below xs j) i with q|q
  ·have:=mono _ _ hb hi' q;omega
  ·omega
 rw[fh hb]
 congr 1
 have:∀k (hk:k<xs.size),k=i->xs[k]=xs[i]:=by intro k hk e;subst e;rfl
 rw[this _ hb hE,e']
theorem YD {xs:Array Nat}{j:Nat}(hm:j∉xs.toList):(xs[below xs j]?==some j)=false:=by rw[beq_eq_false_iff_ne];intro e;obtain⟨h,e⟩:=dm.mp e;exact hm (by rw[<-e];simp)
theorem tV {α:Type}(xs:Array α) (p:Nat) (x:α) (hp:p<=xs.size):(insertAt xs p x).toList=xs.toList.take p++x::xs.toList.drop p:=by unfold insertAt;rw[Array.toList_append,Array.toList_push];simp[Array.toList_extract,kg]
theorem YE {xs:Array Nat}{j:Nat}(hr:fJ xs.toList) (hm:j∉xs.toList):fJ (insertAt xs (below xs j) j).toList:=by
 obtain⟨h1,h2,h3⟩:=tU (j:=j) hr;rw[tV _ _ _ h3];unfold fJ at hr ⊢;have hlt:∀a∈xs.toList.take (below xs j),a<j:=by intro a ha;obtain⟨i,hi,e⟩:=ju ha;rw[ji]at hi;rw[um]at e;have:=h1 i (by simp at hi;omega) (by omega);simp at e;omega
 have hgt:∀a∈xs.toList.drop (below xs j),j<a:=by
  intro a ha;obtain⟨i,hi,e⟩:=ju ha;rw[nh]at hi;rw[List.getElem_drop]at e;have q:=h2 (below xs j+i) (by simp at hi;omega) (by omega);have ne:a≠j:=by rintro rfl;exact hm (List.mem_of_mem_drop ha)
  simp at e;omega
 rw[zc];refine⟨hr.sublist (List.take_sublist _ _), ?_, ?_⟩
 ·rw[cu];exact⟨hgt,hr.sublist (List.drop_sublist _ _)⟩
 ·intro a ha b hb
  rcases az.mp hb with rfl|hb
  ·exact hlt a ha
  ·have:=hlt a ha;have:=hgt b hb;omega
def nO (mask:Nat) (p:Probe):Probe:=
 if p.more>0 then{ p with j:=p.j+1,more:=p.more - 1 } else
 { p with j:=(leap mask p.i p.perturb).1,more:=runEnd mask (leap mask p.i p.perturb).1 - (leap mask p.i p.perturb).1,i:=(leap mask p.i p.perturb).1,perturb:=(leap mask p.i p.perturb).2 }
theorem J4 (t:gm) (p:Probe):t.advance p=nO t.mask p:=by
 unfold SetTable.advance nO
 split <;> rfl
def YF (mask:Nat) (h:Int):Probe:={ j:=bits h % (mask+1),more:=runEnd mask (bits h % (mask+1)) - bits h % (mask+1),i:=bits h % (mask+1),perturb:=bits h,dummy:=none }
def dM (mask:Nat) (h:Int):Nat->Probe
 |0=>YF mask h
 |n+1=>nO mask (dM mask h n)
def pr (mask:Nat) (h:Int) (n:Nat):Nat:=(dM mask h n).j
theorem YG (mask:Nat) (p:Probe):(nO mask p).dummy=p.dummy:=by unfold nO;split <;> rfl
theorem J5 (mask:Nat) (h:Int):∀n,(dM mask h n).dummy=none
 |0=>rfl
 |n+1=>by rw[dM,YG,J5 mask h n]
def pU (mask i pt:Nat):Probe:={ j:=i,more:=runEnd mask i - i,i:=i,perturb:=pt,dummy:=none }
def bs (mask:Nat) (h:Int):Nat->Nat×Nat
 |0=>(bits h % (mask+1),bits h)
 |L+1=>leap mask (bs mask h L).1 (bs mask h L).2
theorem YH (mask i:Nat):runEnd mask i - i<=9:=by unfold runEnd;split <;> omega
theorem wO (mask:Nat) (h:Int) (i pt:Nat) (n:Nat) (e:dM mask h n=pU mask i pt):∀k,k<=runEnd mask i - i->dM mask h (n+k)={ pU mask i pt with j:=i+k,more:=runEnd mask i - i - k }
 |0,_=>by rw[Nat.add_zero,e];rfl
 |k+1,hk=>by have ih:=wO mask h i pt n e k (by omega);rw[show n+(k+1)=(n+k)+1 from rfl,dM,ih];unfold nO;rw[if_pos (show runEnd mask i - i - k>0 by omega)];simp[pU];omega
theorem J6 (mask:Nat) (h:Int):∀L,∃n,n<=10*L/\dM mask h n=pU mask (bs mask h L).1 (bs mask h L).2
 |0=>⟨0,by omega,rfl⟩
 |L+1=>by obtain⟨n,hn,e⟩:=J6 mask h L;have r:=wO mask h _ _ n e (runEnd mask (bs mask h L).1 - (bs mask h L).1) (aj _);have:=YH mask (bs mask h L).1;refine⟨n+(runEnd mask (bs mask h L).1 - (bs mask h L).1)+1,by omega, ?_⟩;rw[dM,r];unfold nO;rw[if_neg (by simp)];rfl
theorem J7 (mask:Nat) (h:Int):∀L,(bs mask h L).2=bits h / 32 ^ L
 |0=>by simp[bs]
 |L+1=>by rw[bs];show(bs mask h L).2 / 32=_;rw[J7 mask h L,Nat.div_div_eq_div_mul,Nat.pow_succ]
theorem YI (h:Int):bits h<2 ^ 64:=by unfold bits;omega
theorem YJ (mask:Nat) (h:Int) {L:Nat}(hL:13<=L):(bs mask h L).2=0:=by
 rw[J7];have h1:=YI h;have h2:(32:Nat) ^ 13<=32 ^ L:=zk (by decide) hL;have h3:(2:Nat) ^ 64<32 ^ 13:=by decide
 exact Nat.div_eq_of_lt (by omega)
def fx (mask x:Nat):Nat:=(x*5+1) % (mask+1)
def oZ (mask:Nat):Nat->Nat->Nat
 |0,x=>x
 |n+1,x=>oZ mask n (fx mask x)
theorem J8 (mask:Nat):∀n x,oZ mask (n+1) x=fx mask (oZ mask n x)
 |0,x=>rfl
 |n+1,x=>by rw[oZ,J8 mask n,oZ]
theorem J9 (mask:Nat) (h:Int):∀n,(bs mask h (13+n)).1=oZ mask n (bs mask h 13).1
 |0=>rfl
 |n+1=>by rw[J8,<-J9 mask h n,show 13+(n+1)=(13+n)+1 from rfl,bs];show((bs mask h (13+n)).1*5+1+(bs mask h (13+n)).2 / 32) % (mask+1)=_;rw[YJ mask h (by omega)];rfl
def rP (mask:Nat):Nat->Nat->Nat
 |0,_=>0
 |n+1,x=>2 ^ x ||| rP mask n (fx mask x)
theorem KC (mask j:Nat):∀n x,(rP mask n x).testBit j=true->∃k,k<n/\oZ mask k x=j
 |0,x,h=>by simp[rP]at h
 |n+1,x,h=>by
  rw[rP,Nat.testBit_or,Bool.or_eq_true]at h
  rcases h with h|h
  ·rw[Nat.testBit_two_pow,decide_eq_true_eq]at h;exact⟨0,by omega,h⟩
  ·obtain⟨k,hk,e⟩:=KC mask j n _ h;exact⟨k+1,by omega,e⟩
def lP (mask:Nat):Prop:=mask=7∨mask=31∨mask=127
def KD (mask:Nat):Bool:=(bj (mask+1)).all λx=>rP mask (mask+1) x==2 ^ (mask+1) - 1
theorem YK {mask:Nat}(g:lP mask):KD mask=true:=by rcases g with rfl|rfl|rfl <;> decide +kernel
theorem YL {mask x j:Nat}(g:lP mask) (hx:x<=mask) (hj:j<=mask):∃k,k<=mask/\oZ mask k x=j:=by
 have h1:=YK g;unfold KD at h1;rw[ff]at h1;have h2:=h1 x (bu.mpr (by omega));rw[beq_iff_eq]at h2;have h3:(rP mask (mask+1) x).testBit j=true:=by rw[h2,Nat.testBit_two_pow_sub_one,decide_eq_true_eq];omega
 obtain⟨k,hk,e⟩:=KC mask j _ _ h3;exact⟨k,by omega,e⟩
theorem wQ (a m:Nat):a % (m+1)<=m:=by have:=Nat.mod_lt a (show 0<m+1 by omega);omega
theorem YM (mask:Nat) (h:Int):∀L,(bs mask h L).1<=mask
 |0=>wQ _ _
 |L+1=>wQ _ _
theorem KG {mask j:Nat}(g:lP mask) (h:Int) (hj:j<=mask):∃L,L<=13+mask/\(bs mask h L).1=j:=by obtain⟨k,hk,e⟩:=YL g (YM mask h 13) hj;exact⟨13+k,by omega,by rw[J9];exact e⟩
theorem YN {mask j:Nat}(g:lP mask) (h:Int) (hj:j<=mask):∃n,n<10*turns mask/\pr mask h n=j:=by obtain⟨L,hL,e⟩:=KG g h hj;obtain⟨n,hn,e2⟩:=J6 mask h L;refine⟨n,by unfold turns;omega, ?_⟩;unfold pr;rw[e2];exact e
theorem KH {mask i:Nat}(hi:i<=mask):runEnd mask i<=mask:=by unfold runEnd;split <;> omega
theorem KI {mask:Nat}(h:Int):∀n,(dM mask h n).i<=mask/\(dM mask h n).j+(dM mask h n).more<=mask
 |0=>by
  have e:bits h % (mask+1)<=mask:=wQ _ _;have:=KH e;have:bits h % (mask+1)<=runEnd mask (bits h % (mask+1)):=by unfold runEnd;split <;> omega
  exact⟨e,by show bits h % (mask+1)+(runEnd mask (bits h % (mask+1)) - bits h % (mask+1))<=mask;omega⟩
 |n+1=>by
  obtain⟨h1,h2⟩:=KI (mask:=mask) h n;rw[dM];unfold nO
  split
  ·exact⟨h1,by dsimp only;omega⟩
  ·dsimp only;have e:(leap mask (dM mask h n).i (dM mask h n).perturb).1<=mask:=wQ _ _;have:=KH e;have:(leap mask (dM mask h n).i (dM mask h n).perturb).1<=runEnd mask (leap mask (dM mask h n).i (dM mask h n).perturb).1:=by unfold runEnd;split <;> omega
   exact⟨e,by omega⟩
theorem BQ {mask:Nat}(h:Int) (n:Nat):pr mask h n<=mask:=by have:=(KI (mask:=mask) h n).2;unfold pr;omega
def Way (mask:Nat) (occ:Nat->Prop) (h:Int) (j:Nat):Prop:=∃n,pr mask h n=j/\∀m,m<n->occ (pr mask h m)
theorem Way.mono {mask:Nat}{occ occ':Nat->Prop}{h:Int}{j:Nat}(w:Way mask occ h j) (k:∀x,occ x->occ' x):Way mask occ' h j:=let ⟨n,e,a⟩:=w;⟨n,e,λm hm=>k _ (a m hm)⟩
structure Cn (t:gm) (hs:zr):Prop where
 size:t.place.size=hs.length
 rise:fJ t.place.toList
 nod:t.dummies=#[]
 bnd:∀j∈t.place.toList,j<=t.mask
 room:hs.length<=t.mask
 msk:lP t.mask
 way:∀(i:Nat) (h:Int) (j:Nat),hs[i]?=some h->t.place.toList[i]?=some j->Way t.mask (·∈t.place.toList) h j
 plain:t.plain=true
theorem Cn.fits {t:gm}{hs:zr}(T:Cn t hs):t.fits hs.length=true:=by unfold SetTable.fits SetTable.fill;rw[T.nod,T.size];simpa using T.room
theorem Cn.gave {t:gm}{hs:zr}(T:Cn t hs):t.gaveWay=false:=by
 unfold SetTable.gaveWay
 rcases T.msk with e|e|e <;> rw[e] <;> rfl
theorem KJ (j:Nat):SetTable.has #[] j=false:=by unfold SetTable.has;simp
theorem Cn.slot_live {t:gm}{hs:zr}(T:Cn t hs) {j:Nat}(h:j∈t.place.toList):∃i,t.slot j=.live i/\t.place.toList[i]?=some j:=by refine⟨below t.place j, ?_,by simpa using J3 T.rise h⟩;unfold SetTable.slot;dsimp only;rw[J3 T.rise h];simp
theorem Cn.slot_empty {t:gm}{hs:zr}(T:Cn t hs) {j:Nat}(h:j∉t.place.toList):t.slot j=.empty:=by unfold SetTable.slot;dsimp only;rw[YD h,T.nod,KJ];rfl
theorem Cn.empty_there {t:gm}{hs:zr}(T:Cn t hs):∃j,j<=t.mask/\j∉t.place.toList:=by
 rcases qf (∃j,j<=t.mask/\j∉t.place.toList)with h|h
 ·exact h
 ·exfalso
  have h1:∀j,j∈bj (t.mask+1)->j∈t.place.toList:=by
   intro j hj
   rcases qf (j∈t.place.toList)with q|q
   ·exact q
   ·exact absurd ⟨j,by have:=bu.mp hj;omega,q⟩ h
  have h2:=(qt (n:=t.mask+1)).length_le_of_subset h1;rw[km]at h2;have h3:t.place.toList.length=hs.length:=by rw[<-T.size];simp
  have:=T.room;omega
theorem YO {t:gm}{hs:zr}(T:Cn t hs) (hashAt:Nat->Int) (h:Int):∀(fuel n N:Nat),n<=N->N - n<fuel->pr t.mask h N∉t.place.toList->
  ∃m,n<=m/\m<=N/\(∀l,n<=l->l<m->pr t.mask h l∈t.place.toList/\∀i,t.place.toList[i]?=some (pr t.mask h l)->hashAt i≠h) /\
   ((pr t.mask h m∉t.place.toList/\probe.go t hashAt h fuel (dM t.mask h n)=some (.empty (pr t.mask h m) none)) ∨
    (∃i,t.place.toList[i]?=some (pr t.mask h m)/\hashAt i=h/\probe.go t hashAt h fuel (dM t.mask h n)=some (.candidate (pr t.mask h m) i (dM t.mask h (m+1))))):=by
 intro fuel
 induction fuel with
 |zero=>intro n N _ h2 _;omega
 |succ f ih=>
  intro n N h1 h2 h3;have hj:(dM t.mask h n).j=pr t.mask h n:=rfl
  rcases qf (pr t.mask h n∈t.place.toList)with hm|hm
  ·obtain⟨i,e1,e2⟩:=T.slot_live hm
   by_cases hh:hashAt i=h
   ·refine⟨n,aj _,h1,λl a b=>absurd a (by omega),.inr ⟨i,e2,hh, ?_⟩⟩;rw[probe.go,hj,e1];dsimp only;rw[if_pos (beq_iff_eq.mpr hh),J4];rfl
   ·have hne:n≠N:=by rintro rfl;exact h3 hm
    obtain⟨m,a1,a2,a3,a4⟩:=ih (n+1) N (by omega) (by omega) h3;have e3:probe.go t hashAt h (f+1) (dM t.mask h n)=probe.go t hashAt h f (dM t.mask h (n+1)):=by rw[probe.go,hj,e1];dsimp only;rw[if_neg (by intro q;exact hh (beq_iff_eq.mp q)),J4];rfl
    refine⟨m,by omega,a2,λl b1 b2=>?_,by rw[e3];exact a4⟩
    rcases ja n l with q|q
    ·exact a3 l (by omega) b2
    ·have:l=n:=by omega
     subst this;refine⟨hm,λi' e'=>?_⟩;have:i'=i:=BP T.rise e' e2;subst this;exact hh
  ·refine⟨n,aj _,h1,λl a b=>absurd a (by omega),.inl ⟨hm, ?_⟩⟩;rw[probe.go,hj,T.slot_empty hm];dsimp only;rw[J5]
theorem Cn.stops {t:gm}{hs:zr}(T:Cn t hs) (h:Int):∃N,N<10*turns t.mask/\pr t.mask h N∉t.place.toList:=by obtain⟨j,hj,hn⟩:=T.empty_there;obtain⟨N,hN,e⟩:=YN T.msk h hj;exact⟨N,hN,by rw[e];exact hn⟩
theorem Cn.before {t:gm}{hs:zr}(T:Cn t hs) {h:Int}{i j m:Nat}(e1:hs[i]?=some h) (e2:t.place.toList[i]?=some j) (hm:pr t.mask h m∉t.place.toList):∃n,n<m/\pr t.mask h n=j:=by
 obtain⟨n,e,a⟩:=T.way i h j e1 e2;refine⟨n, ?_,e⟩
 rcases ja n m with q|q
 ·exact q
 ·exfalso
  rcases ja m n with r|r
  ·exact hm (a m r)
  ·have:m=n:=by omega
   subst this;exact hm (by rw[e];exact dg e2)
theorem KL {xs:Array Nat}{p j x:Nat}(hp:p<=xs.size):x∈(insertAt xs p j).toList↔x=j∨x∈xs.toList:=by
 rw[tV _ _ _ hp,cq,az];have e:x∈xs.toList↔x∈xs.toList.take p∨x∈xs.toList.drop p:=by rw[<-cq,ie]
 rw[e];constructor
 ·rintro (a|a|a)
  ·exact .inr (.inl a)
  ·exact .inl a
  ·exact .inr (.inr a)
 ·rintro (a|a|a)
  ·exact .inr (.inl a)
  ·exact .inl a
  ·exact .inr (.inr a)
theorem YQ {t:gm}(hn:t.dummies=#[]) (j:Nat):t.put j=({ t with place:=insertAt t.place (below t.place j) j },below t.place j):=by unfold SetTable.put;dsimp only;rw[hn,KJ];cases t;subst hn;rfl
theorem KN {α:Type}(l:List α) (x:α) (p i:Nat) (hp:p<=l.length):(l.take p++x::l.drop p)[i]?=if i<p then l[i]? else if i=p then some x else l[i - 1]?:=by
 have hl:(l.take p).length=p:=by rw[ji];omega
 by_cases h1:i<p
 ·rw[if_pos h1,fi (by omega),xv h1]
 ·rw[if_neg h1,gw (by omega),hl]
  by_cases h2:i=p
  ·subst h2;rw[if_pos rfl,Nat.sub_self];rfl
  ·rw[if_neg h2];obtain⟨k,rfl⟩:∃k,i=p+(k+1):=⟨i - p - 1,by omega⟩
   rw[show p+(k+1) - p=k+1 by omega,yc,List.getElem?_drop,show p+(k+1) - 1=p+k by omega]
theorem Cn.put {t:gm}{hs:zr}(T:Cn t hs) {h:Int}{n:Nat}(hn:pr t.mask h n∉t.place.toList) (hw:∀m,m<n->pr t.mask h m∈t.place.toList) (hr:hs.length+1<=t.mask):
  Cn { t with place:=insertAt t.place (below t.place (pr t.mask h n)) (pr t.mask h n) } (hs.take (below t.place (pr t.mask h n))++h::hs.drop (below t.place (pr t.mask h n))):=by
 have hb:=(tU (j:=pr t.mask h n) T.rise).2.2;have hs':t.place.toList.length=hs.length:=by rw[<-T.size];simp
 have hlen:(hs.take (below t.place (pr t.mask h n))++h::hs.drop (below t.place (pr t.mask h n))).length=hs.length+1:=by rw[bx,cp,ji,nh];have:=T.size;omega
 refine⟨?_,YE T.rise hn,T.nod, ?_, ?_,T.msk, ?_,T.plain⟩
 ·show(insertAt t.place (below t.place (pr t.mask h n)) (pr t.mask h n)).size=_;rw[hlen];have:(insertAt t.place (below t.place (pr t.mask h n)) (pr t.mask h n)).toList.length=hs.length+1:=by rw[tV _ _ _ hb,bx,cp,ji,nh,hs'];have:=T.size;omega
  simpa using this
 ·intro j hj
  rcases(KL hb).mp hj with rfl|hj
  ·exact BQ h n
  ·exact T.bnd j hj
 ·rw[hlen];exact hr
 ·intro i h' j e1 e2;have Dj:(t.place.toList.take (below t.place (pr t.mask h n))++pr t.mask h n::t.place.toList.drop (below t.place (pr t.mask h n)))[i]?=some j:=by rw[<-tV _ _ _ hb];exact e2
  have hb2:below t.place (pr t.mask h n)<=hs.length:=by rw[<-T.size];exact hb
  rw[KN _ _ _ _ hb2]at e1;rw[KN _ _ _ _ (by rw[hs'];exact hb2)]at Dj;have mono:∀x,x∈t.place.toList->x∈(insertAt t.place (below t.place (pr t.mask h n)) (pr t.mask h n)).toList:=λx hx=>(KL hb).mpr (.inr hx)
  by_cases q1:i<below t.place (pr t.mask h n)
  ·rw[if_pos q1]at e1 Dj;exact(T.way _ _ _ e1 Dj).mono mono
  ·rw[if_neg q1]at e1 Dj
   by_cases q2:i=below t.place (pr t.mask h n)
   ·rw[if_pos q2]at e1 Dj
    cases e1;cases Dj
    exact⟨n,rfl,λm hm=>mono _ (hw m hm)⟩
   ·rw[if_neg q2]at e1 Dj;exact(T.way _ _ _ e1 Dj).mono mono
def gZ (owner:Array (Option Nat)) (j:Nat):Prop:=(owner.getD j (some 0)).isSome=true
theorem KO {P:Nat->Bool}{n:Nat}(h:(bj n).find? P=none):∀k,k<n->P k=false:=by intro k hk;have:=List.find?_eq_none.mp h k (bu.mpr hk);simpa using this
theorem YR {P:Nat->Bool}:∀{n k:Nat},(bj n).find? P=some k->k<n/\P k=true/\∀l,l<k->P l=false:=by
 intro n
 induction n with
 |zero=>intro k h;simp at h
 |succ n ih=>
  intro k h;rw[si,List.find?_append]at h
  cases q:(bj n).find? P with
  |some k'=>rw[q]at h;simp at h;subst h;obtain⟨a,b,c⟩:=ih q;exact⟨by omega,b,c⟩
  |none=>
   rw[q]at h
   by_cases hp:P n=true
   ·simp[hp]at h;subst h;exact⟨by omega,hp,λl hl=>KO q l hl⟩
   ·simp[hp]at h
theorem YS {mask:Nat}{h:Int}{L n:Nat}(e:dM mask h n=pU mask (bs mask h L).1 (bs mask h L).2):dM mask h (n+(runEnd mask (bs mask h L).1 - (bs mask h L).1)+1)=pU mask (bs mask h (L+1)).1 (bs mask h (L+1)).2:=by have r:=wO mask h _ _ n e (runEnd mask (bs mask h L).1 - (bs mask h L).1) (aj _);rw[dM,r];unfold nO;rw[if_neg (by simp)];rfl
theorem YT {mask:Nat}{h:Int}{owner:Array (Option Nat)}:∀(fuel L n:Nat),dM mask h n=pU mask (bs mask h L).1 (bs mask h L).2->(∀k,k<n->gZ owner (pr mask h k))->
  (∃L',L<=L'/\L'<L+fuel/\¬ gZ owner (bs mask h L').1)->
  ∃n,layClean.free mask owner fuel (bs mask h L).1 (bs mask h L).2=some (pr mask h n)/\¬ gZ owner (pr mask h n)/\∀m,m<n->gZ owner (pr mask h m):=by
 intro fuel
 induction fuel with
 |zero=>rintro L n _ _ ⟨L',a,b,_⟩;omega
 |succ f ih=>
  rintro L n e hb ⟨L',a1,a2,a3⟩
  have r:=wO mask h _ _ n e;have hle:(bs mask h L).1<=runEnd mask (bs mask h L).1:=by unfold runEnd;split <;> omega
  rw[layClean.free]
  cases q:(bj (runEnd mask (bs mask h L).1+1 - (bs mask h L).1)).find? λk=>(owner.getD ((bs mask h L).1+k) (some 0)).isNone with
  |some k=>
   obtain⟨b1,b2,b3⟩:=YR q;dsimp only;have ek:pr mask h (n+k)=(bs mask h L).1+k:=by unfold pr;rw[r k (by omega)]
   refine⟨n+k,by rw[ek], ?_,λm hm=>?_⟩
   ·rw[ek];unfold gZ;simp at b2;simp[b2]
   ·rcases ja m n with z|z
    ·exact hb m z
    ·obtain⟨l,rfl⟩:∃l,m=n+l:=⟨m - n,by omega⟩
     have el:pr mask h (n+l)=(bs mask h L).1+l:=by unfold pr;rw[r l (by omega)]
     rw[el];have:=b3 l (by omega);unfold gZ
     cases w:owner.getD ((bs mask h L).1+l) (some 0)with
     |none=>rw[w]at this;simp at this
     |some _=>rfl
  |none=>
   dsimp only;have b:=KO q;have hocc:∀l,l<=runEnd mask (bs mask h L).1 - (bs mask h L).1->gZ owner ((bs mask h L).1+l):=by
    intro l hl;have:=b l (by omega);unfold gZ
    cases w:owner.getD ((bs mask h L).1+l) (some 0)with
    |none=>rw[w]at this;simp at this
    |some _=>rfl
   have hne:L≠L':=by
    rintro rfl
    exact a3 (by simpa using hocc 0 (by omega))
   refine ih (L+1) _ (YS e) (λk hk=>?_) ⟨L',by omega,by omega,a3⟩
   rcases ja k n with z|z
   ·exact hb k z
   ·obtain⟨l,rfl⟩:∃l,k=n+l:=⟨k - n,by omega⟩
    have el:pr mask h (n+l)=(bs mask h L).1+l:=by unfold pr;rw[r l (by omega)]
    rw[el];exact hocc l (by omega)
structure LOk (mask:Nat) (hs:zr) (owner:Array (Option Nat)) (k:Nat):Prop where
 size:owner.size=mask+1
 own:∀(j i:Nat),owner[j]?=some (some i)->i<k/\∃h,hs[i]?=some h/\Way mask (gZ owner) h j
 all:∀(i:Nat),i<k->∃j:Nat,owner[j]?=some (some i)
 inj:∀(j j' i:Nat),owner[j]?=some (some i)->owner[j']?=some (some i)->j=j'
theorem tW {owner:Array (Option Nat)}{j:Nat}(hj:j<owner.size):gZ owner j↔∃i,owner[j]?=some (some i):=by
 unfold gZ;rw[fh hj];simp only[jz,hj,dif_pos,Array.getInternal_eq_getElem,xu]
 cases owner[j] <;> simp
theorem LOk.free {mask k:Nat}{hs:zr}{owner:Array (Option Nat)}(O:LOk mask hs owner k) (hk:k<=mask):∃j,j<=mask/\¬ gZ owner j:=by
 rcases qf (∃j,j<=mask/\¬ gZ owner j)with h|h
 ·exact h
 ·exfalso
  have h1:∀j,j<=mask->∃i,owner[j]?=some (some i):=λj hj=>by
   rcases qf (gZ owner j)with q|q
   ·exact(tW (by rw[O.size];omega)).mp q
   ·exact absurd ⟨j,hj,q⟩ h
  let f:Nat->Nat:=λj=>match owner[j]? with|some (some i)=>i|_=>0
  have hf:∀j,j<=mask->owner[j]?=some (some (f j)):=λj hj=>by obtain⟨i,e⟩:=h1 j hj;show owner[j]?=some (some (match owner[j]? with|some (some i)=>i|_=>0));rw[e]
  have nd:((bj (mask+1)).map f).Nodup:=by rw[xc];rw[qg];refine uk ?_ (qt (n:=mask+1));intro a b ha hb Cq e;have ea:=hf a (by have:=bu.mp ha;omega);have eb:=hf b (by have:=bu.mp hb;omega);rw[e]at ea;exact Cq (O.inj _ _ _ ea eb)
  have sub:∀x,x∈(bj (mask+1)).map f->x∈bj k:=by intro x hx;obtain⟨j,hj,rfl⟩:=cb.mp hx;exact bu.mpr (O.own j _ (hf j (by have:=bu.mp hj;omega))).1
  have:=nd.length_le_of_subset sub;simp at this;omega
theorem LOk.step {mask k:Nat}{hs:zr}{owner:Array (Option Nat)}{h:Int}(g:lP mask) (O:LOk mask hs owner k) (hk:k<=mask) (hh:hs[k]?=some h):
  ∃j,layClean.free mask owner (turns mask) (bits h % (mask+1)) (bits h)=some j/\LOk mask hs (owner.setIfInBounds j (some k)) (k+1):=by
 obtain⟨j0,hj0,hn0⟩:=O.free hk;obtain⟨L,hL,eL⟩:=KG g h hj0;obtain⟨n,e,hn,hw⟩:=YT (mask:=mask) (h:=h) (owner:=owner) (turns mask) 0 0 rfl (λk hk=>absurd hk (by omega)) ⟨L,by omega,by unfold turns;omega,by rw[eL];exact hn0⟩;refine⟨pr mask h n,e, ?_⟩;have hjl:pr mask h n<owner.size:=by rw[O.size];have:=BQ (mask:=mask) h n;omega
 have hjn:owner[pr mask h n]?=some none:=by
  rw[fh hjl];have:¬ ∃i,owner[pr mask h n]?=some (some i):=λq=>hn ((tW hjl).mpr q)
  cases w:owner[pr mask h n]with
  |none=>rfl
  |some i=>exact absurd ⟨i,by rw[fh hjl,w]⟩ this
 have get:∀j,(owner.setIfInBounds (pr mask h n) (some k))[j]?=if pr mask h n=j then some (some k)else owner[j]?:=by
  intro j;rw[Array.getElem?_setIfInBounds]
  by_cases q:pr mask h n=j
  ·rw[if_pos q,if_pos q,if_pos hjl]
  ·rw[if_neg q,if_neg q]
 have Br:(owner.setIfInBounds (pr mask h n) (some k)).size=mask+1:=by rw[Array.size_setIfInBounds];exact O.size
 have occm:∀x,gZ owner x->gZ (owner.setIfInBounds (pr mask h n) (some k)) x:=by
  intro x hx
  by_cases hl:x<owner.size
  ·obtain⟨i,e⟩:=(tW hl).mp hx;refine(tW (by rw[Br,<-O.size];exact hl)).mpr ?_;rw[get]
   by_cases q:pr mask h n=x
   ·exact⟨k,if_pos q⟩
   ·exact⟨i,by rw[if_neg q];exact e⟩
  ·unfold gZ;simp[jz,hl]
 refine⟨Br, ?_, ?_, ?_⟩
 ·intro j i e;rw[get]at e
  by_cases q:pr mask h n=j
  ·rw[if_pos q]at e;cases e;exact⟨by omega,h,hh,n,q,λm hm=>occm _ (hw m hm)⟩
  ·rw[if_neg q]at e;obtain⟨a,h',b,c⟩:=O.own j i e;exact⟨by omega,h',b,c.mono occm⟩
 ·intro i hi
  by_cases q:i=k
  ·subst q;exact⟨pr mask h n,by rw[get,if_pos rfl]⟩
  ·obtain⟨j,e⟩:=O.all i (by omega);refine⟨j, ?_⟩;rw[get]
   by_cases z:pr mask h n=j
   ·rw[<-z,hjn]at e;cases e
   ·rw[if_neg z];exact e
 ·intro j j' i e e';rw[get]at e e'
  by_cases z:pr mask h n=j
  ·rw[if_pos z]at e;cases e
   by_cases z':pr mask h n=j'
   ·exact z.symm.trans z'
   ·rw[if_neg z']at e';have:=(O.own j' _ e').1;omega
  ·rw[if_neg z]at e
   by_cases z':pr mask h n=j'
   ·rw[if_pos z']at e';cases e';have:=(O.own j _ e).1;omega
   ·rw[if_neg z']at e';exact O.inj _ _ _ e e'
theorem KQ {mask:Nat}{hs:zr}(g:lP mask) (hl:hs.length<=mask):∀(l pre:zr) (owner:Array (Option Nat)),hs=pre++l->LOk mask hs owner pre.length->
  ∃owner',l.foldl (λ(acc:Option (Array (Option Nat)×Nat)) h=>do
    let (owner,k) <-acc
    let j <-layClean.free mask owner (turns mask) (bits h % (mask+1)) (bits h)
    pure (owner.setIfInBounds j (some k),k+1)) (some (owner,pre.length))=some (owner',hs.length)/\LOk mask hs owner' hs.length
 | [],pre,owner,e,O=>by rw[rq]at e;subst e;exact⟨owner,rfl,O⟩
 |h::l,pre,owner,e,O=>by
  have hh:hs[pre.length]?=some h:=by rw[e];simp
  obtain⟨j,e1,O1⟩:=O.step g (by rw[e]at hl;simp at hl;omega) hh;have e2:hs=(pre++[h])++l:=by rw[e];simp
  have hlen:(pre++[h]).length=pre.length+1:=by simp
  obtain⟨o',a,b⟩:=KQ g hl l (pre++[h]) _ e2 (by rw[hlen];exact O1);refine⟨o', ?_,b⟩;rw[List.foldl_cons];rw[<-a,hlen]
  congr 1
  show(do let j <-layClean.free mask owner (turns mask) (bits h % (mask+1)) (bits h);pure (owner.setIfInBounds j (some pre.length),pre.length+1))=_;rw[e1];rfl
theorem YU {mask:Nat}{hs:Array Int}(g:lP mask) (hl:hs.size<=mask):∃owner,layClean mask hs=some owner/\LOk mask hs.toList owner hs.size:=by
 have O0:LOk mask hs.toList (Array.replicate (mask+1) none) 0:=by
  refine⟨by simp, ?_,λi hi=>absurd hi (by omega), ?_⟩
  ·intro j i e;rw[xp]at e
   split at e <;> simp at e
  ·intro j j' i e;rw[xp]at e
   split at e <;> simp at e
 obtain⟨o',a,b⟩:=KQ g (by simpa using hl) hs.toList [] _ rfl O0;refine⟨o', ?_,by simpa using b⟩;unfold layClean;rw[<-Array.foldl_toList];simp only[kh]at a;rw[a];rfl
theorem Way.mono' {mask:Nat}{occ occ':Nat->Prop}{h:Int}{j:Nat}(w:Way mask occ h j) (k:∀x,x<=mask->occ x->occ' x):Way mask occ' h j:=let ⟨n,e,a⟩:=w;⟨n,e,λm hm=>k _ (BQ h m) (a m hm)⟩
theorem KR (g:Nat->Option Nat):∀(l:zt),l.Pairwise (·<·)->((l.filterMap λj=>(g j).map ((j,·):Nat->Nat×Nat)).map du).Pairwise (·<·)
 | [],_=>by simp
 |j::l,h=>by
  rw[cu]at h;have ih:=KR g l h.2
  cases e:g j with
  |none=>simpa[cm,e]using ih
  |some i=>
   simp only[cm,e,Option.map_some,df,cu];refine⟨?_,ih⟩;intro a ha;obtain⟨⟨x,y⟩,hp,rfl⟩:=cb.mp ha;obtain⟨z,hz,ez⟩:=jl.mp hp
   cases q:g z with
   |none=>rw[q]at ez;simp at ez
   |some i'=>rw[q]at ez;simp at ez;have:=h.1 z hz;omega
theorem YV {mask finger moves:Nat}{led:Bool}{hs:Array Int}(g:lP mask) (hl:hs.size<=mask):
  ∃t order,laid mask finger moves led true hs=some (t,order)/\t.mask=mask/\t.led=led/\order.toList.Perm (bj hs.size)/\Cn t (order.toList.filterMap (hs.toList[·]?)):=by
 obtain⟨owner,e,O⟩:=YU g hl;generalize hlive:(bj (mask+1)).filterMap (λj=>(owner.getD j none).map ((j,·):Nat->Nat×Nat))=live;have Ck:∀j i,(j,i)∈live↔owner[j]?=some (some i):=by
  intro j i;rw[<-hlive,jl];constructor
  ·rintro ⟨x,hx,ex⟩
   have hx':x<owner.size:=by rw[O.size];exact bu.mp hx
   have eg:owner.getD x none=owner[x]:=by simp[jz,hx']
   rw[eg]at ex
   cases q:owner[x]with
   |none=>rw[q]at ex;simp at ex
   |some i'=>rw[q]at ex;simp at ex;obtain⟨rfl,rfl⟩:=ex;rw[fh hx',q]
  ·intro h;obtain⟨hx',q⟩:=dm.mp h;refine⟨j,bu.mpr (by rw[<-O.size];exact hx'), ?_⟩;have eg:owner.getD j none=owner[j]:=by simp[jz,hx']
   rw[eg,q];rfl
 have hrise:(live.map du).Pairwise (·<·):=by rw[<-hlive];exact KR _ _ (yh)
 have Cj:(live.map pf).Perm (bj hs.size):=by
  refine(ku ?_ qt).mpr ?_
  ·rw[xc,qg];rw[qg]at hrise;refine uk ?_ hrise
   rintro ⟨a,i⟩ ⟨b,i'⟩ ha hb Cq e
   have e':i=i':=e;subst e';have:=O.inj a b i ((Ck _ _).mp ha) ((Ck _ _).mp hb);have hab':a<b:=Cq;omega
  ·intro i;rw[bu];constructor
   ·intro h;obtain⟨⟨j,i'⟩,hp,rfl⟩:=cb.mp h;exact(O.own j i' ((Ck _ _).mp hp)).1
   ·intro h;obtain⟨j,ej⟩:=O.all i h;exact cb.mpr ⟨(j,i),(Ck _ _).mpr ej,rfl⟩
 have hlen:live.length=hs.size:=by simpa using Cj.length_eq
 have hget:∀(i:Nat),((live.map pf).filterMap (hs.toList[·]?))[i]?=(live[i]?).bind λp=>hs.toList[p.2]?:=by
  have gen:∀(l:List (Nat×Nat)),(∀p∈l,p.2<hs.toList.length)->∀(i:Nat),((l.map pf).filterMap (hs.toList[·]?))[i]?=(l[i]?).bind λp=>hs.toList[p.2]?:=by
   intro l
   induction l with
   |nil=>intro _ i;simp
   |cons p l ih=>
    intro hp i;have h1:=hp p (ax ..);have e1:hs.toList[p.2]?=some hs.toList[p.2]:=ba h1;rw[df,cm,e1]
    cases i with
    |zero=>simp[e1]
    |succ i=>simp only[yc];exact ih (λq hq=>hp q (aq _ hq)) i
  intro i;refine gen live ?_ i
  rintro ⟨j,k⟩ hp
  have:=(O.own j k ((Ck _ _).mp hp)).1;simpa using this
 have hlen':((live.map pf).filterMap (hs.toList[·]?)).length=hs.size:=by
  have gen:∀(l:List (Nat×Nat)),(∀p∈l,p.2<hs.toList.length)->((l.map pf).filterMap (hs.toList[·]?)).length=l.length:=by
   intro l
   induction l with
   |nil=>intro _;rfl
   |cons p l ih=>intro hp;have h1:=hp p (ax ..);have e1:hs.toList[p.2]?=some hs.toList[p.2]:=ba h1;rw[df,cm,e1];show(_::_).length=_;rw[cp,cp,ih (λq hq=>hp q (aq _ hq))]
  rw[gen live ?_,hlen]
  rintro ⟨j,k⟩ hp
  have:=(O.own j k ((Ck _ _).mp hp)).1;simpa using this
 refine⟨{ mask,place:=(live.map du).toArray,dummies:=#[],finger,led,moves,plain:=true },(live.map pf).toArray, ?_,rfl,rfl,Cj, ?_⟩
 ·unfold laid;rw[e];show some _=some _;rw[hlive]
 ·refine⟨(by show(live.map du).toArray.size=((live.map pf).filterMap (hs.toList[·]?)).length;rw[hlen',av,aw,hlen]),hrise,rfl, ?_,by rw[hlen'];exact hl,g, ?_,rfl⟩
  ·intro j hj;obtain⟨⟨x,y⟩,hp,rfl⟩:=cb.mp (show j∈live.map du from hj);have:=(Ck _ _).mp hp;obtain⟨hx',_⟩:=dm.mp this;have:=O.size;show x<=mask;omega
  ·intro i h j e1 e2;have e1':((live.map pf).filterMap (hs.toList[·]?))[i]?=some h:=e1;rw[hget]at e1';have Dj:(live.map du)[i]?=some j:=e2;rw[dz]at Dj
   cases q:live[i]? with
   |none=>rw[q]at Dj;cases Dj
   |some p=>
    obtain⟨x,k⟩:=p;rw[q]at e1' Dj;simp at e1' Dj;subst Dj;have hp:=dg q;obtain⟨a,h',b,c⟩:=O.own x k ((Ck _ _).mp hp);have hh:h'=h:=by
     have:hs.toList[k]?=some h:=by simpa using e1'
     rw[b]at this;exact cw this
    subst hh;refine c.mono' λy hy ho=>?_;obtain⟨i',ei⟩:=(tW (by rw[O.size];omega)).mp ho;exact cb.mpr ⟨(y,i'),(Ck _ _).mpr ei,rfl⟩
end SM
namespace SR
open PySem PySem.Spec PyProof.Rows SM
section
variable{prog:bf}{w:cf}
def hk (prog:bf) (w:cf) (k:zr):Int:=tupleKeyHash (intKind prog w) k
abbrev KB:=List (zr×ah)
def gO (prog:bf) (w:cf) (kb:KB):List (Int×af):=kb.map λp=>(hk prog w p.1,gh p.2)
structure Ap (prog:bf) (w:cf) (h:cx) (a:ah) (kb:KB) (o:Obj) (es:Array (Int×af)) (ep:Nat) (t:gm):Prop where
 obj:h.get? a=some o
 ex:o.ExactSet
 data:o.data=.set es ep t
 es:es.toList=gO prog w kb
 tab:Cn t (kb.map λp=>hk prog w p.1)
 nd:(kb.map du).Nodup
 nf:kb.length*5<t.mask*3
 led:t.led=!w.params.followText "set-order"
def kX (prog:bf) (w:cf) (h:cx) (a:ah) (kb:KB):Prop:=∃o es ep t,Ap prog w h a kb o es ep t
def wR (prog:bf) (w:cf) (h:cx) (kb:KB):Prop:=∀p∈kb,gb (intKind prog w) h p.1 p.2
variable{h:cx}{a:ah}{kb:KB}{o:Obj}{es:Array (Int×af)}{ep:Nat}{t:gm}
theorem Ap.size (P:Ap prog w h a kb o es ep t):es.size=kb.length:=by have:=congrArg nr P.es;simpa[gO]using this
theorem Ap.fits (P:Ap prog w h a kb o es ep t):t.fits es.size=true:=by have:=P.tab.fits;rw[aw]at this;rw[P.size];exact this
theorem Ap.at_ (P:Ap prog w h a kb o es ep t) {i:Nat}{p:zr×ah}(e:kb[i]?=some p):es[i]?=some (hk prog w p.1,.ref p.2):=by
 have:es.toList[i]?=some (hk prog w p.1,gh p.2):=by rw[P.es];simp[gO,e]
 simpa using this
theorem Ap.hash_at (P:Ap prog w h a kb o es ep t) {i:Nat}{p:zr×ah}(e:kb[i]?=some p):(es[i]?.map (·.1)).getD 0=hk prog w p.1:=by rw[P.at_ e];rfl
end
section
variable{prog:bf}{w:cf}{A:cg}{E:af->ag->Prop}{s:ag}{a:ah}{kb:KB}{o:Obj}{es:Array (Int×af)}{ep:Nat}{t:gm}
theorem KS {ks:zr}{b:ah}{Q:Bool->ag->Prop}(hb:gb (intKind prog w) s.heap ks b) (h:Q false s):wpAny (model prog w) A (ofAClassStatement 8 (.ref b)) Q E s:=by
 obtain⟨o,items,n,ho,hc,hd,hi⟩:=hb;unfold ofAClassStatement;refine ae (qd (T := "tuple") ⟨o,ho,hc⟩ ?_);show wpAny _ _ ((if(("tuple" : String) == "tuple")=true then(pure true:Sem Bool)else isSubtype (.type "tuple") (.type "tuple")) >>= _) _ _ s;rw[if_pos (by decide)];refine ae (ai ?_);simp only[nj,cn,if_false];refine ae (gq ho hd ?_);refine ae ?_;show wpAny _ _ (forIn items _ _) _ _ s;rw[<-zl];refine om _ (λrest r s'=>r.1=none/\s'=s/\∀v∈rest,carriedByValue v=true) _ ?_ ?_ _ _ ⟨rfl,rfl,hi.byValue⟩
 ·rintro v rest r s' ⟨hr,rfl,Cd⟩
  have hv:=Cd v ax;have e:ofAClassStatement 7 v=pure false:=by
   cases v with
   |ref a=>simp[carriedByValue]at hv
   |_=>rfl
  rw[e];refine ae (ai ?_);simp only[cn,if_false];exact ai ⟨rfl,rfl,λu Aw=>Cd u (aq _ Aw)⟩
 ·rintro ⟨r1,r2⟩ s' ⟨hr,rfl,_⟩
  simp only at hr;subst hr;exact ai h
theorem YW {k:zr}{b:ah}{Q:Bool->ag->Prop}(hb:gb (intKind prog w) s.heap k b):∀(l:List af),(∀y∈l,∃k' b',y=.ref b'/\gb (intKind prog w) s.heap k' b')->Q false s->
  wpAny (model prog w) A (searchCouldBeSeen (.ref b) l) Q E s:=by
 intro l hl h;unfold searchCouldBeSeen;refine ae ?_;refine om _ (λrest r s'=>r.1=none/\s'=s/\∀y∈rest,∃k' b',y=.ref b'/\gb (intKind prog w) s.heap k' b') _ ?_ ?_ _ _ ⟨rfl,rfl,hl⟩
 ·rintro y rest r s' ⟨hr,rfl,Cd⟩
  obtain⟨k',b',rfl,hb'⟩:=Cd y ax;have fin:r.1=none/\s'=s'/\∀y∈rest,∃k' b',y=.ref b'/\gb (intKind prog w) s'.heap k' b':=⟨hr,rfl,λu hu=>Cd u (aq _ hu)⟩
  dsimp only
  split
  ·exact ai ⟨rfl,rfl,fin.2.2⟩
  ·refine ae (wpAny_eqIsQuiet_tuple hb ?_);simp only[nj,cn,if_false];refine ae (wpAny_eqIsQuiet_tuple hb' ?_);simp only[nj,cn,if_false];refine ae (KS hb ?_);simp only[cn,if_false];refine ae (KS hb' ?_);simp only[cn,if_false];exact ai ⟨rfl,rfl,fin.2.2⟩
 ·rintro ⟨r1,r2⟩ s' ⟨hr,rfl,_⟩
  simp only at hr;subst hr;exact ai h
end
section
variable{prog:bf}{w:cf}{A:cg}{E:af->ag->Prop}{s:ag}{a:ah}{kb:KB}{o:Obj}{es:Array (Int×af)}{ep:Nat}{t:gm}{k:zr}{b:ah}
theorem mem_keys {kb:KB}{k:zr}:k∈kb.map du↔∃(i:Nat) (b:ah),kb[i]?=some (k,b):=by
 constructor
 ·intro h;obtain⟨⟨k',b⟩,hp,rfl⟩:=cb.mp h;obtain⟨i,hi,e⟩:=ju hp;exact⟨i,b,by rw[ba hi,e]⟩
 ·rintro ⟨i,b,e⟩
  exact cb.mpr ⟨(k,b),dg e,rfl⟩
theorem YX (P:Ap prog w s.heap a kb o es ep t) (T:wR prog w s.heap kb) (hb:gb (intKind prog w) s.heap k b) (hu:A.units<cLine) {Q:SetFound->ag->Prop}
  (Cc:k∈kb.map du->Q (.there none) s)
  (Bs:k∉kb.map du->∀n,pr t.mask (hk prog w k) n∉t.place.toList->(∀m,m<n->pr t.mask (hk prog w k) m∈t.place.toList)->Q (.free (pr t.mask (hk prog w k) n) false) s)
  (N:Nat) (hN:N<10*rj t.mask) (hNe:pr t.mask (hk prog w k) N∉t.place.toList):
  ∀(fuel n:Nat) (stand:Option SetTable.Probe),stand.getD (t.probeStart (hk prog w k))=dM t.mask (hk prog w k) n->n<=N->N - n<fuel->
   (∀l,l<n->pr t.mask (hk prog w k) l∈t.place.toList/\∀(i:Nat) p,t.place.toList[i]?=some (pr t.mask (hk prog w k) l)->kb[i]?=some p->p.1≠k)->
   wpAny (model prog w) A (setSearchFrom a (.ref b) (hk prog w k) true fuel stand) Q E s:=by
 intro fuel
 induction fuel with
 |zero=>intro n stand _ _ h2;omega
 |succ f ih=>
  intro n stand hst h1 h2 hseen;have hlen:t.place.toList.length=kb.length:=by have:=P.tab.size;simpa using this
  have kbat:∀{i j:Nat},t.place.toList[i]?=some j->∃p,kb[i]?=some p:=λ{i j} e=>by obtain⟨hi,_⟩:=bq.mp e;exact⟨kb[i]'(by omega),ba (by omega)⟩
  unfold setSearchFrom;refine ae (jh P.obj P.data P.fits ?_);dsimp only;rw[P.tab.gave];simp only[cn,if_false];obtain⟨m,a1,a2,a3,a4⟩:=YO P.tab (λi=>(es[i]?.map (·.1)).getD 0) (hk prog w k) (10*rj t.mask) n N h1 (by omega) hNe;have pass:∀l,l<m->pr t.mask (hk prog w k) l∈t.place.toList/\∀(i:Nat) p,t.place.toList[i]?=some (pr t.mask (hk prog w k) l)->kb[i]?=some p->p.1≠k:=by
   intro l hl
   rcases ja l n with q|q
   ·exact hseen l q
   ·obtain⟨b1,b2⟩:=a3 l q hl;refine⟨b1,λi p e1 e2 e3=>b2 i e1 ?_⟩;show(es[i]?.map (·.1)).getD 0=_;rw[P.hash_at e2,e3]
  rcases a4 with⟨b1,b2⟩|⟨i,b1,b2,b3⟩
  ·have e:∀g:Nat->Int,g=(λi=>(es[i]?.map (·.1)).getD 0)->t.probe g (hk prog w k) (stand.getD (t.probeStart (hk prog w k)))=some (.empty (pr t.mask (hk prog w k) m) none):=by rintro g rfl;rw[hst];exact b2
   rw[e]
   rotate_left
   ·rfl
   refine ai (Bs ?_ m b1 λl hl=>(pass l hl).1);intro Ck;obtain⟨i,b',ei⟩:=mem_keys.mp Ck;obtain⟨j,ej⟩:∃j,t.place.toList[i]?=some j:=by obtain⟨hi,_⟩:=bq.mp ei;exact⟨_,ba (by omega)⟩
   obtain⟨n',hn',e'⟩:=P.tab.before (i:=i) (h:=hk prog w k) (by rw[dz,ei];rfl) ej b1;exact(pass n' hn').2 i (k,b') (by rw[e'];exact ej) ei rfl
  ·have e:∀g:Nat->Int,g=(λi=>(es[i]?.map (·.1)).getD 0)->t.probe g (hk prog w k) (stand.getD (t.probeStart (hk prog w k)))=some (.candidate (pr t.mask (hk prog w k) m) i (dM t.mask (hk prog w k) (m+1))):=by rintro g rfl;rw[hst];exact b3
   rw[e]
   rotate_left
   ·rfl
   dsimp only;obtain⟨p,ep'⟩:=kbat b1;have hp:=T p (dg ep');have es1:t.sameMemory t.moves t.mask=some true:=by unfold SetTable.sameMemory;simp
   obtain⟨i2,e2,e3⟩:=P.tab.slot_live (dg b1);have hi2:i2=i:=BP P.tab.rise e3 b1;subst hi2;have kY:¬ p.1=k->wpAny (model prog w) A (setSearchFrom a (.ref b) (hk prog w k) true f (some (dM t.mask (hk prog w k) (m+1)))) Q E s:=by
    intro hpk;have hmN:m≠N:=by rintro rfl;exact hNe (dg b1)
    refine ih (m+1) _ rfl (by omega) (by omega) ?_
    ·intro l hl
     rcases ja l m with q|q
     ·exact pass l q
     ·have:l=m:=by omega
      subst this;refine⟨dg b1,λi' p' z1 z2=>?_⟩;have:i'=i2:=BP P.tab.rise z1 b1;subst this;rw[ep']at z2;cases z2;exact hpk
   cases hl:t.led
   case' true=>simp only[nj,cn,if_false]
   case' false=>
    simp only[Bool.not_false,if_true];refine ae (YW hb _ ?_ ?_)
    ·intro y hy;obtain⟨e1,he1,rfl⟩:=cb.mp hy;have he2:=(Array.mem_filter.mp (yr.mp he1)).1;have he3:e1∈gO prog w kb:=by rw[<-P.es];exact yr.mpr he2
     obtain⟨q,hq,rfl⟩:=cb.mp he3;exact⟨q.1,q.2,rfl,T q hq⟩
    simp only[cn,if_false]
   all_goals
    rw[P.at_ ep'];dsimp only;refine ae (fw (wpAny_eqBool_tuple hu hp hb ?_));refine ae (jh P.obj P.data P.fits ?_);dsimp only
    by_cases hpk:p.1=k
    ·rw[decide_eq_true hpk];simp only[xw,if_true];exact ai (Cc (mem_keys.mpr ⟨i2,p.2,by rw[ep',<-hpk]⟩))
    ·rw[decide_eq_false hpk];simp only[pd,cn,if_false];rw[es1];dsimp only;simp only[if_true];rw[e2];dsimp only;rw[P.at_ ep'];dsimp only;refine ae (wpAny_isSame_ref_self ?_);refine ae (ai ?_);simp only[if_true];exact kY hpk
theorem YY (P:Ap prog w s.heap a kb o es ep t) (T:wR prog w s.heap kb) (hb:gb (intKind prog w) s.heap k b) (hu:A.units<cLine) {Q:SetFound->ag->Prop}
  (Cc:k∈kb.map du->Q (.there none) s)
  (Bs:k∉kb.map du->∀n,pr t.mask (hk prog w k) n∉t.place.toList->(∀m,m<n->pr t.mask (hk prog w k) m∈t.place.toList)->Q (.free (pr t.mask (hk prog w k) n) false) s):
  wpAny (model prog w) A (setSearch a (.ref b) (hk prog w k) true) Q E s:=by
 obtain⟨N,hN,hNe⟩:=P.tab.stops (hk prog w k);have hm:10*rj t.mask<=1420:=by
  unfold rj
  rcases P.tab.msk with e|e|e <;> rw[e] <;> decide
 exact YX P T hb hu Cc Bs N hN hNe 100000 0 none rfl (jd _) (by omega) λl hl=>absurd hl (by omega)
theorem YZ {Q:Bool->ag->Prop}(hb:gb (intKind prog w) s.heap k b) (h:Q true s):wpAny (model prog w) A (hashByValue 8 (.ref b)) Q E s:=by
 have hT:=hb.typeIs;obtain⟨o,items,n,ho,hc,hd,hi⟩:=hb;unfold hashByValue;refine ae (wpAny_specialOf hT F.slot_tuple_hash.lookup ?_);dsimp only;refine ae (gq ho hd ?_);refine ae ?_;show wpAny _ _ (forIn items _ _) _ _ s;rw[<-zl];have hv:∀v∈items.toList,∃i t,v=.int i t:=by
  clear hd ho
  generalize items.toList=l at hi
  induction hi with
  |nil=>intro v h;cases h
  |cons h1 _ ih=>
   intro v hv
   rcases az.mp hv with rfl|hv
   ·obtain⟨t,e⟩:=mq h1;exact⟨_,t,e⟩
   ·exact ih v hv
 refine om _ (λrest r s'=>r.1=none/\s'=s/\∀v∈rest,∃i t,v=.int i t) _ ?_ ?_ _ _ ⟨rfl,rfl,hv⟩
 ·rintro v rest r s' ⟨hr,rfl,Cd⟩
  obtain⟨i,t,rfl⟩:=Cd v ax;refine ae (ai ?_);simp only[nj,cn,if_false];exact ai ⟨rfl,rfl,λu Aw=>Cd u (aq _ Aw)⟩
 ·rintro ⟨r1,r2⟩ s' ⟨hr,rfl,_⟩
  simp only at hr;subst hr;exact ai h
end
section
variable{prog:bf}{w:cf}{A:cg}{E:af->ag->Prop}{s:ag}{a:ah}{kb:KB}{o:Obj}{es:Array (Int×af)}{ep:Nat}{t:gm}{k:zr}{b:ah}
theorem Y0 (p:Nat):(gO prog w kb).take p++(hk prog w k,gh b)::(gO prog w kb).drop p=gO prog w (kb.take p++(k,b)::kb.drop p):=by simp[gO,xx,qj]
theorem Y1 (p:Nat):(kb.map λq=>hk prog w q.1).take p++hk prog w k::(kb.map λq=>hk prog w q.1).drop p=(kb.take p++(k,b)::kb.drop p).map λq=>hk prog w q.1:=by simp[xx,qj]
theorem oU {α:Type}(l:List α) (x:α) (p:Nat):(l.take p++x::l.drop p).Perm (x::l):=by have h:(l.take p++x::l.drop p).Perm (x::(l.take p++l.drop p)):=List.perm_middle;rwa [ie]at h
theorem BR {p:Nat}(h:(kb.map du).Nodup) (hk:k∉kb.map du):((kb.take p++(k,b)::kb.drop p).map du).Nodup:=by have q:=(oU kb (k,b) p).map du;exact q.nodup_iff.mpr (ib.mpr ⟨hk,h⟩)
theorem KU {es':Array (Int×af)}{t':gm}(hd:o.data=.set es ep t) (ho:s.heap.get? a=some o):(s.heap.update a (Obj.putSet es' t')).get? a=some { o with data:=.set es' (ep+1) t' }:=by have:=jm (Obj.putSet es' t') ho (by rw[putSet_of es' t' hd];rfl);rw[putSet_of es' t' hd]at this;exact this
theorem KW {α:Type}:∀(l:List α),(bj l.length).filterMap (λi=>l[i]?)=l
 | []=>rfl
 |x::l=>by
  rw[cp,yg,cm];simp only[List.getElem?_cons_zero,List.filterMap_map]
  congr 1
  exact KW l
theorem KY {kb:KB}{mask' wanted:Nat}{Q:Unit->ag->Prop}(ho:s.heap.get? a=some o) (hex:o.ExactSet) (hd:o.data=.set es ep t) (hes:es.toList=gO prog w kb) (hT:Cn t (kb.map λp=>hk prog w p.1)) (nd:(kb.map du).Nodup) (hled:t.led=!w.params.followText "set-order")
  (hw:yi wanted - 1=mask') (hg:lP mask') (hl:kb.length*5<mask'*3) (hz:yi wanted<=bz)
  (h:∀h' Cw,iu a s.heap h'->kX prog w h' a Cw->Cw.Perm kb->Q () { s with heap:=h' }):
  wpAny (model prog w) A (setRelay a wanted) Q E s:=by
 have Br:es.size=kb.length:=by have:=congrArg nr hes;simpa[gO]using this
 have hfit:t.fits es.size=true:=by have:=hT.fits;rw[aw]at this;rw[Br];exact this
 have eh:(es.map (·.1)).toList=kb.map λp=>hk prog w p.1:=by rw[Array.toList_map,hes];simp[gO]
 have hs':(es.map (·.1)).size=kb.length:=by simp[Br]
 unfold setRelay;refine ae (jh ho hd hfit ?_);dsimp only;rw[if_neg (by omega)];obtain⟨t',order,e1,e2,e3,e4,e5⟩:=YV (mask:=mask') (finger:=t.finger) (moves:=t.movedTo mask') (led:=t.led) (hs:=es.map (·.1)) hg (by rw[hs'];omega);have er:t.relaid (es.map (·.1)) wanted=some (t',order):=by unfold SetTable.relaid;rw[hw,hT.plain];exact e1
 rw[er];have hlt:∀i∈order.toList,i<kb.length:=λi hi=>by have:=bu.mp (e4.mem_iff.mp hi);omega
 have hfm:∀(l:zt),(∀i∈l,i<kb.length)->l.filterMap (λi=>es[i]?)=gO prog w (l.filterMap λi=>kb[i]?):=by
  intro l hl
  induction l with
  |nil=>rfl
  |cons i l ih=>
   have hi:=hl i ax;have q1:kb[i]?=some kb[i]:=ba hi;have q2:es[i]?=some (hk prog w kb[i].1,gh kb[i].2):=by
    have:es.toList[i]?=some (hk prog w kb[i].1,gh kb[i].2):=by rw[hes];simp[gO,q1]
    simpa using this
   rw[cm,cm,q1,q2];simp only;rw[ih λj hj=>hl j (aq _ hj)];rfl
 have hkey:∀(l:zt),(∀i∈l,i<kb.length)->l.filterMap (λi=>(es.map (·.1)).toList[i]?)=(l.filterMap λi=>kb[i]?).map λp=>hk prog w p.1:=by
  intro l hl
  induction l with
  |nil=>rfl
  |cons i l ih=>
   have hi:=hl i ax;have q1:kb[i]?=some kb[i]:=ba hi;have q2:(es.map (·.1)).toList[i]?=some (hk prog w kb[i].1):=by rw[eh];simp[q1]
   rw[cm,cm,q1,q2];simp only;rw[ih λj hj=>hl j (aq _ hj)];rfl
 have Cj:(order.toList.filterMap λi=>kb[i]?).Perm kb:=by have q:=e4.filterMap (λi=>kb[i]?);rw[hs']at q;exact q.trans (List.Perm.of_eq (KW kb))
 have hes2:(order.filterMap (es[·]?)).toList=gO prog w (order.toList.filterMap λi=>kb[i]?):=by rw[Array.toList_filterMap];exact hfm _ hlt
 have hsz2:(order.filterMap (es[·]?)).size=es.size:=by have:=congrArg nr hes2;rw[lh]at this;rw[this,Br];simp[gO,Cj.length_eq]
 show wpAny _ _ ((if((order.filterMap (es[·]?)).size != es.size)=true then(unsupported "internal:set-table-lost-an-element" >>= λ_=>pure (order.filterMap (es[·]?),t'))else pure (order.filterMap (es[·]?),t')) >>= _) _ _ s;rw[if_neg (by rw[hsz2];simp)];refine ae (ai ?_);dsimp only;refine wpAny_storeSet_of ho hd ?_ (by rw[hsz2,Br];rcases hg with q|q|q <;> (rw[q]at hl;rw[jf];omega));refine h _ (order.toList.filterMap λi=>kb[i]?) (my ..) ⟨_,_,_,t',KU hd ho,hex,rfl,hes2, ?_, ?_, ?_,e3.trans hled⟩ Cj
 ·rw[<-hkey _ hlt];exact e5
 ·exact(Cj.map du).nodup_iff.mpr nd
 ·rw[Cj.length_eq,e2];exact hl
theorem Y2 (P:Ap prog w s.heap a kb o es ep t) (T:wR prog w s.heap kb) (hb:gb (intKind prog w) s.heap k b) (hu:A.units<cLine) (h76:k∉kb.map du->kb.length+1<=76) {Q:Bool->ag->Prop}
  (h:∀h' Cw r,iu a s.heap h'->kX prog w h' a Cw->(k∈kb.map du->Cw.Perm kb)->(k∉kb.map du->Cw.Perm ((k,b)::kb))->Q r { s with heap:=h' }):
  wpAny (model prog w) A (setAddHashed a (.ref b) (hk prog w k)) Q E s:=by
 unfold setAddHashed;refine fw ?_;unfold setAddHashedIn;refine ae (jh P.obj P.data P.fits ?_);dsimp only;have hbs:byScan (.ref b) es=false:=by simp[byScan,Value.scannable]
 rw[hbs];simp only[cn,if_false];refine ae (YY P T hb hu (λCc=>?_) λBs n hn hw=>?_)
 ·dsimp only;refine ai ?_;have:=h s.heap kb false (sj ..) ⟨o,es,ep,t,P⟩ (λ_=>.refl _) λq=>absurd Cc q;exact this
 ·dsimp only;refine ae (jh P.obj P.data P.fits ?_);dsimp only;rw[YQ P.tab.nod];dsimp only;rw[if_pos P.tab.plain];refine ae (YZ hb ?_);simp only[if_true];have hlen:=P.nf;have hmask:=P.tab.msk;have hroom:(kb.map λp=>hk prog w p.1).length+1<=t.mask:=by
   rw[aw]
   rcases hmask with q|q|q <;> (rw[q]at hlen ⊢;omega)
  have T2:=P.tab.put (h:=hk prog w k) (n:=n) hn hw hroom;have hbl:=(tU (j:=pr t.mask (hk prog w k) n) P.tab.rise).2.2;generalize hp:rl t.place (pr t.mask (hk prog w k) n)=p at T2 hbl ⊢;rw[Y1 (b:=b)]at T2;have hesl:(jb es p (hk prog w k,gh b)).toList=gO prog w (kb.take p++(k,b)::kb.drop p):=by rw[tV _ _ _ (by rw[P.size,<-show t.place.size=kb.length from by have:=P.tab.size;simpa using this];exact hbl),P.es,Y0]
  have Br:(jb es p (hk prog w k,gh b)).size=kb.length+1:=by have:=congrArg nr hesl;simp only[gO,aw,lh]at this;rw[this,(oU kb (k,b) p).length_eq];rfl
  refine ae (wpAny_storeSet_of P.obj P.data ?_ (by rw[Br,jf];have:=h76 Bs;omega));have Cy:(kb.take p++(k,b)::kb.drop p).length=kb.length+1:=(oU kb (k,b) p).length_eq;have ho2:=KU (s:=s) (es':=jb es p (hk prog w k,gh b)) (t':={ t with place:=jb t.place p (pr t.mask (hk prog w k) n) }) P.data P.obj;have fill:({ t with place:=jb t.place p (pr t.mask (hk prog w k) n) }:gm).tooFull=decide ((kb.length+1)*5>=t.mask*3):=by unfold SetTable.tooFull SetTable.fill;have e1:=T2.size;rw[aw,Cy]at e1;have e1':(jb t.place p (pr t.mask (hk prog w k) n)).size=kb.length+1:=e1;dsimp only;rw[P.tab.nod,e1'];rfl
  simp only[Bool.not_false,xw];rw[fill];have fin:∀h' Cw,iu a (s.heap.update a (Obj.putSet (jb es p (hk prog w k,gh b)) { t with place:=jb t.place p (pr t.mask (hk prog w k) n) })) h'->kX prog w h' a Cw->
    Cw.Perm (kb.take p++(k,b)::kb.drop p)->Q true { s with heap:=h' }:=λh' Cw sb st pm=>
   h h' Cw true ((my ..).trans sb) st (λq=>absurd q Bs) λ_=>pm.trans (oU kb (k,b) p)
  by_cases full:(kb.length+1)*5>=t.mask*3
  ·rw[decide_eq_true full,if_pos rfl];have h76':=h76 Bs;have hcase:(t.mask=7/\kb.length=4)∨(t.mask=31/\kb.length=18):=by
    rcases hmask with q|q|q
    ·left;rw[q]at hlen full;exact⟨q,by omega⟩
    ·right;rw[q]at hlen full;exact⟨q,by omega⟩
    ·rw[q]at full;omega
   have es0:es.size=kb.length:=P.size
   rcases hcase with⟨q1,q2⟩|⟨q1,q2⟩
   ·refine ae (KY (mask':=31) (kb:=kb.take p++(k,b)::kb.drop p) ho2 P.ex rfl hesl T2 (BR P.nd Bs) P.led (by rw[es0,q2];decide) (.inr (.inl rfl)) (by rw[Cy,q2];decide) (by rw[es0,q2,jf];decide) λh' Cw sb st pm=>ai (fin h' Cw sb st pm))
   ·refine ae (KY (mask':=127) (kb:=kb.take p++(k,b)::kb.drop p) ho2 P.ex rfl hesl T2 (BR P.nd Bs) P.led (by rw[es0,q2];decide) (.inr (.inr rfl)) (by rw[Cy,q2];decide) (by rw[es0,q2,jf];decide) λh' Cw sb st pm=>ai (fin h' Cw sb st pm))
  ·rw[decide_eq_false full,if_neg ij];refine ai (fin _ _ (sj ..) ⟨_,_,_,_,ho2,P.ex,rfl,hesl,T2,BR P.nd Bs, ?_,P.led⟩ (.refl _));rw[Cy];exact Nat.lt_of_not_le full
end
theorem Ap.keep {prog:bf}{w:cf}{h h':cx}{a:ah}{kb:KB}(S:kX prog w h a kb) (k:∀o,h.get? a=some o->h'.get? a=some o):kX prog w h' a kb:=by obtain⟨o,es,ep,t,P⟩:=S;exact⟨o,es,ep,t,k o P.obj,P.ex,P.data,P.es,P.tab,P.nd,P.nf,P.led⟩
theorem wU {prog:bf}{w:cf}{h h':cx}{ks:zr}{a:ah}(x:gb (intKind prog w) h ks a) (k:∀o,h.get? a=some o->h'.get? a=some o):gb (intKind prog w) h' ks a:=by obtain⟨o,items,n,ho,r⟩:=x;exact⟨o,items,n,k o ho,r⟩
section
variable{prog:bf}{w:cf}{A:cg}{R:xk->ag->Prop}{I:ah}{fp wr:List ah}{n:Nat}{P:Nat->af->Prop}{St:Nat->cx->Prop}
structure Upto (ky:Nat->zr) (ad:Nat->ah) (i:Nat) (kb:KB):Prop where
 from_:∀p∈kb,∃j,j<i/\p=(ky j,ad j)
 all:∀j,j<i->ky j∈kb.map du
theorem Y3 (W:Walks prog w A.in1 I fp wr n P St) (S:ah) (hSf:S∉fp) (ad:Nat->ah) (ky:Nat->zr) (hval:∀i v,P i v->v=.ref (ad i)) (hu:A.units+2<cLine)
  (U:wo) (hU:U.length<=76) (hky:∀i,i<n->ky i∈U) (hS:∀i,i<n->ad i≠S/\ad i∉wr):
  ∀(m i:Nat) (s:ag) (kb:KB),n - i=m->i<=n->St i s.heap->kX prog w s.heap S kb->Upto ky ad i kb->(∀j,j<n->gb (intKind prog w) s.heap (ky j) (ad j))->
   (∀h' tk Cw,(∀b o,b∉S::wr->s.heap.get? b=some o->h'.get? b=some o)->kX prog w h' S Cw->Upto ky ad n Cw->R (.ok (.ret .none)) { s with heap:=h',toks:=tk })->
   codeAny (model prog w) A (.builtin "set.update.loop" ⟨[.ref S,.ref I],[]⟩) R s:=by
 have hSw:S∉wr:=λh=>hSf (W.sub _ h);intro m
 induction m with
 |zero=>
  intro i s kb hk hi hst hT Dc Cz hR;have Cc:i=n:=by omega
  subst Cc;refine kr F.entry_set_update_loop ?_;rw[jn F.plain_set_update_loop _];show wpAny _ A.in1 (pyNext (.ref I) >>= _) _ _ s;refine ae (W.done s _ _ hst λh' tk hm=>?_);exact ai (hR h' tk kb (λb o hb e=>hm b o (λz=>hb (aq _ z)) e) (Ap.keep hT λo e=>hm S o hSw e) Dc)
 |succ m ih=>
  intro i s kb hk hi hst hT Dc Cz hR;have hlt:i<n:=by omega
  refine kr F.entry_set_update_loop ?_;rw[jn F.plain_set_update_loop _];show wpAny _ A.in1 (pyNext (.ref I) >>= _) _ _ s;refine ae (W.item i s _ _ hlt hst λv h' tk hP hst' hm=>?_);have ev:=hval i v hP;subst ev;have hT':kX prog w h' S kb:=Ap.keep hT λo e=>hm S o hSw e;have Cu:∀j,j<n->gb (intKind prog w) h' (ky j) (ad j):=λj hj=>wU (Cz j hj) λo e=>hm _ o (hS j hj).2 e;show wpAny _ A.in1 (holding [gh (ad i)] (setAdd S (.ref (ad i))) >>= _) _ _ _;refine ae (fw ?_);unfold setAdd;refine fw ?_;refine ae (wpAny_pyHash_tuple (s:={ s with heap:=h',toks:=tk }) (show A.in1.units<cLine by show A.units+1<cLine;omega) (Cu i hlt) ?_);obtain⟨o,es,ep,t,Pt⟩:=hT';have tups:wR prog w h' kb:=λp hp=>by obtain⟨j,hj,rfl⟩:=Dc.from_ p hp;exact Cu j (by omega)
  have hsub:∀x∈kb.map du,x∈U:=λx hx=>by obtain⟨p,hp,rfl⟩:=cb.mp hx;obtain⟨j,hj,rfl⟩:=Dc.from_ p hp;exact hky j (by omega)
  refine Y2 (s:={ s with heap:=h',toks:=tk+((ky i).length+1) }) (a:=S) (k:=ky i) (b:=ad i) Pt tups (Cu i hlt) (by show A.units+1<cLine;omega) (λBs=>?_) λh2 kb2 r sb hT2 q1 q2=>?_
  ·have nd:(ky i::kb.map du).Nodup:=ib.mpr ⟨Bs,Pt.nd⟩;have:=nd.length_le_of_subset (l₂:=U) λx hx=>by
    rcases az.mp hx with rfl|hx
    ·exact hky i hlt
    ·exact hsub x hx
   simp at this;omega
  ·have hup2:Upto ky ad (i+1) kb2:=by
    by_cases Cc:ky i∈kb.map du
    ·have pm:=q1 Cc;refine⟨λp hp=>?_,λj hj=>?_⟩
     ·obtain⟨j,hj,e⟩:=Dc.from_ p (pm.mem_iff.mp hp);exact⟨j,by omega,e⟩
     ·rw[(pm.map du).mem_iff]
      rcases ja j i with z|z
      ·exact Dc.all j z
      ·have:j=i:=by omega
       subst this;exact Cc
    ·have pm:=q2 Cc;refine⟨λp hp=>?_,λj hj=>?_⟩
     ·rcases az.mp (pm.mem_iff.mp hp)with z|z
      ·exact⟨i,by omega,z⟩
      ·obtain⟨j,hj,e⟩:=Dc.from_ p z;exact⟨j,by omega,e⟩
     ·rw[(pm.map du).mem_iff,df,az]
      rcases ja j i with z|z
      ·exact .inr (Dc.all j z)
      ·have:j=i:=by omega
       subst this;exact .inl rfl
   refine ai ⟨vk F.plain_set_update_loop _,ih (i+1) _ kb2 (by omega) hlt (W.frame _ _ _ hst' λb hb o e=>?_) hT2 hup2 (λj hj=>?_) λh3 tk3 kb3 k3 hT3 hup3=>?_⟩
   ·rw[sb.2 b (λz:b=S=>hSf (by rw[<-z];exact hb))];exact e
   ·exact wU (Cu j hj) λo e=>(sb.2 _ (hS j hj).1).trans e
   ·refine hR h3 tk3 kb3 (λb o hb e=>k3 b o hb ?_) hT3 hup3;exact(sb.2 b λz=>hb (by rw[z];exact ax)).trans (hm b o (λz=>hb (aq _ z)) e)
end
theorem walk_slots:Slot "set" "__iter__" "set.__iter__"/\Slot "set_iterator" "__next__" "set_iterator.__next__"/\Slot "set_iterator" "__iter__" "set_iterator.__iter__"/\Slot "set" "__len__" "set.__len__":=by
 refine⟨Slot.of (owner := "set") (n := "__iter__") ?_ ?_ ?_ ?_ ?_ ?_,Slot.of (owner := "set_iterator") (n := "__next__") ?_ ?_ ?_ ?_ ?_ ?_,Slot.of (owner := "set_iterator") (n := "__iter__") ?_ ?_ ?_ ?_ ?_ ?_,Slot.of (owner := "set") (n := "__len__") ?_ ?_ ?_ ?_ ?_ ?_⟩
 all_goals first
  |decide +kernel
  |(rw[typeLookup_type,builtinLookup_eq_fast];kernel_rfl)
  |(rw[isSubtype_type];kernel_rfl)
  |(left;decide +kernel)
  |(right;decide +kernel)
theorem wV (a:af):argsOk "set.__iter__" ⟨[a],[]⟩/\argsOk "set_iterator.__next__" ⟨[a],[]⟩/\argsOk "set_iterator.__iter__" ⟨[a],[]⟩:=by refine⟨?_, ?_, ?_⟩ <;> unfold argsOk <;> kernel_rfl
theorem KZ:entryFor table "set_iterator.__next__" = some kz.«set_iterator.__next__»:=entryFor_of_fast (by kernel_rfl)
theorem Y4:entryFor table "set.__iter__" = some kz.«frozenset.__iter__»:=entryFor_alias (id' := "frozenset.__iter__") (by kernel_rfl) rfl (by decide +kernel) (by kernel_rfl)
theorem Y5:entryFor table "set_iterator.__iter__" = some kz.«dict_keyiterator.__iter__»:=entryFor_alias (id' := "dict_keyiterator.__iter__") (by kernel_rfl) rfl (by decide +kernel) (by kernel_rfl)
theorem erase_perm {α:Type}:∀(l:List α) (i:Nat) (h:i<l.length),(l[i]::l.eraseIdx i).Perm l
 | [],_,h=>absurd h (by simp)
 |x::r,0,_=>.refl _
 |x::r,i+1,h=>by have ih:=erase_perm r i (by simpa using h);show((r[i]'(by simpa using h))::x::r.eraseIdx i).Perm (x::r);exact(ve _ _ _).trans (ih.cons x)
theorem K0 {α:Type}(next:Nat->Nat):∀(fuel k:Nat) (l:List α) (out:Array α),l.length<=fuel->(xa next fuel k l out).toList.Perm (out.toList++l)
 |0,k,l,out,h=>by have:l=[]:=mm.mp (by omega);subst this;rw[xa];simp
 |fuel+1,k,l,out,h=>by
  rw[xa]
  cases l with
  |nil=>simp
  |cons x r=>have hlt:next k % (x::r).length<(x::r).length:=Nat.mod_lt _ (by simp);rw[ba hlt];dsimp only;refine(K0 next fuel (k+1) _ _ (by rw[xf hlt];omega)).trans ?_;rw[Array.toList_push,uq];refine xg _ ?_;exact erase_perm _ _ hlt
theorem Y6 {α:Type}(next:Nat->Nat) (xs:Array α):(pickOrder next xs).toList.Perm xs.toList:=by unfold pickOrder;have:=K0 next xs.size 0 xs.toList #[] (by simp);simpa using this
section
variable{prog:bf}{w:cf}
def iJ (w:cf) (a:ah) (ep:Nat) (es:Array (Int×af)):Array (Int×af):=if w.params.followText "set-order" then pickOrder (w.params.setOrder a ep) es else es
theorem K2 (w:cf) (a:ah) (ep:Nat) (es:Array (Int×af)):(iJ w a ep es).toList.Perm es.toList:=by
 unfold iJ
 split
 ·exact Y6 _ _
 ·exact .refl _
theorem wW (w:cf) (a:ah) (ep:Nat) (es:Array (Int×af)):(iJ w a ep es).size=es.size:=by simpa using(K2 w a ep es).length_eq
def gQ (w:cf) (t:gm) (i:Nat):Nat:=if w.params.followText "set-order" then 0 else match i with|0=>0|j+1=>t.place.getD j 0+1
def jZ (a:ah) (slot i n ep:Nat):Obj:={ cls:=.type "set_iterator",data:=.fields #[rawInt slot,rawInt i,.ref a,rawInt n,rawInt ep] }
theorem Y7 {t:gm}{hs:zr}(T:Cn t hs) (hb:w.params.followText "set-order" = false) {i:Nat}(hi:i<=t.place.size):rl t.place (gQ w t i)=i:=by
 obtain⟨h1,h2,h3⟩:=tU (j:=gQ w t i) T.rise;have mono:∀a b (ha:a<t.place.size) (hb:b<t.place.size),a<b->t.place[a]<t.place[b]:=by intro a b ha hb Cq;have:=fj.mp T.rise a b (by simpa using ha) (by simpa using hb) Cq;simpa using this
 unfold gQ at h1 h2 h3 ⊢;rw[hb]at h1 h2 h3 ⊢;simp only[cn,if_false]at h1 h2 h3 ⊢
 cases i with
 |zero=>
  dsimp only at h1 h2 h3 ⊢;generalize rl t.place 0=r at h1 h2 h3 ⊢
  cases r with
  |zero=>rfl
  |succ r=>have:=h1 r (by omega) (by omega);omega
 |succ j=>
  dsimp only at h1 h2 h3 ⊢;have hj:j<t.place.size:=by omega
  have ej:t.place.getD j 0=t.place[j]:=by simp[jz,hj]
  rw[ej]at h1 h2 h3 ⊢;generalize rl t.place (t.place[j]+1)=r at h1 h2 h3 ⊢
  rcases Nat.lt_trichotomy r (j+1)with q|q|q
  ·have:=h2 j hj (by omega);omega
  ·exact q
  ·have:=h1 (j+1) (by omega) q;have:=mono j (j+1) hj (by omega) (by omega);omega
end
section
variable{prog:bf}{w:cf}{A:cg}{E:af->ag->Prop}{s:ag}{a it:ah}{kb:KB}{o:Obj}{es:Array (Int×af)}{ep:Nat}{t:gm}
theorem Y8 {Q:Bool->ag->Prop}(P:Ap prog w s.heap a kb o es ep t) (h:Q false s):wpAny (model prog w) A (setDrawn a) Q E s:=by
 unfold setDrawn setsByText;refine ae (jh P.obj P.data P.fits ?_);dsimp only;refine ae (ae (ly (ai ?_)));have e:(!(w.params.followText "set-order")&&((!t.plain)&&decide (es.size>1)))=false:=by rw[P.tab.plain];simp
 show wpAny _ _ (pure (!(w.params.followText "set-order")&&((!t.plain)&&decide (es.size>1)))) _ _ s;rw[e];exact ai h
theorem Y9 {Q:af->ag->Prop}(P:Ap prog w s.heap a kb o es ep t) (h:Q (.ref s.heap.objs.size) { s with heap:=s.heap.push (jZ a 0 0 es.size ep) }):
  wpAny (model prog w) A (pyIter (.ref a)) Q E s:=by
 have hT:s.TypeIs (.ref a) "set" := ⟨o,P.obj,P.ex.1⟩;refine wpAny_pyIter_slot hT walk_slots.1 (ed walk_slots.1 hT Y4 ?_ (wV _).1);unfold kz.«frozenset.__iter__» Builtin.Frozenset.slot0;refine ae (m:=(do Builtin.Frozenset.addrOf (<-slotArgs "__iter__" 0 ⟨[.ref a],[]⟩).1:Sem ah)) (ai ?_);unfold Builtin.Frozenset.sizeOf;refine ae (ae (vg P.obj P.data P.fits (ai ?_)));refine ae (Y8 P ?_);simp only[cn,if_false];refine ae (ai ?_);refine ae (wpAny_setEpoch_of P.obj P.data P.fits ?_);refine ae (fo ?_ (by size_fits));refine ai ⟨_,rfl,"set_iterator",_,⟨_,bc _ rfl,rfl⟩,walk_slots.2.1.lookup,h⟩
end
section
variable{prog:bf}{w:cf}{A:cg}{E:af->ag->Prop}{s:ag}{a it:ah}{kb:KB}{o:Obj}{es:Array (Int×af)}{ep:Nat}{t:gm}
theorem K4 {i:Nat}{Q:Option (af×Nat)->ag->Prop}(P:Ap prog w s.heap a kb o es ep t) (hi:i<=es.size)
  (h:Q (((iJ w a ep es)[i]?).map λe=>(e.2,gQ w t (i+1))) s):wpAny (model prog w) A (setNext a (gQ w t i) i ep) Q E s:=by
 unfold setNext setsByText;refine ae (jh P.obj P.data P.fits ?_);dsimp only;refine ae (ae (ly (ai ?_)));have hps:t.place.size=es.size:=by have:=P.tab.size;rw[P.size];simpa using this
 show wpAny _ _ (if w.params.followText "set-order" = true then _ else _) _ _ s
 by_cases hb:w.params.followText "set-order" = true
 ·rw[if_pos hb,if_neg (by simp)];refine ae ?_;unfold setWalk setsByText;refine ae (jh P.obj P.data P.fits ?_);dsimp only;refine ae (ae (ly (ai ?_)));show wpAny _ _ (if w.params.followText "set-order" = true then _ else _) _ _ s;rw[if_pos hb];refine ae (ly (ai (ai ?_)));unfold iJ gQ at h;unfold gQ;rw[if_pos hb]at h ⊢;rw[if_pos hb]at h;exact h
 ·have hb':w.params.followText "set-order" = false:=by simpa using hb
  rw[if_neg hb];have hl:t.led=true:=by rw[P.led,hb'];rfl
  have hd:((!t.plain)&&decide (es.size>1))=false:=by rw[P.tab.plain];rfl
  show wpAny _ _ (if((!t.plain)&&decide (es.size>1))=true then _ else _) _ _ s;rw[hd];simp only[cn,if_false];show wpAny _ _ ((if((!t.led)&&!es.isEmpty)=true then _ else _) >>= _) _ _ s;rw[hl];simp only[nj,Bool.false_and,cn,if_false];refine ae (ai ?_);have hbl:=Y7 (w:=w) P.tab hb' (i:=i) (by omega);rw[hbl];unfold iJ at h;rw[if_neg hb]at h;refine ai ?_
  by_cases hlt:i<es.size
  ·have e1:es[i]?=some es[i]:=fh hlt;have e2:t.place[i]?=some t.place[i]:=fh (by omega);rw[e1]at h;rw[e1,e2];have e3:gQ w t (i+1)=t.place[i]+1:=by unfold gQ;rw[if_neg hb];simp[jz,show i<t.place.size by omega]
   rw[e3]at h;exact h
  ·have e1:es[i]?=none:=qv (by omega);rw[e1]at h ⊢;exact h
theorem ZA {i:Nat}{x:Int×af}{Q:Option af->ag->Prop}(P:Ap prog w s.heap a kb o es ep t) (hit:s.heap.get? it=some (jZ a (gQ w t i) i es.size ep)) (hx:(iJ w a ep es)[i]?=some x)
  (hQ:∀h',h'.get? it=some (jZ a (gQ w t (i+1)) (i+1) es.size ep)->iu it s.heap h'->Q (some x.2) { s with heap:=h' }):wpAny (model prog w) A (pyNext (.ref it)) Q E s:=by
 have hT:s.TypeIs (.ref it) "set_iterator" := ⟨_,hit,rfl⟩;have hlt:i<es.size:=by rw[<-wW w a ep es];exact(dm.mp hx).1
 unfold pyNext;refine ae (ou (dw (name:=jq "__next__") hT walk_slots.2.1 (ed walk_slots.2.1 hT KZ ?_ (wV _).2.1)));unfold kz.«set_iterator.__next__»;refine ae (m:=slotArgs "__next__" 0 ⟨[.ref it],[]⟩) (ai ?_);refine ae (wpAny_fieldsOf hit rfl ?_);dsimp only;show wpAny _ _ (setEntries a >>= _) _ _ s;refine ae (vg P.obj P.data P.fits ?_);rw[if_neg (by simp)];show wpAny _ _ (setNext a ((gQ w t i:Nat):Int).toNat ((i:Nat):Int).toNat ((ep:Nat):Int).toNat >>= _) _ _ s;rw[fz,fz,fz];refine ae (K4 P (gy hlt) ?_);rw[hx];show wpAny _ _ (setField (.ref it) 0 (rawInt ((gQ w t (i+1):Nat):Int)) >>= _) _ _ s;refine ae (je hit (by simp) λh1 g1 b1=>?_);refine ae (je g1 (by simp) λh2 g2 b2=>?_);refine ai ⟨_,rfl,ai (hQ h2 ?_ (b1.trans b2))⟩;rw[g2];rfl
theorem ZC {i:Nat}{Q:Option af->ag->Prop}(hh:A.handled=none) (P:Ap prog w s.heap a kb o es ep t) (hit:s.heap.get? it=some (jZ a (gQ w t i) i es.size ep)) (hi:i=es.size)
  (hQ:∀h',yy it s.heap h'->Q none { s with heap:=h' }):wpAny (model prog w) A (pyNext (.ref it)) Q E s:=by
 have hT:s.TypeIs (.ref it) "set_iterator" := ⟨_,hit,rfl⟩;unfold pyNext;refine ae (ou (dw (name:=jq "__next__") hT walk_slots.2.1 (ed walk_slots.2.1 hT KZ ?_ (wV _).2.1)));unfold kz.«set_iterator.__next__»;refine ae (m:=slotArgs "__next__" 0 ⟨[.ref it],[]⟩) (ai ?_);refine ae (wpAny_fieldsOf hit rfl ?_);dsimp only;show wpAny _ _ (setEntries a >>= _) _ _ s;refine ae (vg P.obj P.data P.fits ?_);rw[if_neg (by simp)];show wpAny _ _ (setNext a ((gQ w t i:Nat):Int).toNat ((i:Nat):Int).toNat ((ep:Nat):Int).toNat >>= _) _ _ s;rw[fz,fz,fz];refine ae (K4 P (sf hi) ?_);rw[qv (by rw[wW];omega)];show wpAny _ _ (setField (.ref it) 2 jj >>= _) _ _ s;refine ae (je hit (by simp) λh1 g1 b1=>?_);show wpAny _ _ (newExc (.type "StopIteration") [] >>= _) _ _ _;refine ae ?_;simp only[newExc,newTuple];refine ae (fo ?_ (by size_fits));refine ae (m:=firstArgMember _ _) (rf (a:=jj) (by first|rfl|(simp only[firstArgMember];rfl)) ?_);refine fo ?_ (by size_fits);simp only[raiseNew];refine ae (wpAny_handled ?_);rw[show A.in1.handled=none from hh];refine ae (ai (wpAny_throw ?_));refine ae (sr (T := "StopIteration") (b:=true) ⟨_,bc _ rfl,rfl⟩ yq ?_);exact ai (hQ _ ((b1.extBut.push _).push _))
end
section
variable{prog:bf}{w:cf}{A:cg}{E:af->ag->Prop}{s:ag}{a:ah}{kb:KB}{o:Obj}{es:Array (Int×af)}{ep:Nat}{t:gm}
theorem Ap.at' {h h':cx}(P:Ap prog w h a kb o es ep t) (k:h'.get? a=some o):Ap prog w h' a kb o es ep t:=⟨k,P.ex,P.data,P.es,P.tab,P.nd,P.nf,P.led⟩
theorem ZD (hh:A.handled=none) (I:ah) (hne:a≠I):
  Walks prog w A I [I,a] [I] es.size (λi v=>∃x,(iJ w a ep es)[i]?=some x/\v=x.2) (λi h=>Ap prog w h a kb o es ep t/\h.get? I=some (jZ a (gQ w t i) i es.size ep)) where
 sub:=λb hb=>by rw[bo.mp hb];exact ax ..
 frame:=λi h h' ⟨p,q⟩ k=>⟨p.at' (k a (by simp) _ p.obj),k I (by simp) _ q⟩
 item:=λi s Q E hi ⟨p,q⟩ hQ=>by
  have hi':i<(iJ w a ep es).size:=by rw[wW];exact hi
  have hx:(iJ w a ep es)[i]?=some (iJ w a ep es)[i]:=fh hi';refine ZA p q hx λh' q' sb=>hQ _ h' s.toks ⟨_,hx,rfl⟩ ⟨p.at' ((sb.2 a hne).trans p.obj),q'⟩ λb o hb e=>?_;exact(sb.2 b λz=>hb (by rw[z];exact ax ..)).trans e
 done:=λs Q E ⟨p,q⟩ hQ=>ZC hh p q rfl λh' x=>hQ h' s.toks λb o hb e=>x b o (λz=>hb (by rw[z];exact ax ..)) e
 self:=λi s Q E ⟨_,q⟩ hQ=>by have hT:s.TypeIs (.ref I) "set_iterator" := ⟨_,q,rfl⟩;refine wpAny_pyIter_slot hT walk_slots.2.2.1 (ed walk_slots.2.2.1 hT Y5 ?_ (wV _).2.2);exact ai ⟨_,rfl,"set_iterator",_,⟨_,q,rfl⟩,walk_slots.2.1.lookup,hQ⟩
theorem ZE {S:ah}{n:Nat}{Q:Unit->ag->Prop}(h:s.heap.get? S=some (seqObj "list" #[] n)) (q:∀h' c,h'.get? S=some (seqObj "list" #[] c)->(∀b o,b≠S->s.heap.get? b=some o->h'.get? b=some o)->Q () { s with heap:=h' }):
  wpAny (model prog w) A (vm (.ref S)) Q E s:=by
 unfold vm;refine ae (vn h rfl ?_);have h1:=ua h (λx=>x.push jj);refine vn h1 rfl ?_;have h2:=ua h1 (λx=>x.pop);refine q _ _ h2 λb o hb e=>?_;rw[ll _ _ _ _ hb,ll _ _ _ _ hb];exact e
theorem ZF {Q:List af->ag->Prop}(hh:A.handled=none) (P:Ap prog w s.heap a kb o es ep t) (hn:es.size<=bz)
  (q:∀(h':cx) (tk:Nat),(∀b o,s.heap.get? b=some o->h'.get? b=some o)->s.heap.objs.size<=h'.objs.size->Q ((iJ w a ep es).toList.map (·.2)) { s with heap:=h',toks:=tk }):wpAny (model prog w) A (collect (.ref a)) Q E s:=by
 have la:a<s.heap.objs.size:=au P.obj;have up1:∀b o,s.heap.get? b=some o->(s.heap.push (seqObj "list" #[] 0)).get? b=some o:=λb o e=>ak _ e;have hS1:(s.heap.push (seqObj "list" #[] 0)).get? s.heap.objs.size=some (seqObj "list" #[] 0):=bc _ rfl;have P1:Ap prog w (s.heap.push (seqObj "list" #[] 0)) a kb o es ep t:=P.at' (up1 a o P.obj);have hT1:tm { s with heap:=s.heap.push (seqObj "list" #[] 0) } (.ref a) "set" := ⟨o,P1.obj,P1.ex.1⟩;unfold collect;refine ae (wpAny_runValue (kr entry_proto_collect' ?_));rw[jn F.plain_proto_collect _];refine ae (m:=newList []) (zm (ai ⟨Code.quiet_builtin _ (by decide +kernel),kr entry_list_iadd' ?_⟩));rw[jn F.plain_list_iadd _];show wpAny _ A.in1 (ug (.ref s.heap.objs.size) (.ref a) (.ref s.heap.objs.size)) _ _ { s with heap:=s.heap.push (seqObj "list" #[] 0) };unfold ug;refine ae (qd hT1 ?_);have ne:ur (.ref s.heap.objs.size) (.ref a)=false:=by simp[ur,iz la]
 rw[if_neg (by rw[ne];decide)];refine ae (Y9 P1 ?_);have sz:(s.heap.push (seqObj "list" #[] 0)).objs.size=s.heap.objs.size+1:=wa _ _;rw[sz];have up2:∀b o,(s.heap.push (seqObj "list" #[] 0)).get? b=some o->((s.heap.push (seqObj "list" #[] 0)).push (jZ a 0 0 es.size ep)).get? b=some o:=λb o e=>ak _ e;have P2:Ap prog w ((s.heap.push (seqObj "list" #[] 0)).push (jZ a 0 0 es.size ep)) a kb o es ep t:=P1.at' (up2 a o P1.obj);have hT2:tm { s with heap:=(s.heap.push (seqObj "list" #[] 0)).push (jZ a 0 0 es.size ep) } (.ref a) "set" := ⟨o,P2.obj,P2.ex.1⟩;have hI2:((s.heap.push (seqObj "list" #[] 0)).push (jZ a 0 0 es.size ep)).get? (s.heap.objs.size+1)=some (jZ a 0 0 es.size ep):=by rw[<-sz];exact bc _ rfl
 refine ae (fw ?_);unfold Builtin.List.listLengthHint;refine ae (wpAny_specialOf hT2 walk_slots.2.2.2.lookup ?_);have spl:splitId "set.__len__" = some ("set","__len__"):=by decide +kernel
 dsimp only;rw[spl];dsimp only;refine ae (sr (b:=true) hT2 sub_set_self ?_);rw[if_neg (by decide),if_pos (by decide +kernel)];refine ae (qd hT2 (ai ?_));rw[if_pos (by decide +kernel)];refine ae (qp ?_);refine ae (ZE (s:={ s with heap:=(s.heap.push (seqObj "list" #[] 0)).push (jZ a 0 0 es.size ep) }) (up2 _ _ hS1) λh3 c hS3 up3=>?_);have neS:∀b o,s.heap.get? b=some o->b≠s.heap.objs.size:=λb o e=>bg (au e);have P3:Ap prog w h3 a kb o es ep t:=P2.at' (up3 a o (bg la) P2.obj);have hI3:h3.get? (s.heap.objs.size+1)=some (jZ a 0 0 es.size ep):=up3 _ _ (nq _) hI2;have hz:gQ w t 0=0:=by unfold gQ;split <;> rfl
 have hh2:A.in1.handled=none:=by simp[hh]
 have nin:s.heap.objs.size∉[s.heap.objs.size+1,a]:=λm=>by
  rcases az.mp m with e|m
  ·exact nq _ e.symm
  ·exact iz la (bo.mp m)
 refine ai ⟨vk F.plain_extend_loop _,codeAny_extend_loopS (A:=A) ((ZD (kb:=kb) (o:=o) (t:=t) (ep:=ep) (es:=es) hh2 (s.heap.objs.size+1) (a:=a) (bg (gz la))).toS) hn s.heap.objs.size nin _ es.size 0 { s with heap:=h3 } #[] c rfl (jd _)
  ⟨P3,by rw[hz];exact hI3⟩ hS3 (ItemsOf.nil _) λs' acc c' mv hS' ia=>?_⟩
 have eacc:acc.toList=(iJ w a ep es).toList.map (·.2):=by
  apply uu
  intro i;rw[nc,dz,nc]
  cases q:acc[i]? with
  |some v=>obtain⟨x,h1,h2⟩:=ia.2 i v q;rw[h1,h2];rfl
  |none=>have h1:acc.size<=i:=Array.getElem?_eq_none_iff.mp q;rw[qv (by rw[wW,<-ia.1];exact h1)];rfl
 obtain⟨hp,gs,dr,tk,os⟩:=s';have e1:gs=s.gens:=mv.gens;have e2:dr=s.drawn:=mv.drawn;have e3:os=s.os:=mv.os;subst e1;subst e2;subst e3;show wpAny _ A (load s.heap.objs.size >>= _) _ _ _;refine ae (wpAny_load hS' (ai ?_));rw[eacc];refine q hp tk (λb o e=>mv.heap b o (λm=>?_) (up3 b o (neS b o e) (up2 b o (up1 b o e)))) (gy (au hS'))
 rcases az.mp m with z|m
 ·exact neS b o e z
 ·exact bg (gz (au e)) (bo.mp m)
end
open PySem.W SoM L2
section
variable{prog:bf}{w:cf}{A:cg}{E:af->ag->Prop}{s:ag}
theorem K6 {fin:Bool}{Q:Bool->ag->Prop}:∀{kx ky:zr}{vx vy:List af}(i:Nat),ItemsAre (intKind prog w) kx vx->ItemsAre (intKind prog w) ky vy->fin=decide (vx.length<vy.length)->Q (cT kx ky) s->KatLex prog w A true fin Q (vx.zip vy) i s
 |_,_,_,_,i,.nil,.nil,hf,h=>by subst hf;exact kat_nil h
 |_,_,_,_,i,.nil,.cons _ _,hf,h=>by subst hf;refine kat_nil ?_;rw[decide_eq_true (by simp)];exact h
 |_,_,_,_,i,.cons _ _,.nil,hf,h=>by subst hf;refine kat_nil ?_;rw[decide_eq_false (by simp)];exact h
 |_,_,_,_,i,.cons (k:=a) hu hx,.cons (k:=b) hv hy,hf,h=>by
  obtain⟨t,rfl⟩:=mq hu;obtain⟨t',rfl⟩:=mq hv;refine kat_cons (xi (kat_go (λe=>?_) λe=>?_))
  ·refine kat_yes (K6 (i+1) hx hy (hf.trans (by simp)) ?_);rw[cT,if_pos e]at h;exact h
  ·have h':Q (decide (a<b)) s:=by rw[cT,if_neg (by rw[e];simp)]at h;exact h
   refine kat_no ?_
   cases q:i==0 with
   |true=>exact oneLt_int h'
   |false=>exact kat_one _ _ (wq h')
theorem ZG {x y:ah}{kx ky:zr}{Q:Bool->ag->Prop}(hx:gb (intKind prog w) s.heap kx x) (hy:gb (intKind prog w) s.heap ky y) (h:Q (cT kx ky) s):wpAny (model prog w) A (keyLt' (tuples' true) (.ref x) (.ref y)) Q E s:=by obtain⟨ox,ix,nx,e1,_,d1,i1⟩:=hx;obtain⟨oy,iy,ny,e2,_,d2,i2⟩:=hy;exact kat_lt e1 d1 e2 d2 (K6 0 i1 i2 (by simp) h)
def Bi (prog:bf) (w:cf) (h:cx) (n:Nat) (ad:Nat->ah) (ky:Nat->zr):Prop:=∀i,i<n->gb (intKind prog w) h (ky i) (ad i)/\ky i≠[]
def bV (n:Nat) (ad:Nat->ah):List af:=(bj n).map λi=>.ref (ad i)
theorem kA (n:Nat) (ad:Nat->ah):(bV n ad).length=n:=by simp[bV]
theorem BS {n:Nat}{ad:Nat->ah}{i:Nat}(h:i<n):(bV n ad).getD i jj=.ref (ad i):=by simp[bV,h]
theorem K8:∀(l:zt) {ad:Nat->ah}{ky:Nat->zr},(∀i∈l,gb (intKind prog w) s.heap (ky i) (ad i)/\ky i≠[])->∃fs:List af,KatTups s.heap (l.map λi=>.ref (ad i)) fs/\fs.length=l.length/\∀v∈fs,∃a t,v=.int a t
 | [],_,_,_=>⟨[],trivial,rfl,by simp⟩
 |i::l,ad,ky,h=>by
  obtain⟨fs,t,hl,hv⟩:=K8 l (ad:=ad) (ky:=ky) λj hj=>h j (aq _ hj);obtain⟨⟨o,its,n,e,c,d,r⟩,ne⟩:=h i (ax ..)
  cases q:its.toList with
  |nil=>rw[q]at r;cases hk:ky i with
   |nil=>exact absurd hk ne
   |cons a b=>rw[hk]at r;cases r
  |cons v vs=>
   rw[q]at r
   cases hk:ky i with
   |nil=>exact absurd hk ne
   |cons a b=>
    rw[hk]at r
    cases r with
    |cons hu _=>
     obtain⟨tk,rfl⟩:=mq hu;refine⟨.int a tk::fs,KatTups.cons e c d (by rw[<-nc,q];rfl) t,by simp[hl],λv hv'=>?_⟩
     rcases az.mp hv' with rfl|hv'
     ·exact⟨_,_,rfl⟩
     ·exact hv v hv'
theorem ZH {n:Nat}{ad:Nat->ah}{ky:Nat->zr}{G:Array Nat->ag->Prop}(h2:2<=n) (hk:Bi prog w s.heap n ad ky)
  (h:∀p,Ent n p->fJ cT (p.toList.map ky)->G p s):
  wpAny (model prog w) A (keyKind' (bV n ad).toArray) (λκ s'=>(kas_sort (bV n ad).length).kasWp (kas_ask prog w A κ (bV n ad)) G s') (λ_ _=>False) s:=by
 obtain⟨fs,t,hl,hv⟩:=K8 (prog:=prog) (w:=w) (s:=s) (bj n) (ad:=ad) (ky:=ky) λi hi=>hk i (bu.mp hi);refine kat_kind (T:=.type "int") t (by rw[hl,km];omega) (λv hv'=>?_) (by decide) ?_
 ·obtain⟨a,tk,rfl⟩:=hv v hv';exact .now
 ·rw[kA]
  let ks:=(bj n).map ky
  have mem:∀i,i<n->ky i∈ks:=λi hi=>cb.mpr ⟨i,bu.mpr hi,rfl⟩;refine JS (n:=n) (f:=λi=>rk cT ks (ky i)) (I:=λs'=>s'=s) (λi j C s' hs hi hj hC=>?_) (kas_sort n) (λp=>Ent n p/\fJ cT (p.toList.map ky)) G s s (X7 (by omega) λp e inc=>⟨e, ?_⟩) rfl λp s' hp hs=>by subst hs;exact h p hp.1 hp.2
  ·subst hs;show wpAny (model prog w) A (keyLt' (tuples' true) ((bV n ad).getD i jj) ((bV n ad).getD j jj)) C (λ_ _=>False) s';rw[BS hi,BS hj];refine ZG (hk i hi).1 (hk j hj).1 ?_;have:=hC s' rfl;rwa [JY Bz (mem i hi)]at this
  ·refine fj.mpr λi j hi hj Bx=>?_;have hj':j<p.size:=by simpa using hj
   have hi':i<p.size:=by omega
   have z:=inc i j (gy Bx) (by rw[<-e.1];exact hj');unfold SoM.F at z;have ei:p.getD i 0=p[i]:=by simp[jz,hi']
   have ej:p.getD j 0=p[j]:=by simp[jz,hj']
   rw[ei,ej]at z;have lt:∀k (hk:k<p.size),p[k]<n:=λk hk=>bu.mp (e.2.mem_iff.mp (by simp));have:=YA Bz (mem _ (lt j hj')) z;simpa using this
end
section
variable{prog:bf}{w:cf}{A:cg}{E:af->ag->Prop}{s:ag}
abbrev wX (h h':cx):Prop:=∀b o,h.get? b=some o->h'.get? b=some o
def Ca (n:Nat) (ad:Nat->ah) (ky:Nat->zr) (out:List af):Prop:=∃p:zt,p.Perm (bj n)/\fJ cT (p.map ky)/\out=p.map λi=>.ref (ad i)
theorem Ca.len {n:Nat}{ad:Nat->ah}{ky:Nat->zr}{out:List af}(h:Ca n ad ky out):out.length=n:=by obtain⟨p,pp,_,e⟩:=h;rw[e,aw,pp.length_eq,km]
theorem Bi.keep {h h':cx}{n:Nat}{ad:Nat->ah}{ky:Nat->zr}(k:Bi prog w h n ad ky) (g:∀i,i<n->∀o,h.get? (ad i)=some o->h'.get? (ad i)=some o):Bi prog w h' n ad ky:=λi hi=>⟨wU (k i hi).1 (g i hi),(k i hi).2⟩
theorem ZI {a:ah}{n c:Nat}{ad:Nat->ah}{ky:Nat->zr}{P:Fin->ag->Prop}(ho:s.heap.get? a=some (seqObj "list" (bV n ad).toArray c)) (h64:n<64) (hk:Bi prog w s.heap n ad ky)
  (q:∀h' e out,Ca n ad ky out->h'.get? a=some (seqObj "list" out.toArray e)->(∀b o,b≠a->s.heap.get? b=some o->h'.get? b=some o)->P (.done (.ret .none)) { s with heap:=h' }):
  wpAny (model prog w) A (kz.«list.sort» ⟨[.ref a],[]⟩) P E s:=by
 have la:a<s.heap.objs.size:=au ho;obtain⟨e1,g1⟩:∃e1,(s.heap.update a (mf λ_=>(#[]:Array af))).get? a=some (seqObj "list" #[] e1):=⟨_,ua ho λ_=>#[]⟩
 have k1:∀b o,b≠a->s.heap.get? b=some o->(s.heap.update a (mf λ_=>(#[]:Array af))).get? b=some o:=λb o hb e=>by rw[ll _ _ _ _ hb];exact e
 generalize hH1:s.heap.update a (mf λ_=>(#[]:Array af))=H1 at g1 k1;have k3:wX H1 ((H1.push (seqObj "tuple" (bV n ad).toArray 0)).push (seqObj "list" #[] 0)):=λb o e=>ak _ (ak _ e);have ne:∀i,i<n->ad i≠a:=λi hi e=>by obtain⟨⟨o,its,m,e1,c1,_⟩,_⟩:=hk i hi;rw[e,ho]at e1;cases e1;exact absurd (Value.type.inj c1) (by decide)
 have K3:Bi prog w ((H1.push (seqObj "tuple" (bV n ad).toArray 0)).push (seqObj "list" #[] 0)) n ad ky:=hk.keep λi hi o e=>k3 _ o (k1 _ o (ne i hi) e);have g3:=k3 a _ g1;have kk:∀b o,b≠a->s.heap.get? b=some o->((H1.push (seqObj "tuple" (bV n ad).toArray 0)).push (seqObj "list" #[] 0)).get? b=some o:=λb o hb e=>k3 b o (k1 b o hb e);have sl:n<=bz:=by rw[jf];omega
 have fin:∀(out:List af),Ca n ad ky out->wpAny (model prog w) A (do
   let touched:=(<-seqEpoch a) != e1
   Builtin.List.listUpdate (.ref a) λ_=>out.toArray
   if let some e:=(none:Option af)then rule "list.sort.comparison-raised"; throw e
   if touched then rule "list.sort.modified"; raiseError "ValueError" "list modified during sort"
   ret .none) P E { s with heap:=(H1.push (seqObj "tuple" (bV n ad).toArray 0)).push (seqObj "list" #[] 0) }:=λout ho'=>by
  refine ae (seqEpoch_at g3 rfl ?_);refine ae (vn g3 rfl ?_ (jd _) (by rw[av,ho'.len];omega));simp only[bne_self_eq_false,cn,if_false];exact ai (q _ _ out ho' (ua g3 λ_=>out.toArray) λb o hb e=>by rw[ll _ _ _ _ hb];exact kk b o hb e)
 generalize hH3:(H1.push (seqObj "tuple" (bV n ad).toArray 0)).push (seqObj "list" #[] 0)=H3 at k3 K3 g3 kk fin;rw[list_sort_plain];refine ae (listItems_at ho rfl (ae (vn ho rfl ?_ (by rw[av,kA];exact sl) (jd _))));rw[hH1];refine ae (seqEpoch_at g1 rfl (ae (wpAny_newTuple (ae (zm (fw ?_) (jd _))) (by show(bV n ad).length<=_;rw[kA];exact sl))));show wpAny (model prog w) A _ P E { s with heap:=(H1.push (seqObj "tuple" (bV n ad).toArray 0)).push (seqObj "list" #[] 0) };rw[hH3];have hz:(bV n ad).toArray.size=n:=by rw[av,kA]
 dsimp only
 by_cases h2:n<2
 ·rw[if_pos (by rw[hz];exact h2),if_pos (by rw[hz];exact h2)];refine ae (ai ?_);rw[StateT.run_pure];refine ae (ai ?_);have e:(arrOf (SortSt.mk' general' ((bV n ad).toArray.zip (bV n ad).toArray) #[] 7 none)).map (·.2)=(bV n ad).toArray:=by show(((bV n ad).toArray.zip (bV n ad).toArray)).map (·.2)=_;rw[Array.map_snd_zip (aj _)]
  dsimp only;rw[e];refine fin _ ⟨bj n,.refl _, ?_,rfl⟩;refine fj.mpr λi j hi hj Bx=>?_;rw[aw,km]at hj;omega
 ·have h2':2<=n:=by omega
  rw[if_neg (by rw[hz];exact h2),if_neg (by rw[hz];exact h2)];refine ae (ql (ZH (A:=A) (s:={ s with heap:=H3 }) (G:=λp s'=>s'={ s with heap:=H3 }/\Ent n p/\fJ cT (p.toList.map ky)) h2' K3 λp e r=>⟨rfl,e,r⟩) (λκ s0 hκ=>?_) λ_ _ x=>x.elim);refine ae (ql (kat_run (ks:=bV n ad) (vs:=bV n ad) (Q:=λCp s'=>∃p:Array Nat,p.size=(bV n ad).length/\arrOf Cp=p.map (kas_item ((bV n ad).toArray.zip (bV n ad).toArray))/\failedOf Cp=none/\s'={ s with heap:=H3 }/\Ent n p/\fJ cT (p.toList.map ky))
   rfl (by rw[kA];exact h2') (by rw[kA];exact h64) (λp Cp s' z1 z2 z3 z4=>⟨p,z1,z2,z3,z4⟩) hκ) ?_ λ_ _ e=>e)
  rintro ⟨⟨⟩,Cp⟩ s' ⟨p,_,z2,z3,rfl,z5,z6⟩
  dsimp only;rw[kat_snds rfl z2,z3];have e:(p.toList.map λi=>(bV n ad).getD i jj)=p.toList.map λi=>.ref (ad i):=zo λi hi=>BS (bu.mp (z5.2.mem_iff.mp hi));rw[e];exact fin _ ⟨p.toList,z5.2,z6,rfl⟩
theorem K9 {x:af}{n:Nat}{ad:Nat->ah}{ky:Nat->zr}{Q:af->ag->Prop}(h64:n<64) (hk:Bi prog w s.heap n ad ky)
  (hc:∀(Q':List af->ag->Prop) (E':af->ag->Prop),(∀h' tk,wX s.heap h'->s.heap.objs.size<=h'.objs.size->Q' (bV n ad) { s with heap:=h',toks:=tk })->wpAny (model prog w) A.in1 (collect x) Q' E' s)
  (q:∀h' tk D e out,Ca n ad ky out->s.heap.objs.size<=D->h'.get? D=some (seqObj "list" out.toArray e)->wX s.heap h'->Q (.ref D) { s with heap:=h',toks:=tk }):
  wpAny (model prog w) A (call (.builtin "sorted") [x]) Q E s:=by
 refine Calls.call_function_entry kind_sorted plain_sorted entry_sorted (args_sorted1 _) ?_;unfold kz.«sorted»;refine ae (m:=checkCount "sorted" 1 1 _) (ai (ae (hc _ _ λh1 tk k1 sz=>ae (zm ?_ (by rw[kA,jf];omega)))));have g:(h1.push (seqObj "list" (bV n ad).toArray 0)).get? h1.objs.size=some (seqObj "list" (bV n ad).toArray 0):=bc _ rfl;have k2:wX s.heap (h1.push (seqObj "list" (bV n ad).toArray 0)):=λb o e=>ak _ (k1 b o e);refine ae (fw (ed slot_list_sort ⟨_,g,rfl⟩ entry_list_sort (ZI (s:={ s with heap:=h1.push (seqObj "list" (bV n ad).toArray 0),toks:=tk }) g h64 (hk.keep λi hi o e=>k2 _ o e) λh' e out so ho ke=>⟨_,rfl, ?_⟩) (args_list_sort _)));exact ai ⟨_,rfl,q h' tk h1.objs.size e out so sz ho λb o e=>ke b o (bg (ay (au e) sz)) (k2 b o e)⟩
end
def bare (w:cf):Obj:={ cls:=.type "set",dict:=none,data:=.set #[] 0 (.fresh 0 0 (!w.params.followText "set-order")) }
section
variable{prog:bf}{w:cf}{A:cg}{E:af->ag->Prop}{s:ag}
theorem ZJ {h:cx}{a:ah}(e:h.get? a=some (bare w)):kX prog w h a []:=by
 have tok:∀led:Bool,Cn (.fresh 0 0 led) []:=λled=>⟨rfl,.nil,rfl,(λj hj=>nomatch hj),jd _,.inl rfl,(λi h j e=>nomatch e),rfl⟩
 exact⟨bare w,#[],0,_,e,⟨rfl,rfl,rfl⟩,rfl,rfl,tok _,.nil,(by show 0*5<7*3;decide),rfl⟩
theorem ZK (a:af) {Q:af->ag->Prop}(q:Q (.ref s.heap.objs.size) { s with heap:=s.heap.push (bare w) }):
  codeAny (model prog w) A (.call (.builtin "set.__new__") ⟨[.type "set",a],[]⟩) (wants Q E) s:=by
 refine oz F.plain_set_new F.entry_set_new (rf (F.newCall_set_1 a) ?_);have self:=sub_set_self;unfold kz.«set.__new__» Builtin.Frozenset.newClass;cases s
 wp_walk
 exact ly (ai (ae (wpAny_alloc (ai (ai q)))))
theorem ZL {v:af}{Q N:af->ag->Prop}(hn:codeAny (model prog w) A.in1 (.call (.builtin "set.__new__") ⟨[.type "set",v],[]⟩) (wants N E) s)
  (hi:∀x s1,N x s1->s1.TypeIs x "set"/\codeAny (model prog w) A.in1 (.call (.builtin "set.__init__") ⟨[x,v],[]⟩) (wants (λr s2=>r=.none/\Q x s2) E) s1):wpAny (model prog w) A (call (.type "set") [v]) Q E s:=by
 have f:=F.called_set;obtain⟨_,_,fm⟩:=f.mro;have fd:=f.made;have fs:=f.sub;have ft:=f.notType;have fc:=f.canCreate;have fk:=F.typeCall_set_1 v;have fl:=f.init.lookup;have q:(Code.builtin "type.__call__" ⟨[.type "set",v],[]⟩).quiet=true:=Code.quiet_builtin _ (by decide +kernel);refine wpAny_call (codeAny_of_tree (ai ⟨q,kr F.entry_type_call ?_⟩));rw[Around.under_plain (weight_type_call_type "set" [v] []) rfl]
 repeat (any_goals (first|assumption|wp_step))
 refine tj hn ?_
 rintro (e|fl1) s1 h1
 ·exact h1
 ·cases fl1 <;> try exact h1.elim
  rename_i x;obtain⟨hx,hr⟩:=hi x s1 h1;have fb:=f.init.bind x
  repeat (any_goals (first|assumption|wp_step))
  refine tj hr ?_
  rintro (e|fl2) s2 h2
  ·exact h2
  ·cases fl2 <;> try exact h2.elim
   obtain⟨rfl,h3⟩:=h2
   repeat (any_goals (first|assumption|wp_step))
theorem LA {l:ah}{T:String}{it:Obj}{n:Nat}{P:Nat->af->Prop}{St:Nat->cx->Prop}{fp wr:List ah}(ad:Nat->ah) (ky:Nat->zr) (U:wo) {Q:af->ag->Prop}
  (hu:A.units+8<cLine) (hT:s.TypeIs (.ref l) T) (n1:isSubtype (.type T) (.type "set")=pure false) (n2:isSubtype (.type T) (.type "frozenset")=pure false) (n3:(ze T==ze "dict")=false)
  (hi:∀(B:cg) (Q':af->ag->Prop) (E':af->ag->Prop),Q' (.ref (s.heap.objs.size+1)) { s with heap:=(s.heap.push (bare w)).push it }->wpAny (model prog w) B (pyIter (.ref l)) Q' E' { s with heap:=s.heap.push (bare w) })
  (W:Walks prog w A.in1.in1.in1 (s.heap.objs.size+1) fp wr n P St) (hfp:s.heap.objs.size∉fp) (hwr:∀b∈wr,s.heap.objs.size<b) (h0:St 0 ((s.heap.push (bare w)).push it))
  (hval:∀i v,P i v->v=.ref (ad i)) (hU:U.length<=76) (hky:∀i,i<n->ky i∈U) (Cz:∀j,j<n->gb (intKind prog w) s.heap (ky j) (ad j))
  (q:∀(h':cx) (tk:Nat) kb,kX prog w h' s.heap.objs.size kb->Upto ky ad n kb->(∀b o,s.heap.get? b=some o->h'.get? b=some o)->Q (.ref s.heap.objs.size) { s with heap:=h',toks:=tk }):
  wpAny (model prog w) A (call (.type "set") [.ref l]) Q E s:=by
 refine ZL (N:=λx s1=>x=.ref s.heap.objs.size/\s1={ s with heap:=s.heap.push (bare w) }) (ZK _ ⟨rfl,rfl⟩) ?_
 rintro x s1 ⟨rfl,rfl⟩
 have up:∀b o,s.heap.get? b=some o->(s.heap.push (bare w)).get? b=some o:=λb o e=>ak _ e;have hb:(s.heap.push (bare w)).get? s.heap.objs.size=some (bare w):=bc _ rfl;have hS:tm { s with heap:=s.heap.push (bare w) } (.ref s.heap.objs.size) "set" := ⟨_,hb,rfl⟩;refine⟨hS,oz F.called_set.init.plain F.entry_set_init (check_set_init_1 hS ?_)⟩;obtain⟨ol,el,cl⟩:=hT;have hl1:tm { s with heap:=s.heap.push (bare w) } (.ref l) T:=⟨ol,up l ol el,cl⟩
 have lt:∀j,j<n->ad j<s.heap.objs.size:=λj hj=>let ⟨_,_,_,e,_⟩:=Cz j hj;au e;have hb2:((s.heap.push (bare w)).push it).get? s.heap.objs.size=some (bare w):=ak _ hb;have run:∀(R:xk->ag->Prop),(∀h' tk kb,kX prog w h' s.heap.objs.size kb->Upto ky ad n kb->(∀b o,s.heap.get? b=some o->h'.get? b=some o)->R (.ok (.ret .none)) { s with heap:=h',toks:=tk })->
   codeAny (model prog w) A.in1.in1 (.builtin "set.update.loop" ⟨[.ref s.heap.objs.size,.ref (s.heap.objs.size+1)],[]⟩) R { s with heap:=(s.heap.push (bare w)).push it }:=λR hR=>by
  refine Y3 W s.heap.objs.size hfp ad ky hval (by show A.units+1+1+2<cLine;omega) U hU hky (λj hj=>⟨bg (lt j hj),λm=>Nat.lt_asymm (lt j hj) (hwr _ m)⟩) n 0 _ [] rfl (jd _) h0 (ZJ hb2)
   ⟨(λp hp=>nomatch hp),λj hj=>absurd hj (Nat.not_lt_zero j)⟩ (λj hj=>wU (Cz j hj) λo e=>ak _ (up _ o e)) λh' tk kb keep S u=>hR h' tk kb S u λb o e=>?_
  have hlt:=au e;exact keep b o (λm=>(az.mp m).elim (bg hlt) λm=>Nat.lt_asymm hlt (hwr b m)) (ak _ (up b o e))
 unfold kz.«set.__init__» noKeywords Builtin.Frozenset.updateFrom;generalize hPI:pyIter=PI;unfold bare at hb
 wp_walk
 subst hPI;refine hi _ _ _ ?_;refine ae (wpAny_runValue (run _ λh' tk kb S u keep=>?_));exact ai (ai ⟨rfl,q h' tk kb S u keep⟩)
end
end SR
namespace L2.Mr
open PySem PySem.Spec PyProof.Rows SR
def An (H:Hp):List V->wo->Prop
 | [],[]=>True
 |v::vs,k::ks=>(∃b,v=.ref b/\H b=some (.tup (k.map V.int)))/\An H vs ks
 |_,_=>False
def ZM:V->ah
 | .ref b=>b
 |_=>0
def eZ (vs:List V) (i:Nat):ah:=ZM (vs.getD i .non)
section
variable{X:Cx}{pins:List (ah×Obj)}{σ:St}{H H':Hp}{s:ag}
theorem An.len:∀{vs:List V}{ks:wo},An H vs ks->vs.length=ks.length
 | [],[],_=>rfl
 | [],_::_,h=>h.elim
 |_::_,[],h=>h.elim
 |v::vs,k::ks,h=>by rw[cp,cp,An.len h.2]
theorem An.at_:∀{vs:List V}{ks:wo}{i:Nat},An H vs ks->i<ks.length->vs[i]?=some (.ref (eZ vs i))/\H (eZ vs i)=some (.tup ((ks.getD i []).map V.int))
 | [],[],_,_,h=>by simp at h
 | [],_::_,_,h,_=>h.elim
 |_::_,[],_,h,_=>h.elim
 |v::vs,k::ks,0,h,_=>by obtain⟨⟨b,rfl,e⟩,_⟩:=h;exact⟨rfl,e⟩
 |v::vs,k::ks,i+1,h,hi=>by
  obtain⟨e1,e2⟩:=An.at_ (i:=i) h.2 (by simpa using hi);have ea:eZ (v::vs) (i+1)=eZ vs i:=by simp[eZ]
  exact⟨by rw[ea];simpa using e1,by rw[ea];simpa using e2⟩
theorem LB:∀{k:zr}{its:List af}{prog:bf}{w:cf},Ag (k.map V.int) its->ItemsAre (intKind prog w) k its
 | [],_,_,_,.nil=>.nil
 |n::k,_,_,_,.cons h1 h2=>by obtain⟨t,rfl⟩:=h1;exact .cons (intKind_is _ _ _ _) (LB h2)
theorem wY (I:Inv X pins σ H s) {b:ah}{k:zr}(e:H b=some (.tup (k.map V.int))):gb (intKind X.prog X.w) s.heap k b:=by obtain⟨_,its,r,o,e1,c,_,n,d⟩:=I.hok b _ e;exact⟨o,its.toArray,n,e1,c,d,LB r⟩
theorem ZN (I:Inv X pins σ H s) {vs:List V}{ks:wo}(h:An H vs ks) (ne:∀k∈ks,k≠[]):Bi X.prog X.w s.heap ks.length (eZ vs) (λi=>ks.getD i []):=λi hi=>by refine⟨wY I (h.at_ hi).2,ne _ ?_⟩;simp[hi]
theorem BU {vs:List V}{ks:wo}{its:List af}(h:An H vs ks) (r:Ag vs its):its=bV ks.length (eZ vs):=by
 have hl:=r.length;have hl2:=h.len
 apply uu
 intro i
 by_cases hi:i<ks.length
 ·obtain⟨e1,_⟩:=h.at_ hi;obtain⟨u,e2,e3⟩:=r.get e1;cases e3;rw[e2];simp[bV,hi]
 ·rw[yt (by omega),yt (by rw[kA];omega)]
theorem LC {n:Nat}{ad:Nat->ah}{ky:Nat->zr}{out:List af}(so:Ca n ad ky out) (hH:∀i,i<n->H (ad i)=some (.tup ((ky i).map V.int))):
  ∃(p:zt) (Bp:List V),p.Perm (bj n)/\fJ cT (p.map ky)/\Ag Bp out/\An H Bp (p.map ky):=by
 obtain⟨p,pp,r,rfl⟩:=so;refine⟨p,p.map λi=>V.ref (ad i),pp,r, ?_, ?_⟩
 ·clear pp r
  induction p with
  |nil=>exact .nil
  |cons i p ih=>exact .cons rfl ih
 ·have:∀q:zt,(∀i∈q,i<n)->An H (q.map λi=>V.ref (ad i)) (q.map ky):=λq=>by
   induction q with
   |nil=>intro _;trivial
   |cons i q ih=>exact λh=>⟨⟨_,rfl,hH i (h i (ax ..))⟩,ih λj hj=>h j (aq _ hj)⟩
  exact this p λi hi=>bu.mp (pp.mem_iff.mp hi)
theorem LD {α:Type}{p:zt}{n:Nat}{l:List α}{d:α}(h:p.Perm (bj n)) (hl:l.length=n):(p.map λi=>l.getD i d).Perm l:=by
 refine(h.map _).trans ?_;have:(bj n).map (λi=>l.getD i d)=l:=by
  apply List.ext_getElem (by simp[hl])
  intro i h1 h2;simp[h2]
 rw[this]
abbrev wZ:List V->Hp->VK->Prop:=λxs H Q=>∃(p:ah) (vs:List V) (ks:wo),xs=[.ref p]/\H p=some (.lst vs)/\An H vs ks/\(∀k∈ks,k≠[])/\ks.length<64/\∀l Bp,H l=none->An H Bp (dS cT ks)->Q (.ref l) (aV H l (.lst Bp))
theorem ZO:Aj X (.builtin "sorted") wZ:=by
 intro pins s σ H xs us Q I rv ⟨p,vs,ks,e,hp,ht,ne,h64,q⟩;subst e;obtain⟨u,rfl,ru⟩:=iC rv;cases ru;obtain⟨its,rits,pl,hz⟩:=I.list (Ay.of hp);have hits:=BU ht rits;refine K9 h64 (ZN I ht ne) (λQ' E' hQ=>?_) λh' tk D e out so hD ho k=>?_
 ·refine collect_list (vs:=bV ks.length (eZ vs)) (by rw[<-hits];exact pl.isList) ?_ (by rw[kA,jf];omega);refine hQ _ s.toks (λb o e=>?_) ?_
  ·have hlt:=au e;rw[ll _ _ _ _ (bg hlt),Heap.get?_push_ne _ _ _ (bg hlt)];exact e
  ·rw[Heap.size_update,wa];exact we _
 ·obtain⟨pp,Bp,h1,h2,h3,h4⟩:=LC (H:=H) so λi hi=>(ht.at_ hi).2;have e1:pp.map (λi=>ks.getD i [])=dS cT ks:=JV Bz h2 (LD h1 rfl);rw[e1]at h4;have hl:=h4.len;refine⟨.ref D,_,I.laid (t':=tk) k hD (show Al X.prog X.w _ _ _ (.lst Bp) from⟨?_,out,e,h3,ho⟩),rfl,q D Bp (I.hok.fresh hD) h4⟩;rw[hl,(wN ks).length_eq,jf];omega
def xA (prog:bf) (w:cf) (l:ah) (o:Obj) (kb:KB):Prop:=∃es ep t,∀h:cx,h.get? l=some o->Ap prog w h l kb o es ep t
structure KbOk (H:Hp) (kb:KB) (ks:wo):Prop where
 tup:∀p∈kb,H p.2=some (.tup (p.1.map V.int))
 frm:∀p∈kb,p.1∈ks
 all:∀k∈ks,k∈kb.map du
abbrev LF (X:Cx):List V->Hp->VK->Prop:=λxs H Q=>∃(p:ah) (vs:List V) (ks:wo),xs=[.ref p]/\H p=some (.lst vs)/\An H vs ks/\(eF cT ks).length<=76/\∀l o kb,H l=none->xA X.prog X.w l o kb->KbOk H kb ks->Q (.ref l) (aV H l (.frz o (.own 0)))
theorem sub_list:isSubtype (.type "list") (.type "set")=pure false/\isSubtype (.type "list") (.type "frozenset")=pure false:=⟨F.sub_list_set,F.sub_list_frozenset⟩
theorem ZP {k:Nat}(rm:Az k X.A):Aj X (.type "set") (LF X):=by
 intro pins s σ H xs us Q I rv ⟨p,vs,ks,e,hp,ht,hU,q⟩;subst e;obtain⟨u,rfl,ru⟩:=iC rv;cases ru;obtain⟨its,rits,pl,hz⟩:=I.list (Ay.of hp);have hits:=BU ht rits;have lp:=I.hok.lt hp;have hI:s.heap.IsList p (bV ks.length (eZ vs)).toArray:=by rw[<-hits];exact pl.isList
 have Br:(bV ks.length (eZ vs)).toArray.size=ks.length:=by rw[av,kA]
 have hh:X.A.in1.in1.in1.handled=none:=rm.hd;have hne:p≠s.heap.objs.size+1:=bg (gz lp);have hb:(s.heap.push (bare X.w)).IsList p (bV ks.length (eZ vs)).toArray:=hI.push _;have hs1:(s.heap.push (bare X.w)).objs.size=s.heap.objs.size+1:=wa _ _;have W:=uf (prog:=X.prog) (w:=X.w) (A:=X.A.in1.in1.in1) hh (s.heap.objs.size+1) p hne (bV ks.length (eZ vs)).toArray;rw[Br]at W;refine LA (T := "list") (it:={ cls:=.type "list_iterator",data:=.fields #[.ref p,.int 0 0] }) (eZ vs) (λi=>ks.getD i []) (eF cT ks) (by have:=rm.un;omega) hI.typeIs sub_list.1 sub_list.2 (by decide) (λB Q' E' hQ=>?_) W ?_ ?_ ?_ (λi v hv=>?_) hU (λi hi=>?_) (λj hj=>?_) λh' tk kb hS Dc k=>?_
 ·refine jt hb ?_;rw[<-hs1]at hQ;exact hQ
 ·intro m
  rcases az.mp m with z|m
  ·exact nq _ z.symm
  ·exact iz lp (bo.mp m)
 ·intro b hb;rw[bo.mp hb];exact jw _
 ·refine⟨⟨{ cls:=.type "list_iterator",data:=.fields #[.ref p,.int 0 0] }, ?_,rfl,rfl⟩,hb.push _⟩;rw[<-hs1];exact bc _ rfl
 ·have hi:i<ks.length:=by have:=(dm.mp hv).1;rwa [Br]at this
  have:(bV ks.length (eZ vs))[i]?=some (.ref (eZ vs i)):=by simp[bV,hi]
  rw[yu,this]at hv;exact(cw hv).symm
 ·refine(lO Bz _ _).mpr ?_;show ks.getD i []∈ks;simp[hi]
 ·exact wY I (ht.at_ hj).2
 ·obtain⟨o,es,ep,t,P⟩:=hS;refine⟨.ref s.heap.objs.size,_,I.laid (t':=tk) (o:=.frz o (.own 0)) k (aj _) ⟨P.obj,o,P.obj⟩,rfl,q _ o kb (I.hok.fresh (aj _)) ⟨es,ep,t,λh e=>P.at' e⟩ ⟨λz hz=>?_,λz hz=>?_,λz hz=>?_⟩⟩
  ·obtain⟨j,hj,rfl⟩:=Dc.from_ z hz;exact(ht.at_ hj).2
  ·obtain⟨j,hj,rfl⟩:=Dc.from_ z hz;show ks.getD j []∈ks;simp[hj]
  ·obtain⟨j,hj,rfl⟩:=ju hz;have:=Dc.all j hj;simpa[hj]using this
abbrev LG (X:Cx):List V->Hp->VK->Prop:=λxs H Q=>∃(l:ah) (o:Obj) (kb:KB) (ks:wo),xs=[.ref l]/\H l=some (.frz o (.own 0))/\xA X.prog X.w l o kb/\KbOk H kb ks/\(∀k∈ks,k≠[])/\(eF cT ks).length<64/\∀D Bp,H D=none->An H Bp (eF cT ks)->Q (.ref D) (aV H D (.lst Bp))
theorem ZQ {α β:Type}{f:α->β}:∀{l:List β}{l':List β},l.Perm l'->∀xs:List α,l'=xs.map f->∃ys:List α,ys.Perm xs/\l=ys.map f:=by
 intro l l' h
 induction h with
 |nil=>intro xs e;exact⟨xs,.refl _,e⟩
 |cons a _ ih=>
  intro xs e
  cases xs with
  |nil=>cases e
  |cons x xs=>simp only[df,zd]at e;obtain⟨ys,p,e'⟩:=ih xs e.2;exact⟨x::ys,p.cons x,by simp[e.1,e']⟩
 |swap a b l=>
  intro xs e
  cases xs with
  |nil=>cases e
  |cons x xs=>
   cases xs with
   |nil=>simp at e
   |cons y xs=>simp only[df,zd]at e;exact⟨y::x::xs,.swap ..,by simp[e.1,e.2.1,e.2.2]⟩
 |trans _ _ ih1 ih2=>intro xs e;obtain⟨ys,p,e'⟩:=ih2 xs e;obtain⟨zs,p',e''⟩:=ih1 ys e';exact⟨zs,p'.trans p,e''⟩
theorem ZR {k:Nat}(rm:Az k X.A):Aj X (.builtin "sorted") (LG X):=by
 intro pins s σ H xs us Q I rv ⟨l,o,kb,ks,e,hl,⟨es,ep,t,hP⟩,kO,ne,h64,q⟩;subst e;obtain⟨u,rfl,ru⟩:=iC rv;cases ru;have P:=hP s.heap (I.hok l _ hl).1;have pe:(iJ X.w l ep es).toList.Perm (gO X.prog X.w kb):=by rw[<-P.es];exact K2 _ _ _ _
 obtain⟨kc,pk,ek⟩:=ZQ pe kb rfl;have mem:∀i,i<kc.length->kc.getD i ([],0)∈kb:=λi hi=>pk.mem_iff.mp (by simp[hi]);have hn:(kb.map du).length=(eF cT ks).length:=by refine List.Perm.length_eq ((ku P.nd (pT Bz (oY Bz ks))).mpr λz=>?_);rw[lO Bz];refine⟨λh=>?_,λh=>kO.all z h⟩;obtain⟨p,hp,rfl⟩:=cb.mp h;exact kO.frm p hp
 have hlen:kc.length<64:=by rw[pk.length_eq];rw[aw]at hn;omega
 have hes:es.size=kc.length:=by rw[P.size,pk.length_eq]
 have KA:Bi X.prog X.w s.heap kc.length (λi=>(kc.getD i ([],0)).2) (λi=>(kc.getD i ([],0)).1):=λi hi=>⟨wY I (kO.tup _ (mem i hi)),ne _ (kO.frm _ (mem i hi))⟩
 have er:(iJ X.w l ep es).toList.map (·.2)=bV kc.length (λi=>(kc.getD i ([],0)).2):=by
  rw[ek,iw]
  apply List.ext_getElem (by simp[kA])
  intro i h1 h2;have hi:i<kc.length:=by simpa using h1
  simp[bV,hi]
 refine K9 hlen KA (λQ' E' hQ=>?_) λh' tk D e out so hD ho k=>?_
 ·refine ZF (show X.A.in1.handled=none from rm.hd) P (by rw[hes,jf];omega) λh' tk kk sz=>?_;rw[er];exact hQ h' tk kk sz
 ·obtain⟨pp,Bp,h1,h2,h3,h4⟩:=LC (H:=H) so λi hi=>kO.tup _ (mem i hi);have pm:(pp.map λi=>(kc.getD i ([],0)).1).Perm (kb.map du):=by have:=((LD (d:=(([],0):zr×ah)) h1 rfl).trans pk).map du;rwa [iw]at this
  have nd:(pp.map λi=>(kc.getD i ([],0)).1).Nodup:=pm.nodup_iff.mpr P.nd;have rs:fK cT (pp.map λi=>(kc.getD i ([],0)).1):=by
   refine(h2.and nd).imp λ{a b} ⟨x,y⟩=>?_
   cases q:cT a b with
   |true=>rfl
   |false=>exact absurd (Bz.tot a b q x) y
  have e1:(pp.map λi=>(kc.getD i ([],0)).1)=eF cT ks:=X8 Bz rs λz=>by rw[pm.mem_iff];refine⟨λh=>?_,λh=>kO.all z h⟩;obtain⟨p,hp,rfl⟩:=cb.mp h;exact kO.frm p hp
  rw[e1]at h4;refine⟨.ref D,_,I.laid (t':=tk) k hD (show Al X.prog X.w _ _ _ (.lst Bp) from⟨?_,out,e,h3,ho⟩),rfl,q D Bp (I.hok.fresh hD) h4⟩;rw[h4.len,jf];omega
end
def lQ:Dv->Option zr 
 | .tup xs=>bB fR xs
 |_=>none
def pV (k:zr):Dv:=.tup (k.map Dv.int)
section
variable{X:Cx}{G:Cfg}{E:XK}{k:Nat}{e a b:br}{es:List br}{ma mb:M Dv}{aQ:M zw }{p p2 pos Ci:Pos}
theorem xB {μ:Nat->ah}{n:Nat}{H:Hp}:∀{xs:zw}{vs:List V}{ks:wo},RelDL G μ n H xs vs->bB lQ xs=some ks->An H vs ks
 | [],_,ks,r,e=>by cases e;rw[RelDL]at r;subst r;trivial
 |x::xs,_,ks,r,e=>by
  rw[RelDL]at r;obtain⟨v,rr,rfl,r1,r2⟩:=r;unfold bB at e
  cases x with
  |tup ds=>
   dsimp only[lQ]at e
   cases q:bB fR ds with
   |none=>rw[q]at e;cases e
   |some zs=>
    rw[q]at e;dsimp only at e
    cases q2:bB lQ xs with
    |none=>rw[q2]at e;cases e
    |some ys=>rw[q2]at e;cases e;rw[Af]at r1;obtain⟨b,us,rfl,h1,h2⟩:=r1;rw[oR h2 q]at h1;exact⟨⟨b,rfl,h1⟩,xB r2 q2⟩
  |_=>cases e
theorem BV {μ:Nat->ah}{n:Nat}{H:Hp}:∀{vs:List V}{ks:wo},An H vs ks->RelDL G μ n H (ks.map pV) vs
 | [],[],_=>RelDL.nil
 | [],_::_,h=>h.elim
 |_::_,[],h=>h.elim
 |v::vs,k::ks,h=>by obtain⟨⟨b,rfl,e⟩,h2⟩:=h;refine RelDL.cons ?_ (BV h2);unfold pV;rw[Af];exact⟨b,_,rfl,e,rA k⟩
def pW (ks:wo):Bool:=ks.all λk=>!k.isEmpty
theorem LH {ks:wo}(h:pW ks=true):∀k∈ks,k≠[]:=λk hk e=>by have:=ff.mp h k hk;rw[e]at this;cases this
def rQ (x:Dv) (h:Hs):Rs Dv:=match x with
 | .ref i=>match getL h i with
  |some xs=>match bB lQ xs with
   |some ks=>if(pW ks&&decide (ks.length<64))=true then .ok (.ref h.length) (h++[.lst ((dS cT ks).map pV)])else .bad
   |none=>.bad
  |none=>.bad
 |_=>.bad
theorem LI:iX G (λx H Q=>wZ [x] H Q) rQ:=by
 intro E μ h H x vx Q s r o
 cases x with
 |ref i=>
  dsimp only[rQ]at o
  cases q:getL h i with
  |none=>rw[q]at o;exact o.elim
  |some xs=>
   rw[q]at o;dsimp only at o
   cases q2:bB lQ xs with
   |none=>rw[q2]at o;exact o.elim
   |some ks=>
    rw[q2]at o;dsimp only at o
    split at o
    ·rename_i h0;rw[da]at h0;obtain⟨vs,e1,r1⟩:=s.ob i _ (dG q);obtain⟨_,rfl⟩:=r;exact⟨_,vs,ks,rfl,e1,xB r1 q2,LH h0.1,by simpa using h0.2,λl Bp hl ht=>oC s (BV ht) hl o⟩
    ·exact o.elim
 |_=>exact o.elim
def lR (x:Dv) (h:Hs):Rs Dv:=match oW x h with
 | .ok d h1=>.ok d h1
 |_=>rQ x h
abbrev LJ:List V->Hp->VK->Prop:=λxs H Q=>∃(p:ah) (ns:zr),xs=[.ref p]/\H p=some (.lst (ns.map V.int))/\ns.length<64/\∀l,H l=none->Q (.ref l) (aV H l (.lst ((jX ns).map V.int)))
theorem ZS:iX G (λx H Q=>LJ [x] H Q∨wZ [x] H Q) lR:=by
 intro E μ h H x vx Q s r o;unfold lR at o
 cases q:oW x h with
 |ok d h1=>rw[q]at o;obtain⟨p,ns,e,r1⟩:=XX E μ h H x vx Q s r (by rw[q];exact o);exact .inl ⟨p,ns,by rw[e],r1⟩
 |ex c h1=>rw[q]at o;exact .inr (LI E μ h H x vx Q s r o)
 |bad=>rw[q]at o;exact .inr (LI E μ h H x vx Q s r o)
theorem ZT:Aj X (.builtin "sorted") (λxs H Q=>LJ xs H Q∨wZ xs H Q):=by
 intro pins s σ H xs us Q I rv h
 rcases h with h|h
 ·exact XT pins s σ H xs us Q I rv h
 ·exact ZO pins s σ H xs us Q I rv h
theorem ZU (hg:Gl X "sorted") (hm:X.mg "sorted" = none) (ha:dY X G E [e] aQ)
  (he:ar [e] X.env=[(false,eval e X.env)]:=by rfl):aK X G E (.Call (.Name "sorted" p) [e] [] pos) (aD (f1 lR) aQ):=
 pG (Aj.imp ZT λxs H Q ⟨v,h1,h2⟩=>by rw[h1];exact h2) (pH ZS) hg hm JD ha (by decide) (by decide) he rfl
theorem ZV:dj "set" = some (.type "set"):=by decide +kernel
end
open PySem.SeqAt PySem.MeetsSeq PySem.MeetsSeq2 PySem.MeetsSeq3
section
variable{X:Cx}{G:Cfg}{E:XK}{k:Nat}{e a b o:br}{es:List br}{mo me ma mb:M Dv}{aQ:M zw }{p p2 pos Ci apos cpos np:Pos}{y:Str}
theorem ZW {prog:bf}{w:cf}{A:cg}{Ee:af->ag->Prop}{s:ag}{t sl:ah}{items:Array af}{vl vu:af}{lo hi:Option Int}{Q:af->ag->Prop}(ht:yk s.heap t items) (hs:s.heap.IsSliceOf sl vl vu .none) (pl:uh vl lo) (pu:uh vu hi)
  (h0:HT.sIx items.size 0 lo=0) (h1:HT.sIx items.size items.size hi=items.size) (h:Q (.ref t) s):wpAny (model prog w) A (getItem (.ref t) (.ref sl)) Q Ee s:=by
 obtain⟨os,hos,hcs,hds⟩:=id hs;have hTs:s.TypeIs (.ref sl) "slice" := ⟨os,hos,hcs⟩;have tt:=ht.typeIs;obtain⟨ot,et,ct,_⟩:=id ht;unfold getItem
 try with_reducible refine fw ?_
 first|refine ae (ai ?_)|skip
 refine ae (wpAny_sequenceKey tt (by decide) (ae (dw (name:=jq "__getitem__") tt fv (ed fv tt PySem.F.entry_tuple_getitem ?_ (PySem.F.args_tuple_getitem_2 _ _)))));refine ae (m:=slotArgs "__getitem__" 1 ⟨[.ref t,.ref sl],[]⟩) (ai (ae (zh ht (ae (qd hTs ?_)))));rw[if_pos (by decide)];refine ae (HT.sliceApplied_gen hs pl pu ?_);rw[h0,h1];show wpAny _ _ (if(((0:Nat):Int)==0&&(1:Int)==1&&(items.size - 0)==items.size)=true then _ else _) _ _ s;rw[if_pos (by simp)];unfold Builtin.Tuple.tupleIsExact;refine ae (ae (qd tt (ai ?_)));rw[if_pos (by decide)];refine ae (qp (ai ⟨_,rfl,ai h⟩))
theorem ZX:SlR X (λx lo hi H Q=>∃a xs,x=.ref a/\Au X.K H a xs/\HT.sIx xs.length 0 lo=0/\HT.sIx xs.length xs.length hi=xs.length/\Q (.ref a) H):=by
 intro pins s σ H x v vl vu lo hi sl Q I rx hs pl pu ⟨a,xs,ex,hx,h0,h1,q⟩;subst ex;cases rx;obtain⟨its,r,ht,hz⟩:=I.tuple hx;have hlen:its.toArray.size=xs.length:=by rw[av];exact r.length.symm
 exact⟨"tuple",_,fv.lookup,ht.typeIs,ZW ht hs pl pu (by rw[hlen];exact h0) (by rw[hlen];exact h1) ⟨.ref a,H,I,rfl,q⟩⟩
def tX (x:Dv) (lo hi:Option Int) (h:Hs):Rs Dv:=match x with
 | .ref j=>match getL h j with
  |some xs=>.ok (.ref h.length) (h++[.lst (oK xs lo hi)])
  |none=>.bad
 | .tup xs=>.ok (.tup (oK xs lo hi)) h
 |_=>.bad
theorem ZY {xs:zw}{lo hi:Option Int}(h0:HT.sIx xs.length 0 lo=0) (h1:HT.sIx xs.length xs.length hi=xs.length):oK xs lo hi=xs:=by unfold oK;rw[h0,h1];simp
def pA (m:M Dv) (lo hi:MO):M Dv:=λρ h=>(m ρ h).bind λx h1=>(lo ρ h1).bind λl h2=>(hi ρ h2).bind λu h3=>tX x l u h3
theorem ZZ {lo hi:Option br}{ml mh:MO}(ho:aK X G E o mo) (hl:wF X G E lo ml) (hh:wF X G E hi mh):aK X G E (.Subscript o (.Slice lo hi none p2) pos) (pA mo ml mh):=λhK=>
 PE.imp (SQ (SlR.or (SlR.or S5 SU) ZX) (ho hK) (hl hK) (hh hK)) λσ H Q ⟨μ,ρ,h,rs,s,oo⟩=>fG rs s oo λμ1 x h1 vx H1 x1 Ax s1 r1 o1=>by
  refine⟨μ1,ρ,h1,Ax,s1,(o1.bind (R1:=λ_ _ _ a b=>b=a)).mono λl' H2 ⟨μ2,l,h2,x2,s2,el,o2⟩=>?_⟩;subst el;refine⟨μ2,ρ,h2,Ax.mono x2,s2,(o2.bind (R1:=λ_ _ _ a b=>b=a)).mono λu' H3 ⟨μ3,u,h3,x3,s3,eu,o3⟩=>?_⟩;subst eu;have r3:=Af.mono (x2.trans x3) _ _ r1
  cases x with
  |ref j=>
   dsimp only[tX]at o3
   cases q:getL h3 j with
   |none=>rw[q]at o3;exact o3.elim
   |some xs=>rw[q]at o3;obtain⟨vs,ea,ra⟩:=s3.ob j _ (dG q);obtain⟨_,rfl⟩:=r3;exact .inl (.inl ⟨_,vs,rfl,Ay.of ea,λp hp=>oC s3 (IT ra _ _) hp o3⟩)
  |tup xs=>
   dsimp only[tX]at o3;obtain⟨a,vs,rfl,ea,ra⟩:=r3
   by_cases hw:HT.sIx xs.length 0 l'=0/\HT.sIx xs.length xs.length u'=xs.length
   ·refine .inr ⟨a,vs,rfl,Au.of ea,by rw[ra.length];exact hw.1,by rw[ra.length];exact hw.2,o3 μ3 _ _ Ext.refl s3 ?_⟩;rw[ZY hw.1 hw.2];exact⟨a,vs,rfl,ea,ra⟩
   ·exact .inl (.inr ⟨a,vs,rfl,Au.of ea,by rw[ra.length];exact hw,λp hp=>o3 μ3 _ _ (Ext.same (dQ hp)) (s3.same (dQ hp)) ⟨p,_,rfl,eR,RelDL.mono (Ext.same (dQ hp)) _ _ (IT ra _ _)⟩⟩)
  |_=>exact o3.elim
def gH (x y:Dv) (h:Hs):Rs Dv:=match x,y with
 | .int i,.int j=>.ok (.bl (decide (i<j))) h
 | .tup xs,.tup ys=>match bB fR xs,bB fR ys with
  |some ns,some ms=>.ok (.bl (HT.lexLt ns ms)) h
  |_,_=>.bad
 |_,_=>.bad
theorem LK:∀x y:zr,HT.lexLt x y=cT x y
 | [],[]=>rfl
 | [],_::_=>rfl
 |_::_,[]=>rfl
 |a::x,b::y=>by
  rw[HT.lexLt_cons,cT,LK x y]
  by_cases h:a=b <;> simp[h]
theorem LL:fY G (λx y H Q=>(jO λi j=>.bl (decide (i<j))) x y H Q∨F1 G.K x y H Q) gH:=by
 intro E μ h H x y vx vy Q s rx ry o;unfold gH at o
 split at o
 ·rename_i i j;exact .inl (mZ E μ h H (.int i) (.int j) vx vy Q s rx ry o)
 ·rename_i xs ys
  cases q1:bB fR xs with
  |none=>rw[q1]at o;exact o.elim
  |some ns=>
   cases q2:bB fR ys with
   |none=>rw[q1,q2]at o;exact o.elim
   |some ms=>rw[q1,q2]at o;obtain⟨a,us,rfl,ea,ra⟩:=rx;obtain⟨b,ws,rfl,eb,rb⟩:=ry;exact .inr ⟨a,b,ns,ms,rfl,rfl,Au.of (by rw[ea,oR ra q1]),Au.of (by rw[eb,oR rb q2]),o.val s rfl⟩
 ·exact o.elim
theorem LM (g:Good X G E k) (ha:aK X G E a ma) (hb:aK X G E b mb):aK X G E (.Compare a [.Lt] [b] pos) (m2 gH ma mb):=λhK=>mW (Ba.or FH (F2 (by have:=g.room.un;omega))) (by rw[hK];exact LL) ha hb (iB _) hK
theorem LN (g:Good X G E k) (ha:aK X G E a ma) (hb:aK X G E b mb):fO X G E (.Compare a [.Lt] [b] pos) (mB (m2 gH ma mb)):=λhK=>lE (Ba.or FH (F2 (by have:=g.room.un;omega))) (by rw[hK];exact LL) ha hb (iB _) hK
def bO (j:Int):zr:=(bj j.toNat).map λk:Nat=>(k:Int)
theorem Z0:Aj X (.type "range") (λxs H Q=>∃j:Int,xs=[.int j]/\∀l,H l=none->Q (.ref l) (aV H l (.rng 0 j))):=by intro pins s σ H xs us Q I rv ⟨j,e,q⟩;subst e;obtain⟨u,rfl,ru⟩:=iC rv;obtain⟨t,rfl⟩:=ru;refine call_range_1 ⟨.ref s.heap.objs.size,_,I.laid (t':=s.toks+1+1) (o:=.rng 0 j) (λb ob q=>ak _ q) (aj _) ⟨_,_,_,bc _ rfl⟩,rfl,q _ (I.hok.fresh (aj _))⟩
theorem Z1 (rm:Az k X.A):Aj X (.type "list") (λxs H Q=>∃(l:ah) (j:Int),xs=[.ref l]/\H l=some (.rng 0 j)/\0<=j/\j<=1000/\∀D,H D=none->Q (.ref D) (aV H D (.lst ((bO j).map V.int)))):=by
 intro pins s σ H xs us Q I rv ⟨l,j,e,hl,h0,h1,q⟩;subst e;obtain⟨u,rfl,ru⟩:=iC rv;cases ru;obtain⟨t,u,v,hr⟩:=I.hok l _ hl;refine call_list_range (n:=j.toNat) (a:=0) (b:=j) (c:=1) rm.hd hr (small_one (by omega) (by omega) (by omega) (by omega)) ?_ (by omega) λh' tk acc c ke ho ia=>?_
 ·rw[rangeSize_one]
  split <;> omega
 ·have hv:Ag ((bO j).map V.int) acc.toList:=by
   have:∀(n:Nat) (as:List af),as.length=n->(∀(i:Nat) (v:af),as[i]?=some v->∃t,v=Value.int (0+(i:Int)*1) t)->Ag (((bj n).map λk:Nat=>(k:Int)).map V.int) as:=λn=>by
    induction n with
    |zero=>intro as hl _;rw[mm.mp hl];exact .nil
    |succ n ih=>
     intro as hl hi;have hne:as≠[]:=λz=>by rw[z]at hl;cases hl
     have e:=oh hne;rw[<-e,si,ic,ic];have hlast:as[n]?=some (as.getLast hne):=by
      rw[List.getLast_eq_getElem,ba (by omega)]
      congr 2;omega
     obtain⟨t,ht⟩:=hi n _ hlast;refine Ag.append (ih as.dropLast (by simp[hl]) λi v hv=>hi i v ?_) ?_
     ·rw[List.getElem?_dropLast]at hv
      split at hv
      ·exact hv
      ·cases hv
     ·refine .cons ?_ .nil;show RelV (.int (n:Int)) _;rw[ht];exact⟨t,by simp⟩
   refine this j.toNat acc.toList (by simpa using ia.1) λi v hv=>?_;exact ia.2 i v (by simpa using hv)
  refine⟨.ref s.heap.objs.size,_,I.laid (t':=tk) ke (aj _) (show Al X.prog X.w _ _ _ (.lst ((bO j).map V.int)) from⟨?_,acc.toList,c,hv, ?_⟩),rfl,q _ (I.hok.fresh (aj _))⟩
  ·rw[aw,bO,aw,km,jf];omega
  ·rw[ho]
def rR:Dv->Hs->Rs Dv
 | .int j,h=>if(decide (0<=j)&&decide (j<=1000))=true then .ok (.ref h.length) (h++[.lst ((bO j).map Dv.int)])else .bad
 |_,_=>.bad
theorem Z2 (g:Good X G E k) (hg:Gl X "list") (hm:X.mg "list" = none) (hg2:Gl X "range") (hm2:X.mg "range" = none) (ha:dY X G E [e] aQ)
  (he:ar [e] X.env=[(false,eval e X.env)]:=by rfl) (he2:ar [Expr.Call (.Name "range" p2) [e] [] Ci] X.env=[(false,eval (.Call (.Name "range" p2) [e] [] Ci) X.env)]:=by rfl):
  aK X G E (.Call (.Name "list" p) [.Call (.Name "range" p2) [e] [] Ci] [] pos) (aD (f1 rR) aQ):=λhK=>
 PE.imp (vD (Z1 g.room) hg hm G8 (lA (vD Z0 hg2 hm2 boot_range (ha hK) (by decide) (by decide) he rfl) mS he2) (by decide) (by decide) he2 rfl) λσ H Q ⟨μ,ρ,h,rs,s,o⟩=>by
  refine kK rs s o λμ1 ds h1 vs H1 x1 Ax s1 r1 o1=>?_;unfold f1 at o1
  split at o1
  ·rename_i d;obtain⟨v,rfl,rv⟩:=tD r1
   cases d with
   |int j=>
    dsimp only[rR]at o1
    split at o1
    ·rename_i h0;rw[da]at h0;have j0:0<=j:=by simpa using h0.1
     have j1:j<=1000:=by simpa using h0.2
     rw[Af]at rv;subst rv;refine⟨j,rfl,λl hl=>?_⟩;have sm:=dQ (o:=.rng 0 j) hl;refine⟨l,j,rfl,eR,j0,j1,λD hD=>?_⟩;exact oC (E:=E) (s1.same sm) (rA _) hD (λμ' H' v x'=>o1 μ' H' v ((Ext.same sm).trans x'))
    ·exact o1.elim
   |_=>exact o1.elim
  ·exact o1.elim
end
section
variable{mo me:M Dv}{ml mh:MO}
end
section
variable{X:Cx}{G:Cfg}{E:XK}{k:Nat}{e a b o:br}{es:List br}{mo me ma mb:M Dv}{aQ:M zw }{p p2 pos Ci apos cpos np:Pos}{y:Str}
theorem sub_tuple:isSubtype (.type "tuple") (.type "set")=pure false/\isSubtype (.type "tuple") (.type "frozenset")=pure false:=by constructor <;> (rw[isSubtype_type];kernel_rfl)
abbrev LO (X:Cx):List V->Hp->VK->Prop:=λxs H Q=>∃(p:ah) (vs:List V) (ks:wo),xs=[.ref p]/\H p=some (.tup vs)/\An H vs ks/\(eF cT ks).length<=76/\∀l o kb,H l=none->xA X.prog X.w l o kb->KbOk H kb ks->Q (.ref l) (aV H l (.frz o (.own 0)))
theorem Z3 (rm:Az k X.A):Aj X (.type "set") (LO X):=by
 intro pins s σ H xs us Q I rv ⟨p,vs,ks,e,hp,ht,hU,q⟩;subst e;obtain⟨u,rfl,ru⟩:=iC rv;cases ru;obtain⟨its,rits,pl,hz⟩:=I.tuple (Au.of hp);have hits:=BU ht rits;have lp:=I.hok.lt hp;have hI:s.heap.IsTuple p (bV ks.length (eZ vs)).toArray:=by rw[<-hits];exact pl
 have Br:(bV ks.length (eZ vs)).toArray.size=ks.length:=by rw[av,kA]
 have hne:p≠s.heap.objs.size+1:=bg (gz lp);have hb:(s.heap.push (bare X.w)).IsTuple p (bV ks.length (eZ vs)).toArray:=IsTup.push (items:=(bV ks.length (eZ vs)).toArray) hI _;have hs1:(s.heap.push (bare X.w)).objs.size=s.heap.objs.size+1:=wa _ _;have W:=Walks.tuple (prog:=X.prog) (w:=X.w) (A:=X.A.in1.in1.in1) (show X.A.in1.in1.in1.handled=none from rm.hd) (s.heap.objs.size+1) p hne (bV ks.length (eZ vs)).toArray;rw[Br]at W;refine LA (T := "tuple") (it:={ cls:=.type "tuple_iterator",data:=.fields #[.ref p,.int 0 0] }) (eZ vs) (λi=>ks.getD i []) (eF cT ks) (by have:=rm.un;omega) hI.typeIs sub_tuple.1 sub_tuple.2 (by decide) (λB Q' E' hQ=>?_) W (λm=>?_) (λb hb=>?_) ⟨⟨{ cls:=.type "tuple_iterator",data:=.fields #[.ref p,.int 0 0] }, ?_,rfl,rfl⟩,IsTup.push (items:=(bV ks.length (eZ vs)).toArray) hb _⟩ (λi v hv=>?_) hU (λi hi=>?_) (λj hj=>wY I (ht.at_ hj).2) λh' tk kb hS Dc k=>?_
 ·refine mw hb ?_;rw[<-hs1]at hQ;exact hQ
 ·rcases az.mp m with z|m
  ·exact nq _ z.symm
  ·exact iz lp (bo.mp m)
 ·rw[bo.mp hb];exact jw _
 ·rw[<-hs1];exact bc _ rfl
 ·have hi:i<ks.length:=by have:=(dm.mp hv).1;rwa [Br]at this
  have:(bV ks.length (eZ vs))[i]?=some (.ref (eZ vs i)):=by simp[bV,hi]
  rw[yu,this]at hv;exact(cw hv).symm
 ·refine(lO Bz _ _).mpr ?_;show ks.getD i []∈ks;simp[hi]
 ·obtain⟨o,es,ep,t,P⟩:=hS;refine⟨.ref s.heap.objs.size,_,I.laid (t':=tk) (o:=.frz o (.own 0)) k (aj _) ⟨P.obj,o,P.obj⟩,rfl,q _ o kb (I.hok.fresh (aj _)) ⟨es,ep,t,λh e=>P.at' e⟩ ⟨λz hz=>?_,λz hz=>?_,λz hz=>?_⟩⟩
  ·obtain⟨j,hj,rfl⟩:=Dc.from_ z hz;exact(ht.at_ hj).2
  ·obtain⟨j,hj,rfl⟩:=Dc.from_ z hz;show ks.getD j []∈ks;simp[hj]
  ·obtain⟨j,hj,rfl⟩:=ju hz;have:=Dc.all j hj;simpa[hj]using this
theorem Z4 (rm:Az k X.A):Aj X (.type "set") (λxs H Q=>LF X xs H Q∨LO X xs H Q):=by
 intro pins s σ H xs us Q I rv h
 rcases h with h|h
 ·exact ZP rm pins s σ H xs us Q I rv h
 ·exact Z3 rm pins s σ H xs us Q I rv h
def pX (x:Dv) (h:Hs):Option wo :=match x with
 | .ref i=>match getL h i with
  |some xs=>bB lQ xs
  |none=>none
 | .tup xs=>bB lQ xs
 |_=>none
def lS (x:Dv) (h:Hs):Rs Dv:=match pX x h with
 |some ks=>if(pW ks&&decide ((eF cT ks).length<64))=true then .ok (.ref h.length) (h++[.lst ((eF cT ks).map pV)])else .bad
 |none=>.bad
theorem LP (g:Good X G E k) (hg:Gl X "sorted") (hm:X.mg "sorted" = none) (hg2:Gl X "set") (hm2:X.mg "set" = none) (ha:dY X G E [e] aQ)
  (he:ar [e] X.env=[(false,eval e X.env)]:=by rfl) (he2:ar [Expr.Call (.Name "set" p2) [e] [] Ci] X.env=[(false,eval (.Call (.Name "set" p2) [e] [] Ci) X.env)]:=by rfl):
  aK X G E (.Call (.Name "sorted" p) [.Call (.Name "set" p2) [e] [] Ci] [] pos) (aD (f1 lS) aQ):=λhK=>
 PE.imp (vC (ZR g.room) hg hm JD (lA (vD (Z4 g.room) hg2 hm2 ZV (ha hK) (by decide) (by decide) he rfl) mS he2) (by decide) (by decide) he2 rfl) λσ H Q ⟨μ,ρ,h,rs,s,o⟩=>by
  refine kK rs s o λμ1 ds h1 vs H1 x1 Ax s1 r1 o1=>?_;unfold f1 at o1
  split at o1
  ·rename_i d;obtain⟨v,rfl,rv⟩:=tD r1;unfold lS at o1
   cases q:pX d h1 with
   |none=>rw[q]at o1;exact o1.elim
   |some ks=>
    rw[q]at o1;dsimp only at o1
    split at o1
    ·rename_i h0;rw[da]at h0;have h64:(eF cT ks).length<64:=by simpa using h0.2
     have fin:∀(l:ah) (o:Obj) (kb:KB),H1 l=none->xA X.prog X.w l o kb->KbOk H1 kb ks->LG X [.ref l] (aV H1 l (.frz o (.own 0))) Q:=λl o kb hl so ko=>by have sm:=dQ (o:=.frz o (.own 0)) hl;refine⟨l,o,kb,ks,rfl,eR,so,⟨λp hp=>sm _ _ (ko.tup p hp),ko.frm,ko.all⟩,LH h0.1,h64,λD Bp hD ht=>?_⟩;exact oC (E:=E) (s1.same sm) (BV ht) hD (λμ' H' v x'=>o1 μ' H' v ((Ext.same sm).trans x'))
     cases d with
     |ref i=>
      dsimp only[pX]at q
      cases q1:getL h1 i with
      |none=>rw[q1]at q;cases q
      |some xs=>rw[q1]at q;obtain⟨vs,e1,r2⟩:=s1.ob i _ (dG q1);obtain⟨_,rfl⟩:=rv;exact .inl ⟨_,vs,ks,rfl,e1,xB r2 q,by omega,fin⟩
     |tup xs=>obtain⟨a,vs,rfl,e1,r2⟩:=rv;exact .inr ⟨_,vs,ks,rfl,e1,xB r2 q,by omega,fin⟩
     |_=>cases q
    ·exact o1.elim
  ·exact o1.elim
end
theorem LQ {α β:Type}{f g:α->Option β}:∀l:List α,(∀x∈l,f x=g x)->l.filterMap f=l.filterMap g
 | [],_=>rfl
 |x::l,h=>by rw[cm,cm,h x (by simp),LQ l λy hy=>h y (by simp[hy])]
section
variable{X:Cx}{G:Cfg}{E:XK}{o:br}{mo:M Dv}{ms:MO}{se:br}{p2 pos:Pos}
end
end L2.Mr
namespace L2.Mr.Com
open PySem PySem.Spec PyProof.Rows L2 L2.Mr
def LR:MS:=(aL (dH (m1 (eX wG) (aA 0)) (m1 sZ (m1 (eX wH) (aA 0)))))
def F_q4:zv:=aS 1 1 (LR)
def BW:MS:=(aL (dH (aD F_q4 (aB (aA 0) aC)) (qW gM gM (aA 1) (aA 0) (aA 2))))
def F_qp:zv:=aS 3 3 (BW)
def BX:MS:=(aL (mL hY (bJ (aQ nG (aB (aA 0) (aB (pA (aA 0) (oO (mC (.int 1))) oM) aC))) [none,none] (cM 2 (aU (aF 0) (aU (aF 1) cO))) bQ (bA (m2 gH (aA 0) (aA 1))))))
def F_qx:zv:=aS 1 1 (BX)
def LS:MS:=(aL (aD F_qp (aB (aA 1) (aB (mC (.int 0)) (aB (m2 eE (aA 0) (mC (.int 1))) aC)))))
def F_q3:zv:=aS 2 2 (LS)
def LU:MS:=(aL (dH (m1 (eX gN) (aA 1)) (mL hY (bJ (bC dZ (aA 1)) [none,some 0] (aF 0) bQ (bA (aD F_q3 (aB (aA 1) (aB (aA 0) aC))))))))
def F_qo:zv:=aS 2 2 (LU)
def BY:MS:=(aL (dH (aD F_qo (aB (aA 0) (aB (aA 1) aC))) (m2 bE (aD (f1 bR) (aB (aA 1) aC)) (mC (.int 2)))))
def F_q8:zv:=aS 2 2 (BY)
def LV:MS:=(aL (mL hY (bJ (bC dZ (aA 1)) [none,some 0] (aF 0) bQ (bA (aD F_q8 (aB (aA 1) (aB (aA 0) aC)))))))
def F_qv:zv:=aS 2 2 (LV)
def LW:MS:=(aL (mL pK (bJ (bC dZ (aA 0)) [none,none] (cM 2 (aU (aF 0) (aU (aF 1) cO))) bQ (bA (m2 bE (aA 0) (aA 1))))))
def F_qw:zv:=aS 1 1 (LW)
def LX:MS:=(aL (mL hY (bJ (bC dZ (aA 0)) [none,none,none,none,some 0] (cM 2 (aU (aF 0) (aU (aF 1) cO))) bQ (fI (bC dZ (aA 4)) (cM 2 (aU (aF 2) (aU (aF 3) cO))) (mB (m2 bE (aA 1) (aA 2))) (bA (m2 (bU false) (aT (aB (aA 0) (aB (aA 3) aC))) (aA 4)))))))
def F_qi:zv:=aS 1 1 (LX)
def LY:MS:=(aI (aX (dE (cG (bI (m1 (eX gN) (aA 0)))) (mB (m2 dN (aD (f1 bR) (aB (aA 0) aC)) (mC (.int 2))))) (aL (mC (.bl false))) bG) (aI (aM (aA 0) (cM 2 (aU (aF 1) (aU (aF 2) cO)))) (aI (aX (dE (cG (bI (aD F_qp (aB (aA 1) (aB (mC (.int 1)) (aB (mC (.int 6)) aC)))))) (cG (bI (m1 (eX gN) (aA 2))))) (aL (mC (.bl false))) bG) (aI (aX (dE (cG (bI (aD F_qv (aB (aA 1) (aB (aA 2) aC))))) (cG (bI (aD F_qx (aB (aA 2) aC))))) (aL (mC (.bl false))) bG) (aL (dH (m1 sZ (aD F_qw (aB (aA 2) aC))) (aD F_qi (aB (aA 2) aC))))))))
def F_q1:zv:=aS 1 3 (LY)
def xC (scr:zr):MS:=(aI (aX (mB (m2 gH (aA 1) (aD (f1 (hW scr)) (aB (aA 0) aC)))) (aL (m2 (gW scr) (aA 0) (aA 1))) bG) (aL (mC (.int 0))))
def F_qe (scr:zr):zv:=aS 2 2 (xC scr)
def xD (scr:zr):MS:=(aI (aM (aD (F_qe scr) (aB (aA 0) (aB (aA 1) aC))) (aF 2)) (aI (aX (mB (m2 pP (aA 2) (m2 tJ (mC (.int 10)) (mC (.int 18))))) (aL (cA (aB (m2 eE (aA 2) (m2 tJ (mC (.int 10)) (mC (.int 18)))) (aB (mC (.bl true)) aC)))) bG) (aL (cA (aB (m2 lK (aA 2) (mC (.int 2147483647))) (aB (mC (.bl false)) aC))))))
def F_qm (scr:zr):zv:=aS 2 3 (xD scr)
def BZ:MS:=(aI (aX (bI (m2 aO (aA 0) (mC (.int 1)))) (aI (aM (m2 lK (m2 aO (aA 0) (mC (.int 0))) (aA 1)) (aF 2)) (aI (tG (aA 0) (mC (.int 0)) (m2 tN (m2 aO (aA 0) (mC (.int 0))) (aA 1))) (aL (aA 2)))) bG) (aI (tG (aA 0) (mC (.int 0)) (m2 lK (m2 cN (m2 lJ (m2 aO (aA 0) (mC (.int 0))) (mC (.int 48271))) (mC (.int 29))) (mC (.int 2147483647)))) (aI (aM (m2 lK (m2 cN (m2 cN (m2 lJ (m2 aO (aA 0) (mC (.int 0))) (m2 aO (aA 0) (mC (.int 0)))) (m2 lJ (mC (.int 39373)) (m2 aO (aA 0) (mC (.int 0))))) (mC (.int 7))) (mC (.int 2147483629))) (aF 3)) (aI (aM (m2 lK (m2 cN (m2 lJ (aA 3) (aA 3)) (m2 lJ (mC (.int 16807)) (aA 3))) (mC (.int 2147483587))) (aF 3)) (aL (m2 lK (m2 tN (aA 3) (mC (.int 8))) (aA 1)))))))
def F_qt:zv:=aS 2 4 (BZ)
def CA:MS:=(aI (aM (aD (f1 kS) (aB (aA 1) aC)) (aF 2)) (aI (aM (cA aC) (aF 3)) (aI (iI (mB (m2 dN (aA 2) (cA aC))) (cC (iN (aA 3) (tI (aA 2) (aD F_qt (aB (aA 0) (aB (aD (f1 bR) (aB (aA 2) aC)) aC)))))) 40) (aL (aA 3)))))
def F_qc:zv:=aS 2 4 (CA)
def iR:MS:=(aI (aM (aD (f1 lS) (aB (aA 0) aC)) (aF 1)) (iI (bI (mC (.bl true))) (aI (aM (aD (f1 kS) (aB (aA 1) aC)) (aF 2)) (aI (dR (bC cD (aA 1)) (cM 2 (aU (aF 3) (aU (aF 4) cO))) (cC (pN (aA 2) (bJ (bC cD (aA 1)) [none,none,some 3,some 4] (cM 2 (aU (aF 0) (aU (aF 1) cO))) (mB (m2 bE (aA 3) (aA 0))) (bA (aT (aB (aA 2) (aB (aA 1) aC)))))))) (aI (aM (aD (f1 lS) (aB (aA 2) aC)) (aF 2)) (aI (aX (mB (m2 bE (aA 2) (aA 1))) (aL (aA 1)) bG) (aM (aA 2) (aF 1)))))) 40))
def F_qh:zv:=aS 1 5 (iR)
def iS:MS:=(aI (aM (m2 eE (aA 1) (m2 aO (cA (aB (mC (.int 0)) (aB (mC (.int 0)) (aB (mC (.int 1)) (aB (mC (.int 2)) (aB (mC (.int 0)) (aB (mC (.int 3)) (aB (mC (.int 1)) (aB (mC (.int 4)) aC))))))))) (aD F_qt (aB (aA 0) (aB (mC (.int 8)) aC))))) (aF 2)) (aI (aM (aD nB (aB (mC (.int 1)) (aB (aA 2) aC))) (aF 2)) (aI (aM (aD F_qc (aB (aA 0) (aB (aD (f1 rR) (aB (aA 2) aC)) aC))) (aF 3)) (aI (aM (aD F_qt (aB (aA 0) (aB (mC (.int 5)) aC))) (aF 4)) (aI (aM (cA aC) (aF 5)) (aI (aM (bM (bJ (bC cD (aA 3)) [none,some 0] (aF 0) bQ (bA (aD F_qt (aB (aA 1) (aB (mC (.int 3)) aC)))))) (aF 6)) (aI (dR (aQ cH (aB (aA 2) aC)) (aF 7) (dR (aQ hX (aB (m2 cN (aA 7) (mC (.int 1))) (aB (aA 2) aC))) (aF 8) (aI (aM (cA (aB (m2 bE (aD F_qt (aB (aA 0) (aB (mC (.int 6)) aC))) (mC (.int 0))) (aB (m2 bE (aD F_qt (aB (aA 0) (aB (mC (.int 2)) aC))) (mC (.int 0))) (aB (m2 nI (aD F_qt (aB (aA 0) (aB (mC (.int 4)) aC))) (mC (.int 0))) aC)))) (aF 9)) (aI (aM (m2 cN (aA 9) (cA (aB (m2 gH (m2 aO (aA 6) (aA 7)) (m2 aO (aA 6) (aA 8))) (aB (m2 bE (m2 aO (aA 6) (aA 7)) (m2 aO (aA 6) (aA 8))) aC)))) (aF 9)) (aX (bI (m2 aO (aA 9) (aA 4))) (cC (iN (aA 5) (aT (aB (m2 aO (aA 3) (aA 7)) (aB (m2 aO (aA 3) (aA 8)) aC))))) bG))))) (aI (aX (mB (m2 bE (aA 4) (mC (.int 3)))) (aI (aM (cA aC) (aF 5)) (dR (aQ cH (aB (aA 2) aC)) (aF 7) (aM (m2 cN (aA 5) (bM (bJ (aQ cH (aB (aA 2) aC)) [none,some 7,some 6] (aF 0) (mB (m2 gH (m2 aO (aA 2) (aA 1)) (m2 aO (aA 2) (aA 0)))) (bA (aT (aB (aA 1) (aB (aA 0) aC))))))) (aF 5)))) bG) (aL (aT (aB (aA 2) (aB (aD (f1 eM) (aB (aD F_qh (aB (aA 5) aC)) aC)) aC))))))))))))
def F_ql:zv:=aS 2 10 (iS)
end L2.Mr.Com
namespace L2.Mr
open PySem PySem.Spec PyProof.Rows L2
section
variable{X:Cx}{G:Cfg}{E:XK}{pos:Pos}
end
def pC:M Dv:=λ_ _=>.bad
def xE (f:br->M Dv):List br->M zw 
 | []=>aC
 |e::es=>aB (f e) (xE f es)
def pY (lk:Str->Option Nat):Nat->br->M Dv
 |0,_=>pC
 |n+1,e=>match e with
  | .Constant c _ _=>match c with
   | .int i=>mC (.int i)
   | .bool b=>mC (.bl b)
   | .none=>mC .non
   | .str x=>mC (.str x)
   |_=>pC
  | .Tuple es _ _=>aT (xE (pY lk n) es)
  | .List es _=>cA (xE (pY lk n) es)
  | .Dict [] [] _=>mC .edc
  | .Name x _=>match lk x with
   |some i=>aA i
   |none=>pC
  | .UnaryOp .USub a _=>m1 oP (pY lk n a)
  |_=>pC
def LZ (e:br):Prop:=∀es env,ar (e::es) env=(false,eval e env)::ar es env
section
variable{X:Cx}{G:Cfg}{E:XK}{lk:Str->Option Nat}
theorem xF {e:br}:aK X G E e pC:=λ_ pins s σ H Q _ ⟨_,_,_,_,_,o⟩=>o.elim
theorem Z5 {e:br}{es:List br}{ms:M zw }:dY X G E (e::es) (aB pC ms):=λ_ pos pins s σ H Q _ ⟨_,_,_,_,_,o⟩=>o.elim
theorem CB {f:br->M Dv}(hf:∀e,aK X G E e (f e)/\(LZ e∨f e=pC)):∀es,dY X G E es (xE f es)
 | []=>aN
 |e::es=>by
  obtain⟨a,b|b⟩:=hf e
  ·exact aG a (CB hf es) (b es X.env)
  ·show dY X G E (e::es) (aB (f e) _);rw[b];exact Z5
theorem xG (hv:∀x i pos,lk x=some i->aK X G E (.Name x pos) (aA i)):∀n e,aK X G E e (pY lk n e)/\(LZ e∨pY lk n e=pC)
 |0,_=>⟨xF,.inr rfl⟩
 |n+1,e=>by
  unfold pY
  split
  ·split
   ·exact⟨aW,.inl λ_ _=>rfl⟩
   ·exact⟨gF,.inl λ_ _=>rfl⟩
   ·exact⟨mV,.inl λ_ _=>rfl⟩
   ·exact⟨oA,.inl λ_ _=>rfl⟩
   ·exact⟨xF,.inr rfl⟩
  ·exact⟨fX (CB (xG hv n) _),.inl λ_ _=>rfl⟩
  ·exact⟨iW (CB (xG hv n) _),.inl λ_ _=>rfl⟩
  ·exact⟨WY,.inl λ_ _=>rfl⟩
  ·rename_i x pos
   split
   ·rename_i i q;exact⟨hv x i pos q,.inl λ_ _=>rfl⟩
   ·exact⟨xF,.inr rfl⟩
  ·exact⟨IW (xG hv n _).1,.inl λ_ _=>rfl⟩
  ·exact⟨xF,.inr rfl⟩
theorem CC (n:Nat) {e:br}{m:M Dv}(h:pY (λ_=>none) n e=m:=by rfl):aK X G E e m:=h▸(xG (λ_ _ _ h=>by cases h) n e).1
end
section
variable{X:Cx}{G:Cfg}{E:XK}{st:gf}{rest:List gf}{m u:MS}{pos:Pos}
end
section
variable{P:bf}{w:cf}{K:ao}{mg:Str->Option af}{base:cx}{G:Cfg}{N:zu}{f:ah}{k:Nat}
end
open SR
section
variable{prog:bf}{w:cf}{A:cg}{E:af->ag->Prop}{s:ag}
end
section
variable{X:Cx}{G:Cfg}{E:XK}{k:Nat}{e:br}{aQ:M zw }{p p2 pos Ci:Pos}
end
section
variable{prog:bf}{w:cf}{A:cg}{E:af->ag->Prop}{s:ag}{z TI TO i j u v T:ah}{xs ys:List af}{st su:Nat->cx->Prop}{f1:Bool}
end
section
variable{X:Cx}{pins:List (ah×Obj)}{σ:St}{H:Hp}{s:ag}{B:cg}{z TI TO i j t u:ah}{vs ws:List V}{n:Nat}
end
abbrev CD (acc:List af) (c:Nat):Obj:={ cls:=.type "list",dict:=none,data:=.seq acc.toArray c,slots:=#[] }
section
variable{X:Cx}{pins:List (ah×Obj)}{σ:St}{B:cg}{z TI TO i j t u S:ah}{vs ws:List V}{H0:Hp}
end
section
variable{X:Cx}{G:Cfg}{E:XK}{a b:br}{ta:TA}{ms:M zw }{p p2 pos Ci:Pos}
end
open PySem.SeqAt PySem.MeetsSeq PySem.MeetsSeq2 PySem.MeetsSeq3
section
variable{prog:bf}{w:cf}{A:cg}{Ee:af->ag->Prop}{s:ag}
end
section
variable{X:Cx}{G:Cfg}{E:XK}{k:Nat}{e:br}{aQ:M zw }{p p2 pos Ci:Pos}
end
theorem Z6 (a d:af):argsOk "max" ⟨[a],[("default",d)]⟩:=by unfold argsOk;kernel_rfl
section
variable{prog:bf}{w:cf}{A:cg}{I S:ah}{fp wr:List ah}{n:Nat}{P:Nat->af->Prop}{St:Nat->cx->Prop}{R:xk->ag->Prop}{ky:Nat->Int}{d:af}
abbrev nP:Int->Int->Bool:=λa b=>decide (a>b)
def L0 (P:Nat->af->Prop) (ky:Nat->Int) (k:Nat) (acc:List af):Prop:=match k with
 |0=>acc=[]
 |k+1=>∃i v,P i v/\ky i=fS nP ky k/\acc=[v,v]
theorem Z7 (W:Walks prog w A.in1 I fp wr n P St) (hc:CmpOf prog w A.in1 .Gt P (λi j=>nP (ky i) (ky j))) (hS:S∉fp):
  ∀(m k:Nat) (s:ag) (acc:List af) (c:Nat),k+m=n->St k s.heap->s.heap.get? S=some (CD acc c)->L0 P ky k acc->
   (∀v h' tk,(n=0/\v=d∨∃i p,P i v/\n=p+1/\ky i=fS nP ky p)->(∀b o,b∉wr->b≠S->s.heap.get? b=some o->h'.get? b=some o)->R (.ok (.ret v)) { s with heap:=h',toks:=tk })->
   codeAny (model prog w) A (.builtin "max.loop" ⟨[.ref I,.none,.ref S],[("default",d)]⟩) R s:=by
 have hw:S∉wr:=λh=>hS (W.sub _ h);have nm:(toString "max" ++ toString ".loop" : String) = "max.loop" := by decide
 have oth:∀(h:cx) (f:Array af->Array af) b o,b≠S->h.get? b=some o->(h.update S (mf f)).get? b=some o:=λh f b o hb q=>(kd _ _ (cy hb)).trans q;intro m
 induction m with
 |zero=>
  intro k s acc c e st eS b fin;obtain rfl:k=n:=by omega
  refine kr F.entry_max_loop ?_;rw[jn F.plain_max_loop _];refine ae (m:=seqItems? (.ref S)) (gq eS rfl (ae (yv (W.done s _ _ st λh' tk kk=>?_))))
  cases k with
  |zero=>obtain rfl:acc=[]:=b;exact ae (qp (ai (fin d h' tk (.inl ⟨rfl,rfl⟩) λb o hb _ q=>kk b o hb q)))
  |succ k=>obtain⟨i,v,pv,ev,rfl⟩:=b;have eS':=kk S _ hw eS;refine ae (m:=updateSeq S λ_=>#[]) (yd eS' rfl (ae (pb (ai ?_))) (by show 2<=bz;decide) (by show 0<=bz+1;omega));exact fin v _ tk (.inr ⟨i,k,pv,rfl,ev⟩) λb o hb hs q=>oth _ _ b o hs (kk b o hb q)
 |succ m ih=>
  intro k s acc c e st eS b fin;refine kr F.entry_max_loop ?_;rw[jn F.plain_max_loop _];refine ae (m:=seqItems? (.ref S)) (gq eS rfl (ae (yv (W.item k s _ _ (by omega) st λx h' tk px Cp kk=>?_))));have eS':=kk S _ hw eS;have go:∀(g:cx) (t:Nat) (Ce:List af) (c':Nat),g.get? S=some (CD Ce c')->L0 P ky (k+1) Ce->(∀b o,b≠S->h'.get? b=some o->g.get? b=some o)->
    wpAny (model prog w) A.in1 (again (.builtin (toString "max" ++ toString ".loop") ⟨[.ref I,.none,.ref S],[("default",d)]⟩)) (λf s'=>match f with | .done f=>R (.ok f) s' | .again c'=>c'.quiet=true/\codeAny (model prog w) A c' R s') (λe s'=>R (.error e) s') { s with heap:=g,toks:=t }:=λg t Ce c' eg b' og=>by
   rw[nm];refine ai ⟨vk F.plain_max_loop _,ih (k+1) _ Ce c' (by omega) (W.frame _ _ _ Cp λb hb o q=>og b o (λz=>hS (z▸hb)) q) eg b' λv h'' tk'' hv k''=>?_⟩;exact fin v h'' tk'' hv λb o hb hs q=>k'' b o hb hs (og b o hs (kk b o hb q))
  cases k with
  |zero=>obtain rfl:acc=[]:=b;refine ae (m:=updateSeq S λ_=>#[x,x]) (yd eS' rfl ?_ (by show 0<=bz;omega) (by show 2<=bz+1;decide));exact go _ _ [x,x] _ (jm _ eS' rfl) ⟨0,x,px,rfl,rfl⟩ λb o hb q=>oth _ _ b o hb q
  |succ k=>
   obtain⟨i,v,pv,ev,rfl⟩:=b;refine ae (ai (ae (yv (fw (ae (hc (k+1) i x v _ _ _ px pv (ae (fw (jr (ae (pb (ai ?_))))))))))));have best:fS nP ky (k+1)=if nP (ky (k+1)) (ky i)=true then ky (k+1)else ky i:=by rw[fS,<-ev]
   cases hb:nP (ky (k+1)) (ky i)with
   |true=>rw[hb,if_pos rfl]at best;rw[if_pos (show(λi j=>nP (ky i) (ky j)) (k+1) i=true from hb)];refine ae (m:=updateSeq S λ_=>#[x,x]) (yd eS' rfl (ae (pb ?_)) (by show 2<=bz;decide) (by show 2<=bz+1;decide));exact go _ _ [x,x] _ (jm _ eS' rfl) ⟨k+1,x,px,best.symm,rfl⟩ λb o hb q=>oth _ _ b o hb q
   |false=>rw[hb,if_neg (by decide)]at best;rw[if_neg (show ¬ (λi j=>nP (ky i) (ky j)) (k+1) i=true from by rw[show(λi j=>nP (ky i) (ky j)) (k+1) i=false from hb];decide)];refine ae (pb ?_);exact go _ _ [v,v] _ eS' ⟨i,v,pv,best.symm,rfl⟩ λb o _ q=>q
end
section
variable{X:Cx}{G:Cfg}{E:XK}{e:br}{ml:M zw }{p pos kpos:Pos}
theorem Z8 (hc:X.calm=true) {pins:List (ah×Obj)}{s:ag}{σ:St}{H:Hp}{Q:VK}{q:ah}{ns:zr}{dv:Int}{t0:Tok}(I:Inv X pins σ H s) (hp:H q=some (.lst (ns.map V.int))) (k:Q (.int (if ns=[]then dv else oS ns)) H):
  wpAny (model X.prog X.w) X.A (call (.builtin "max") [.ref q] [("default",.int dv t0)]) (EP X pins σ Q) X.xe s:=by
 obtain⟨its,rits,pl,hz⟩:=I.list (Ay.of hp);have hn:its.toArray.size=ns.length:=by have:=rits.length;simp at this ⊢;omega
 have lp:=I.hok.lt hp;have nm:(toString "max" ++ toString ".loop" : String) = "max.loop" := by decide
 have hh:X.A.in1.handled=none:=I.ok.hd hc;refine wpAny_call (oz F.plain_max F.entry_max ?_);have ck:checkBuiltinCall "max" ⟨[.ref q],[("default",.int dv t0)]⟩=pure ():=by
  have a:=Z6 (.ref q) (.int dv t0);unfold argsOk at a;unfold checkBuiltinCall;rw[F.kind_max]
  revert a
  cases Manifest.signature? "max" with
  |none=>intro _;rfl
  |some sg=>intro a;exact a
 refine rf ck ?_;have bp:td "max" ["key","default"] 0 ⟨[],[("default",.int dv t0)]⟩=pure [none,some (.int dv t0)]:=by kernel_rfl
 refine ae (m:=td "max" ["key","default"] 0 ⟨[],[("default",.int dv t0)]⟩) (rf bp (ae (ai (ae (jt pl.isList (ae (fo ?_)))))));rw[nm];have ne1:q≠s.heap.objs.size:=bg lp;have W:=uf (prog:=X.prog) (w:=X.w) (A:=X.A.in1) hh s.heap.objs.size q ne1 its.toArray;rw[hn]at W;generalize hit:({ cls:=.type "list_iterator",data:=.fields #[.ref q,.int 0 0] }:Obj)=it;have e1:(s.heap.push it).get? s.heap.objs.size=some it:=bc _ (by rw[<-hit];rfl);have s1:(s.heap.push it).objs.size=s.heap.objs.size+1:=wa _ _;have eS:((s.heap.push it).push { cls:=.type "list",dict:=none,data:=.seq ([]:List af).toArray }).get? (s.heap.objs.size+1)=some (CD [] 0):=by rw[<-s1];exact bc _ rfl
 have l1:((s.heap.push it).push { cls:=.type "list",dict:=none,data:=.seq ([]:List af).toArray }).IsList q its.toArray:=(pl.isList.push _).push _;have st:((s.heap.push it).push { cls:=.type "list",dict:=none,data:=.seq ([]:List af).toArray }).get? s.heap.objs.size=some it:=ak _ e1;have kp:∀b o,s.heap.get? b=some o->((s.heap.push it).push { cls:=.type "list",dict:=none,data:=.seq ([]:List af).toArray }).get? b=some o:=λb o e=>ak _ (ak _ e);rw[s1];generalize ((s.heap.push it).push { cls:=.type "list",dict:=none,data:=.seq ([]:List af).toArray })=g at eS l1 st kp;refine ai ⟨vk F.plain_max_loop _,Z7 (ky:=λi=>ns.getD i 0) W (CmpOf.ints_gt (λi=>ns.getD i 0) (λi v ev=>wJ rits ev)) ?_ ns.length 0 { s with heap:=g } [] 0 (by omega) ⟨⟨it,st,by rw[<-hit],by rw[<-hit];rfl⟩,l1⟩ eS rfl λv h' tk hv kk=>?_⟩
 ·intro m
  rcases az.mp m with z|z
  ·exact nq _ z
  ·exact iz (gz lp) (bo.mp z)
 ·have I':Inv X pins σ H { s with heap:=h',toks:=tk }:=I.kept (t':=tk) λb o e=>by have lt:=au e;exact kk b o (λm=>bg lt (bo.mp m)) (bg (gz lt)) (kp b o e)
  rcases hv with⟨h0,rfl⟩|⟨i,p,pv,hp1,hb⟩
  ·have:ns=[]:=mm.mp h0;rw[if_pos this]at k;exact⟨.int dv,H,I',⟨t0,rfl⟩,k⟩
  ·have hne:ns≠[]:=λz=>by rw[z]at hp1;cases hp1
   rw[if_neg hne]at k;obtain⟨t',rfl⟩:=wJ rits pv;refine⟨.int (oS ns),H,I',⟨t', ?_⟩,k⟩;rw[hb,oS,hp1];rfl
def pZ (dv:Int) (x:Dv) (h:Hs):Rs Dv:=match x with
 | .ref i=>match getL h i with
  |some xs=>match bB fR xs with
   |some ns=>.ok (.int (if ns=[]then dv else oS ns)) h
   |none=>.bad
  |none=>.bad
 |_=>.bad
theorem Z9 {me:M Dv}{dv:Int}{cj:Nat}{cpos:Pos}(hc:X.calm=true) (hg:Gl X "max") (hm:X.mg "max" = none) (he:aK X G E e me)
  (h1:backTo pos (ar [e] X.env)=(false,eval e X.env)::backTo pos (ar [] X.env):=by rfl) (h2:(backTo pos (ar [e] X.env)).any (·.1)=false:=by rfl):
  aK X G E (.Call (.Name "max" p) [e] [⟨some "default",.Constant (.int dv) cj cpos,kpos⟩] pos) (m1 (pZ dv) me):=λhK pins s σ H Q I ⟨μ,ρ,h,rs,sm,o⟩=>by
 refine qm (nX I hg hm G9 (callWith_kw ?_ h1 h2));rw[h1];refine zf (bD (he hK pins s σ H _ I ⟨μ,ρ,h,rs,sm,Out.bind (R1:=Af G) o⟩) λu s1 ⟨v,H1,I1,r1,μ1,x,h1',x1,sm1,rx,o1⟩=>Calls.spliced_nil (kws_cons (bD (E6 pins s1 σ H1 (λv H=>v=.int dv/\H=H1) I1 ⟨rfl,rfl⟩) λu2 s2 ⟨v2,H2,I2,r2,e2,e3⟩=>kws_nil ?_)));subst e2 e3;obtain⟨t0,rfl⟩:=r2
 cases x with
 |ref i=>
  dsimp only[pZ]at o1
  cases q1:getL h1' i with
  |none=>rw[q1]at o1;exact o1.elim
  |some xs=>
   rw[q1]at o1;dsimp only at o1
   cases q2:bB fR xs with
   |none=>rw[q2]at o1;exact o1.elim
   |some ns=>rw[q2]at o1;obtain⟨vs,ea,ra⟩:=sm1.ob i _ (dG q1);obtain⟨_,rfl⟩:=rx;cases r1;exact Z8 hc I2 (by rw[ea,oR ra q2]) (o1.val sm1 rfl)
 |_=>exact o1.elim
end
section
variable{X:Cx}{G:Cfg}{E:XK}{o i o' i' e:br}{me mo mi mo' mi':M Dv}{pos spos spos' tpos:Pos}{kt:Nat}
end
section
variable{X:Cx}{G:Cfg}{E:XK}{e:br}{aQ:M zw }{p pos:Pos}
end
def L1:MS:=λ_ _=>.bad
theorem c7 {X:Cx}{G:Cfg}{E:XK}{st:gf}:iG X G E st L1:=λ_ _ _ _ _ _ _ ⟨_,_,_,_,_,o⟩=>o.elim
theorem L3 {prog:bf}{w:cf}{it t:ah}{items:Array af}(hne:t≠it):Draws prog w it t items.toList (λi h=>h.IsListIter it t i/\h.IsList t items) where
 keep:=λi h h' ⟨⟨o,e,r⟩,⟨o2,e2,r2⟩⟩ k=>⟨⟨o,k _ _ (.inl rfl) e,r⟩,⟨o2,k _ _ (.inr rfl) e2,r2⟩⟩
 there:=λi h ⟨⟨o,e,_,d⟩,_⟩=>⟨o,_,e,d⟩
 item:=λA i x s Q E hx ⟨a,b⟩ k=>wpAny_nextOf_list_item a b (by simpa using hx) λh' a' sb=>k h' ⟨a',b.extBut sb.extBut hne⟩ sb
 done:=λA i s Q E hh hx ⟨a,b⟩ k=>wpAny_nextOf_list_end hh a b (by simpa using hx) k
def CF (K:ao) (t u:ah):It:=
 ⟨λi H=>∃vs ws v w,Ay K H t vs/\Au K H u ws/\vs[i]?=some v/\ws[i]?=some w,
  λi H x H'=>∃p v w,x=.ref p/\H p=none/\H'=aV H p (.tup [v,w])/\(∀vs,Ay K H t vs->vs[i]?=some v)/\∀ws,Au K H u ws->ws[i]?=some w,
  λi H=>∃vs ws,Ay K H t vs/\Au K H u ws/\(vs.length<=i∨ws.length<=i)⟩
structure ZipAtM (z TI TO i j t u:ah) (n:Nat) (h:cx):Prop where
 zp:wx h z TI TO .none
 ti:lr h TI (.ref i) (.ref j)
 to:∃a b,lr h TO a b
 i1:h.IsListIter i t n
 i2:h.IsTupleIter j u n
theorem c8 {P:bf}{w:cf}{K:ao}{elts:List br}{kk:Nat}{tp:Pos}{z TI TO i j t u:ah}(F4:Dm z TI TO i j t u) (hti:t≠i) (huj:u≠j):
  Turn P w K (.Tuple elts kk tp) (CF K t u) [z,TI,TO,i,j] z (ZipAtM z TI TO i j t u) where
 mem:=by simp
 obj:=λn h st b hb=>by
  obtain⟨zp,ti,⟨a,b',to⟩,⟨o1,e1,_,d1⟩,⟨o2,e2,_,d2⟩⟩:=st;simp at hb
  rcases hb with rfl|rfl|rfl|rfl|rfl
  ·exact⟨_,zp,λv q=>by cases q⟩
  ·exact⟨_,ti,λv q=>by cases q⟩
  ·exact⟨_,to,λv q=>by cases q⟩
  ·exact⟨_,e1,λv q=>by rw[d1]at q;cases q⟩
  ·exact⟨_,e2,λv q=>by rw[d2]at q;cases q⟩
 keep:=λn h h' st k=>by obtain⟨zp,ti,⟨a,b',to⟩,⟨o1,e1,r1⟩,⟨o2,e2,r2⟩⟩:=st;exact⟨k _ (by simp) _ zp,k _ (by simp) _ ti,⟨a,b',k _ (by simp) _ to⟩,⟨o1,k _ (by simp) _ e1,r1⟩,⟨o2,k _ (by simp) _ e2,r2⟩⟩
 item:=by
  intro X hP hw hK hc n pins s σ H E I hf st hg;subst hP hw hK;obtain⟨vs,ws,v,w',hq,hr,hv,hw'⟩:=hg;obtain⟨its,rv,p1,z1⟩:=I.list hq;obtain⟨jts,rw',p2,z2⟩:=I.tuple hr;obtain⟨x,hx,rx⟩:=rv.get hv;obtain⟨y,hy,ry⟩:=rw'.get hw';obtain⟨zp,ti,⟨a,b,to⟩,i1,i2⟩:=st;have hT:s.TypeIs (.ref z) "zip" := ⟨_,zp,rfl⟩;unfold pyNext;refine ae (ou (dw (name:=jq "__next__") hT F.slot_zip_next (ed F.slot_zip_next hT F.entry_zip_next
   (ID F4 (L3 (items:=its.toArray) hti) (rH (items:=jts.toArray) huj) zp ti to ⟨i1,p1.isList⟩ ⟨i2,p2⟩ (by simpa using hx) (by simpa using hy) λh' T Cb a1 a2 a3 a4 a5 a6 bt=>ai ⟨_,rfl, ?_⟩) (F.args_zip_next_1 _))))
  refine yz a1 λh2 z2' sb=>?_;have kp:∀b o,b∉[z,TI,TO,i,j]->s.heap.get? b=some o->h2.get? b=some o:=λb o hb q=>by simp at hb;obtain⟨n1,n2,n3,n4,n5⟩:=hb;exact sb.extBut _ _ n1 (bt b o n1 n3 n4 n5 q)
  have Tz:T≠z:=iz (ay (au zp) Cb);have T2:lr h2 T x y:=sb.extBut _ _ Tz a6;have th:∀b∈[z,TI,TO,i,j],∃o,h2.get? b=some o:=λb hb=>by
   obtain⟨⟨o1,e1,_⟩,_⟩:=a4;obtain⟨⟨o2,e2,_⟩,_⟩:=a5;simp at hb
   rcases hb with rfl|rfl|rfl|rfl|rfl
   ·exact⟨_,z2'⟩
   ·exact⟨_,sb.extBut _ _ F4.g a2⟩
   ·exact⟨_,sb.extBut _ _ (cy F4.a) a3⟩
   ·exact⟨_,sb.extBut _ _ (cy F4.b) e1⟩
   ·exact⟨_,sb.extBut _ _ (cy F4.c) e2⟩
  have I2:=Inv.turns (T:=T) (vs:=[v,w']) (its:=[x,y]) I hf kp th Cb (.cons rx (.cons ry .nil)) (by show 2<=bz;decide) ⟨_,T2,rfl,rfl,_,rfl⟩;have nT:H T=none:=I.hok.fresh Cb;refine⟨.ref T,_,I2,rfl,⟨T,v,w',rfl,nT,rfl,λBp h'=>by rw[I.list_inj h' hq];exact hv,λws' h'=>by rw[I.tuple_inj h' hr];exact hw'⟩, ?_,λb hb=>?_⟩
  ·exact⟨z2',sb.extBut _ _ F4.g a2,⟨_,_,sb.extBut _ _ (cy F4.a) a3⟩,a4.1.extBut sb.extBut (cy F4.b),a5.1.extBut sb.extBut (cy F4.c)⟩
  ·obtain⟨o,q,_⟩:∃o,s.heap.get? b=some o/\True:=by
    obtain⟨o1,e1,_⟩:=i1;obtain⟨o2,e2,_⟩:=i2;simp at hb
    rcases hb with rfl|rfl|rfl|rfl|rfl
    ·exact⟨_,zp,trivial⟩
    ·exact⟨_,ti,trivial⟩
    ·exact⟨_,to,trivial⟩
    ·exact⟨_,e1,trivial⟩
    ·exact⟨_,e2,trivial⟩
   rw[cF (bg (ay (au q) Cb))];exact(hf b hb).1
 done:=by
  intro X hP hw hK hc n pins s σ H E I hf st hg;subst hP hw hK;obtain⟨vs,ws,hq,hr,hend⟩:=hg;obtain⟨its,rv,p1,z1⟩:=I.list hq;obtain⟨jts,rw',p2,z2⟩:=I.tuple hr;have l1:=rv.length;have l2:=rw'.length;obtain⟨zp,ti,⟨a,b,to⟩,i1,i2⟩:=st;have hT:s.TypeIs (.ref z) "zip" := ⟨_,zp,rfl⟩;unfold pyNext;refine ae (ou (dw (name:=jq "__next__") hT F.slot_zip_next (ed F.slot_zip_next hT F.entry_zip_next
   (IE (show X.A.in1.handled=none from I.ok.hd hc) F4 (L3 (items:=its.toArray) hti) (rH (items:=jts.toArray) huj) zp ti to ⟨i1,p1.isList⟩ ⟨i2,p2⟩ (by
    rcases hend with q|q
    ·exact .inl (by simp;omega)
    ·exact .inr (by simp;omega)) λh' e bt ⟨o,he,hcl⟩=>ae (sr (T := "StopIteration") (b:=true) ⟨o,he,hcl⟩ yq (ai ⟨rfl, ?_⟩))) (F.args_zip_next_1 _))))
  refine Inv.turns0 I hf λb o hb q=>?_;simp at hb;exact bt b o hb.1 hb.2.2.1 hb.2.2.2.1 hb.2.2.2.2 q
 self:=λ_ _ _ _ _ st h=>sv st.zp h
def L4 (t u:ah) (h:cx) (z:ah) (h':cx):Prop:=∃TI TO i j,ZipAtM z TI TO i j t u 0 h'/\Dm z TI TO i j t u/\(∀b∈[z,TI,TO,i,j],h.objs.size<=b)/\∀b o,h.get? b=some o->h'.get? b=some o
theorem c9 {t u:ah}{hp h1 h2 h3 h4 h5:cx}{n:Nat}(hn:n=hp.objs.size) (lt:t<n) (lu:u<n)
  (e1:h1=hp.push { cls:=.type "list_iterator",data:=.fields #[.ref t,.int 0 0] }) (e2:h2=h1.push { cls:=.type "tuple_iterator",data:=.fields #[.ref u,.int 0 0] }) (e3:h3=h2.push { cls:=.type "tuple",data:=.seq #[.ref n,.ref (n+1)] })
  (e4:h4=h3.push { cls:=.type "tuple",data:=.seq #[.none,.none] }) (e5:h5=h4.push { cls:=.type "zip",data:=.fields #[.none,.bool false,.bool false,.ref (n+2),.ref (n+3)] }):L4 t u hp (n+4) h5:=by
 have z1:h1.objs.size=n+1:=by rw[e1,cz,hn]
 have z2:h2.objs.size=n+2:=by rw[e2,cz,z1]
 have z3:h3.objs.size=n+3:=by rw[e3,cz,z2]
 have z4:h4.objs.size=n+4:=by rw[e4,cz,z3]
 have up:∀(h:cx) (o:Obj) (b:ah) (q:Obj),h.get? b=some q->(h.push o).get? b=some q:=λh o b q e=>ak _ e;have g1:=lI e1 rfl;have g2:=lI e2 rfl;have g3:=lI e3 rfl;have g4:=lI e4 rfl;have g5:=lI e5 rfl;rw[<-hn]at g1;rw[z1]at g2;rw[z2]at g3;rw[z3]at g4;rw[z4]at g5;have u2:∀b q,h2.get? b=some q->h5.get? b=some q:=λb q e=>by rw[e5,e4,e3];exact up _ _ _ _ (up _ _ _ _ (up _ _ _ _ e))
 have u1:∀b q,h1.get? b=some q->h5.get? b=some q:=λb q e=>u2 b q (by rw[e2];exact up _ _ _ _ e);have u3:∀b q,h3.get? b=some q->h5.get? b=some q:=λb q e=>by rw[e5,e4];exact up _ _ _ _ (up _ _ _ _ e)
 have u4:∀b q,h4.get? b=some q->h5.get? b=some q:=λb q e=>by rw[e5];exact up _ _ _ _ e
 refine⟨n+2,n+3,n,n+1,⟨g5,u3 _ _ g3,⟨_,_,u4 _ _ g4⟩,⟨_,u1 _ _ g1,rfl,rfl⟩,⟨_,u2 _ _ g2,rfl,rfl⟩⟩, ?_, ?_,λb q e=>u1 b q (by rw[e1];exact up _ _ _ _ e)⟩
 ·exact IG n t u lt lu
 ·intro b hb;rw[<-hn];simp at hb
  rcases hb with rfl|rfl|rfl|rfl|rfl
  ·exact jk _ _
  ·exact jk _ _
  ·exact jk _ _
  ·exact aj _
  ·exact jk _ _
theorem d6 {t u:ah}(xs ys:Array af):Meets (kz.«zip.__new__» ⟨[.type "zip",.ref t,.ref u],[]⟩) (λ_ R s=>s.heap.IsList t xs/\s.heap.IsTuple u ys/\∀h' z,L4 t u s.heap z h'->R (.ok (.ret (.ref z))) { s with heap:=h' }):=
 .of_wp λprog w A R s h=>by
  obtain⟨ht,hu,k⟩:=h;obtain⟨hp,g,d,tk,os⟩:=s;have sub:=sub_zip;have ht':(⟨hp,g,d,tk,os⟩:ag).heap.IsList t xs:=ht;have Aw:(⟨hp.push { cls:=.type "list_iterator",data:=.fields #[.ref t,.int 0 0] },g,d,tk,os⟩:ag).heap.IsTuple u ys:=hu.push _
  wp_walk using jt ht',mw Aw
  have lt:t<hp.objs.size:=by obtain⟨o,e,_⟩:=ht;exact au e
  have lu:u<hp.objs.size:=by obtain⟨o,e,_⟩:=hu;exact au e
  simp only[cz];refine⟨_,rfl,k _ _ (c9 rfl lt lu rfl rfl rfl rfl ?_)⟩;simp only[cz];rfl
section
variable{X:Cx}{G:Cfg}{E:XK}{a b:br}{elts:List br}{kk:Nat}{tp p pos:Pos}{ta:TA}{ms:M zw }
def d7 (K:ao) (ta:TA):TI:=λσ H R=>ta σ H λvs H1=>∃t u xs ys,vs=[.ref t,.ref u]/\Ay K H1 t xs/\Au K H1 u ys/\R (CF K t u) H1
theorem d8 (hg:Gl X "zip") (hm:X.mg "zip" = none) (ha:PA X [a,b] ta) (hs:ar [a,b] X.env=[(false,eval a X.env),(false,eval b X.env)]:=by rfl) (hs2:ar [b] X.env=[(false,eval b X.env)]:=by rfl):
  PI X (.Tuple elts kk tp) (.Call (.Name "zip" p) [a,b] [] pos) (d7 X.K ta):=by
 intro pins s σ H R I h;refine Call_ (nX I hg hm IH (jc (bD (ha pos pins s σ H _ I h) λus s1 ⟨vs,H1,I1,r1,q1⟩=>?_) (by rw[hs,hs2]) (by rw[hs2];rfl)));obtain⟨t,u,xs,ys,e,hq,hr,q⟩:=q1;subst e;obtain⟨u1,u2,rfl,e1,e2⟩:=sO r1;cases e1;cases e2;obtain⟨its,rv,p1,_⟩:=I1.list hq;obtain⟨jts,rw',p2,_⟩:=I1.tuple hr;refine callType_new F.called_zip (by decide) (F.typeCall_zip_2 _ _) (F.newCall_zip_2 _ _) (λobj=>F.args_object_init_3 obj _ _) F.entry_zip_new (d6 its.toArray jts.toArray) ⟨p1.isList,p2,λh' z nz=>?_⟩;obtain⟨TI,TO,i,j,za,f4,fresh,kp⟩:=nz;refine⟨⟨_,za.zp,rfl⟩, ?_⟩;have I2:Inv X pins σ H1 { s1 with heap:=h' }:=I1.kept (t':=s1.toks) kp;refine sv za.zp ⟨z,[z,TI,TO,i,j],_,_,H1,rfl,I2,c8 f4 f4.u3 f4.v4,za,λb hb=>I1.fpOk (fresh b hb) (I1.hok.fresh (fresh b hb)),q⟩
def lT (i n:Nat) (ys:zw) (h:Hs):Option (List (Dv×Dv)):=match getL h i with
 |some xs=>if xs.length=n then some (xs.zip ys)else none
 |_=>none
def rS (i n:Nat) (ys:zw):Src:=⟨min n ys.length,λk h=>match lT i n ys h with
 |some zs=>(zs[k]?).map λq=>.tup [q.1,q.2]
 |none=>none,λh=>(lT i n ys h).isSome⟩
def zipM:zw->Hs->Rs Src
 | [.ref i,.tup ys],h=>match getL h i with
  |some xs=>.ok (rS i xs.length ys) h
  |_=>.bad
 |_,_=>.bad
theorem L5 {i n:Nat}{ys:zw}{h:Hs}{zs:List (Dv×Dv)}(e:lT i n ys h=some zs):∃xs,getL h i=some xs/\xs.length=n/\zs=xs.zip ys:=by
 unfold lT at e
 split at e
 ·rename_i xs e1
  split at e
  ·rename_i hl;cases e;exact⟨xs,e1,hl,rfl⟩
  ·cases e
 ·cases e
theorem Bo.zipM {μ:Nat->ah}{nn:Nat}{H:Hp}{i n:Nat}{u:ah}{ws:List V}{ys:zw}{K:ao}(hi:i<nn) (e':H u=some (.tup ws)) (r':RelDL G μ nn H ys ws):Bo G μ nn H (rS i n ys) (CF K (μ i) u):=by
 intro k μ2 h2 H2 x2 s2;have ei:=x2.mu i hi;have f':=x2.im u (.tup ws) trivial e';have g':=RelDL.mono x2 _ _ r';constructor
 ·intro hk d hd;have Cm:(match lT i n ys h2 with|some zs=>(zs[k]?).map λq=>Dv.tup [q.1,q.2]|none=>none)=some d:=hd
  cases qz:lT i n ys h2 with
  |none=>rw[qz]at Cm;cases Cm
  |some zs=>
   rw[qz]at Cm;obtain⟨xs,g1,l1,rfl⟩:=L5 qz;obtain⟨vs,f,g⟩:=s2.ob i _ (dG g1);rw[ei]at f
   cases q:(xs.zip ys)[k]? with
   |none=>dsimp only at Cm;rw[q]at Cm;cases Cm
   |some xy=>
    dsimp only at Cm;rw[q]at Cm;cases Cm;obtain⟨qx,qy⟩:=lj.mp q;obtain⟨v,ev,rv⟩:=g.get qx;obtain⟨w',ew,rw'⟩:=g'.get qy;refine⟨⟨vs,ws,v,w',Ay.of f,Au.of f',ev,ew⟩,λx H' hy=>?_⟩;obtain⟨pp,v1,w1,rfl,np,rfl,a1,a2⟩:=hy;have b1:=a1 vs (Ay.of f);have b2:=a2 ws (Au.of f');rw[ev]at b1;rw[ew]at b2
    cases b1;cases b2
    have sm:Bw H2 (aV H2 pp (.tup [v,w'])):=dQ np;exact⟨sm,pp,_,rfl,eR,RelDL.cons (Af.mono (Ext.same sm) _ _ rv) (RelDL.cons (Af.mono (Ext.same sm) _ _ rw') RelDL.nil)⟩
 ·intro hk hf;have hf':(lT i n ys h2).isSome=true:=hf
  cases qz:lT i n ys h2 with
  |none=>rw[qz]at hf';cases hf'
  |some zs=>obtain⟨xs,g1,l1,rfl⟩:=L5 qz;obtain⟨vs,f,g⟩:=s2.ob i _ (dG g1);rw[ei]at f;refine⟨vs,ws,Ay.of f,Au.of f', ?_⟩;have hk':k=min n ys.length:=hk;rw[g.length,g'.length];omega
theorem d9 (hg:Gl X "zip") (hm:X.mg "zip" = none) (ha:dY X G E [a,b] ms) (hs:ar [a,b] X.env=[(false,eval a X.env),(false,eval b X.env)]:=by rfl) (hs2:ar [b] X.env=[(false,eval b X.env)]:=by rfl):
  jS X G E (.Tuple elts kk tp) (.Call (.Name "zip" p) [a,b] [] pos) (aQ zipM ms):=λhK=>
 PI.imp (d8 hg hm (ha hK) hs hs2) λσ H R ⟨μ,ρ,h,rs,s,o⟩=>kK rs s o λμ1 ds h1 vs H1 x1 Ax s1 r1 o1=>by
  unfold zipM at o1
  split at o1
  ·rename_i i ys;obtain⟨v,v',rfl,rv,rv'⟩:=vN r1;obtain⟨hi,rfl⟩:=rv;obtain⟨u,ws,rfl,e',r'⟩:=rv'
   split at o1
   ·rename_i xs g1;obtain⟨us,f,_⟩:=s1.ob i _ (dG g1);exact⟨_,u,us,ws,rfl,Ay.of f,Au.of e',o1.val s1 (Bo.zipM hi e' r')⟩
   ·exact o1.elim
  ·exact o1.elim
end
end L2.Mr
namespace L2.Mr.K10
open PySem PySem.Spec PyProof.Rows L2 L2.Mr
open L2.Mr.Com
def L6:MS:=(aX (cG (bI (aD F_qp (aB (aA 0) (aB (aA 1) (aB (aA 2) aC)))))) L1 bG)
def F_qf:zv:=aS 3 3 (L6)
def mb_qr:MS:=(aX (cG (bI (aD F_q1 (aB (aA 0) aC)))) (rD 0 (aB (mC (.str "this is no order")) aC)) bG)
def F_qr:zv:=aS 1 1 (mb_qr)
def lU:MS:=(aI (aM (m2 aO (aA 0) (mC (.int 1))) (aF 3)) (aL (dH (m2 dN (aA 1) (aA 2)) (dH (m2 (bU true) (aT (aB (aA 1) (aB (aA 2) aC))) (aA 3)) (m2 (bU true) (aT (aB (aA 2) (aB (aA 1) aC))) (aA 3))))))
def F_qu:zv:=aS 3 4 (lU)
def qA:MS:=(aI (cC (aD F_qr (aB (aA 0) aC))) (aI (aM (m2 aO (aA 0) (mC (.int 0))) (aF 1)) (aL (bM (bJ (aQ cH (aB (aA 1) aC)) [none,none,some 0,some 1] (aF 0) bQ (fI (aQ hX (aB (m2 cN (aA 0) (mC (.int 1))) (aB (aA 3) aC))) (aF 1) (bI (aD F_qu (aB (aA 2) (aB (aA 0) (aB (aA 1) aC))))) (bA (aT (aB (aA 0) (aB (aA 1) aC))))))))))
def F_qj:zv:=aS 1 2 (qA)
def tY:MS:=(aI (cC (aD F_qr (aB (aA 0) aC))) (aI (aM (aA 0) (cM 2 (aU (aF 1) (aU (aF 2) cO)))) (aL (aT (aB (aA 1) (aB (aD (f1 eM) (aB (aD (f1 lR) (aB (bM (bJ (bC dZ (aA 2)) [none,none] (cM 2 (aU (aF 0) (aU (aF 1) cO))) bQ (bA (aT (aB (aA 1) (aB (aA 0) aC)))))) aC)) aC)) aC))))))
def F_qA:zv:=aS 1 3 (tY)
def qB:MS:=(aI (aM (aA 0) (cM 2 (aU (aF 2) (aU (aF 3) cO)))) (aI (aM (bM (bJ (bC dZ (aA 3)) [none,none,some 1] (cM 2 (aU (aF 0) (aU (aF 1) cO))) (mB (m2 (bU true) (aA 0) (aA 2))) (bA (aA 1)))) (aF 4)) (aL (bM (bJ (aQ cH (aB (aA 2) aC)) [none,some 1,some 4] (aF 0) (dW (mB (m2 (bU true) (aA 0) (aA 1))) (mB (m2 (bU true) (aA 0) (aA 2)))) (bA (aA 0)))))))
def F_q5:zv:=aS 2 5 (qB)
def qC:MS:=(aI (cC (aD F_qr (aB (aA 0) aC))) (aI (aM (cA (aB (aT aC) aC)) (aF 1)) (aI (dR (aQ cH (aB (m2 aO (aA 0) (mC (.int 0))) aC)) (aF 2) (aM (bM (bJ (bC cD (aA 1)) [none,none,some 0] (aF 0) bQ (fI (bC cD (aD F_q5 (aB (aA 2) (aB (aA 0) aC)))) (aF 1) bQ (bA (m2 cN (aA 0) (aT (aB (aA 1) aC))))))) (aF 1))) (aL (aA 1)))))
def F_q0:zv:=aS 1 3 (qC)
def qD:MS:=(aL (aD (f1 oE) (aB (m2 eE (jG (aA 0) (m2 aO (aA 1) (mC (.int 0)))) (jG (aA 0) (m2 aO (aA 1) (mC (.int 1))))) aC)))
def F_qB:zv:=aS 2 2 (qD)
def qE:MS:=(aL (m1 (pZ 0) (bM (bJ (bC cD (aA 1)) [none,some 0] (aF 0) bQ (bA (aD F_qB (aB (aA 1) (aB (aA 0) aC))))))))
def F_qd:zv:=aS 2 2 (qE)
def e7:MS:=(aI (cC (aD F_qr (aB (aA 0) aC))) (cC (aD F_qf (aB (aA 1) (aB (mC (.int 0)) (aB (mC (.int 5)) aC))))))
def F_qa:zv:=aS 2 2 (e7)
def f9:MS:=(aI (aM (cA (aB (aA 1) aC)) (aF 3)) (aI (dR (aQ cH (aB (aA 2) aC)) (aF 4) (aM (bM (bJ (aQ cH (aB (m2 aO (aA 0) (mC (.int 0))) aC)) [none,some 3,some 0] (aF 0) (dE (mB (m2 (bU false) (aA 0) (aA 1))) (bI (mL pK (bJ (bC cD (aA 1)) [none,some 2,some 0] (aF 0) bQ (bA (aD F_qu (aB (aA 1) (aB (aA 0) (aB (aA 2) aC))))))))) (bA (aA 0)))) (aF 3))) (aL (aA 3))))
def F_qg:zv:=aS 3 5 (f9)
def h8:MS:=(aL (mL hY (bJ (bC dZ (aA 1)) [none,none,some 0,some 2,some 1] (aF 0) bQ (fI (bC dZ (aA 4)) (aF 1) bQ (bA (m2 (bU false) (aA 1) (aD F_qg (aB (aA 2) (aB (aA 0) (aB (aA 3) aC))))))))))
def F_qn:zv:=aS 3 3 (h8)
def h9:MS:=(aI (aX (dE (cG (bI (aD F_qo (aB (m2 aO (aA 0) (mC (.int 0))) (aB (aA 2) aC))))) (dE (cG (bI (aD F_qx (aB (aA 2) aC)))) (cG (bI (aD F_qp (aB (aA 3) (aB (mC (.int 1)) (aB (mC (.int 5)) aC)))))))) (aL (mC (.bl false))) bG) (aL (dH (m2 nI (m2 eE (aD (f1 bR) (aB (aA 2) aC)) (mC (.int 1))) (m2 lJ (aA 1) (aA 3))) (aD F_qn (aB (aA 0) (aB (aA 2) (aB (aA 3) aC)))))))
def F_qy:zv:=aS 4 4 (h9)
def i0:MS:=(aI (aM (m2 aO (aA 0) (mC (.int 0))) (aF 5)) (aI (aX (dE (cG (bI (aD F_q3 (aB (aA 5) (aB (aA 3) aC))))) (dE (cG (bI (aD F_q3 (aB (aA 5) (aB (aA 4) aC))))) (dE (mB (m2 (bU true) (aA 3) (aA 2))) (mB (m2 (bU false) (aA 4) (aA 2)))))) (aL (mC (.bl false))) bG) (aL (dH (aD F_qu (aB (aA 0) (aB (aA 3) (aB (aA 4) aC)))) (m2 pP (m2 eE (m2 eE (aD (f1 bR) (aB (aA 2) aC)) (mC (.int 1))) (jG (aA 2) (aA 3))) (aA 1))))))
def F_q9:zv:=aS 5 6 (i0)
def xH (Fs:zv):MS:=(aI (aM (aD F_q5 (aB (aA 0) (aB (aA 2) aC))) (aF 4)) (aI (aX (dE (cG (bI (m1 (eX gN) (aA 3)))) (dE (mB (m2 dN (aD (f1 bR) (aB (aA 3) aC)) (aD (f1 bR) (aB (aA 4) aC)))) (cG (bI (aA 4))))) (aL (mC (.bl false))) bG) (aL (mL hY (bJ (aQ zipM (aB (aA 4) (aB (aA 3) aC))) [none,none,some 0,some 1,some 2] (cM 2 (aU (aF 0) (aU (aF 1) cO))) bQ (bA (aD Fs (aB (aA 2) (aB (aA 3) (aB (m2 cN (aA 4) (aT (aB (aA 0) aC))) (aB (aA 1) aC)))))))))))
def F_q7 (Fs:zv):zv:=aS 4 5 (xH Fs)
def L7 (Fs:zv):MS:=(aI (aX (cG (bI (m1 (eX gN) (aA 3)))) (aL (mC (.bl false))) bG) (aI (aX (dW (mB (m2 bE (aD (f1 bR) (aB (aA 3) aC)) (mC (.int 3)))) (mB (m2 bE (m2 aO (aA 3) (mC (.int 0))) (mC (.str "spread"))))) (aL (aD F_qy (aB (aA 0) (aB (aA 1) (aB (m2 aO (aA 3) (mC (.int 1))) (aB (m2 aO (aA 3) (mC (.int 2))) aC)))))) bG) (aI (aX (dW (mB (m2 bE (aD (f1 bR) (aB (aA 3) aC)) (mC (.int 3)))) (mB (m2 bE (m2 aO (aA 3) (mC (.int 0))) (mC (.str "far"))))) (aL (aD F_q9 (aB (aA 0) (aB (aA 1) (aB (aA 2) (aB (m2 aO (aA 3) (mC (.int 1))) (aB (m2 aO (aA 3) (mC (.int 2))) aC))))))) bG) (aL (dH (m2 bE (aD (f1 bR) (aB (aA 3) aC)) (mC (.int 2))) (dH (m2 bE (m2 aO (aA 3) (mC (.int 0))) (mC (.str "next"))) (aD (F_q7 Fs) (aB (aA 0) (aB (aA 1) (aB (aA 2) (aB (m2 aO (aA 3) (mC (.int 1))) aC)))))))))))
def F_q2:Nat->zv
 |0=>λ_ _=>.bad
 |n+1=>aS 4 4 (L7 (F_q2 n))
def i5:MS:=(aI (cC (aD F_qa (aB (aA 0) (aB (aA 1) aC)))) (aL (aD (F_q2 8) (aB (aA 0) (aB (aA 1) (aB (aT aC) (aB (aA 2) aC)))))))
def F_qk:zv:=aS 3 3 (i5)
def i6:MS:=(aI (aX (mB (m2 gM (aD (f1 bR) (aB (aA 2) aC)) (aA 1))) (aL (mC .non)) bG) (aI (aM (m2 aO (aA 2) (m2 eE (m1 oP (mC (.int 1))) (aA 1))) (aF 3)) (aI (dR (aQ cH (aB (m2 aO (aA 0) (mC (.int 0))) aC)) (aF 4) (aX (dW (mB (m2 (bU true) (aA 4) (aA 2))) (bI (aD F_qu (aB (aA 0) (aB (aA 3) (aB (aA 4) aC)))))) (aL (aT (aB (mC (.str "far")) (aB (aA 3) (aB (aA 4) aC))))) bG)) (aL (mC .non)))))
def F_q6:zv:=aS 3 5 (i6)
def L8 (Fs:zv):MS:=(aI (aM (aD F_q6 (aB (aA 0) (aB (aA 1) (aB (aA 2) aC)))) (aF 3)) (aI (aX (dE (mB (m2 (dP true) (aA 3) (mC .non))) (mB (m2 bE (aD (f1 bR) (aB (aA 2) aC)) (m2 aO (aA 0) (mC (.int 0)))))) (aL (aA 3)) bG) (aI (aM (cA aC) (aF 4)) (aI (dR (bC cD (aD F_q5 (aB (aA 0) (aB (aA 2) aC)))) (aF 5) (aI (aM (aD Fs (aB (aA 0) (aB (aA 1) (aB (m2 cN (aA 2) (aT (aB (aA 5) aC))) aC)))) (aF 6)) (aI (aX (mB (m2 (dP false) (aA 6) (mC .non))) (aL (mC .non)) bG) (cC (iN (aA 4) (aA 6)))))) (aL (aT (aB (mC (.str "next")) (aB (aD (f1 eM) (aB (aA 4) aC)) aC))))))))
def F_qs:Nat->zv
 |0=>λ_ _=>.bad
 |n+1=>aS 3 7 (L8 (F_qs n))
def i7:MS:=(aI (cC (aD F_qa (aB (aA 0) (aB (aA 1) aC)))) (aL (aD (F_qs 8) (aB (aA 0) (aB (aA 1) (aB (aT aC) aC))))))
def F_qz:zv:=aS 2 2 (i7)
def tZ:MS:=(aI (aM (aD F_qj (aB (aA 0) aC)) (aF 1)) (aL (bM (bJ (bC cD (aD F_q0 (aB (aA 0) aC))) [none,some 1] (aF 0) bQ (bA (aT (aB (aA 0) (aB (aD F_qd (aB (aA 0) (aB (aA 1) aC))) aC))))))))
def F_qb:zv:=aS 1 2 (tZ)
def CG:MS:=(aL (aD (f1 (oV kT)) (aB (bM (bJ (bC cD (aD F_qb (aB (aA 0) aC))) [none,none] (cM 2 (aU (aF 0) (aU (aF 1) cO))) bQ (bA (aA 1)))) aC)))
def F_qq:zv:=aS 1 1 (CG)
def xI (scr:zr):MS:=(aI (aM (aD (F_qm scr) (aB (aA 0) (aB (aA 1) aC))) (aF 2)) (aI (aM (aD F_ql (aB (aA 2) (aB (mC (.int 6)) aC))) (aF 3)) (aI (aM (aD F_qq (aB (aA 3) aC)) (aF 4)) (aI (aM (aD F_qA (aB (aA 3) aC)) (aF 5)) (aI (dR (aQ cH (aB (mC (.int 6)) aC)) (aF 6) (aI (aM (aD F_qz (aB (aA 3) (aB (aA 6) aC))) (aF 7)) (aI (aX (dE (mB (m2 dN (m2 (dP false) (aA 7) (mC .non)) (m2 gM (aA 4) (aA 6)))) (mB (m2 dN (m2 (dP false) (aD F_qz (aB (aA 5) (aB (aA 6) aC))) (mC .non)) (m2 gM (aA 4) (aA 6))))) (aL (mC (.bl false))) bG) (aI (aX (mB (m2 (dP false) (aA 7) (mC .non))) vP bG) (aI (aX (mB (m2 dN (bM (bJ (aQ cH (aB (m2 cN (aA 6) (mC (.int 1))) aC)) [none,some 3,some 7] (aF 0) (mB (m2 (dP true) (aD F_qk (aB (aA 1) (aB (aA 0) (aB (aA 2) aC)))) (mC (.bl true)))) (bA (aA 0)))) (cA aC))) (aL (mC (.bl false))) bG) (aX (mB (m2 (dP true) (aD F_qk (aB (aA 3) (aB (aA 4) (aB (aA 7) aC)))) (mC (.bl false)))) (aL (mC (.bl false))) bG)))))) (aI (aM (cA (aB (mC (.int 0)) aC)) (aF 8)) (aI (aM (aD F_qj (aB (aA 3) aC)) (aF 9)) (aI (dR (aQ hX (aB (mC (.int 1)) (aB (m2 aO (aA 3) (mC (.int 0))) aC))) (aF 10) (aX (mB (m2 bE (bM (bJ (bC cD (aA 8)) [none,some 9,some 10] (aF 0) (mB (m2 (bU true) (aT (aB (aA 0) (aB (aA 2) aC))) (aA 1))) (bA (aA 0)))) (cA aC))) (cC (iN (aA 8) (aA 10))) bG)) (aX (dW (mB (m2 nI (aD (f1 bR) (aB (aA 8) aC)) (mC (.int 1)))) (mB (m2 (dP true) (aD F_qk (aB (aA 3) (aB (m2 eE (aD (f1 bR) (aB (aA 8) aC)) (mC (.int 2))) (aB (aT (aB (mC (.str "spread")) (aB (aD (f1 eM) (aB (aA 8) aC)) (aB (mC (.int 1)) aC)))) aC)))) (mC (.bl true))))) (aL (mC (.bl false))) bG)))))))))
def L9 (scr:zr):MS:=(dR (aQ cH (aB (aD nB (aB (mC (.int 1)) (aB (aD rB (aB (aD (f1 (hW scr)) (aB (aA 0) aC)) (aB (mC (.int 2)) aC))) aC))) aC)) (aF 1) (xI scr))
def i8:MS:=(aL (mC (.bl true)))
def xJ (scr:zr):MS:=(aI (L9 scr) (i8))
def F_qC (scr:zr):zv:=aS 1 11 (xJ scr)
end L2.Mr.K10
namespace L2.Mr
open PySem PySem.Spec PyProof.Rows L2
section
variable{X:Cx}{G:Cfg}{E:XK}{e:br}{me:M Dv}{pos pos':Pos}{i:Nat}{x:Str}
theorem bW (hN:X.N.Nodup) (hi:X.N[i]?=some x:=by rfl) (hx:nW X.env.scope x:=by first|exact .inl rfl|exact .inr rfl) (hf:X.fn x=true∨X.env.scope.names.lookup x=some .local:=by first|exact .inl rfl|exact .inr rfl|assumption):kP X G (.Name x pos) (aF i):=VA hN hi hx hf
theorem cU (hN:X.N.Nodup) (he:aK X G E e me) (hi:X.N[i]?=some x:=by rfl) (hx:nW X.env.scope x:=by first|exact .inl rfl|exact .inr rfl) (hs:swapsWith e (some (.Name x pos')) pos.line X.env=pure false:=by rfl) (hf:X.fn x=true∨X.env.scope.names.lookup x=some .local:=by first|exact .inl rfl|exact .inr rfl|assumption):iG X G E (.Assign [.Name x pos'] e pos) (aM me (aF i)):=VD hN hi hx he hs hf
theorem fT {sc os:gu}{oN N:zu}{cap:List (Option Nat)}(hs:X.env.scope.names=os.names:=by rfl) (hN:X.N=oN:=by rfl) (h1:sc.kind=.function:=by rfl) (h2:∀p∈sc.names,p.2=.local->sc.names.lookup p.1=some .local:=by decide +kernel) (h3:cap.length=N.length:=by rfl)
  (h4:∀p∈sc.names,p.2=.free->os.names.lookup p.1=some .cell∨os.names.lookup p.1=some .free:=by decide +kernel) (h5:∀p∈sc.names,p.2=.free->(p.1,dh)∉sc.names:=by decide +kernel) (h6:∀q∈cap.zip N,∀j∈q.1,oN[j]?=some q.2/\sc.names.lookup q.2=some .free:=by decide +kernel):Bh X sc N cap:=W3 hs hN h1 h2 h3 h4 h5 h6
end
theorem cV {N P:zu}{sc:gu}(h1:sc.kind=.function:=by rfl) (h2:sc.isCoroutine=false:=by rfl) (h3:sc.isGenerator=false:=by rfl) (h4:N.Nodup:=by decide +kernel) (h5:N.take P.length=P:=by rfl) (h6:∀x∈P,sc.names.lookup x=some .local∨sc.names.lookup x=some .cell:=by decide +kernel) (h7:∀y∈sc.names,y.2≠.free:=by decide +kernel):Ae N P sc:=⟨h1,h2,h3,h4,h5,h6,h7⟩
theorem bS {k:Nat}{f:ah}{X:Cx}{G:Cfg}{E:XK}{F:zv}{ps:zu}{fd:bh}{x:Str}{p pos:Pos}{e:br}{es:List br}{ms:M zw }{j:Nat}(g:Good X G E k) (Fn:Ak X.prog X.w X.K X.mg X.base (bY X.prog X.w X.base) j f fd ps (cE G F))
  (hm:X.mg x=some (.ref f)) (hk:oj X.K (.ref f)=true) (hb:Binds X.K fd ps []) (ha:dY X G E (e::es) ms) (hj:j<=k:=by decide) (hg:Gl X x:=by exact rfl)
  (Di:(x==("__debug__" : Str))=false:=by decide) (he:ar (e::es) X.env=(false,eval e X.env)::ar es X.env:=by rfl) (Bl:(backTo pos (ar es X.env)).any (·.1)=false:=by rfl):
  aK X G E (.Call (.Name x p) (e::es) [] pos) (aD F ms):=lH g Fn hj hg hm hk hb ha Di he Bl
open PySem.W in
theorem cW {F:List (Frag->Bool)}{K:Frag}{l m:List (Option bh)}(hf:l=m) (hc:F.all (λf=>f K)=true) (f:ah) (st:gf) (n:Str) (c:ah) (ps:zu) (i j k:Nat)
  (hb:∀(kV doc pm:af) (an:Option ah) (cdv ct:af) (us:List af),us.length=ps.length->bindArgs (fnOf n n (nZ st) (lC st) (bF st) .none kV doc pm an cdv ct) ⟨us,[]⟩=pure (ps.zip us))
  (h1:l[i]?=some (cK K f):=by rfl) (h2:m[i]?=some (some (fnOf n n (nZ st) (lC st) (bF st) .none .none .none .none none (.ref c) .none)):=by rfl) (h3:F[j]?=some (codeIn · (.ref c) n):=by rfl) (h4:F[k]?=some (keepIn · (.ref f)):=by rfl):
  ∃fd:bh,Bb K n n st f fd/\Binds K fd ps []/\fd.code=.ref c/\∀us:List af,us.length=ps.length->bindArgs fd ⟨us,[]⟩=pure (ps.zip us):=W0 (OU hf i h1 h2) (qQ hc j h3) (qQ hc k h4) hb
end L2.Mr
namespace L2.Mr.K10
open PySem PySem.Spec PyProof.Rows L2 L2.Mr
open L2.Mr.Com
def cX (i:Nat):gf:=aa.main.body.getD i (.Pass ⟨0,0,0,0⟩)
abbrev CH:gf:=cX 5
abbrev CI:gf:=cX 6
abbrev CJ:gf:=cX 7
abbrev xK:gf:=cX 8
abbrev CK:gf:=cX 12
abbrev xM:gf:=cX 13
abbrev CL:gf:=cX 14
abbrev xN:gf:=cX 15
abbrev xO:gf:=cX 16
abbrev xP:gf:=cX 17
abbrev CM:gf:=cX 18
abbrev CN:gf:=cX 19
abbrev CO:gf:=cX 20
abbrev xQ:gf:=cX 21
abbrev xR:gf:=cX 22
abbrev uA:gf:=cX 24
abbrev xS:gf:=cX 25
abbrev CP:gf:=cX 26
abbrev xT:gf:=cX 27
abbrev CQ:gf:=cX 29
abbrev xU:gf:=cX 30
abbrev xV:gf:=cX 31
abbrev CS:gf:=cX 32
abbrev CT:gf:=cX 33
abbrev xW:gf:=cX 34
abbrev CU:gf:=cX 35
abbrev CV:gf:=cX 36
abbrev CW:gf:=cX 37
abbrev CY:gf:=cX 38
abbrev CZ:gf:=cX 39
abbrev xX:gf:=cX 41
abbrev xY:gf:=cX 42
abbrev DC:gf:=cX 44
abbrev DD:gf:=cX 45
abbrev DE:gf:=cX 46
abbrev DF:gf:=cX 47
abbrev xZ:gf:=cX 48
abbrev uB:gf:=cX 49
abbrev uC:gf:=cX 50
set_option genInjectivity false in
structure Ad where
 f_q4:ah
 fd_q4:bh
 f_qp:ah
 fd_qp:bh
 f_qf:ah
 fd_qf:bh
 f_qx:ah
 fd_qx:bh
 f_q3:ah
 fd_q3:bh
 f_qo:ah
 fd_qo:bh
 f_q8:ah
 fd_q8:bh
 f_qv:ah
 fd_qv:bh
 f_qw:ah
 fd_qw:bh
 f_qi:ah
 fd_qi:bh
 f_q1:ah
 fd_q1:bh
 f_qr:ah
 fd_qr:bh
 f_qu:ah
 fd_qu:bh
 f_qj:ah
 fd_qj:bh
 f_qA:ah
 fd_qA:bh
 f_q5:ah
 fd_q5:bh
 f_q0:ah
 fd_q0:bh
 f_qB:ah
 fd_qB:bh
 f_qd:ah
 fd_qd:bh
 f_qa:ah
 fd_qa:bh
 f_qg:ah
 fd_qg:bh
 f_qn:ah
 fd_qn:bh
 f_qy:ah
 fd_qy:bh
 f_q9:ah
 fd_q9:bh
 f_q7:ah
 fd_q7:bh
 f_q2:ah
 fd_q2:bh
 f_qk:ah
 fd_qk:bh
 f_q6:ah
 fd_q6:bh
 f_qs:ah
 fd_qs:bh
 f_qz:ah
 fd_qz:bh
 f_qb:ah
 fd_qb:bh
 f_qq:ah
 fd_qq:bh
 f_qe:ah
 fd_qe:bh
 f_qm:ah
 fd_qm:bh
 f_qt:ah
 fd_qt:bh
 f_qc:ah
 fd_qc:bh
 f_qh:ah
 fd_qh:bh
 f_ql:ah
 fd_ql:bh
 f_qC:ah
 fd_qC:bh
 c_NoOrder:ah
 t_MOST_THINGS:Tok
 t_MOST_APART:Tok
 NE:ah
 cc:ah
 P:ah
structure Tx (K:ao) (mg:Str->Option af) (G:Cf0) (A:Ad):Prop where
 hK:K=G.K
 F_q4:Bb K "is_whole" "is_whole" CH A.f_q4 A.fd_q4
 B_q4:Binds K A.fd_q4 ["thing"] []
 m_q4:mg "is_whole" = some (.ref A.f_q4)
 F_qp:Bb K "is_between" "is_between" CI A.f_qp A.fd_qp
 B_qp:Binds K A.fd_qp ["thing","low","high"] []
 m_qp:mg "is_between" = some (.ref A.f_qp)
 F_qf:Bb K "need_between" "need_between" CJ A.f_qf A.fd_qf
 B_qf:Binds K A.fd_qf ["thing","low","high"] []
 m_qf:mg "need_between" = some (.ref A.f_qf)
 F_qx:Bb K "is_rising" "is_rising" xK A.f_qx A.fd_qx
 B_qx:Binds K A.fd_qx ["parts"] []
 m_qx:mg "is_rising" = some (.ref A.f_qx)
 F_q3:Bb K "is_thing" "is_thing" CK A.f_q3 A.fd_q3
 B_q3:Binds K A.fd_q3 ["many","thing"] []
 m_q3:mg "is_thing" = some (.ref A.f_q3)
 F_qo:Bb K "are_things" "are_things" xM A.f_qo A.fd_qo
 B_qo:Binds K A.fd_qo ["many","thing"] []
 m_qo:mg "are_things" = some (.ref A.f_qo)
 F_q8:Bb K "is_pair" "is_pair" CL A.f_q8 A.fd_q8
 B_q8:Binds K A.fd_q8 ["many","thing"] []
 m_q8:mg "is_pair" = some (.ref A.f_q8)
 F_qv:Bb K "are_pairs" "are_pairs" xN A.f_qv A.fd_qv
 B_qv:Binds K A.fd_qv ["many","things"] []
 m_qv:mg "are_pairs" = some (.ref A.f_qv)
 F_qw:Bb K "has_alike" "has_alike" xO A.f_qw A.fd_qw
 B_qw:Binds K A.fd_qw ["pairs"] []
 m_qw:mg "has_alike" = some (.ref A.f_qw)
 F_qi:Bb K "is_complete" "is_complete" xP A.f_qi A.fd_qi
 B_qi:Binds K A.fd_qi ["pairs"] []
 m_qi:mg "is_complete" = some (.ref A.f_qi)
 F_q1:Bb K "is_order" "is_order" CM A.f_q1 A.fd_q1
 B_q1:Binds K A.fd_q1 ["thing"] []
 m_q1:mg "is_order" = some (.ref A.f_q1)
 F_qr:Bb K "need_order" "need_order" CN A.f_qr A.fd_qr
 B_qr:Binds K A.fd_qr ["order"] []
 m_qr:mg "need_order" = some (.ref A.f_qr)
 F_qu:Bb K "are_loose" "are_loose" CO A.f_qu A.fd_qu
 B_qu:Binds K A.fd_qu ["order","one","other"] []
 m_qu:mg "are_loose" = some (.ref A.f_qu)
 F_qj:Bb K "loose_pairs" "loose_pairs" xQ A.f_qj A.fd_qj
 B_qj:Binds K A.fd_qj ["order"] []
 m_qj:mg "loose_pairs" = some (.ref A.f_qj)
 F_qA:Bb K "turned" "turned" xR A.f_qA A.fd_qA
 B_qA:Binds K A.fd_qA ["order"] []
 m_qA:mg "turned" = some (.ref A.f_qA)
 F_q5:Bb K "may_come" "may_come" uA A.f_q5 A.fd_q5
 B_q5:Binds K A.fd_q5 ["order","begun"] []
 m_q5:mg "may_come" = some (.ref A.f_q5)
 F_q0:Bb K "all_rows" "all_rows" xS A.f_q0 A.fd_q0
 B_q0:Binds K A.fd_q0 ["order"] []
 m_q0:mg "all_rows" = some (.ref A.f_q0)
 F_qB:Bb K "apart" "apart" CP A.f_qB A.fd_qB
 B_qB:Binds K A.fd_qB ["row","pair"] []
 m_qB:mg "apart" = some (.ref A.f_qB)
 F_qd:Bb K "greatest_apart" "greatest_apart" xT A.f_qd A.fd_qd
 B_qd:Binds K A.fd_qd ["row","pairs"] []
 m_qd:mg "greatest_apart" = some (.ref A.f_qd)
 F_qa:Bb K "need_order_and_span" "need_order_and_span" CQ A.f_qa A.fd_qa
 B_qa:Binds K A.fd_qa ["order","k"] []
 m_qa:mg "need_order_and_span" = some (.ref A.f_qa)
 F_qg:Bb K "within_steps" "within_steps" xU A.f_qg A.fd_qg
 B_qg:Binds K A.fd_qg ["order","thing","far"] []
 m_qg:mg "within_steps" = some (.ref A.f_qg)
 F_qn:Bb K "are_joined" "are_joined" xV A.f_qn A.fd_qn
 B_qn:Binds K A.fd_qn ["order","things","far"] []
 m_qn:mg "are_joined" = some (.ref A.f_qn)
 F_qy:Bb K "is_spread" "is_spread" CS A.f_qy A.fd_qy
 B_qy:Binds K A.fd_qy ["order","k","things","far"] []
 m_qy:mg "is_spread" = some (.ref A.f_qy)
 F_q9:Bb K "is_far" "is_far" CT A.f_q9 A.fd_q9
 B_q9:Binds K A.fd_q9 ["order","k","begun","a","b"] []
 m_q9:mg "is_far" = some (.ref A.f_q9)
 F_q7:Bb K "is_next" "is_next" xW A.f_q7 A.fd_q7
 B_q7:Binds K A.fd_q7 ["order","k","begun","papers"] []
 m_q7:mg "is_next" = some (.ref A.f_q7)
 F_q2:Bb K "is_paper" "is_paper" CU A.f_q2 A.fd_q2
 B_q2:Binds K A.fd_q2 ["order","k","begun","thing"] []
 m_q2:mg "is_paper" = some (.ref A.f_q2)
 F_qk:Bb K "paper_shows" "paper_shows" CV A.f_qk A.fd_qk
 B_qk:Binds K A.fd_qk ["order","k","thing"] []
 m_qk:mg "paper_shows" = some (.ref A.f_qk)
 F_q6:Bb K "some_far" "some_far" CW A.f_q6 A.fd_q6
 B_q6:Binds K A.fd_q6 ["order","k","begun"] []
 m_q6:mg "some_far" = some (.ref A.f_q6)
 F_qs:Bb K "some_paper" "some_paper" CY A.f_qs A.fd_qs
 B_qs:Binds K A.fd_qs ["order","k","begun"] []
 m_qs:mg "some_paper" = some (.ref A.f_qs)
 F_qz:Bb K "paper_for" "paper_for" CZ A.f_qz A.fd_qz
 B_qz:Binds K A.fd_qz ["order","k"] []
 m_qz:mg "paper_for" = some (.ref A.f_qz)
 F_qb:Bb K "rows_with_spans" "rows_with_spans" xX A.f_qb A.fd_qb
 B_qb:Binds K A.fd_qb ["order"] []
 m_qb:mg "rows_with_spans" = some (.ref A.f_qb)
 F_qq:Bb K "least_span" "least_span" xY A.f_qq A.fd_qq
 B_qq:Binds K A.fd_qq ["order"] []
 m_qq:mg "least_span" = some (.ref A.f_qq)
 F_qe:Bb K "_law_cell_at" "_law_cell_at" DC A.f_qe A.fd_qe
 B_qe:Binds K A.fd_qe ["_law_script","_law_k"] []
 m_qe:mg "_law_cell_at" = some (.ref A.f_qe)
 F_qm:Bb K "_law_state" "_law_state" DD A.f_qm A.fd_qm
 B_qm:Binds K A.fd_qm ["_law_script","_law_k"] []
 m_qm:mg "_law_state" = some (.ref A.f_qm)
 F_qt:Bb K "_law_take" "_law_take" DE A.f_qt A.fd_qt
 B_qt:Binds K A.fd_qt ["_law_state_here","_law_many"] []
 m_qt:mg "_law_take" = some (.ref A.f_qt)
 F_qc:Bb K "_law_mixed_row" "_law_mixed_row" DF A.f_qc A.fd_qc
 B_qc:Binds K A.fd_qc ["_law_state_here","_law_things"] []
 m_qc:mg "_law_mixed_row" = some (.ref A.f_qc)
 F_qh:Bb K "_law_closed" "_law_closed" xZ A.f_qh A.fd_qh
 B_qh:Binds K A.fd_qh ["_law_pairs"] []
 m_qh:mg "_law_closed" = some (.ref A.f_qh)
 F_ql:Bb K "_law_order" "_law_order" uB A.f_ql A.fd_ql
 B_ql:Binds K A.fd_ql ["_law_state_here","_law_most"] []
 m_ql:mg "_law_order" = some (.ref A.f_ql)
 F_qC:Bb K "law" "law" uC A.f_qC A.fd_qC
 B_qC:Binds K A.fd_qC ["_law_script"] []
 m_qC:mg "law" = some (.ref A.f_qC)
 z_abs:mg "abs" = none
 z_all:mg "all" = none
 z_any:mg "any" = none
 z_bool:mg "bool" = none
 z_int:mg "int" = none
 z_isinstance:mg "isinstance" = none
 z_len:mg "len" = none
 z_list:mg "list" = none
 z_max:mg "max" = none
 z_min:mg "min" = none
 z_range:mg "range" = none
 z_set:mg "set" = none
 z_sorted:mg "sorted" = none
 z_tuple:mg "tuple" = none
 z_zip:mg "zip" = none
 c_MOST_THINGS:mg "MOST_THINGS" = some (.int 6 A.t_MOST_THINGS)
 c_MOST_APART:mg "MOST_APART" = some (.int 5 A.t_MOST_APART)
 n_NoOrder:mg "NoOrder" = some (.ref A.c_NoOrder)
 ns_NoOrder:xo K en "NoOrder" = some (some (.ref A.c_NoOrder))
 x_NoOrder:wu K A.c_NoOrder AS "ValueError.__new__" = true
 ce_NoOrder:A.c_NoOrder=G.cl 0
theorem MA:(["one","other"]:zu).Nodup:=by decide +kernel
theorem i9:(["part","many"]:zu).Nodup:=by decide +kernel
theorem j3:(["thing","many"]:zu).Nodup:=by decide +kernel
theorem yA:(["a","b"]:zu).Nodup:=by decide +kernel
theorem yB:(["a","b","middle","c","pairs"]:zu).Nodup:=by decide +kernel
theorem MB:(["thing","many","pairs"]:zu).Nodup:=by decide +kernel
theorem j4:(["order","one","other","pairs"]:zu).Nodup:=by decide +kernel
theorem j5:(["order","many"]:zu).Nodup:=by decide +kernel
theorem MD:(["a","b","order","many"]:zu).Nodup:=by decide +kernel
theorem ME:(["order","many","pairs"]:zu).Nodup:=by decide +kernel
theorem DG:(["order","begun","many","pairs","waiting"]:zu).Nodup:=by decide +kernel
theorem MF:(["a","b","begun"]:zu).Nodup:=by decide +kernel
theorem j6:(["thing","begun","waiting"]:zu).Nodup:=by decide +kernel
theorem DH:(["order","rows","place"]:zu).Nodup:=by decide +kernel
theorem MG:(["begun","thing","order"]:zu).Nodup:=by decide +kernel
theorem j7:(["row","pairs"]:zu).Nodup:=by decide +kernel
theorem j8:(["pair","row"]:zu).Nodup:=by decide +kernel
theorem DI:(["order","thing","far","found","step"]:zu).Nodup:=by decide +kernel
theorem j9:(["other","found","order"]:zu).Nodup:=by decide +kernel
theorem k6:(["one","order","other"]:zu).Nodup:=by decide +kernel
theorem MH:(["a","b","order","far","things"]:zu).Nodup:=by decide +kernel
theorem k7:(["order","k","begun","a","b","many"]:zu).Nodup:=by decide +kernel
theorem k8:(["order","k","begun","papers","things"]:zu).Nodup:=by decide +kernel
theorem MI:(["thing","paper","order","k","begun"]:zu).Nodup:=by decide +kernel
theorem MJ:(["order","k","begun","a","b"]:zu).Nodup:=by decide +kernel
abbrev Ac:List PySem.Str:=["order","k","begun","far","papers","thing","paper"]
theorem yC:(Ac:zu).Nodup:=by decide +kernel
theorem k9:(["order","pairs"]:zu).Nodup:=by decide +kernel
theorem MK:(["row","span"]:zu).Nodup:=by decide +kernel
theorem l0:(["_law_script","_law_k","_law_cell"]:zu).Nodup:=by decide +kernel
theorem DJ:(["_law_state_here","_law_many","_law_found","_law_stirred"]:zu).Nodup:=by decide +kernel
theorem ML:(["_law_state_here","_law_things","_law_left","_law_found"]:zu).Nodup:=by decide +kernel
abbrev Ab:List PySem.Str:=["_law_pairs","_law_found","_law_later","_law_a","_law_b"]
theorem rT:(Ab:zu).Nodup:=by decide +kernel
theorem MM:(["_law_c","_law_d","_law_a","_law_b"]:zu).Nodup:=by decide +kernel
abbrev Aa:List PySem.Str:=["_law_state_here","_law_most","_law_many","_law_row","_law_way","_law_pairs","_law_marks","_law_i","_law_j","_law_near"]
theorem jH:(Aa:zu).Nodup:=by decide +kernel
theorem l5:(["_law_thing","_law_state_here"]:zu).Nodup:=by decide +kernel
theorem l7:(["_law_j","_law_i","_law_marks"]:zu).Nodup:=by decide +kernel
abbrev zy:List PySem.Str:=["_law_script","_law_k","_law_state_here","_law_order_here","_law_least","_law_other","_law_span","_law_paper","_law_crowd","_law_pairs","_law_thing"]
theorem lV:(zy:zu).Nodup:=by decide +kernel
theorem l8:(["_law_one","_law_order_here","_law_paper"]:zu).Nodup:=by decide +kernel
theorem l9:(["_law_one","_law_pairs","_law_thing"]:zu).Nodup:=by decide +kernel
section
variable{P:bf}{w:cf}{K:ao}{mg:Str->Option af}{base:cx}{G:Cfg}{A:Ad}
theorem m3:Ae ["thing"] ["thing"] (bF CH):=cV
theorem m4 (T:Tx K mg G A):Ak P w K mg base (bY P w base) 1 A.f_q4 A.fd_q4 ["thing"] (cE G F_q4):=cZ (k:=0) T.F_q4 m3 T.hK λ_ _ _ _ _ _ _ g=>(aY (bT (kL (XF rfl T.z_isinstance rfl T.z_int (aE 0)) (mY (G0 (XG rfl T.z_isinstance rfl T.z_bool (aE 0)))))))
theorem m5:Ae ["thing","low","high"] ["thing","low","high"] (bF CI):=cV
theorem yD (T:Tx K mg G A):Ak P w K mg base (bY P w base) 2 A.f_qp A.fd_qp ["thing","low","high"] (cE G F_qp):=cZ (k:=1) T.F_qp m5 T.hK λ_ _ _ _ _ _ _ g=>(aY (bT (kL (bS g (m4 T) T.m_q4 T.F_q4.kp T.B_q4 (aG (aE 0) aN)) (mY (W9 (aE 1) (aE 0) (aE 2))))))
theorem m7:Ae ["thing","low","high"] ["thing","low","high"] (bF CJ):=cV
theorem m8 (T:Tx K mg G A):Ak P w K mg base (bY P w base) 3 A.f_qf A.fd_qf ["thing","low","high"] (cE G F_qf):=cZ (k:=2) T.F_qf m7 T.hK λ_ _ _ _ _ _ _ g=>(aY (eI (iF (fZ (bS g (yD T) T.m_qp T.F_qp.kp T.B_qp (aG (aE 0) (aG (aE 1) (aG (aE 2) aN)))))) (aY c7) eH))
theorem m9:Ae ["parts"] ["parts"] (bF xK):=cV
theorem MN (T:Tx K mg G A):Ak P w K mg base (bY P w base) 1 A.f_qx A.fd_qx ["parts"] (cE G F_qx):=cZ (k:=0) T.F_qx m9 T.hK λ_ _ _ _ _ _ _ g=>(aY (bT (rG g.calm rfl T.z_all (gL g.calm (fT (N:=["one","other"]) (cap:=[none,none]) (os:=(bF xK)) (oN:=["parts"])) (WM rfl T.z_zip (aG (aE 0) (aG (ZZ (aE 0) (WX aW) WW) aN))) (λ_ _ _=>(jB (dF g).calm (eO (bW (i:=0) MA) (eO (bW (i:=1) MA) jA)))) (λ_ _ _=>gX) (λ_ _ _=>(LM (dF g) (aE 0) (aE 1)))))))
theorem n9:Ae ["many","thing"] ["many","thing"] (bF CK):=cV
theorem DK (T:Tx K mg G A):Ak P w K mg base (bY P w base) 3 A.f_q3 A.fd_q3 ["many","thing"] (cE G F_q3):=cZ (k:=2) T.F_q3 n9 T.hK λ_ _ _ _ _ _ _ g=>(aY (bT (bS g (yD T) T.m_qp T.F_qp.kp T.B_qp (aG (aE 1) (aG aW (aG (nJ (aE 0) aW) aN))))))
theorem o7:Ae ["many","thing"] ["many","thing"] (bF xM):=cV
theorem MP (T:Tx K mg G A):Ak P w K mg base (bY P w base) 4 A.f_qo A.fd_qo ["many","thing"] (cE G F_qo):=cZ (k:=3) T.F_qo o7 T.hK λ_ _ _ _ _ _ _ g=>(aY (bT (kL (tK rfl T.z_isinstance rfl T.z_tuple (aE 1)) (mY (rG g.calm rfl T.z_all (gL g.calm (fT (N:=["part","many"]) (cap:=[none,some 0]) (os:=(bF xM)) (oN:=["many","thing"])) (nE (aE 1)) (λ_ _ _=>(bW (i:=0) i9)) (λ_ _ _=>gX) (λ_ _ _=>(bS (dF g) (DK T) T.m_q3 T.F_q3.kp T.B_q3 (aG (aE 1) (aG (aE 0) aN))))))))))
theorem p6:Ae ["many","thing"] ["many","thing"] (bF CL):=cV
theorem p7 (T:Tx K mg G A):Ak P w K mg base (bY P w base) 5 A.f_q8 A.fd_q8 ["many","thing"] (cE G F_q8):=cZ (k:=4) T.F_q8 p6 T.hK λ_ _ _ _ _ _ _ g=>(aY (bT (kL (bS g (MP T) T.m_qo T.F_qo.kp T.B_qo (aG (aE 0) (aG (aE 1) aN))) (mY (pQ g (iQ rfl T.z_len (aG (aE 1) aN)) aW)))))
theorem p9:Ae ["many","things"] ["many","things"] (bF xN):=cV
theorem q5 (T:Tx K mg G A):Ak P w K mg base (bY P w base) 6 A.f_qv A.fd_qv ["many","things"] (cE G F_qv):=cZ (k:=5) T.F_qv p9 T.hK λ_ _ _ _ _ _ _ g=>(aY (bT (rG g.calm rfl T.z_all (gL g.calm (fT (N:=["thing","many"]) (cap:=[none,some 0]) (os:=(bF xN)) (oN:=["many","things"])) (nE (aE 1)) (λ_ _ _=>(bW (i:=0) j3)) (λ_ _ _=>gX) (λ_ _ _=>(bS (dF g) (p7 T) T.m_q8 T.F_q8.kp T.B_q8 (aG (aE 1) (aG (aE 0) aN))))))))
theorem r8:Ae ["pairs"] ["pairs"] (bF xO):=cV
theorem r9 (T:Tx K mg G A):Ak P w K mg base (bY P w base) 1 A.f_qw A.fd_qw ["pairs"] (cE G F_qw):=cZ (k:=0) T.F_qw r8 T.hK λ_ _ _ _ _ _ _ g=>(aY (bT (IB g.calm rfl T.z_any (gL g.calm (fT (N:=["a","b"]) (cap:=[none,none]) (os:=(bF xO)) (oN:=["pairs"])) (nE (aE 0)) (λ_ _ _=>(jB (dF g).calm (eO (bW (i:=0) yA) (eO (bW (i:=1) yA) jA)))) (λ_ _ _=>gX) (λ_ _ _=>(pQ (dF g) (aE 0) (aE 1)))))))
theorem s9:Ae ["pairs"] ["pairs"] (bF xP):=cV
theorem t6 (T:Tx K mg G A):Ak P w K mg base (bY P w base) 1 A.f_qi A.fd_qi ["pairs"] (cE G F_qi):=cZ (k:=0) T.F_qi s9 T.hK λ_ _ _ _ _ _ _ g=>(aY (bT (rG g.calm rfl T.z_all (AN g.calm (fT (N:=["a","b","middle","c","pairs"]) (cap:=[none,none,none,none,some 0]) (os:=(bF xP)) (oN:=["pairs"])) (nE (aE 0)) (λ_ _ _=>(jB (dF g).calm (eO (bW (i:=0) yB) (eO (bW (i:=1) yB) jA)))) (λ_ _ _=>gX) (λ_ _ _=>(nE (aE 4))) (λ_ _ _=>(jB (dF g).calm (eO (bW (i:=2) yB) (eO (bW (i:=3) yB) jA)))) (λ_ _ _=>(nF (lL (dF g) (aE 1) (aE 2)))) (λ_ _ _=>(JI (dF g) (fX (aG (aE 0) (aG (aE 3) aN))) (aE 4)))))))
theorem t7:Ae ["thing","many","pairs"] ["thing"] (bF CM):=cV
theorem t9 (T:Tx K mg G A):Ak P w K mg base (bY P w base) 7 A.f_q1 A.fd_q1 ["thing"] (cE G F_q1):=cZ (k:=6) T.F_q1 t7 T.hK λ_ _ _ _ _ _ _ g=>(aZ (eI (Bd.t (iY (iF (fZ (tK rfl T.z_isinstance rfl T.z_tuple (aE 0)))) (mX (rL g (iQ rfl T.z_len (aG (aE 0) aN)) aW)))) (aY (bT gF)) eH) (aZ (AI (aE 0) (jB g.calm (eO (bW (i:=1) MB) (eO (bW (i:=2) MB) jA)))) (aZ (eI (Bd.t (iY (iF (fZ (bS g (yD T) T.m_qp T.F_qp.kp T.B_qp (aG (aE 1) (aG aW (aG (A4 rfl T.c_MOST_THINGS) aN)))))) (mX (iF (fZ (tK rfl T.z_isinstance rfl T.z_tuple (aE 2))))))) (aY (bT gF)) eH) (aZ (eI (Bd.t (iY (iF (fZ (bS g (q5 T) T.m_qv T.F_qv.kp T.B_qv (aG (aE 1) (aG (aE 2) aN))))) (mX (iF (fZ (bS g (MN T) T.m_qx T.F_qx.kp T.B_qx (aG (aE 2) aN))))))) (aY (bT gF)) eH) (aY (bT (kL (G0 (bS g (r9 T) T.m_qw T.F_qw.kp T.B_qw (aG (aE 2) aN))) (mY (bS g (t6 T) T.m_qi T.F_qi.kp T.B_qi (aG (aE 2) aN))))))))))
theorem u0:Ae ["order"] ["order"] (bF CN):=cV
theorem yE (T:Tx K mg G A):Ak P w K mg base (bY P w base) 8 A.f_qr A.fd_qr ["order"] (cE G F_qr):=cZ (k:=7) T.F_qr u0 T.hK λ_ _ _ _ _ _ _ g=>(aY (eI (iF (fZ (bS g (t9 T) T.m_q1 T.F_q1.kp T.B_q1 (aG (aE 0) aN)))) (aY (VT g rfl T.n_NoOrder T.ns_NoOrder T.x_NoOrder T.ce_NoOrder (aG oA aN))) eH))
theorem u5:Ae ["order","one","other","pairs"] ["order","one","other"] (bF CO):=cV
theorem yF (T:Tx K mg G A):Ak P w K mg base (bY P w base) 1 A.f_qu A.fd_qu ["order","one","other"] (cE G F_qu):=cZ (k:=0) T.F_qu u5 T.hK λ_ _ _ _ _ _ _ g=>(aZ (cU (i:=3) j4 (dC (aE 0) aW)) (aY (bT (kL (W5 g (aE 1) (aE 2)) (kL (JJ g (fX (aG (aE 1) (aG (aE 2) aN))) (aE 3)) (mY (JJ g (fX (aG (aE 2) (aG (aE 1) aN))) (aE 3))))))))
theorem u6:Ae ["order","many"] ["order"] (bF xQ):=cV
theorem MQ (T:Tx K mg G A):Ak P w K mg base (bY P w base) 9 A.f_qj A.fd_qj ["order"] (cE G F_qj):=cZ (k:=8) T.F_qj u6 T.hK λ_ _ _ _ _ _ _ g=>(aZ (jR (bS g (yE T) T.m_qr T.F_qr.kp T.B_qr (aG (aE 0) aN))) (aZ (cU (i:=1) j5 (dC (aE 0) aW)) (aY (bT (jV (AN g.calm (fT (N:=["a","b","order","many"]) (cap:=[none,none,some 0,some 1]) (os:=(bF xQ)) (oN:=["order","many"])) (jT rfl T.z_range (aG (aE 1) aN)) (λ_ _ _=>(bW (i:=0) MD)) (λ_ _ _=>gX) (λ_ _ _=>(AK rfl T.z_range (aG (jY (aE 0) aW) (aG (aE 3) aN)))) (λ_ _ _=>(bW (i:=1) MD)) (λ_ _ _=>(nF (fZ (bS (dF g) (yF T) T.m_qu T.F_qu.kp T.B_qu (aG (aE 2) (aG (aE 0) (aG (aE 1) aN))))))) (λ_ _ _=>(fX (aG (aE 0) (aG (aE 1) aN))))))))))
theorem u7:Ae ["order","many","pairs"] ["order"] (bF xR):=cV
theorem u9 (T:Tx K mg G A):Ak P w K mg base (bY P w base) 9 A.f_qA A.fd_qA ["order"] (cE G F_qA):=cZ (k:=8) T.F_qA u7 T.hK λ_ _ _ _ _ _ _ g=>(aZ (jR (bS g (yE T) T.m_qr T.F_qr.kp T.B_qr (aG (aE 0) aN))) (aZ (AI (aE 0) (jB g.calm (eO (bW (i:=1) ME) (eO (bW (i:=2) ME) jA)))) (aY (bT (fX (aG (aE 1) (aG (vO rfl T.z_tuple (aG (ZU rfl T.z_sorted (aG (jV (gL g.calm (fT (N:=["a","b"]) (cap:=[none,none]) (os:=(bF xR)) (oN:=["order","many","pairs"])) (nE (aE 2)) (λ_ _ _=>(jB (dF g).calm (eO (bW (i:=0) yA) (eO (bW (i:=1) yA) jA)))) (λ_ _ _=>gX) (λ_ _ _=>(fX (aG (aE 1) (aG (aE 0) aN)))))) aN)) aN)) aN)))))))
theorem v5:Ae ["order","begun","many","pairs","waiting"] ["order","begun"] (bF uA):=cV
theorem DL (T:Tx K mg G A):Ak P w K mg base (bY P w base) 1 A.f_q5 A.fd_q5 ["order","begun"] (cE G F_q5):=cZ (k:=0) T.F_q5 v5 T.hK λ_ _ _ _ _ _ _ g=>(aZ (AI (aE 0) (jB g.calm (eO (bW (i:=2) DG) (eO (bW (i:=3) DG) jA)))) (aZ (cU (i:=4) DG (jV (gL g.calm (fT (N:=["a","b","begun"]) (cap:=[none,none,some 1]) (os:=(bF uA)) (oN:=["order","begun","many","pairs","waiting"])) (nE (aE 3)) (λ_ _ _=>(jB (dF g).calm (eO (bW (i:=0) MF) (eO (bW (i:=1) MF) jA)))) (λ_ _ _=>(nF (rM (dF g) (aE 0) (aE 2)))) (λ_ _ _=>(aE 1))))) (aY (bT (jV (gL g.calm (fT (N:=["thing","begun","waiting"]) (cap:=[none,some 1,some 4]) (os:=(bF uA)) (oN:=["order","begun","many","pairs","waiting"])) (jT rfl T.z_range (aG (aE 2) aN)) (λ_ _ _=>(bW (i:=0) j6)) (λ_ _ _=>(nF (Bd.t (sY (rM (dF g) (aE 0) (aE 1)) (sX (rM (dF g) (aE 0) (aE 2))))))) (λ_ _ _=>(aE 0))))))))
theorem v7:Ae ["order","rows","place"] ["order"] (bF xS):=cV
theorem v8 (T:Tx K mg G A):Ak P w K mg base (bY P w base) 9 A.f_q0 A.fd_q0 ["order"] (cE G F_q0):=cZ (k:=8) T.F_q0 v7 T.hK λ_ _ _ _ _ _ _ g=>(aZ (jR (bS g (yE T) T.m_qr T.F_qr.kp T.B_qr (aG (aE 0) aN))) (aZ (cU (i:=1) DH (CC 3)) (aZ (kR g.own g.calm (jT rfl T.z_range (aG (dC (aE 0) aW) aN)) (bW (i:=2) DH) (aY (X5 (i:=1) DH rfl g.calm (fT (N:=["begun","thing","order"]) (cap:=[none,none,some 0]) (os:=(bF xS)) (oN:=["order","rows","place"])) (kQ (aE 1)) (λ_ _ _=>(bW (i:=0) MG)) (λ_ _ _=>gX) (λ_ _ _=>(kQ (bS (dF g) (DL T) T.m_q5 T.F_q5.kp T.B_q5 (aG (aE 2) (aG (aE 0) aN))))) (λ_ _ _=>(bW (i:=1) MG)) (λ_ _ _=>gX) (λ_ _ _=>(jY (aE 0) (fX (aG (aE 1) aN))))))) (aY (bT (aE 1))))))
theorem v9:Ae ["row","pair"] ["row","pair"] (bF CP):=cV
theorem y0 (T:Tx K mg G A):Ak P w K mg base (bY P w base) 1 A.f_qB A.fd_qB ["row","pair"] (cE G F_qB):=cZ (k:=0) T.F_qB v9 T.hK λ_ _ _ _ _ _ _ g=>(aY (bT (UR rfl T.z_abs (aG (nJ (BC (aE 0) (dC (aE 1) aW)) (BC (aE 0) (dC (aE 1) aW))) aN))))
theorem y1:Ae ["row","pairs"] ["row","pairs"] (bF xT):=cV
theorem y6 (T:Tx K mg G A):Ak P w K mg base (bY P w base) 2 A.f_qd A.fd_qd ["row","pairs"] (cE G F_qd):=cZ (k:=1) T.F_qd y1 T.hK λ_ _ _ _ _ _ _ g=>(aY (bT (Z9 g.calm rfl T.z_max (jV (gL g.calm (fT (N:=["pair","row"]) (cap:=[none,some 0]) (os:=(bF xT)) (oN:=["row","pairs"])) (kQ (aE 1)) (λ_ _ _=>(bW (i:=0) j8)) (λ_ _ _=>gX) (λ_ _ _=>(bS (dF g) (y0 T) T.m_qB T.F_qB.kp T.B_qB (aG (aE 1) (aG (aE 0) aN)))))))))
theorem y8:Ae ["order","k"] ["order","k"] (bF CQ):=cV
theorem MR (T:Tx K mg G A):Ak P w K mg base (bY P w base) 9 A.f_qa A.fd_qa ["order","k"] (cE G F_qa):=cZ (k:=8) T.F_qa y8 T.hK λ_ _ _ _ _ _ _ g=>(aZ (jR (bS g (yE T) T.m_qr T.F_qr.kp T.B_qr (aG (aE 0) aN))) (aY (jR (bS g (m8 T) T.m_qf T.F_qf.kp T.B_qf (aG (aE 1) (aG aW (aG (A4 rfl T.c_MOST_APART) aN)))))))
theorem y9:Ae ["order","thing","far","found","step"] ["order","thing","far"] (bF xU):=cV
theorem z9 (T:Tx K mg G A):Ak P w K mg base (bY P w base) 2 A.f_qg A.fd_qg ["order","thing","far"] (cE G F_qg):=cZ (k:=1) T.F_qg y9 T.hK λ_ _ _ _ _ _ _ g=>(aZ (cU (i:=3) DI (iW (aG (aE 1) aN))) (aZ (kR g.own g.calm (jT rfl T.z_range (aG (aE 2) aN)) (bW (i:=4) DI) (aY (cU (i:=3) DI (jV (gL g.calm (fT (N:=["other","found","order"]) (cap:=[none,some 3,some 0]) (os:=(bF xU)) (oN:=["order","thing","far","found","step"])) (jT rfl T.z_range (aG (dC (aE 0) aW) aN)) (λ_ _ _=>(bW (i:=0) j9)) (λ_ _ _=>(nF (Bd.t (iY (JK (dF g) (aE 0) (aE 1)) (mX (fZ (IB (dF g).calm rfl T.z_any (gL (dF g).calm (fT (N:=["one","order","other"]) (cap:=[none,some 2,some 0]) (os:={ kind:=.function,names:=[(".0",.local),("other",.cell),("any",.globalImplicit),("found",.cell),("order",.cell)],isGenerator:=false,isCoroutine:=false }) (oN:=["other","found","order"])) (kQ (aE 1)) (λ_ _ _=>(bW (i:=0) k6)) (λ_ _ _=>gX) (λ_ _ _=>(lH (dF (dF g)) (yF T) (by decide) rfl T.m_qu T.F_qu.kp T.B_qu (aG (aE 1) (aG (aE 0) (aG (aE 2) aN))))))))))))) (λ_ _ _=>(aE 0))))))) (aY (bT (aE 3)))))
theorem z00:Ae ["order","things","far"] ["order","things","far"] (bF xV):=cV
theorem z01 (T:Tx K mg G A):Ak P w K mg base (bY P w base) 3 A.f_qn A.fd_qn ["order","things","far"] (cE G F_qn):=cZ (k:=2) T.F_qn z00 T.hK λ_ _ _ _ _ _ _ g=>(aY (bT (rG g.calm rfl T.z_all (AN g.calm (fT (N:=["a","b","order","far","things"]) (cap:=[none,none,some 0,some 2,some 1]) (os:=(bF xV)) (oN:=["order","things","far"])) (nE (aE 1)) (λ_ _ _=>(bW (i:=0) MH)) (λ_ _ _=>gX) (λ_ _ _=>(nE (aE 4))) (λ_ _ _=>(bW (i:=1) MH)) (λ_ _ _=>gX) (λ_ _ _=>(JI (dF g) (aE 1) (bS (dF g) (z9 T) T.m_qg T.F_qg.kp T.B_qg (aG (aE 2) (aG (aE 0) (aG (aE 3) aN))))))))))
theorem z02:Ae ["order","k","things","far"] ["order","k","things","far"] (bF CS):=cV
theorem z03 (T:Tx K mg G A):Ak P w K mg base (bY P w base) 5 A.f_qy A.fd_qy ["order","k","things","far"] (cE G F_qy):=cZ (k:=4) T.F_qy z02 T.hK λ_ _ _ _ _ _ _ g=>(aZ (eI (Bd.t (iY (iF (fZ (bS g (MP T) T.m_qo T.F_qo.kp T.B_qo (aG (dC (aE 0) aW) (aG (aE 2) aN))))) (iY (iF (fZ (bS g (MN T) T.m_qx T.F_qx.kp T.B_qx (aG (aE 2) aN)))) (mX (iF (fZ (bS g (yD T) T.m_qp T.F_qp.kp T.B_qp (aG (aE 3) (aG aW (aG (A4 rfl T.c_MOST_APART) aN)))))))))) (aY (bT gF)) eH) (aY (bT (kL (IY (nJ (iQ rfl T.z_len (aG (aE 2) aN)) aW) (rJ (aE 1) (aE 3))) (mY (bS g (z01 T) T.m_qn T.F_qn.kp T.B_qn (aG (aE 0) (aG (aE 2) (aG (aE 3) aN)))))))))
theorem z04:Ae ["order","k","begun","a","b","many"] ["order","k","begun","a","b"] (bF CT):=cV
theorem z05 (T:Tx K mg G A):Ak P w K mg base (bY P w base) 4 A.f_q9 A.fd_q9 ["order","k","begun","a","b"] (cE G F_q9):=cZ (k:=3) T.F_q9 z04 T.hK λ_ _ _ _ _ _ _ g=>(aZ (cU (i:=5) k7 (dC (aE 0) aW)) (aZ (eI (Bd.t (iY (iF (fZ (bS g (DK T) T.m_q3 T.F_q3.kp T.B_q3 (aG (aE 5) (aG (aE 3) aN))))) (iY (iF (fZ (bS g (DK T) T.m_q3 T.F_q3.kp T.B_q3 (aG (aE 5) (aG (aE 4) aN))))) (iY (rM g (aE 3) (aE 2)) (mX (JK g (aE 4) (aE 2))))))) (aY (bT gF)) eH) (aY (bT (kL (bS g (yF T) T.m_qu T.F_qu.kp T.B_qu (aG (aE 0) (aG (aE 3) (aG (aE 4) aN)))) (mY (W4 (nJ (nJ (iQ rfl T.z_len (aG (aE 2) aN)) aW) (BC (aE 2) (aE 3))) (aE 1))))))))
theorem z06:Ae ["order","k","begun","papers","things"] ["order","k","begun","papers"] (bF xW):=cV
theorem z07 (T:Tx K mg G A) {j:Nat}{Fs:zv}(hj:5<=j) (okS:Ak P w K mg base (bY P w base) j A.f_q2 A.fd_q2 ["order","k","begun","thing"] (cE G Fs)):Ak P w K mg base (bY P w base) (j+1) A.f_q7 A.fd_q7 ["order","k","begun","papers"] (cE G (F_q7 Fs)):=cZ (k:=j) (N:=["order","k","begun","papers","things"]) (mb:=xH Fs) T.F_q7 z06 T.hK λ_ _ _ _ _ _ _ g=>(aZ (cU (i:=4) k8 (lH g (DL T) (by omega) rfl T.m_q5 T.F_q5.kp T.B_q5 (aG (aE 0) (aG (aE 2) aN)))) (aZ (eI (Bd.t (iY (iF (fZ (tK rfl T.z_isinstance rfl T.z_tuple (aE 3)))) (iY (rL g (iQ rfl T.z_len (aG (aE 3) aN)) (iQ rfl T.z_len (aG (aE 4) aN))) (mX (iF (fZ (aE 4))))))) (aY (bT gF)) eH) (aY (bT (rG g.calm rfl T.z_all (gL g.calm (fT (N:=["thing","paper","order","k","begun"]) (cap:=[none,none,some 0,some 1,some 2]) (os:=(bF xW)) (oN:=["order","k","begun","papers","things"])) (d9 rfl T.z_zip (aG (aE 4) (aG (aE 3) aN))) (λ_ _ _=>(jB (dF g).calm (eO (bW (i:=0) MI) (eO (bW (i:=1) MI) jA)))) (λ_ _ _=>gX) (λ_ _ _=>(lH (dF g) okS (aj _) rfl T.m_q2 T.F_q2.kp T.B_q2 (aG (aE 2) (aG (aE 3) (aG (jY (aE 4) (fX (aG (aE 0) aN))) (aG (aE 1) aN))))))))))))
theorem z08:Ae ["order","k","begun","thing"] ["order","k","begun","thing"] (bF CU):=cV
theorem MT (T:Tx K mg G A):∀n,Ak P w K mg base (bY P w base) (5+2*n) A.f_q2 A.fd_q2 ["order","k","begun","thing"] (cE G (F_q2 n))
 |0=>IZ
 |n+1=>by have okS:=MT T n;have okH_is_next:=z07 T (j:=5+2*n) (by omega) okS;exact cZ (k:=5+2*n+1) (N:=["order","k","begun","thing"]) (mb:=L7 (F_q2 n)) T.F_q2 z08 T.hK λ_ _ _ _ _ _ _ g=>(aZ (eI (iF (fZ (tK rfl T.z_isinstance rfl T.z_tuple (aE 3)))) (aY (bT gF)) eH) (aZ (eI (Bd.t (sY (lL g (iQ rfl T.z_len (aG (aE 3) aN)) aW) (sX (lL g (dC (aE 3) aW) oA)))) (aY (bT (lH g (z03 T) (by omega) rfl T.m_qy T.F_qy.kp T.B_qy (aG (aE 0) (aG (aE 1) (aG (dC (aE 3) aW) (aG (dC (aE 3) aW) aN))))))) eH) (aZ (eI (Bd.t (sY (lL g (iQ rfl T.z_len (aG (aE 3) aN)) aW) (sX (lL g (dC (aE 3) aW) oA)))) (aY (bT (lH g (z05 T) (by omega) rfl T.m_q9 T.F_q9.kp T.B_q9 (aG (aE 0) (aG (aE 1) (aG (aE 2) (aG (dC (aE 3) aW) (aG (dC (aE 3) aW) aN)))))))) eH) (aY (bT (kL (pQ g (iQ rfl T.z_len (aG (aE 3) aN)) aW) (kL (pQ g (dC (aE 3) aW) oA) (mY (lH g okH_is_next (aj _) rfl T.m_q7 T.F_q7.kp T.B_q7 (aG (aE 0) (aG (aE 1) (aG (aE 2) (aG (dC (aE 3) aW) aN)))))))))))))
theorem z09:Ae ["order","k","thing"] ["order","k","thing"] (bF CV):=cV
theorem DM (T:Tx K mg G A):Ak P w K mg base (bY P w base) 22 A.f_qk A.fd_qk ["order","k","thing"] (cE G F_qk):=cZ (k:=21) T.F_qk z09 T.hK λ_ _ _ _ _ _ _ g=>(aZ (jR (bS g (MR T) T.m_qa T.F_qa.kp T.B_qa (aG (aE 0) (aG (aE 1) aN)))) (aY (bT (bS g (MT T 8) T.m_q2 T.F_q2.kp T.B_q2 (aG (aE 0) (aG (aE 1) (aG (fX aN) (aG (aE 2) aN))))))))
theorem z0a:Ae ["order","k","begun","a","b"] ["order","k","begun"] (bF CW):=cV
theorem z0b (T:Tx K mg G A):Ak P w K mg base (bY P w base) 2 A.f_q6 A.fd_q6 ["order","k","begun"] (cE G F_q6):=cZ (k:=1) T.F_q6 z0a T.hK λ_ _ _ _ _ _ _ g=>(aZ (eI (W6 (iQ rfl T.z_len (aG (aE 2) aN)) (aE 1)) (aY (bT mV)) eH) (aZ (cU (i:=3) MJ (dC (aE 2) (nJ (IW aW) (aE 1)))) (aZ (kR g.own g.calm (jT rfl T.z_range (aG (dC (aE 0) aW) aN)) (bW (i:=4) MJ) (aY (eI (Bd.t (sY (rM g (aE 4) (aE 2)) (sX (fZ (bS g (yF T) T.m_qu T.F_qu.kp T.B_qu (aG (aE 0) (aG (aE 3) (aG (aE 4) aN)))))))) (aY (bT (fX (aG oA (aG (aE 3) (aG (aE 4) aN)))))) eH))) (aY (bT mV)))))
theorem z0c:Ae Ac ["order","k","begun"] (bF CY):=cV
theorem MU (T:Tx K mg G A):∀n,Ak P w K mg base (bY P w base) (2+1*n) A.f_qs A.fd_qs ["order","k","begun"] (cE G (F_qs n))
 |0=>IZ
 |n+1=>by have okS:=MU T n;exact cZ (k:=2+1*n+0) (N:=Ac) (mb:=L8 (F_qs n)) T.F_qs z0c T.hK λ_ _ _ _ _ _ _ g=>(aZ (cU (i:=3) yC (lH g (z0b T) (by omega) rfl T.m_q6 T.F_q6.kp T.B_q6 (aG (aE 0) (aG (aE 1) (aG (aE 2) aN))))) (aZ (eI (Bd.t (iY (wK (aE 3) mV) (mX (lL g (iQ rfl T.z_len (aG (aE 2) aN)) (dC (aE 0) aW))))) (aY (bT (aE 3))) eH) (aZ (cU (i:=4) yC (iW aN)) (aZ (kR g.own g.calm (kQ (lH g (DL T) (by omega) rfl T.m_q5 T.F_q5.kp T.B_q5 (aG (aE 0) (aG (aE 2) aN)))) (bW (i:=5) yC) (aZ (cU (i:=6) yC (lH g okS (aj _) rfl T.m_qs T.F_qs.kp T.B_qs (aG (aE 0) (aG (aE 1) (aG (jY (aE 2) (fX (aG (aE 5) aN))) aN))))) (aZ (eI (JM (aE 6) mV) (aY (bT mV)) eH) (aY (jR (vU (aE 4) (aE 6))))))) (aY (bT (fX (aG oA (aG (vO rfl T.z_tuple (aG (aE 4) aN)) aN)))))))))
theorem z0d:Ae ["order","k"] ["order","k"] (bF CZ):=cV
theorem MV (T:Tx K mg G A):Ak P w K mg base (bY P w base) 11 A.f_qz A.fd_qz ["order","k"] (cE G F_qz):=cZ (k:=10) T.F_qz z0d T.hK λ_ _ _ _ _ _ _ g=>(aZ (jR (bS g (MR T) T.m_qa T.F_qa.kp T.B_qa (aG (aE 0) (aG (aE 1) aN)))) (aY (bT (bS g (MU T 8) T.m_qs T.F_qs.kp T.B_qs (aG (aE 0) (aG (aE 1) (aG (fX aN) aN)))))))
theorem z0e:Ae ["order","pairs"] ["order"] (bF xX):=cV
theorem z0f (T:Tx K mg G A):Ak P w K mg base (bY P w base) 10 A.f_qb A.fd_qb ["order"] (cE G F_qb):=cZ (k:=9) T.F_qb z0e T.hK λ_ _ _ _ _ _ _ g=>(aZ (cU (i:=1) k9 (bS g (MQ T) T.m_qj T.F_qj.kp T.B_qj (aG (aE 0) aN))) (aY (bT (jV (gL g.calm (fT (N:=["row","pairs"]) (cap:=[none,some 1]) (os:=(bF xX)) (oN:=["order","pairs"])) (kQ (bS g (v8 T) T.m_q0 T.F_q0.kp T.B_q0 (aG (aE 0) aN))) (λ_ _ _=>(bW (i:=0) j7)) (λ_ _ _=>gX) (λ_ _ _=>(fX (aG (aE 0) (aG (bS (dF g) (y6 T) T.m_qd T.F_qd.kp T.B_qd (aG (aE 0) (aG (aE 1) aN))) aN)))))))))
theorem z0g:Ae ["order"] ["order"] (bF xY):=cV
theorem z0h (T:Tx K mg G A):Ak P w K mg base (bY P w base) 11 A.f_qq A.fd_qq ["order"] (cE G F_qq):=cZ (k:=10) T.F_qq z0g T.hK λ_ _ _ _ _ _ _ g=>(aY (bT (XW g.calm rfl T.z_min (aG (jV (gL g.calm (fT (N:=["row","span"]) (cap:=[none,none]) (os:=(bF xY)) (oN:=["order"])) (kQ (bS g (z0f T) T.m_qb T.F_qb.kp T.B_qb (aG (aE 0) aN))) (λ_ _ _=>(jB (dF g).calm (eO (bW (i:=0) MK) (eO (bW (i:=1) MK) jA)))) (λ_ _ _=>gX) (λ_ _ _=>(aE 1)))) aN))))
theorem z0i:Ae ["_law_script","_law_k"] ["_law_script","_law_k"] (bF DC):=cV
theorem z0j (T:Tx K mg G A):Ak P w K mg base (bY P w base) 1 A.f_qe A.fd_qe ["_law_script","_law_k"] (cE G (F_qe G.scr)):=cZ (k:=0) (N:=["_law_script","_law_k"]) (mb:=(xC G.scr)) T.F_qe z0i T.hK λ_ _ _ _ _ _ _ g=>(aZ (eI (LN g (aE 1) (HH rfl T.z_len (aG (aE 0) aN))) (aY (bT (UO (aE 0) (aE 1)))) eH) (aY (bT aW)))
theorem z0k:Ae ["_law_script","_law_k","_law_cell"] ["_law_script","_law_k"] (bF DD):=cV
theorem z0l (T:Tx K mg G A):Ak P w K mg base (bY P w base) 2 A.f_qm A.fd_qm ["_law_script","_law_k"] (cE G (F_qm G.scr)):=cZ (k:=1) (N:=["_law_script","_law_k","_law_cell"]) (mb:=(xD G.scr)) T.F_qm z0k T.hK λ_ _ _ _ _ _ _ g=>(aZ (cU (i:=2) l0 (bS g (z0j T) T.m_qe T.F_qe.kp T.B_qe (aG (aE 0) (aG (aE 1) aN)))) (aZ (eI (W8 (aE 2) (IV aW aW)) (aY (bT (iW (aG (nJ (aE 2) (IV aW aW)) (aG gF aN))))) eH) (aY (bT (iW (aG (rK (aE 2) aW) (aG gF aN)))))))
theorem z0m:Ae ["_law_state_here","_law_many","_law_found","_law_stirred"] ["_law_state_here","_law_many"] (bF DE):=cV
theorem qF (T:Tx K mg G A):Ak P w K mg base (bY P w base) 1 A.f_qt A.fd_qt ["_law_state_here","_law_many"] (cE G F_qt):=cZ (k:=0) T.F_qt z0m T.hK λ_ _ _ _ _ _ _ g=>(aZ (eI (fZ (dC (aE 0) aW)) (aZ (cU (i:=2) DJ (rK (dC (aE 0) aW) (aE 1))) (aZ (IC (aE 0) aW (JE (dC (aE 0) aW) (aE 1))) (aY (bT (aE 2))))) eH) (aZ (IC (aE 0) aW (rK (jY (rJ (dC (aE 0) aW) aW) aW) aW)) (aZ (cU (i:=3) DJ (rK (jY (jY (rJ (dC (aE 0) aW) (dC (aE 0) aW)) (rJ aW (dC (aE 0) aW))) aW) aW)) (aZ (cU (i:=3) DJ (rK (jY (rJ (aE 3) (aE 3)) (rJ aW (aE 3))) aW)) (aY (bT (rK (JE (aE 3) aW) (aE 1))))))))
theorem z0n:Ae ["_law_state_here","_law_things","_law_left","_law_found"] ["_law_state_here","_law_things"] (bF DF):=cV
theorem z0o (T:Tx K mg G A):Ak P w K mg base (bY P w base) 2 A.f_qc A.fd_qc ["_law_state_here","_law_things"] (cE G F_qc):=cZ (k:=1) T.F_qc z0n T.hK λ_ _ _ _ _ _ _ g=>(aZ (cU (i:=2) ML (I0 rfl T.z_list (aG (aE 1) aN))) (aZ (cU (i:=3) ML (iW aN)) (aZ (IQ 40 g.own (rL g (aE 2) (iW aN)) (aY (jR (vU (aE 3) (WU (aE 2) (bS g (qF T) T.m_qt T.F_qt.kp T.B_qt (aG (aE 0) (aG (iQ rfl T.z_len (aG (aE 2) aN)) aN)))))))) (aY (bT (aE 3))))))
theorem z0p:Ae Ab ["_law_pairs"] (bF xZ):=cV
theorem z0q (T:Tx K mg G A):Ak P w K mg base (bY P w base) 1 A.f_qh A.fd_qh ["_law_pairs"] (cE G F_qh):=cZ (k:=0) T.F_qh z0p T.hK λ_ _ _ _ _ _ _ g=>(aZ (cU (i:=1) rT (LP g rfl T.z_sorted rfl T.z_set (aG (aE 0) aN))) (aY (IQ 40 g.own (fZ gF) (aZ (cU (i:=2) rT (I0 rfl T.z_list (aG (aE 1) aN))) (aZ (kR g.own g.calm (kQ (aE 1)) (jB g.calm (eO (bW (i:=3) rT) (eO (bW (i:=4) rT) jA))) (aY (jR (WC (aE 2) (gL g.calm (fT (N:=["_law_c","_law_d","_law_a","_law_b"]) (cap:=[none,none,some 3,some 4]) (os:=(bF xZ)) (oN:=Ab)) (kQ (aE 1)) (λ_ _ _=>(jB (dF g).calm (eO (bW (i:=0) MM) (eO (bW (i:=1) MM) jA)))) (λ_ _ _=>(nF (lL (dF g) (aE 3) (aE 0)))) (λ_ _ _=>(fX (aG (aE 2) (aG (aE 1) aN))))))))) (aZ (cU (i:=2) rT (LP g rfl T.z_sorted rfl T.z_set (aG (aE 2) aN))) (aZ (eI (lL g (aE 2) (aE 1)) (aY (bT (aE 1))) eH) (aY (cU (i:=1) rT (aE 2))))))))))
theorem z0r:Ae Aa ["_law_state_here","_law_most"] (bF uB):=cV
theorem z0s (T:Tx K mg G A):Ak P w K mg base (bY P w base) 3 A.f_ql A.fd_ql ["_law_state_here","_law_most"] (cE G F_ql):=cZ (k:=2) T.F_ql z0r T.hK λ_ _ _ _ _ _ _ g=>(aZ (cU (i:=2) jH (nJ (aE 1) (dC (CC 2) (bS g (qF T) T.m_qt T.F_qt.kp T.B_qt (aG (aE 0) (aG aW aN)))))) (aZ (cU (i:=2) jH (HJ g.calm rfl T.z_max (aG aW (aG (aE 2) aN)))) (aZ (cU (i:=3) jH (bS g (z0o T) T.m_qc T.F_qc.kp T.B_qc (aG (aE 0) (aG (Z2 g rfl T.z_list rfl T.z_range (aG (aE 2) aN)) aN)))) (aZ (cU (i:=4) jH (bS g (qF T) T.m_qt T.F_qt.kp T.B_qt (aG (aE 0) (aG aW aN)))) (aZ (cU (i:=5) jH (iW aN)) (aZ (cU (i:=6) jH (jV (gL g.calm (fT (N:=["_law_thing","_law_state_here"]) (cap:=[none,some 0]) (os:=(bF uB)) (oN:=Aa)) (kQ (aE 3)) (λ_ _ _=>(bW (i:=0) l5)) (λ_ _ _=>gX) (λ_ _ _=>(bS (dF g) (qF T) T.m_qt T.F_qt.kp T.B_qt (aG (aE 1) (aG aW aN))))))) (aZ (kR g.own g.calm (jT rfl T.z_range (aG (aE 2) aN)) (bW (i:=7) jH) (aY (kR g.own g.calm (AK rfl T.z_range (aG (jY (aE 7) aW) (aG (aE 2) aN))) (bW (i:=8) jH) (aZ (cU (i:=9) jH (iW (aG (pQ g (bS g (qF T) T.m_qt T.F_qt.kp T.B_qt (aG (aE 0) (aG aW aN))) aW) (aG (pQ g (bS g (qF T) T.m_qt T.F_qt.kp T.B_qt (aG (aE 0) (aG aW aN))) aW) (aG (IY (bS g (qF T) T.m_qt T.F_qt.kp T.B_qt (aG (aE 0) (aG aW aN))) aW) aN))))) (aZ (cU (i:=9) jH (jY (aE 9) (iW (aG (LM g (dC (aE 6) (aE 7)) (dC (aE 6) (aE 8))) (aG (pQ g (dC (aE 6) (aE 7)) (dC (aE 6) (aE 8))) aN))))) (aY (eI (fZ (dC (aE 9) (aE 4))) (aY (jR (vU (aE 5) (fX (aG (dC (aE 3) (aE 7)) (aG (dC (aE 3) (aE 8)) aN)))))) eH))))))) (aZ (eI (lL g (aE 4) aW) (aZ (cU (i:=5) jH (iW aN)) (aY (kR g.own g.calm (jT rfl T.z_range (aG (aE 2) aN)) (bW (i:=7) jH) (aY (cU (i:=5) jH (jY (aE 5) (jV (gL g.calm (fT (N:=["_law_j","_law_i","_law_marks"]) (cap:=[none,some 7,some 6]) (os:=(bF uB)) (oN:=Aa)) (jT rfl T.z_range (aG (aE 2) aN)) (λ_ _ _=>(bW (i:=0) l7)) (λ_ _ _=>(nF (LN (dF g) (dC (aE 2) (aE 1)) (dC (aE 2) (aE 0))))) (λ_ _ _=>(fX (aG (aE 1) (aG (aE 0) aN)))))))))))) eH) (aY (bT (fX (aG (aE 2) (aG (vO rfl T.z_tuple (aG (bS g (z0q T) T.m_qh T.F_qh.kp T.B_qh (aG (aE 5) aN)) aN)) aN)))))))))))))
theorem z0t:Ae zy ["_law_script"] (bF uC):=cV
theorem z0u (T:Tx K mg G A) (hT:∀μ n H k t a,G.clo μ n H k t a) (hC:sh base A.cc A.P) (hB:pO mg base):Ak P w K mg base (bY P w base) 26 A.f_qC A.fd_qC ["_law_script"] (cE G (F_qC G.scr)):=XH (k:=25) (N:=zy) (mb:=xJ G.scr) T.F_qC z0t T.hK λcdv Ar outer s H E₀ E hcd g=>(aZ (kR g.own g.calm (jT rfl T.z_range (aG (HJ g.calm rfl T.z_max (aG aW (aG (UY g.calm rfl T.z_min (aG (HH rfl T.z_len (aG (aE 0) aN)) (aG aW aN))) aN))) aN)) (bW (i:=1) lV) (aZ (cU (i:=2) lV (bS g (z0l T) T.m_qm T.F_qm.kp T.B_qm (aG (aE 0) (aG (aE 1) aN)))) (aZ (cU (i:=3) lV (bS g (z0s T) T.m_ql T.F_ql.kp T.B_ql (aG (aE 2) (aG aW aN)))) (aZ (cU (i:=4) lV (bS g (z0h T) T.m_qq T.F_qq.kp T.B_qq (aG (aE 3) aN))) (aZ (cU (i:=5) lV (bS g (u9 T) T.m_qA T.F_qA.kp T.B_qA (aG (aE 3) aN))) (aZ (kR g.own g.calm (jT rfl T.z_range (aG aW aN)) (bW (i:=6) lV) (aZ (cU (i:=7) lV (bS g (MV T) T.m_qz T.F_qz.kp T.B_qz (aG (aE 3) (aG (aE 6) aN)))) (aZ (eI (Bd.t (iY (rL g (JL (aE 7) mV) (IX (aE 4) (aE 6))) (mX (rL g (JL (bS g (MV T) T.m_qz T.F_qz.kp T.B_qz (aG (aE 5) (aG (aE 6) aN))) mV) (IX (aE 4) (aE 6)))))) (aY (bT gF)) eH) (aZ (eI (JM (aE 7) mV) (aY UZ) eH) (aZ (eI (rL g (jV (gL g.calm (fT (N:=["_law_one","_law_order_here","_law_paper"]) (cap:=[none,some 3,some 7]) (os:=(bF uC)) (oN:=zy)) (jT rfl T.z_range (aG (jY (aE 6) aW) aN)) (λ_ _ _=>(bW (i:=0) l8)) (λ_ _ _=>(nF (wK (bS (dF g) (DM T) T.m_qk T.F_qk.kp T.B_qk (aG (aE 1) (aG (aE 0) (aG (aE 2) aN)))) gF))) (λ_ _ _=>(aE 0)))) (iW aN)) (aY (bT gF)) eH) (aY (eI (wK (bS g (DM T) T.m_qk T.F_qk.kp T.B_qk (aG (aE 3) (aG (aE 4) (aG (aE 7) aN)))) gF) (aY (bT gF)) eH))))))) (aZ (cU (i:=8) lV (CC 2)) (aZ (cU (i:=9) lV (bS g (MQ T) T.m_qj T.F_qj.kp T.B_qj (aG (aE 3) aN))) (aZ (kR g.own g.calm (AK rfl T.z_range (aG aW (aG (dC (aE 3) aW) aN))) (bW (i:=10) lV) (aY (eI (lL g (jV (gL g.calm (fT (N:=["_law_one","_law_pairs","_law_thing"]) (cap:=[none,some 9,some 10]) (os:=(bF uC)) (oN:=zy)) (kQ (aE 8)) (λ_ _ _=>(bW (i:=0) l9)) (λ_ _ _=>(nF (rM (dF g) (fX (aG (aE 0) (aG (aE 2) aN))) (aE 1)))) (λ_ _ _=>(aE 0)))) (iW aN)) (aY (jR (vU (aE 8) (aE 10)))) eH))) (aY (eI (Bd.t (sY (W7 (iQ rfl T.z_len (aG (aE 8) aN)) aW) (sX (wK (bS g (DM T) T.m_qk T.F_qk.kp T.B_qk (aG (aE 3) (aG (nJ (iQ rfl T.z_len (aG (aE 8) aN)) aW) (aG (fX (aG oA (aG (vO rfl T.z_tuple (aG (aE 8) aN)) (aG aW aN)))) aN)))) gF)))) (aY (bT gF)) eH))))))))))) (aY (bT gF)))
end
end L2.Mr.K10
namespace L2.Mr
open PySem PySem.Spec PyProof.Rows
section
variable{X:Cx}{G:Cfg}{E:XK}{c P:ah}{lpos:Pos}{k t:Nat}
end
section
variable{G:Cfg}{env:Env}{t0:Nat}{ls:Nat->Option Lm}{μ:Nat->ah}{h:Hs}{H:Hp}
end
section
variable{P:bf}{w:cf}{K:ao}{mg:Str->Option af}{base:cx}{N:zu}{f:ah}{G:Cfg}{k:Nat}{ls:Nat->Option Lm}
end
section
variable{G:Cfg}
end
section
variable{X:Cx}{G:Cfg}{E:XK}{k:Nat}{q x y:Str}{p p2 py pos ps:Pos}{fr:ah}{fdr:bh}{n ncl j t:Nat}{mb:MS}{ls:Nat->Option Lm}{lc:Nat->Option (zt×M Dv)}{sc:gu}{iter:br}{mi:M Src}
end
section
variable{X:Cx}{G:Cfg}{E:XK}{a b:br}{elts:List br}{kk:Nat}{tp p pos:Pos}{ta:TA}{ms:M zw }
end
open PySem.Calls
section
variable{X:Cx}{G:Cfg}{E:XK}{o e i:br}{mo me mi:M Dv}{ml:M zw }{pos apos cpos:Pos}
end
section
variable{X:Cx}{G:Cfg}{E:XK}{c P:ah}{lpos:Pos}{k t:Nat}{ls:Nat->Option Lm}{os:gu}{oN:zu}
variable{q x y:Str}{p p2 py pos ps:Pos}{fr:ah}{fdr:bh}{n ncl j:Nat}{mb:MS}{lc:Nat->Option (zt×M Dv)}{sc:gu}{iter:br}{mi:M Src}
end
end L2.Mr
namespace L2.Mr.Sam
open PySem PySem.Spec PyProof.Rows L2 L2.Mr
open L2.Mr.Com
end L2.Mr.Sam
namespace L2.Mr
open PySem PySem.Spec PyProof.Rows L2
section
variable{X:Cx}{G:Cfg}{E:XK}{a b e o:br}{ma mb me mo:M Dv}{pos p cpos apos:Pos}
end
section
variable{X:Cx}{G:Cfg}{E:XK}{a b c e o:br}{ma mb me mo:M Dv}{mt:M Bool}{pos p2:Pos}
end
section
variable{X:Cx}{G:Cfg}{E:XK}{e o:br}{me mo:M Dv}{cpos apos:Pos}
end
section
variable{X:Cx}{G:Cfg}{E:XK}{e:br}{es:List br}{aQ:M zw }{p pos:Pos}
end
open L2.Mr
section
variable{X:Cx}{G:Cfg}{E:XK}{pos:Pos}
end
section
variable{X:Cx}{G:Cfg}{E:XK}{e:br}{mo me:M Dv}{apos cpos np:Pos}{y:Str}
end
end L2.Mr
namespace L2.Mr.K06
open PySem PySem.Spec PyProof.Rows L2 L2.Mr
open L2.Mr.Com
open L2.Mr.Sam
def mb_qr:MS:=(aX (cG (bI (aD F_q1 (aB (aA 0) aC)))) (rD 0 (aB (mC (.str "this is no order")) aC)) bG)
def F_qr:zv:=aS 1 1 (mb_qr)
def lU:MS:=(aI (aM (m2 aO (aA 0) (mC (.int 1))) (aF 3)) (aL (dH (m2 dN (aA 1) (aA 2)) (dH (m2 (bU true) (aT (aB (aA 1) (aB (aA 2) aC))) (aA 3)) (m2 (bU true) (aT (aB (aA 2) (aB (aA 1) aC))) (aA 3))))))
def F_qu:zv:=aS 3 4 (lU)
def qA:MS:=(aI (cC (aD F_qr (aB (aA 0) aC))) (aI (aM (m2 aO (aA 0) (mC (.int 0))) (aF 1)) (aL (bM (bJ (aQ cH (aB (aA 1) aC)) [none,none,some 0,some 1] (aF 0) bQ (fI (aQ hX (aB (m2 cN (aA 0) (mC (.int 1))) (aB (aA 3) aC))) (aF 1) (bI (aD F_qu (aB (aA 2) (aB (aA 0) (aB (aA 1) aC))))) (bA (aT (aB (aA 0) (aB (aA 1) aC))))))))))
def F_qj:zv:=aS 1 2 (qA)
def qB:MS:=(aI (aM (aA 0) (cM 2 (aU (aF 2) (aU (aF 3) cO)))) (aI (aM (bM (bJ (bC dZ (aA 3)) [none,none,some 1] (cM 2 (aU (aF 0) (aU (aF 1) cO))) (mB (m2 (bU true) (aA 0) (aA 2))) (bA (aA 1)))) (aF 4)) (aL (bM (bJ (aQ cH (aB (aA 2) aC)) [none,some 1,some 4] (aF 0) (dW (mB (m2 (bU true) (aA 0) (aA 1))) (mB (m2 (bU true) (aA 0) (aA 2)))) (bA (aA 0)))))))
def F_q5:zv:=aS 2 5 (qB)
def qC:MS:=(aI (cC (aD F_qr (aB (aA 0) aC))) (aI (aM (cA (aB (aT aC) aC)) (aF 1)) (aI (dR (aQ cH (aB (m2 aO (aA 0) (mC (.int 0))) aC)) (aF 2) (aM (bM (bJ (bC cD (aA 1)) [none,none,some 0] (aF 0) bQ (fI (bC cD (aD F_q5 (aB (aA 2) (aB (aA 0) aC)))) (aF 1) bQ (bA (m2 cN (aA 0) (aT (aB (aA 1) aC))))))) (aF 1))) (aL (aA 1)))))
def F_q0:zv:=aS 1 3 (qC)
def qD:MS:=(aL (aD (f1 oE) (aB (m2 eE (jG (aA 0) (m2 aO (aA 1) (mC (.int 0)))) (jG (aA 0) (m2 aO (aA 1) (mC (.int 1))))) aC)))
def F_qB:zv:=aS 2 2 (qD)
def qE:MS:=(aL (m1 (pZ 0) (bM (bJ (bC cD (aA 1)) [none,some 0] (aF 0) bQ (bA (aD F_qB (aB (aA 1) (aB (aA 0) aC))))))))
def F_qd:zv:=aS 2 2 (qE)
def tZ:MS:=(aI (aM (aD F_qj (aB (aA 0) aC)) (aF 1)) (aL (bM (bJ (bC cD (aD F_q0 (aB (aA 0) aC))) [none,some 1] (aF 0) bQ (bA (aT (aB (aA 0) (aB (aD F_qd (aB (aA 0) (aB (aA 1) aC))) aC))))))))
def F_qb:zv:=aS 1 2 (tZ)
def CG:MS:=(aL (aD (f1 (oV kT)) (aB (bM (bJ (bC cD (aD F_qb (aB (aA 0) aC))) [none,none] (cM 2 (aU (aF 0) (aU (aF 1) cO))) bQ (bA (aA 1)))) aC)))
def F_qq:zv:=aS 1 1 (CG)
end L2.Mr.K06
namespace L2.Mr.K05
open PySem PySem.Spec PyProof.Rows L2 L2.Mr L2.Mr.Com
def mb_qr:MS:=(aX (cG (bI (aD F_q1 (aB (aA 0) aC)))) (rD 0 (aB (mC (.str "this is no order")) aC)) bG)
def F_qr:zv:=aS 1 1 (mb_qr)
def lU:MS:=(aI (aM (m2 aO (aA 0) (mC (.int 1))) (aF 3)) (aL (dH (m2 dN (aA 1) (aA 2)) (dH (m2 (bU true) (aT (aB (aA 1) (aB (aA 2) aC))) (aA 3)) (m2 (bU true) (aT (aB (aA 2) (aB (aA 1) aC))) (aA 3))))))
def F_qu:zv:=aS 3 4 (lU)
def qA:MS:=(aI (cC (aD F_qr (aB (aA 0) aC))) (aI (aM (m2 aO (aA 0) (mC (.int 0))) (aF 1)) (aL (bM (bJ (aQ cH (aB (aA 1) aC)) [none,none,some 0,some 1] (aF 0) bQ (fI (aQ hX (aB (m2 cN (aA 0) (mC (.int 1))) (aB (aA 3) aC))) (aF 1) (bI (aD F_qu (aB (aA 2) (aB (aA 0) (aB (aA 1) aC))))) (bA (aT (aB (aA 0) (aB (aA 1) aC))))))))))
def F_qj:zv:=aS 1 2 (qA)
def qD:MS:=(aL (aD (f1 oE) (aB (m2 eE (jG (aA 0) (m2 aO (aA 1) (mC (.int 0)))) (jG (aA 0) (m2 aO (aA 1) (mC (.int 1))))) aC)))
def F_qB:zv:=aS 2 2 (qD)
def qE:MS:=(aL (m1 (pZ 0) (bM (bJ (bC cD (aA 1)) [none,some 0] (aF 0) bQ (bA (aD F_qB (aB (aA 1) (aB (aA 0) aC))))))))
def F_qd:zv:=aS 2 2 (qE)
end L2.Mr.K05
namespace L2.Mr.K04
open PySem PySem.Spec PyProof.Rows L2 L2.Mr
open L2.Mr.Com
open L2.Mr.Sam
def mb_qr:MS:=L2.Mr.K05.mb_qr
def F_qr:zv:=aS 1 1 (mb_qr)
def qB:MS:=(aI (aM (aA 0) (cM 2 (aU (aF 2) (aU (aF 3) cO)))) (aI (aM (bM (bJ (bC dZ (aA 3)) [none,none,some 1] (cM 2 (aU (aF 0) (aU (aF 1) cO))) (mB (m2 (bU true) (aA 0) (aA 2))) (bA (aA 1)))) (aF 4)) (aL (bM (bJ (aQ cH (aB (aA 2) aC)) [none,some 1,some 4] (aF 0) (dW (mB (m2 (bU true) (aA 0) (aA 1))) (mB (m2 (bU true) (aA 0) (aA 2)))) (bA (aA 0)))))))
def F_q5:zv:=aS 2 5 (qB)
def qC:MS:=(aI (cC (aD F_qr (aB (aA 0) aC))) (aI (aM (cA (aB (aT aC) aC)) (aF 1)) (aI (dR (aQ cH (aB (m2 aO (aA 0) (mC (.int 0))) aC)) (aF 2) (aM (bM (bJ (bC cD (aA 1)) [none,none,some 0] (aF 0) bQ (fI (bC cD (aD F_q5 (aB (aA 2) (aB (aA 0) aC)))) (aF 1) bQ (bA (m2 cN (aA 0) (aT (aB (aA 1) aC))))))) (aF 1))) (aL (aA 1)))))
def F_q0:zv:=aS 1 3 (qC)
end L2.Mr.K04
namespace L2.Mr
open PySem PySem.Spec PyProof.Rows L2
section
variable{H:Hs}{j:Nat}{up up1:zr}{b v:Int}{ρ:Ev}{x:Nat}
end
section
variable{d:Dv}{r:Int}{i j:Nat}{fs:zr}
end
theorem MW:∀xs ys:zr,gB (xs.map Dt.int) (ys.map Dt.int)=decide (xs=ys)
 | [],[]=>by simp[gB]
 | [],y::ys=>by simp[gB]
 |x::xs,[]=>by simp[gB]
 |x::xs,y::ys=>by simp only[df,gB,MW xs ys,bN];rw[dy];simp
theorem z0v {H:Hs}{i j:Nat}{xs ys:zr}(ei:getL H i=some (xs.map Dv.int)) (ej:getL H j=some (ys.map Dv.int)):bE (.ref i) (.ref j) H=.ok (.bl (decide (xs=ys))) H:=by
 have p:∀(i:Nat) (xs:zr),getL H i=some (xs.map Dv.int)->cB cQ H (.ref i)=some (.lst (xs.map Dt.int)):=λi xs e=>by show cB (28+1+1) H (.ref i)=_;rw[cB];simp only[e,tQ]
 unfold bE;rw[p i xs ei,p j ys ej];simp only[bN,MW]
section
variable{d:Dv}{n r:Int}{ps qs:dn}{Fl:zv}
end
theorem rV {α:Type}{src:Src}{sg:dI}{t:M Bool}{m:MC}(xs:List α) (out:α->zw) (S:Ev->Hs->Prop)
  (fin:∀ρ h,S ρ h->src.fin h=true)
  (step:∀k (hk:k<xs.length) ρ h,S ρ h->∃d ρ1,src.get k h=some d/\sg d ρ=some ρ1 /\
   ((∃h2,t ρ1 h=.ok false h2/\out xs[k]=[]/\S ρ1 h2)∨∃h2,t ρ1 h=.ok true h2/\∀acc:zw,acc.length+(out xs[k]).length<=900000->∃ρ3 h3,m ρ1 h2 acc=.ok (ρ3,acc++out xs[k]) h3/\S ρ3 h3)):
  ∀(f k:Nat) (ρ:Ev) (h:Hs) (acc:zw),f+k=xs.length->S ρ h->acc.length+((xs.drop k).flatMap out).length<=900000->∃ρ' h',gK src sg t m f k ρ h acc=.ok (ρ',acc++(xs.drop k).flatMap out) h'/\S ρ' h'
 |0,k,ρ,h,acc,e,s,hl=>by have:xs.drop k=[]:=List.drop_eq_nil_of_le (by omega);exact⟨ρ,h,by simp[gK,fin ρ h s,this],s⟩
 |f+1,k,ρ,h,acc,e,s,hl=>by
  have hk:k<xs.length:=by omega
  obtain⟨d,ρ1,e1,e2,e3⟩:=step k hk ρ h s;rw[xq hk,gg]at hl ⊢;rw[bx]at hl
  rcases e3 with⟨h2,e3,e4,s2⟩|⟨h2,e3,e4⟩
  ·obtain⟨ρ',h',e5,s5⟩:=rV xs out S fin step f (k+1) ρ1 h2 acc (by omega) s2 (by omega);exact⟨ρ',h',by simp[gK,e1,e2,e3,e4,e5],s5⟩
  ·obtain⟨ρ3,h3,e6,s3⟩:=e4 acc (by omega);obtain⟨ρ',h',e5,s5⟩:=rV xs out S fin step f (k+1) ρ3 h3 (acc++out xs[k]) (by omega) s3 (by rw[bx];omega);exact⟨ρ',h',by simp[gK,e1,e2,e3,e6,e5],s5⟩
theorem qG {α:Type}{mi:M Src}{cap:List (Option Nat)}{src:Src}{sg:dI}{t:M Bool}{m:MC}{ρ:Ev}{H H1:Hs}(xs:List α) (out:α->zw) (S:Ev->Hs->Prop)
  (hi:mi ρ H=.ok src H1) (hn:src.n=xs.length) (s0:S (jU cap ρ) H1) (fin:∀ρ h,S ρ h->src.fin h=true)
  (step:∀k (hk:k<xs.length) ρ h,S ρ h->∃d ρ1,src.get k h=some d/\sg d ρ=some ρ1 /\
   ((∃h2,t ρ1 h=.ok false h2/\out xs[k]=[]/\S ρ1 h2)∨∃h2,t ρ1 h=.ok true h2/\∀acc:zw,acc.length+(out xs[k]).length<=900000->∃ρ3 h3,m ρ1 h2 acc=.ok (ρ3,acc++out xs[k]) h3/\S ρ3 h3))
  (hl:(xs.flatMap out).length<=900000):∃ρ' H',bJ mi cap sg t m ρ H=.ok (xs.flatMap out) H'/\S ρ' H':=by
 obtain⟨ρ',h',e,s⟩:=rV xs out S fin step xs.length 0 (jU cap ρ) H1 [] (by omega) s0 (by simpa using hl);refine⟨ρ',h', ?_,s⟩;unfold bJ;rw[hi,Rs.bind_ok,hn,e];simp
theorem rW {e:M Dv}{ρ:Ev}{h h1:Hs}{d:Dv}{acc:zw}(he:e ρ h=.ok d h1) (hl:acc.length+[d].length<=900000):bA e ρ h acc=.ok (ρ,acc++[d]) h1:=by
 have:acc.length<1000000:=by simp at hl;omega
 simp[bA,he,this]
theorem iK {α:Type}{mi:M Src}{cap:List (Option Nat)}{src:Src}{sg:dI}{t:M Bool}{e:M Dv}{ρ:Ev}{H H1:Hs}(xs:List α) (g:α->zx) (S:Ev->Prop)
  (hi:mi ρ H=.ok src H1) (hn:src.n=xs.length) (s0:S (jU cap ρ)) (fin:src.fin H1=true)
  (step:∀k (hk:k<xs.length) ρ,S ρ->∃d ρ1,src.get k H1=some d/\sg d ρ=some ρ1/\S ρ1/\match g xs[k]with
   |none=>t ρ1 H1=.ok false H1
   |some v=>t ρ1 H1=.ok true H1/\e ρ1 H1=.ok v H1)
  (hl:xs.length<=900000):bJ mi cap sg t (bA e) ρ H=.ok (xs.filterMap g) H1:=by
 have fm:∀l:List α,l.flatMap (λx=>(g x).toList)=l.filterMap g:=λl=>by
  induction l with
  |nil=>rfl
  |cons x l ih=>rw[gg,ih,cm];cases g x <;> rfl
 have len:(xs.filterMap g).length<=xs.length:=qk g xs;obtain⟨ρ',H',h,_,rfl⟩:=qG (mi:=mi) (cap:=cap) (src:=src) (sg:=sg) (t:=t) (m:=bA e) (ρ:=ρ) (H:=H) (H1:=H1) xs (λx=>(g x).toList) (λρ h=>S ρ/\h=H1) hi hn ⟨s0,rfl⟩ (λρ h s=>by rw[s.2];exact fin)
  (λk hk ρ h ⟨s,e1⟩=>by
   subst e1;obtain⟨d,ρ1,e1,e2,s1,e3⟩:=step k hk ρ s;refine⟨d,ρ1,e1,e2, ?_⟩
   cases q:g xs[k]with
   |none=>rw[q]at e3;exact .inl ⟨h,e3,rfl,s1,rfl⟩
   |some v=>rw[q]at e3;exact .inr ⟨h,e3.1,λacc hl=>⟨ρ1,h,rW e3.2 hl,s1,rfl⟩⟩) (by rw[fm];omega)
 rw[h,fm]
theorem MX {α β:Type}{mi mj:M Src}{cap:List (Option Nat)}{src:Src}{sg sg2:dI}{t2:M Bool}{e:M Dv}{ρ:Ev}{H H1:Hs}(xs:List α) (ys:α->List β) (g:α->β->zx) (S:Ev->Prop)
  (hi:mi ρ H=.ok src H1) (hn:src.n=xs.length) (s0:S (jU cap ρ)) (fin:src.fin H1=true)
  (step:∀k (hk:k<xs.length) ρ,S ρ->∃(d:Dv) (ρ1:Ev) (src2:Src) (S2:Ev->Prop),src.get k H1=some d/\sg d ρ=some ρ1/\S2 ρ1/\(∀ρ,S2 ρ->S ρ)/\mj ρ1 H1=.ok src2 H1/\src2.n=(ys xs[k]).length/\src2.fin H1=true /\
   ∀j (hj:j<(ys xs[k]).length) ρ,S2 ρ->∃d ρ2,src2.get j H1=some d/\sg2 d ρ=some ρ2/\S2 ρ2/\match g xs[k] (ys xs[k])[j]with
    |none=>t2 ρ2 H1=.ok false H1
    |some v=>t2 ρ2 H1=.ok true H1/\e ρ2 H1=.ok v H1)
  (hl:(xs.flatMap λx=>(ys x).filterMap (g x)).length<=900000):bJ mi cap sg bQ (fI mj sg2 t2 (bA e)) ρ H=.ok (xs.flatMap λx=>(ys x).filterMap (g x)) H1:=by
 have fm:∀(x:α) (l:List β),l.flatMap (λy=>(g x y).toList)=l.filterMap (g x):=λx l=>by
  induction l with
  |nil=>rfl
  |cons y l ih=>rw[gg,ih,cm];cases g x y <;> rfl
 obtain⟨ρ',H',h,_,rfl⟩:=qG (mi:=mi) (cap:=cap) (src:=src) (sg:=sg) (t:=bQ) (m:=fI mj sg2 t2 (bA e)) (ρ:=ρ) (H:=H) (H1:=H1) xs (λx=>(ys x).filterMap (g x)) (λρ h=>S ρ/\h=H1) hi hn ⟨s0,rfl⟩ (λρ h s=>by rw[s.2];exact fin)
  (λk hk ρ h ⟨s,e1⟩=>by
   subst e1;obtain⟨d,ρ1,src2,S2,e1,e2,s1,sS,e3,e4,e5,e6⟩:=step k hk ρ s;refine⟨d,ρ1,e1,e2,.inr ⟨h,rfl,λacc hl=>?_⟩⟩;obtain⟨ρ3,h3,r,s3,rfl⟩:=rV (src:=src2) (sg:=sg2) (t:=t2) (m:=bA e) (ys xs[k]) (λy=>(g xs[k] y).toList) (λρ hh=>S2 ρ/\hh=h) (λρ hh s=>by rw[s.2];exact e5)
    (λj hj ρ hh ⟨s,e1⟩=>by
     subst e1;obtain⟨d,ρ2,z1,z2,z3,z4⟩:=e6 j hj ρ s;refine⟨d,ρ2,z1,z2, ?_⟩
     cases q:g xs[k] (ys xs[k])[j]with
     |none=>rw[q]at z4;exact .inl ⟨hh,z4,rfl,z3,rfl⟩
     |some v=>rw[q]at z4;exact .inr ⟨hh,z4.1,λacc hl=>⟨ρ2,hh,rW z4.2 hl,z3,rfl⟩⟩) (ys xs[k]).length 0 ρ1 h acc (by omega) ⟨s1,rfl⟩ (by rw[pg,fm];exact hl)
   refine⟨ρ3,h3, ?_,sS ρ3 s3,rfl⟩;unfold fI;rw[e3];dsimp only;rw[e4,r,pg,fm]) hl
 exact h
theorem z0w {c:M Bool}{b:MS}{f:Nat}{ρ:Ev}{h h1:Hs}(e:c ρ h=.ok false h1):iI c b (f+1) ρ h=.nx ρ h1:=by show(c ρ h).thenS _=_;rw[e];rfl
theorem MY {c:M Bool}{b:MS}{f:Nat}{ρ ρ2:Ev}{h h1 h2:Hs}(e:c ρ h=.ok true h1) (q:b ρ h1=.nx ρ2 h2):iI c b (f+1) ρ h=iI c b f ρ2 h2:=by show(c ρ h).thenS _=_;rw[e];simp[Rs.thenS,q]
theorem z0x {c:M Bool}{b:MS}{f:Nat}{ρ:Ev}{d:Dv}{h h1 h2:Hs}(e:c ρ h=.ok true h1) (q:b ρ h1=.rt d h2):iI c b (f+1) ρ h=.rt d h2:=by show(c ρ h).thenS _=_;rw[e];simp[Rs.thenS,q]
theorem yG:∀bs:List Bool,bB oI (bs.map Dv.bl)=some bs
 | []=>rfl
 |b::bs=>by rw[df,bB,yG bs];rfl
end L2.Mr
namespace L2.Mr.Com
open PySem PySem.Spec PyProof.Rows L2 L2.Mr
def aJ (n:Nat) (ps:dn):Dv:=.tup [.int n,.tup (ps.map aH)]
theorem MZ {n:Nat}{ps:dn}(H:Hs):aO (aJ n ps) (.int 0) H=.ok (.int n) H:=rfl
theorem z0y {n:Nat}{ps:dn}(H:Hs):aO (aJ n ps) (.int 1) H=.ok (.tup (ps.map aH)) H:=rfl
theorem rX {α:Type}{ml:M zw }{ρ:Ev}{H H1:Hs}{xs:List α}{f:α->Bool}(h:ml ρ H=.ok (xs.filterMap λx=>some (.bl (f x))) H1):mL hY ml ρ H=.ok (.bl (xs.all f)) H1:=by
 have e:(xs.filterMap λx=>some (Dv.bl (f x)))=(xs.map f).map Dv.bl:=by simp
 unfold mL;rw[h,Rs.bind_ok,e];unfold hY;rw[yG];simp[List.all_map]
theorem M0 {α:Type}{ml:M zw }{ρ:Ev}{H H1:Hs}{xs:List α}{f:α->Bool}(h:ml ρ H=.ok (xs.filterMap λx=>some (.bl (f x))) H1):mL pK ml ρ H=.ok (.bl (xs.any f)) H1:=by
 have e:(xs.filterMap λx=>some (Dv.bl (f x)))=(xs.map f).map Dv.bl:=by simp
 unfold mL;rw[h,Rs.bind_ok,e];unfold pK;rw[yG];simp[rh]
section
variable{H:Hs}{n x:Int}{ps:dn}
theorem M3:F_q4 [.int x] H=.ok (.bl true) H:=by simp[F_q4,LR,aS,dD,aL,dH,m1,aA,eX,oH,wG,wH,sZ,bP]
theorem yH {lo hi:Int}:F_qp [.int x,.int lo,.int hi] H=.ok (.bl (decide (lo<=x)&&decide (x<=hi))) H:=by
 by_cases h:lo<=x
 ·simp[F_qp,BW,aS,dD,aL,dH,aD,aB,aA,aC,M3,qW,gM,iZ,h,bP]
 ·simp[F_qp,BW,aS,dD,aL,dH,aD,aB,aA,aC,M3,qW,gM,iZ,h,bP]
def isT (n x:Int):Bool:=decide (0<=x)&&decide (x<=n - 1)
theorem M4:F_q3 [.int n,.int x] H=.ok (.bl (isT n x)) H:=by simp[F_q3,LS,aS,dD,aL,aD,aB,aA,aC,mC,m2,eE,iZ,yH,bP,isT]
theorem M5 {xs:zr}(hl:xs.length<=1000):F_qo [.int n,.tup (xs.map Dv.int)] H=.ok (.bl (xs.all (isT n))) H:=by have h:bJ (bC dZ (aA 1)) [none,some 0] (aF 0) bQ (bA (aD F_q3 (aB (aA 1) (aB (aA 0) aC)))) [some (.int n),some (.tup (xs.map Dv.int))] H=.ok (xs.filterMap λx=>some (.bl (isT n x))) H:=iK xs (λx=>some (.bl (isT n x))) (λρ=>∃a,ρ=[a,some (.int n)]) rfl (by simp[dO]) ⟨_,rfl⟩ rfl (λk hk ρ ⟨a,e⟩=>by subst e;exact⟨.int xs[k],_,by simp[dO,hk],rfl,⟨_,rfl⟩,rfl,by simp[aD,aB,aA,aC,M4]⟩) (by omega);simp[F_qo,LU,aS,dD,aL,dH,m1,eX,aA,oH,gN,rX h,bP]
def lW (n:Int) (p:Int×Int):Bool:=isT n p.1&&isT n p.2
theorem z0z (p:Int×Int):F_q8 [.int n,aH p] H=.ok (.bl (lW n p)) H:=by
 have h:F_qo [.int n,aH p] H=.ok (.bl (lW n p)) H:=by have:=M5 (H:=H) (n:=n) (xs:=[p.1,p.2]) (by simp);simpa[aH,lW]using this
 have hlen:f1 bR [aH p] H=.ok (.int 2) H:=rfl
 cases q:lW n p with
 |false=>simp[F_q8,BY,aS,dD,aL,dH,aD,aB,aA,aC,h,q,bP]
 |true=>simp[F_q8,BY,aS,dD,aL,dH,aD,aB,aA,aC,h,q,bP,m2,hlen,mC,bE,cQ,cB,bN]
theorem z10 (hl:ps.length<=1000):F_qv [.int n,.tup (ps.map aH)] H=.ok (.bl (ps.all (lW n))) H:=by have h:bJ (bC dZ (aA 1)) [none,some 0] (aF 0) bQ (bA (aD F_q8 (aB (aA 1) (aB (aA 0) aC)))) [some (.int n),some (.tup (ps.map aH))] H=.ok (ps.filterMap λp=>some (.bl (lW n p))) H:=iK ps (λp=>some (.bl (lW n p))) (λρ=>∃a,ρ=[a,some (.int n)]) rfl (by simp[dO]) ⟨_,rfl⟩ rfl (λk hk ρ ⟨a,e⟩=>by subst e;exact⟨aH ps[k],_,by simp[dO,hk],rfl,⟨_,rfl⟩,rfl,by simp[aD,aB,aA,aC,z0z]⟩) (by omega);simp[F_qv,LV,aS,dD,aL,rX h,bP]
theorem z11 (hl:ps.length<=1000):F_qw [.tup (ps.map aH)] H=.ok (.bl (ps.any λp=>decide (p.1=p.2))) H:=by have h:bJ (bC dZ (aA 0)) [none,none] (cM 2 (aU (aF 0) (aU (aF 1) cO))) bQ (bA (m2 bE (aA 0) (aA 1))) [some (.tup (ps.map aH))] H=.ok (ps.filterMap λp=>some (.bl (decide (p.1=p.2)))) H:=iK ps (λp=>some (.bl (decide (p.1=p.2)))) (λρ=>∃a b,ρ=[a,b]) rfl (by simp[dO]) ⟨_,_,rfl⟩ rfl (λk hk ρ ⟨a,b,e⟩=>by subst e;refine⟨aH ps[k],[some (.int ps[k].1),some (.int ps[k].2)],by simp[dO,hk],rfl,⟨_,_,rfl⟩,rfl, ?_⟩;simp[m2,aA,bE,cQ,cB,bN];rw[dy];simp) (by omega);simp[F_qw,LW,aS,dD,aL,M0 h,bP]
theorem z12 (p q:Int×Int):gH (aH p) (aH q) H=.ok (.bl (cJ p q)) H:=by simp only[gH,aH,bB,fR,LK];rw[<-rO];rfl
def lX (ps:dn):Bool:=(ps.zip (ps.drop 1)).all λq=>cJ q.1 q.2
theorem Cs:∀{ps:dn},lX ps=true↔fK cJ ps
 | []=>by simp[lX,fK]
 | [p]=>by simp[lX,fK]
 |p::q::r=>by
  have ih:=Cs (ps:=q::r);have e:lX (p::q::r)=(cJ p q&&lX (q::r)):=by simp[lX]
  rw[e,da,ih];constructor
  ·rintro ⟨h1,h2⟩
   refine cu.mpr ⟨λz hz=>?_,h2⟩
   rcases az.mp hz with rfl|hz
   ·exact h1
   ·exact By.tr _ _ _ h1 ((cu.mp h2).1 z hz)
  ·intro h;have:=cu.mp h;exact⟨this.1 q (by simp),this.2⟩
theorem M6 (ds:zw):oK ds (some 1) none=ds.drop 1:=by
 unfold oK;rw[show HT.sIx ds.length 0 (some 1)=min 1 ds.length from HT.sIx_nat ds.length 0 1,HT.sIx_none]
 cases ds with
 |nil=>rfl
 |cons a r=>simp
theorem z13 (hl:ps.length<=1000):F_qx [.tup (ps.map aH)] H=.ok (.bl (lX ps)) H:=by
 have hi:aQ nG (aB (aA 0) (aB (pA (aA 0) (oO (mC (.int 1))) oM) aC)) [some (.tup (ps.map aH))] H=.ok (oJ (ps.map aH) ((ps.drop 1).map aH)) H:=by simp[aQ,aB,aA,pA,oO,mC,A3,oM,tX,aC,nG,M6,qj]
 have hz:((ps.map aH).zip ((ps.drop 1).map aH)).map (λq=>Dv.tup [q.1,q.2])=(ps.zip (ps.drop 1)).map λq=>Dv.tup [aH q.1,aH q.2]:=by rw[List.zip_map,iw];rfl
 have h:bJ (aQ nG (aB (aA 0) (aB (pA (aA 0) (oO (mC (.int 1))) oM) aC))) [none,none] (cM 2 (aU (aF 0) (aU (aF 1) cO))) bQ (bA (m2 gH (aA 0) (aA 1))) [some (.tup (ps.map aH))] H=.ok ((ps.zip (ps.drop 1)).filterMap λq=>some (.bl (cJ q.1 q.2))) H:=
  iK (ps.zip (ps.drop 1)) (λq=>some (.bl (cJ q.1 q.2))) (λρ=>∃a b,ρ=[a,b]) hi (by simp[oJ,dO]) ⟨_,_,rfl⟩ rfl (λk hk ρ ⟨a,b,e⟩=>by
   subst e;refine⟨.tup [aH (ps.zip (ps.drop 1))[k].1,aH (ps.zip (ps.drop 1))[k].2],[some (aH (ps.zip (ps.drop 1))[k].1),some (aH (ps.zip (ps.drop 1))[k].2)], ?_,rfl,⟨_,_,rfl⟩,rfl, ?_⟩
   ·show(((ps.map aH).zip ((ps.drop 1).map aH)).map (λq=>Dv.tup [q.1,q.2]))[k]?=_;rw[hz,dz,ba hk];rfl
   ·simp only[m2,aA];exact z12 _ _) (by rw[wg];omega)
 simp[F_qx,BX,aS,dD,aL,rX h,bP,lX]
def uD (ps:dn):Bool:=ps.all λp=>ps.all λq=>!decide (p.2=q.1)||decide ((p.1,q.2)∈ps)
theorem z14 (hl:ps.length<=900):F_qi [.tup (ps.map aH)] H=.ok (.bl (uD ps)) H:=by
 let g:Int×Int->Int×Int->zx:=λp q=>if p.2=q.1 then some (.bl (decide ((p.1,q.2)∈ps)))else none
 have h:bJ (bC dZ (aA 0)) [none,none,none,none,some 0] (cM 2 (aU (aF 0) (aU (aF 1) cO))) bQ (fI (bC dZ (aA 4)) (cM 2 (aU (aF 2) (aU (aF 3) cO))) (mB (m2 bE (aA 1) (aA 2))) (bA (m2 (bU false) (aT (aB (aA 0) (aB (aA 3) aC))) (aA 4)))) [some (.tup (ps.map aH))] H=.ok (ps.flatMap λp=>ps.filterMap (g p)) H:=
  MX ps (λ_=>ps) g (λρ=>∃a b c d,ρ=[a,b,c,d,some (.tup (ps.map aH))]) rfl (by simp[dO]) ⟨_,_,_,_,rfl⟩ rfl (λk hk ρ ⟨a,b,c,d,e⟩=>by
   subst e;refine⟨aH ps[k],[some (.int ps[k].1),some (.int ps[k].2),c,d,some (.tup (ps.map aH))],dO (ps.map aH),λρ=>∃c d,ρ=[some (.int ps[k].1),some (.int ps[k].2),c,d,some (.tup (ps.map aH))],by simp[dO,hk],rfl,⟨_,_,rfl⟩,λρ ⟨c,d,e⟩=>⟨_,_,_,_,e⟩,rfl,by simp[dO],rfl,λj hj ρ ⟨c,d,e⟩=>?_⟩;subst e;refine⟨aH ps[j],[some (.int ps[k].1),some (.int ps[k].2),some (.int ps[j].1),some (.int ps[j].2),some (.tup (ps.map aH))],by simp[dO,hj],rfl,⟨_,_,rfl⟩, ?_⟩;have te:mB (m2 bE (aA 1) (aA 2)) [some (.int ps[k].1),some (.int ps[k].2),some (.int ps[j].1),some (.int ps[j].2),some (.tup (ps.map aH))] H=.ok (decide (ps[k].2=ps[j].1)) H:=by simp[mB,m2,aA,bE,cQ,cB,bN,gJ];rw[dy];simp
   by_cases c1:ps[k].2=ps[j].1
   ·rw[decide_eq_true c1]at te;have hg:g ps[k] ps[j]=some (.bl (decide ((ps[k].1,ps[j].2)∈ps))):=if_pos c1;rw[hg];refine⟨te, ?_⟩;have hx:aT (aB (aA 0) (aB (aA 3) aC)) [some (.int ps[k].1),some (.int ps[k].2),some (.int ps[j].1),some (.int ps[j].2),some (.tup (ps.map aH))] H=.ok (aH (ps[k].1,ps[j].2)) H:=rfl;unfold m2;rw[hx,Rs.bind_ok];show(Rs.ok (Dv.tup (ps.map aH)) H).bind _=_;rw[Rs.bind_ok,BG];rfl
   ·rw[decide_eq_false c1]at te;have hg:g ps[k] ps[j]=none:=if_neg c1;rw[hg];exact te) (by
   have:∀l:dn,(l.flatMap λp=>ps.filterMap (g p)).length<=l.length*ps.length:=λl=>by
    induction l with
    |nil=>simp
    |cons p l ih=>rw[gg,bx,cp,vh];have:=qk (g p) ps;omega
   have h2:=this ps;have h3:ps.length*ps.length<=900*900:=mz hl hl;omega)
 have hb:(ps.flatMap λp=>ps.filterMap (g p))=(ps.flatMap λp=>ps.filterMap λq=>if p.2=q.1 then some (decide ((p.1,q.2)∈ps))else none).map Dv.bl:=by
  rw[List.map_flatMap]
  congr 1
  funext p
  rw[List.map_filterMap]
  congr 1
  funext q
  show(if p.2=q.1 then some (Dv.bl (decide ((p.1,q.2)∈ps)))else none)=_
  split <;> rfl
 have Cd:mL hY (bJ (bC dZ (aA 0)) [none,none,none,none,some 0] (cM 2 (aU (aF 0) (aU (aF 1) cO))) bQ (fI (bC dZ (aA 4)) (cM 2 (aU (aF 2) (aU (aF 3) cO))) (mB (m2 bE (aA 1) (aA 2))) (bA (m2 (bU false) (aT (aB (aA 0) (aB (aA 3) aC))) (aA 4))))) [some (.tup (ps.map aH))] H=.ok (.bl (uD ps)) H:=by
  unfold mL;rw[h,Rs.bind_ok,hb];unfold hY;rw[yG];dsimp only
  congr 2
  rw[dy];unfold uD;simp only[ff,iq,jl,id];constructor
  ·intro h p hp q hq
   by_cases c:p.2=q.1
   ·have:=h (decide ((p.1,q.2)∈ps)) ⟨p,hp,q,hq,if_pos c⟩;simp[c,this]
   ·simp[c]
  ·rintro h b ⟨p,hp,q,hq,e⟩
   have:=h p hp q hq
   by_cases c:p.2=q.1
   ·rw[if_pos c]at e;cases e;simpa[c]using this
   ·rw[if_neg c]at e;cases e
 simp[F_qi,LX,aS,dD,aL,Cd,bP]
def yI (n:Int) (ps:dn):Bool:=decide (1<=n)&&decide (n<=6)&&ps.all (lW n)&&lX ps&&!(ps.any λp=>decide (p.1=p.2))&&uD ps
theorem z15 {n:Int}(hl:ps.length<=900):F_q1 [.tup [.int n,.tup (ps.map aH)]] H=.ok (.bl (yI n ps)) H:=by
 have b:=yH (H:=H) (x:=n) (lo:=1) (hi:=6);have p1:=z10 (H:=H) (n:=n) (ps:=ps) (by omega);have p2:=z13 (H:=H) (ps:=ps) (by omega);have p3:=z11 (H:=H) (ps:=ps) (by omega);have p4:=z14 (H:=H) (ps:=ps) hl;have hlen:f1 bR [.tup [.int n,.tup (ps.map aH)]] H=.ok (.int 2) H:=rfl;unfold yI;generalize (decide (1<=n)&&decide (n<=6))=c0 at b ⊢;generalize ps.all (lW n)=c1 at p1 ⊢;generalize lX ps=c2 at p2 ⊢;generalize (ps.any λp=>decide (p.1=p.2))=c3 at p3 ⊢;generalize uD ps=c4 at p4 ⊢
 cases c0 <;> cases c1 <;> cases c2 <;> cases c3 <;> cases c4 <;>
  simp[F_q1,LY,aS,dD,aI,aX,dE,cG,bI,m1,eX,aA,oH,gN,lF,mB,m2,aD,aB,aC,hlen,mC,dN,cQ,cB,bN,gJ,bG,aM,cM,aU,aF,cO,b,p1,p2,p3,p4,aL,dH,sZ,bP]
end
structure Ah (n:Nat) (ps:dn):Prop where
 n1:1<=n
 n6:n<=6
 rng:∀p∈ps,0<=p.1/\p.1<n/\0<=p.2/\p.2<n
 rise:fK cJ ps
 irr:∀p∈ps,p.1≠p.2
 tr:∀p∈ps,∀q∈ps,p.2=q.1->(p.1,q.2)∈ps
section
variable{n:Nat}{ps:dn}{H:Hs}
def DN (n:Nat):dn:=(bj n).flatMap λa:Nat=>(bj n).map λb:Nat=>((a:Int),(b:Int))
theorem z16 (n:Nat):(DN n).length=n*n:=by
 unfold DN;have:∀l:zt,(l.flatMap λa:Nat=>(bj n).map λb:Nat=>((a:Int),(b:Int))).length=l.length*n:=λl=>by
  induction l with
  |nil=>simp
  |cons a l ih=>rw[gg,bx,ih,cp,vh];simp;omega
 rw[this];simp
theorem z17 {p:Int×Int}(h:0<=p.1/\p.1<n/\0<=p.2/\p.2<n):p∈DN n:=by obtain⟨a,b⟩:=p;simp only at h;refine iq.mpr ⟨a.toNat,bu.mpr (by omega),cb.mpr ⟨b.toNat,bu.mpr (by omega), ?_⟩⟩;simp;omega
theorem uE (hr:fK cJ ps) (hp:∀p∈ps,0<=p.1/\p.1<n/\0<=p.2/\p.2<n):ps.length<=n*n:=by rw[<-z16 n];exact(pT By hr).length_le_of_subset λp h=>z17 (hp p h)
theorem Ah.len (o:Ah n ps):ps.length<=36:=by have h1:=uE o.rise o.rng;have h2:n*n<=6*6:=mz o.n6 o.n6;omega
theorem Ah.b (o:Ah n ps):yI n ps=true:=by
 have h1:=o.n1;have h6:=o.n6;unfold yI;simp only[da,decide_eq_true_eq,mr];refine⟨⟨⟨⟨⟨by omega,by omega⟩, ?_⟩,Cs.mpr o.rise⟩, ?_⟩, ?_⟩
 ·refine ff.mpr λp hp=>?_;have:=o.rng p hp;simp[lW,isT];omega
 ·refine List.any_eq_false.mpr λp hp=>?_;simpa using o.irr p hp
 ·refine ff.mpr λp hp=>ff.mpr λq hq=>?_
  by_cases c:p.2=q.1
  ·simp[c,o.tr p hp q hq c]
  ·simp[c]
theorem z18 (o:Ah n ps):F_q1 [aJ n ps] H=.ok (.bl true) H:=by have:=z15 (H:=H) (n:=(n:Int)) (ps:=ps) (by have:=o.len;omega);rw[o.b]at this;exact this
end
theorem z19 (H:Hs) (n:Nat) (a:Int) (b:Bool) (m:Int) (h0:0<m) (h1:m<18446744073709551616) (e:getL H n=some [.int a,.bl b]):
  ∃r a',0<=r/\r<m/\F_qt [.ref n,.int m] H=.ok (.int r) (H.set n (.lst [.int a',.bl b])):=by
 cases b with
 |true=>refine⟨a % m,a / m,Int.emod_nonneg _ (by omega),Int.emod_lt_of_pos _ h0, ?_⟩;simp[F_qt,BZ,aS,dD,aI,aX,bI,m2,aA,mC,aO,gC,gW,e,jQ,gU,gA,lF,aM,lK,kM,qZ,h0,aF,tG,tN,tM,h1,vW,aL,bP]
 |false=>
  have q1:∀ys,getL (H.set n (.lst ys)) n=some ys:=λys=>nK e;generalize hs:(a*48271+29) % 2147483647=s;have s0:0<=s:=by omega
  have s1:s<2147483647:=by omega
  generalize ht:(s*s+39373*s+7) % 2147483629=t;have t0:0<=t:=by omega
  have t1:t<2147483629:=by omega
  generalize hu:(t*t+16807*t) % 2147483587=u;refine⟨u / 8 % m,s,Int.emod_nonneg _ (by omega),Int.emod_lt_of_pos _ h0, ?_⟩;have w1:kN s=true:=by simp[kN];omega
  have w2:kN t=true:=by simp[kN];omega
  have w3:kN 48271=true:=by decide
  have w4:kN 39373=true:=by decide
  have w5:kN 16807=true:=by decide
  simp[F_qt,BZ,aS,dD,aI,aX,bI,m2,aA,mC,aO,gC,gW,e,jQ,gU,gA,lF,aM,lK,kM,qZ,h0,aF,tG,tN,tM,h1,vW,aL,bP,bG,cN,nA,lJ,qY,w1,w2,w3,w4,w5,q1,hs,ht,hu]
def St (n:Nat) (H:Hs):Prop:=∃a b,getL H n=some [.int a,.bl b]
theorem St.fr {n:Nat}{S:zt}{H H':Hs}(s:St n H) (f:Fr S H H') (h:n∉S):St n H':=let ⟨a,b,e⟩:=s;⟨a,b,f.getL e h⟩
theorem qH {H:Hs}{n:Nat}(m:Int) (s:St n H) (h0:0<m:=by decide) (h1:m<18446744073709551616:=by decide):
  ∃r H',0<=r/\r<m/\F_qt [.ref n,.int m] H=.ok (.int r) H'/\Fr [n] H H'/\St n H':=by
 obtain⟨a,b,e⟩:=s;obtain⟨r,a',r0,r1,ht⟩:=z19 H n a b m h0 h1 e;exact⟨r,_,r0,r1,ht,Fr.set,a',b,nK e⟩
theorem z1a (scr:zr) (k:Nat) (h:Hs):∃H',F_qm scr [.scr,.int k] h=.ok (.ref h.length) H'/\Fr [] h H'/\St h.length H':=by
 have cell:∃c,F_qe scr [.scr,.int k] h=.ok (.int c) h:=by
  by_cases hk:k<scr.length
  ·refine⟨scr[k], ?_⟩;have hk':(k:Int)<scr.length:=by omega
   simp[F_qe,xC,aS,dD,aI,aX,mB,m2,aA,mC,gH,aD,f1,hW,fP,aB,aC,gJ,hk',hk,gW,jQ,gU,gA,aL,bP]
  ·refine⟨0, ?_⟩;have hk':¬ (k:Int)<scr.length:=by omega
   simp[F_qe,xC,aS,dD,aI,aX,mB,m2,aA,mC,gH,aD,f1,hW,fP,aB,aC,gJ,hk',hk,gW,jQ,gU,gA,aL,bP,bG]
 obtain⟨c,hc⟩:=cell;have fin:∀a b,Fr [] h (h++[Ob.lst [.int a,.bl b]])/\St h.length (h++[Ob.lst [.int a,.bl b]]):=λa b=>⟨Fr.app,a,b,by rw[XO];rfl⟩
 by_cases hg:c>=1000000000000000000
 ·refine⟨_, ?_,fin (c - 1000000000000000000) true⟩;simp[F_qm,xD,aS,dD,aI,aM,aD,aB,aA,aC,hc,aF,aX,mB,m2,pP,iZ,tJ,kM,tB,mC,gJ,hg,aL,cA,eE,lim,bP]
 ·refine⟨_, ?_,fin (c % 2147483647) false⟩;simp[F_qm,xD,aS,dD,aI,aM,aD,aB,aA,aC,hc,aF,aX,mB,m2,pP,iZ,tJ,kM,tB,mC,gJ,hg,aL,cA,eE,lim,bP,bG,lK,qZ]
theorem St.lt {st:Nat}{H:Hs}(s:St st H):st<H.length:=let ⟨_,_,e⟩:=s;pS e
theorem ne_nil {H:Hs}{q:Nat}{ks:zr}(e:getL H q=some (ks.map Dv.int)):dN (.ref q) (.ref H.length) (H++[.lst []])=.ok (.bl (!ks.isEmpty)) (H++[.lst []]):=by
 have p1:cB cQ (H++[.lst []]) (.ref q)=some (.lst (ks.map Dt.int)):=by show cB (28+1+1) (H++[.lst []]) (.ref q)=_;rw[cB];simp only[lM (l:=[.lst []]) e,tQ]
 have p2:cB cQ (H++[.lst []]) (.ref H.length)=some (.lst []):=by
  show cB (28+1+1) (H++[.lst []]) (.ref H.length)=_;rw[cB];have:getL (H++[.lst []]) H.length=some []:=by simp[getL]
  simp only[this];rfl
 unfold dN;rw[p1,p2]
 cases ks <;> simp[bN,gB]
def yJ:M Bool:=mB (m2 dN (aA 2) (cA aC))
def yK:MS:=cC (iN (aA 3) (tI (aA 2) (aD F_qt (aB (aA 0) (aB (aD (f1 bR) (aB (aA 2) aC)) aC)))))
theorem z1b:CA=aI (aM (aD (f1 kS) (aB (aA 1) aC)) (aF 2)) (aI (aM (cA aC) (aF 3)) (aI (iI yJ yK 40) (aL (aA 3)))):=rfl
section
variable{st a b:Nat}{d:Dv}
theorem M7 (Cq:a≠b) (has:a≠st) (hbs:b≠st):∀(f:Nat) (ls fs:zr) (H:Hs),ls.length<f->ls.length+fs.length<=100->getL H a=some (ls.map Dv.int)->getL H b=some (fs.map Dv.int)->St st H->
  ∃(H':Hs) (ys:zr),iI yJ yK f [some (.ref st),some d,some (.ref a),some (.ref b)] H=.nx [some (.ref st),some d,some (.ref a),some (.ref b)] H'/\getL H' b=some (ys.map Dv.int)/\ys.Perm (fs++ls)/\St st H'/\Fr [st,a,b] H H'
 |0,ls,fs,H,h,_,_,_,_=>by omega
 |f+1,ls,fs,H,h,hl,ea,eb,s=>by
  have tc:yJ [some (.ref st),some d,some (.ref a),some (.ref b)] H=.ok (!ls.isEmpty) (H++[.lst []]):=by simp[yJ,mB,m2,aA,cA,aC,lim,ne_nil ea,gJ]
  have ea1:=lM (l:=[Ob.lst []]) ea;have eb1:=lM (l:=[Ob.lst []]) eb;have g1:Fr [st,a,b] H (H++[Ob.lst []]):=Fr.app;have s1:=s.fr (Fr.app (S:=[]) (l:=[Ob.lst []])) (by simp);generalize H++[Ob.lst []]=H1 at tc ea1 eb1 g1 s1
  cases hls:ls with
  |nil=>subst hls;refine⟨H1,fs, ?_,eb1,by simp,s1,g1⟩;exact z0w tc
  |cons x r=>
   have hne:ls.isEmpty=false:=by rw[hls];rfl
   have hpos:(0:Int)<ls.length:=by rw[hls];simp
   obtain⟨k,H2,k0,k1,ht,f2,s2⟩:=qH (ls.length:Int) s1 hpos (by omega);have ea2:=f2.getL ea1 (by simpa using has);have eb2:=f2.getL eb1 (by simpa using hbs);have hk:k.toNat<ls.length:=by omega
   have ixk:gA (ls.map Dv.int).length k=some k.toNat:=by unfold gA;rw[if_pos k0,aw,if_pos k1]
   have getk:(ls.map Dv.int)[k.toNat]?=some (.int ls[k.toNat]):=by simp[hk]
   have hlen:f1 bR [.ref a] H1=.ok (.int ls.length) H1:=by show(if gC (.ref a)=true then hW [] (.ref a) H1 else .bad)=_;simp[gC,hW,fP,ea1]
   have hz:(ls.map Dv.int).length<=1000000:=by rw[aw];omega
   have pop:wD (.ref a) (.int k) H2=.ok (.int ls[k.toNat]) (H2.set a (.lst ((ls.eraseIdx k.toNat).map Dv.int))):=by
    simp only[wD,ea2,ixk,getk,hz,if_true];have em:(ls.map Dv.int).eraseIdx k.toNat=(ls.eraseIdx k.toNat).map Dv.int:=by rw[vj,vj,ic,xx,qj]
    rw[em]
   have eb3:getL (H2.set a (.lst ((ls.eraseIdx k.toNat).map Dv.int))) b=some (fs.map Dv.int):=by rw[rN Cq];exact eb2
   have ea3:getL (H2.set a (.lst ((ls.eraseIdx k.toNat).map Dv.int))) a=some ((ls.eraseIdx k.toNat).map Dv.int):=nK ea2;have f3:Fr [st,a,b] H2 (H2.set a (.lst ((ls.eraseIdx k.toNat).map Dv.int))):=Fr.set.mono (by simp);have s3:St st (H2.set a (.lst ((ls.eraseIdx k.toNat).map Dv.int))):=s2.fr Fr.set (by simpa using cy has);generalize hH3:H2.set a (.lst ((ls.eraseIdx k.toNat).map Dv.int))=H3 at pop eb3 ea3 f3 s3;have hfl:(fs.map Dv.int).length<1000000:=by rw[aw];omega
   have body:yK [some (.ref st),some d,some (.ref a),some (.ref b)] H1=.nx [some (.ref st),some d,some (.ref a),some (.ref b)] (H3.set b (.lst ((fs++[ls[k.toNat]]).map Dv.int))):=by
    have isA:jD (.ref a) H1=true:=by simp[jD,ea1]
    have isB:jD (.ref b) H1=true:=by simp[jD,eb1]
    have hpop:tI (aA 2) (aD F_qt (aB (aA 0) (aB (aD (f1 bR) (aB (aA 2) aC)) aC))) [some (.ref st),some d,some (.ref a),some (.ref b)] H1=.ok (.int ls[k.toNat]) H3:=by simp[tI,aA,isA,aD,aB,aC,hlen,ht,pop]
    have happ:pM (.ref b) (.int ls[k.toNat]) H3=.ok .non (H3.set b (.lst ((fs++[ls[k.toNat]]).map Dv.int))):=by simp only[pM,eb3,hfl,if_true,ic];rfl
    simp[yK,cC,iN,aA,isB,hpop,happ]
   have Cy:(ls.eraseIdx k.toNat).length=ls.length - 1:=xf hk;obtain⟨H',ys,w,e',pm,s',f'⟩:=M7 Cq has hbs f (ls.eraseIdx k.toNat) (fs++[ls[k.toNat]]) (H3.set b (.lst ((fs++[ls[k.toNat]]).map Dv.int))) (by omega) (by rw[bx];simp;omega) (by rw[rN (cy Cq)];exact ea3) (nK eb3) (s3.fr Fr.set (by simpa using cy hbs));refine⟨H',ys, ?_,e', ?_,s', ?_⟩
   ·rw[hne]at tc;rw[MY tc body];exact w
   ·rw[<-hls];refine pm.trans ?_;rw[uq];refine xg fs ?_;have:=SR.erase_perm ls k.toNat hk;simpa using this
   ·exact(((g1.trans f2 (by simp)).trans f3 (by simp)).trans (T:=[b]) Fr.set (by simp)).trans f' (by simp)
theorem z1c {H:Hs}{j:Nat}{xs:zr}(s:St st H) (e:getL H j=some (xs.map Dv.int)) (hl:xs.length<=20):∃(i:Nat) (ys:zr) (H':Hs),F_qc [.ref st,.ref j] H=.ok (.ref i) H'/\getL H' i=some (ys.map Dv.int)/\ys.Perm xs/\H.length<=i/\St st H'/\Fr [st] H H':=by
 have lt:=s.lt;have w0:aM (aD (f1 kS) (aB (aA 1) aC)) (aF 2) [some (.ref st),some (.ref j),none,none] H=.nx [some (.ref st),some (.ref j),some (.ref H.length),none] (H++[.lst (xs.map Dv.int)]):=by simp[aM,aD,f1,kS,gC,rC,fP,aB,aA,aC,e,aF]
 have w1:aM (cA aC) (aF 3) [some (.ref st),some (.ref j),some (.ref H.length),none] (H++[.lst (xs.map Dv.int)])=.nx [some (.ref st),some (.ref j),some (.ref H.length),some (.ref (H.length+1))] (H++[.lst (xs.map Dv.int)]++[.lst []]):=by simp[aM,cA,aC,lim,aF]
 have ea:getL (H++[.lst (xs.map Dv.int)]++[.lst []]) H.length=some (xs.map Dv.int):=lM (by simp[getL]);have eb:getL (H++[.lst (xs.map Dv.int)]++[.lst []]) (H.length+1)=some (([]:zr).map Dv.int):=by simp[getL]
 have f0:Fr [st] H (H++[.lst (xs.map Dv.int)]++[.lst []]):=Fr.trans (T:=[]) Fr.app Fr.app (by simp);have s0:St st (H++[.lst (xs.map Dv.int)]++[.lst []]):=(s.fr (Fr.app (S:=[]) (l:=[.lst (xs.map Dv.int)])) (by simp)).fr (Fr.app (S:=[])) (by simp);obtain⟨H',ys,w2,e2,pm,s2,f2⟩:=M7 (st:=st) (a:=H.length) (b:=H.length+1) (d:=.ref j) (by omega) (by omega) (by omega) 40 xs [] _ (by omega) (by simp;omega) ea eb s0;refine⟨H.length+1,ys,H', ?_,e2,by simpa using pm,by omega,s2,f0.trans f2 (by simp)⟩;show bP (CA [some (.ref st),some (.ref j),none,none] H)=_;rw[z1b,bH w0,bH w1,bH w2];rfl
end
def eQ (ps:dn) (p:Int×Int):dn:=(ps.filter λq=>decide (p.2=q.1)).map λq=>(p.1,q.2)
def eJ (ps:dn):dn:=eF cJ (ps++ps.flatMap (eQ ps))
def uF:Nat->dn->Option dn 
 |0,_=>none
 |f+1,ps=>if eJ ps=ps then some ps else uF f (eJ ps)
def nQ (n:Nat) (ps:dn):Prop:=∀p∈ps,0<=p.1/\p.1<n/\0<=p.2/\p.2<n
def Tr (ps:dn):Prop:=∀p∈ps,∀q∈ps,p.2=q.1->(p.1,q.2)∈ps
theorem z1d {ps:dn}{p r:Int×Int}:r∈eQ ps p↔∃q∈ps,p.2=q.1/\r=(p.1,q.2):=by
 simp only[eQ,cb,gd,decide_eq_true_eq];constructor
 ·rintro ⟨q,⟨h1,h2⟩,h3⟩;exact⟨q,h1,h2,h3.symm⟩
 ·rintro ⟨q,h1,h2,h3⟩;exact⟨q,⟨h1,h2⟩,h3.symm⟩
theorem step_mem {ps:dn}{r:Int×Int}:r∈eJ ps↔r∈ps∨∃p∈ps,∃q∈ps,p.2=q.1/\r=(p.1,q.2):=by unfold eJ;rw[lO By,cq,iq];simp only[z1d]
theorem DO {n:Nat}{ps:dn}(h:nQ n ps):nQ n (eJ ps):=λr hr=>by
 rcases step_mem.mp hr with hr|⟨p,hp,q,hq,_,rfl⟩
 ·exact h r hr
 ·exact⟨(h p hp).1,(h p hp).2.1,(h q hq).2.2.1,(h q hq).2.2.2⟩
theorem uG (ps:dn):fK cJ (eJ ps):=oY By _
theorem z1e {ps:dn}(hr:fK cJ ps):eJ ps=ps↔Tr ps:=by
 constructor
 ·intro h p hp q hq e;rw[<-h];exact step_mem.mpr (.inr ⟨p,hp,q,hq,e,rfl⟩)
 ·intro h;refine BN By (uG ps) hr λr=>?_;rw[step_mem];constructor
  ·rintro (hr|⟨p,hp,q,hq,e,rfl⟩)
   ·exact hr
   ·exact h p hp q hq e
  ·exact λh=>.inl h
theorem z1f {ps:dn}(hr:fK cJ ps) (hne:eJ ps≠ps):ps.length<(eJ ps).length:=by
 have nd:=pT By hr;have sub:∀r∈ps,r∈eJ ps:=λr h=>step_mem.mpr (.inl h);have h1:=nd.length_le_of_subset sub
 rcases ja ps.length (eJ ps).length with h|h
 ·exact h
 ·exfalso
  apply hne
  have sub2:∀r∈eJ ps,r∈ps:=λr hr'=>by
   by_cases hm:r∈ps
   ·exact hm
   ·exfalso
    have nd2:(r::ps).Nodup:=ib.mpr ⟨hm,nd⟩;have:=nd2.length_le_of_subset (l₂:=eJ ps) λx hx=>by
     rcases az.mp hx with rfl|hx
     ·exact hr'
     ·exact sub x hx
    simp at this;omega
  exact BN By (uG ps) hr λr=>⟨sub2 r,sub r⟩
theorem M8 {n:Nat}(hn:n<=6):∀(f:Nat) (ps:dn),fK cJ ps->nQ n ps->36<f+ps.length->∃cs,uF f ps=some cs/\fK cJ cs/\nQ n cs/\Tr cs/\(∀p∈ps,p∈cs)/\∀R:Int->Int->Prop,(∀a b c,R a b->R b c->R a c)->(∀p∈ps,R p.1 p.2)->∀p∈cs,R p.1 p.2
 |0,ps,hr,hi,h=>by have h1:=uE hr hi;have h2:n*n<=6*6:=mz hn hn;omega
 |f+1,ps,hr,hi,h=>by
  unfold uF
  split
  ·rename_i e;exact⟨ps,rfl,hr,hi,(z1e hr).mp e,λp hp=>hp,λR _ h=>h⟩
  ·rename_i e;have:=z1f hr e;obtain⟨cs,h1,h2,h3,h4,h5,h6⟩:=M8 hn f (eJ ps) (uG ps) (DO hi) (by omega);refine⟨cs,h1,h2,h3,h4,λp hp=>h5 p (step_mem.mpr (.inl hp)),λR ht hR=>h6 R ht λr hr'=>?_⟩
   rcases step_mem.mp hr' with hr'|⟨p,hp,q,hq,e,rfl⟩
   ·exact hR r hr'
   ·refine ht _ p.2 _ (hR p hp) ?_;rw[e];exact hR q hq
theorem M9 {α:Type}{f:α->Dv}{H:Hs}{i k:Nat}{xs:List α}(e:getL H i=some (xs.map f)) (hk:k<xs.length):(bZ i xs.length).get k H=some (f xs[k]):=by simp[bZ,e,hk]
theorem NA {α:Type}{f:α->Dv}{H:Hs}{i:Nat}{xs:List α}(e:getL H i=some (xs.map f)):(bZ i xs.length).fin H=true:=by simp[bZ,e]
theorem NB:∀ps:dn,bB lQ (ps.map aH)=some (ps.map gG)
 | []=>rfl
 |p::ps=>by rw[df,bB,NB ps];rfl
theorem z1g (ps:dn):pW (ps.map gG)=true:=by simp[pW,gG]
theorem z1h (ps:dn):(ps.map gG).map pV=ps.map aH:=by rw[iw];rfl
section
variable{H:Hs}{ps:dn}{d:Dv}
theorem NC (h:pX d H=some (ps.map gG)) (hl:(eF cJ ps).length<64):lS d H=.ok (.ref H.length) (H++[.lst ((eF cJ ps).map aH)]):=by unfold lS;rw[h];dsimp only;rw[J2 rO,aw,if_pos (by rw[z1g];simpa using hl),z1h]
theorem z1i {i j:Nat}{ps qs:dn}(ei:getL H i=some (ps.map aH)) (ej:getL H j=some (qs.map aH)):bE (.ref i) (.ref j) H=.ok (.bl (decide (ps=qs))) H:=by
 have p:∀(i:Nat) (ps:dn),getL H i=some (ps.map aH)->cB cQ H (.ref i)=some (.lst (ps.map hZ)):=λi ps e=>by show cB (27+2+1) H (.ref i)=_;rw[cB];simp only[e,wL]
 have dq:∀ps qs:dn,gB (ps.map hZ) (qs.map hZ)=decide (ps=qs):=λps=>by
  induction ps with
  |nil=>intro qs;cases qs <;> simp[gB]
  |cons p ps ih=>
   intro qs
   cases qs with
   |nil=>simp[gB]
   |cons q qs=>simp only[df,gB,BF,ih];rw[dy];simp
 unfold bE;rw[p i ps ei,p j qs ej];simp only[bN,dq]
def rY:M zw :=bJ (bC cD (aA 1)) [none,none,some 3,some 4] (cM 2 (aU (aF 0) (aU (aF 1) cO))) (mB (m2 bE (aA 3) (aA 0))) (bA (aT (aB (aA 2) (aB (aA 1) aC))))
def rZ:MS:=aI (aM (aD (f1 kS) (aB (aA 1) aC)) (aF 2)) (aI (dR (bC cD (aA 1)) (cM 2 (aU (aF 3) (aU (aF 4) cO))) (cC (pN (aA 2) rY))) (aI (aM (aD (f1 lS) (aB (aA 2) aC)) (aF 2)) (aI (aX (mB (m2 bE (aA 2) (aA 1))) (aL (aA 1)) bG) (aM (aA 2) (aF 1)))))
theorem z1j:iR=aI (aM (aD (f1 lS) (aB (aA 0) aC)) (aF 1)) (iI (bI (mC (.bl true))) rZ 40):=rfl
theorem z1k {x0 x2:zx}{i:Nat}{p:Int×Int}(hl:ps.length<=1000) (e:getL H i=some (ps.map aH)):rY [x0,some (.ref i),x2,some (.int p.1),some (.int p.2)] H=.ok ((eQ ps p).map aH) H:=by
 have hi:bC cD (aA 1) [x0,some (.ref i),x2,some (.int p.1),some (.int p.2)] H=.ok (bZ i ps.length) H:=by simp[bC,aA,cD,e]
 have h:rY [x0,some (.ref i),x2,some (.int p.1),some (.int p.2)] H=.ok (ps.filterMap λq=>if p.2=q.1 then some (aH (p.1,q.2))else none) H:=
  iK ps (λq=>if p.2=q.1 then some (aH (p.1,q.2))else none) (λρ=>∃a b,ρ=[a,b,some (.int p.1),some (.int p.2)]) hi rfl ⟨_,_,rfl⟩ (by simp[bZ,e]) (λk hk ρ ⟨a,b,er⟩=>by
   subst er;refine⟨aH ps[k],[some (.int ps[k].1),some (.int ps[k].2),some (.int p.1),some (.int p.2)],by simp[bZ,e,hk],rfl,⟨_,_,rfl⟩, ?_⟩;have te:mB (m2 bE (aA 3) (aA 0)) [some (.int ps[k].1),some (.int ps[k].2),some (.int p.1),some (.int p.2)] H=.ok (decide (p.2=ps[k].1)) H:=by simp[mB,m2,aA,bE,cQ,cB,bN,gJ];rw[dy];simp
   by_cases c:p.2=ps[k].1
   ·rw[if_pos c];rw[decide_eq_true c]at te;exact⟨te,rfl⟩
   ·rw[if_neg c];rw[decide_eq_false c]at te;exact te) (by omega)
 rw[h]
 congr 1
 unfold eQ;rw[iw];have:∀l:dn,l.filterMap (λq=>if p.2=q.1 then some (aH (p.1,q.2))else none)=(l.filter λq=>decide (p.2=q.1)).map (aH∘λq=>(p.1,q.2)):=λl=>by
  induction l with
  |nil=>rfl
  |cons q l ih=>
   rw[cm,jv,ih]
   by_cases c:p.2=q.1 <;> simp[c]
 exact this ps
theorem ND (ps:dn) (p:Int×Int):(eQ ps p).length<=ps.length:=by unfold eQ;rw[aw];exact kj _ _
theorem NF (ps:dn):∀l:dn,(l.flatMap (eQ ps)).length<=l.length*ps.length
 | []=>by simp
 |p::l=>by have h1:=ND ps p;have h2:=NF ps l;rw[gg,bx,cp,vh];omega
theorem z1l {x0 x3 x4:zx}{i j:Nat}(Bx:i≠j) (hl:ps.length<=40) (ei:getL H i=some (ps.map aH)) (ej:getL H j=some (ps.map aH)):
  ∃y3 y4,dR (bC cD (aA 1)) (cM 2 (aU (aF 3) (aU (aF 4) cO))) (cC (pN (aA 2) rY)) [x0,some (.ref i),some (.ref j),x3,x4] H=.nx [x0,some (.ref i),some (.ref j),y3,y4] (H.set j (.lst ((ps++ps.flatMap (eQ ps)).map aH))):=by
 have hi:bC cD (aA 1) [x0,some (.ref i),some (.ref j),x3,x4] H=.ok (bZ i ps.length) H:=by simp[bC,aA,cD,ei]
 have self:H.set j (.lst (ps.map aH))=H:=by
  apply uu
  intro k
  by_cases hk:j=k
  ·subst hk;rw[gv (pS ej),dG ej]
  ·rw[gr hk]
 obtain⟨ρ',H',h1,y3,y4,h2,h3⟩:=tP (b:=cC (pN (aA 2) rY)) (sg:=cM 2 (aU (aF 3) (aU (aF 4) cO))) hi (λk ρ H'=>∃(y3 y4:zx),ρ=[x0,some (.ref i),some (.ref j),y3,y4]/\H'=H.set j (.lst ((ps++(ps.take k).flatMap (eQ ps)).map aH)))
  (λk ρ H' hk ⟨y3,y4,e1,e2⟩=>by
   subst e1;subst e2;have hk':k<ps.length:=hk;have ei':getL (H.set j (.lst ((ps++(ps.take k).flatMap (eQ ps)).map aH))) i=some (ps.map aH):=by rw[rN (cy Bx)];exact ei
   have ej':getL (H.set j (.lst ((ps++(ps.take k).flatMap (eQ ps)).map aH))) j=some ((ps++(ps.take k).flatMap (eQ ps)).map aH):=nK ej;have hlen:(ps++(ps.take k).flatMap (eQ ps)).length<=40+40*40:=by have h1:=NF ps (ps.take k);have h2:(ps.take k).length*ps.length<=40*40:=mz (by rw[ji];omega) hl;rw[bx];omega
   have hf:=ND ps ps[k];refine⟨aH ps[k],[x0,some (.ref i),some (.ref j),some (.int ps[k].1),some (.int ps[k].2)],[x0,some (.ref i),some (.ref j),some (.int ps[k].1),some (.int ps[k].2)],_,M9 ei' hk',rfl, ?_,_,_,rfl,rfl⟩;have hc:=z1k (x0:=x0) (x2:=some (.ref j)) (p:=ps[k]) (by omega) ei';generalize hG:H.set j (.lst ((ps++(ps.take k).flatMap (eQ ps)).map aH))=G at ei' ej' hc;have isJ:jD (.ref j) G=true:=by simp[jD,ej']
   have hz:((ps++(ps.take k).flatMap (eQ ps)).map aH).length+((eQ ps ps[k]).map aH).length<=1000000:=by rw[aw,aw];omega
   have hx:vV (.ref j) ((eQ ps ps[k]).map aH) G=.ok .non (G.set j (.lst ((ps++(ps.take (k+1)).flatMap (eQ ps)).map aH))):=by unfold vV;simp only[ej',lim,hz,if_true];rw[uv hk',zq,<-ic];simp[uq]
   have:pN (aA 2) rY [x0,some (.ref i),some (.ref j),some (.int ps[k].1),some (.int ps[k].2)] G=.ok .non (G.set j (.lst ((ps++(ps.take (k+1)).flatMap (eQ ps)).map aH))):=by unfold pN;show(Rs.ok (Dv.ref j) G).bind _=_;rw[Rs.bind_ok,if_pos isJ,hc,Rs.bind_ok,hx]
   unfold cC;rw[this,<-hG,List.set_set];rfl)
  (λρ H' ⟨_,_,_,e2⟩=>by
   subst e2;have ei':getL (H.set j (.lst ((ps++(ps.take (bZ i ps.length).n).flatMap (eQ ps)).map aH))) i=some (ps.map aH):=by rw[rN (cy Bx)];exact ei
   exact NA ei') ⟨x3,x4,rfl,by simp[self]⟩
 refine⟨y3,y4, ?_⟩;rw[h1,h2,h3];simp[bZ]
end
section
variable{H:Hs}{ps:dn}
theorem NG {i:Nat}(e:getL H i=some (ps.map aH)):pX (.ref i) H=some (ps.map gG):=by simp only[pX,e,NB]
theorem DP {x0 x2 x3 x4:zx}{i:Nat}(hl:ps.length<=40) (hs:(eJ ps).length<64) (e:getL H i=some (ps.map aH)):
  ∃H',Fr [] H H'/\getL H' i=some (ps.map aH)/\if eJ ps=ps then rZ [x0,some (.ref i),x2,x3,x4] H=.rt (.ref i) H' else ∃(j:Nat) (y2 y3 y4:zx),rZ [x0,some (.ref i),x2,x3,x4] H=.nx [x0,some (.ref j),y2,y3,y4] H'/\getL H' j=some ((eJ ps).map aH):=by
 have li:=pS e;have w0:aM (aD (f1 kS) (aB (aA 1) aC)) (aF 2) [x0,some (.ref i),x2,x3,x4] H=.nx [x0,some (.ref i),some (.ref H.length),x3,x4] (H++[.lst (ps.map aH)]):=by simp[aM,aD,f1,kS,gC,rC,fP,aB,aA,aC,e,aF]
 have ei:=lM (l:=[Ob.lst (ps.map aH)]) e;have ej:getL (H++[Ob.lst (ps.map aH)]) H.length=some (ps.map aH):=by simp[getL]
 have f0:Fr [] H (H++[Ob.lst (ps.map aH)]):=Fr.app;generalize H++[Ob.lst (ps.map aH)]=H0 at w0 ei ej f0;obtain⟨y3,y4,w1⟩:=z1l (x0:=x0) (x3:=x3) (x4:=x4) (i:=i) (j:=H.length) (by omega) hl ei ej;have ei1:getL (H0.set H.length (.lst ((ps++ps.flatMap (eQ ps)).map aH))) i=some (ps.map aH):=by rw[rN (by omega)];exact ei
 have ej1:getL (H0.set H.length (.lst ((ps++ps.flatMap (eQ ps)).map aH))) H.length=some ((ps++ps.flatMap (eQ ps)).map aH):=nK ej;have f1':Fr [] H (H0.set H.length (.lst ((ps++ps.flatMap (eQ ps)).map aH))):=f0.trans (T:=[H.length]) Fr.set (by simp);generalize H0.set H.length (.lst ((ps++ps.flatMap (eQ ps)).map aH))=H1 at w1 ei1 ej1 f1';have w2:aM (aD (f1 lS) (aB (aA 2) aC)) (aF 2) [x0,some (.ref i),some (.ref H.length),y3,y4] H1=.nx [x0,some (.ref i),some (.ref H1.length),y3,y4] (H1++[.lst ((eJ ps).map aH)]):=by have hq:=NC (NG ej1) hs;simp[aM,aD,f1,aB,aA,aC,hq,aF,eJ]
 have ei2:=lM (l:=[Ob.lst ((eJ ps).map aH)]) ei1;have ej2:getL (H1++[Ob.lst ((eJ ps).map aH)]) H1.length=some ((eJ ps).map aH):=by simp[getL]
 have f2:Fr [] H (H1++[Ob.lst ((eJ ps).map aH)]):=f1'.trans (T:=[]) Fr.app (by simp);generalize hH2:H1++[Ob.lst ((eJ ps).map aH)]=H2 at w2 ei2 ej2 f2;have t:mB (m2 bE (aA 2) (aA 1)) [x0,some (.ref i),some (.ref H1.length),y3,y4] H2=.ok (decide (eJ ps=ps)) H2:=by simp[mB,m2,aA,z1i ej2 ei2,gJ]
 refine⟨H2,f2,ei2, ?_⟩
 by_cases c:eJ ps=ps
 ·rw[if_pos c];unfold rZ;rw[bH w0,bH w1,bH w2];unfold aI;rw[kU (t.trans (by rw[decide_eq_true c]))];rfl
 ·rw[if_neg c];refine⟨H1.length,some (.ref H1.length),y3,y4, ?_,ej2⟩;unfold rZ;rw[bH w0,bH w1,bH w2,bH (ρ1:=[x0,some (.ref i),some (.ref H1.length),y3,y4]) (h1:=H2) (by rw[gD (t.trans (by rw[decide_eq_false c]))];rfl)];rfl
theorem NH {n:Nat}(hn:n<=6) {cs:dn}:∀(f:Nat) (ps:dn) (H:Hs) (i:Nat) (x0 x2 x3 x4:zx),fK cJ ps->nQ n ps->uF f ps=some cs->getL H i=some (ps.map aH)->
  ∃(j:Nat) (H':Hs),iI (bI (mC (.bl true))) rZ f [x0,some (.ref i),x2,x3,x4] H=.rt (.ref j) H'/\getL H' j=some (cs.map aH)/\Fr [] H H'
 |0,ps,H,i,x0,x2,x3,x4,hr,hi,h,e=>by cases h
 |f+1,ps,H,i,x0,x2,x3,x4,hr,hi,h,e=>by
  have sq:n*n<=6*6:=mz hn hn;have l1:=uE hr hi;have l2:=uE (uG ps) (DO hi);obtain⟨H1,f1,e1,c1⟩:=DP (x0:=x0) (x2:=x2) (x3:=x3) (x4:=x4) (by omega) (by omega) e;have tt:bI (mC (.bl true)) [x0,some (.ref i),x2,x3,x4] H=.ok true H:=rfl;unfold uF at h
  split at h
  ·rename_i c;cases h;rw[if_pos c]at c1;exact⟨i,H1,z0x tt c1,e1,f1⟩
  ·rename_i c;rw[if_neg c]at c1;obtain⟨j,y2,y3,y4,c2,ej⟩:=c1;obtain⟨k,H2,w,ek,f2⟩:=NH hn f (eJ ps) H1 j x0 y2 y3 y4 (uG ps) (DO hi) h ej;exact⟨k,H2,by rw[MY tt c2];exact w,ek,f1.trans f2 (by simp)⟩
def NI (n:Nat) (ps cs:dn):Prop:=fK cJ cs/\nQ n cs/\Tr cs/\(∀p∈ps,p∈cs)/\∀R:Int->Int->Prop,(∀a b c,R a b->R b c->R a c)->(∀p∈ps,R p.1 p.2)->∀p∈cs,R p.1 p.2
theorem z1m {n:Nat}{d:Dv}(hn:n<=6) (hi:nQ n ps) (h:pX d H=some (ps.map gG)):∃(cs:dn) (j:Nat) (H':Hs),NI n ps cs/\F_qh [d] H=.ok (.ref j) H'/\getL H' j=some (cs.map aH)/\Fr [] H H':=by
 have hs:nQ n (eF cJ ps):=λp hp=>hi p ((lO By p ps).mp hp);have hr:=oY By ps;have sq:n*n<=6*6:=mz hn hn;have l1:=uE hr hs;obtain⟨cs,c1,c2,c3,c4,c5,c6⟩:=M8 hn 40 _ hr hs (by omega);have w0:aM (aD (f1 lS) (aB (aA 0) aC)) (aF 1) [some d,none,none,none,none] H=.nx [some d,some (.ref H.length),none,none,none] (H++[.lst ((eF cJ ps).map aH)]):=by have hq:=NC h (by omega);simp[aM,aD,f1,aB,aA,aC,hq,aF]
 obtain⟨j,H',w1,ej,f1'⟩:=NH hn 40 (eF cJ ps) (H++[.lst ((eF cJ ps).map aH)]) H.length (some d) none none none hr hs c1 (by simp[getL]);refine⟨cs,j,H',⟨c2,c3,c4,λp hp=>c5 p ((lO By p ps).mpr hp),λR ht hR=>c6 R ht λp hp=>hR p ((lO By p ps).mp hp)⟩, ?_,ej,(Fr.app (S:=[]) (l:=[.lst ((eF cJ ps).map aH)])).trans f1' (by simp)⟩;show bP (iR [some d,none,none,none,none] H)=_;rw[z1j,bH w0,w1];rfl
end
theorem qI {H:Hs}{i k:Nat}{xs:zr}(e:getL H i=some (xs.map Dv.int)) (hk:k<xs.length):aO (.ref i) (.int (k:Int)) H=.ok (.int xs[k]) H:=by
 have h1:gA (xs.map Dv.int).length (k:Int)=some k:=by unfold gA;rw[aw,if_pos (by omega),if_pos (by omega)];simp
 have h2:gU (xs.map Dv.int) (k:Int)=some (.int xs[k]):=by unfold gU;rw[h1];simp[hk]
 simp only[aO,gC,gW,e,jQ,h2,if_true]
theorem eq_int (x y:Int) (H:Hs):bE (.int x) (.int y) H=.ok (.bl (x==y)) H:=by simp[bE,cQ,cB,bN]
theorem DQ:∀{ys:zr},ys.Nodup->∀i (h:i<ys.length),eY ys[i] ys=some i
 | [],_,i,h=>by simp at h
 |y::ys,nd,0,h=>by simp[eY]
 |y::ys,nd,i+1,h=>by
  have h1:=ib.mp nd;have hi:i<ys.length:=by simpa using h
  have ne:y≠ys[i]:=λz=>h1.1 (by rw[z];exact dk hi);simp[eY,ne,DQ h1.2 i hi]
def yL (n:Nat) (ps:dn):Prop:=nQ n ps/\∃f:Int->Int,∀p∈ps,f p.1<f p.2
theorem z1n {n:Nat}{ps cs:dn}(n1:1<=n) (n6:n<=6) (g:yL n ps) (c:NI n ps cs):Ah n cs:=by obtain⟨h1,h2,h3,h4,h5⟩:=c;obtain⟨_,f,hf⟩:=g;refine⟨n1,n6,h2,h1,λp hp e=>?_,h3⟩;have:=h5 (λa b=>f a<f b) (λa b c x y=>by omega) hf p hp;rw[e]at this;omega
section
variable{st ir ip im n:Nat}{ys ms:zr}{w:Int}{d1:Dv}
def DR:MS:=aM (cA (aB (m2 bE (aD F_qt (aB (aA 0) (aB (mC (.int 6)) aC))) (mC (.int 0))) (aB (m2 bE (aD F_qt (aB (aA 0) (aB (mC (.int 2)) aC))) (mC (.int 0))) (aB (m2 nI (aD F_qt (aB (aA 0) (aB (mC (.int 4)) aC))) (mC (.int 0))) aC)))) (aF 9)
def DS:MS:=aM (m2 cN (aA 9) (cA (aB (m2 gH (m2 aO (aA 6) (aA 7)) (m2 aO (aA 6) (aA 8))) (aB (m2 bE (m2 aO (aA 6) (aA 7)) (m2 aO (aA 6) (aA 8))) aC)))) (aF 9)
def oB:MS:=aI DR (aI DS (aX (bI (m2 aO (aA 9) (aA 4))) (cC (iN (aA 5) (aT (aB (m2 aO (aA 3) (aA 7)) (aB (m2 aO (aA 3) (aA 8)) aC))))) bG))
structure Std (st ir im:Nat) (ys ms:zr) (H:Hs):Prop where
 s:St st H
 r:getL H ir=some (ys.map Dv.int)
 m:getL H im=some (ms.map Dv.int)
theorem Std.fr {H H':Hs}{S:zt}(h:Std st ir im ys ms H) (f:Fr S H H') (s':St st H') (h1:ir∉S) (h2:im∉S):Std st ir im ys ms H':=⟨s',f.getL h.r h1,f.getL h.m h2⟩
theorem lY {H:Hs}{x9:zx}{ps:dn}{i j:Nat}(D:Std st ir im ys ms H) (ep:getL H ip=some (ps.map aH)) (hw:0<=w/\w<5) (hi:i<n) (hj:j<n) (hy:ys.length=n) (hm:ms.length=n) (hl:ps.length<=1000)
  (h1:ir≠st) (h2:im≠st) (h3:ip≠st) (h4:ir≠ip) (h5:im≠ip):
  ∃(Ct:zx) (H':Hs) (Bj:dn),oB [some (.ref st),some d1,some (.int n),some (.ref ir),some (.int w),some (.ref ip),some (.ref im),some (.int i),some (.int j),x9] H=.nx [some (.ref st),some d1,some (.int n),some (.ref ir),some (.int w),some (.ref ip),some (.ref im),some (.int i),some (.int j),Ct] H'/\getL H' ip=some (Bj.map aH)/\(Bj=ps∨Bj=ps++[(ys.getD i 0,ys.getD j 0)])/\Std st ir im ys ms H'/\Fr [st,ip] H H':=by
 obtain⟨r0,H0,_,_,t0,f0,s0⟩:=qH 6 D.s;obtain⟨r1,H1,_,_,t1,f1,s1⟩:=qH 2 s0;obtain⟨r2,H2,_,_,t2,f2,s2⟩:=qH 4 s1;have f02:Fr [st] H H2:=(f0.trans f1 (by simp)).trans f2 (by simp);have D2:=D.fr f02 s2 (by simpa using h1) (by simpa using h2);have ep2:=f02.getL ep (by simpa using h3);have w1:DR [some (.ref st),some d1,some (.int n),some (.ref ir),some (.int w),some (.ref ip),some (.ref im),some (.int i),some (.int j),x9] H=.nx [some (.ref st),some d1,some (.int n),some (.ref ir),some (.int w),some (.ref ip),some (.ref im),some (.int i),some (.int j),some (.ref H2.length)] (H2++[.lst [.bl (r0==0),.bl (r1==0),.bl (decide (r2>0))]]):=by simp[DR,aM,cA,aB,m2,aD,aA,mC,aC,t0,t1,t2,eq_int,nI,iZ,lim,aF]
 have fA:Fr [] H2 (H2++[.lst [.bl (r0==0),.bl (r1==0),.bl (decide (r2>0))]]):=Fr.app;have eA:getL (H2++[.lst [.bl (r0==0),.bl (r1==0),.bl (decide (r2>0))]]) H2.length=some [.bl (r0==0),.bl (r1==0),.bl (decide (r2>0))]:=by simp[getL]
 have DA:=D2.fr fA (s2.fr fA (by simp)) (by simp) (by simp);have epA:=fA.getL ep2 (by simp);have fHA:Fr [st] H (H2++[.lst [.bl (r0==0),.bl (r1==0),.bl (decide (r2>0))]]):=f02.trans fA (by simp);generalize H2++[Ob.lst [.bl (r0==0),.bl (r1==0),.bl (decide (r2>0))]]=HA at w1 fA eA DA epA fHA;have hmi:=qI DA.m (k:=i) (by omega);have hmj:=qI DA.m (k:=j) (by omega);have eA':=lM (l:=[Ob.lst [.bl (decide (ms[i]<ms[j])),.bl (ms[i]==ms[j])]]) eA;have eB:getL (HA++[Ob.lst [.bl (decide (ms[i]<ms[j])),.bl (ms[i]==ms[j])]]) HA.length=some [.bl (decide (ms[i]<ms[j])),.bl (ms[i]==ms[j])]:=by simp[getL]
 have w2:DS [some (.ref st),some d1,some (.int n),some (.ref ir),some (.int w),some (.ref ip),some (.ref im),some (.int i),some (.int j),some (.ref H2.length)] HA=.nx [some (.ref st),some d1,some (.int n),some (.ref ir),some (.int w),some (.ref ip),some (.ref im),some (.int i),some (.int j),some (.ref (HA.length+1))] (HA++[.lst [.bl (decide (ms[i]<ms[j])),.bl (ms[i]==ms[j])]]++[.lst [.bl (r0==0),.bl (r1==0),.bl (decide (r2>0)),.bl (decide (ms[i]<ms[j])),.bl (ms[i]==ms[j])]]):=by simp[DS,aM,m2,cA,aB,aA,hmi,hmj,gH,eq_int,aC,lim,cN,nA,eA',eB,aF]
 have fB:Fr [] HA (HA++[.lst [.bl (decide (ms[i]<ms[j])),.bl (ms[i]==ms[j])]]++[.lst [.bl (r0==0),.bl (r1==0),.bl (decide (r2>0)),.bl (decide (ms[i]<ms[j])),.bl (ms[i]==ms[j])]]):=Fr.trans (T:=[]) Fr.app Fr.app (by simp);have eN:getL (HA++[.lst [.bl (decide (ms[i]<ms[j])),.bl (ms[i]==ms[j])]]++[.lst [.bl (r0==0),.bl (r1==0),.bl (decide (r2>0)),.bl (decide (ms[i]<ms[j])),.bl (ms[i]==ms[j])]]) (HA.length+1)=some [.bl (r0==0),.bl (r1==0),.bl (decide (r2>0)),.bl (decide (ms[i]<ms[j])),.bl (ms[i]==ms[j])]:=by simp[getL]
 have DB:=DA.fr fB (DA.s.fr fB (by simp)) (by simp) (by simp);have epB:=fB.getL epA (by simp);have fHB:=fHA.trans fB (by simp);generalize HA++[Ob.lst [.bl (decide (ms[i]<ms[j])),.bl (ms[i]==ms[j])]]++[Ob.lst [.bl (r0==0),.bl (r1==0),.bl (decide (r2>0)),.bl (decide (ms[i]<ms[j])),.bl (ms[i]==ms[j])]]=HB at w2 fB eN DB epB fHB;have near:∃b,aO (.ref (HA.length+1)) (.int w) HB=.ok (.bl b) HB:=by
  have hw':w=0∨w=1∨w=2∨w=3∨w=4:=by omega
  rcases hw' with rfl|rfl|rfl|rfl|rfl
  ·exact⟨_,by simp only[aO,gC,gW,eN];rfl⟩
  ·exact⟨_,by simp only[aO,gC,gW,eN];rfl⟩
  ·exact⟨_,by simp only[aO,gC,gW,eN];rfl⟩
  ·exact⟨_,by simp only[aO,gC,gW,eN];rfl⟩
  ·exact⟨_,by simp only[aO,gC,gW,eN];rfl⟩
 obtain⟨b,hb⟩:=near;have t:bI (m2 aO (aA 9) (aA 4)) [some (.ref st),some d1,some (.int n),some (.ref ir),some (.int w),some (.ref ip),some (.ref im),some (.int i),some (.int j),some (.ref (HA.length+1))] HB=.ok b HB:=by simp[bI,m2,aA,hb,lF]
 cases b with
 |false=>refine⟨some (.ref (HA.length+1)),HB,ps, ?_,epB,.inl rfl,DB,fHB.mono (by simp)⟩;unfold oB;rw[bH w1,bH w2,gD t];rfl
 |true=>
  have hyi:=qI DB.r (k:=i) (by omega);have hyj:=qI DB.r (k:=j) (by omega);have gi:ys[i]=ys.getD i 0:=by simp[show i<ys.length by omega]
  have gj:ys[j]=ys.getD j 0:=by simp[show j<ys.length by omega]
  rw[gi]at hyi;rw[gj]at hyj;generalize ys.getD i 0=va at hyi ⊢;generalize ys.getD j 0=vb at hyj ⊢;have hz:(ps.map aH).length<1000000:=by rw[aw];omega
  have fC:Fr [ip] HB (HB.set ip (.lst ((ps++[(va,vb)]).map aH))):=Fr.set;refine⟨some (.ref (HA.length+1)),HB.set ip (.lst ((ps++[(va,vb)]).map aH)),ps++[(va,vb)], ?_,nK epB,.inr rfl,DB.fr fC (DB.s.fr fC (by simpa using cy h3)) (by simpa using h4) (by simpa using h5),(fHB.mono (T:=[st,ip]) (by simp)).trans fC (by simp)⟩;unfold oB;rw[bH w1,bH w2,kU t];have isP':jD (.ref ip) HB=true:=by simp[jD,epB]
  have happ:pM (.ref ip) (.tup [.int (va),.int (vb)]) HB=.ok .non (HB.set ip (.lst ((ps++[(va,vb)]).map aH))):=by simp only[pM,epB,hz,if_true,ic];rfl
  simp[cC,iN,aA,isP',aT,aB,m2,hyi,hyj,aC,lim,happ]
end
theorem DT {m:Int}(h0:0<=m) (h:m<=100):iH m=true:=by
 have h1:(-4611686018427387904:Int)<=m:=by omega
 have h2:m<4611686018427387904:=by omega
 unfold iH;rw[decide_eq_true h1,decide_eq_true h2];rfl
theorem DU {H:Hs}{j:Int}(h0:0<=j) (h1:j<=100):cH [.int j] H=.ok (bX 0 j) H:=by simp only[cH,DT h0 h1,if_true]
theorem z1o {H:Hs}{i j:Int}(h0:0<=i) (h1:i<=100) (h2:0<=j) (h3:j<=100):hX [.int i,.int j] H=.ok (bX i j) H:=by simp only[hX,DT h0 h1,DT h2 h3,and_self,if_true]
def sC (ys:zr) (n:Nat) (ps:dn):Prop:=∀p∈ps,∃i j,i<j/\j<n/\p=(ys.getD i 0,ys.getD j 0)
section
variable{st ir ip im n:Nat}{ys ms:zr}{w:Int}{d1:Dv}
abbrev cI (st ir ip im n:Nat) (w:Int) (d1:Dv) (x7 x8 x9:zx):Ev:=[some (.ref st),some d1,some (.int n),some (.ref ir),some (.int w),some (.ref ip),some (.ref im),x7,x8,x9]
def jI:MS:=dR (aQ hX (aB (m2 cN (aA 7) (mC (.int 1))) (aB (aA 2) aC))) (aF 8) oB
theorem lZ {H:Hs}{x8 x9:zx}{ps:dn}{i:Nat}(D:Std st ir im ys ms H) (ep:getL H ip=some (ps.map aH)) (hw:0<=w/\w<5) (hi:i<n) (hn:n<=6) (hy:ys.length=n) (hm:ms.length=n) (hl:ps.length<=500) (hb:sC ys n ps)
  (h1:ir≠st) (h2:im≠st) (h3:ip≠st) (h4:ir≠ip) (h5:im≠ip):
  ∃(De Ct:zx) (H':Hs) (Bj:dn),jI (cI st ir ip im n w d1 (some (.int i)) x8 x9) H=.nx (cI st ir ip im n w d1 (some (.int i)) De Ct) H'/\getL H' ip=some (Bj.map aH)/\sC ys n Bj/\Bj.length<=ps.length+6/\Std st ir im ys ms H'/\Fr [st,ip] H H':=by
 have hi0:aQ hX (aB (m2 cN (aA 7) (mC (.int 1))) (aB (aA 2) aC)) (cI st ir ip im n w d1 (some (.int i)) x8 x9) H=.ok (bX ((i:Int)+1) n) H:=by have q:aB (m2 cN (aA 7) (mC (.int 1))) (aB (aA 2) aC) (cI st ir ip im n w d1 (some (.int i)) x8 x9) H=.ok [.int ((i:Int)+1),.int n] H:=rfl;unfold aQ;rw[q,Rs.bind_ok];exact z1o (by omega) (by omega) (by omega) (by omega)
 have hN:(bX ((i:Int)+1) (n:Int)).n=n - (i+1):=by show((n:Int) - ((i:Int)+1)).toNat=_;omega
 obtain⟨ρ',H',r1,De,Ct,Bj,e1,e2,e3,e4,e5,e6⟩:=tP (b:=oB) (sg:=aF 8) hi0 (λk ρ H'=>∃(De Ct:zx) (Bj:dn),ρ=cI st ir ip im n w d1 (some (.int i)) De Ct/\getL H' ip=some (Bj.map aH)/\sC ys n Bj/\Bj.length<=ps.length+k/\Std st ir im ys ms H'/\Fr [st,ip] H H')
  (λk ρ H' hk ⟨De,Ct,Bj,e1,e2,e3,e4,e5,e6⟩=>by
   subst e1;rw[hN]at hk;have hj:i+1+k<n:=by omega
   obtain⟨x9n,H2,ps2,b1,b2,b3,b4,b5⟩:=lY (x9:=Ct) (w:=w) (d1:=d1) (ip:=ip) (n:=n) (i:=i) (j:=i+1+k) e5 e2 hw hi hj hy hm (by omega) h1 h2 h3 h4 h5;have ej:(((i+1+k:Nat)):Int)=(i:Int)+1+(k:Int):=by omega
   rw[ej]at b1;refine⟨.int ((i:Int)+1+(k:Int)),cI st ir ip im n w d1 (some (.int i)) (some (.int ((i:Int)+1+(k:Int)))) Ct,_,H2,rfl,rfl,b1,_,_,ps2,rfl,b2, ?_, ?_,b4,e6.trans b5 λj hj=>.inl hj⟩
   ·rcases b3 with rfl|rfl
    ·exact e3
    ·intro p hp
     rcases cq.mp hp with hp|hp
     ·exact e3 p hp
     ·rw[bo.mp hp];exact⟨i,i+1+k,by omega,hj,rfl⟩
   ·rcases b3 with rfl|rfl
    ·omega
    ·rw[bx];simp;omega) (λ_ _ _=>rfl) ⟨x8,x9,ps,rfl,ep,hb,by omega,D,Fr.refl⟩
 rw[hN]at e4;exact⟨De,Ct,H',Bj,by unfold jI;rw[r1,e1],e2,e3,by omega,e5,e6⟩
def kD:MS:=dR (aQ cH (aB (aA 2) aC)) (aF 7) jI
theorem mD {H:Hs}{x7 x8 x9:zx}(D:Std st ir im ys ms H) (ep:getL H ip=some (([]:dn).map aH)) (hw:0<=w/\w<5) (hn:n<=6) (hy:ys.length=n) (hm:ms.length=n)
  (h1:ir≠st) (h2:im≠st) (h3:ip≠st) (h4:ir≠ip) (h5:im≠ip):
  ∃(x7' De Ct:zx) (H':Hs) (Bj:dn),kD (cI st ir ip im n w d1 x7 x8 x9) H=.nx (cI st ir ip im n w d1 x7' De Ct) H'/\getL H' ip=some (Bj.map aH)/\sC ys n Bj/\Std st ir im ys ms H'/\Fr [st,ip] H H':=by
 have hi0:aQ cH (aB (aA 2) aC) (cI st ir ip im n w d1 x7 x8 x9) H=.ok (bX 0 n) H:=by have q:aB (aA 2) aC (cI st ir ip im n w d1 x7 x8 x9) H=.ok [.int n] H:=rfl;unfold aQ;rw[q,Rs.bind_ok];exact DU (by omega) (by omega)
 have hN:(bX 0 (n:Int)).n=n:=by simp[bX]
 obtain⟨ρ',H',r1,x7',De,Ct,Bj,e1,e2,e3,e4,e5,e6⟩:=tP (b:=jI) (sg:=aF 7) hi0 (λk ρ H'=>∃(x7' De Ct:zx) (Bj:dn),ρ=cI st ir ip im n w d1 x7' De Ct/\getL H' ip=some (Bj.map aH)/\sC ys n Bj/\Bj.length<=6*k/\Std st ir im ys ms H'/\Fr [st,ip] H H')
  (λk ρ H' hk ⟨x7',De,Ct,Bj,e1,e2,e3,e4,e5,e6⟩=>by
   subst e1;rw[hN]at hk;obtain⟨x8n,x9n,H2,ps2,b1,b2,b3,b4,b5,b6⟩:=lZ (x8:=De) (x9:=Ct) (w:=w) (d1:=d1) (ip:=ip) (n:=n) (i:=k) e5 e2 hw hk hn hy hm (by omega) e3 h1 h2 h3 h4 h5;have ek:(0:Int)+(k:Int)=(k:Int):=by omega
   refine⟨.int (0+(k:Int)),cI st ir ip im n w d1 (some (.int k)) De Ct,_,H2,rfl,by rw[ek];rfl,b1,_,_,_,ps2,rfl,b2,b3,by omega,b5,e6.trans b6 λj hj=>.inl hj⟩) (λ_ _ _=>rfl) ⟨x7,x8,x9,[],rfl,ep,λp hp=>by simp at hp,by simp,D,Fr.refl⟩
 exact⟨x7',De,Ct,H',Bj,by unfold kD;rw[r1,e1],e2,e3,e5,e6⟩
theorem z1p (pm:ys.Perm (bO n)) {ps:dn}(h:sC ys n ps):yL n ps:=by
 have hl:ys.length=n:=by rw[pm.length_eq];simp[bO]
 have nd:ys.Nodup:=by refine pm.nodup_iff.mpr ?_;unfold bO;simp only[fz];refine xh _ ?_ (qt (n:=n));intro a b h e;exact h (by omega)
 have mem:∀i,i<n->0<=ys.getD i 0/\ys.getD i 0<n:=λi hi=>by have hm:ys.getD i 0∈bO n:=pm.mem_iff.mp (by simp[show i<ys.length by omega]);simp only[bO,cb,bu,fz]at hm;obtain⟨k,hk,e⟩:=hm;omega
 refine⟨λp hp=>?_,λa=>((eY a ys).getD 0:Nat),λp hp=>?_⟩
 ·obtain⟨i,j,Bx,hj,rfl⟩:=h p hp;exact⟨(mem i (by omega)).1,(mem i (by omega)).2,(mem j hj).1,(mem j hj).2⟩
 ·obtain⟨i,j,Bx,hj,rfl⟩:=h p hp;have hi':i<ys.length:=by omega
  have hj':j<ys.length:=by omega
  have e1:ys.getD i 0=ys[i]:=by simp[hi']
  have e2:ys.getD j 0=ys[j]:=by simp[hj']
  simp only[e1,e2,DQ nd i hi',DQ nd j hj',Option.getD_some];omega
def DV (ms:zr) (n:Nat) (ps:dn):Prop:=∀p∈ps,∃i j:Nat,i<n/\j<n/\ms.getD i 0<ms.getD j 0/\p=((i:Int),(j:Int))
theorem z1q {ps:dn}(h:DV ms n ps):yL n ps:=by
 refine⟨λp hp=>?_,λa=>ms.getD a.toNat 0,λp hp=>?_⟩
 ·obtain⟨i,j,hi,hj,_,rfl⟩:=h p hp;exact⟨by simp,by simpa using hi,by simp,by simpa using hj⟩
 ·obtain⟨i,j,hi,hj,hlt,rfl⟩:=h p hp;simpa using hlt
def yM:M zw :=bJ (aQ cH (aB (aA 2) aC)) [none,some 7,some 6] (aF 0) (mB (m2 gH (m2 aO (aA 2) (aA 1)) (m2 aO (aA 2) (aA 0)))) (bA (aT (aB (aA 1) (aB (aA 0) aC))))
def uH:MS:=aM (m2 cN (aA 5) (bM yM)) (aF 5)
def gR (ms:zr) (n i:Nat):dn:=(bj n).filterMap λj=>if ms.getD i 0<ms.getD j 0 then some ((i:Int),(j:Int))else none
theorem z1r {H:Hs}{x8 x9:zx}{i:Nat}(em:getL H im=some (ms.map Dv.int)) (hi:i<n) (hn:n<=6) (hm:ms.length=n):
  yM (cI st ir ip im n w d1 (some (.int i)) x8 x9) H=.ok ((gR ms n i).map aH) H:=by
 have hi0:aQ cH (aB (aA 2) aC) (cI st ir ip im n w d1 (some (.int i)) x8 x9) H=.ok (bX 0 n) H:=by have q:aB (aA 2) aC (cI st ir ip im n w d1 (some (.int i)) x8 x9) H=.ok [.int n] H:=rfl;unfold aQ;rw[q,Rs.bind_ok];exact DU (by omega) (by omega)
 have h:yM (cI st ir ip im n w d1 (some (.int i)) x8 x9) H=.ok ((bj n).filterMap λj=>if ms.getD i 0<ms.getD j 0 then some (aH ((i:Int),(j:Int)))else none) H:=
  iK (bj n) (λj=>if ms.getD i 0<ms.getD j 0 then some (aH ((i:Int),(j:Int)))else none) (λρ=>∃a,ρ=[a,some (.int i),some (.ref im)]) hi0 (by simp[bX]) ⟨_,rfl⟩ rfl (λk hk ρ ⟨a,er⟩=>by
   subst er;have hk':k<n:=by simpa using hk
   have gk:(bj n)[k]=k:=by simp
   rw[gk];have ek:(0:Int)+(k:Int)=(k:Int):=by omega
   refine⟨.int (0+(k:Int)),[some (.int k),some (.int i),some (.ref im)],rfl,by rw[ek];rfl,⟨_,rfl⟩, ?_⟩;have x1:=qI em (k:=i) (by omega);have x2:=qI em (k:=k) (by omega);have g1:ms[i]=ms.getD i 0:=by simp[show i<ms.length by omega]
   have g2:ms[k]=ms.getD k 0:=by simp[show k<ms.length by omega]
   rw[g1]at x1;rw[g2]at x2;generalize ms.getD i 0=va at x1 ⊢;generalize ms.getD k 0=vb at x2 ⊢;have te:mB (m2 gH (m2 aO (aA 2) (aA 1)) (m2 aO (aA 2) (aA 0))) [some (.int k),some (.int i),some (.ref im)] H=.ok (decide (va<vb)) H:=by simp[mB,m2,aA,x1,x2,gH,gJ]
   by_cases c:va<vb
   ·rw[if_pos c];rw[decide_eq_true c]at te;exact⟨te,rfl⟩
   ·rw[if_neg c];rw[decide_eq_false c]at te;exact te) (by simp;omega)
 have e:((bj n).filterMap λj=>if ms.getD i 0<ms.getD j 0 then some (aH ((i:Int),(j:Int)))else none)=(gR ms n i).map aH:=by
  unfold gR;rw[List.map_filterMap];refine LQ _ λj _=>?_
  split <;> rfl
 rw[h,e]
theorem z1s {H:Hs}{ip0:Nat}{x7 x8 x9:zx}(D:Std st ir im ys ms H) (ep:getL H ip0=some (([]:dn).map aH)) (hn:n<=6) (hm:ms.length=n):
  ∃(Dg:Nat) (x7':zx) (H':Hs) (Bj:dn),dR (aQ cH (aB (aA 2) aC)) (aF 7) uH (cI st ir ip0 im n w d1 x7 x8 x9) H=.nx (cI st ir Dg im n w d1 x7' x8 x9) H'/\getL H' Dg=some (Bj.map aH)/\DV ms n Bj/\Fr [] H H':=by
 have hi0:aQ cH (aB (aA 2) aC) (cI st ir ip0 im n w d1 x7 x8 x9) H=.ok (bX 0 n) H:=by have q:aB (aA 2) aC (cI st ir ip0 im n w d1 x7 x8 x9) H=.ok [.int n] H:=rfl;unfold aQ;rw[q,Rs.bind_ok];exact DU (by omega) (by omega)
 have hN:(bX 0 (n:Int)).n=n:=by simp[bX]
 obtain⟨ρ',H',r1,Dg,x7',Bj,e1,e2,e3,e4,e5⟩:=tP (b:=uH) (sg:=aF 7) hi0 (λk ρ H'=>∃(Dg:Nat) (x7':zx) (Bj:dn),ρ=cI st ir Dg im n w d1 x7' x8 x9/\getL H' Dg=some (Bj.map aH)/\DV ms n Bj/\Bj.length<=6*k/\Fr [] H H')
  (λk ρ H' hk ⟨Dg,x7',Bj,e1,e2,e3,e4,e5⟩=>by
   subst e1;rw[hN]at hk;have em:=e5.getL D.m (by simp);have hc:=z1r (st:=st) (ir:=ir) (ip:=Dg) (w:=w) (d1:=d1) (x8:=x8) (x9:=x9) em hk hn hm;have hrl:(gR ms n k).length<=6:=by have:=qk (λj=>if ms.getD k 0<ms.getD j 0 then some ((k:Int),(j:Int))else none) (bj n);unfold gR;rw[km]at this;omega
   have ek:(0:Int)+(k:Int)=(k:Int):=by omega
   have ep1:=lM (l:=[Ob.lst ((gR ms n k).map aH)]) e2;have eq1:getL (H'++[Ob.lst ((gR ms n k).map aH)]) H'.length=some ((gR ms n k).map aH):=by simp[getL]
   have hz:(Bj.map aH).length+((gR ms n k).map aH).length<=1000000:=by rw[aw,aw];omega
   have hb:uH (cI st ir Dg im n w d1 (some (.int k)) x8 x9) H'=.nx (cI st ir (H'.length+1) im n w d1 (some (.int k)) x8 x9) (H'++[Ob.lst ((gR ms n k).map aH)]++[Ob.lst ((Bj++gR ms n k).map aH)]):=by
    have ha:cN (.ref Dg) (.ref H'.length) (H'++[Ob.lst ((gR ms n k).map aH)])=.ok (.ref (H'.length+1)) (H'++[Ob.lst ((gR ms n k).map aH)]++[Ob.lst ((Bj++gR ms n k).map aH)]):=by show nA (.ref Dg) (.ref H'.length) (H'++[Ob.lst ((gR ms n k).map aH)])=_;simp only[nA,ep1,eq1,lim,hz,if_true];simp
    have hal:bM yM (cI st ir Dg im n w d1 (some (.int k)) x8 x9) H'=.ok (.ref H'.length) (H'++[Ob.lst ((gR ms n k).map aH)]):=by unfold bM;rw[hc];rfl
    unfold uH aM m2;show((Rs.ok (Dv.ref Dg) H').bind _).thenS _=_;rw[Rs.bind_ok,hal,Rs.bind_ok,ha];rfl
   refine⟨.int (0+(k:Int)),cI st ir Dg im n w d1 (some (.int k)) x8 x9,_,_,rfl,by rw[ek];rfl,hb,H'.length+1,_,Bj++gR ms n k,rfl,by simp[getL], ?_,by rw[bx];omega,e5.trans (Fr.trans (T:=[]) (Fr.app (S:=[])) Fr.app (by simp)) (by simp)⟩;intro p hp
   rcases cq.mp hp with hp|hp
   ·exact e3 p hp
   ·unfold gR at hp;obtain⟨j,hj,e⟩:=jl.mp hp
    split at e
    ·rename_i c;cases e;exact⟨k,j,hk,bu.mp hj,c,rfl⟩
    ·cases e) (λ_ _ _=>rfl) ⟨ip0,x7,[],rfl,ep,λp hp=>by simp at hp,by simp,Fr.refl⟩
 exact⟨Dg,x7',H',Bj,by rw[r1,e1],e2,e3,e5⟩
end
def o1:MS:=aM (m2 eE (aA 1) (m2 aO (cA (aB (mC (.int 0)) (aB (mC (.int 0)) (aB (mC (.int 1)) (aB (mC (.int 2)) (aB (mC (.int 0)) (aB (mC (.int 3)) (aB (mC (.int 1)) (aB (mC (.int 4)) aC))))))))) (aD F_qt (aB (aA 0) (aB (mC (.int 8)) aC))))) (aF 2)
def o2:MS:=aM (aD nB (aB (mC (.int 1)) (aB (aA 2) aC))) (aF 2)
def o3:MS:=aM (aD F_qc (aB (aA 0) (aB (aD (f1 rR) (aB (aA 2) aC)) aC))) (aF 3)
def o4:MS:=aM (aD F_qt (aB (aA 0) (aB (mC (.int 5)) aC))) (aF 4)
def o5:MS:=aM (cA aC) (aF 5)
def kE:M zw :=bJ (bC cD (aA 3)) [none,some 0] (aF 0) bQ (bA (aD F_qt (aB (aA 1) (aB (mC (.int 3)) aC))))
def o6:MS:=aM (bM kE) (aF 6)
def o8:MS:=aX (mB (m2 bE (aA 4) (mC (.int 3)))) (aI (aM (cA aC) (aF 5)) (dR (aQ cH (aB (aA 2) aC)) (aF 7) uH)) bG
def o9:MS:=aL (aT (aB (aA 2) (aB (aD (f1 eM) (aB (aD F_qh (aB (aA 5) aC)) aC)) aC)))
theorem mE:iS=aI o1 (aI o2 (aI o3 (aI o4 (aI o5 (aI o6 (aI kD (aI o8 o9))))))):=rfl
section
variable{st:Nat}
theorem mF {H:Hs}{m:Int}{x2 x3 x4 x5 x6 x7 x8 x9:zx}(s:St st H):∃(v:Int) (H':Hs),0<=v/\v<=4/\o1 [some (.ref st),some (.int m),x2,x3,x4,x5,x6,x7,x8,x9] H=.nx [some (.ref st),some (.int m),some (.int (m - v)),x3,x4,x5,x6,x7,x8,x9] H'/\St st H'/\Fr [st] H H':=by
 have fA:Fr [] H (H++[Ob.lst [.int 0,.int 0,.int 1,.int 2,.int 0,.int 3,.int 1,.int 4]]):=Fr.app;have eA:getL (H++[Ob.lst [.int 0,.int 0,.int 1,.int 2,.int 0,.int 3,.int 1,.int 4]]) H.length=some (([0,0,1,2,0,3,1,4]:zr).map Dv.int):=by simp[getL]
 have sA:=s.fr fA (by simp);have lt:=s.lt;have hd:cA (aB (mC (.int 0)) (aB (mC (.int 0)) (aB (mC (.int 1)) (aB (mC (.int 2)) (aB (mC (.int 0)) (aB (mC (.int 3)) (aB (mC (.int 1)) (aB (mC (.int 4)) aC)))))))) [some (.ref st),some (.int m),x2,x3,x4,x5,x6,x7,x8,x9] H=.ok (.ref H.length) (H++[Ob.lst [.int 0,.int 0,.int 1,.int 2,.int 0,.int 3,.int 1,.int 4]]):=rfl;generalize H++[Ob.lst [.int 0,.int 0,.int 1,.int 2,.int 0,.int 3,.int 1,.int 4]]=HA at fA eA sA hd;obtain⟨r,H1,r0,r1,t1,f1,s1⟩:=qH 8 sA;have e1:=f1.getL eA (by simp;omega);obtain⟨k,rfl⟩:∃k:Nat,r=k:=⟨r.toNat,by omega⟩
 have hk:k<8:=by omega
 have hx:=qI e1 (k:=k) (by simpa using hk);have hv:0<=([0,0,1,2,0,3,1,4]:zr)[k]/\([0,0,1,2,0,3,1,4]:zr)[k]<=4:=by
  match k,hk with
  |0,_=>simp
  |1,_=>simp
  |2,_=>simp
  |3,_=>simp
  |4,_=>simp
  |5,_=>simp
  |6,_=>simp
  |7,_=>simp
 generalize ([0,0,1,2,0,3,1,4]:zr)[k]=v at hx hv;refine⟨v,H1,hv.1,hv.2, ?_,s1,fA.mono (T:=[st]) (by simp) |>.trans f1 (by simp)⟩;have ht:aD F_qt (aB (aA 0) (aB (mC (.int 8)) aC)) [some (.ref st),some (.int m),x2,x3,x4,x5,x6,x7,x8,x9] HA=.ok (.int k) H1:=by simp[aD,aB,aA,mC,aC,t1]
 unfold o1 aM m2;show((Rs.ok (Dv.int m) H).bind _).thenS _=_;rw[Rs.bind_ok,hd,Rs.bind_ok,ht,Rs.bind_ok,hx,Rs.bind_ok];rfl
theorem mG {H:Hs}{ir:Nat}{ys:zr}{x1 x2 x4 x5 x6 x7 x8 x9:zx}(s:St st H) (er:getL H ir=some (ys.map Dv.int)) (hrs:ir≠st) (hl:ys.length<=100):∃(ms:zr) (H':Hs),ms.length=ys.length/\o6 [some (.ref st),x1,x2,some (.ref ir),x4,x5,x6,x7,x8,x9] H=.nx [some (.ref st),x1,x2,some (.ref ir),x4,x5,some (.ref H'.length),x7,x8,x9] (H'++[.lst (ms.map Dv.int)])/\St st H'/\Fr [st] H H':=by
 have hi:bC cD (aA 3) [some (.ref st),x1,x2,some (.ref ir),x4,x5,x6,x7,x8,x9] H=.ok (bZ ir ys.length) H:=by simp[bC,aA,cD,er]
 obtain⟨ρ',H',Ce,h1,a,ms,h2,h3,h4,h5,h6⟩:=BD (src:=bZ ir ys.length) (sg:=aF 0) (t:=bQ) (m:=bA (aD F_qt (aB (aA 1) (aB (mC (.int 3)) aC))))
  (λk ρ H' acc=>∃(a:zx) (ms:zr),ρ=[a,some (.ref st)]/\acc=ms.map Dv.int/\ms.length=k/\St st H'/\Fr [st] H H')
  (λk ρ H' acc hk ⟨a,ms,e1,e2,e3,e4,e5⟩=>by
   subst e1;subst e2;have hk':k<ys.length:=hk;obtain⟨r,H1,r0,r1,t1,f1,s1⟩:=qH 3 e4;have er':=e5.getL er (by simpa using hrs);refine⟨.int ys[k],[some (.int ys[k]),some (.ref st)],M9 er' hk',rfl,.inr ⟨H',[some (.int ys[k]),some (.ref st)],(ms++[r]).map Dv.int,H1,rfl, ?_,_,ms++[r],rfl,rfl,by simp[e3],s1,e5.trans f1 (by simp)⟩⟩;have hz:ms.length<1000000:=by omega
   simp[bA,aD,aB,aA,mC,aC,t1,hz]) (λρ H' acc ⟨_,_,_,_,_,_,e5⟩=>NA (e5.getL er (by simpa using hrs))) ys.length 0 [none,some (.ref st)] H [] (by simp[bZ]) ⟨none,[],rfl,rfl,rfl,s,Fr.refl⟩
 refine⟨ms,H',h4, ?_,h5,h6⟩;have hc:kE [some (.ref st),x1,x2,some (.ref ir),x4,x5,x6,x7,x8,x9] H=.ok (ms.map Dv.int) H':=by unfold kE bJ;rw[hi,Rs.bind_ok];have hcap:jU [none,some 0] [some (.ref st),x1,x2,some (.ref ir),x4,x5,x6,x7,x8,x9]=[none,some (.ref st)]:=rfl;rw[hcap,show(bZ ir ys.length).n=ys.length from rfl,h1];dsimp only;rw[h3]
 unfold o6 aM bM;rw[hc];rfl
end
end L2.Mr.Com
namespace L2
open PySem PySem.Spec PyProof.Rows
section
variable{X:Cx}{D:ah}
end
section
variable{X:Cx}
end
end L2
namespace L2.Mr
open PySem PySem.Spec PyProof.Rows
section
variable{M:wk}{A:cg}{E:af->ag->Prop}{s:ag}{base:cx}{env:Env}{outer:List Env}{L e T:ah}{C a0:af}{Q:Unit->ag->Prop}
end
section
variable{P:bf}{w:cf}{M:wk}{A:cg}{E:af->ag->Prop}{s:ag}{H H0:Hp}{base:cx}{env:Env}{outer:List Env}{L e:ah}{C:af}{Q:Unit->ag->Prop}
end
section
variable{P:bf}{w:cf}{K:ao}{mg:Str->Option af}{base:cx}{N:zu}{qual:Str}{scope:gu}{f:ah}{cdv:af}{A:cg}{outer:List Env}{s0:ag}{H0:Hp}{E0:XK}{G:Cfg}{E:XK}{k:Nat}
end
section
variable{G:Cfg}
end
section
variable{X:Cx}{G:Cfg}{E:XK}{elt tg iter:br}{ifs:List br}{sc:gu}{ps pos:Pos}{mi:M Src}{st:dI}{test:M Bool}{me:M Dv}{N:zu}{cap:List (Option Nat)}
end
section
variable{P:bf}{w:cf}{K:ao}{mg:Str->Option af}{base:cx}{N:zu}{qual:Str}{f:ah}{G:Cfg}{k:Nat}
end
end L2.Mr
namespace L2.Mr.Cod
open PySem PySem.Spec PyProof.Rows L2 L2.Mr L2.Mr.Com
def mb_qr:MS:=(aX (cG (bI (aD F_q1 (aB (aA 0) aC)))) (rD 0 (aB (mC (.str "this is no order")) aC)) bG)
def F_qr:zv:=aS 1 1 (mb_qr)
def lU:MS:=(aI (aM (m2 aO (aA 0) (mC (.int 1))) (aF 3)) (aL (dH (m2 dN (aA 1) (aA 2)) (dH (m2 (bU true) (aT (aB (aA 1) (aB (aA 2) aC))) (aA 3)) (m2 (bU true) (aT (aB (aA 2) (aB (aA 1) aC))) (aA 3))))))
def F_qu:zv:=aS 3 4 (lU)
open L2.Mr.Com hiding iR F_qh iS F_ql
section
variable{st n:Nat}
end
section
variable{n i:Nat}{H:Hs}{S:dn}{m a b:Int}{x0 x1 x3 x4 x5:zx}
end
open L2.Mr.Com hiding iR F_qh iS F_ql oB lY lZ mD jI kD o1 o2 o3 o4 o5 o6 kE o8 o9 mE mF mG cI
section
variable{st ip im n:Nat}{ys ms:zr}{w:Int}{d1:Dv}
end
section
variable{st:Nat}
end
end L2.Mr.Cod
namespace L2.Mr.K01
open PySem PySem.Spec PyProof.Rows L2 L2.Mr L2.Mr.Com
end L2.Mr.K01
namespace L2.Mr.Com
open PySem PySem.Spec PyProof.Rows L2 L2.Mr
section
variable{H:Hs}{d:Dv}{n:Int}
end
section
variable{H:Hs}{d:Dv}{n:Int}
end
section
variable{H:Hs}{d:Dv}
end
section
variable{P:Ev->Hs->Prop}{k n m':Nat}{m:M Dv}{ms:M zw }
end
end L2.Mr.Com
namespace L2.Mr.Cod
open PySem PySem.Spec PyProof.Rows L2 L2.Mr
open L2.Mr.Com hiding iR F_qh iS F_ql oB lY lZ mD jI kD o1 o2 o3 o4 o5 o6 kE o8 o9 mE mF mG cI
section
variable{H:Hs}
theorem last_get {x:zw}:getL (H++[.lst x]) H.length=some x:=by simp[getL]
end
section
variable{n m:Nat}{H H':Hs}{i j:Nat}
end
end L2.Mr.Cod
namespace L2.Mr
open PySem PySem.Spec PyProof.Rows L2
def z1t (x:Int) (P:Int->Prop):Prop:=P x/\∀y,P y->y<=x
theorem NJ {f:Nat->Int}:∀k,(∃i,i<=k/\fS (λa b=>decide (a>b)) f k=f i)/\∀i,i<=k->f i<=fS (λa b=>decide (a>b)) f k
 |0=>⟨⟨0,aj _,rfl⟩,λi hi=>by
  have:i=0:=by omega
  subst this;exact wj _⟩
 |k+1=>by
  obtain⟨⟨i,hi,e⟩,h⟩:=NJ (f:=f) k;have he:fS (λa b=>decide (a>b)) f (k+1)=if decide (f (k+1)>fS (λa b=>decide (a>b)) f k)then f (k+1)else fS (λa b=>decide (a>b)) f k:=rfl
  generalize fS (λa b=>decide (a>b)) f k=z at e h he;rw[he]
  by_cases c:f (k+1)>z
  ·rw[if_pos (decide_eq_true c)];refine⟨⟨k+1,aj _,rfl⟩,λj hj=>?_⟩
   by_cases q:j=k+1
   ·subst q;exact wj _
   ·have:=h j (by omega);omega
  ·rw[if_neg (by simpa using c)];refine⟨⟨i,by omega,e⟩,λj hj=>?_⟩
   by_cases q:j=k+1
   ·subst q;omega
   ·exact h j (by omega)
theorem NK {f:Nat->Int}:∀k,(∃i,i<=k/\fS (λa b=>decide (a<b)) f k=f i)/\∀i,i<=k->fS (λa b=>decide (a<b)) f k<=f i
 |0=>⟨⟨0,aj _,rfl⟩,λi hi=>by
  have:i=0:=by omega
  subst this;exact wj _⟩
 |k+1=>by
  obtain⟨⟨i,hi,e⟩,h⟩:=NK (f:=f) k;have he:fS (λa b=>decide (a<b)) f (k+1)=if decide (f (k+1)<fS (λa b=>decide (a<b)) f k)then f (k+1)else fS (λa b=>decide (a<b)) f k:=rfl
  generalize fS (λa b=>decide (a<b)) f k=z at e h he;rw[he]
  by_cases c:f (k+1)<z
  ·rw[if_pos (decide_eq_true c)];refine⟨⟨k+1,aj _,rfl⟩,λj hj=>?_⟩
   by_cases q:j=k+1
   ·subst q;exact wj _
   ·have:=h j (by omega);omega
  ·rw[if_neg (by simpa using c)];refine⟨⟨i,by omega,e⟩,λj hj=>?_⟩
   by_cases q:j=k+1
   ·subst q;omega
   ·exact h j (by omega)
theorem maxI_is {ns:zr}(h:ns≠[]):z1t (oS ns) (·∈ns):=by
 have hl:0<ns.length:=oq.mpr h;obtain⟨⟨i,hi,e⟩,hx⟩:=NJ (f:=λi=>ns.getD i 0) (ns.length - 1);refine⟨?_,λy hy=>?_⟩
 ·show oS ns∈ns;unfold oS;rw[e];have:i<ns.length:=by omega
  simp[this]
 ·obtain⟨k,hk,rfl⟩:=jo.mp hy;have:=hx k (by omega);have e2:ns.getD k 0=ns[k]:=by simp[hk]
  rw[e2]at this;exact this
theorem minI_is {ns:zr}(h:ns≠[]):kT ns∈ns/\∀y∈ns,kT ns<=y:=by
 have hl:0<ns.length:=oq.mpr h;obtain⟨⟨i,hi,e⟩,hx⟩:=NK (f:=λi=>ns.getD i 0) (ns.length - 1);refine⟨?_,λy hy=>?_⟩
 ·unfold kT;rw[e];have:i<ns.length:=by omega
  simp[this]
 ·obtain⟨k,hk,rfl⟩:=jo.mp hy;have:=hx k (by omega);have e2:ns.getD k 0=ns[k]:=by simp[hk]
  rw[e2]at this;exact this
end L2.Mr
namespace L2.Mr.Cod
open PySem PySem.Spec PyProof.Rows L2 L2.Mr
open L2.Mr.Com hiding iR F_qh iS F_ql oB lY lZ mD jI kD o1 o2 o3 o4 o5 o6 kE o8 o9 mE mF mG cI
def iL (ps:dn) (a:Nat):Nat->dn
 |0=>[]
 |k+1=>iL ps a k++if((a:Int),(a:Int)+1+(k:Int))∈ps∨((a:Int)+1+(k:Int),(a:Int))∈ps then[]else[((a:Int),(a:Int)+1+(k:Int))]
def iT (n:Nat) (ps:dn):Nat->dn
 |0=>[]
 |k+1=>iT n ps k++iL ps k (n - (k+1))
def bK (n:Nat) (ps:dn):dn:=iT n ps n
theorem looseB_len (ps:dn) (a:Nat):∀k,(iL ps a k).length<=k
 |0=>aj _
 |k+1=>by
  have:=looseB_len ps a k;unfold iL
  split <;> simp <;> omega
section
variable{n:Nat}{ps:dn}{i:Nat}
end
def Lse (ps:dn) (a b:Int):Prop:=a≠b/\(a,b)∉ps/\(b,a)∉ps
instance (ps:dn) (a b:Int):Decidable (Lse ps a b):=by unfold Lse;infer_instance
theorem Bv {ps:dn}{a:Nat}{q:Int×Int}:∀{k:Nat},q∈iL ps a k↔∃j,j<k/\q=((a:Int),(a:Int)+1+(j:Int))/\q∉ps/\(q.2,q.1)∉ps
 |0=>by simp[iL]
 |k+1=>by
  unfold iL;rw[cq,Bv (k:=k)];constructor
  ·rintro (⟨j,hj,h⟩|h)
   ·exact⟨j,by omega,h⟩
   ·split at h
    ·simp at h
    ·rename_i c;rw[bo]at h;subst h;exact⟨k,by omega,rfl,λz=>c (.inl z),λz=>c (.inr z)⟩
  ·rintro ⟨j,hj,h,h1,h2⟩
   by_cases q:j=k
   ·subst q;right;subst h;rw[if_neg (λz=>z.elim h1 h2)];simp
   ·exact .inl ⟨j,by omega,h,h1,h2⟩
theorem NL {n:Nat}{ps:dn}{q:Int×Int}:∀{k:Nat},q∈iT n ps k↔∃a,a<k/\q∈iL ps a (n - (a+1))
 |0=>by simp[iT]
 |k+1=>by
  unfold iT;rw[cq,NL (k:=k)];constructor
  ·rintro (⟨a,ha,h⟩|h)
   ·exact⟨a,by omega,h⟩
   ·exact⟨k,by omega,h⟩
  ·rintro ⟨a,ha,h⟩
   by_cases q:a=k
   ·subst q;exact .inr h
   ·exact .inl ⟨a,by omega,h⟩
theorem Ai {n:Nat}{ps:dn}{q:Int×Int}:q∈bK n ps↔0<=q.1/\q.1<q.2/\q.2<n/\Lse ps q.1 q.2:=by
 unfold bK;rw[NL];constructor
 ·rintro ⟨a,ha,h⟩
  obtain⟨j,hj,rfl,h1,h2⟩:=Bv.mp h;exact⟨by omega,by simp only;omega,by simp only;omega,by simp only[ne_eq];omega,h1,h2⟩
 ·rintro ⟨h0,h1,h2,_,h3,h4⟩
  refine⟨q.1.toNat,by omega,Bv.mpr ⟨(q.2 - q.1 - 1).toNat,by omega, ?_,h3,h4⟩⟩
  apply Prod.ext <;> simp only <;> omega
section
variable{n:Nat}{ps:dn}{r:Int}{fs:zr}
end
section
variable{n:Nat}{ps:dn}{r:Int}{fs:zr}
end
section
variable{n:Nat}{ps:dn}{r:Int}{H:Hs}
theorem loose_is {a b:Int}:F_qu [aJ n ps,.int a,.int b] H=.ok (.bl (decide (Lse ps a b))) H:=by
 have h1:=z0y (n:=n) (ps:=ps) H;have t1:=BG true H (a,b) ps;have t2:=BG true H (b,a) ps;simp only[aH,if_true]at t1 t2;have hne:dN (.int a) (.int b) H=.ok (.bl (!(a==b))) H:=by simp[dN,cQ,cB,bN]
 generalize aJ n ps=d at h1;simp only[Lse]
 by_cases c0:a=b
 ·subst c0;simp[F_qu,lU,aS,dD,aI,aM,m2,aA,mC,h1,aF,aL,dH,hne,bP]
 ·have c0':(a==b)=false:=by simpa using c0
  by_cases c1:(a,b)∈ps
  ·simp[F_qu,lU,aS,dD,aI,aM,m2,aA,mC,h1,aF,aL,dH,hne,c0',aT,aB,aC,lim,t1,c1,bP]
  ·simp[F_qu,lU,aS,dD,aI,aM,m2,aA,mC,h1,aF,aL,dH,hne,c0',c0,aT,aB,aC,lim,t1,c1,t2,bP]
end
section
variable{n:Nat}{ps:dn}{r:Int}{H:Hs}{i j:Nat}{fs:zr}{nd:List (Int×Int×Int)}
end
section
variable{n:Nat}{ps:dn}{r:Int}{H:Hs}{i j:Nat}{fs:zr}{nd:List (Int×Int×Int)}{d:Dv}
theorem need_ok (o:Ah n ps):F_qr [aJ n ps] H=.ok .non H:=by simp[F_qr,mb_qr,aS,dD,aX,cG,bI,aD,aB,aA,aC,z18 o,lF,bG,bP]
end
end L2.Mr.Cod
namespace L2.Mr.Com
open PySem PySem.Spec PyProof.Rows L2 L2.Mr
section
variable{P:Ev->Hs->Prop}{l l':Nat}{m m':M Dv}
end
section
variable{st n:Nat}{cs:dn}{at_ a b:Int}
variable(o:Ah n cs)
include o
end
end L2.Mr.Com
namespace L2.Mr.Gen
open PySem PySem.Spec PyProof.Rows L2 L2.Mr L2.Mr.Com
theorem NM {t u:M Bool}{ρ:Ev}{h h1:Hs}(e:t ρ h=.ok true h1):dE t u ρ h=.ok true h1:=by unfold dE;rw[e];rfl
theorem mH {t u:M Bool}{ρ:Ev}{h h1:Hs}(e:t ρ h=.ok false h1):dE t u ρ h=u ρ h1:=by unfold dE;rw[e];rfl
theorem sD {t:M Bool}{ρ:Ev}{h h1:Hs}{b:Bool}(e:t ρ h=.ok b h1):cG t ρ h=.ok (!b) h1:=by unfold cG;rw[e];rfl
theorem z1u (xs ys:zw) (hl:xs.length+ys.length<=1000) {H:Hs}:cN (.tup xs) (.tup ys) H=.ok (.tup (xs++ys)) H:=by
 cases xs with
 |nil=>rfl
 |cons x xs=>
  have:(x::xs).length+ys.length<=1000000:=by omega
  have:xs.length+1+ys.length<=1000000:=by simp at this;omega
  simp[cN,nA,lim,this]
section
variable{H:Hs}{xs:zr}
theorem DW (ns:zr):bB fR (ns.map Dv.int)=some ns:=by
 induction ns with
 |nil=>rfl
 |cons x xs ih=>simp[bB,fR,ih]
theorem sE {m:M Dv}{ρ:Ev}{H:Hs}{L:Int}(e:m ρ H=.ok (.int L) H) (h0:0<=L) (h1:L<=1000):aQ cH (aB m aC) ρ H=.ok (bX 0 L) H:=by
 have hr:iH L=true:=by simp[iH];omega
 simp[aQ,aB,e,aC,cH,hr]
theorem uI {ds:zw}{i:Nat}{ρ:Ev}(e:aA i ρ H=.ok (.tup ds) H):aD (f1 bR) (aB (aA i) aC) ρ H=.ok (.int ds.length) H:=by simp[aD,aB,e,aC,f1,bR,gC,hW,fP]
theorem yN {α:Type}(p:α->Bool) (f:α->Dv) (l:List α):(l.filterMap λq=>if p q then some (f q)else none)=(l.filter p).map f:=by
 induction l with
 |nil=>rfl
 |cons k l ih=>
  rw[cm,jv]
  cases c:p k with
  |true=>simp only[if_true,df];rw[ih]
  |false=>simp only[cn,if_false];exact ih
theorem DX (neg:Bool) (x:Int) {i:Nat}(e:getL H i=some (xs.map Dv.int)):bU neg (.int x) (.ref i) H=.ok (.bl (if neg then !decide (x∈xs)else decide (x∈xs))) H:=by
 have e':(xs.map Dt.int).any (λt=>bN t (.int x))=decide (x∈xs):=by
  rw[dy];simp only[rh,lg,sy,decide_eq_true_eq];constructor
  ·rintro ⟨q,hq,h⟩
   have:q=x:=by simpa[bN]using h
   rw[<-this];exact hq
  ·intro h;exact⟨x,h,by simp[bN]⟩
 have h1:bB (cB cQ H) (xs.map Dv.int)=some (xs.map Dt.int):=tQ 29 H xs;have h2:cB cQ H (.int x)=some (.int x):=rfl;show jW [] neg (.int x) (.ref i) H=_;simp only[jW,fP,e,h1,h2,e']
theorem qJ {m:M Dv}{ρ ρ1:Ev}{i:Nat}{H H':Hs}{v:Dv}(e:m ρ H=.ok v H') (hs:aF i v ρ=some ρ1):aM m (aF i) ρ H=.nx ρ1 H':=by simp[aM,e,hs]
theorem DY {m:M zw }{ρ:Ev}{i:Nat}{H H':Hs}{ds:zw}{ρ1:Ev}(e:m ρ H=.ok ds H') (hs:aF i (.ref H'.length) ρ=some ρ1):aM (bM m) (aF i) ρ H=.nx ρ1 (H'++[.lst ds]):=by
 have ea:bM m ρ H=.ok (.ref H'.length) (H'++[.lst ds]):=by unfold bM;rw[e];rfl
 exact qJ ea hs
theorem eK {f:Dv->Dv->Hs->Rs Dv}{ma mb:M Dv}{ρ:Ev}{H H1 H2 H3:Hs}{x y z:Dv}(ha:ma ρ H=.ok x H1) (hb:mb ρ H1=.ok y H2) (hf:f x y H2=.ok z H3):m2 f ma mb ρ H=.ok z H3:=by unfold m2;rw[ha,Rs.bind_ok,hb,Rs.bind_ok,hf]
end
end L2.Mr.Gen
namespace L2.Mr.K05
open PySem PySem.Spec PyProof.Rows L2 L2.Mr L2.Mr.Com L2.Mr.Gen
theorem need_ok {n:Nat}{ps:dn}{H:Hs}(o:Ah n ps):F_qr [aJ n ps] H=.ok .non H:=Cod.need_ok o
theorem loose_is {n:Nat}{ps:dn}{H:Hs}{a b:Int}:F_qu [aJ n ps,.int a,.int b] H=.ok (.bl (decide (Cod.Lse ps a b))) H:=Cod.loose_is
def ix (ns:zr) (k:Int):Nat:=(eY k ns).getD 0
theorem pos_mem {k:Int}:∀{ns:zr},k∈ns->eY k ns=some (ix ns k)
 | [],h=>nomatch h
 |n::ns,h=>by
  unfold ix eY
  by_cases c:n=k
  ·rw[if_pos c];rfl
  ·rw[if_neg c];have hm:k∈ns:=(az.mp h).elim (λz=>absurd z.symm c) id;rw[pos_mem hm];rfl
theorem iM {k:Int}{ns:zr}(h:k∈ns):ix ns k<ns.length:=(bq.mp (tO (pos_mem h)).1).1
theorem qK {a b:Int}{ns:zr}(ha:a∈ns) (hb:b∈ns) (e:ix ns a=ix ns b):a=b:=by have h1:=(tO (pos_mem ha)).1;have h2:=(tO (pos_mem hb)).1;rw[e,h2]at h1;exact(cw h1).symm
theorem jJ {ns ms:zr}{k:Int}(h:k∈ns):ix (ns++ms) k=ix ns k:=by
 have key:∀{ns:zr},k∈ns->eY k (ns++ms)=eY k ns:=by
  intro ns
  induction ns with
  |nil=>intro h;cases h
  |cons x xs ih=>
   intro h;show eY k (x::(xs++ms))=_;unfold eY
   by_cases c:x=k
   ·rw[if_pos c,if_pos c]
   ·rw[if_neg c,if_neg c,ih ((az.mp h).elim (λz=>absurd z.symm c) id)]
 unfold ix;rw[key h]
theorem uJ {ns:zr}{k:Int}(h:k∉ns):ix (ns++[k]) k=ns.length:=by
 have key:∀{ns:zr},k∉ns->eY k (ns++[k])=some ns.length:=by
  intro ns
  induction ns with
  |nil=>intro _;show eY k [k]=some 0;unfold eY;rw[if_pos rfl]
  |cons x xs ih=>intro h;show eY k (x::(xs++[k]))=_;unfold eY;rw[if_neg (λz=>h (by rw[z];exact ax ..)),ih (λz=>h (aq _ z))];rfl
 unfold ix;rw[key h];rfl
section
variable{n:Nat}{ps:dn}{H:Hs}{ns:zr}{ρ:Ev}
theorem idx_V {a:Nat}{me:M Dv}{k:Int}(h1:aA a ρ=λH=>.ok (.tup (ns.map Dv.int)) H) (h2:me ρ H=.ok (.int k) H) (hk:k∈ns):jG (aA a) me ρ H=.ok (.int (ix ns k)) H:=by simp[jG,h1,JH,h2,BB,DW,pos_mem hk]
theorem As {x:Int}:x∈bO n↔0<=x/\x<n:=by
 unfold bO;rw[cb];constructor
 ·rintro ⟨k,hk,rfl⟩
  have:=bu.mp hk;omega
 ·intro h;exact⟨x.toNat,bu.mpr (by omega),by omega⟩
theorem rng_up:(bO n).Pairwise (·<·):=by unfold bO;exact qg.mpr ((yh).imp λh=>by omega)
theorem sF:(bO n).Nodup:=rng_up.imp λh=>by omega
theorem pD (hr:∀x∈ns,0<=x/\x<n) (nd:ns.Nodup) (hl:ns.length=n) {x:Int}(h0:0<=x) (h1:x<n):x∈ns:=by
 by_cases c:x∈ns
 ·exact c
 ·exfalso
  have nd':(x::ns).Nodup:=ib.mpr ⟨c,nd⟩;have:=nd'.length_le_of_subset (l₂:=bO n) λy hy=>by
   rcases az.mp hy with rfl|hy
   ·exact As.mpr ⟨h0,h1⟩
   ·exact As.mpr (hr y hy)
  simp[bO]at this;omega
end
section
variable{n:Nat}{ps:dn}{H:Hs}{ns:zr}
end
open L2.Mr.Cod (bK iT iL Ai Lse)
section
variable{n:Nat}{ps:dn}{H:Hs}{ns:zr}
def mI (ps:dn) (a j:Nat):zx:=if decide (Lse ps a ((a:Int)+1+j))then some (aH ((a:Int),(a:Int)+1+j))else none
theorem NN (a:Nat):∀k,(bj k).filterMap (mI ps a)=(iL ps a k).map aH
 |0=>rfl
 |k+1=>by
  rw[si,List.filterMap_append,NN a k,iL,ic]
  congr 1
  show(List.filterMap (mI ps a) [k])=_;have ne:(a:Int)≠(a:Int)+1+k:=by omega
  by_cases c1:((a:Int),(a:Int)+1+(k:Int))∈ps
  ·simp[mI,Lse,c1]
  ·by_cases c2:((a:Int)+1+(k:Int),(a:Int))∈ps
   ·simp[mI,Lse,c1,c2]
   ·have:Lse ps a ((a:Int)+1+k):=⟨ne,c1,c2⟩
    simp[mI,this,c1,c2]
theorem NO:∀k,(bj k).flatMap (λa=>(bj (n - (a+1))).filterMap (mI ps a))=(iT n ps k).map aH
 |0=>rfl
 |k+1=>by rw[si,zq,NO k,iT,ic];simp[NN]
theorem DZ (hn:n<=6):(bK n ps).length<=36:=by
 have hB:∀k,(iT n ps k).length<=k*6:=by
  intro k
  induction k with
  |zero=>exact aj _
  |succ k ih=>rw[iT,bx];have:=Cod.looseB_len ps k (n - (k+1));omega
 have:=hB n;unfold bK;omega
def EA:M zw :=bJ (aQ cH (aB (aA 1) aC)) [none,none,some 0,some 1] (aF 0) bQ (fI (aQ hX (aB (m2 cN (aA 0) (mC (.int 1))) (aB (aA 3) aC))) (aF 1) (bI (aD F_qu (aB (aA 2) (aB (aA 0) (aB (aA 1) aC))))) (bA (aT (aB (aA 0) (aB (aA 1) aC)))))
theorem z1v:qA=aI (cC (aD F_qr (aB (aA 0) aC))) (aI (aM (m2 aO (aA 0) (mC (.int 0))) (aF 1)) (aL (bM EA))):=rfl
theorem mJ {F:zv}{a b c:Dv}{ρ:Ev}{v:Bool}(ha:aA 2 ρ=λH=>.ok a H) (hb:aA 0 ρ=λH=>.ok b H) (hc:aA 1 ρ=λH=>.ok c H) (e:F [a,b,c] H=.ok (.bl v) H):bI (aD F (aB (aA 2) (aB (aA 0) (aB (aA 1) aC)))) ρ H=.ok v H:=by simp[bI,aD,aB,ha,hb,hc,aC,e,lF]
theorem rng2M {ma mb:M Dv}{ρ:Ev}{A B:Int}(ea:ma ρ H=.ok (.int A) H) (eb:mb ρ H=.ok (.int B) H) (a0:0<=A) (a1:A<=1000) (b0:0<=B) (b1:B<=1000):aQ hX (aB ma (aB mb aC)) ρ H=.ok (bX A B) H:=by
 have h1:iH A=true:=by simp[iH];omega
 have h2:iH B=true:=by simp[iH];omega
 simp[aQ,aB,ea,eb,aC,hX,h1,h2]
theorem z1w (hn:n<=6):EA [some (aJ n ps),some (.int n)] H=.ok ((bK n ps).map aH) H:=by
 have hr:=NO (n:=n) (ps:=ps) n;have hlen:((bj n).flatMap (λa=>(bj (n - (a+1))).filterMap (mI ps a))).length<=900000:=by rw[hr,aw];have:=DZ (ps:=ps) hn;unfold bK at this;omega
 have w:EA [some (aJ n ps),some (.int n)] H=.ok ((bj n).flatMap (λa=>(bj (n - (a+1))).filterMap (mI ps a))) H:=
  MX (bj n) (λa=>bj (n - (a+1))) (mI ps) (λρ=>∃x y,ρ=[x,y,some (aJ n ps),some (.int n)]) (src:=bX 0 n) (sE rfl (by omega) (by omega)) (by simp[bX]) ⟨_,_,rfl⟩ rfl (λk hk ρ ⟨x,y,e⟩=>by
   subst e;have hk':k<n:=by simpa using hk
   have gk:(bj n)[k]=k:=List.getElem_range ..;have h00:(0+(k:Int))=(k:Int):=by omega
   refine⟨.int (0+k),[some (.int (0+k)),y,some (aJ n ps),some (.int n)],bX ((k:Int)+1) n,λρ=>∃y,ρ=[some (.int (k:Int)),y,some (aJ n ps),some (.int n)],rfl,rfl,⟨y,by rw[h00]⟩,λρ ⟨y,e⟩=>⟨_,y,e⟩, ?_, ?_,rfl, ?_⟩
   ·rw[h00];exact rng2M (A:=(k:Int)+1) (B:=(n:Int)) rfl rfl (by omega) (by omega) (by omega) (by omega)
   ·rw[gk];simp[bX];omega
   ·intro j hj ρ ⟨y,e⟩;subst e;have gj:(bj (n - ((bj n)[k]+1)))[j]=j:=List.getElem_range ..;refine⟨.int ((k:Int)+1+j),[some (.int (k:Int)),some (.int ((k:Int)+1+j)),some (aJ n ps),some (.int n)],rfl,rfl,⟨_,rfl⟩, ?_⟩;have t:=mJ (ρ:=[some (.int (k:Int)),some (.int ((k:Int)+1+j)),some (aJ n ps),some (.int n)]) rfl rfl rfl (loose_is (n:=n) (ps:=ps) (H:=H) (a:=(k:Int)) (b:=(k:Int)+1+j));rw[gj,gk];unfold mI
    cases c:decide (Lse ps (k:Int) ((k:Int)+1+j))with
    |true=>rw[c]at t;exact⟨t,rfl⟩
    |false=>rw[c]at t;exact t) hlen
 rw[hr]at w;exact w
theorem lpairs_ok (o:Ah n ps):F_qj [aJ n ps] H=.ok (.ref H.length) (H++[.lst ((bK n ps).map aH)]):=by
 have hn:=need_ok (H:=H) o;have w1:cC (aD F_qr (aB (aA 0) aC)) [some (aJ n ps),none] H=.nx [some (aJ n ps),none] H:=by generalize aJ n ps=z at hn;simp[cC,aD,aB,aA,aC,hn]
 have w2:aM (m2 aO (aA 0) (mC (.int 0))) (aF 1) [some (aJ n ps),none] H=.nx [some (aJ n ps),some (.int n)] H:=rfl;show bP (qA [some (aJ n ps),none] H)=_;rw[z1v,bH w1,bH w2];unfold aL bM;rw[z1w o.n6];rfl
def eG (ns:zr) (q:Int×Int):Int:=if(ix ns q.1:Int) - ix ns q.2<0 then -((ix ns q.1:Int) - ix ns q.2)else(ix ns q.1:Int) - ix ns q.2
theorem yO (q:Int×Int):0<=eG ns q:=by unfold eG;split <;> omega
theorem z1x {ma mb:M Dv}{ρ:Ev}{A B:Int}(ea:ma ρ H=.ok (.int A) H) (eb:mb ρ H=.ok (.int B) H):aD (f1 oE) (aB (m2 eE ma mb) aC) ρ H=.ok (.int (if A - B<0 then -(A - B)else A - B)) H:=by have hs:eE (.int A) (.int B) H=.ok (.int (A - B)) H:=rfl;have e:=eK ea eb hs;generalize A - B=C at e;generalize m2 eE ma mb=M at e;simp[aD,aB,e,aC,f1,oE]
theorem z1y {a:Nat}{m0 m1:M Dv}{ρ:Ev}{q:Int×Int}(h1:aA a ρ=λH=>.ok (.tup (ns.map Dv.int)) H) (e0:m0 ρ H=.ok (.int q.1) H) (e1:m1 ρ H=.ok (.int q.2) H) (k0:q.1∈ns) (k1:q.2∈ns):aD (f1 oE) (aB (m2 eE (jG (aA a) m0) (jG (aA a) m1)) aC) ρ H=.ok (.int (eG ns q)) H:=z1x (idx_V h1 e0 k0) (idx_V h1 e1 k1)
theorem z1z {q:Int×Int}(k0:q.1∈ns) (k1:q.2∈ns):F_qB [.tup (ns.map Dv.int),aH q] H=.ok (.int (eG ns q)) H:=by have e:=z1y (H:=H) (ns:=ns) (a:=0) (m0:=m2 aO (aA 1) (mC (.int 0))) (m1:=m2 aO (aA 1) (mC (.int 1))) (ρ:=[some (.tup (ns.map Dv.int)),some (aH q)]) (q:=q) rfl rfl rfl k0 k1;show bP (qD [some (.tup (ns.map Dv.int)),some (aH q)] H)=_;unfold qD aL;rw[e];rfl
def dU (n:Nat) (ps:dn) (ns:zr):Int:=if(bK n ps).map (eG ns)=[]then 0 else oS ((bK n ps).map (eG ns))
def uK:M zw :=bJ (bC cD (aA 1)) [none,some 0] (aF 0) bQ (bA (aD F_qB (aB (aA 1) (aB (aA 0) aC))))
theorem z20:qE=aL (m1 (pZ 0) (bM uK)):=rfl
theorem z21 {F:zv}{a b v:Dv}{x y:Nat}{ρ:Ev}(ha:aA x ρ=λH=>.ok a H) (hb:aA y ρ=λH=>.ok b H) (e:F [a,b] H=.ok v H):aD F (aB (aA x) (aB (aA y) aC)) ρ H=.ok v H:=by simp[aD,aB,ha,hb,aC,e]
theorem z22 {i:Nat}(g:getL H i=some ((bK n ps).map aH)) (hn:n<=6) (hm:∀x:Int,0<=x->x<n->x∈ns):uK [some (.tup (ns.map Dv.int)),some (.ref i)] H=.ok (((bK n ps).map (eG ns)).map Dv.int) H:=by have w:uK [some (.tup (ns.map Dv.int)),some (.ref i)] H=.ok ((bK n ps).filterMap λq=>some (.int (eG ns q))) H:=iK (bK n ps) (λq=>some (.int (eG ns q))) (λρ=>∃a,ρ=[a,some (.tup (ns.map Dv.int))]) (src:=bZ i ((bK n ps).map aH).length) (by simp[bC,aA,cD,g]) (by simp[bZ]) ⟨_,rfl⟩ (by simp[bZ,g]) (λk hk ρ ⟨a,e⟩=>by subst e;refine⟨aH (bK n ps)[k],[some (aH (bK n ps)[k]),some (.tup (ns.map Dv.int))],by simp[bZ,g,hk],rfl,⟨_,rfl⟩,rfl, ?_⟩;have r:=Ai.mp (dk hk);exact z21 rfl rfl (z1z (hm _ r.1 (by omega)) (hm _ (by omega) (by omega)))) (by have:=DZ (ps:=ps) hn;omega);rw[w,iw];simp[yw]
theorem ga_ok {i:Nat}(g:getL H i=some ((bK n ps).map aH)) (hn:n<=6) (hm:∀x:Int,0<=x->x<n->x∈ns):∃H',F_qd [.tup (ns.map Dv.int),.ref i] H=.ok (.int (dU n ps ns)) H'/\Fr [] H H':=by
 have e:=z22 (H:=H) g hn hm;have ea:bM uK [some (.tup (ns.map Dv.int)),some (.ref i)] H=.ok (.ref H.length) (H++[.lst (((bK n ps).map (eG ns)).map Dv.int)]):=by unfold bM;rw[e];rfl
 have g2:getL (H++[Ob.lst (((bK n ps).map (eG ns)).map Dv.int)]) H.length=some (((bK n ps).map (eG ns)).map Dv.int):=Cod.last_get;have f:Fr [] H (H++[Ob.lst (((bK n ps).map (eG ns)).map Dv.int)]):=Fr.app;unfold dU;generalize (bK n ps).map (eG ns)=L at ea g2 f;generalize H++[Ob.lst (L.map Dv.int)]=H1 at ea g2 f;refine⟨H1, ?_,f⟩;show bP (qE [some (.tup (ns.map Dv.int)),some (.ref i)] H)=_;rw[z20];generalize bM uK=M at ea;generalize ns.map Dv.int=ys at ea;simp[aL,m1,ea,pZ,g2,DW,bP]
end
section
variable{n:Nat}{ps:dn}{H:Hs}{ns:zr}
theorem for_ret {src:Src}{sg:dI}{b:MS}{f k:Nat}{ρ ρ1:Ev}{H H2:Hs}{d v:Dv}(hg:src.get k H=some d) (hs:sg d ρ=some ρ1) (hb:b ρ1 H=.rt v H2):eC src sg b (f+1) k ρ H=.rt v H2:=by simp[eC,hg,hs,hb]
theorem eq_int (a b:Int):bE (.int a) (.int b) H=.ok (.bl (decide (a=b))) H:=by
 have:(a==b)=decide (a=b):=by rw[dy];simp
 simp[bE,cQ,cB,bN,this]
end
theorem NP {α:Type}{p q:α->Bool}:∀{l:List α},(∀x∈l,p x=true->q x=true)->(∃a∈l,q a=true/\p a=false)->(l.filter p).length<(l.filter q).length
 | [],_,⟨_,h,_⟩=>nomatch h
 |x::l,h,⟨a,ha,hq,hp⟩=>by
  have le:(l.filter p).length<=(l.filter q).length:=by
   clear hq hp ha
   have h':∀x∈l,p x=true->q x=true:=λy hy=>h y (aq _ hy)
   clear h
   induction l with
   |nil=>exact aj _
   |cons y l ih=>
    have i:=ih λz hz=>h' z (aq _ hz);have hy:=h' y (ax ..);rw[jv,jv]
    cases c:p y with
    |true=>rw[hy c];simpa using i
    |false=>
     cases c2:q y with
     |true=>simp;omega
     |false=>simpa using i
  rw[jv,jv]
  rcases az.mp ha with rfl|ha
  ·rw[hq,hp];simp;omega
  ·have i:=NP (l:=l) (λy hy=>h y (aq _ hy)) ⟨a,ha,hq,hp⟩;have hx:=h x (ax ..)
   cases c:p x with
   |true=>rw[hx c];simpa using i
   |false=>
    cases c2:q x with
    |true=>simp;omega
    |false=>simpa using i
section
variable{n st:Nat}{ps:dn}{H:Hs}{xs:zr}
theorem EC (o:Ah n ps) {left:zr}:∀(m:Nat) (x:Int),x∈left->(left.filter λa=>decide ((a,x)∈ps)).length<=m->∃z∈left,∀a∈left,(a,z)∉ps
 |m,x,hx,hm=>by
  by_cases c:∃a∈left,(a,x)∈ps
  ·obtain⟨a,ha,hp⟩:=c;have lt:=NP (l:=left) (p:=λb=>decide ((b,a)∈ps)) (q:=λb=>decide ((b,x)∈ps)) (λb _ hb=>by simp only[decide_eq_true_eq]at hb ⊢;exact o.tr _ hb _ hp rfl) ⟨a,ha,by simpa using hp,by simp;exact λz=>o.irr _ z rfl⟩
   match m,hm with
   |0,hm=>omega
   |m+1,hm=>exact EC o m a ha (by omega)
  ·exact⟨x,hx,λa ha hp=>c ⟨a,ha,hp⟩⟩
def hJ (n:Nat) (xs:zr):zr:=(bO n).filter λx=>!decide (x∈xs)
theorem al_eq {m:M zw }{ρ:Ev}{zs:zr}(e:m ρ H=.ok (zs.map Dv.int) H):∃H',mB (m2 bE (bM m) (cA aC)) ρ H=.ok (decide (zs=[])) H'/\Fr [] H H':=by
 have ea:bM m ρ H=.ok (.ref H.length) (H++[.lst (zs.map Dv.int)]):=by unfold bM;rw[e];rfl
 have g:getL (H++[Ob.lst (zs.map Dv.int)]) H.length=some (zs.map Dv.int):=Cod.last_get;have f:Fr [] H (H++[Ob.lst (zs.map Dv.int)]):=Fr.app;generalize H++[Ob.lst (zs.map Dv.int)]=H1 at ea g f;have g2:getL (H1++[Ob.lst []]) H1.length=some (([]:zr).map Dv.int):=Cod.last_get;have q:=z0v (lM (l:=[Ob.lst []]) g) g2;refine⟨H1++[.lst []], ?_,f.trans (T:=[]) Fr.app (by simp)⟩;generalize bM m=M at ea;simp[mB,m2,ea,cA,aC,lim,q,gJ]
end
open L2.Mr.Cod (last_get)
section
variable{st:Nat}{H:Hs}{ρ:Ev}{ds:zw}{a b:Nat}{y:Dv}
end
section
variable{c:Nat}(hc:c=0∨c=5) {H:Hs}{x0 x2 x3:zx}
include hc
end
section
variable{n m:Nat}{H H':Hs}{i j:Nat}
end
end L2.Mr.K05
namespace L2.Mr.Sam
open PySem PySem.Spec PyProof.Rows L2 L2.Mr L2.Mr.Gen
open L2.Mr.Com
section
variable{H:Hs}
end
end L2.Mr.Sam
namespace L2.Mr.K04
open PySem PySem.Spec PyProof.Rows L2 L2.Mr L2.Mr.Gen
open L2.Mr.Com
open L2.Mr.Sam
open L2.Mr.Cod (last_get)
open L2.Mr.K05 (ix hJ jJ uJ iM qK As sF pD al_eq idx_V)
abbrev aR (r:zr):Dv:=.tup (r.map Dv.int)
def ext (n:Nat) (rs:wo):wo:=rs.flatMap λr=>(hJ n r).map λx=>r++[x]
def iA (n:Nat):Nat->wo
 |0=>[[]]
 |k+1=>ext n (iA n k)
def wt (ps:dn) (r:zr):zr:=(ps.filter λq=>!decide (q.1∈r)).map λq=>q.2
def cP (n:Nat) (ps:dn) (r:zr):zr:=(bO n).filter λx=>!decide (x∈r)&&!decide (x∈wt ps r)
def kY (n:Nat) (ps:dn) (rs:wo):wo:=rs.flatMap λr=>(cP n ps r).map λx=>r++[x]
def cR (n:Nat) (ps:dn):Nat->wo
 |0=>[[]]
 |k+1=>kY n ps (cR n ps k)
def iU (ps:dn) (r:zr):Bool:=ps.all λq=>!decide (q.2∈r)||(decide (q.1∈r)&&decide (ix r q.1<ix r q.2))
section
variable{n:Nat}{ps:dn}{r:zr}
theorem Bq:iU ps r=true↔∀q∈ps,q.2∈r->q.1∈r/\ix r q.1<ix r q.2:=by
 unfold iU;rw[ff];refine forall_congr' λq=>forall_congr' λ_=>?_
 by_cases h:q.2∈r <;> simp[h]
theorem Df {x:Int}:x∈wt ps r↔∃q∈ps,q.1∉r/\q.2=x:=by simp only[wt,cb,gd,mr,decide_eq_false_iff_not,and_assoc]
theorem NQ (o:Ah n ps) {x:Int}(hx:x∉r):iU ps (r++[x])=(iU ps r&&!decide (x∈wt ps r)):=by
 rw[dy,da,Bq,Bq,mr,decide_eq_false_iff_not,Df];constructor
 ·intro h;refine⟨λq hq h2=>?_, ?_⟩
  ·obtain⟨a,b⟩:=h q hq (fg _ h2);rw[jJ h2]at b;have l2:=iM h2
   rcases cq.mp a with a|a
   ·rw[jJ a]at b;exact⟨a,b⟩
   ·simp only[bo]at a;rw[a,uJ hx]at b;omega
  ·rintro ⟨q,hq,h1,h2⟩
   obtain⟨a,_⟩:=h q hq (by rw[h2];simp)
   rcases cq.mp a with a|a
   ·exact h1 a
   ·simp only[bo]at a;exact o.irr q hq (a.trans h2.symm)
 ·rintro ⟨h,hw⟩ q hq h2
  rcases cq.mp h2 with h2|h2
  ·obtain⟨a,b⟩:=h q hq h2;exact⟨fg _ a,by rw[jJ a,jJ h2];exact b⟩
  ·simp only[bo]at h2;have a:q.1∈r:=Classical.byContradiction λh1=>hw ⟨q,hq,h1,h2⟩;exact⟨fg _ a,by rw[jJ a,h2,uJ hx];exact iM a⟩
theorem z23 (o:Ah n ps):((hJ n r).map λx=>r++[x]).filter (iU ps)=if iU ps r then(cP n ps r).map λx=>r++[x]else[]:=by
 rw[List.filter_map];unfold hJ cP;rw[List.filter_filter]
 cases c:iU ps r with
 |true=>
  rw[if_pos rfl]
  congr 1
  refine List.filter_congr λx _=>?_
  by_cases hx:x∈r
  ·simp[hx]
  ·simp[hx,NQ o hx,c]
 |false=>
  rw[if_neg (by decide)];have:((bO n).filter λx=>(iU ps∘λx=>r++[x]) x&&!decide (x∈r))=[]:=yj.mpr λx _=>by
   by_cases hx:x∈r
   ·simp[hx]
   ·simp[hx,NQ o hx,c]
  rw[this];rfl
theorem z24 (o:Ah n ps) (rs:wo):(ext n rs).filter (iU ps)=kY n ps (rs.filter (iU ps)):=by
 induction rs with
 |nil=>rfl
 |cons r rs ih=>
  have h1:ext n (r::rs)=((hJ n r).map λx=>r++[x])++ext n rs:=rfl;rw[h1,List.filter_append,ih,z23 o,jv]
  cases iU ps r with
  |true=>rfl
  |false=>rfl
theorem rws_eq (o:Ah n ps):∀k,cR n ps k=(iA n k).filter (iU ps)
 |0=>by
  have:iU ps []=true:=Bq.mpr λq _ h=>by simp at h
  simp[cR,iA,this]
 |k+1=>by show kY n ps (cR n ps k)=(ext n (iA n k)).filter (iU ps);rw[rws_eq o k,z24 o]
theorem Bg {x:Int}:x∈hJ n r↔(0<=x/\x<n)/\x∉r:=by unfold hJ;rw[gd,As];simp
theorem prm_mem:∀k,∀r∈iA n k,r.length=k/\r.Nodup/\∀x∈r,0<=x/\x<n
 |0,r,h=>by simp[iA]at h;subst h;simp
 |k+1,r,h=>by
  simp only[iA,ext,iq,cb]at h;obtain⟨s,hs,x,hx,rfl⟩:=h;obtain⟨a,b,c⟩:=prm_mem k s hs;rw[Bg]at hx;refine⟨by simp[a], ?_,λy hy=>?_⟩
  ·rw[uw];exact⟨b,by simp,λu hu v hv=>by simp only[bo]at hv;subst hv;intro e;exact hx.2 (e▸hu)⟩
  ·rcases cq.mp hy with hy|hy
   ·exact c y hy
   ·simp only[bo]at hy;subst hy;exact hx.1
theorem z25 (hn:n<=6):(hJ n r).length<=6:=by have:=kj (λx=>!decide (x∈r)) (bO n);simp[bO]at this;unfold hJ;simp[bO];omega
theorem z26 (hn:n<=6) (rs:wo):(ext n rs).length<=rs.length*6:=by
 induction rs with
 |nil=>simp[ext]
 |cons r rs ih=>have h1:ext n (r::rs)=((hJ n r).map λx=>r++[x])++ext n rs:=rfl;have:=z25 (n:=n) (r:=r) hn;rw[h1,bx,aw,cp];omega
theorem NR (hn:n<=6):∀k,(iA n k).length<=6 ^ k
 |0=>by simp[iA]
 |k+1=>by have h1:=z26 hn (iA n k);have h2:=NR hn k;show(ext n (iA n k)).length<=_;rw[Nat.pow_succ];omega
theorem z27 (hn:n<=6) {k:Nat}(hk:k<=n):(iA n k).length<=46656:=di (NR hn k) (show 6 ^ k<=6 ^ 6 from zk (by decide) (by omega))
theorem uL (o:Ah n ps) {k:Nat}(hk:k<=n):(cR n ps k).length<=46656:=by rw[rws_eq o];exact di (kj _ _) (z27 o.n6 hk)
theorem rws_mem (o:Ah n ps) {k:Nat}(h:r∈cR n ps k):r.length=k:=by rw[rws_eq o]at h;exact(prm_mem k r (gd.mp h).1).1
end
abbrev yP:M zw :=bJ (bC dZ (aA 3)) [none,none,some 1] (cM 2 (aU (aF 0) (aU (aF 1) cO))) (mB (m2 (bU true) (aA 0) (aA 2))) (bA (aA 1))
abbrev ED:M zw :=bJ (aQ cH (aB (aA 2) aC)) [none,some 1,some 4] (aF 0) (dW (mB (m2 (bU true) (aA 0) (aA 1))) (mB (m2 (bU true) (aA 0) (aA 2)))) (bA (aA 0))
theorem z28:qB=aI (aM (aA 0) (cM 2 (aU (aF 2) (aU (aF 3) cO)))) (aI (aM (bM yP) (aF 4)) (aL (bM ED))):=rfl
section
variable{n st:Nat}{ps:dn}{H:Hs}{ρ:Ev}{r:zr}
theorem z29 (o:Ah n ps) {x0 x2 x4:zx}:yP [x0,some (aR r),x2,some (.tup (ps.map aH)),x4] H=.ok ((wt ps r).map Dv.int) H:=by
 have w:yP [x0,some (aR r),x2,some (.tup (ps.map aH)),x4] H=.ok (ps.filterMap λq=>if !decide (q.1∈r)then some ((λq:Int×Int=>Dv.int q.2) q)else none) H:=
  iK ps _ (λρ=>∃a b,ρ=[a,b,some (aR r)]) (src:=dO (ps.map aH)) rfl (by simp[dO]) ⟨_,_,rfl⟩ rfl (λk hk ρ ⟨a,b,e⟩=>by
   subst e;refine⟨aH ps[k],[some (.int ps[k].1),some (.int ps[k].2),some (aR r)],by simp[dO,hk],rfl,⟨_,_,rfl⟩, ?_⟩;have t2:bU true (.int ps[k].1) (aR r) H=.ok (.bl (!decide (ps[k].1∈r))) H:=tR true H ps[k].1 r;generalize aR r=ys at t2 ⊢
   cases c2:!decide (ps[k].1∈r)with
   |true=>rw[c2]at t2;simp[mB,m2,aA,t2,gJ]
   |false=>rw[c2]at t2;simp[mB,m2,aA,t2,gJ]) (by have:=o.len;omega)
 have:=w.trans (congrArg (λl=>Rs.ok l _) (yN _ _ _));unfold wt;rw[iw];exact this
theorem z2a (hn:n<=6) {x0 x3:zx}{i:Nat}{ws:zr}(g:getL H i=some (ws.map Dv.int)):ED [x0,some (aR r),some (.int n),x3,some (.ref i)] H=.ok (((bO n).filter λx=>!decide (x∈r)&&!decide (x∈ws)).map Dv.int) H:=by
 have w:ED [x0,some (aR r),some (.int n),x3,some (.ref i)] H=.ok ((bO n).filterMap λx=>if(!decide (x∈r)&&!decide (x∈ws))then some (Dv.int x)else none) H:=
  iK (bO n) _ (λρ=>∃a,ρ=[a,some (aR r),some (.ref i)]) (src:=bX 0 n) (sE (m:=aA 2) rfl (by omega) (by omega)) (by simp[bX,bO]) ⟨_,rfl⟩ rfl (λk hk ρ ⟨a,e1⟩=>by
   subst e1;have gk:(bO n)[k]=(k:Int):=by simp[bO]
   refine⟨.int (0+k),[some (.int (0+k)),some (aR r),some (.ref i)],rfl,rfl,⟨_,rfl⟩, ?_⟩;have h00:(0+(k:Int))=(k:Int):=by omega
   rw[gk,h00];have t1:bU true (.int k) (aR r) H=.ok (.bl (!decide ((k:Int)∈r))) H:=tR true H (k:Int) r;have t2:bU true (.int k) (.ref i) H=.ok (.bl (!decide ((k:Int)∈ws))) H:=DX true (k:Int) g;generalize aR r=ys at t1 ⊢
   cases c1:!decide ((k:Int)∈r)with
   |false=>rw[c1]at t1;simp[dW,mB,m2,aA,t1,gJ]
   |true=>
    rw[c1]at t1
    cases c2:!decide ((k:Int)∈ws)with
    |true=>rw[c2]at t2;simp[dW,mB,m2,aA,t1,t2,gJ]
    |false=>rw[c2]at t2;simp[dW,mB,m2,aA,t1,t2,gJ]) (by simp[bO];omega)
 exact w.trans (congrArg (λl=>Rs.ok l _) (yN _ _ _))
theorem kZ {C:M zw }{xs:zw}{H1:Hs}(e:C ρ H=.ok xs H1):bM C ρ H=.ok (.ref H1.length) (H1++[.lst xs]):=by unfold bM;rw[e];rfl
theorem mK {C:M zw }{xs:zw}{H1:Hs}(e:C ρ H=.ok xs H1):bP (aL (bM C) ρ H)=.ok (.ref H1.length) (H1++[.lst xs]):=by unfold aL;rw[kZ e];rfl
theorem may_ok (o:Ah n ps):∃i H',F_q5 [aJ n ps,aR r] H=.ok (.ref i) H'/\getL H' i=some ((cP n ps r).map Dv.int)/\Fr [] H H':=by
 have e1:=z29 (H:=H) (r:=r) (x0:=some (aJ n ps)) (x2:=some (.int n)) (x4:=none) o;obtain⟨H1,hH1⟩:∃H1,H1=H++[Ob.lst ((wt ps r).map Dv.int)]:=⟨_,rfl⟩
 have g1:getL H1 H.length=some ((wt ps r).map Dv.int):=by rw[hH1];exact last_get
 have f1:Fr [] H H1:=by rw[hH1];exact Fr.app
 have e2:=z2a (n:=n) (r:=r) (x0:=some (aJ n ps)) (x3:=some (.tup (ps.map aH))) o.n6 g1;rw[show((bO n).filter λx=>!decide (x∈r)&&!decide (x∈wt ps r))=cP n ps r from rfl]at e2;refine⟨H1.length,H1++[Ob.lst ((cP n ps r).map Dv.int)], ?_,last_get,f1.trans (T:=[]) Fr.app (by simp)⟩;have w1:aM (aA 0) (cM 2 (aU (aF 2) (aU (aF 3) cO))) [some (aJ n ps),some (aR r),none,none,none] H=.nx [some (aJ n ps),some (aR r),some (.int n),some (.tup (ps.map aH)),none] H:=rfl;have w2:aM (bM yP) (aF 4) [some (aJ n ps),some (aR r),some (.int n),some (.tup (ps.map aH)),none] H=.nx [some (aJ n ps),some (aR r),some (.int n),some (.tup (ps.map aH)),some (.ref H.length)] H1:=by rw[hH1];exact DY e1 rfl
 show bP (qB [some (aJ n ps),some (aR r),none,none,none] H)=_;rw[z28,bH w1,bH w2];exact mK e2
abbrev yQ:MC:=fI (bC cD (aD F_q5 (aB (aA 2) (aB (aA 0) aC)))) (aF 1) bQ (bA (m2 cN (aA 0) (aT (aB (aA 1) aC))))
abbrev EE:M zw :=bJ (bC cD (aA 1)) [none,none,some 0] (aF 0) bQ yQ
theorem z2b:qC=aI (cC (aD F_qr (aB (aA 0) aC))) (aI (aM (cA (aB (aT aC) aC)) (aF 1)) (aI (dR (aQ cH (aB (m2 aO (aA 0) (mC (.int 0))) aC)) (aF 2) (aM (bM EE) (aF 1))) (aL (aA 1)))):=rfl
theorem add_one {i j:Nat}{x:Int}(hr:r.length<=100) (h0:aA i ρ=λH=>.ok (aR r) H) (h1:aA j ρ=λH=>.ok (.int x) H):m2 cN (aA i) (aT (aB (aA j) aC)) ρ H=.ok (aR (r++[x])) H:=by
 have e2:aT (aB (aA j) aC) ρ H=.ok (.tup [.int x]) H:=by simp[aT,aB,h1,aC,lim]
 have a:=z1u (r.map Dv.int) [.int x] (by simp;omega) (H:=H);have e3:=eK (ma:=aA i) (H1:=H) (x:=aR r) (by rw[h0]) e2 a;have hc:r.map Dv.int++[.int x]=(r++[x]).map Dv.int:=by simp
 rw[hc]at e3;exact e3
theorem src_2 {F:zv}{a b:Dv}{x y i:Nat}{H1:Hs}{xs:zw}(ha:aA x ρ=λH=>.ok a H) (hb:aA y ρ=λH=>.ok b H) (e:F [a,b] H=.ok (.ref i) H1) (g:getL H1 i=some xs):bC cD (aD F (aB (aA x) (aB (aA y) aC))) ρ H=.ok (bZ i xs.length) H1:=by simp[bC,aD,aB,ha,hb,aC,e,cD,g]
theorem z2c (o:Ah n ps) (hr:r.length<=100) {b:zx}{acc:zw}(hl:acc.length+((cP n ps r).map λx=>aR (r++[x])).length<=900000):∃b' H',yQ [some (aR r),b,some (aJ n ps)] H acc=.ok ([some (aR r),b',some (aJ n ps)],acc++(cP n ps r).map λx=>aR (r++[x])) H'/\Fr [] H H':=by
 obtain⟨i,H1,e1,g1,f1⟩:=may_ok (H:=H) (r:=r) o;have fm:∀l:zr,(l.flatMap λx=>[aR (r++[x])])=l.map λx=>aR (r++[x]):=λl=>by
  induction l with
  |nil=>rfl
  |cons x l ih=>rw[gg,ih];rfl
 have es:=src_2 (F:=F_q5) (ρ:=[some (aR r),b,some (aJ n ps)]) (x:=2) (y:=0) rfl rfl e1 g1;obtain⟨ρ',H',e,⟨b',eb⟩,eh⟩:=rV (src:=bZ i ((cP n ps r).map Dv.int).length) (sg:=aF 1) (t:=bQ) (m:=bA (m2 cN (aA 0) (aT (aB (aA 1) aC)))) (cP n ps r) (λx=>[aR (r++[x])]) (λρ h=>(∃b,ρ=[some (aR r),b,some (aJ n ps)])/\h=H1)
  (λρ h s=>by rw[s.2];simp[bZ,g1])
  (λk hk ρ h ⟨⟨b,e⟩,eh⟩=>by subst e;subst eh;refine⟨.int (cP n ps r)[k],[some (aR r),some (.int (cP n ps r)[k]),some (aJ n ps)],by simp[bZ,g1,hk],rfl,.inr ⟨_,rfl,λacc hl=>⟨_,_,rW (add_one (i:=0) (j:=1) hr rfl rfl) hl,⟨_,rfl⟩,rfl⟩⟩⟩)
  (cP n ps r).length 0 [some (aR r),b,some (aJ n ps)] H1 acc (by omega) ⟨⟨_,rfl⟩,rfl⟩ (by rw[pg,fm];exact hl)
 subst eb;subst eh;rw[pg,fm]at e;refine⟨b',H', ?_,f1⟩;unfold yQ fI;rw[es];dsimp only;rw[aw]at e ⊢;exact e
theorem NS (rs:wo):(rs.flatMap λr=>(cP n ps r).map λx=>aR (r++[x]))=(kY n ps rs).map aR:=by
 induction rs with
 |nil=>rfl
 |cons r rs ih=>have h1:kY n ps (r::rs)=((cP n ps r).map λx=>r++[x])++kY n ps rs:=rfl;rw[gg,ih,h1,ic,iw];rfl
theorem z2d (o:Ah n ps) {x2:zx}{i:Nat}{rs:wo}(g:getL H i=some (rs.map aR)) (hr:∀r∈rs,r.length<=100) (hl:(kY n ps rs).length<=900000):∃H',EE [some (aJ n ps),some (.ref i),x2] H=.ok ((kY n ps rs).map aR) H'/\Fr [] H H':=by
 obtain⟨ρ',H',h,_,f⟩:=qG (mi:=bC cD (aA 1)) (cap:=[none,none,some 0]) (src:=bZ i (rs.map aR).length) (sg:=aF 0) (t:=bQ) (m:=yQ) (ρ:=[some (aJ n ps),some (.ref i),x2]) (H:=H) (H1:=H) rs (λr=>(cP n ps r).map λx=>aR (r++[x])) (λρ Hx=>(∃a b,ρ=[a,b,some (aJ n ps)])/\Fr [] H Hx) (by simp[bC,aA,cD,g]) (by simp[bZ]) ⟨⟨_,_,rfl⟩,Fr.refl⟩ (λρ Hx s=>by have gx:=s.2.getL g (by simp);simp[bZ,gx])
  (λk hk ρ Hx ⟨⟨a,b,e⟩,f⟩=>by subst e;have gx:=f.getL g (by simp);refine⟨aR rs[k],[some (aR rs[k]),b,some (aJ n ps)],by simp[bZ,gx,hk],rfl,.inr ⟨Hx,rfl,λacc hl=>?_⟩⟩;obtain⟨b',Hy,ea,fa⟩:=z2c (H:=Hx) (b:=b) o (hr _ (dk hk)) hl;exact⟨_,Hy,ea,⟨_,_,rfl⟩,f.trans fa (by simp)⟩) (by rw[NS,aw];exact hl)
 exact⟨H',by rw[<-NS];exact h,f⟩
theorem all_ok (o:Ah n ps):∃i H',F_q0 [aJ n ps] H=.ok (.ref i) H'/\getL H' i=some ((cR n ps n).map aR)/\Fr [] H H'/\H.length<=i:=by
 have n6:=o.n6;have w0:cC (aD F_qr (aB (aA 0) aC)) [some (aJ n ps),none,none] H=.nx [some (aJ n ps),none,none] H:=by have e:F_qr [aJ n ps] H=.ok .non H:=Cod.need_ok o;generalize F_qr=F at e;generalize aJ n ps=z at e;simp[cC,aD,aB,aA,aC,e]
 have w1:aM (cA (aB (aT aC) aC)) (aF 1) [some (aJ n ps),none,none] H=.nx [some (aJ n ps),some (.ref H.length),none] (H++[.lst [aR []]]):=rfl;have hi:aQ cH (aB (m2 aO (aA 0) (mC (.int 0))) aC) [some (aJ n ps),some (.ref H.length),none] (H++[.lst [aR []]])=.ok (bX 0 n) (H++[.lst [aR []]]):=sE (L:=n) rfl (by omega) (by omega);have hN:(bX 0 (n:Int)).n=n:=by simp[bX]
 obtain⟨ρ',H',h1,i,y2,h2,h3,h4,h5⟩:=tP (b:=aM (bM EE) (aF 1)) (sg:=aF 2) hi
  (λk ρ H'=>∃(i:Nat) (y2:zx),ρ=[some (aJ n ps),some (.ref i),y2]/\getL H' i=some ((cR n ps k).map aR)/\Fr [] H H'/\H.length<=i)
  (λk ρ H' hk ⟨i,y2,e1,e2,e3,e4⟩=>by subst e1;rw[hN]at hk;have hl:(cR n ps (k+1)).length<=46656:=uL o (by omega);obtain⟨H2,b1,b2⟩:=z2d (H:=H') (x2:=some (.int (0+(k:Int)))) o e2 (λr hr=>by rw[rws_mem o hr];omega) (show(cR n ps (k+1)).length<=900000 by omega);have f:=e3.trans b2 (T:=[]) (by simp);exact⟨.int (0+(k:Int)),[some (aJ n ps),some (.ref i),some (.int (0+(k:Int)))],_,_,rfl,rfl,DY b1 rfl,H2.length,_,rfl,last_get,f.trans (T:=[]) Fr.app (by simp),f.le⟩) (λ_ _ _=>rfl) ⟨H.length,none,rfl,last_get,Fr.app,aj _⟩
 rw[hN]at h3;refine⟨i,H', ?_,h3,h4,h5⟩;show bP (qC [some (aJ n ps),none,none] H)=_;rw[z2b,bH w0,bH w1,bH h1,h2];rfl
end
open L2.Mr.Cod (last_get)
section
variable{n st:Nat}{ps:dn}{H:Hs}{ρ:Ev}{r:zr}
end
section
variable{c:Nat}(hc:c=0) {H:Hs}{x0 x2 x3:zx}
include hc
end
section
variable{H H':Hs}{ρ:Ev}{p t k c s:Nat}{ks js:zt}{lc:Nat->Option (zt×M Dv)}
end
end L2.Mr.K04
namespace L2.Mr.Gen
open PySem PySem.Spec PyProof.Rows L2 L2.Mr
abbrev At (ρ:Ev) (i:Nat) (d:Dv):Prop:=ρ[i]?=some (some d)
section
variable{ρ:Ev}{i j:Nat}{d:Dv}{H H':Hs}
theorem At.v (h:At ρ i d):aA i ρ=λH=>.ok d H:=by funext H;unfold aA;rw[h]
theorem At.new (h:i<ρ.length):At (ρ.set i (some d)) i d:=by simp[At,h]
theorem At.o (h:At ρ j d) {x:zx}(hn:i≠j:=by decide):At (ρ.set i x) j d:=(gr hn).trans h
theorem sG {m:M Dv}{v:Dv}(e:m ρ H=.ok v H'):aM m (aF i) ρ H=.nx (ρ.set i (some v)) H':=qJ e rfl
end
end L2.Mr.Gen
namespace L2.Mr.K06
open PySem PySem.Spec PyProof.Rows L2 L2.Mr L2.Mr.Gen
open L2.Mr.Com
open L2.Mr.Sam
open L2.Mr.Cod (last_get bK Ai)
open L2.Mr.K04 (aR cR iA rws_eq rws_mem uL prm_mem cP wt kY Df Bg kZ mK)
open L2.Mr.K05 (ix iM hJ As sF pD dU eG yO EC DZ)
section
variable{n:Nat}{ps:dn}{r:zr}
theorem may_ne (o:Ah n ps) {k:Nat}(hr:r∈cR n ps k) (hk:k<n):cP n ps r≠[]:=by
 have hl:=rws_mem o hr;have ex:∃x,x∈hJ n r:=by
  by_cases c:∃x,x∈hJ n r
  ·exact c
  ·exfalso
   have sub:∀x∈bO n,x∈r:=λx hx=>by
    by_cases d:x∈r
    ·exact d
    ·exact absurd ⟨x,gd.mpr ⟨hx,by simpa using d⟩⟩ c
   have:=(sF (n:=n)).length_le_of_subset sub;simp[bO]at this;omega
 obtain⟨x0,hx0⟩:=ex;obtain⟨z,hz,hmin⟩:=EC o (left:=hJ n r) _ x0 hx0 (aj _);have hz':=Bg.mp hz;refine ph (a:=z) (gd.mpr ⟨As.mpr hz'.1, ?_⟩);have hw:z∉wt ps r:=λh=>by obtain⟨q,hq,h1,h2⟩:=Df.mp h;have rg:=o.rng q hq;exact hmin q.1 (Bg.mpr ⟨⟨rg.1,rg.2.1⟩,h1⟩) (by rw[<-h2];exact hq)
 simp[hz'.2,hw]
theorem NT (o:Ah n ps):∀k,k<=n->cR n ps k≠[]
 |0,_=>by simp[cR]
 |k+1,h=>by obtain⟨r,hr⟩:=pz _ (NT o k (by omega));obtain⟨x,hx⟩:=pz _ (may_ne o hr (by omega));exact ph (iq.mpr ⟨r,hr,cb.mpr ⟨x,hx,rfl⟩⟩)
theorem NU (o:Ah n ps) (hr:r∈cR n ps n):∀x:Int,0<=x->x<n->x∈r:=λx h0 h1=>by rw[rws_eq o]at hr;obtain⟨a,b,c⟩:=prm_mem n r (gd.mp hr).1;exact pD c b a h0 h1
def mM (n:Nat) (ps:dn):zr:=(cR n ps n).map (dU n ps)
theorem uM (o:Ah n ps):mM n ps≠[]:=by have:=NT o n (aj n);simpa[mM]using this
end
end L2.Mr.K06
namespace L2.Mr.Sp
open PySem PySem.Spec PyProof.Rows L2 L2.Mr L2.Mr.Com
open L2.Mr.Cod (bK Ai Lse)
open L2.Mr.K04 (cR iA ext rws_eq prm_mem Bq Bg)
open L2.Mr.K05 (ix iM qK jJ hJ As sF pD dU eG yO)
open L2.Mr.K06 (mM uM NU)
section
variable{n m:Nat}{ps qs:dn}{r l:zr}
theorem EF {x a:Int}(h:a∈x::l):ix (x::l) a=if x=a then 0 else ix l a+1:=by
 show(if x=a then some 0 else(eY a l).map (·+1)).getD 0=_
 split
 ·rfl
 ·rename_i c;rw[K05.pos_mem ((az.mp h).resolve_left λz=>c z.symm)];rfl
theorem NV:∀(k:Nat) (r:zr),r.length=k->(∀x∈r,0<=x/\x<n)->r.Nodup->r∈iA n k
 |0,r,h,_,_=>by rw[mm.mp h];simp[iA]
 |k+1,r,h,hr,nd=>by
  have hne:r≠[]:=by rintro rfl;simp at h
  have e:=oh hne;have nd':=nd;rw[<-e]at nd';have nd2:=uw.mp nd';have hl:r.dropLast.length=k:=by simp[h]
  have:=NV k r.dropLast hl (λx hx=>hr x (by rw[<-e];exact fg _ hx)) nd2.1;rw[<-e];refine iq.mpr ⟨r.dropLast,this,cb.mpr ⟨r.getLast hne,Bg.mpr ⟨hr _ (List.getLast_mem hne),λz=>?_⟩,rfl⟩⟩;exact nd2.2.2 _ z _ (by simp) rfl
structure Cf (n:Nat) (ps:dn) (r:zr):Prop where
 rng:∀x∈r,0<=x/\x<n
 nd:r.Nodup
 len:r.length=n
 up:∀q∈ps,ix r q.1<ix r q.2
theorem Cf.mem (h:Cf n ps r) {x:Int}(h0:0<=x) (h1:x<n):x∈r:=pD h.rng h.nd h.len h0 h1
theorem yR (o:Ah n ps):r∈cR n ps n↔Cf n ps r:=by
 rw[rws_eq o,gd];constructor
 ·rintro ⟨h,k⟩
  obtain⟨a,b,c⟩:=prm_mem n r h;refine⟨c,b,a,λq hq=>?_⟩;have g:=o.rng q hq;exact(Bq.mp k q hq (pD c b a g.2.2.1 g.2.2.2)).2
 ·intro h;refine⟨NV n r h.len h.rng h.nd,Bq.mpr λq hq _=>?_⟩;have g:=o.rng q hq;exact⟨h.mem g.1 g.2.1,h.up q hq⟩
abbrev fF (n:Nat) (ps:dn):Int:=kT (mM n ps)
theorem NW (o:Ah n ps) (h:Cf n ps r):fF n ps<=dU n ps r:=(L2.Mr.minI_is (uM o)).2 _ (cb.mpr ⟨r,(yR o).mpr h,rfl⟩)
theorem yS (o:Ah n ps):∃r,Cf n ps r/\dU n ps r=fF n ps:=by obtain⟨r,hr,e⟩:=cb.mp (L2.Mr.minI_is (uM o)).1;exact⟨r,(yR o).mp hr,e⟩
theorem NX:0<=dU n ps r:=by
 unfold dU
 split
 ·omega
 ·rename_i h;obtain⟨q,hq,e⟩:=cb.mp (L2.Mr.maxI_is h).1;rw[<-e];exact yO q
theorem EG {S:Int}(h0:0<=S) (h:∀q∈bK n ps,eG r q<=S):dU n ps r<=S:=by
 unfold dU
 split
 ·exact h0
 ·rename_i c;obtain⟨q,hq,e⟩:=cb.mp (L2.Mr.maxI_is c).1;rw[<-e];exact h q hq
theorem EH {q:Int×Int}(hq:q∈bK n ps):eG r q<=dU n ps r:=by have hm:eG r q∈(bK n ps).map (eG r):=cb.mpr ⟨q,hq,rfl⟩;unfold dU;rw[if_neg (ph hm)];exact(L2.Mr.maxI_is (ph hm)).2 _ hm
theorem z2e (o:Ah n ps):0<=fF n ps:=by obtain⟨r,_,e⟩:=yS o;rw[<-e];exact NX
theorem NY (o:Ah n ps) (o':Ah m qs) (h:∀r,Cf n ps r->∃r',Cf m qs r'/\dU m qs r'<=dU n ps r):fF m qs<=fF n ps:=by obtain⟨r,hr,e⟩:=yS o;obtain⟨r',h1,h2⟩:=h r hr;rw[<-e];exact vf (NW o' h1) h2
theorem EI {a:Int}{xs ys:zr}(h:a∉xs):ix (xs++a::ys) a=xs.length:=by
 induction xs with
 |nil=>rw[List.nil_append,EF (ax ..),if_pos rfl];rfl
 |cons x xs ih=>have hx:x≠a:=λz=>h (by rw[z];exact ax ..);rw[List.cons_append,EF (by simp),if_neg hx,ih λz=>h (aq _ z)];rfl
theorem yT {a:Int}(nd:r.Nodup) (h:a∈r):ix r.reverse a+ix r a+1=r.length:=by obtain⟨xs,ys,rfl⟩:=List.append_of_mem h;have n2:=uw.mp nd;have hx:a∉xs:=λz=>n2.2.2 a z a (by simp) rfl;have hy:a∉ys.reverse:=λz=>(ib.mp n2.2.1).1 (by simpa using z);rw[EI hx,show(xs++a::ys).reverse=ys.reverse++a::xs.reverse by simp,EI hy];simp;omega
theorem NZ (o':Ah n qs) (hs:∀a b,(a,b)∈qs↔(b,a)∈ps) (h:Cf n ps r):Cf n qs r.reverse/\dU n qs r.reverse<=dU n ps r:=by
 refine⟨⟨λx hx=>h.rng x (by simpa using hx),(List.reverse_perm r).nodup_iff.mpr h.nd,by simp[h.len],λq hq=>?_⟩,EG NX λq hq=>?_⟩
 ·have g:=o'.rng q hq;have u:=h.up _ ((hs q.1 q.2).mp hq);have e1:=yT h.nd (h.mem g.1 g.2.1);have e2:=yT h.nd (h.mem g.2.2.1 g.2.2.2);simp only at u;omega
 ·obtain⟨q0,q1,q2,l1,l2,l3⟩:=Ai.mp hq;have hl:(q.1,q.2)∈bK n ps:=Ai.mpr ⟨q0,q1,q2,l1,λz=>l3 ((hs _ _).mpr z),λz=>l2 ((hs _ _).mpr z)⟩;refine vf ?_ (EH hl);have ma:=h.mem (x:=q.1) q0 (by omega);have mb:=h.mem (x:=q.2) (by omega) q2;have e1:=yT h.nd ma;have e2:=yT h.nd mb;unfold eG;simp only
  split <;> split <;> omega
theorem z2f (o:Ah n ps) (o':Ah n qs) (hs:∀a b,(a,b)∈qs↔(b,a)∈ps):fF n qs=fF n ps:=Int.le_antisymm (NY o o' λr hr=>⟨_,NZ o' hs hr⟩) (NY o' o λr hr=>⟨_,NZ o (λa b=>(hs b a).symm) hr⟩)
end
end L2.Mr.Sp
namespace L2.Mr.K03
open PySem PySem.Spec PyProof.Rows L2 L2.Mr
open L2.Mr.Com
open L2.Mr.Sam
def mb_qr:MS:=(aX (cG (bI (aD F_q1 (aB (aA 0) aC)))) (rD 0 (aB (mC (.str "this is no order")) aC)) bG)
def F_qr:zv:=aS 1 1 (mb_qr)
def tY:MS:=(aI (cC (aD F_qr (aB (aA 0) aC))) (aI (aM (aA 0) (cM 2 (aU (aF 1) (aU (aF 2) cO)))) (aL (aT (aB (aA 1) (aB (aD (f1 eM) (aB (aD (f1 lR) (aB (bM (bJ (bC dZ (aA 2)) [none,none] (cM 2 (aU (aF 0) (aU (aF 1) cO))) bQ (bA (aT (aB (aA 1) (aB (aA 0) aC)))))) aC)) aC)) aC))))))
def F_qA:zv:=aS 1 3 (tY)
open L2.Mr.Gen
open L2.Mr.Cod (bK iT iL Ai Lse last_get)
section
variable{n:Nat}{ps:dn}{H:Hs}{d y:Dv}{x:Int}{ρ:Ev}
theorem need_ok (o:Ah n ps):F_qr [aJ n ps] H=.ok .non H:=Cod.need_ok o
end
section
variable{n:Nat}{ps:dn}{H:Hs}{ns:zr}
end
section
variable{n:Nat}{ps qs:dn}{H:Hs}{ρ:Ev}
theorem z2g (qs:dn):bB lQ (qs.map aH)=some (qs.map gG):=by
 induction qs with
 |nil=>rfl
 |cons q qs ih=>simp[bB,ih,aH,lQ,fR,gG]
theorem N0 {i:Nat}(g:getL H i=some (qs.map aH)) (hl:qs.length<64):lR (.ref i) H=.ok (.ref H.length) (H++[.lst ((dS cJ qs).map aH)]):=by
 cases qs with
 |nil=>
  have h1:oW (.ref i) H=.ok (.ref H.length) (H++[.lst []]):=by simp[oW,g,bB,jX]
  unfold lR;rw[h1];rfl
 |cons q qs=>
  have h1:oW (.ref i) H=.bad:=by simp[oW,g,bB,aH,fR]
  have hk:=z2g (q::qs);have hn:pW ((q::qs).map gG)=true:=by unfold pW;rw[ff];intro k hk;obtain⟨z,_,rfl⟩:=cb.mp hk;rfl
  have hs:(dS cT ((q::qs).map gG)).map pV=(dS cJ (q::qs)).map aH:=by rw[J0 rO,iw];rfl
  have hl':((q::qs).map gG).length<64:=by simpa using hl
  have h2:rQ (.ref i) H=.ok (.ref H.length) (H++[.lst ((dS cT ((q::qs).map gG)).map pV)]):=by simp only[rQ,g,hk,hn,decide_eq_true hl',Bool.and_self,if_true]
  unfold lR;rw[h1];show rQ (.ref i) H=_;rw[h2,hs]
def gE (ps:dn):dn:=ps.map λq=>(q.2,q.1)
def yU (mi:M Src):M zw :=bJ mi [none,none] (cM 2 (aU (aF 0) (aU (aF 1) cO))) bQ (bA (aT (aB (aA 1) (aB (aA 0) aC))))
theorem z2h {mi:M Src}(hi:mi ρ H=.ok (dO (ps.map aH)) H) (hl:ps.length<=900):yU mi ρ H=.ok ((gE ps).map aH) H:=by have h:yU mi ρ H=.ok (ps.filterMap λq=>some (aH (q.2,q.1))) H:=iK ps (λq=>some (aH (q.2,q.1))) (λρ=>∃a b,ρ=[a,b]) hi (by simp[dO]) ⟨_,_,rfl⟩ rfl (λk hk ρ ⟨a,b,e⟩=>by subst e;exact⟨aH ps[k],[some (.int ps[k].1),some (.int ps[k].2)],by simp[dO,hk],rfl,⟨_,_,rfl⟩,rfl,rfl⟩) (by omega);rw[h,gE,iw,rn];rfl
theorem N1 {mn ma:M Dv}{i:Nat}{H1:Hs}(h0:mn ρ H=.ok (.int n) H) (ha:ma ρ H=.ok (.ref i) H1) (g:getL H1 i=some (qs.map aH)) (hl:qs.length<64):
  aT (aB mn (aB (aD (f1 eM) (aB (aD (f1 lR) (aB ma aC)) aC)) aC)) ρ H=.ok (aJ n (dS cJ qs)) (H1++[.lst ((dS cJ qs).map aH)]):=by
 have s:=N0 g hl;have g2:getL (H1++[Ob.lst ((dS cJ qs).map aH)]) H1.length=some ((dS cJ qs).map aH):=last_get;have t:eM (.ref H1.length) (H1++[Ob.lst ((dS cJ qs).map aH)])=.ok (.tup ((dS cJ qs).map aH)) (H1++[Ob.lst ((dS cJ qs).map aH)]):=by simp[eM,g2]
 simp[aT,aB,h0,aD,ha,aC,f1,s,t,lim,aJ]
theorem z2i (hl:ps.length<=36):(gE ps).length<64:=by simp[gE];omega
theorem z2j:tY=aI (cC (aD F_qr (aB (aA 0) aC))) (aI (aM (aA 0) (cM 2 (aU (aF 1) (aU (aF 2) cO)))) (aL (aT (aB (aA 1) (aB (aD (f1 eM) (aB (aD (f1 lR) (aB (bM (yU (bC dZ (aA 2)))) aC)) aC)) aC))))):=rfl
theorem turned_ok (o:Ah n ps):∃H',F_qA [aJ n ps] H=.ok (aJ n (dS cJ (gE ps))) H'/\Fr [] H H':=by
 have hn:=need_ok (H:=H) o;have hl:=o.len;have w1:cC (aD F_qr (aB (aA 0) aC)) [some (aJ n ps),none,none] H=.nx [some (aJ n ps),none,none] H:=by generalize aJ n ps=z at hn;simp[cC,aD,aB,aA,aC,hn]
 have w2:aM (aA 0) (cM 2 (aU (aF 1) (aU (aF 2) cO))) [some (aJ n ps),none,none] H=.nx [some (aJ n ps),some (.int n),some (.tup (ps.map aH))] H:=rfl;have e:=z2h (ps:=ps) (H:=H) (ρ:=[some (aJ n ps),some (.int n),some (.tup (ps.map aH))]) (mi:=bC dZ (aA 2)) rfl (by omega);have ea:bM (yU (bC dZ (aA 2))) [some (aJ n ps),some (.int n),some (.tup (ps.map aH))] H=.ok (.ref H.length) (H++[.lst ((gE ps).map aH)]):=by unfold bM;rw[e];rfl
 have t:=N1 (n:=n) (ρ:=[some (aJ n ps),some (.int n),some (.tup (ps.map aH))]) (mn:=aA 1) rfl ea last_get (z2i hl);refine⟨H++[Ob.lst ((gE ps).map aH)]++[Ob.lst ((dS cJ (gE ps)).map aH)], ?_,Fr.trans (T:=[]) Fr.app Fr.app (by simp)⟩;show bP (tY [some (aJ n ps),none,none] H)=_;rw[z2j,bH w1,bH w2];unfold aL;rw[t];rfl
end
end L2.Mr.K03
namespace L2.Mr.K81
open PySem PySem.Spec PyProof.Rows L2 L2.Mr L2.Mr.Com
section
variable{H:Hs}
end
section
variable{c:Nat}(hc:c=0∨c=4∨c=7) {H:Hs}{x0 x2 x3:zx}
include hc
end
section
variable{n:Nat}{ps:dn}{H:Hs}{d y:Dv}{x:Int}
end
end L2.Mr.K81
namespace L2.Mr.Sp
open PySem PySem.Spec PyProof.Rows L2 L2.Mr L2.Mr.Com
open L2.Mr.Cod (bK Ai Lse)
open L2.Mr.K05 (ix iM qK jJ dU eG yO)
open L2.Mr.K06 (mM uM)
open L2.Mr.K03 (gE)
section
variable{n m:Nat}{ps qs:dn}{r:zr}{a b x:Int}
theorem z2k {l:dn}(h:l.Nodup):fK cJ (dS cJ l):=by rw[<-X9 By l h];exact oY By l
theorem rg (o:Ah n ps) (h:(a,b)∈ps):0<=a/\a<n/\0<=b/\b<n:=o.rng _ h
theorem B':(a,b)∈dS cJ (gE ps)↔(b,a)∈ps:=by
 rw[(wN _).mem_iff];unfold gE;rw[cb];constructor
 ·rintro ⟨q,hq,e⟩
  injection e with e1 e2;rw[<-e1,<-e2];exact hq
 ·intro h;exact⟨_,h,rfl⟩
theorem EJ (o:Ah n ps):Ah n (dS cJ (gE ps)):=by
 refine⟨o.n1,o.n6,λ⟨a,b⟩ hp=>?_,z2k ?_,λ⟨a,b⟩ hp=>?_,λ⟨a,b⟩ hp ⟨c,d⟩ hq e=>?_⟩
 ·have:=rg o (B'.mp hp);simp only;omega
 ·unfold gE List.Nodup;refine xh _ (λp q h e=>h ?_) (pT By o.rise);injection e with e1 e2;exact Prod.ext e2 e1
 ·exact(o.irr _ (B'.mp hp)).symm
 ·simp only at e ⊢;subst e;exact B'.mpr (o.tr _ (B'.mp hq) _ (B'.mp hp) rfl)
theorem z2l (o:Ah n ps):fF n (dS cJ (gE ps))=fF n ps:=z2f o (EJ o) λa b=>B'
theorem z2m {ns ms:zr}{k:Int}(h1:k∉ns) (h2:k∈ms):ix (ns++ms) k=ns.length+ix ms k:=by
 induction ns with
 |nil=>simp
 |cons x xs ih=>have hx:x≠k:=λz=>h1 (by rw[z];exact ax ..);rw[List.cons_append,EF (aq _ (bw _ h2)),if_neg hx,ih λz=>h1 (aq _ z)];simp only[cp];omega
end
end L2.Mr.Sp
namespace L2.Mr.Pp
open PySem PySem.Spec PyProof.Rows L2 L2.Mr L2.Mr.Com
open L2.Mr.Cod (bK Ai Lse)
open L2.Mr.K04 (cR cP rws_mem aR)
open L2.Mr.K05 (ix iM qK jJ As dU eG)
open L2.Mr.K06 (may_ne)
open L2.Mr.Sp
def gI (n:Nat) (ps:dn) (k:Nat) (r:zr):Option (Int×Int):=if r.length<=k then none else((bO n).find? λb=>!decide (b∈r)&&decide (Lse ps (r.getD (r.length - 1 - k) 0) b)).map λb=>(r.getD (r.length - 1 - k) 0,b)
def dX (n:Nat) (ps:dn) (k:Nat):Nat->zr->zx
 |0,_=>none
 |f+1,r=>match gI n ps k r with
  |some q=>some (.tup [.str "far",.int q.1,.int q.2])
  |none=>if r.length=n then none else match bB (λx=>dX n ps k f (r++[x])) (cP n ps r)with
   |some ds=>some (.tup [.str "next",.tup ds])
   |none=>none
section
variable{n k:Nat}{ps:dn}{r R:zr}
theorem N2 {α β:Type}{f:α->Option β}:∀{l:List α},bB f l=none↔∃x∈l,f x=none
 | []=>by simp[bB]
 |a::l=>by
  rw[bB]
  cases e:f a with
  |none=>simp[e]
  |some b=>
   have ih:=N2 (f:=f) (l:=l)
   cases e2:bB f l with
   |none=>rw[e2]at ih;obtain⟨x,h1,h2⟩:=ih.mp rfl;simp only[true_iff];exact⟨x,aq _ h1,h2⟩
   |some c=>
    rw[e2]at ih;simp only[reduceCtorEq,false_iff]
    rintro ⟨x,h1,h2⟩
    rcases az.mp h1 with rfl|h1
    ·rw[e]at h2;cases h2
    ·exact absurd (ih.mpr ⟨x,h1,h2⟩) (by simp)
theorem N3 {α β:Type}{f:α->Option β}:∀{l:List α}{ys:List β},bB f l=some ys->ys.length=l.length/\∀(i:Nat) (h:i<l.length) (h':i<ys.length),f l[i]=some ys[i]
 | [],ys,e=>by cases e;exact⟨rfl,λi h=>nomatch h⟩
 |a::l,ys,e=>by
  rw[bB]at e
  cases e1:f a with
  |none=>rw[e1]at e;cases e
  |some b=>
   rw[e1]at e
   cases e2:bB f l with
   |none=>rw[e2]at e;cases e
   |some c=>
    rw[e2]at e;cases e;obtain⟨h1,h2⟩:=N3 e2;refine⟨by simp[h1],λi h h'=>?_⟩
    cases i with
    |zero=>exact e1
    |succ i=>exact h2 i (by simpa using h) (by simpa using h')
theorem Bm {j:Nat}{x:Int}:r++[x]∈cR n ps (j+1)↔r∈cR n ps j/\x∈cP n ps r:=by
 show r++[x]∈(cR n ps j).flatMap (λr=>(cP n ps r).map λx=>r++[x])↔_;rw[iq];constructor
 ·rintro ⟨r',h,h'⟩
  obtain⟨y,hy,e⟩:=cb.mp h';obtain⟨e1,e2⟩:=List.append_inj' e rfl;cases e2;rw[<-e1];exact⟨h,hy⟩
 ·rintro ⟨h,h'⟩
  exact⟨r,h,cb.mpr ⟨x,h',rfl⟩⟩
theorem N4 (o:Ah n ps):∀(m:Nat) (R:zr),R∈cR n ps m->∀i,i<=m->R.take i∈cR n ps i
 |0,R,h,i,hi=>by
  have:i=0:=by omega
  subst this;show[]∈cR n ps 0;simp[cR]
 |m+1,R,h,i,hi=>by
  have hl:=rws_mem o h;have hne:R≠[]:=by rintro rfl;simp at hl
  have e:=oh hne;rw[<-e]at h;have hr:=(Bm.mp h).1;have hd:=rws_mem o hr
  by_cases c:i<=m
  ·have:=N4 o m _ hr i c;rw[<-e,wc (by omega)];exact this
  ·have:i=m+1:=by omega
   subst this;rw[kg (by omega),<-e];exact h
def N5 (n:Nat) (ps:dn) (k j:Nat) (r:zr):Prop:=∃R∈cR n ps n,R.take j=r/\∀i,j<=i->i<=n->gI n ps k (R.take i)=none
theorem EK (o:Ah n ps):∀(f j:Nat) (r:zr),r∈cR n ps j->j<=n->n - j<f->(dX n ps k f r=none↔N5 n ps k j r)
 |0,j,r,_,_,h=>by omega
 |f+1,j,r,hr,hj,hf=>by
  have hl:=rws_mem o hr;rw[dX]
  cases e:gI n ps k r with
  |some q=>
   simp only[reduceCtorEq,false_iff]
   rintro ⟨R,_,h2,h3⟩
   have:=h3 j (aj _) hj;rw[h2,e]at this;cases this
  |none=>
   dsimp only
   by_cases c:r.length=n
   ·rw[if_pos c];simp only[true_iff];have hjn:j=n:=by omega
    subst hjn;refine⟨r,hr,kg (by omega),λi h1 h2=>?_⟩;have:i=j:=by omega
    subst this;rw[kg (by omega)];exact e
   ·rw[if_neg c];have step:bB (λx=>dX n ps k f (r++[x])) (cP n ps r)=none↔N5 n ps k j r:=by
     rw[N2];constructor
     ·rintro ⟨x,hx,h⟩
      obtain⟨R,h1,h2,h3⟩:=(EK o f (j+1) (r++[x]) (Bm.mpr ⟨hr,hx⟩) (by omega) (by omega)).mp h;have hR:=rws_mem o h1;have e1:R.take j=r:=by
       have e3:(r++[x]).take j=r:=by rw[wc (by omega),kg (by omega)]
       have e4:(R.take (j+1)).take j=R.take j:=by rw[List.take_take,Nat.min_eq_left (by omega)]
       rw[<-e4,h2,e3]
      refine⟨R,h1,e1,λi i1 i2=>?_⟩
      by_cases d:i=j
      ·subst d;rw[e1];exact e
      ·exact h3 i (by omega) i2
     ·rintro ⟨R,h1,h2,h3⟩
      have hR:=rws_mem o h1;have hjR:j<R.length:=by omega
      have e1:R.take (j+1)=r++[R[j]]:=by rw[uv hjR,h2]
      have h4:=N4 o n R h1 (j+1) (by omega);rw[e1]at h4;exact⟨R[j],(Bm.mp h4).2,(EK o f (j+1) (r++[R[j]]) h4 (by omega) (by omega)).mpr ⟨R,h1,e1,λi i1 i2=>h3 i (by omega) i2⟩⟩
    cases e2:bB (λx=>dX n ps k f (r++[x])) (cP n ps r)with
    |none=>exact⟨λ_=>step.mp e2,λ_=>rfl⟩
    |some ds=>rw[e2]at step;simp only[reduceCtorEq,false_iff]at step ⊢;exact step
theorem EL (nd:R.Nodup) {m:Nat}(h:m<R.length):ix R R[m]=m:=by
 have e:R=R.take m++R[m]::R.drop (m+1):=by rw[List.getElem_cons_drop,ie]
 have hn:R[m]∉R.take m:=λz=>by
  obtain⟨i,hi,e2⟩:=jo.mp z;rw[um]at e2;have hi':i<min m R.length:=by simpa using hi
  exact fj.mp nd i m (by omega) h (by omega) e2
 have:=EI (xs:=R.take m) (ys:=R.drop (m+1)) hn;rw[<-e]at this;rw[this];simp;omega
theorem z2n {b:Int}{i:Nat}(h:b∈R.take i):ix R b<i:=by have:=jJ (ms:=R.drop i) h;rw[ie]at this;rw[this];have:=iM h;simp at this;omega
theorem z2o {b:Int}{i:Nat}(hb:b∈R) (h:b∉R.take i) (hi:i<=R.length):i<=ix R b:=by
 have hm:b∈R.drop i:=by rw[<-ie i R]at hb;exact(cq.mp hb).resolve_left h
 have:=z2m h hm;rw[ie]at this;rw[this];simp;omega
theorem z2p {i:Nat}(h:Cf n ps R) (hi:i<=n) {q:Int×Int}(e:gI n ps k (R.take i)=some q):k<i/\0<=q.1/\q.1<n/\0<=q.2/\q.2<n/\q.1∈R.take i/\q.2∉R.take i/\Lse ps q.1 q.2/\ix R q.1+k+1=i/\ix (R.take i) q.1+k+1=i:=by
 have hl:(R.take i).length=i:=by simp[h.len];omega
 unfold gI at e;rw[hl]at e
 split at e
 ·cases e
 ·rename_i c;obtain⟨b,hb,e⟩:=qq.mp e;have hm:=xr hb;have hp:=List.find?_some hb;simp only[da,mr,decide_eq_false_iff_not,decide_eq_true_eq]at hp;have hx:i - 1 - k<(R.take i).length:=by omega
  have hx':i - 1 - k<R.length:=by rw[h.len];omega
  have eg:(R.take i).getD (i - 1 - k) 0=R[i - 1 - k]:=by rw[kv,ba hx];simp
  rw[eg]at hp e;subst e;have r1:=h.rng _ (dk hx');have r2:=As.mp hm;have m1:R[i - 1 - k]∈R.take i:=by have:=dk hx;rwa [um]at this
  have x1:=EL h.nd hx';have x2:ix (R.take i) R[i - 1 - k]=i - 1 - k:=by have:=jJ (ms:=R.drop i) m1;rw[ie,x1]at this;exact this.symm
  refine⟨by omega,r1.1,r1.2,r2.1,r2.2,m1,hp.1,hp.2, ?_, ?_⟩
  ·rw[x1];omega
  ·rw[x2];omega
theorem z2q {i:Nat}(h:Cf n ps R) (hi:i<=n) (e:gI n ps k (R.take i)=none) (hk:k<i) {b:Int}(b0:0<=b) (b1:b<n) (hb:b∉R.take i) (hx:i - 1 - k<R.length):¬ Lse ps R[i - 1 - k] b:=λhl=>by
 have hlen:(R.take i).length=i:=by simp[h.len];omega
 unfold gI at e;rw[hlen,if_neg (by omega),Option.map_eq_none_iff]at e;have:=List.find?_eq_none.mp e b (As.mpr ⟨b0,b1⟩);have eg:(R.take i).getD (i - 1 - k) 0=R[i - 1 - k]:=by rw[kv,ba (by omega)];simp
 rw[eg]at this;simp[hb,hl]at this
theorem EM {a b:Int}(h:Lse ps a b):Lse ps b a:=⟨h.1.symm,h.2.2,h.2.1⟩
theorem N6 (o:Ah n ps) (h:Cf n ps R):(∀i,i<=n->gI n ps k (R.take i)=none)↔dU n ps R<=k:=by
 constructor
 ·intro hf;refine EG (by omega) λq hq=>?_;obtain⟨q0,q1,q2,hl⟩:=Ai.mp hq;have ma:=h.mem (x:=q.1) q0 (by omega);have mb:=h.mem (x:=q.2) (by omega) q2;have key:∀{a b:Int},a∈R->b∈R->0<=b->b<n->Lse ps a b->ix R b<=ix R a+k:=λ{a b} ha hb b0 b1 hl=>by
   refine vq λhc=>?_;have lb:=iM hb;have la:=iM ha;rw[h.len]at lb la;have hb':b∉R.take (ix R a+k+1):=λz=>by have:=z2n z;omega
   have hx:ix R a+k+1 - 1 - k<R.length:=by rw[h.len];omega
   have:=z2q h (i:=ix R a+k+1) (by omega) (hf _ (by omega)) (by omega) b0 b1 hb' hx;have eq:R[ix R a+k+1 - 1 - k]=a:=by refine qK (ns:=R) (dk _) ha ?_;rw[EL h.nd hx];omega
   rw[eq]at this;exact this hl
  have k1:=key ma mb (by omega) q2 hl;have k2:=key mb ma q0 (by omega) (EM hl);unfold eG
  split <;> omega
 ·intro hs i hi
  cases e:gI n ps k (R.take i)with
  |none=>rfl
  |some q=>
   exfalso
   obtain⟨hk,a0,a1,b0,b1,ma,mb,hl,hx,_⟩:=z2p h hi e;have hb:=z2o (h.mem b0 b1) mb (by rw[h.len];exact hi);have hne:=hl.1
   rcases Int.lt_or_gt_of_ne hne with c|c
   ·have:=EH (r:=R) (Ai.mpr ⟨a0,c,b1,hl⟩);unfold eG at this
    split at this <;> omega
   ·have:=EH (r:=R) ((Ai (q:=(q.2,q.1))).mpr ⟨b0,c,a1,EM hl⟩);unfold eG at this;simp only at this
    split at this <;> omega
theorem N7 (o:Ah n ps) {f:Nat}(hf:n<f):dX n ps k f []=none↔fF n ps<=k:=by
 rw[EK o f 0 [] (by simp[cR]) (by omega) (by omega)];constructor
 ·rintro ⟨R,h1,_,h3⟩
  have hR:=(yR o).mp h1;exact vf (NW o hR) ((N6 o hR).mp λi hi=>h3 i (by omega) hi)
 ·intro h;obtain⟨R,hR,e⟩:=yS o;exact⟨R,(yR o).mpr hR,rfl,λi _ hi=>(N6 o hR).mpr (by omega) i hi⟩
end
end L2.Mr.Pp
namespace L2.Mr.K82
open PySem PySem.Spec PyProof.Rows L2 L2.Mr
open L2.Mr.Com
end L2.Mr.K82
namespace L2.Mr.K06
open PySem PySem.Spec PyProof.Rows L2 L2.Mr L2.Mr.Gen
open L2.Mr.Com
open L2.Mr.Sam
open L2.Mr.Cod (last_get bK)
open L2.Mr.K04 (aR cR uL kZ mK)
open L2.Mr.K05 (dU)
section
variable{n:Nat}{ps:dn}{r:zr}{H:Hs}{ρ:Ev}
theorem jK {F:zv}{a v:Dv}{x:Nat}{H':Hs}(ha:aA x ρ=λH=>.ok a H) (e:F [a] H=.ok v H'):aD F (aB (aA x) aC) ρ H=.ok v H':=by simp[aD,aB,ha,aC,e]
theorem qM {F:zv}{m:M Dv}{a v:Dv}{H1 H':Hs}(ha:m ρ H=.ok a H1) (e:F [a] H1=.ok v H'):aD F (aB m aC) ρ H=.ok v H':=by simp[aD,aB,ha,aC,e]
theorem N8 {F:zv}{a:Dv}{x i:Nat}{H1:Hs}{xs:zw}(ha:aA x ρ=λH=>.ok a H) (e:F [a] H=.ok (.ref i) H1) (g:getL H1 i=some xs):bC cD (aD F (aB (aA x) aC)) ρ H=.ok (bZ i xs.length) H1:=by simp[bC,aD,aB,ha,aC,e,cD,g]
theorem all_ok (o:Ah n ps):∃i H',F_q0 [aJ n ps] H=.ok (.ref i) H'/\getL H' i=some ((cR n ps n).map aR)/\Fr [] H H'/\H.length<=i:=K04.all_ok o
theorem lpairs_ok (o:Ah n ps):F_qj [aJ n ps] H=.ok (.ref H.length) (H++[.lst ((bK n ps).map aH)]):=K05.lpairs_ok o
theorem ga_ok {i:Nat}(g:getL H i=some ((bK n ps).map aH)) (hn:n<=6) (hm:∀x:Int,0<=x->x<n->x∈r):∃H',F_qd [aR r,.ref i] H=.ok (.int (dU n ps r)) H'/\Fr [] H H':=K05.ga_ok g hn hm
abbrev sH (n:Nat) (ps:dn) (r:zr):Dv:=.tup [aR r,.int (dU n ps r)]
abbrev EN:M Dv:=aT (aB (aA 0) (aB (aD F_qd (aB (aA 0) (aB (aA 1) aC))) aC))
abbrev rwC:M zw :=bJ (bC cD (aD F_q0 (aB (aA 0) aC))) [none,some 1] (aF 0) bQ (bA EN)
theorem z2r:tZ=aI (aM (aD F_qj (aB (aA 0) aC)) (aF 1)) (aL (bM rwC)):=rfl
theorem qN {α:Type}(f:α->Dv) (l:List α):(l.flatMap λx=>[f x])=l.map f:=by
 induction l with
 |nil=>rfl
 |cons x l ih=>rw[gg,ih];rfl
theorem z2s (o:Ah n ps):∃i H',F_qb [aJ n ps] H=.ok (.ref i) H'/\getL H' i=some ((cR n ps n).map (sH n ps))/\Fr [] H H'/\H.length<=i:=by
 have e1:=lpairs_ok (H:=H) o;obtain⟨H1,hH1⟩:∃H1,H1=H++[Ob.lst ((bK n ps).map aH)]:=⟨_,rfl⟩
 have f1':Fr [] H H1:=by rw[hH1];exact Fr.app
 have g1:getL H1 H.length=some ((bK n ps).map aH):=by rw[hH1];exact last_get
 rw[<-hH1]at e1;have w1:aM (aD F_qj (aB (aA 0) aC)) (aF 1) [some (aJ n ps),none] H=.nx [some (aJ n ps),some (.ref H.length)] H1:=qJ (jK (F:=F_qj) rfl e1) rfl;obtain⟨i,H2,e2,g2,f2,l2⟩:=all_ok (H:=H1) o;have hl:=uL o (aj n);have hf:=λr (h:r∈cR n ps n)=>NU o h;have es:=N8 (F:=F_q0) (ρ:=[some (aJ n ps),some (.ref H.length)]) (x:=0) rfl e2 g2;have gp:=f2.getL g1 (by simp);obtain⟨p,hp⟩:∃p,p=H.length:=⟨_,rfl⟩
 rw[<-hp]at w1 gp es;generalize cR n ps n=R at g2 hl hf es;obtain⟨ρ',H3,h,_,f3⟩:=qG (mi:=bC cD (aD F_q0 (aB (aA 0) aC))) (cap:=[none,some 1]) (src:=bZ i (R.map aR).length) (sg:=aF 0) (t:=bQ) (m:=bA EN) (ρ:=[some (aJ n ps),some (.ref p)]) (H:=H1) (H1:=H2) R (λr=>[sH n ps r]) (λρ Hx=>(∃a,ρ=[a,some (.ref p)])/\Fr [] H2 Hx) es (by simp[bZ]) ⟨⟨_,rfl⟩,Fr.refl⟩ (λρ Hx s=>by have gx:=s.2.getL g2 (by simp);simp[bZ,gx])
  (λk hk ρ Hx ⟨⟨a,e⟩,f⟩=>by subst e;have gx:=f.getL g2 (by simp);obtain⟨Hy,ey,fy⟩:=ga_ok (r:=R[k]) (f.getL gp (by simp)) o.n6 (hf _ (dk hk));refine⟨aR R[k],[some (aR R[k]),some (.ref p)],by simp[bZ,gx,hk],rfl,.inr ⟨Hx,rfl,λacc hl=>⟨_,Hy,rW ?_ hl,⟨_,rfl⟩,f.trans fy (by simp)⟩⟩⟩;simp[EN,aT,aB,aA,aD,aC,ey,lim]) (by rw[qN,aw];omega)
 rw[qN]at h;refine⟨H3.length,H3++[.lst (R.map (sH n ps))], ?_,last_get,((f1'.trans f2 (by simp)).trans f3 (by simp)).trans (T:=[]) Fr.app (by simp),((f1'.trans f2 (by simp)).trans (T:=[]) f3 (by simp)).le⟩;show bP (tZ [some (aJ n ps),none] H)=_;rw[z2r,bH w1];exact mK h
abbrev EO (mi:M Src):M zw :=bJ mi [none,none] (cM 2 (aU (aF 0) (aU (aF 1) cO))) bQ (bA (aA 1))
theorem z2t {mi:M Src}{i:Nat}{R:wo}{H1:Hs}(hi:mi ρ H=.ok (bZ i (R.map (sH n ps)).length) H1) (g:getL H1 i=some (R.map (sH n ps))) (hl:R.length<=46656):EO mi ρ H=.ok ((R.map (dU n ps)).map Dv.int) H1:=by have w:EO mi ρ H=.ok (R.filterMap λr=>some (.int (dU n ps r))) H1:=iK R (λr=>some (.int (dU n ps r))) (λρ=>∃a b,ρ=[a,b]) hi (by simp[bZ]) ⟨_,_,rfl⟩ (by simp[bZ,g]) (λk hk ρ ⟨a,b,e⟩=>by subst e;exact⟨sH n ps R[k],[some (aR R[k]),some (.int (dU n ps R[k]))],by simp[bZ,g,hk],rfl,⟨_,_,rfl⟩,rfl,rfl⟩) (by omega);rw[w,iw];simp[yw]
theorem z2u {f:zr->Int}{i:Nat}{L:zr}(g:getL H i=some (L.map Dv.int)) (h:L≠[]):f1 (oV f) [.ref i] H=.ok (.int (f L)) H:=by have hp:=oq.mpr h;simp[f1,oV,g,DW,hp]
theorem least_ok (o:Ah n ps):∃H',F_qq [aJ n ps] H=.ok (.int (kT (mM n ps))) H'/\Fr [] H H':=by obtain⟨i,H1,e1,g1,f1',_⟩:=z2s (H:=H) o;have hs:=kZ (z2t (N8 (F:=F_qb) (ρ:=[some (aJ n ps)]) (x:=0) rfl e1 g1) g1 (uL o (aj n)));have gl:=last_get (H:=H1) (x:=(mM n ps).map Dv.int);refine⟨H1++[.lst ((mM n ps).map Dv.int)], ?_,f1'.trans (T:=[]) Fr.app (by simp)⟩;show bP (aL (aD (f1 (oV kT)) (aB (bM (EO (bC cD (aD F_qb (aB (aA 0) aC))))) aC)) [some (aJ n ps)] H)=_;unfold aL;rw[qM hs (z2u gl (uM o))];rfl
end
end L2.Mr.K06
namespace L2.Mr.Com
open PySem PySem.Spec PyProof.Rows L2 L2.Mr
section
variable{st:Nat}
theorem z2v {H:Hs}{m:Int}(m1:1<=m) (m6:m<=6) (s:St st H):∃(n:Nat) (cs:dn) (H':Hs),F_ql [.ref st,.int m] H=.ok (aJ n cs) H'/\Ah n cs/\(n:Int)<=m/\St st H'/\Fr [st] H H':=by
 have lt:=s.lt;obtain⟨v,H1,v0,v1,w1,s1,f1'⟩:=mF (m:=m) (x2:=none) (x3:=none) (x4:=none) (x5:=none) (x6:=none) (x7:=none) (x8:=none) (x9:=none) s;obtain⟨n,n1,hnm,hn⟩:∃n:Nat,1<=n/\(n:Int)<=m/\(if m - v>1 then m - v else 1)=(n:Int):=by
  by_cases c:m - v>1
  ·exact⟨(m - v).toNat,by omega,by omega,by rw[if_pos c];omega⟩
  ·exact⟨1,by omega,by omega,by rw[if_neg c];rfl⟩
 have n6:n<=6:=by omega
 have w2:o2 [some (.ref st),some (.int m),some (.int (m - v)),none,none,none,none,none,none,none] H1=.nx [some (.ref st),some (.int m),some (.int n),none,none,none,none,none,none,none] H1:=by
  have hm:nB [.int 1,.int (m - v)] H1=.ok (.int n) H1:=by rw[<-hn];rfl
  simp[o2,aM,aD,aB,mC,aA,aC,hm,aF]
 have hL:rR (.int n) H1=.ok (.ref H1.length) (H1++[.lst ((bO n).map Dv.int)]):=by
  have c:(decide (0<=(n:Int))&&decide ((n:Int)<=1000))=true:=by simp;omega
  simp only[rR,c,if_true]
 have fL:Fr [] H1 (H1++[Ob.lst ((bO n).map Dv.int)]):=Fr.app;obtain⟨ir,ys,H2,t2,er,pm,hir,s2,f2⟩:=z1c (s1.fr fL (by simp)) (j:=H1.length) (xs:=bO n) (by simp[getL]) (by simp[bO];omega);have l1:=s1.lt;have hir':H1.length+1<=ir:=by simpa using hir
 have w3:o3 [some (.ref st),some (.int m),some (.int n),none,none,none,none,none,none,none] H1=.nx [some (.ref st),some (.int m),some (.int n),some (.ref ir),none,none,none,none,none,none] H2:=by simp[o3,aM,aD,aB,aA,aC,f1,hL,t2,aF]
 have hy:ys.length=n:=by rw[pm.length_eq];simp[bO]
 obtain⟨w,H3,w0,w5,t3,f3,s3⟩:=qH 5 s2;have er3:=f3.getL er (by simp;omega);have w4:o4 [some (.ref st),some (.int m),some (.int n),some (.ref ir),none,none,none,none,none,none] H2=.nx [some (.ref st),some (.int m),some (.int n),some (.ref ir),some (.int w),none,none,none,none,none] H3:=by simp[o4,aM,aD,aB,aA,mC,aC,t3,aF]
 have w5':o5 [some (.ref st),some (.int m),some (.int n),some (.ref ir),some (.int w),none,none,none,none,none] H3=.nx [some (.ref st),some (.int m),some (.int n),some (.ref ir),some (.int w),some (.ref H3.length),none,none,none,none] (H3++[.lst []]):=rfl;have fM:Fr [] H3 (H3++[Ob.lst []]):=Fr.app;have eP:getL (H3++[Ob.lst []]) H3.length=some (([]:dn).map aH):=by simp[getL]
 have l2:=pS er;have l3:=pS er3;have l4:=s3.lt;obtain⟨ms,H4,hms,w6,s4,f4⟩:=mG (x1:=some (.int m)) (x2:=some (.int n)) (x4:=some (.int w)) (x5:=some (.ref H3.length)) (x6:=none) (x7:=none) (x8:=none) (x9:=none) (s3.fr fM (by simp)) (fM.getL er3 (by simp)) (by omega) (by omega);have eP4:=f4.getL eP (by simp;omega);have er4:=f4.getL (fM.getL er3 (by simp)) (by simp;omega);have hle:H3.length+1<=H4.length:=by have:=f4.le;simpa using this
 have fN:Fr [] H4 (H4++[Ob.lst (ms.map Dv.int)]):=Fr.app;have D:Std st ir H4.length ys ms (H4++[Ob.lst (ms.map Dv.int)]):=⟨s4.fr fN (by simp),fN.getL er4 (by simp),by simp[getL]⟩
 obtain⟨x7,x8,x9,H5,ps,w7,eP5,hb,D5,f5⟩:=mD (d1:=.int m) (w:=w) (ip:=H3.length) (n:=n) (x7:=none) (x8:=none) (x9:=none) D (fN.getL eP4 (by simp)) ⟨w0,w5⟩ n6 hy (by omega) (by omega) (by omega) (by omega) (by omega) (by omega);have fall:Fr [st] H H5:=by
  have g1:Fr [st] H H2:=(f1'.trans fL (by simp)).trans f2 (by simp);have g2:Fr [st] H (H3++[Ob.lst []]):=(g1.trans f3 (by simp)).trans fM (by simp);have g3:Fr [st] H (H4++[Ob.lst (ms.map Dv.int)]):=(g2.trans f4 (by simp)).trans fN (by simp);refine g3.trans f5 λj hj=>?_
  rcases az.mp hj with rfl|hj
  ·exact .inl (by simp)
  ·rw[bo.mp hj];have:=f1'.le;have:=f2.le;have:=f3.le;right;omega
 have fin:∀(q:Nat) (y7:zx) (H6:Hs) (qs:dn),getL H6 q=some (qs.map aH)->yL n qs->Fr [] H5 H6->o8 (cI st ir H3.length H4.length n w (.int m) x7 x8 x9) H5=.nx (cI st ir q H4.length n w (.int m) y7 x8 x9) H6->
   ∃(cs:dn) (H':Hs),F_ql [.ref st,.int m] H=.ok (aJ n cs) H'/\Ah n cs/\(n:Int)<=m/\St st H'/\Fr [st] H H':=λq y7 H6 qs eq6 g6 f6 w8=>by
  obtain⟨cs,j,H7,hc,tc,ec,f7⟩:=z1m n6 g6.1 (NG eq6);refine⟨cs,H7, ?_,z1n n1 n6 g6 hc,hnm,(D5.s.fr f6 (by simp)).fr f7 (by simp),(fall.trans f6 (by simp)).trans f7 (by simp)⟩;have w9:o9 (cI st ir q H4.length n w (.int m) y7 x8 x9) H6=.rt (aJ n cs) H7:=by
   have h1:aD F_qh (aB (aA 5) aC) (cI st ir q H4.length n w (.int m) y7 x8 x9) H6=.ok (.ref j) H7:=by simp[aD,aB,aA,aC,tc]
   have h2:aD (f1 eM) (aB (aD F_qh (aB (aA 5) aC)) aC) (cI st ir q H4.length n w (.int m) y7 x8 x9) H6=.ok (.tup (cs.map aH)) H7:=by
    have h0:aB (aD F_qh (aB (aA 5) aC)) aC (cI st ir q H4.length n w (.int m) y7 x8 x9) H6=.ok [.ref j] H7:=by show(aD F_qh (aB (aA 5) aC) (cI st ir q H4.length n w (.int m) y7 x8 x9) H6).bind _=_;rw[h1];rfl
    show(aB (aD F_qh (aB (aA 5) aC)) aC (cI st ir q H4.length n w (.int m) y7 x8 x9) H6).bind _=_;rw[h0];simp[f1,eM,ec]
   unfold o9 aL aT;rw[show aB (aA 2) (aB (aD (f1 eM) (aB (aD F_qh (aB (aA 5) aC)) aC)) aC) (cI st ir q H4.length n w (.int m) y7 x8 x9) H6=.ok [.int n,.tup (cs.map aH)] H7 by unfold aB;show((Rs.ok (Dv.int n) H6).bind _)=_;rw[Rs.bind_ok];show((aD (f1 eM) (aB (aD F_qh (aB (aA 5) aC)) aC) (cI st ir q H4.length n w (.int m) y7 x8 x9) H6).bind _).bind _=_;rw[h2];rfl];rfl
  show bP (iS [some (.ref st),some (.int m),none,none,none,none,none,none,none,none] H)=_;rw[mE,bH w1,bH w2,bH w3,bH w4,bH w5',bH w6,bH w7,bH w8,w9];rfl
 have t8:mB (m2 bE (aA 4) (mC (.int 3))) (cI st ir H3.length H4.length n w (.int m) x7 x8 x9) H5=.ok (w==3) H5:=by simp[mB,m2,aA,mC,eq_int,gJ]
 by_cases h3:w=3
 ·have fQ:Fr [] H5 (H5++[Ob.lst []]):=Fr.app;obtain⟨q,y7,H6,qs,k1,k2,k3,k4⟩:=z1s (st:=st) (ir:=ir) (im:=H4.length) (n:=n) (w:=w) (d1:=.int m) (ip0:=H5.length) (x7:=x7) (x8:=x8) (x9:=x9) (D5.fr fQ (D5.s.fr fQ (by simp)) (by simp) (by simp)) (by simp[getL]) n6 (by omega);obtain⟨cs,H',r⟩:=fin q y7 H6 qs k2 (z1q k3) (fQ.trans k4 (by simp)) (by unfold o8;have wA:aM (cA aC) (aF 5) (cI st ir H3.length H4.length n w (.int m) x7 x8 x9) H5=.nx (cI st ir H5.length H4.length n w (.int m) x7 x8 x9) (H5++[Ob.lst []]):=rfl;rw[kU (t8.trans (by rw[h3];rfl)),bH wA,k1]);exact⟨n,cs,H',r⟩
 ·obtain⟨cs,H',r⟩:=fin H3.length x7 H5 ps eP5 (z1p pm hb) Fr.refl (by
   unfold o8;have:(w==3)=false:=by simpa using h3
   rw[gD (t8.trans (by rw[this]))];rfl)
  exact⟨n,cs,H',r⟩
end
end L2.Mr.Com
namespace L2.Mr.K82
open PySem PySem.Spec PyProof.Rows L2 L2.Mr L2.Mr.Gen
open L2.Mr.Com
open L2.Mr.Cod (last_get bK)
open L2.Mr.K04 (aR kZ mK)
open L2.Mr.K05 (dU)
open L2.Mr.K06 (mM jK qM)
open L2.Mr.Sp
open L2.Mr.K03 (gE N0 N1)
section
variable{n m:Nat}{ps qs:dn}{r:zr}{H:Hs}{ρ:Ev}{x:Int}
theorem uN {F:zv}{a v:Dv}{x:Nat}(ha:aA x ρ=λH=>.ok a H) (e:F [a] H=.ok v H):cC (aD F (aB (aA x) aC)) ρ H=.nx ρ H:=by simp[cC,aD,aB,ha,aC,e]
theorem qO {F:zv}{a b v:Dv}{x y:Nat}(ha:aA x ρ=λH=>.ok a H) (hb:aA y ρ=λH=>.ok b H) (e:F [a,b] H=.ok v H):cC (aD F (aB (aA x) (aB (aA y) aC))) ρ H=.nx ρ H:=by simp[cC,aD,aB,ha,hb,aC,e]
theorem mO {F:zv}{a b v:Dv}{x y:Nat}{H':Hs}(ha:aA x ρ=λH=>.ok a H) (hb:aA y ρ=λH=>.ok b H) (e:F [a,b] H=.ok v H'):aD F (aB (aA x) (aB (aA y) aC)) ρ H=.ok v H':=by simp[aD,aB,ha,hb,aC,e]
theorem uO {ma mb:M Dv}{a b:Dv}{H1 H2:Hs}(h0:ma ρ H=.ok a H1) (h1:mb ρ H1=.ok b H2):aT (aB ma (aB mb aC)) ρ H=.ok (.tup [a,b]) H2:=by simp[aT,aB,h0,h1,aC,lim]
end
end L2.Mr.K82
namespace L2.Mr.K10
open PySem PySem.Spec PyProof.Rows L2 L2.Mr L2.Mr.Gen
open L2.Mr.Com
open L2.Mr.Cod (last_get bK Lse)
open L2.Mr.K04 (aR kZ mK cP cR)
open L2.Mr.K05 (ix As)
open L2.Mr.K06 (jK qM)
open L2.Mr.Sp
open L2.Mr.Pp
open L2.Mr.K03 (gE)
open L2.Mr.K82 (uN qO mO uO)
section
variable{n k k':Nat}{ps:dn}{r:zr}{H:Hs}{ρ:Ev}{a b:Int}
theorem need_ok (o:Ah n ps):F_qr [aJ n ps] H=.ok .non H:=K05.need_ok o
theorem turned_ok (o:Ah n ps):∃H',F_qA [aJ n ps] H=.ok (aJ n (dS cJ (gE ps))) H'/\Fr [] H H':=K03.turned_ok o
theorem least_ok (o:Ah n ps):∃H',F_qq [aJ n ps] H=.ok (.int (fF n ps)) H'/\Fr [] H H':=K06.least_ok o
theorem lpairs_ok (o:Ah n ps):F_qj [aJ n ps] H=.ok (.ref H.length) (H++[.lst ((bK n ps).map aH)]):=K05.lpairs_ok o
theorem loose_is:F_qu [aJ n ps,.int a,.int b] H=.ok (.bl (decide (Lse ps a b))) H:=K05.loose_is
theorem may_ok (o:Ah n ps):∃i H',F_q5 [aJ n ps,aR r] H=.ok (.ref i) H'/\getL H' i=some ((cP n ps r).map Dv.int)/\Fr [] H H':=K04.may_ok o
theorem z2w {lo hi:Int}(h1:lo<=a) (h2:a<=hi):F_qf [.int a,.int lo,.int hi] H=.ok .non H:=by have e:=yH (x:=a) (lo:=lo) (hi:=hi) (H:=H);rw[decide_eq_true h1,decide_eq_true h2]at e;simp[F_qf,L6,aS,dD,aX,cG,bI,aD,aB,aA,aC,e,lF,bG,bP]
theorem ER (o:Ah n ps) (h1:0<=a) (h2:a<=5):F_qa [aJ n ps,.int a] H=.ok .non H:=by
 have e:cC (aD F_qf (aB (aA 1) (aB (mC (.int 0)) (aB (mC (.int 5)) aC)))) [some (aJ n ps),some (.int a)] H=.nx [some (aJ n ps),some (.int a)] H:=by have q:=z2w (H:=H) h1 h2;generalize F_qf=F at q;simp[cC,aD,aB,aA,mC,aC,q]
 show bP (aI (cC (aD F_qr (aB (aA 0) aC))) _ [some (aJ n ps),some (.int a)] H)=_;rw[bH (uN (F:=F_qr) rfl (need_ok o)),e];rfl
def fD:Option (Int×Int)->Dv
 |none=>.non
 |some q=>.tup [.str "far",.int q.1,.int q.2]
theorem mJ {F:zv}{d e f v:Dv}{x y z:Nat}{H':Hs}(h1:aA x ρ=λH=>.ok d H) (h2:aA y ρ=λH=>.ok e H) (h3:aA z ρ=λH=>.ok f H) (q:F [d,e,f] H=.ok v H'):aD F (aB (aA x) (aB (aA y) (aB (aA z) aC))) ρ H=.ok v H':=by simp[aD,aB,h1,h2,h3,aC,q]
theorem qP {m:M Dv}{c:Bool}{H':Hs}(h:m ρ H=.ok (.bl c) H'):bI m ρ H=.ok c H':=by unfold bI;rw[h];rfl
theorem jL {m:M Dv}{c:Bool}{H':Hs}(h:m ρ H=.ok (.bl c) H'):mB m ρ H=.ok c H':=by unfold mB;rw[h];rfl
theorem ES {t u:M Bool}{H':Hs}(h:t ρ H=.ok true H'):dW t u ρ H=u ρ H':=by unfold dW;rw[h];rfl
theorem N9 {t u:M Bool}{H':Hs}(h:t ρ H=.ok false H'):dW t u ρ H=.ok false H':=by unfold dW;rw[h];rfl
abbrev fB:MS:=aX (dW (mB (m2 (bU true) (aA 4) (aA 2))) (bI (aD F_qu (aB (aA 0) (aB (aA 3) (aB (aA 4) aC)))))) (aL (aT (aB (mC (.str "far")) (aB (aA 3) (aB (aA 4) aC))))) bG
abbrev iV (n:Nat) (ps:dn) (k:Nat) (r:zr) (a:Int) (x:zx):Ev:=[some (aJ n ps),some (.int k),some (aR r),some (.int a),x]
def pF (ps:dn) (r:zr) (a b:Int):Bool:=!decide (b∈r)&&decide (Lse ps a b)
theorem z2x:fB (iV n ps k r a (some (.int b))) H=if pF ps r a b then .rt (.tup [.str "far",.int a,.int b]) H else .nx (iV n ps k r a (some (.int b))) H:=by
 have e1:mB (m2 (bU true) (aA 4) (aA 2)) (iV n ps k r a (some (.int b))) H=.ok (!decide (b∈r)) H:=jL (eK (ma:=aA 4) (mb:=aA 2) rfl rfl (tR true H b r));have e2:bI (aD F_qu (aB (aA 0) (aB (aA 3) (aB (aA 4) aC)))) (iV n ps k r a (some (.int b))) H=.ok (decide (Lse ps a b)) H:=qP (mJ (F:=F_qu) rfl rfl rfl loose_is);unfold pF
 cases c:decide (b∈r)with
 |true=>rw[c]at e1;exact(gD (N9 e1)).trans rfl
 |false=>
  rw[c]at e1
  cases d:decide (Lse ps a b)with
  |true=>rw[d]at e2;exact(kU ((ES e1).trans e2)).trans rfl
  |false=>rw[d]at e2;exact(gD ((ES e1).trans e2)).trans rfl
theorem ET:∀(f m:Nat) (x:zx),f+m=n->(match ((zb m f).map λj:Nat=>(j:Int)).find? (pF ps r a)with
  |some b=>eC (bX 0 n) (aF 4) fB f m (iV n ps k r a x) H=.rt (.tup [.str "far",.int a,.int b]) H
  |none=>∃y,eC (bX 0 n) (aF 4) fB f m (iV n ps k r a x) H=.nx (iV n ps k r a y) H)
 |0,m,x,_=>⟨x,rfl⟩
 |f+1,m,x,h=>by
  rw[List.range'_succ,df,List.find?_cons];have hz:(0+(m:Int))=(m:Int):=by omega
  have e:=z2x (n:=n) (ps:=ps) (k:=k) (r:=r) (a:=a) (b:=(m:Int)) (H:=H);have hg:(bX 0 n).get m H=some (.int (m:Int)):=by simp[bX]
  cases c:pF ps r a (m:Int)with
  |true=>rw[c]at e;exact K05.for_ret hg rfl e
  |false=>rw[c]at e;have ih:=ET f (m+1) (some (.int (m:Int))) (by omega);rw[oX (sg:=aF 4) (ρ1:=iV n ps k r a (some (.int (m:Int)))) hg rfl e];exact ih
theorem OA (n:Nat):bO n=(zb 0 n).map λj:Nat=>(j:Int):=by unfold bO;rw[List.range_eq_range'];rfl
theorem z2y {j:Nat}(h:j<r.length):aO (aR r) (.int (-1 - j)) H=.ok (.int (r.getD (r.length - 1 - j) 0)) H:=by
 have e:gU (r.map Dv.int) (-1 - (j:Int))=some (.int (r.getD (r.length - 1 - j) 0)):=by
  have hx:gA r.length (-1 - (j:Int))=some (r.length - 1 - j):=by
   unfold gA;rw[if_neg (by omega),if_pos (by omega)]
   congr 1
   omega
  unfold gU;rw[aw,hx];show(r.map Dv.int)[r.length - 1 - j]?=_;rw[dz,ba (by omega),kv,ba (by omega)];rfl
 show jQ (r.map Dv.int) _ H=_;unfold jQ;rw[e]
theorem z2z {ma mb:M Dv}{a b:Int}(e1:ma ρ H=.ok (.int a) H) (e2:mb ρ H=.ok (.int b) H):mB (m2 gM ma mb) ρ H=.ok (decide (a<=b)) H:=jL (eK e1 e2 rfl)
theorem z30 {j:Nat}{b:Int}(e:aA j ρ=λH=>.ok (.int b) H):m2 eE (m1 oP (mC (.int 1))) (aA j) ρ H=.ok (.int (-1 - b)) H:=by simp[m2,m1,oP,mC,e,eE,iZ]
abbrev fM:MS:=dR (aQ cH (aB (m2 aO (aA 0) (mC (.int 0))) aC)) (aF 4) fB
theorem OB (hn:n<=6):aQ cH (aB (m2 aO (aA 0) (mC (.int 0))) aC) (iV n ps k r a none) H=.ok (bX 0 n) H:=sE (L:=(n:Int)) rfl (by omega) (by omega)
theorem OC:(bX 0 (n:Int)).n=n:=by simp[bX]
theorem z31 (hn:n<=6) (h:(bO n).find? (pF ps r a)=some b):fM (iV n ps k r a none) H=.rt (.tup [.str "far",.int a,.int b]) H:=by have l:=ET (n:=n) (ps:=ps) (k:=k) (r:=r) (a:=a) (H:=H) n 0 none (by omega);rw[<-OA,h]at l;refine(nL (OB hn)).trans ?_;rw[OC];exact l
theorem z32 (hn:n<=6) (h:(bO n).find? (pF ps r a)=none):∃y,fM (iV n ps k r a none) H=.nx (iV n ps k r a y) H:=by have l:=ET (n:=n) (ps:=ps) (k:=k) (r:=r) (a:=a) (H:=H) n 0 none (by omega);rw[<-OA,h]at l;obtain⟨y,l⟩:=l;exact⟨y,(nL (OB hn)).trans (by rw[OC];exact l)⟩
theorem EU {m u:MS}{d:Dv}{H':Hs}(e:m ρ H=.rt d H'):bP (aI m u ρ H)=.ok d H':=by unfold aI;rw[e];rfl
theorem z33 {m:MS}{ρ':Ev}{H':Hs}(e:m ρ H=.nx ρ' H'):bP (aI m (aL (mC .non)) ρ H)=.ok .non H':=by unfold aI;rw[e];rfl
theorem z34 (hn:n<=6):bP (aI fM (aL (mC .non)) (iV n ps k r a none) H)=.ok (fD (((bO n).find? (pF ps r a)).map λb=>(a,b))) H:=by
 cases e:(bO n).find? (pF ps r a)with
 |some b=>exact EU (z31 hn e)
 |none=>obtain⟨y,q⟩:=z32 (k:=k) (H:=H) hn e;exact z33 q
theorem z35 (hn:n<=6) (hr:r.length<=500):F_q6 [aJ n ps,.int k,aR r] H=.ok (fD (gI n ps k r)) H:=by
 show bP (aI (aX (mB (m2 gM (aD (f1 bR) (aB (aA 2) aC)) (aA 1))) (aL (mC .non)) bG) (aI (aM (m2 aO (aA 2) (m2 eE (m1 oP (mC (.int 1))) (aA 1))) (aF 3)) (aI fM (aL (mC .non)))) [some (aJ n ps),some (.int k),some (aR r),none,none] H)=_;have e1:mB (m2 gM (aD (f1 bR) (aB (aA 2) aC)) (aA 1)) [some (aJ n ps),some (.int k),some (aR r),none,none] H=.ok (decide ((r.length:Int)<=k)) H:=by refine z2z ?_ (b:=(k:Int)) rfl;rw[uI (ds:=r.map Dv.int) rfl,aw]
 by_cases c:r.length<=k
 ·rw[decide_eq_true (by omega)]at e1;have hf:gI n ps k r=none:=by unfold gI;rw[if_pos c]
  rw[hf];unfold aI;rw[kU e1];rfl
 ·rw[decide_eq_false (by omega)]at e1;have hf:gI n ps k r=((bO n).find? (pF ps r (r.getD (r.length - 1 - k) 0))).map λb=>(r.getD (r.length - 1 - k) 0,b):=by unfold gI;rw[if_neg c];rfl
  rw[hf];have w1:aX (mB (m2 gM (aD (f1 bR) (aB (aA 2) aC)) (aA 1))) (aL (mC .non)) bG [some (aJ n ps),some (.int k),some (aR r),none,none] H=.nx [some (aJ n ps),some (.int k),some (aR r),none,none] H:=(gD e1).trans rfl;have w2:aM (m2 aO (aA 2) (m2 eE (m1 oP (mC (.int 1))) (aA 1))) (aF 3) [some (aJ n ps),some (.int k),some (aR r),none,none] H=.nx (iV n ps k r (r.getD (r.length - 1 - k) 0) none) H:=qJ (eK (ma:=aA 2) rfl (z30 (b:=(k:Int)) rfl) (z2y (by omega))) rfl;rw[bH w1,bH w2];exact z34 hn
theorem OD:∀{f:Nat}{r:zr}{d:Dv},dX n ps k f r=some d->∃ds,d=.tup ds
 |0,r,d,h=>by cases h
 |f+1,r,d,h=>by
  rw[dX]at h
  split at h
  ·cases h;exact⟨_,rfl⟩
  ·split at h
   ·cases h
   ·split at h
    ·cases h;exact⟨_,rfl⟩
    ·cases h
def oD (x:zx):Dv:=x.getD .non
abbrev pB (Fs:zv):MS:=aI (aM (aD Fs (aB (aA 0) (aB (aA 1) (aB (m2 cN (aA 2) (aT (aB (aA 5) aC))) aC)))) (aF 6)) (aI (aX (mB (m2 (dP false) (aA 6) (mC .non))) (aL (mC .non)) bG) (cC (iN (aA 4) (aA 6))))
abbrev gS (n:Nat) (ps:dn) (k:Nat) (r:zr) (p:Nat) (x y:zx):Ev:=[some (aJ n ps),some (.int k),some (aR r),some .non,some (.ref p),x,y]
theorem OE {o m:M Dv}{p:Nat}{d:Dv}{xs:zw}{H1:Hs}(eo:o ρ H=.ok (.ref p) H) (hp:(getL H p).isSome=true) (em:m ρ H=.ok d H1) (g:getL H1 p=some xs) (hl:xs.length<1000000):cC (iN o m) ρ H=.nx ρ (H1.set p (.lst (xs++[d]))):=by simp[cC,iN,eo,jD,hp,em,pM,g,hl]
theorem OF {Fs:zv}{g:Int->zx}{xs:zr}{i p:Nat}(hip:i≠p) (hr:r.length<=100) (ht:∀x d,g x=some d->∃ds,d=.tup ds):
  ∀(rest:zr) (m:Nat) (acc:zw) (H:Hs) (x y:zx),xs.drop m=rest->acc.length+rest.length<=1000->getL H i=some (xs.map Dv.int)->getL H p=some acc->(∀x∈rest,∀H,∃H',Fs [aJ n ps,.int k,aR (r++[x])] H=.ok (oD (g x)) H'/\Fr [] H H')->
  ∃H',Fr [p] H H'/\(match bB g rest with
   |some ds=>∃x' y',eC (bZ i xs.length) (aF 5) (pB Fs) rest.length m (gS n ps k r p x y) H=.nx (gS n ps k r p x' y') H'/\getL H' p=some (acc++ds)
   |none=>eC (bZ i xs.length) (aF 5) (pB Fs) rest.length m (gS n ps k r p x y) H=.rt .non H')
 | [],m,acc,H,x,y,_,_,gi,gp,_=>⟨H,Fr.refl,x,y,by rw[kh];unfold eC;simp[bZ,gi],by simpa using gp⟩
 |z::rest,m,acc,H,x,y,hd,hl,gi,gp,hF=>by
  have hm:m<xs.length:=by refine Nat.lt_of_not_le λc=>?_;rw[List.drop_of_length_le c]at hd;cases hd
  rw[xq hm]at hd;injection hd with hz hd;have hg:(bZ i xs.length).get m H=some (.int z):=by simp[bZ,gi,hm,hz]
  obtain⟨H1,e1,f1'⟩:=hF z (ax ..) H;have ea:m2 cN (aA 2) (aT (aB (aA 5) aC)) (gS n ps k r p (some (.int z)) y) H=.ok (aR (r++[z])) H:=K04.add_one hr rfl rfl;have ec:aD Fs (aB (aA 0) (aB (aA 1) (aB (m2 cN (aA 2) (aT (aB (aA 5) aC))) aC))) (gS n ps k r p (some (.int z)) y) H=.ok (oD (g z)) H1:=by generalize m2 cN (aA 2) (aT (aB (aA 5) aC))=M at ea;simp[aD,aB,aA,ea,aC,e1]
  have w1:aM (aD Fs (aB (aA 0) (aB (aA 1) (aB (m2 cN (aA 2) (aT (aB (aA 5) aC))) aC)))) (aF 6) (gS n ps k r p (some (.int z)) y) H=.nx (gS n ps k r p (some (.int z)) (some (oD (g z)))) H1:=qJ ec rfl;rw[bB]
  cases c:g z with
  |none=>rw[c]at w1;refine⟨H1,f1'.mono (by simp), ?_⟩;refine K05.for_ret (ρ1:=gS n ps k r p (some (.int z)) y) hg rfl ?_;show aI _ _ (gS n ps k r p (some (.int z)) y) H=_;rw[bH w1];rfl
  |some d=>
   rw[c]at w1;obtain⟨ds,rfl⟩:=ht z d c;have gp1:=f1'.getL gp (by simp);have w2:cC (iN (aA 4) (aA 6)) (gS n ps k r p (some (.int z)) (some (.tup ds))) H1=.nx (gS n ps k r p (some (.int z)) (some (.tup ds))) (H1.set p (.lst (acc++[.tup ds]))):=OE (o:=aA 4) (m:=aA 6) rfl (by rw[gp1];rfl) rfl gp1 (by omega);have wb:pB Fs (gS n ps k r p (some (.int z)) y) H=.nx (gS n ps k r p (some (.int z)) (some (.tup ds))) (H1.set p (.lst (acc++[.tup ds]))):=by show aI _ _ (gS n ps k r p (some (.int z)) y) H=_;rw[bH w1,bH (show aX _ _ _ _ H1=.nx (gS n ps k r p (some (.int z)) (some (.tup ds))) H1 from rfl),w2]
   have f2:Fr [p] H1 (H1.set p (.lst (acc++[.tup ds]))):=Fr.set;obtain⟨H',fH,ih⟩:=OF hip hr ht rest (m+1) (acc++[.tup ds]) (H1.set p (.lst (acc++[.tup ds]))) (some (.int z)) (some (.tup ds)) hd (by simp at hl ⊢;omega) (f2.getL (f1'.getL gi (by simp)) (by simpa using hip)) (nK gp1) (λx hx=>hF x (aq _ hx));refine⟨H',((f1'.mono (T:=[p]) (by simp)).trans f2 (by simp)).trans fH (by simp), ?_⟩;rw[cp,oX (sg:=aF 5) (ρ1:=gS n ps k r p (some (.int z)) y) hg rfl wb]
   cases e2:bB g rest with
   |none=>rw[e2]at ih;exact ih
   |some es=>rw[e2]at ih;obtain⟨x',y',h1,h2⟩:=ih;refine⟨x',y',h1, ?_⟩;rw[h2];simp
theorem OG (o:Ah n ps):∀(f j:Nat) (r:zr) (H:Hs),r∈cR n ps j->j<=n->n - j<f->∃H',F_qs f [aJ n ps,.int k,aR r] H=.ok (oD (dX n ps k f r)) H'/\Fr [] H H'
 |0,j,r,H,_,_,h=>by omega
 |f+1,j,r,H,hr,hj,hf=>by
  have n6:=o.n6;have hl:=K04.rws_mem o hr;have e1:=z35 (ps:=ps) (k:=k) (r:=r) (H:=H) n6 (by omega);have w1:aM (aD F_q6 (aB (aA 0) (aB (aA 1) (aB (aA 2) aC)))) (aF 3) [some (aJ n ps),some (.int k),some (aR r),none,none,none,none] H=.nx [some (aJ n ps),some (.int k),some (aR r),some (fD (gI n ps k r)),none,none,none] H:=qJ (mJ (F:=F_q6) rfl rfl rfl e1) rfl;show ∃H',bP (aI (aM (aD F_q6 (aB (aA 0) (aB (aA 1) (aB (aA 2) aC)))) (aF 3)) (aI (aX (dE (mB (m2 (dP true) (aA 3) (mC .non))) (mB (m2 bE (aD (f1 bR) (aB (aA 2) aC)) (m2 aO (aA 0) (mC (.int 0)))))) (aL (aA 3)) bG) (aI (aM (cA aC) (aF 4)) (aI (dR (bC cD (aD F_q5 (aB (aA 0) (aB (aA 2) aC)))) (aF 5) (pB (F_qs f))) (aL (aT (aB (mC (.str "next")) (aB (aD (f1 eM) (aB (aA 4) aC)) aC))))))) [some (aJ n ps),some (.int k),some (aR r),none,none,none,none] H)=_/\_;rw[bH w1,dX]
  cases e:gI n ps k r with
  |some q=>refine⟨H, ?_,Fr.refl⟩;have t:dE (mB (m2 (dP true) (aA 3) (mC .non))) (mB (m2 bE (aD (f1 bR) (aB (aA 2) aC)) (m2 aO (aA 0) (mC (.int 0))))) [some (aJ n ps),some (.int k),some (aR r),some (fD (some q)),none,none,none] H=.ok true H:=NM rfl;unfold aI;rw[kU t];rfl
  |none=>
   have t:dE (mB (m2 (dP true) (aA 3) (mC .non))) (mB (m2 bE (aD (f1 bR) (aB (aA 2) aC)) (m2 aO (aA 0) (mC (.int 0))))) [some (aJ n ps),some (.int k),some (aR r),some .non,none,none,none] H=.ok (decide ((r.length:Int)=n)) H:=by rw[mH (show mB (m2 (dP true) (aA 3) (mC .non)) [some (aJ n ps),some (.int k),some (aR r),some .non,none,none,none] H=.ok false H from rfl)];refine jL (eK (uI (ds:=r.map Dv.int) rfl) (eK (ma:=aA 0) (mb:=mC (.int 0)) rfl rfl (MZ H)) ?_);rw[aw];exact K05.eq_int _ _
   dsimp only
   by_cases c:r.length=n
   ·rw[decide_eq_true (by omega)]at t;rw[if_pos c];refine⟨H, ?_,Fr.refl⟩;show bP (aI _ _ [some (aJ n ps),some (.int k),some (aR r),some .non,none,none,none] H)=_;unfold aI;rw[kU t];rfl
   ·rw[decide_eq_false (by omega)]at t;have w0:aX (dE (mB (m2 (dP true) (aA 3) (mC .non))) (mB (m2 bE (aD (f1 bR) (aB (aA 2) aC)) (m2 aO (aA 0) (mC (.int 0)))))) (aL (aA 3)) bG [some (aJ n ps),some (.int k),some (aR r),some .non,none,none,none] H=.nx [some (aJ n ps),some (.int k),some (aR r),some .non,none,none,none] H:=(gD t).trans rfl;rw[if_neg c,bH (show aX _ _ _ [some (aJ n ps),some (.int k),some (aR r),some (fD none),none,none,none] H=_ from w0)];have w2:aM (cA aC) (aF 4) [some (aJ n ps),some (.int k),some (aR r),some .non,none,none,none] H=.nx (gS n ps k r H.length none none) (H++[.lst []]):=rfl;have g2:getL (H++[Ob.lst []]) H.length=some []:=last_get;have f2:Fr [] H (H++[Ob.lst []]):=Fr.app;have lt2:(H++[Ob.lst []]).length=H.length+1:=by simp
    rw[bH w2];generalize H++[Ob.lst []]=H2 at g2 f2 lt2;obtain⟨i,H3,e3,g3,f3⟩:=may_ok (r:=r) (H:=H2) o;have hi:i≠H.length:=by
     rintro rfl
     rw[f3.getL g2 (by simp)]at g3;have:(cP n ps r).map Dv.int=[]:=(cw g3).symm;exact K06.may_ne o hr (by omega) (by simpa using this)
    have es:=K04.src_2 (F:=F_q5) (ρ:=gS n ps k r H.length none none) (x:=0) (y:=2) rfl rfl e3 g3;rw[aw]at es;have hm6:(cP n ps r).length<=6:=by have:(cP n ps r).length<=(bO n).length:=kj _ _;simp[bO]at this;omega
    obtain⟨H4,f4,l⟩:=OF (n:=n) (ps:=ps) (k:=k) (r:=r) (Fs:=F_qs f) (g:=λx=>dX n ps k f (r++[x])) (xs:=cP n ps r) (i:=i) (p:=H.length) hi (by omega) (λx d h=>OD h) (cP n ps r) 0 [] H3 none none rfl (by simp;omega) g3 (f3.getL g2 (by simp)) (λx hx H=>OG o f (j+1) (r++[x]) H (Bm.mpr ⟨hr,hx⟩) (by omega) (by omega));have fA:Fr [] H H4:=(f2.trans f3 (by simp)).trans f4 (by simp)
    cases e2:bB (λx=>dX n ps k f (r++[x])) (cP n ps r)with
    |none=>rw[e2]at l;refine⟨H4, ?_,fA⟩;unfold aI;rw[nL es,show(bZ i (cP n ps r).length).n=(cP n ps r).length from rfl,l];rfl
    |some ds=>
     rw[e2]at l;obtain⟨x',y',l1,l2⟩:=l;refine⟨H4, ?_,fA⟩;rw[bH ((nL es).trans l1)];have t1:f1 eM [.ref H.length] H4=.ok (.tup ds) H4:=by rw[List.nil_append]at l2;simp[f1,eM,l2]
     unfold aL;rw[uO (ma:=mC (.str "next")) rfl (jK (F:=f1 eM) (x:=4) rfl t1)];rfl
theorem OH (o:Ah n ps) (hk:k<=5):∃H',F_qz [aJ n ps,.int k] H=.ok (oD (dX n ps k 8 [])) H'/\Fr [] H H':=by
 have n6:=o.n6;obtain⟨H1,e1,f⟩:=OG (k:=k) o 8 0 [] H (by simp[cR]) (by omega) (by omega);refine⟨H1, ?_,f⟩;show bP (aI (cC (aD F_qa (aB (aA 0) (aB (aA 1) aC)))) (aL (aD (F_qs 8) (aB (aA 0) (aB (aA 1) (aB (aT aC) aC))))) [some (aJ n ps),some (.int k)] H)=_;rw[bH (qO (F:=F_qa) rfl rfl (ER o (by omega) (by omega)))];have e2:aD (F_qs 8) (aB (aA 0) (aB (aA 1) (aB (aT aC) aC))) [some (aJ n ps),some (.int k)] H=.ok (oD (dX n ps k 8 [])) H1:=by have e1':F_qs 8 [aJ n ps,.int k,.tup []] H=.ok (oD (dX n ps k 8 [])) H1:=e1;generalize F_qs 8=F at e1';simp[aD,aB,aA,aT,aC,lim,e1']
 unfold aL;rw[e2];rfl
end
open L2.Mr.Cod (last_get bK Ai Lse)
open L2.Mr.K04 (aR kZ mK cP cR rws_mem)
open L2.Mr.K05 (ix As)
open L2.Mr.K06 (jK qM qN)
open L2.Mr.K82 (uN qO mO uO)
section
variable{n k k':Nat}{ps:dn}{r:zr}{H:Hs}{ρ:Ev}{a b:Int}
theorem z36 (nd:r.Nodup) (rg:∀x∈r,0<=x/\x<n) {q:Int×Int}(e:gI n ps k r=some q):0<=q.1/\q.1<n/\0<=q.2/\q.2<n/\q.1∈r/\q.2∉r/\Lse ps q.1 q.2/\ix r q.1+k+1=r.length:=by
 unfold gI at e
 split at e
 ·cases e
 ·rename_i c;obtain⟨b,hb,e⟩:=qq.mp e;have hm:=As.mp (xr hb);have hp:=List.find?_some hb;simp only[da,mr,decide_eq_false_iff_not,decide_eq_true_eq]at hp;have hx:r.length - 1 - k<r.length:=by omega
  have eg:r.getD (r.length - 1 - k) 0=r[r.length - 1 - k]:=by rw[kv,ba hx];rfl
  rw[eg]at hp e;subst e;have r1:=rg _ (dk hx);refine⟨r1.1,r1.2,hm.1,hm.2,dk hx,hp.1,hp.2, ?_⟩;rw[EL nd hx];omega
theorem yV {m u:M Dv}{H':Hs}(h:m ρ H=.ok (.bl true) H'):dH m u ρ H=u ρ H':=by unfold dH;rw[h];rfl
theorem z37 {ma mb:M Dv}{a b:Int}{H1 H2:Hs}(e1:ma ρ H=.ok (.int a) H1) (e2:mb ρ H1=.ok (.int b) H2):m2 pP ma mb ρ H=.ok (.bl (decide (a>=b))) H2:=eK e1 e2 rfl
theorem OI {ma mb:M Dv}{a b:Int}{H1 H2:Hs}(e1:ma ρ H=.ok (.int a) H1) (e2:mb ρ H1=.ok (.int b) H2):m2 nI ma mb ρ H=.ok (.bl (decide (a>b))) H2:=eK e1 e2 rfl
theorem yW {ma mb:M Dv}{a b:Int}{H1 H2:Hs}(e1:ma ρ H=.ok (.int a) H1) (e2:mb ρ H1=.ok (.int b) H2):m2 eE ma mb ρ H=.ok (.int (a - b)) H2:=eK e1 e2 rfl
theorem OJ {N a:Int}(h0:0<=a) (h1:a<N):F_q3 [.int N,.int a] H=.ok (.bl true) H:=by
 rw[M4];have:Com.isT N a=true:=by simp[Com.isT];omega
 rw[this]
abbrev kF (n:Nat) (ps:dn) (k:Int) (r:zr) (a b:Int) (x:zx):Ev:=[some (aJ n ps),some (.int k),some (aR r),some (.int a),some (.int b),x]
theorem z38 {K:Int}(a0:0<=a) (a1:a<n) (b0:0<=b) (b1:b<n) (ha:a∈r) (hb:b∉r) (hl:Lse ps a b) (hx:ix r a+k+1=r.length):F_q9 [aJ n ps,.int K,aR r,.int a,.int b] H=.ok (.bl (decide (K<=k))) H:=by
 have w1:aM (m2 aO (aA 0) (mC (.int 0))) (aF 5) (kF n ps K r a b none) H=.nx (kF n ps K r a b (some (.int n))) H:=rfl;have t1:cG (bI (aD F_q3 (aB (aA 5) (aB (aA 3) aC)))) (kF n ps K r a b (some (.int n))) H=.ok false H:=sD (b:=true) (qP (mO (F:=F_q3) rfl rfl (OJ a0 a1)));have t2:cG (bI (aD F_q3 (aB (aA 5) (aB (aA 4) aC)))) (kF n ps K r a b (some (.int n))) H=.ok false H:=sD (b:=true) (qP (mO (F:=F_q3) rfl rfl (OJ b0 b1)));have t3:mB (m2 (bU true) (aA 3) (aA 2)) (kF n ps K r a b (some (.int n))) H=.ok false H:=by have:=tR true H a r;rw[decide_eq_true ha]at this;exact jL (eK (ma:=aA 3) (mb:=aA 2) rfl rfl this)
 have t4:mB (m2 (bU false) (aA 4) (aA 2)) (kF n ps K r a b (some (.int n))) H=.ok false H:=by have:=tR false H b r;rw[decide_eq_false hb]at this;exact jL (eK (ma:=aA 4) (mb:=aA 2) rfl rfl this)
 have w2:aX (dE (cG (bI (aD F_q3 (aB (aA 5) (aB (aA 3) aC))))) (dE (cG (bI (aD F_q3 (aB (aA 5) (aB (aA 4) aC))))) (dE (mB (m2 (bU true) (aA 3) (aA 2))) (mB (m2 (bU false) (aA 4) (aA 2)))))) (aL (mC (.bl false))) bG (kF n ps K r a b (some (.int n))) H=.nx (kF n ps K r a b (some (.int n))) H:=by refine(gD ?_).trans rfl;rw[mH t1,mH t2,mH t3];exact t4
 have l:=loose_is (n:=n) (ps:=ps) (H:=H) (a:=a) (b:=b);rw[decide_eq_true hl]at l;have e1:=mJ (F:=F_qu) (ρ:=kF n ps K r a b (some (.int n))) (x:=0) (y:=3) (z:=4) rfl rfl rfl l;have e2:aD (f1 bR) (aB (aA 2) aC) (kF n ps K r a b (some (.int n))) H=.ok (.int r.length) H:=by rw[uI (ds:=r.map Dv.int) rfl,aw]
 have e3:jG (aA 2) (aA 3) (kF n ps K r a b (some (.int n))) H=.ok (.int (ix r a)) H:=K05.idx_V (a:=2) rfl rfl ha;have e4:=z37 (yW (yW (mb:=mC (.int 1)) e2 rfl) e3) (mb:=aA 1) (b:=K) rfl;rw[show decide ((r.length:Int) - 1 - ix r a>=K)=decide (K<=k)by congr 1;simp only[ge_iff_le,eq_iff_iff];omega]at e4;show bP (aI _ (aI _ (aL _)) (kF n ps K r a b none) H)=_;rw[bH w1,bH w2];unfold aL;rw[yV e1,e4];rfl
abbrev OK (Fs:zv):M zw :=bJ (aQ zipM (aB (aA 4) (aB (aA 3) aC))) [none,none,some 0,some 1,some 2] (cM 2 (aU (aF 0) (aU (aF 1) cO))) bQ (bA (aD Fs (aB (aA 2) (aB (aA 3) (aB (m2 cN (aA 4) (aT (aB (aA 0) aC))) (aB (aA 1) aC))))))
abbrev kG (n:Nat) (ps:dn) (K:Int) (r:zr) (ds:zw) (x:zx):Ev:=[some (aJ n ps),some (.int K),some (aR r),some (.tup ds),x]
theorem z39 (Fs:zv):xH Fs=aI (aM (aD F_q5 (aB (aA 0) (aB (aA 2) aC))) (aF 4)) (aI (aX (dE (cG (bI (m1 (eX gN) (aA 3)))) (dE (mB (m2 dN (aD (f1 bR) (aB (aA 3) aC)) (aD (f1 bR) (aB (aA 4) aC)))) (cG (bI (aA 4))))) (aL (mC (.bl false))) bG) (aL (mL hY (OK Fs)))):=rfl
theorem uP {F:zv}{ma mb mc md:M Dv}{a b c d v:Dv}{H1 H2 H3 H4 H':Hs}(ha:ma ρ H=.ok a H1) (hb:mb ρ H1=.ok b H2) (hc:mc ρ H2=.ok c H3) (hd:md ρ H3=.ok d H4) (e:F [a,b,c,d] H4=.ok v H'):aD F (aB ma (aB mb (aB mc (aB md aC)))) ρ H=.ok v H':=by simp[aD,aB,ha,hb,hc,hd,aC,e]
theorem z3a {Fs:zv}{K:Int}{i:Nat}{xs:zr}{ds:zw}{c:Bool}(hr:r.length<=100) (g:getL H i=some (xs.map Dv.int)) (hl:ds.length=xs.length) (h6:xs.length<=6)
  (hF:∀(m:Nat) (h1:m<xs.length) (h2:m<ds.length) (H:Hs),∃H',Fs [aJ n ps,.int K,aR (r++[xs[m]]),ds[m]] H=.ok (.bl c) H'/\Fr [] H H'):
  ∃H',OK Fs (kG n ps K r ds (some (.ref i))) H=.ok ((xs.zip ds).filterMap λq=>some (.bl ((λ_=>c) q))) H'/\Fr [] H H':=by
 have hz:(xs.zip ds).length=xs.length:=by simp[hl]
 obtain⟨ρ',H',h,_,f⟩:=qG (mi:=aQ zipM (aB (aA 4) (aB (aA 3) aC))) (cap:=[none,none,some 0,some 1,some 2]) (src:=rS i (xs.map Dv.int).length ds) (sg:=cM 2 (aU (aF 0) (aU (aF 1) cO))) (t:=bQ) (m:=bA (aD Fs (aB (aA 2) (aB (aA 3) (aB (m2 cN (aA 4) (aT (aB (aA 0) aC))) (aB (aA 1) aC)))))) (ρ:=kG n ps K r ds (some (.ref i))) (H:=H) (H1:=H) (xs.zip ds) (λ_=>[.bl c]) (λρ Hx=>(∃a b,ρ=[a,b,some (aJ n ps),some (.int K),some (aR r)])/\Fr [] H Hx)
  (by simp[aQ,aB,aA,aC,zipM,g]) (by simp[rS,hl]) ⟨⟨_,_,rfl⟩,Fr.refl⟩ (λρ Hx s=>by have gx:=s.2.getL g (by simp);simp[rS,lT,gx])
  (λm hm ρ Hx ⟨⟨a,b,e⟩,f⟩=>by
   subst e;have gx:=f.getL g (by simp);have m1:m<xs.length:=by omega
   have m2':m<ds.length:=by omega
   obtain⟨Hy,ey,fy⟩:=hF m m1 m2' Hx;refine⟨.tup [.int xs[m],ds[m]],[some (.int xs[m]),some ds[m],some (aJ n ps),some (.int K),some (aR r)], ?_,rfl,.inr ⟨Hx,rfl,λacc hl=>⟨_,Hy,rW (uP (F:=Fs) (ma:=aA 2) (mb:=aA 3) (md:=aA 1) rfl rfl (K04.add_one (i:=4) (j:=0) hr rfl rfl) rfl ey) hl,⟨_,_,rfl⟩,f.trans fy (by simp)⟩⟩⟩;have hzm:((xs.map Dv.int).zip ds)[m]?=some (.int xs[m],ds[m]):=by rw[lj];exact⟨by simp[m1],by simp[m2']⟩
   simp[rS,lT,gx,hzm])
  (by rw[qN,aw,hz];omega)
 refine⟨H',h.trans ?_,f⟩;rw[qN,rn]
theorem z3b {Fs:zv}{K:Int}{ds:zw}{c:Bool}(o:Ah n ps) {j:Nat}(hr:r∈cR n ps j) (hj:j<n) (hl:ds.length=(cP n ps r).length)
  (hF:∀(m:Nat) (h1:m<(cP n ps r).length) (h2:m<ds.length) (H:Hs),∃H',Fs [aJ n ps,.int K,aR (r++[(cP n ps r)[m]]),ds[m]] H=.ok (.bl c) H'/\Fr [] H H'):
  ∃H',F_q7 Fs [aJ n ps,.int K,aR r,.tup ds] H=.ok (.bl c) H'/\Fr [] H H':=by
 have n6:=o.n6;have hlen:=rws_mem o hr;obtain⟨i,H1,e1,g1,f1'⟩:=may_ok (r:=r) (H:=H) o;have hne:=K06.may_ne o hr hj;have hm6:(cP n ps r).length<=6:=by have:(cP n ps r).length<=(bO n).length:=kj _ _;simp[bO]at this;omega
 have w1:aM (aD F_q5 (aB (aA 0) (aB (aA 2) aC))) (aF 4) (kG n ps K r ds none) H=.nx (kG n ps K r ds (some (.ref i))) H1:=qJ (mO (F:=F_q5) rfl rfl e1) rfl;generalize cP n ps r=xs at g1 hl hF hne hm6;have t1:cG (bI (m1 (eX gN) (aA 3))) (kG n ps K r ds (some (.ref i))) H1=.ok false H1:=rfl;have e3:aD (f1 bR) (aB (aA 3) aC) (kG n ps K r ds (some (.ref i))) H1=.ok (.int xs.length) H1:=by rw[uI (ds:=ds) rfl,hl]
 have e4:aD (f1 bR) (aB (aA 4) aC) (kG n ps K r ds (some (.ref i))) H1=.ok (.int xs.length) H1:=by simp[aD,aB,aA,aC,f1,bR,gC,hW,fP,g1]
 have t2:mB (m2 dN (aD (f1 bR) (aB (aA 3) aC)) (aD (f1 bR) (aB (aA 4) aC))) (kG n ps K r ds (some (.ref i))) H1=.ok false H1:=by generalize (xs.length:Int)=z at e3 e4;exact jL (eK e3 e4 (by simp[dN,cQ,cB,bN]))
 have t3:cG (bI (aA 4)) (kG n ps K r ds (some (.ref i))) H1=.ok false H1:=by refine sD (b:=true) ?_;simp[bI,aA,lF,g1,hne]
 have w2:aX (dE (cG (bI (m1 (eX gN) (aA 3)))) (dE (mB (m2 dN (aD (f1 bR) (aB (aA 3) aC)) (aD (f1 bR) (aB (aA 4) aC)))) (cG (bI (aA 4))))) (aL (mC (.bl false))) bG (kG n ps K r ds (some (.ref i))) H1=.nx (kG n ps K r ds (some (.ref i))) H1:=by refine(gD ?_).trans rfl;rw[mH t1,mH t2];exact t3
 obtain⟨H2,e5,f2⟩:=z3a (n:=n) (ps:=ps) (r:=r) (H:=H1) (Fs:=Fs) (K:=K) (c:=c) (by omega) g1 hl hm6 hF;have e6:=rX e5;have hc:((xs.zip ds).all λ_=>c)=c:=by
  cases c with
  |true=>simp
  |false=>
   have:xs.zip ds≠[]:=λz=>by have:=congrArg nr z;have hp:=oq.mpr hne;rw[wg,hl,uz,kh]at this;omega
   obtain⟨q,hq⟩:=pz _ this;rw[List.all_eq_false];exact⟨q,hq,by simp⟩
 rw[hc]at e6;refine⟨H2, ?_,f1'.trans f2 (by simp)⟩;show bP (xH Fs (kG n ps K r ds none) H)=_;rw[z39,bH w1,bH w2];unfold aL;rw[e6];rfl
abbrev fU (n:Nat) (ps:dn) (K:Int) (r:zr) (d:Dv):Ev:=[some (aJ n ps),some (.int K),some (aR r),some d]
theorem OL (o:Ah n ps) {K:Int}:∀(f j:Nat) (r:zr) (d:Dv) (H:Hs),r∈cR n ps j->j<=n->dX n ps k f r=some d->∃H',F_q2 f [aJ n ps,.int K,aR r,d] H=.ok (.bl (decide (K<=k))) H'/\Fr [] H H'
 |0,j,r,d,H,_,_,h=>by cases h
 |f+1,j,r,d,H,hr,hj,h=>by
  have hpm:=hr;rw[K04.rws_eq o]at hpm;obtain⟨hl,nd,rg⟩:=K04.prm_mem j r (gd.mp hpm).1;rw[dX]at h
  cases e:gI n ps k r with
  |some q=>
   rw[e]at h;cases h;obtain⟨a0,a1,b0,b1,ha,hb,hls,hx⟩:=z36 nd rg e;have e1:=z38 (n:=n) (ps:=ps) (r:=r) (H:=H) (k:=k) (K:=K) a0 a1 b0 b1 ha hb hls hx;refine⟨H, ?_,Fr.refl⟩;show bP (aI (aX (cG (bI (m1 (eX gN) (aA 3)))) (aL (mC (.bl false))) bG) (aI (aX (dW (mB (m2 bE (aD (f1 bR) (aB (aA 3) aC)) (mC (.int 3)))) (mB (m2 bE (m2 aO (aA 3) (mC (.int 0))) (mC (.str "spread"))))) _ bG) (aI (aX (dW (mB (m2 bE (aD (f1 bR) (aB (aA 3) aC)) (mC (.int 3)))) (mB (m2 bE (m2 aO (aA 3) (mC (.int 0))) (mC (.str "far"))))) (aL (aD F_q9 (aB (aA 0) (aB (aA 1) (aB (aA 2) (aB (m2 aO (aA 3) (mC (.int 1))) (aB (m2 aO (aA 3) (mC (.int 2))) aC))))))) bG) _)) (fU n ps K r (.tup [.str "far",.int q.1,.int q.2])) H)=_;have c1:dW (mB (m2 bE (aD (f1 bR) (aB (aA 3) aC)) (mC (.int 3)))) (mB (m2 bE (m2 aO (aA 3) (mC (.int 0))) (mC (.str "spread")))) (fU n ps K r (.tup [.str "far",.int q.1,.int q.2])) H=.ok false H:=rfl;have c2:dW (mB (m2 bE (aD (f1 bR) (aB (aA 3) aC)) (mC (.int 3)))) (mB (m2 bE (m2 aO (aA 3) (mC (.int 0))) (mC (.str "far")))) (fU n ps K r (.tup [.str "far",.int q.1,.int q.2])) H=.ok true H:=rfl;rw[bH (show aX (cG (bI (m1 (eX gN) (aA 3)))) (aL (mC (.bl false))) bG (fU n ps K r (.tup [.str "far",.int q.1,.int q.2])) H=.nx (fU n ps K r (.tup [.str "far",.int q.1,.int q.2])) H from rfl),bH ((gD c1).trans (show bG _ _=Sr.nx (fU n ps K r (.tup [.str "far",.int q.1,.int q.2])) H from rfl))];refine EU ((kU c2).trans ?_);have e2:aD F_q9 (aB (aA 0) (aB (aA 1) (aB (aA 2) (aB (m2 aO (aA 3) (mC (.int 1))) (aB (m2 aO (aA 3) (mC (.int 2))) aC))))) (fU n ps K r (.tup [.str "far",.int q.1,.int q.2])) H=.ok (.bl (decide (K<=k))) H:=by have x1:m2 aO (aA 3) (mC (.int 1)) (fU n ps K r (.tup [.str "far",.int q.1,.int q.2])) H=.ok (.int q.1) H:=rfl;have x2:m2 aO (aA 3) (mC (.int 2)) (fU n ps K r (.tup [.str "far",.int q.1,.int q.2])) H=.ok (.int q.2) H:=rfl;generalize m2 aO (aA 3) (mC (.int 1))=M1 at x1;generalize m2 aO (aA 3) (mC (.int 2))=M2 at x2;generalize F_q9=F at e1;simp[aD,aB,aA,x1,x2,aC,e1]
   unfold aL;rw[e2];rfl
  |none=>
   rw[e]at h;dsimp only at h
   by_cases c:r.length=n
   ·rw[if_pos c]at h;cases h
   ·rw[if_neg c]at h
    cases e2:bB (λx=>dX n ps k f (r++[x])) (cP n ps r)with
    |none=>rw[e2]at h;cases h
    |some ds=>rw[e2]at h;cases h;obtain⟨l1,l2⟩:=N3 e2;obtain⟨H1,e3,f3⟩:=z3b (n:=n) (ps:=ps) (r:=r) (H:=H) (Fs:=F_q2 f) (K:=K) (ds:=ds) (c:=decide (K<=k)) o hr (by omega) l1 (λm h1 h2 H=>OL o f (j+1) _ _ H (Bm.mpr ⟨hr,dk h1⟩) (by omega) (l2 m h1 h2));refine⟨H1, ?_,f3⟩;show bP (aI (aX (cG (bI (m1 (eX gN) (aA 3)))) (aL (mC (.bl false))) bG) (aI (aX (dW (mB (m2 bE (aD (f1 bR) (aB (aA 3) aC)) (mC (.int 3)))) (mB (m2 bE (m2 aO (aA 3) (mC (.int 0))) (mC (.str "spread"))))) _ bG) (aI (aX (dW (mB (m2 bE (aD (f1 bR) (aB (aA 3) aC)) (mC (.int 3)))) (mB (m2 bE (m2 aO (aA 3) (mC (.int 0))) (mC (.str "far"))))) _ bG) (aL (dH (m2 bE (aD (f1 bR) (aB (aA 3) aC)) (mC (.int 2))) (dH (m2 bE (m2 aO (aA 3) (mC (.int 0))) (mC (.str "next"))) (aD (F_q7 (F_q2 f)) (aB (aA 0) (aB (aA 1) (aB (aA 2) (aB (m2 aO (aA 3) (mC (.int 1))) aC)))))))))) (fU n ps K r (.tup [.str "next",.tup ds])) H)=_;have c1:dW (mB (m2 bE (aD (f1 bR) (aB (aA 3) aC)) (mC (.int 3)))) (mB (m2 bE (m2 aO (aA 3) (mC (.int 0))) (mC (.str "spread")))) (fU n ps K r (.tup [.str "next",.tup ds])) H=.ok false H:=rfl;have c2:dW (mB (m2 bE (aD (f1 bR) (aB (aA 3) aC)) (mC (.int 3)))) (mB (m2 bE (m2 aO (aA 3) (mC (.int 0))) (mC (.str "far")))) (fU n ps K r (.tup [.str "next",.tup ds])) H=.ok false H:=rfl;have c3:m2 bE (aD (f1 bR) (aB (aA 3) aC)) (mC (.int 2)) (fU n ps K r (.tup [.str "next",.tup ds])) H=.ok (.bl true) H:=rfl;have c4:m2 bE (m2 aO (aA 3) (mC (.int 0))) (mC (.str "next")) (fU n ps K r (.tup [.str "next",.tup ds])) H=.ok (.bl true) H:=rfl;have nx:∀{ρ:Ev},bG ρ H=.nx ρ H:=rfl;rw[bH (show aX (cG (bI (m1 (eX gN) (aA 3)))) (aL (mC (.bl false))) bG (fU n ps K r (.tup [.str "next",.tup ds])) H=.nx (fU n ps K r (.tup [.str "next",.tup ds])) H from rfl),bH ((gD c1).trans nx),bH ((gD c2).trans nx)];have e4:=uP (F:=F_q7 (F_q2 f)) (ρ:=fU n ps K r (.tup [.str "next",.tup ds])) (ma:=aA 0) (mb:=aA 1) (mc:=aA 2) (md:=m2 aO (aA 3) (mC (.int 1))) rfl rfl rfl rfl e3;unfold aL;rw[yV c3,yV c4,e4];rfl
theorem OM (o:Ah n ps) {K:Int}(h0:0<=K) (h5:K<=5) {d:Dv}(h:dX n ps k 8 []=some d):∃H',F_qk [aJ n ps,.int K,d] H=.ok (.bl (decide (K<=k))) H'/\Fr [] H H':=by obtain⟨H1,e1,f⟩:=OL (k:=k) o (K:=K) 8 0 [] d H (by simp[cR]) (by omega) h;refine⟨H1, ?_,f⟩;show bP (aI (cC (aD F_qa (aB (aA 0) (aB (aA 1) aC)))) (aL (aD (F_q2 8) (aB (aA 0) (aB (aA 1) (aB (aT aC) (aB (aA 2) aC)))))) [some (aJ n ps),some (.int K),some d] H)=_;rw[bH (qO (F:=F_qa) rfl rfl (ER o h0 h5))];have e2:=uP (F:=F_q2 8) (ρ:=[some (aJ n ps),some (.int K),some d]) (ma:=aA 0) (mb:=aA 1) (mc:=aT aC) (md:=aA 2) rfl rfl (c:=.tup []) rfl rfl e1;unfold aL;rw[e2];rfl
end
open L2.Mr.Cod (last_get bK Ai Lse)
open L2.Mr.K04 (aR kZ mK)
open L2.Mr.K05 (ix As)
open L2.Mr.K06 (jK qM qN)
open L2.Mr.K82 (uN qO mO uO)
section
variable{n k:Nat}{ps:dn}{r cs:zr}{H:Hs}{ρ:Ev}{a b:Int}
def wp (ps:dn) (a x:Int):Bool:=decide (x=a)||decide (Lse ps a x)
abbrev ON:M zw :=bJ (bC cD (aA 1)) [none,some 2,some 0] (aF 0) bQ (bA (aD F_qu (aB (aA 1) (aB (aA 0) (aB (aA 2) aC)))))
abbrev wT:M Bool:=dE (mB (m2 (bU false) (aA 0) (aA 1))) (bI (mL pK ON))
abbrev wC:M zw :=bJ (aQ cH (aB (m2 aO (aA 0) (mC (.int 0))) aC)) [none,some 3,some 0] (aF 0) wT (bA (aA 0))
theorem z3c {i:Nat}{x:Int}(g:getL H i=some [.int a]):wT [some (.int x),some (.ref i),some (aJ n ps)] H=.ok (wp ps a x) H:=by
 have g':getL H i=some (([a]:zr).map Dv.int):=g;have e1:mB (m2 (bU false) (aA 0) (aA 1)) [some (.int x),some (.ref i),some (aJ n ps)] H=.ok (decide (x=a)) H:=by have:=DX false x g';rw[show decide (x∈[a])=decide (x=a)by simp]at this;exact jL (eK (ma:=aA 0) (mb:=aA 1) rfl rfl this)
 have hi:bC cD (aA 1) [some (.int x),some (.ref i),some (aJ n ps)] H=.ok (bZ i 1) H:=by simp[bC,aA,cD,g]
 have w:ON [some (.int x),some (.ref i),some (aJ n ps)] H=.ok (([a]:zr).filterMap λz=>some (.bl ((λz=>decide (Lse ps z x)) z))) H:=
  iK [a] (λz=>some (.bl (decide (Lse ps z x)))) (λρ=>∃y,ρ=[y,some (aJ n ps),some (.int x)]) hi rfl ⟨_,rfl⟩ (by simp[bZ,g]) (λk hk ρ ⟨y,e⟩=>by
   subst e;have hk0:k=0:=by simpa using hk
   subst hk0;refine⟨.int a,[some (.int a),some (aJ n ps),some (.int x)],by simp[bZ,g],rfl,⟨_,rfl⟩,rfl, ?_⟩;exact mJ (F:=F_qu) (x:=1) (y:=0) (z:=2) rfl rfl rfl loose_is) (by simp)
 have e2:=M0 w;rw[show([a]:zr).any (λz=>decide (Lse ps z x))=decide (Lse ps a x)by simp]at e2;unfold wp
 cases c:decide (x=a)with
 |true=>rw[c]at e1;exact NM e1
 |false=>rw[c]at e1;rw[Bool.false_or];exact(mH e1).trans (qP e2)
theorem z3d (hn:n<=6) {i:Nat}{x1 x2 x4:zx}(g:getL H i=some [.int a]):wC [some (aJ n ps),x1,x2,some (.ref i),x4] H=.ok (((bO n).filter (wp ps a)).map Dv.int) H:=by
 have w:wC [some (aJ n ps),x1,x2,some (.ref i),x4] H=.ok ((bO n).filterMap λx=>if wp ps a x then some (.int x)else none) H:=
  iK (bO n) (λx=>if wp ps a x then some (.int x)else none) (λρ=>∃y,ρ=[y,some (.ref i),some (aJ n ps)]) (src:=bX 0 n) (sE (L:=(n:Int)) rfl (by omega) (by omega)) (by simp[bX,bO]) ⟨_,rfl⟩ rfl (λk hk ρ ⟨y,e⟩=>by
   subst e;have gk:(bO n)[k]=(k:Int):=by simp[bO]
   have h00:(0+(k:Int))=(k:Int):=by omega
   refine⟨.int (0+k),[some (.int (0+k)),some (.ref i),some (aJ n ps)],rfl,rfl,⟨_,rfl⟩, ?_⟩;rw[gk,h00];have t:=z3c (n:=n) (ps:=ps) (H:=H) (x:=(k:Int)) g
   cases c:wp ps a (k:Int)with
   |true=>rw[c]at t;exact⟨t,rfl⟩
   |false=>rw[c]at t;exact t) (by simp[bO];omega)
 exact w.trans (congrArg (λl=>Rs.ok l _) (yN _ _ _))
theorem z3e (hn:n<=6):∃i H',F_qg [aJ n ps,.int a,.int 1] H=.ok (.ref i) H'/\getL H' i=some (((bO n).filter (wp ps a)).map Dv.int)/\Fr [] H H':=by
 have w1:aM (cA (aB (aA 1) aC)) (aF 3) [some (aJ n ps),some (.int a),some (.int 1),none,none] H=.nx [some (aJ n ps),some (.int a),some (.int 1),some (.ref H.length),none] (H++[.lst [.int a]]):=rfl;have g1:getL (H++[Ob.lst [.int a]]) H.length=some [.int a]:=last_get;have f1':Fr [] H (H++[Ob.lst [.int a]]):=Fr.app;have e0:F_qg [aJ n ps,.int a,.int 1] H=bP (aI (aM (cA (aB (aA 1) aC)) (aF 3)) (aI (dR (aQ cH (aB (aA 2) aC)) (aF 4) (aM (bM wC) (aF 3))) (aL (aA 3))) [some (aJ n ps),some (.int a),some (.int 1),none,none] H):=rfl;rw[e0,bH w1];generalize H++[Ob.lst [.int a]]=H1 at g1 f1';have w2:aM (bM wC) (aF 3) [some (aJ n ps),some (.int a),some (.int 1),some (.ref H.length),some (.int 0)] H1=.nx [some (aJ n ps),some (.int a),some (.int 1),some (.ref H1.length),some (.int 0)] (H1++[.lst (((bO n).filter (wp ps a)).map Dv.int)]):=DY (z3d hn g1) rfl;refine⟨H1.length,H1++[.lst (((bO n).filter (wp ps a)).map Dv.int)], ?_,last_get,f1'.trans (T:=[]) Fr.app (by simp)⟩;have w3:dR (aQ cH (aB (aA 2) aC)) (aF 4) (aM (bM wC) (aF 3)) [some (aJ n ps),some (.int a),some (.int 1),some (.ref H.length),none] H1=.nx [some (aJ n ps),some (.int a),some (.int 1),some (.ref H1.length),some (.int 0)] (H1++[.lst (((bO n).filter (wp ps a)).map Dv.int)]):=by rw[nL (show aQ cH (aB (aA 2) aC) [some (aJ n ps),some (.int a),some (.int 1),some (.ref H.length),none] H1=.ok (bX 0 1) H1 from rfl)];refine(oX (d:=.int 0) (ρ1:=[some (aJ n ps),some (.int a),some (.int 1),some (.ref H.length),some (.int 0)]) rfl rfl w2).trans ?_;rfl
 rw[bH w3];rfl
theorem z3f {ml:M zw }{ds:zw}{H1:Hs}(h:ml ρ H=.ok ds H1) (ht:∀d∈ds,d=.bl true):mL hY ml ρ H=.ok (.bl true) H1:=by
 have e:ds=ds.filterMap λd=>some (.bl ((λ_=>true) d)):=by
  rw[rn]
  conv=>lhs;rw[<-List.map_id ds]
  exact zo λd hd=>ht d hd
 rw[e]at h;rw[rX h];simp
abbrev jE:M Dv:=m2 (bU false) (aA 1) (aD F_qg (aB (aA 2) (aB (aA 0) (aB (aA 3) aC))))
abbrev jM:MC:=fI (bC dZ (aA 4)) (aF 1) bQ (bA jE)
abbrev jC:M zw :=bJ (bC dZ (aA 1)) [none,none,some 0,some 2,some 1] (aF 0) bQ jM
abbrev nS (n:Nat) (ps:dn) (cs:zr) (x y:zx):Ev:=[x,y,some (aJ n ps),some (.int 1),some (aR cs)]
theorem z3g (hn:n<=6) (b0:0<=b) (b1:b<n) (h:b=a∨Lse ps a b):∃H',jE (nS n ps cs (some (.int a)) (some (.int b))) H=.ok (.bl true) H'/\Fr [] H H':=by
 obtain⟨i,H1,e1,g1,f⟩:=z3e (ps:=ps) (a:=a) (H:=H) hn;refine⟨H1, ?_,f⟩;have hm:b∈(bO n).filter (wp ps a):=by refine gd.mpr ⟨As.mpr ⟨b0,b1⟩, ?_⟩;unfold wp;simpa using h
 have:=DX false b g1;rw[decide_eq_true hm]at this;exact eK (ma:=aA 1) rfl (mJ (F:=F_qg) (x:=2) (y:=0) (z:=3) rfl rfl rfl e1) this
theorem z3h (hn:n<=6) (hc:cs.length<=6) (rg:∀x∈cs,0<=x/\x<n) (h:∀b∈cs,b=a∨Lse ps a b) {y:zx}{acc:zw}(hl:acc.length+(cs.flatMap λ_=>[Dv.bl true]).length<=900000):∃y' H',jM (nS n ps cs (some (.int a)) y) H acc=.ok (nS n ps cs (some (.int a)) y',acc++cs.flatMap λ_=>[Dv.bl true]) H'/\Fr [] H H':=by
 obtain⟨ρ',H',e,⟨y',ey⟩,f⟩:=rV (src:=dO (cs.map Dv.int)) (sg:=aF 1) (t:=bQ) (m:=bA jE) cs (λ_=>[.bl true]) (λρ Hx=>(∃y,ρ=nS n ps cs (some (.int a)) y)/\Fr [] H Hx) (λ_ _ _=>rfl)
  (λm hm ρ Hx ⟨⟨y,e⟩,f⟩=>by subst e;have hr:=rg _ (dk hm);obtain⟨Hy,ey,fy⟩:=z3g (n:=n) (ps:=ps) (cs:=cs) (a:=a) (b:=cs[m]) (H:=Hx) hn hr.1 hr.2 (h _ (dk hm));exact⟨.int cs[m],nS n ps cs (some (.int a)) (some (.int cs[m])),by simp[dO,hm],rfl,.inr ⟨Hx,rfl,λacc hl=>⟨_,Hy,rW ey hl,⟨_,rfl⟩,f.trans fy (by simp)⟩⟩⟩)
  cs.length 0 (nS n ps cs (some (.int a)) y) H acc (by omega) ⟨⟨_,rfl⟩,Fr.refl⟩ (by simpa using hl)
 subst ey;rw[pg]at e;refine⟨y',H', ?_,f⟩;show fI _ _ _ _ _ _ _=_;unfold fI;rw[show bC dZ (aA 4) (nS n ps cs (some (.int a)) y) H=.ok (dO (cs.map Dv.int)) H from rfl];dsimp only;rw[show(dO (cs.map Dv.int)).n=cs.length by simp[dO]];exact e
theorem z3i (hn:n<=6) (hc:cs.length<=6) (rg:∀x∈cs,0<=x/\x<n) (h:∀a∈cs,∀b∈cs,b=a∨Lse ps a b):∃H',F_qn [aJ n ps,aR cs,.int 1] H=.ok (.bl true) H'/\Fr [] H H':=by
 have hlen:∀l:zr,(l.flatMap λ_=>cs.flatMap λ_=>[Dv.bl true]).length<=l.length*6:=λl=>by
  induction l with
  |nil=>simp
  |cons x l ih=>
   rw[gg,bx,cp,vh];have:(cs.flatMap λ_=>[Dv.bl true]).length=cs.length:=by rw[qN,aw]
   omega
 obtain⟨ρ',H',e,_,f⟩:=qG (mi:=bC dZ (aA 1)) (cap:=[none,none,some 0,some 2,some 1]) (src:=dO (cs.map Dv.int)) (sg:=aF 0) (t:=bQ) (m:=jM) (ρ:=[some (aJ n ps),some (aR cs),some (.int 1)]) (H:=H) (H1:=H) cs (λ_=>cs.flatMap λ_=>[Dv.bl true]) (λρ Hx=>(∃x y,ρ=nS n ps cs x y)/\Fr [] H Hx) rfl (by simp[dO]) ⟨⟨_,_,rfl⟩,Fr.refl⟩ (λ_ _ _=>rfl)
  (λm hm ρ Hx ⟨⟨x,y,e⟩,f⟩=>by subst e;refine⟨.int cs[m],nS n ps cs (some (.int cs[m])) y,by simp[dO,hm],rfl,.inr ⟨Hx,rfl,λacc hl=>?_⟩⟩;obtain⟨y',Hy,ey,fy⟩:=z3h (n:=n) (ps:=ps) (cs:=cs) (a:=cs[m]) (H:=Hx) (y:=y) hn hc rg (h _ (dk hm)) hl;exact⟨_,Hy,ey,⟨_,_,rfl⟩,f.trans fy (by simp)⟩) (by have:=hlen cs;omega)
 refine⟨H', ?_,f⟩;have:=z3f e (λd hd=>by obtain⟨x,_,hx⟩:=iq.mp hd;obtain⟨y,_,hy⟩:=iq.mp hx;simpa using hy);show bP (aL (mL hY jC) [some (aJ n ps),some (aR cs),some (.int 1)] H)=_;unfold aL;rw[show mL hY jC [some (aJ n ps),some (aR cs),some (.int 1)] H=_ from this];rfl
theorem OO:∀{l:zr},l.Pairwise (·<·)->(l.zip (l.drop 1)).all (λq=>decide (q.1<q.2))=true
 | [],_=>rfl
 | [x],_=>rfl
 |x::y::l,h=>by have h1:=cu.mp h;have ih:=OO (l:=y::l) h1.2;show(decide (x<y)&&_)=true;rw[decide_eq_true (h1.1 y (ax ..)),xw];exact ih
theorem z3j (hl:cs.length<=1000) (h:cs.Pairwise (·<·)):F_qx [aR cs] H=.ok (.bl true) H:=by
 have hi:aQ nG (aB (aA 0) (aB (pA (aA 0) (oO (mC (.int 1))) oM) aC)) [some (aR cs)] H=.ok (oJ (cs.map Dv.int) ((cs.drop 1).map Dv.int)) H:=by simp[aQ,aB,aA,pA,oO,mC,A3,oM,tX,aC,nG,M6,qj]
 have hz:((cs.map Dv.int).zip ((cs.drop 1).map Dv.int)).map (λq=>Dv.tup [q.1,q.2])=(cs.zip (cs.drop 1)).map λq=>Dv.tup [.int q.1,.int q.2]:=by rw[List.zip_map,iw];rfl
 have w:bJ (aQ nG (aB (aA 0) (aB (pA (aA 0) (oO (mC (.int 1))) oM) aC))) [none,none] (cM 2 (aU (aF 0) (aU (aF 1) cO))) bQ (bA (m2 gH (aA 0) (aA 1))) [some (aR cs)] H=.ok ((cs.zip (cs.drop 1)).filterMap λq=>some (.bl ((λq:Int×Int=>decide (q.1<q.2)) q))) H:=iK (cs.zip (cs.drop 1)) (λq=>some (.bl (decide (q.1<q.2)))) (λρ=>∃a b,ρ=[a,b]) hi (by simp[oJ,dO]) ⟨_,_,rfl⟩ rfl (λk hk ρ ⟨a,b,e⟩=>by subst e;refine⟨.tup [.int (cs.zip (cs.drop 1))[k].1,.int (cs.zip (cs.drop 1))[k].2],[some (.int (cs.zip (cs.drop 1))[k].1),some (.int (cs.zip (cs.drop 1))[k].2)], ?_,rfl,⟨_,_,rfl⟩,rfl,rfl⟩;show(((cs.map Dv.int).zip ((cs.drop 1).map Dv.int)).map (λq=>Dv.tup [q.1,q.2]))[k]?=_;rw[hz,dz,ba hk];rfl) (by rw[wg];omega);have e:=rX w;rw[OO h]at e;simp[F_qx,BX,aS,dD,aL,e,bP]
structure Bu (n:Nat) (ps:dn) (m:Nat) (cs:zr):Prop where
 rg:∀x∈cs,0<=x/\x<m
 up:cs.Pairwise (·<·)
 len:cs.length<=m
 pos:1<=cs.length
 ls:∀a∈cs,∀b∈cs,b=a∨Lse ps a b
abbrev mP (n:Nat) (ps:dn) (K:Int) (cs:zr):Ev:=[some (aJ n ps),some (.int K),some (aR cs),some (.int 1)]
theorem z3k (o:Ah n ps) (C:Bu n ps n cs):∃H',F_qy [aJ n ps,.int ((cs.length:Int) - 2),aR cs,.int 1] H=.ok (.bl true) H'/\Fr [] H H':=by
 have n6:=o.n6;have hl:=C.len;have hp:=C.pos;obtain⟨H1,e1,f⟩:=z3i (H:=H) n6 (by omega) C.rg C.ls;refine⟨H1, ?_,f⟩;obtain⟨K,hK⟩:∃K:Int,K=(cs.length:Int) - 2:=⟨_,rfl⟩
 rw[<-hK];have th:F_qo [.int n,aR cs] H=.ok (.bl true) H:=by have:=M5 (n:=(n:Int)) (xs:=cs) (H:=H) (by omega);rw[show cs.all (Com.isT n)=true from ff.mpr λx hx=>by have:=C.rg x hx;simp[Com.isT];omega]at this;exact this
 have t1:cG (bI (aD F_qo (aB (m2 aO (aA 0) (mC (.int 0))) (aB (aA 2) aC)))) (mP n ps K cs) H=.ok false H:=by refine sD (b:=true) (qP ?_);have x0:m2 aO (aA 0) (mC (.int 0)) (mP n ps K cs) H=.ok (.int n) H:=rfl;generalize m2 aO (aA 0) (mC (.int 0))=M at x0;generalize F_qo=F at th;simp[aD,aB,x0,aA,aC,th]
 have t2:cG (bI (aD F_qx (aB (aA 2) aC))) (mP n ps K cs) H=.ok false H:=sD (b:=true) (qP (jK (F:=F_qx) rfl (z3j (by omega) C.up)));have t3:cG (bI (aD F_qp (aB (aA 3) (aB (mC (.int 1)) (aB (mC (.int 5)) aC))))) (mP n ps K cs) H=.ok false H:=by refine sD (b:=true) (qP ?_);have q:F_qp [.int 1,.int 1,.int 5] H=.ok (.bl true) H:=yH;generalize F_qp=F at q;simp[aD,aB,aA,mC,aC,q]
 have w1:aX (dE (cG (bI (aD F_qo (aB (m2 aO (aA 0) (mC (.int 0))) (aB (aA 2) aC))))) (dE (cG (bI (aD F_qx (aB (aA 2) aC)))) (cG (bI (aD F_qp (aB (aA 3) (aB (mC (.int 1)) (aB (mC (.int 5)) aC)))))))) (aL (mC (.bl false))) bG (mP n ps K cs) H=.nx (mP n ps K cs) H:=by refine(gD ?_).trans rfl;rw[mH t1,mH t2];exact t3
 have e2:aD (f1 bR) (aB (aA 2) aC) (mP n ps K cs) H=.ok (.int cs.length) H:=by rw[uI (ds:=cs.map Dv.int) rfl,aw]
 have e3:m2 lJ (aA 1) (aA 3) (mP n ps K cs) H=.ok (.int (K*1)) H:=by
  refine eK (ma:=aA 1) (mb:=aA 3) rfl rfl ?_;have:qY K 1=true:=by unfold qY;rw[show kN 1=true from rfl,Bool.or_true]
  simp[lJ,kM,this]
 have e4:=OI (yW (mb:=mC (.int 1)) e2 rfl) e3;rw[decide_eq_true (show(cs.length:Int) - 1>K*1 by omega)]at e4;have e5:=mJ (F:=F_qn) (ρ:=mP n ps K cs) (x:=0) (y:=2) (z:=3) rfl rfl rfl e1;show bP (aI _ (aL (dH _ _)) (mP n ps K cs) H)=_;rw[bH w1];unfold aL;rw[yV e4,e5];rfl
theorem z3l (o:Ah n ps) (C:Bu n ps n cs) (h2:2<=cs.length):∃H',F_qk [aJ n ps,.int ((cs.length:Int) - 2),.tup [.str "spread",aR cs,.int 1]] H=.ok (.bl true) H'/\Fr [] H H':=by
 have n6:=o.n6;have hl:=C.len;obtain⟨H1,e1,f⟩:=z3k (H:=H) o C;refine⟨H1, ?_,f⟩;have h0:0<=(cs.length:Int) - 2:=by omega
 have h5:(cs.length:Int) - 2<=5:=by omega
 generalize (cs.length:Int) - 2=K at e1 h0 h5;obtain⟨d,hd⟩:∃d:Dv,d=.tup [.str "spread",aR cs,.int 1]:=⟨_,rfl⟩
 have e2:F_q2 8 [aJ n ps,.int K,aR [],d] H=.ok (.bl true) H1:=by show bP (aI (aX (cG (bI (m1 (eX gN) (aA 3)))) (aL (mC (.bl false))) bG) (aI (aX (dW (mB (m2 bE (aD (f1 bR) (aB (aA 3) aC)) (mC (.int 3)))) (mB (m2 bE (m2 aO (aA 3) (mC (.int 0))) (mC (.str "spread"))))) (aL (aD F_qy (aB (aA 0) (aB (aA 1) (aB (m2 aO (aA 3) (mC (.int 1))) (aB (m2 aO (aA 3) (mC (.int 2))) aC)))))) bG) _) (fU n ps K [] d) H)=_;subst hd;have c1:dW (mB (m2 bE (aD (f1 bR) (aB (aA 3) aC)) (mC (.int 3)))) (mB (m2 bE (m2 aO (aA 3) (mC (.int 0))) (mC (.str "spread")))) (fU n ps K [] (.tup [.str "spread",aR cs,.int 1])) H=.ok true H:=rfl;rw[bH (show aX (cG (bI (m1 (eX gN) (aA 3)))) (aL (mC (.bl false))) bG (fU n ps K [] (.tup [.str "spread",aR cs,.int 1])) H=.nx (fU n ps K [] (.tup [.str "spread",aR cs,.int 1])) H from rfl)];refine EU ((kU c1).trans ?_);unfold aL;rw[uP (F:=F_qy) (ρ:=fU n ps K [] (.tup [.str "spread",aR cs,.int 1])) (ma:=aA 0) (mb:=aA 1) (mc:=m2 aO (aA 3) (mC (.int 1))) (md:=m2 aO (aA 3) (mC (.int 2))) rfl rfl rfl rfl e1];rfl
 rw[<-hd];show bP (aI (cC (aD F_qa (aB (aA 0) (aB (aA 1) aC)))) (aL (aD (F_q2 8) (aB (aA 0) (aB (aA 1) (aB (aT aC) (aB (aA 2) aC)))))) [some (aJ n ps),some (.int K),some d] H)=_;rw[bH (qO (F:=F_qa) rfl rfl (ER o h0 h5))];have e3:=uP (F:=F_q2 8) (ρ:=[some (aJ n ps),some (.int K),some d]) (ma:=aA 0) (mb:=aA 1) (mc:=aT aC) (md:=aA 2) rfl rfl (c:=.tup []) rfl rfl e2;unfold aL;rw[e3];rfl
end
end L2.Mr.K10
namespace L2.Mr.K82
open PySem PySem.Spec PyProof.Rows L2 L2.Mr L2.Mr.Gen
open L2.Mr.Com
open L2.Mr.Cod (last_get bK)
open L2.Mr.K04 (aR kZ mK)
open L2.Mr.K05 (dU)
open L2.Mr.K06 (mM jK qM)
open L2.Mr.Sp
open L2.Mr.K03 (gE)
section
variable{n m st:Nat}{ps qs:dn}{r:zr}{H:Hs}{ρ:Ev}{x:Int}
theorem is_T {e:M Dv}{H':Hs}(h:e ρ H=.ok (.bl true) H'):mB (m2 (dP true) e (mC (.bl true))) ρ H=.ok false H':=by unfold mB;rw[eK (mb:=mC (.bl true)) h rfl (z:=.bl false) (H3:=H') rfl];rfl
theorem callMM {F:zv}{ma mb:M Dv}{a b v:Dv}{H1 H2 H':Hs}(ha:ma ρ H=.ok a H1) (hb:mb ρ H1=.ok b H2) (e:F [a,b] H2=.ok v H'):aD F (aB ma (aB mb aC)) ρ H=.ok v H':=by simp[aD,aB,ha,hb,aC,e]
theorem v {i:Nat}{d:Dv}(h:At ρ i d):aA i ρ H=.ok d H:=by rw[h.v]
abbrev rF:MS:=aL (mC (.bl false))
abbrev tu (ps:dn):dn:=dS cJ (gE ps)
end
end L2.Mr.K82
namespace L2.Mr.K10
open PySem PySem.Spec PyProof.Rows L2 L2.Mr L2.Mr.Gen
open L2.Mr.Com
open L2.Mr.Cod (last_get bK Ai Lse)
open L2.Mr.K04 (aR kZ mK)
open L2.Mr.K05 (dU eG ix iM)
open L2.Mr.K06 (jK qM)
open L2.Mr.Sp
open L2.Mr.Pp
open L2.Mr.K03 (gE)
open L2.Mr.K82 (uN qO mO uO v rF tu)
section
variable{n m st:Nat}{ps:dn}{cs:zr}{H:Hs}{ρ:Ev}{x:Int}
theorem z3m (o:Ah n ps):fF n ps<=5:=by
 obtain⟨r,hr,e⟩:=yS o;have n6:=o.n6;rw[<-e];refine EG (by omega) λq hq=>?_;obtain⟨q0,q1,q2,_⟩:=Ai.mp hq;have a:=iM (hr.mem (x:=q.1) q0 (by omega));have b:=iM (hr.mem (x:=q.2) (by omega) q2);rw[hr.len]at a b;unfold eG
 split <;> omega
theorem EV (o:Ah n ps) {k:Nat}:dP false (oD (dX n ps k 8 [])) .non H=.ok (.bl (decide (fF n ps<=k))) H:=by
 have n6:=o.n6;have h:=N7 (k:=k) o (f:=8) (by omega)
 cases e:dX n ps k 8 []with
 |none=>rw[decide_eq_true (h.mp e)];rfl
 |some d=>
  have:¬ fF n ps<=k:=λz=>by rw[h.mpr z]at e;cases e
  rw[decide_eq_false this];obtain⟨ds,rfl⟩:=OD e;rfl
theorem OP {ma mb:M Dv}{c:Bool}{H1 H2:Hs}(h1:ma ρ H=.ok (.bl c) H1) (h2:mb ρ H1=.ok (.bl c) H2):mB (m2 dN ma mb) ρ H=.ok false H2:=by
 have e:dN (.bl c) (.bl c) H2=.ok (.bl false) H2:=by cases c <;> rfl
 exact jL (eK h1 h2 e)
theorem OQ {ma mb:M Dv}{a b:Int}{H1 H2:Hs}(e1:ma ρ H=.ok (.int a) H1) (e2:mb ρ H1=.ok (.int b) H2):m2 gM ma mb ρ H=.ok (.bl (decide (a<=b))) H2:=eK e1 e2 rfl
abbrev c1:M Bool:=dE (mB (m2 dN (m2 (dP false) (aA 7) (mC .non)) (m2 gM (aA 4) (aA 6)))) (mB (m2 dN (m2 (dP false) (aD F_qz (aB (aA 5) (aB (aA 6) aC))) (mC .non)) (m2 gM (aA 4) (aA 6))))
theorem z3n (o:Ah n ps) {k:Nat}(hk:k<=5) (a4:At ρ 4 (.int (fF n ps))) (a5:At ρ 5 (aJ n (tu ps))) (a6:At ρ 6 (.int (k:Int))) (a7:At ρ 7 (oD (dX n ps k 8 []))):∃H',c1 ρ H=.ok false H'/\Fr [] H H':=by obtain⟨H1,e1,f⟩:=OH (H:=H) (k:=k) (EJ o) hk;refine⟨H1, ?_,f⟩;have e2:=mO (F:=F_qz) a5.v a6.v e1;have q:=EV (H:=H1) (k:=k) (EJ o);rw[z2l o]at q;unfold c1;rw[mH (OP (eK (ma:=aA 7) (mb:=mC .non) (v a7) rfl (EV o)) (OQ (v a4) (v a6)))];exact OP (eK (mb:=mC .non) e2 rfl q) (OQ (v a4) (v a6))
abbrev EW:M zw :=bJ (aQ cH (aB (m2 cN (aA 6) (mC (.int 1))) aC)) [none,some 3,some 7] (aF 0) (mB (m2 (dP true) (aD F_qk (aB (aA 1) (aB (aA 0) (aB (aA 2) aC)))) (mC (.bl true)))) (bA (aA 0))
theorem z3o (o:Ah n ps) {k:Nat}(hk:k<=5) {d:Dv}(h:dX n ps k 8 []=some d) (a3:At ρ 3 (aJ n ps)) (a6:At ρ 6 (.int (k:Int))) (a7:At ρ 7 d):∃H',EW ρ H=.ok [] H'/\Fr [] H H':=by
 have em:m2 cN (aA 6) (mC (.int 1)) ρ H=.ok (.int ((k:Int)+1)) H:=eK (ma:=aA 6) (mb:=mC (.int 1)) (v a6) rfl rfl;obtain⟨ρ',H',e,_,f⟩:=qG (mi:=aQ cH (aB (m2 cN (aA 6) (mC (.int 1))) aC)) (cap:=[none,some 3,some 7]) (src:=bX 0 ((k:Int)+1)) (sg:=aF 0) (t:=mB (m2 (dP true) (aD F_qk (aB (aA 1) (aB (aA 0) (aB (aA 2) aC)))) (mC (.bl true)))) (m:=bA (aA 0)) (ρ:=ρ) (H:=H) (H1:=H) (bj (k+1)) (λ_=>[]) (λρ Hx=>(∃x,ρ=[x,some (aJ n ps),some d])/\Fr [] H Hx) (sE em (by omega) (by omega)) (by simp[bX]) ⟨⟨none,by simp[jU,show ρ[3]?=some (some (aJ n ps)) from a3,show ρ[7]?=some (some d) from a7]⟩,Fr.refl⟩ (λ_ _ _=>rfl)
  (λj hj ρ Hx ⟨⟨x,e⟩,f⟩=>by
   subst e;have hj':j<k+1:=by simpa using hj
   obtain⟨Hy,ey,fy⟩:=OM (H:=Hx) (k:=k) o (K:=0+(j:Int)) (by omega) (by omega) h;rw[decide_eq_true (by omega)]at ey;exact⟨.int (0+j),[some (.int (0+j)),some (aJ n ps),some d],rfl,rfl,.inl ⟨Hy,K82.is_T (mJ (F:=F_qk) (x:=1) (y:=0) (z:=2) rfl rfl rfl ey),rfl,⟨_,rfl⟩,f.trans fy (by simp)⟩⟩) (by rw[show((bj (k+1)).flatMap λ_=>([]:zw))=[]by simp];simp)
 exact⟨H',e.trans (by simp),f⟩
theorem z3p {ml:M zw }{H1:Hs}(h:ml ρ H=.ok [] H1):∃H',mB (m2 dN (bM ml) (cA aC)) ρ H=.ok false H'/\Fr [] H1 H':=by have ea:=kZ h;have g:getL (H1++[Ob.lst []]) H1.length=some (([]:zr).map Dv.int):=last_get;have f:Fr [] H1 (H1++[Ob.lst []]):=Fr.app;generalize H1++[Ob.lst []]=H2 at ea g f;refine⟨H2++[Ob.lst []],jL (eK (mb:=cA aC) ea rfl (Com.ne_nil g)),f.trans (T:=[]) Fr.app (by simp)⟩
abbrev sB:MS:=aI (aM (aD F_qz (aB (aA 3) (aB (aA 6) aC))) (aF 7)) (aI (aX c1 rF bG) (aI (aX (mB (m2 (dP false) (aA 7) (mC .non))) vP bG) (aI (aX (mB (m2 dN (bM EW) (cA aC))) rF bG) (aX (mB (m2 (dP true) (aD F_qk (aB (aA 3) (aB (aA 4) (aB (aA 7) aC)))) (mC (.bl false)))) rF bG))))
structure Kn (n:Nat) (ps:dn) (ρ:Ev):Prop where
 L:ρ.length=11
 a0:At ρ 0 .scr
 a3:At ρ 3 (aJ n ps)
 a4:At ρ 4 (.int (fF n ps))
 a5:At ρ 5 (aJ n (tu ps))
theorem Kn.set (k:Kn n ps ρ) {i:Nat}{y:zx}(h:6<=i):Kn n ps (ρ.set i y):=⟨by simp[k.L],k.a0.o (by omega),k.a3.o (by omega),k.a4.o (by omega),k.a5.o (by omega)⟩
theorem z3q (o:Ah n ps) {k:Nat}(hk:k<=5) (K:Kn n ps ρ) (a6:At ρ 6 (.int (k:Int))):∃ρ' H',(sB ρ H=.nx ρ' H'∨sB ρ H=.ct ρ' H')/\Kn n ps ρ'/\Fr [] H H':=by
 have n6:=o.n6;obtain⟨H1,e1,f1'⟩:=OH (H:=H) (k:=k) o hk;have w1:=sG (i:=7) (mO (F:=F_qz) K.a3.v a6.v e1);have K7:Kn n ps (ρ.set 7 (some (oD (dX n ps k 8 [])))):=K.set (by omega);have b6:At (ρ.set 7 (some (oD (dX n ps k 8 [])))) 6 (.int (k:Int)):=a6.o;have b7:At (ρ.set 7 (some (oD (dX n ps k 8 [])))) 7 (oD (dX n ps k 8 [])):=.new (by rw[K.L];decide);generalize ρ.set 7 (some (oD (dX n ps k 8 [])))=ρ7 at w1 K7 b6 b7;obtain⟨H2,e2,f2⟩:=z3n (H:=H1) o hk K7.a4 K7.a5 b6 b7;have t:=EV (H:=H2) (k:=k) o;have t':mB (m2 (dP false) (aA 7) (mC .non)) ρ7 H2=.ok (decide (fF n ps<=k)) H2:=jL (eK (ma:=aA 7) (mb:=mC .non) (v b7) rfl t);have fA:Fr [] H H2:=f1'.trans f2 (by simp);show ∃ρ' H',(aI _ _ ρ H=.nx ρ' H'∨aI _ _ ρ H=.ct ρ' H')/\_;rw[bH w1,bH (show aX c1 rF bG ρ7 H1=.nx ρ7 H2 from(gD e2).trans rfl)]
 by_cases c:fF n ps<=k
 ·rw[decide_eq_true c]at t';refine⟨ρ7,H2,.inr ?_,K7,fA⟩;unfold aI;rw[kU t'];rfl
 ·rw[decide_eq_false c]at t'
  cases e:dX n ps k 8 []with
  |none=>exact absurd ((N7 (k:=k) o (f:=8) (by omega)).mp e) c
  |some d=>rw[e]at b7;obtain⟨H3,e3,f3⟩:=z3o (H:=H2) o hk e K7.a3 b6 b7;obtain⟨H4,e4,f4⟩:=z3p e3;obtain⟨H5,e5,f5⟩:=OM (H:=H4) (k:=k) o (z2e o) (z3m o) e;rw[decide_eq_false c]at e5;have e6:mB (m2 (dP true) (aD F_qk (aB (aA 3) (aB (aA 4) (aB (aA 7) aC)))) (mC (.bl false))) ρ7 H4=.ok false H5:=jL (eK (mb:=mC (.bl false)) (mJ (F:=F_qk) K7.a3.v K7.a4.v b7.v e5) rfl rfl);refine⟨ρ7,H5,.inl ?_,K7,fA.trans (f3.trans (f4.trans f5 (T:=[]) (by simp)) (T:=[]) (by simp)) (by simp)⟩;rw[bH (show aX (mB (m2 (dP false) (aA 7) (mC .non))) vP bG ρ7 H2=.nx ρ7 H2 from(gD t').trans rfl),bH (show aX (mB (m2 dN (bM EW) (cA aC))) rF bG ρ7 H2=.nx ρ7 H4 from(gD e4).trans rfl)];exact(gD e6).trans rfl
theorem z3r {src:Src}{sg:dI}{b:MS}{f k:Nat}{ρ ρ1 ρ2:Ev}{H H2:Hs}{d:Dv}(hg:src.get k H=some d) (hs:sg d ρ=some ρ1) (hb:b ρ1 H=.ct ρ2 H2):eC src sg b (f+1) k ρ H=eC src sg b f (k+1) ρ2 H2:=by
 conv=>lhs;unfold eC
 simp only[hg,hs,hb]
theorem OR (o:Ah n ps):∀(f k:Nat) (ρ:Ev) (H:Hs),f+k=6->Kn n ps ρ->∃ρ' H',eC (bX 0 6) (aF 6) sB f k ρ H=.nx ρ' H'/\Kn n ps ρ'/\Fr [] H H'
 |0,k,ρ,H,_,K=>⟨ρ,H,rfl,K,Fr.refl⟩
 |f+1,k,ρ,H,h,K=>by
  obtain⟨ρ1,H1,hb,K1,f1'⟩:=z3q (H:=H) (k:=k) (ρ:=ρ.set 6 (some (.int (k:Int)))) o (by omega) (K.set (by omega)) (.new (by rw[K.L];decide));obtain⟨ρ',H',e,K',f2⟩:=OR o f (k+1) ρ1 H1 (by omega) K1;have hg:(bX 0 6).get k H=some (.int (k:Int)):=by simp[bX]
  refine⟨ρ',H', ?_,K',f1'.trans f2 (by simp)⟩;rw[<-e]
  rcases hb with hb|hb
  ·exact oX hg rfl hb
  ·exact z3r hg rfl hb
theorem z3s {i:Nat}(neg:Bool) (p:Int×Int) {qs:dn}(g:getL H i=some (qs.map aH)):bU neg (aH p) (.ref i) H=.ok (.bl (if neg then !decide (p∈qs)else decide (p∈qs))) H:=by
 have e:(qs.map hZ).any (λt=>bN t (hZ p))=decide (p∈qs):=by
  rw[dy];simp only[rh,lg,sy,BF,decide_eq_true_eq];constructor
  ·rintro ⟨q,hq,rfl⟩;exact hq
  ·intro h;exact⟨p,h,rfl⟩
 have h1:bB (cB cQ H) (qs.map aH)=some (qs.map hZ):=wL 28 H qs;have h2:cB cQ H (aH p)=some (hZ p):=BE 28 H p;show jW [] neg (aH p) (.ref i) H=_;simp only[jW,fP,g,h1,h2,e]
abbrev kC:M zw :=bJ (bC cD (aA 8)) [none,some 9,some 10] (aF 0) (mB (m2 (bU true) (aT (aB (aA 0) (aB (aA 2) aC))) (aA 1))) (bA (aA 0))
theorem z3t {c p:Nat}(a8:At ρ 8 (.ref c)) (a9:At ρ 9 (.ref p)) (a10:At ρ 10 (.int x)) (gc:getL H c=some (cs.map Dv.int)) (gp:getL H p=some ((bK n ps).map aH)) (hl:cs.length<=6):kC ρ H=.ok ((cs.filter λz=>!decide ((z,x)∈bK n ps)).map Dv.int) H:=by
 have w:kC ρ H=.ok (cs.filterMap λz=>if !decide ((z,x)∈bK n ps)then some (.int z)else none) H:=
  iK cs _ (λρ=>∃y,ρ=[y,some (.ref p),some (.int x)]) (src:=bZ c (cs.map Dv.int).length) (by simp[bC,a8.v,cD,gc]) (by simp[bZ]) ⟨none,by simp[jU,show ρ[9]?=some (some (.ref p)) from a9,show ρ[10]?=some (some (.int x)) from a10]⟩ (by simp[bZ,gc]) (λk hk ρ ⟨y,e⟩=>by
   subst e;refine⟨.int cs[k],[some (.int cs[k]),some (.ref p),some (.int x)],by simp[bZ,gc,hk],rfl,⟨_,rfl⟩, ?_⟩;have t:mB (m2 (bU true) (aT (aB (aA 0) (aB (aA 2) aC))) (aA 1)) [some (.int cs[k]),some (.ref p),some (.int x)] H=.ok (!decide ((cs[k],x)∈bK n ps)) H:=jL (eK (ma:=aT (aB (aA 0) (aB (aA 2) aC))) (mb:=aA 1) (x:=aH (cs[k],x)) rfl rfl (z3s true (cs[k],x) gp))
   cases e:!decide ((cs[k],x)∈bK n ps)with
   |true=>rw[e]at t;exact⟨t,rfl⟩
   |false=>rw[e]at t;exact t) (by omega)
 exact w.trans (congrArg (λl=>Rs.ok l _) (yN _ _ _))
theorem z3u (o:Ah n ps) (C:Bu n ps m cs) (hm:m<n) (h:(cs.filter λz=>!decide ((z,(m:Int))∈bK n ps))=[]):Bu n ps (m+1) (cs++[(m:Int)]):=by
 have hx:∀z∈cs,Lse ps z m:=λz hz=>by have:=yj.mp h z hz;exact(Ai.mp (by simpa using this)).2.2.2
 refine⟨λz hz=>?_, ?_,by simp;exact C.len,by simp,λa ha b hb=>?_⟩
 ·rcases cq.mp hz with k|k
  ·have:=C.rg z k;omega
  ·rw[bo.mp k];omega
 ·refine zc.mpr ⟨C.up,ye ..,λa ha b hb=>?_⟩;rw[bo.mp hb];exact(C.rg a ha).2
 ·rcases cq.mp ha with k|k <;> rcases cq.mp hb with k'|k'
  ·exact C.ls a k b k'
  ·rw[bo.mp k'];exact .inr (hx a k)
  ·rw[bo.mp k];exact .inr (EM (hx b k'))
  ·rw[bo.mp k,bo.mp k'];exact .inl rfl
theorem Bu.more (C:Bu n ps m cs):Bu n ps (m+1) cs:=⟨λz hz=>by have:=C.rg z hz;omega,C.up,by have:=C.len;omega,C.pos,C.ls⟩
abbrev kB:MS:=aX (mB (m2 bE (bM kC) (cA aC))) (cC (iN (aA 8) (aA 10))) bG
theorem EX (o:Ah n ps) {c p:Nat}(hcp:c≠p):∀(f k:Nat) (ρ:Ev) (H:Hs) (cs:zr),f+k+1=n->ρ.length=11->At ρ 0 .scr->At ρ 3 (aJ n ps)->At ρ 8 (.ref c)->At ρ 9 (.ref p)->getL H c=some (cs.map Dv.int)->getL H p=some ((bK n ps).map aH)->Bu n ps (k+1) cs->
  ∃ρ' H' cs',eC (bX 1 n) (aF 10) kB f k ρ H=.nx ρ' H'/\ρ'.length=11/\At ρ' 0 .scr/\At ρ' 3 (aJ n ps)/\At ρ' 8 (.ref c)/\getL H' c=some (cs'.map Dv.int)/\Bu n ps n cs'
 |0,k,ρ,H,cs,h,hL,a0,a3,a8,a9,gc,gp,C=>by
  have:k+1=n:=by omega
  rw[this]at C;exact⟨ρ,H,cs,rfl,hL,a0,a3,a8,gc,C⟩
 |f+1,k,ρ,H,cs,h,hL,a0,a3,a8,a9,gc,gp,C=>by
  have n6:=o.n6;have b0:At (ρ.set 10 (some (.int ((k+1:Nat):Int)))) 0 .scr:=a0.o;have b3:At (ρ.set 10 (some (.int ((k+1:Nat):Int)))) 3 (aJ n ps):=a3.o;have b8:At (ρ.set 10 (some (.int ((k+1:Nat):Int)))) 8 (.ref c):=a8.o;have b9:At (ρ.set 10 (some (.int ((k+1:Nat):Int)))) 9 (.ref p):=a9.o;have b10:At (ρ.set 10 (some (.int ((k+1:Nat):Int)))) 10 (.int ((k+1:Nat):Int)):=.new (by omega);have bL:(ρ.set 10 (some (.int ((k+1:Nat):Int)))).length=11:=by simp[hL]
  have hs:aF 10 (.int ((k+1:Nat):Int)) ρ=some (ρ.set 10 (some (.int ((k+1:Nat):Int)))):=rfl;have hg:(bX 1 n).get k H=some (.int ((k+1:Nat):Int)):=by simp[bX];omega
  generalize ρ.set 10 (some (.int ((k+1:Nat):Int)))=ρ1 at b0 b3 b8 b9 b10 bL hs;have hcl:=C.len;obtain⟨H1,e1,f1'⟩:=K05.al_eq (z3t b8 b9 b10 gc gp (by omega));have gc1:=f1'.getL gc (by simp);have gp1:=f1'.getL gp (by simp)
  by_cases d:(cs.filter λz=>!decide ((z,((k+1:Nat):Int))∈bK n ps))=[]
  ·rw[decide_eq_true d]at e1;have w:kB ρ1 H=.nx ρ1 (H1.set c (.lst ((cs++[((k+1:Nat):Int)]).map Dv.int))):=by refine(kU e1).trans ?_;rw[OE (o:=aA 8) (m:=aA 10) (v b8) (by rw[gc1];rfl) (v b10) gc1 (by simp;omega),ic];rfl
   obtain⟨ρ',H',cs',e,q⟩:=EX o hcp f (k+1) ρ1 _ (cs++[((k+1:Nat):Int)]) (by omega) bL b0 b3 b8 b9 (nK gc1) ((rN hcp).trans gp1) (z3u o C (by omega) d);exact⟨ρ',H',cs',by rw[<-e];exact oX hg hs w,q⟩
  ·rw[decide_eq_false d]at e1;obtain⟨ρ',H',cs',e,q⟩:=EX o hcp f (k+1) ρ1 H1 cs (by omega) bL b0 b3 b8 b9 gc1 gp1 C.more;exact⟨ρ',H',cs',by rw[<-e];exact oX hg hs ((gD e1).trans rfl),q⟩
abbrev uQ:M Dv:=aD (f1 bR) (aB (aA 8) aC)
abbrev iE:MS:=aX (dW (mB (m2 nI uQ (mC (.int 1)))) (mB (m2 (dP true) (aD F_qk (aB (aA 3) (aB (m2 eE uQ (mC (.int 2))) (aB (aT (aB (mC (.str "spread")) (aB (aD (f1 eM) (aB (aA 8) aC)) (aB (mC (.int 1)) aC)))) aC)))) (mC (.bl true))))) rF bG
theorem z3v (o:Ah n ps) {c:Nat}(a3:At ρ 3 (aJ n ps)) (a8:At ρ 8 (.ref c)) (g:getL H c=some (cs.map Dv.int)) (C:Bu n ps n cs):∃H',iE ρ H=.nx ρ H':=by
 have el:uQ ρ H=.ok (.int cs.length) H:=by refine jK (F:=f1 bR) a8.v ?_;simp[f1,bR,gC,hW,fP,g]
 have e1:=jL (OI (mb:=mC (.int 1)) el rfl)
 by_cases h:cs.length>1
 ·rw[decide_eq_true (by omega)]at e1;obtain⟨H1,e2,f⟩:=z3l (H:=H) o C (by omega);have es:=yW (mb:=mC (.int 2)) el rfl;have et:aT (aB (mC (.str "spread")) (aB (aD (f1 eM) (aB (aA 8) aC)) (aB (mC (.int 1)) aC))) ρ H=.ok (.tup [.str "spread",aR cs,.int 1]) H:=by simp[aT,aB,mC,aD,a8.v,aC,f1,eM,g,lim]
  have e3:aD F_qk (aB (aA 3) (aB (m2 eE uQ (mC (.int 2))) (aB (aT (aB (mC (.str "spread")) (aB (aD (f1 eM) (aB (aA 8) aC)) (aB (mC (.int 1)) aC)))) aC))) ρ H=.ok (.bl true) H1:=by generalize m2 eE uQ (mC (.int 2))=M1 at es;generalize aT (aB (mC (.str "spread")) (aB (aD (f1 eM) (aB (aA 8) aC)) (aB (mC (.int 1)) aC)))=M2 at et;generalize F_qk=F at e2;simp[aD,aB,a3.v,es,et,aC,e2]
  exact⟨H1,(gD ((ES e1).trans (K82.is_T e3))).trans rfl⟩
 ·rw[decide_eq_false (by omega)]at e1;exact⟨H,(gD (N9 e1)).trans rfl⟩
theorem z3w (scr:zr):xI scr=aI (aM (aD (F_qm scr) (aB (aA 0) (aB (aA 1) aC))) (aF 2)) (aI (aM (aD F_ql (aB (aA 2) (aB (mC (.int 6)) aC))) (aF 3)) (aI (aM (aD F_qq (aB (aA 3) aC)) (aF 4)) (aI (aM (aD F_qA (aB (aA 3) aC)) (aF 5)) (aI (dR (aQ cH (aB (mC (.int 6)) aC)) (aF 6) sB) (aI (aM (cA (aB (mC (.int 0)) aC)) (aF 8)) (aI (aM (aD F_qj (aB (aA 3) aC)) (aF 9)) (aI (dR (aQ hX (aB (mC (.int 1)) (aB (m2 aO (aA 3) (mC (.int 0))) aC))) (aF 10) kB) iE))))))):=rfl
theorem DP (scr:zr) (k:Nat) (hL:ρ.length=11) (a0:At ρ 0 .scr) (a1:At ρ 1 (.int k)):∃ρ' H',xI scr ρ H=.nx ρ' H'/\ρ'.length=11/\At ρ' 0 .scr:=by
 obtain⟨H1,h1,f1',s1⟩:=z1a scr k H;obtain⟨n,ps,H2,h2,o,_,s2,f2⟩:=z2v (m:=6) (by decide) (by decide) s1;have n1:=o.n1;have n6:=o.n6;have w1:=sG (i:=2) (mO (F:=F_qm scr) a0.v a1.v h1);have b0:At (ρ.set 2 (some (.ref H.length))) 0 .scr:=a0.o;have b2:At (ρ.set 2 (some (.ref H.length))) 2 (.ref H.length):=.new (by omega);have bL:(ρ.set 2 (some (.ref H.length))).length=11:=by simp[hL]
 rw[z3w,bH w1];generalize H.length=st at *;generalize ρ.set 2 (some (.ref st))=ρ1 at b0 b2 bL;have w2:=sG (i:=3) (K82.callMM (F:=F_ql) (mb:=mC (.int 6)) (v (H:=H1) b2) rfl h2);have c0:At (ρ1.set 3 (some (aJ n ps))) 0 .scr:=b0.o;have c3:At (ρ1.set 3 (some (aJ n ps))) 3 (aJ n ps):=.new (by omega);have cL:(ρ1.set 3 (some (aJ n ps))).length=11:=by simp[bL]
 rw[bH w2];generalize ρ1.set 3 (some (aJ n ps))=ρ2 at c0 c3 cL;obtain⟨H3,e3,f3⟩:=least_ok (H:=H2) o;have w3:=sG (i:=4) (jK (F:=F_qq) c3.v e3);have d0:At (ρ2.set 4 (some (.int (fF n ps)))) 0 .scr:=c0.o;have d3:At (ρ2.set 4 (some (.int (fF n ps)))) 3 (aJ n ps):=c3.o;have d4:At (ρ2.set 4 (some (.int (fF n ps)))) 4 (.int (fF n ps)):=.new (by omega);have dL:(ρ2.set 4 (some (.int (fF n ps)))).length=11:=by simp[cL]
 rw[bH w3];generalize ρ2.set 4 (some (.int (fF n ps)))=ρ3 at d0 d3 d4 dL;obtain⟨H4,e4,f4⟩:=turned_ok (H:=H3) o;have w4:=sG (i:=5) (jK (F:=F_qA) d3.v e4);have K:Kn n ps (ρ3.set 5 (some (aJ n (tu ps)))):=⟨by simp[dL],d0.o,d3.o,d4.o,.new (by omega)⟩
 rw[bH w4];change ∃ρ' H',aI _ _ (ρ3.set 5 (some (aJ n (tu ps)))) H4=.nx ρ' H'/\_;generalize ρ3.set 5 (some (aJ n (tu ps)))=ρ4 at K;obtain⟨ρ5,H5,e5,K5,f5⟩:=OR o 6 0 ρ4 H4 rfl K;rw[bH ((nL (show aQ cH (aB (mC (.int 6)) aC) ρ4 H4=.ok (bX 0 6) H4 from rfl)).trans e5)];have w6:aM (cA (aB (mC (.int 0)) aC)) (aF 8) ρ5 H5=.nx (ρ5.set 8 (some (.ref H5.length))) (H5++[.lst [.int 0]]):=rfl;have g6:getL (H5++[Ob.lst [.int 0]]) H5.length=some (([0]:zr).map Dv.int):=last_get;have l6:(H5++[Ob.lst [.int 0]]).length=H5.length+1:=by simp
 rw[bH w6];have p0:At (ρ5.set 8 (some (.ref H5.length))) 0 .scr:=K5.a0.o;have p3:At (ρ5.set 8 (some (.ref H5.length))) 3 (aJ n ps):=K5.a3.o;have p8:At (ρ5.set 8 (some (.ref H5.length))) 8 (.ref H5.length):=.new (by rw[K5.L];decide);have pL:(ρ5.set 8 (some (.ref H5.length))).length=11:=by simp[K5.L]
 generalize ρ5.set 8 (some (.ref H5.length))=ρ6 at p0 p3 p8 pL;generalize H5++[Ob.lst [.int 0]]=H6 at g6 l6;have w7:=sG (i:=9) (jK (F:=F_qj) (H:=H6) p3.v (lpairs_ok o));have g7:getL (H6++[Ob.lst ((bK n ps).map aH)]) H6.length=some ((bK n ps).map aH):=last_get;have g7':getL (H6++[Ob.lst ((bK n ps).map aH)]) H5.length=some (([0]:zr).map Dv.int):=lM g6;rw[bH w7];have q0:At (ρ6.set 9 (some (.ref H6.length))) 0 .scr:=p0.o;have q3:At (ρ6.set 9 (some (.ref H6.length))) 3 (aJ n ps):=p3.o;have q8:At (ρ6.set 9 (some (.ref H6.length))) 8 (.ref H5.length):=p8.o;have q9:At (ρ6.set 9 (some (.ref H6.length))) 9 (.ref H6.length):=.new (by omega);have qL:(ρ6.set 9 (some (.ref H6.length))).length=11:=by simp[pL]
 generalize ρ6.set 9 (some (.ref H6.length))=ρ7 at q0 q3 q8 q9 qL;have hcp:H5.length≠H6.length:=by omega
 generalize H6++[Ob.lst ((bK n ps).map aH)]=H7 at g7 g7';obtain⟨ρ8,H8,cs,e8,tL,t0,t3,t8,g8,C⟩:=EX o hcp (n - 1) 0 ρ7 H7 [0] (by omega) qL q0 q3 q8 q9 g7' g7 ⟨λz hz=>by rw[bo.mp hz];omega,ye ..,by simp,by simp,λa ha b hb=>.inl (by rw[bo.mp ha,bo.mp hb])⟩;have hr:aQ hX (aB (mC (.int 1)) (aB (m2 aO (aA 3) (mC (.int 0))) aC)) ρ7 H7=.ok (bX 1 n) H7:=K05.rng2M (A:=1) (B:=(n:Int)) rfl (eK (ma:=aA 3) (mb:=mC (.int 0)) (v q3) rfl (MZ H7)) (by omega) (by omega) (by omega) (by omega);have hn:(bX 1 (n:Int)).n=n - 1:=by simp[bX]
 obtain⟨H9,e9⟩:=z3v o t3 t8 g8 C;refine⟨ρ8,H9, ?_,tL,t0⟩;rw[bH ((nL hr).trans (by rw[hn];exact e8))];exact e9
end
theorem loop (scr:zr) (m:Int):∀(f k:Nat) (ρ:Ev) (H:Hs),ρ.length=11->At ρ 0 .scr->∃ρ' H',eC (bX 0 m) (aF 1) (xI scr) f k ρ H=.nx ρ' H'
 |0,k,ρ,H,_,_=>⟨_,H,rfl⟩
 |f+1,k,ρ,H,hL,a0=>by obtain⟨ρ1,H1,h,l1,b0⟩:=DP (H:=H) (ρ:=ρ.set 1 (some (.int k))) scr k (by simp[hL]) a0.o (.new (by omega));obtain⟨ρ',H2,h2⟩:=loop scr m f (k+1) ρ1 H1 l1 b0;refine⟨ρ',H2, ?_⟩;rw[<-h2];exact oX (d:=.int k) (by simp[bX]) rfl h
theorem z3x (scr:zr):∃hh,F_qC scr [.scr] []=.ok (.bl true) hh:=by
 have hi:∃m:Int,aQ cH (aB (aD nB (aB (mC (.int 1)) (aB (aD rB (aB (aD (f1 (hW scr)) (aB (aA 0) aC)) (aB (mC (.int 2)) aC))) aC))) aC) [some .scr,none,none,none,none,none,none,none,none,none,none] []=.ok (bX 0 m) []:=by
  generalize hz:(if(2:Int)<scr.length then(2:Int)else scr.length)=z;have z0:0<=z:=by split at hz <;> omega
  have z1:z<=2:=by split at hz <;> omega
  generalize hm:(if z>(1:Int)then z else 1)=m;have m0:1<=m:=by split at hm <;> omega
  have m1':m<=2:=by split at hm <;> omega
  have hr:iH m=true:=by simp[iH];omega
  refine⟨m, ?_⟩;have e1:rB [.int scr.length,.int 2] []=.ok (.int z) []:=by rw[<-hz];rfl
  have e2:nB [.int 1,.int z] []=.ok (.int m) []:=by rw[<-hm];rfl
  simp[aQ,aB,aD,mC,aA,aC,f1,hW,fP,e1,e2,cH,hr]
 obtain⟨m,hi⟩:=hi;obtain⟨ρ',H',h⟩:=loop scr m (bX 0 m).n 0 [some .scr,none,none,none,none,none,none,none,none,none,none] [] rfl rfl;refine⟨H', ?_⟩;show bP (xJ scr [some .scr,none,none,none,none,none,none,none,none,none,none] [])=_;unfold xJ L9;rw[bH ((nL hi).trans h)];rfl
open PySem.Calls PySem.W
theorem mk_of {l:OpenLaw}{w:cf}{K:Frag}{h:cx}{mg:Str->Option af}{fa:ah}(hob:ob K=obE) (hnt:noTabs K=true) (X:K.In h) (G:h.Ns en mg) (hfa:mg "law" = some (.ref fa)):
  ∃(fd:bh) (c P:ah),(∀(s:ag) (u:af),yf s fd ⟨[u],[]⟩ [("_law_script",u)])/\tabIn K "law" = some (c,P)/\noTabs K=true /\
   ∀(base:cx) (a:ah) (ns:zr),ns.length<=63->K.In base->base.Ns en mg->CodeHd base c P->pO mg base->Lawful l.prog w K mg base 26 fa fd "_law_script" P a ns:=by
 have hc:obF.all (λf=>f K)=true:=congrArg du hob;have hf:yY K=yZ:=congrArg pf hob;have e:=hfa.symm.trans (mg_of X G (v:=.ref 288) (dB hc 38));cases e;refine(λ(z:∀R:Prop,(_->R)->R)=>z _ id) λR hR=>?_;obtain⟨g0,U0,B0,C0,D0⟩:=cW hf hc 58 CH "is_whole" 57 ["thing"] 0 55 94 λ_ _ _ _ _ _=>jF λ_=>rfl;obtain⟨g1,U1,B1,C1,D1⟩:=cW hf hc 65 CI "is_between" 64 ["thing","low","high"] 1 56 95 λ_ _ _ _ _ _=>oQ λ_ _ _=>rfl;obtain⟨g2,U2,B2,C2,D2⟩:=cW hf hc 72 CJ "need_between" 71 ["thing","low","high"] 2 57 96 λ_ _ _ _ _ _=>oQ λ_ _ _=>rfl;obtain⟨g3,U3,B3,C3,D3⟩:=cW hf hc 77 xK "is_rising" 76 ["parts"] 3 58 97 λ_ _ _ _ _ _=>jF λ_=>rfl;obtain⟨g4,U4,B4,C4,D4⟩:=cW hf hc 84 CK "is_thing" 83 ["many","thing"] 4 59 98 λ_ _ _ _ _ _=>iP λ_ _=>rfl;obtain⟨g5,U5,B5,C5,D5⟩:=cW hf hc 89 xM "are_things" 88 ["many","thing"] 5 60 99 λ_ _ _ _ _ _=>iP λ_ _=>rfl;obtain⟨g6,U6,B6,C6,D6⟩:=cW hf hc 96 CL "is_pair" 95 ["many","thing"] 6 61 100 λ_ _ _ _ _ _=>iP λ_ _=>rfl;obtain⟨g7,U7,B7,C7,D7⟩:=cW hf hc 101 xN "are_pairs" 100 ["many","things"] 7 62 101 λ_ _ _ _ _ _=>iP λ_ _=>rfl;obtain⟨g8,U8,B8,C8,D8⟩:=cW hf hc 106 xO "has_alike" 105 ["pairs"] 8 63 102 λ_ _ _ _ _ _=>jF λ_=>rfl;obtain⟨g9,U9,B9,C9,D9⟩:=cW hf hc 111 xP "is_complete" 110 ["pairs"] 9 64 103 λ_ _ _ _ _ _=>jF λ_=>rfl;obtain⟨g10,U10,B10,C10,D10⟩:=cW hf hc 118 CM "is_order" 117 ["thing"] 10 65 104 λ_ _ _ _ _ _=>jF λ_=>rfl;obtain⟨g11,U11,B11,C11,D11⟩:=cW hf hc 125 CN "need_order" 124 ["order"] 11 66 105 λ_ _ _ _ _ _=>jF λ_=>rfl;obtain⟨g12,U12,B12,C12,D12⟩:=cW hf hc 132 CO "are_loose" 131 ["order","one","other"] 12 67 106 λ_ _ _ _ _ _=>oQ λ_ _ _=>rfl;obtain⟨g13,U13,B13,C13,D13⟩:=cW hf hc 137 xQ "loose_pairs" 136 ["order"] 13 68 107 λ_ _ _ _ _ _=>jF λ_=>rfl;obtain⟨g14,U14,B14,C14,D14⟩:=cW hf hc 142 xR "turned" 141 ["order"] 14 69 108 λ_ _ _ _ _ _=>jF λ_=>rfl;obtain⟨g15,U15,B15,C15,D15⟩:=cW hf hc 147 uA "may_come" 146 ["order","begun"] 15 70 109 λ_ _ _ _ _ _=>iP λ_ _=>rfl;obtain⟨g16,U16,B16,C16,D16⟩:=cW hf hc 152 xS "all_rows" 151 ["order"] 16 71 110 λ_ _ _ _ _ _=>jF λ_=>rfl;obtain⟨g17,U17,B17,C17,D17⟩:=cW hf hc 159 CP "apart" 158 ["row","pair"] 17 72 111 λ_ _ _ _ _ _=>iP λ_ _=>rfl;obtain⟨g18,U18,B18,C18,D18⟩:=cW hf hc 164 xT "greatest_apart" 163 ["row","pairs"] 18 73 112 λ_ _ _ _ _ _=>iP λ_ _=>rfl;obtain⟨g19,U19,B19,C19,D19⟩:=cW hf hc 171 CQ "need_order_and_span" 170 ["order","k"] 19 74 113 λ_ _ _ _ _ _=>iP λ_ _=>rfl;obtain⟨g20,U20,B20,C20,D20⟩:=cW hf hc 176 xU "within_steps" 175 ["order","thing","far"] 20 75 114 λ_ _ _ _ _ _=>oQ λ_ _ _=>rfl;obtain⟨g21,U21,B21,C21,D21⟩:=cW hf hc 181 xV "are_joined" 180 ["order","things","far"] 21 76 115 λ_ _ _ _ _ _=>oQ λ_ _ _=>rfl;obtain⟨g22,U22,B22,C22,D22⟩:=cW hf hc 188 CS "is_spread" 187 ["order","k","things","far"] 22 77 116 λ_ _ _ _ _ _=>A5 λ_ _ _ _=>rfl;obtain⟨g23,U23,B23,C23,D23⟩:=cW hf hc 195 CT "is_far" 194 ["order","k","begun","a","b"] 23 78 117 λ_ _ _ _ _ _=>W2 λ_ _ _ _ _=>rfl;obtain⟨g24,U24,B24,C24,D24⟩:=cW hf hc 200 xW "is_next" 199 ["order","k","begun","papers"] 24 79 118 λ_ _ _ _ _ _=>A5 λ_ _ _ _=>rfl;obtain⟨g25,U25,B25,C25,D25⟩:=cW hf hc 207 CU "is_paper" 206 ["order","k","begun","thing"] 25 80 119 λ_ _ _ _ _ _=>A5 λ_ _ _ _=>rfl;obtain⟨g26,U26,B26,C26,D26⟩:=cW hf hc 214 CV "paper_shows" 213 ["order","k","thing"] 26 81 120 λ_ _ _ _ _ _=>oQ λ_ _ _=>rfl;obtain⟨g27,U27,B27,C27,D27⟩:=cW hf hc 221 CW "some_far" 220 ["order","k","begun"] 27 82 121 λ_ _ _ _ _ _=>oQ λ_ _ _=>rfl;obtain⟨g28,U28,B28,C28,D28⟩:=cW hf hc 228 CY "some_paper" 227 ["order","k","begun"] 28 83 122 λ_ _ _ _ _ _=>oQ λ_ _ _=>rfl;obtain⟨g29,U29,B29,C29,D29⟩:=cW hf hc 235 CZ "paper_for" 234 ["order","k"] 29 84 123 λ_ _ _ _ _ _=>iP λ_ _=>rfl;obtain⟨g30,U30,B30,C30,D30⟩:=cW hf hc 240 xX "rows_with_spans" 239 ["order"] 30 85 124 λ_ _ _ _ _ _=>jF λ_=>rfl;obtain⟨g31,U31,B31,C31,D31⟩:=cW hf hc 245 xY "least_span" 244 ["order"] 31 86 125 λ_ _ _ _ _ _=>jF λ_=>rfl;obtain⟨g32,U32,B32,C32,D32⟩:=cW hf hc 252 DC "_law_cell_at" 251 ["_law_script","_law_k"] 32 87 126 λ_ _ _ _ _ _=>iP λ_ _=>rfl;obtain⟨g33,U33,B33,C33,D33⟩:=cW hf hc 259 DD "_law_state" 258 ["_law_script","_law_k"] 33 88 127 λ_ _ _ _ _ _=>iP λ_ _=>rfl;obtain⟨g34,U34,B34,C34,D34⟩:=cW hf hc 266 DE "_law_take" 265 ["_law_state_here","_law_many"] 34 89 128 λ_ _ _ _ _ _=>iP λ_ _=>rfl;obtain⟨g35,U35,B35,C35,D35⟩:=cW hf hc 273 DF "_law_mixed_row" 272 ["_law_state_here","_law_things"] 35 90 129 λ_ _ _ _ _ _=>iP λ_ _=>rfl;obtain⟨g36,U36,B36,C36,D36⟩:=cW hf hc 278 xZ "_law_closed" 277 ["_law_pairs"] 36 91 130 λ_ _ _ _ _ _=>jF λ_=>rfl;obtain⟨g37,U37,B37,C37,D37⟩:=cW hf hc 283 uB "_law_order" 282 ["_law_state_here","_law_most"] 37 92 131 λ_ _ _ _ _ _=>iP λ_ _=>rfl;obtain⟨g38,U38,B38,C38,D38⟩:=cW hf hc 288 uC "law" 287 ["_law_script"] 38 93 132 λ_ _ _ _ _ _=>jF λ_=>rfl;obtain⟨t_MOST_THINGS,c_MOST_THINGS⟩:=EY (n := "MOST_THINGS") (v:=6) (qQ hc 133 rfl);obtain⟨t_MOST_APART,c_MOST_APART⟩:=EY (n := "MOST_APART") (v:=5) (qQ hc 134 rfl);refine hR ⟨g38,287,285,λs v=>.of_eq (D38 [v] rfl),dB hc 135,hnt,λbase a ns hlen _ _ hC hB=>⟨?_⟩⟩;obtain⟨hh,hl⟩:=z3x ns;refine⟨{ K:=K,cl:=λc=>match c with|0=>37|_=>0,scr:=ns,sa:=a,tab:=some 285,lq:=(("law" : Str) ++ ".<locals>.") ++ "<lambda>" },F_qC ns,hh,rfl,rfl,rfl,rfl,hl, ?_⟩;refine z0u (A:=⟨58,g0,65,g1,72,g2,77,g3,84,g4,89,g5,96,g6,101,g7,106,g8,111,g9,118,g10,125,g11,132,g12,137,g13,142,g14,147,g15,152,g16,159,g17,164,g18,171,g19,176,g20,181,g21,188,g22,195,g23,200,g24,207,g25,214,g26,221,g27,228,g28,235,g29,240,g30,245,g31,252,g32,259,g33,266,g34,273,g35,278,g36,283,g37,288,g38,37,t_MOST_THINGS,t_MOST_APART,(0:Nat),287,285⟩) ?_ (λ_ _ _ _ _ _=>trivial) hC hB;exact⟨rfl,U0,B0,cS X G hc 0,U1,B1,cS X G hc 1,U2,B2,cS X G hc 2,U3,B3,cS X G hc 3,U4,B4,cS X G hc 4,U5,B5,cS X G hc 5,U6,B6,cS X G hc 6,U7,B7,cS X G hc 7,U8,B8,cS X G hc 8,U9,B9,cS X G hc 9,U10,B10,cS X G hc 10,U11,B11,cS X G hc 11,U12,B12,cS X G hc 12,U13,B13,cS X G hc 13,U14,B14,cS X G hc 14,U15,B15,cS X G hc 15,U16,B16,cS X G hc 16,U17,B17,cS X G hc 17,U18,B18,cS X G hc 18,U19,B19,cS X G hc 19,U20,B20,cS X G hc 20,U21,B21,cS X G hc 21,U22,B22,cS X G hc 22,U23,B23,cS X G hc 23,U24,B24,cS X G hc 24,U25,B25,cS X G hc 25,U26,B26,cS X G hc 26,U27,B27,cS X G hc 27,U28,B28,cS X G hc 28,U29,B29,cS X G hc 29,U30,B30,cS X G hc 30,U31,B31,cS X G hc 31,U32,B32,cS X G hc 32,U33,B33,cS X G hc 33,U34,B34,cS X G hc 34,U35,B35,cS X G hc 35,U36,B36,cS X G hc 36,U37,B37,cS X G hc 37,U38,B38,cS X G hc 38,mg_none_of X G (dB hc 40),mg_none_of X G (dB hc 41),mg_none_of X G (dB hc 42),mg_none_of X G (dB hc 43),mg_none_of X G (dB hc 44),mg_none_of X G (dB hc 45),mg_none_of X G (dB hc 46),mg_none_of X G (dB hc 47),mg_none_of X G (dB hc 48),mg_none_of X G (dB hc 49),mg_none_of X G (dB hc 50),mg_none_of X G (dB hc 51),mg_none_of X G (dB hc 52),mg_none_of X G (dB hc 53),mg_none_of X G (dB hc 54),mg_of X G c_MOST_THINGS,mg_of X G c_MOST_APART,cS X G hc 39,dB hc 39,qQ hc 136 rfl,rfl⟩
end L2.Mr.K10
open PySem PySem.W PyProof.Rows
set_option maxRecDepth 100000 in
set_option maxHeartbeats 0 in
theorem PySem.Challenge.cw_nearorders_k10_whole_rows_or_papers_holds : PySem.Challenge.rw_nearorders_k10_whole_rows_or_papers.Holds := by
  w_on; o_law
  refine holds_open (XP := XL L2.Mr.K10.vw []) (YP := L2.Mr.Ys L2.Mr.K10.ob L2.Mr.K10.obE) L2.Mr.K10.left L2.Mr.ys_of L2.Mr.ys_keeps (fun s e => xl_of s (Bool.and_eq_true_iff.mp e).1) XL.keeps (by rfl) (by rfl) (by rfl) (fun s e => recFacts_of (Bool.and_eq_true_iff.mp e).2) (by rfl) (by first | assumption | decide +kernel) (by decide +kernel) ⟨rfl,rfl,rfl,rfl,rfl,by decide +kernel⟩ ?hw ?hc
  case hw => w_witness2
  case hc => exact L2.Mr.walkK2 (l := PySem.Challenge.rw_nearorders_k10_whole_rows_or_papers) (n := 63) (k := 26) (x := "_law_script") "law" rfl (by decide) rfl ⟨rfl,by decide,by decide⟩ ⟨_,rfl,rfl⟩ (fun K w mg fa h hob hnt X G hmg => L2.Mr.K10.mk_of hob hnt X G hmg)