import PyProof.Rows.All
import Wide.All
import OpenK.AllK
import Wide.FinOn
import Lean
import PyProof.EqAt
import PyProof.EqKinds
import PyProof.TupleCall
import PyProof.NeKinds
import PyProof.StationsW
import PyProof.ExcClass3
import PyProof.ExcBaseAll.ValueError
import PyProof.ExcArgsOwn
import KE.KIsAll
import PyProof.ZipIter
import PyProof.RulesAs
import KE.KLam
import PyProof.NsDelKeeps
import PyProof.Rows.Range3
import PyProof.SumWalkG
import PyProof.EnumMake
import PyProof.EnumFor
import PyProof.WalkInts
import PyProof.Rows.SortWalk
import KE.KSortAsk
import PySem.SetOps
import KE.KSortTup
import PyProof.Rows.SetFrom
import PyProof.SetRoads
import PyProof.Rows.CallKwBuiltin
import PyProof.EnumIter
import PyProof.DictCompW
import KE.KDictList
import KE.KSortKey
import PyProof.SetKind
import PySem.Challenge.RW_nearorders_k74_whole_kinds
abbrev dn:=List (Int×Int)
abbrev wo:=List (List Int)
abbrev y':=List Int
abbrev Aw:=List Nat
abbrev Ax:=List PySem.Str
set_option genSizeOf false
set_option compiler.extract_closed false
noncomputable section
open Array renaming getElem?_eq_some_iff->ff,getElem?_eq_getElem->gc,getElem?_setIfInBounds_self_of_lt->ju,length_toList->ku,getD->lj,getElem?_toList->ly,getElem?_eq_none->oh,perm_iff_toList_perm->xw,getElem?_replicate->yr,toList_filterMap->zd,mem_toList_iff->zw,forIn_toList->Aq
open Bool renaming false_eq_true->cp,and_eq_true->cu,eq_iff_iff->gq,false_ne_true->ig,not_true->ph,and_false->um,not_eq_true'->wb,or_eq_true->xj,not_false->yf,true_and->yy
open Classical renaming em->rh,byContradiction->wy
open False renaming elim->nt
open ForInStep renaming yield->rl
open Function renaming comp_def->qq,comp->ui
open Int renaming toNat_natCast->fh,zero_add->ou,le_refl->xn
open List renaming range->ak,mem_cons_of_mem->av,mem_cons->aw,length_map->ax,size_toArray->ba,mem_cons_self->bf,mem_range->bg,mem_map->br,length_cons->bu,getElem?_eq_some_iff->bw,replicate->bx,getElem?_eq_getElem->bz,mem_singleton->cc,length_append->cf,filterMap_cons->cw,mem_append_right->cx,mem_append->cz,pairwise_cons->df,length_range->dm,flatMap_cons->dq,map_cons->du,mem_of_getElem?->dw,all_eq_true->fg,map_append->fq,getElem?_map->fw,mem_append_left->gb,getElem?_append_left->gd,mem_filter->gi,getElem_mem->gu,filter_cons->gw,map_map->ib,pairwise_iff_getElem->ik,length_filterMap_le->iw,getElem?_set_ne->jd,mem_iff_getElem->je,mem_flatMap->jf,getElem?_set_self->jg,getElem?_append_right->jh,replicate_succ->jk,nodup_cons->jm,lookup_cons->jr,mem_filterMap->jt,length_eq_zero_iff->jy,getElem_of_mem->kg,filterMap_eq_map->km,length_take->kz,map_filterMap->lr,flatten_cons->mm,perm_ext_iff_of_nodup->mr,any_eq_true->mz,length_pos_iff->nq,length->nv,take_of_length_le->oi,length_drop->oz,getD->pb,map_drop->pj,length_nil->qc,forIn_cons->qe,range_succ->qf,getElem_range->qr,pairwise_map->rj,eq_of_mem_replicate->rp,countP_cons->si,nodup_range->sj,any_map->td,flatMap->tm,append_nil->tq,length_set->tw,length_filter_le->ug,filterMap->uk,drop_zero->uq,map_take->vh,sum_cons->vk,append_assoc->vt,ext_getElem?->wa,eraseIdx_eq_take_drop_succ->wj,of_mem_zip->xh,dropLast_concat_getLast->xm,nodup_iff_pairwise_ne->ye,length_eraseIdx_of_lt->yg,getElem?_zip_eq_some->yq,exists_mem_of_ne_nil->yt,getElem?_take_of_lt->yw,getElem?_replicate->yz,getElem?_cons_succ->zc,range_succ_eq_map->zg,pairwise_lt_range->zh,filter_eq_nil_iff->zi,length_singleton->zq,take_append_drop->zv,getElem?_eq_none->zy,getElem?_toArray->Aa,map_congr_left->Au,filter_eq_self->Av
open List.Pairwise renaming nil->pw,imp_of_mem->vq
open List.Perm renaming refl->wd,swap->we,append_left->yh,of_eq->Ai
open List.cons renaming injEq->Ak
open Nat renaming le_refl->aq,ne_of_lt->bc,lt_of_lt_of_le->bo,le_trans->dh,lt_succ_of_lt->fi,zero_le->gz,lt_irrefl->iz,le_of_lt->ji,ne_of_gt->jj,lt_succ_self->jv,lt_or_ge->jw,succ_ne_self->lg,mul_le_mul->oq,le_of_eq->qm,le_add_right->sr,succ_mul->ua,le_succ->xi,not_lt_zero->yb,min_self->zt,pow_le_pow_right->Ap
open Ne renaming symm->dk
open Option renaming isSome_iff_exists->ni,isSome_some->Ae
open Option.some renaming inj->de,injEq->yu
open Or renaming inl->Af
open Prod renaming fst->da,snd->gr,ext->yc
open Prod.mk renaming inj->zf
open PyProof.Rows renaming slot_tuple_getitem->gy,callWith_type1->iu,IntsAre->kv,get?_update_seq->oj,AllBare->sv,size_push'->uv,listUpdate_at->wq,assignInOrder_cons->wz,lt_int->xr,IsTup->zj,boot_range->zk,tupleItemsOf_->An
open PySem renaming wpAny_bind->ae,Value->af,Shared->ag,Addr->ai,wpAny_pure->aj,starEach->ar,FuncData->bh,Program->bj,Expr->bq,sizeLine->cg,World->cn,Around->cq,Heap->cy,bootBuiltins->di,mainGlobals->dz,wpAny_holding->fe,wpAny_newObj_type->fj,Stmt->fv,wpAny_call_entry->fz,Scope->gf,wpAny_field->gg,SetTable->gh,sizeLine_eq->ic,IsTupleKey->ie,wpAny_callSpecial?_slot->ij,wpAny_seqItems->jc,wpAny_truthy_bool->jn,wpAny_pyIter_list->jo,wpAny_setState_of->jq,wpAny_setField_rec->jx,mem_of_lookup->jz,codeAny_builtin->ki,Arguments->kr,Comprehension->lb,wpAny_passesOwn->mn,NameKind->mq,Builtin->my,wpAny_askSetting->nu,wpAny_rule->om,IsPair->pg,wpAny_forIn_list->qk,wpAny_standAt->ql,codeAny_call_builtin->qo,wpAny_letGo->qp,pushCells_keeps->qu,wpAny_typeOf->rf,wpAny_mono->rq,wpAny_pyIter_tuple->rz,wpAny_Call_Name_kw->sd,wpAny_of_eq->sy,wpAny_storeSet_of->tj,wpAny_onRaise->ub,plainId_quiet->uf,codeAny_mono->ur,wpAny_execs_nil->ux,IsPart->vm,wpAny_updateSeq_pair->vp,wpAny_setEntries_of->wg,wpAny_attempt->wk,wpAny_newList->wu,Result->xa,call_meets->xc,Model->xo,BindsTo->xq,call->xu,wpAny_eqBool_int->yj,PassesOwn->yk,noFill_tuple_add->yn,wpAny_isInstance->yp,IsRangeIter->yv,IsZip->yx,wpAny_updateSeq->ze,CmpOp->zl,DefRec->zr,wpAny_setField->zu,intKind_is->zx,wpAny_tryCatch->Ab,seq_tuple_add->Am,wpAny_comprehension_free->Ao
open PySem.Around renaming under_plainId->jb
open PySem.Builtin.Builtins renaming bindParams->uj
open PySem.Builtin.List renaming listTooLong->qd,listExtendWith->vj,listSameRef->vz,listTouch->wm
open PySem.Builtin.Range renaming rangeSize->dg,small->xk
open PySem.Builtin.Slice renaming slicePlaces->lx,sliceAdjust->pd,sliceApplied->vf
open PySem.Builtin.SmallTypes renaming nextOf->fo,ownedTupleIsFree->qw,stopIteration->rn
open PySem.Builtin.Tuple renaming tupleExact->mf,tupleItemsOf->vg
open PySem.Calls renaming evalArgs_plain->uh,Name_function_global->xp,call_function_entry->yi,callWith_builtin->zb,spliced_cons->Al
open PySem.Challenge renaming pw_nearorders_k74_whole_kinds->aa,rw_nearorders_k74_whole_kinds->pq
open PySem.Data renaming fields->Ac
open PySem.EntryCells renaming newEntry->yo
open PySem.F renaming args_tuple_add_2->qt,entry_tuple_add->qz,slot_tuple_add->sf,excBase_ValueError->xf,slot_tuple_index->xv,plainAttrs_list->yd
open PySem.Heap renaming get?_push_of_some->ao,lt_size->ay,get?_push_size->az,size_push->ed,SameBut->ja,get?_update_ne->kh,get?_update_self->kl,get?_update_other->ll,ExtBut->Ah
open PySem.Heap.SameBut renaming update->kn,refl->nj
open PySem.IsL renaming update->zo
open PySem.NameKind renaming free->dj,cell->dy
open PySem.Obj renaming mapSeq->oa,putSet->ue,data_mapFields->vn,isFreed_of_fields->Ag
open PySem.SeqAt renaming EqAt->lh,RcAt->sk
open PySem.SetTable renaming insertAt->gv,turns->qg,sizeAbove->qi,below->qj,grown->wx,fill->xl,tooFull->Aj,relaid->As
open PySem.Shared renaming TypeIs->uu
open PySem.Str renaming ofString->nh
open PySem.Value renaming ref->iq,none->kj,isInt_shape->kq,int->mw,builtin->uy,bool->uz,type->vc
open PySem.W renaming Frag->au,fnOf->pz,excIn->qv,nsIn->sh,keepIn->tu,tabObj->uc,kitOne->ud,methodObj->ve,codeIn->xb,CodeHd->xg,cellsFrom_some->ym
open PySem.Walks renaming list->ow
open PySem.pickOrder renaming go->ya
open Sum renaming inl->uw,inr->wc
set_option Elab.async false
set_option linter.all false
set_option maxRecDepth 100000
set_option maxHeartbeats 4000000
open PySem PySem.Spec PyProof.Rows
namespace L2.Mr
open PySem PySem.Spec PySem.Calls PyProof.Rows PySem.W
def UO(o:Obj):Bool:=match o.cls,o.data with
 |.none,.fields _=>false
 |_,_=>true
def pK(h:cy):List ai->Frag
 |[]=>[]
 |a::as=>match h.get? a with
  |some o=>match UO o with
   |true=>(a,o)::pK h as
   |false=>pK h as
  |none=>pK h as
def uR(h:cy):Frag:=pK h (ak h.objs.size)
theorem yJ(h:cy):∀as,(pK h as).In h
 |[],_,_,e=>nomatch e
 |a::as,b,o,e=>by
  unfold pK at e
  split at e
  ·rename_i o' q
   split at e
   ·rw[jr]at e
    cases z:b==a with
    |true=>rw[z]at e;cases e;rw[eq_of_beq z];exact q
    |false=>rw[z]at e;exact yJ h as b o e
   ·exact yJ h as b o e
  ·exact yJ h as b o e
theorem yK(h:cy):∀as,noTabs (pK h as)=true
 |[]=>rfl
 |a::as=>by
  unfold pK
  split
  ·split
   ·rename_i q;show(_&&_)=true;rw[cu];refine⟨?_,yK h as⟩;exact q
   ·exact yK h as
  ·exact yK h as
def cJ(K:Frag)(f:ai):Option bh:=match K.lookup f with
 |some o=>match o.data with
  |.func fd=>some {fd with kwdefaults:=.none,doc:=.none,pyModule:=.none,annotations:=none,closureTuple:=.none}
  |_=>none
 |none=>none
theorem UP{K:Frag}{f:ai}{n q:Str}{A:kr}{B:List fv}{S:gf}{dV cd:af}(h:cJ K f=some (fnOf n q A B S dV .none .none .none none cd .none)):
  ∃(oc:af)(od:Option ai)(kV dc pm:af)(an:Option ai)(ct:af)(sl:Array (Option af)),K.lookup f=some ⟨oc,od,.func (fnOf n q A B S dV kV dc pm an cd ct),sl⟩:=by
 unfold cJ at h
 split at h
 ·rename_i o e
  split at h
  ·rename_i fd q;obtain⟨oc,od,dt,sl⟩:=o;cases fd;simp only[yu,FuncData.mk.injEq]at h;obtain⟨rfl,rfl,rfl,rfl,rfl,rfl,rfl,rfl,_,_,_,_,rfl,_,rfl⟩:=h;simp only at q;subst q;exact⟨_,_,_,_,_,_,_,_,e⟩
  ·cases h
 ·cases h
theorem pL{F:List (Frag->Bool)}{K:Frag}(h:F.all (λf=>f K)=true)(i:Nat){f:Frag->Bool}(e:F[i]?=some f):f K=true:=fg.mp h f (dw e)
theorem UQ{l m:List (Option bh)}(h:l=m)(i:Nat){a b:Option bh}(e:l[i]?=some a)(e':m[i]?=some b):a=b:=by subst h;rw[e]at e';exact de e'
def uS(K:Frag)(n:Str)(v:Int):Bool:=match nsIn K dz n with
 |some (some (.int i _))=>i==v
 |_=>false
theorem DB{K:Frag}{n:Str}{v:Int}(h:uS K n v=true):∃t,nsIn K dz n=some (some (.int v t)):=by
 unfold uS at h
 split at h
 ·rename_i i t e;rw[eq_of_beq h]at e;exact⟨t,e⟩
 ·cases h
theorem yL(p:bj)(w:cn)(N:Nat){α:Type}(f:ag->α):(openEnds treeTable p w N).map f=(((Fast.tw10274390034422433532 Fast.tw14364793385576792824 (opening p) w N (PySem.start (opening p)).1 (PySem.start (opening p)).2).bind (Fast.tw14289696077712309145 p)).bind λs₀=>match s₀.heap.isNs dz&&s₀.gens.size==0 with
 |true=>(Fast.tw14082659384304107361 Fast.tw14364793385576792824 p w s₀.heap.objs.size (s₀.heap.nsMap dz "__annotations__") N s₀ (topStub p)).bind λs₁=>match staticsOk (importedModules p.main.body) s₀.heap s₁.heap&&namesBound p s₁.heap&&gensDone s₁&&laidKept s₀.heap s₁.heap with
   |true=>some s₁
   |false=>none
 |false=>none).map f:=by
 rw[<-Fast.te10274390034422433532,<-Fast.te14364793385576792824,<-Fast.te14289696077712309145,<-Fast.te14082659384304107361];rfl
abbrev JP:List af:=[.type "ValueError",.type "Exception",.type "BaseException",.type "object"]
def UR(s:fv)(cd:ai):Option bh:=match s with
 |.FunctionDef n a b _ _ _ sc _ _ _=>some (fnOf n n a b sc .none .none .none .none none (.ref cd) .none)
 |_=>none
def fE(p:bj)(i:Nat)(cd:ai):Option bh:=UR (p.main.body.getD i (.Pass ⟨0,0,0,0⟩)) cd
def nR(K:Frag)(n:Str)(a:ai):Bool:=decide (nsIn K dz n=some (some (.ref a)))
def nN(K:Frag)(n:Str):Bool:=decide (nsIn K dz n=some none)
theorem dA{F:List (Frag->Bool)}{K:Frag}(h:F.all (λf=>f K)=true)(i:Nat){g:Frag->Prop}[∀K,Decidable (g K)](e:F[i]?=some (λK=>decide (g K))):g K:=of_decide_eq_true (pL h i e)
end L2.Mr
namespace L2.Mr.K74
open PySem PySem.Spec PySem.Calls PySem.W PyProof.Rows
def vw:bj:={aa with main:={aa.main with body:=uk (λi=>aa.main.body[i]?) [1,2,3,4,5,6,8,9,10,11,12,14,15,16,17,18,19,20,21,22,23,24,25,26,27,28,29,31,32,33,34,35,36,37,38,39,40,41,42,44,45,46,47,49,50,51,52,54,55,57,58,59,60,61,62,63,64,65,66]} }
def Xw:ag->Bool:=λs=>xlAt vw [] s&&recOk (RowW.records (OpenRow.toRowW pq.row)) s
def obF:List (Frag->Bool):=[(nR · "is_whole" 94),(nR · "is_between" 101),(nR · "need_between" 108),(nR · "is_rising" 113),(nR · "rounded_up" 120),(nR · "is_thing" 127),(nR · "are_things" 132),(nR · "is_pair" 139),(nR · "are_pairs" 144),(nR · "has_alike" 149),(nR · "is_complete" 154),(nR · "is_order" 161),(nR · "need_order" 168),(nR · "need_thing" 175),(nR · "need_few" 182),(nR · "ahead_of" 187),(nR · "are_loose" 194),(nR · "loose_from" 199),(nR · "loose_pairs" 204),(nR · "need_sizes" 209),(nR · "group_numbers" 214),(nR · "levels_order" 219),(nR · "chains_order" 224),(nR · "levels_span" 231),(nR · "chains_reach" 238),(nR · "is_bar" 245),(nR · "levels_of" 250),(nR · "levels_or_bar" 255),(nR · "fence" 260),(nR · "crown" 265),(nR · "needs_of" 270),(nR · "raised" 275),(nR · "seated" 282),(nR · "least_reach" 287),(nR · "may_come" 292),(nR · "all_rows" 297),(nR · "apart" 304),(nR · "greatest_apart" 309),(nR · "rows_with_spans" 314),(nR · "least_span" 319),(nR · "_law_take" 326),(nR · "_law_sizes" 333),(nR · "_law_cell_at" 340),(nR · "_law_state" 347),(nR · "_law_mixed" 354),(nR · "_law_closed" 361),(nR · "_law_order" 366),(nR · "_law_few" 373),(nR · "_law_levels_right" 378),(nR · "law" 383),(nR · "NoOrder" 37),(nR · "NoNumber" 49),(nN · "abs"),(nN · "all"),(nN · "any"),(nN · "bool"),(nN · "enumerate"),(nN · "int"),(nN · "isinstance"),(nN · "len"),(nN · "list"),(nN · "max"),(nN · "min"),(nN · "range"),(nN · "set"),(nN · "sorted"),(nN · "sum"),(nN · "tuple"),(nN · "zip"),(codeIn · (.ref 93) "is_whole"),(codeIn · (.ref 100) "is_between"),(codeIn · (.ref 107) "need_between"),(codeIn · (.ref 112) "is_rising"),(codeIn · (.ref 119) "rounded_up"),(codeIn · (.ref 126) "is_thing"),(codeIn · (.ref 131) "are_things"),(codeIn · (.ref 138) "is_pair"),(codeIn · (.ref 143) "are_pairs"),(codeIn · (.ref 148) "has_alike"),(codeIn · (.ref 153) "is_complete"),(codeIn · (.ref 160) "is_order"),(codeIn · (.ref 167) "need_order"),(codeIn · (.ref 174) "need_thing"),(codeIn · (.ref 181) "need_few"),(codeIn · (.ref 186) "ahead_of"),(codeIn · (.ref 193) "are_loose"),(codeIn · (.ref 198) "loose_from"),(codeIn · (.ref 203) "loose_pairs"),(codeIn · (.ref 208) "need_sizes"),(codeIn · (.ref 213) "group_numbers"),(codeIn · (.ref 218) "levels_order"),(codeIn · (.ref 223) "chains_order"),(codeIn · (.ref 230) "levels_span"),(codeIn · (.ref 237) "chains_reach"),(codeIn · (.ref 244) "is_bar"),(codeIn · (.ref 249) "levels_of"),(codeIn · (.ref 254) "levels_or_bar"),(codeIn · (.ref 259) "fence"),(codeIn · (.ref 264) "crown"),(codeIn · (.ref 269) "needs_of"),(codeIn · (.ref 274) "raised"),(codeIn · (.ref 281) "seated"),(codeIn · (.ref 286) "least_reach"),(codeIn · (.ref 291) "may_come"),(codeIn · (.ref 296) "all_rows"),(codeIn · (.ref 303) "apart"),(codeIn · (.ref 308) "greatest_apart"),(codeIn · (.ref 313) "rows_with_spans"),(codeIn · (.ref 318) "least_span"),(codeIn · (.ref 325) "_law_take"),(codeIn · (.ref 332) "_law_sizes"),(codeIn · (.ref 339) "_law_cell_at"),(codeIn · (.ref 346) "_law_state"),(codeIn · (.ref 353) "_law_mixed"),(codeIn · (.ref 360) "_law_closed"),(codeIn · (.ref 365) "_law_order"),(codeIn · (.ref 372) "_law_few"),(codeIn · (.ref 377) "_law_levels_right"),(codeIn · (.ref 382) "law"),(keepIn · (.ref 94)),(keepIn · (.ref 101)),(keepIn · (.ref 108)),(keepIn · (.ref 113)),(keepIn · (.ref 120)),(keepIn · (.ref 127)),(keepIn · (.ref 132)),(keepIn · (.ref 139)),(keepIn · (.ref 144)),(keepIn · (.ref 149)),(keepIn · (.ref 154)),(keepIn · (.ref 161)),(keepIn · (.ref 168)),(keepIn · (.ref 175)),(keepIn · (.ref 182)),(keepIn · (.ref 187)),(keepIn · (.ref 194)),(keepIn · (.ref 199)),(keepIn · (.ref 204)),(keepIn · (.ref 209)),(keepIn · (.ref 214)),(keepIn · (.ref 219)),(keepIn · (.ref 224)),(keepIn · (.ref 231)),(keepIn · (.ref 238)),(keepIn · (.ref 245)),(keepIn · (.ref 250)),(keepIn · (.ref 255)),(keepIn · (.ref 260)),(keepIn · (.ref 265)),(keepIn · (.ref 270)),(keepIn · (.ref 275)),(keepIn · (.ref 282)),(keepIn · (.ref 287)),(keepIn · (.ref 292)),(keepIn · (.ref 297)),(keepIn · (.ref 304)),(keepIn · (.ref 309)),(keepIn · (.ref 314)),(keepIn · (.ref 319)),(keepIn · (.ref 326)),(keepIn · (.ref 333)),(keepIn · (.ref 340)),(keepIn · (.ref 347)),(keepIn · (.ref 354)),(keepIn · (.ref 361)),(keepIn · (.ref 366)),(keepIn · (.ref 373)),(keepIn · (.ref 378)),(keepIn · (.ref 383)),(uS · "MOST_THINGS" 6),(uS · "MOST_APART" 5),(uS · "MOST_SIZES" 6),λK=>decide (tabIn K "law"=some (382,380)),(excIn · 37 JP "ValueError.__new__"),(excIn · 49 JP "ValueError.__new__")]
def DC(K:Frag):List (Option bh):=[cJ K 94,cJ K 101,cJ K 108,cJ K 113,cJ K 120,cJ K 127,cJ K 132,cJ K 139,cJ K 144,cJ K 149,cJ K 154,cJ K 161,cJ K 168,cJ K 175,cJ K 182,cJ K 187,cJ K 194,cJ K 199,cJ K 204,cJ K 209,cJ K 214,cJ K 219,cJ K 224,cJ K 231,cJ K 238,cJ K 245,cJ K 250,cJ K 255,cJ K 260,cJ K 265,cJ K 270,cJ K 275,cJ K 282,cJ K 287,cJ K 292,cJ K 297,cJ K 304,cJ K 309,cJ K 314,cJ K 319,cJ K 326,cJ K 333,cJ K 340,cJ K 347,cJ K 354,cJ K 361,cJ K 366,cJ K 373,cJ K 378,cJ K 383]
def DD:List (Option bh):=[fE aa 8 93,fE aa 9 100,fE aa 10 107,fE aa 11 112,fE aa 12 119,fE aa 16 126,fE aa 17 131,fE aa 18 138,fE aa 19 143,fE aa 20 148,fE aa 21 153,fE aa 22 160,fE aa 23 167,fE aa 24 174,fE aa 25 181,fE aa 26 186,fE aa 27 193,fE aa 28 198,fE aa 29 203,fE aa 32 208,fE aa 33 213,fE aa 34 218,fE aa 35 223,fE aa 36 230,fE aa 37 237,fE aa 38 244,fE aa 39 249,fE aa 40 254,fE aa 41 259,fE aa 42 264,fE aa 44 269,fE aa 45 274,fE aa 46 281,fE aa 47 286,fE aa 49 291,fE aa 50 296,fE aa 51 303,fE aa 52 308,fE aa 54 313,fE aa 55 318,fE aa 57 325,fE aa 58 332,fE aa 59 339,fE aa 60 346,fE aa 61 353,fE aa 62 360,fE aa 63 365,fE aa 64 372,fE aa 65 377,fE aa 66 382]
def ob(K:Frag):Bool×List (Option bh):=(obF.all (λf=>f K),DC K)
abbrev obE:Bool×List (Option bh):=(true,DD)
theorem JQ{α β γ:Type}{o:Option α}{f:α->β}{g:α->γ}{a:β}{b:γ}(h1:o.map f=some a)(h2:o.map g=some b):o.map (λs=>(f s,g s))=some (a,b):=by
 cases o with
 |none=>cases h1
 |some s=>cases h1;cases h2;rfl
theorem US{α β γ:Type}{o:Option α}{f:α->β×γ}{a:β×γ}(h1:o.map (λs=>(f s).1)=some a.1)(h2:o.map (λs=>(f s).2)=some a.2):o.map f=some a:=by
 cases o with
 |none=>cases h1
 |some s=>exact congrArg some (yc (de h1) (de h2))
abbrev sn(s:ag):=openSeen vw [] (importedModules (aa).main.body) Xw true s
theorem UT(w:cn):(openEnds treeTable aa w 8000).map (λs=>(sn s).1)=some (openGood vw []).1:=by unfold sn;rw[yL,Fast.te4187177175401517315];kernel_rfl
theorem UU(w:cn):(openEnds treeTable aa w 8000).map (λs=>(sn s).2)=some (openGood vw []).2:=by unfold sn;rw[yL,Fast.te4187177175401517315];kernel_rfl
theorem UW(w:cn):(openEnds treeTable aa w 8000).map sn=some (openGood vw []):=US (UT w) (UU w)
theorem UX(w:cn):(openEnds treeTable aa w 8000).map (λs=>obF.all (λf=>f (uR s.heap)))=some true:=by rw[yL];kernel_rfl
theorem UY(w:cn):(openEnds treeTable aa w 8000).map (λs=>DC (uR s.heap))=some DD:=by rw[yL];kernel_rfl
theorem ws:OpenLaw.wellSaid pq=true:=by kernel_rfl
theorem left:LeftO aa vw [] Xw (λs=>ob (uR s.heap)) (λ_=>obE) 8000:=λw=>JQ (UW w) (JQ (UX w) (UY w))
end L2.Mr.K74
abbrev Gw:PySem.Str:="__debug__"
namespace L2
abbrev iP:=Sum Int Str
def JR:iP->af->Bool
 |.inl k,v=>Value.isInt k v
 |.inr x,v=>Value.isStrOf x v
def UZ(w:cn):iP->Int
 |.inl k=>hashInt k
 |.inr x=>hashStr w x
theorem oF:∀{k:iP}{v:af},JR k v=true->(∃i t,k=uw i/\v=mw i t)∨(∃x t,k=wc x/\v=Value.str x t)
 |.inl i,v,h=>by obtain⟨t,e⟩:=kq (k:=i) (v:=v) h;exact .inl ⟨i,t,rfl,e⟩
 |.inr x,v,h=>by obtain⟨t,e⟩:=Value.isStrOf_shape (x:=x) (v:=v) h;exact .inr ⟨x,t,rfl,e⟩
theorem VA(a b:Int):decide ((uw a:iP)=uw b)=(a==b):=by
 by_cases e:a=b
 ·subst e;simp
 ·have h:¬(uw a:iP)=uw b:=λq=>e (Sum.inl.inj q);rw[decide_eq_false h];exact(beq_eq_false_iff_ne.mpr e).symm
theorem VB(a b:Str):decide ((wc a:iP)=wc b)=decide (a=b):=by
 by_cases e:a=b
 ·subst e;simp
 ·have h:¬(wc a:iP)=wc b:=λq=>e (Sum.inr.inj q);rw[decide_eq_false h,decide_eq_false e]
theorem VC(a:Int)(b:Str):decide ((uw a:iP)=wc b)=false:=decide_eq_false (λq=>nomatch q)
theorem VD(a:Str)(b:Int):decide ((wc a:iP)=uw b)=false:=decide_eq_false (λq=>nomatch q)
def DE(prog:bj)(w:cn):PySem.KeyKind prog w iP where
 is:=JR
 hash:=UZ w
 inj:=λv a b ha hb=>by
  rcases oF ha with⟨i,t,rfl,rfl⟩|⟨x,t,rfl,rfl⟩
  ·rcases oF hb with⟨j,u,rfl,e⟩|⟨y,u,rfl,e⟩
   ·injection e with e1 _;rw[e1]
   ·exact nomatch e
  ·rcases oF hb with⟨j,u,rfl,e⟩|⟨y,u,rfl,e⟩
   ·exact nomatch e
   ·injection e with e1 _;rw[e1]
 byValue:=λk v h=>by rcases oF h with⟨i,t,rfl,rfl⟩|⟨x,t,rfl,rfl⟩<;>rfl
 pyHash:=λhv h=>by
  rcases oF hv with⟨i,t,rfl,rfl⟩|⟨x,t,rfl,rfl⟩
  ·exact wpAny_pyHash_int h
  ·exact wpAny_pyHash_str h
 eqBool:=λhu hv h=>by
  rcases oF hu with⟨i,t,rfl,rfl⟩|⟨x,t,rfl,rfl⟩
  ·rcases oF hv with⟨j,u,rfl,rfl⟩|⟨y,u,rfl,rfl⟩
   ·rw[VA]at h;exact yj h
   ·rw[VC]at h;exact SeqAt.EqAt.int_str i t y u _ _ _ _ h
  ·rcases oF hv with⟨j,u,rfl,rfl⟩|⟨y,u,rfl,rfl⟩
   ·rw[VD]at h;exact SeqAt.EqAt.str_int x t j u _ _ _ _ h
   ·rw[VB]at h;exact wpAny_eqBool_str h
 «strs»:=λk x t v h=>by
  rcases oF h with⟨i,u,rfl,e⟩|⟨y,u,rfl,e⟩
  ·exact nomatch e
  ·injection e with e1 _;subst e1
   cases v<;>rfl
inductive V where
 |non|bl (b:Bool)|int (i:Int)|str (x:Str)|byt (b:Array UInt8)|flt (b:UInt64)|ref (a:ai)|ty (n:String)
 deriving DecidableEq
def RelV:V->af->Prop
 |.non,u=>u=kj
 |.bl b,u=>u=uz b
 |.int i,u=>∃t,u=mw i t
 |.str x,u=>∃t,u=Value.str x t
 |.byt b,u=>∃t,u=Value.bytes b t
 |.flt b,u=>∃t,u=Value.float b t
 |.ref a,u=>u=iq a
 |.ty n,u=>u=vc n
abbrev Bf:List V->List af->Prop:=Paired RelV
theorem Bf.length{xs:List V}{us:List af}(r:Bf xs us):xs.length=us.length:=Paired.length r
theorem Bf.get:∀{xs:List V}{us:List af}{i:Nat}{x:V},Bf xs us->xs[i]?=some x->∃u,us[i]?=some u/\RelV x u
 |_,_,_,_,.nil,e=>by simp at e
 |_,_,0,_,.cons r _,e=>by simp at e;subst e;exact⟨_,rfl,r⟩
 |_,_,i+1,x,.cons _ t,e=>by obtain⟨u,h1,h2⟩:=Bf.get (i:=i) (x:=x) t (by simpa using e);exact⟨u,by simpa using h1,h2⟩
theorem Bf.set{x:V}{u:af}(r:RelV x u):∀{xs:List V}{us:List af}(i:Nat),Bf xs us->Bf (xs.set i x) (us.set i u)
 |_,_,_,.nil=>.nil
 |_,_,0,.cons _ t=>.cons r t
 |_,_,i+1,.cons q t=>.cons q (Bf.set r i t)
theorem Bf.append:∀{xs ys:List V}{us ws:List af},Bf xs us->Bf ys ws->Bf (xs++ys) (us++ws)
 |_,_,_,_,.nil,s=>s
 |_,_,_,_,.cons r t,s=>.cons r (Bf.append t s)
theorem Bf.take:∀{xs:List V}{us:List af}(n:Nat),Bf xs us->Bf (xs.take n) (us.take n)
 |_,_,0,_=>.nil
 |_,_,_+1,.nil=>.nil
 |_,_,n+1,.cons r t=>.cons r (Bf.take n t)
theorem Bf.drop:∀{xs:List V}{us:List af}(n:Nat),Bf xs us->Bf (xs.drop n) (us.drop n)
 |_,_,0,r=>r
 |_,_,_+1,.nil=>.nil
 |_,_,n+1,.cons _ t=>Bf.drop n t
def JS:Option V->Option af->Prop
 |some v,some u=>RelV v u
 |none,none=>True
 |_,_=>False
def KV{κ:Type}:List (κ×V)->List (κ×af)->Prop:=Paired λ(p:κ×V)(q:κ×af)=>p.1=q.1/\RelV p.2 q.2
def kV:iP->V
 |.inl i=>.int i
 |.inr x=>.str x
inductive HO where
 |lst (xs:List V)
 |tup (xs:List V)
 |dK (kvs:List (iP×V))|dT (kvs:List (List iP×V))
 |set (S:Int->Bool) (n:Nat)
 |ins (C dx:ai) (fs:List (Str×V))
 |own (x:ai)
 |xd (fs:List (Str×V))
 |met (f x:ai)
 |rng (lo hi:Int)
 |frz (o:Obj) (u:HO)
 |tbl (ps:Array af)
 |ext (φ:cy->Prop)
abbrev Hp:=ai->Option HO
def bI(H:Hp)(a:ai)(o:HO):Hp:=λb=>if b=a then some o else H b
theorem eR{H:Hp}{a:ai}{o:HO}:bI H a o a=some o:=by unfold bI;rw[if_pos rfl]
theorem cU{H:Hp}{a b:ai}{o:HO}(h:b≠a):bI H a o b=H b:=by unfold bI;rw[if_neg h]
theorem oG{H:Hp}{a b:ai}{o u:HO}(h:H a=some o)(h':H b=some u)(d:o≠u):a≠b:=by intro e;subst e;rw[h]at h';exact d (de h')
theorem gH{H:Hp}{a b:ai}{o:HO}(h:H a=some o)(h':H b=none):a≠b:=by intro e;subst e;rw[h]at h';cases h'
def Cb(h:cy)(a:ai)(items:Array af):Prop:=∃o,h.get? a=some o/\o.cls=.type "tuple"/\o.dict=none/\∃n,o.data=.seq items n
theorem Cb.tup{h:cy}{a:ai}{items:Array af}(x:Cb h a items):zj h a items:=let ⟨o,e,c,_,d⟩:=x;⟨o,e,c,d⟩
theorem Cb.lt{h:cy}{a:ai}{items:Array af}(x:Cb h a items):a<h.objs.size:=let ⟨_,e,_⟩:=x;ay e
theorem Cb.new(h:cy)(items:Array af):Cb (h.push {cls:=.type "tuple",data:=.seq items}) h.objs.size items:=⟨_,az _ rfl,rfl,rfl,_,rfl⟩
section
variable(P:bj) (w:cn)
def Bk(H:Hp)(h:cy)(a:ai):HO->Prop
 |.lst xs=>xs.length<=cg/\∃(its:List af)(n:Nat),Bf xs its/\h.get? a=some {cls:=.type "list",data:=.seq its.toArray n}
 |.tup xs=>xs.length<=cg/\∃its:List af,Bf xs its/\Cb h a its.toArray
 |.dK kvs=>kvs.length<=cg/\(a==sysModules)=false/\∃vs,KV kvs vs/\h.DictOf (DE P w) a vs
 |.dT kvs=>kvs.length<=cg/\(a==sysModules)=false/\∃xs:List (List iP×ai×af),
   Paired (λ(p:List iP×V)(q:List iP×ai×af)=>p.1=q.1/\H q.2.1=some (.tup (p.1.map kV))/\RelV p.2 q.2.2) kvs xs/\
   ∃o es ep,h.get? a=some o/\o.ExactDict/\o.data=.dict es ep/\es.toList=xs.map (entryOfKey (tupleKind (DE P w)))/\(xs.map (·.1)).Nodup
 |.set S n=>h.SetOf (intKind P w) a S n
 |.ins C dx fs=>H dx=some (.own a)/\fs.length<=1000/\dx≠a/\h.get? a=some (PySem.W.instObj C dx)/\
   ∃mA,h.Ns1 dx mA/\(∀f,JS (fs.lookup f) (mA f))/\PySem.Within mA (fs.map (·.1))
 |.own _=>∃o,h.get? a=some o
 |.xd fs=>∃mA,h.Ns1 a mA/\∀f,JS (fs.lookup f) (mA f)
 |.rng lo hi=>∃t u v,h.get? a=some {cls:=.type "range",data:=.fields #[.int lo t,.int hi u,.int 1 v]}
 |.frz o u=>h.get? a=some o/\Bk H h a u
 |.tbl ps=>h.get? a=some {cls:=.none,data:=.fields ps}
 |.met f x=>h.get? a=some (ve (.ref f) (.ref x))
 |.ext φ=>φ h/\(∃o,h.get? a=some o)/\∀h1 h2:cy,φ h1->(∀o,h1.get? a=some o->h2.get? a=some o)->φ h2
def Cq(H:Hp)(h:cy):Prop:=∀a o,H a=some o->Bk P w H h a o
end
section
variable{P:bj}{w:cn}{H H':Hp}{h h':cy}{a:ai}{o:HO}
theorem Bk.lt(x:Bk P w H h a o):a<h.objs.size:=by
 cases o with
 |lst xs=>obtain⟨_,_,_,_,e⟩:=x;exact ay e
 |tup xs=>obtain⟨_,_,_,p⟩:=x;exact p.lt
 |dK kvs=>obtain⟨_,_,_,_,o,_,_,e,_⟩:=x;exact ay e
 |dT kvs=>obtain⟨_,_,_,_,o,_,_,e,_⟩:=x;exact ay e
 |set S n=>obtain⟨o,_,_,_,e,_⟩:=x;exact ay e
 |ins C dx fs=>obtain⟨_,_,_,e,_⟩:=x;exact ay e
 |own y=>obtain⟨_,e⟩:=x;exact ay e
 |xd fs=>obtain⟨_,⟨_,_,_,e,_⟩,_⟩:=x;exact ay e
 |rng lo hi=>obtain⟨_,_,_,e⟩:=x;exact ay e
 |frz ob u=>obtain⟨e,_⟩:=x;exact ay e
 |tbl ps=>exact ay (show h.get? a=some _ from x)
 |met f y=>exact ay (show h.get? a=some _ from x)
 |ext φ=>obtain⟨_,⟨_,e⟩,_⟩:=x;exact ay e
theorem Paired.mapP{α β:Type}{F G:α->β->Prop}:∀{l₁:List α}{l₂:List β},Paired F l₁ l₂->(∀a b,F a b->G a b)->Paired G l₁ l₂
 |_,_,.nil,_=>.nil
 |_,_,.cons r t,f=>.cons (f _ _ r) (Paired.mapP t f)
theorem Bk.stay(x:Bk P w H h a o)(k:∀b u,(b=a∨H b=some (.own a))->h.get? b=some u->h'.get? b=some u)(ho:∀b,H b=some (.own a)->H' b=some (.own a))(ht:∀b xs,H b=some (.tup xs)->H' b=some (.tup xs)):Bk P w H' h' a o:=by
 induction o with
 |lst xs=>obtain⟨z,its,n,r,e⟩:=x;exact⟨z,its,n,r,k _ _ (.inl rfl) e⟩
 |tup xs=>obtain⟨z,its,r,ob,e,c⟩:=x;exact⟨z,its,r,ob,k _ _ (.inl rfl) e,c⟩
 |dK kvs=>obtain⟨z,y,vs,r,ob,es,ep,e,c⟩:=x;exact⟨z,y,vs,r,ob,es,ep,k _ _ (.inl rfl) e,c⟩
 |dT kvs=>obtain⟨z,y,xs,r,ob,es,ep,e,c⟩:=x;exact⟨z,y,xs,Paired.mapP r λp q z=>⟨z.1,ht _ _ z.2.1,z.2.2⟩,ob,es,ep,k _ _ (.inl rfl) e,c⟩
 |set S n=>obtain⟨ob,es,ep,t,e,c⟩:=x;exact⟨ob,es,ep,t,k _ _ (.inl rfl) e,c⟩
 |ins C dx fs=>obtain⟨d,z,ne,e,mA,⟨od,es,ep,e2,c⟩,r⟩:=x;exact⟨ho _ d,z,ne,k _ _ (.inl rfl) e,mA,⟨od,es,ep,k _ _ (.inr d) e2,c⟩,r⟩
 |own y=>obtain⟨ob,e⟩:=x;exact⟨ob,k _ _ (.inl rfl) e⟩
 |xd fs=>obtain⟨mA,⟨od,es,ep,e,c⟩,r⟩:=x;exact⟨mA,⟨od,es,ep,k _ _ (.inl rfl) e,c⟩,r⟩
 |rng lo hi=>obtain⟨t,u,v,e⟩:=x;exact⟨t,u,v,k _ _ (.inl rfl) e⟩
 |frz ob u ih=>obtain⟨e,q⟩:=x;exact⟨k _ _ (.inl rfl) e,ih q⟩
 |tbl ps=>have e:h.get? a=some {cls:=.none,data:=.fields ps}:=x;show h'.get? a=some {cls:=.none,data:=.fields ps};exact k a _ (.inl rfl) e
 |met f y=>have e:h.get? a=some (ve (.ref f) (.ref y)):=x;show h'.get? a=some (ve (.ref f) (.ref y));exact k a _ (.inl rfl) e
 |ext φ=>obtain⟨p,⟨o,e⟩,st⟩:=x;exact⟨st _ _ p λo q=>k _ _ (.inl rfl) q,⟨o,k _ _ (.inl rfl) e⟩,st⟩
theorem Cq.lt(x:Cq P w H h)(e:H a=some o):a<h.objs.size:=(x a o e).lt
theorem Cq.fresh(x:Cq P w H h)(e:h.objs.size<=a):H a=none:=by
 cases q:H a with
 |none=>rfl
 |some u=>exact absurd (bo (x.lt q) e) (iz _)
theorem Cq.kept(x:Cq P w H h)(k:∀b u,h.get? b=some u->h'.get? b=some u):Cq P w H h':=λa o e=>(x a o e).stay (λb u _ q=>k b u q) (λ_ q=>q) λ_ _ q=>q
theorem Cq.laid(x:Cq P w H h)(k:∀b u,h.get? b=some u->h'.get? b=some u)(hp:h.objs.size<=a)(new:Bk P w (bI H a o) h' a o):Cq P w (bI H a o) h':=λb u e=>by
 have hn:=x.fresh hp
 by_cases hb:b=a
 ·subst hb;rw[eR]at e;cases e;exact new
 ·rw[cU hb]at e;exact(x b u e).stay (λc v _ q=>k c v q) (λc q=>by rw[cU (gH q hn)];exact q) λc xs q=>by rw[cU (gH q hn)];exact q
end
def Rd(H:Hp)(a:ai)(u:HO):Prop:=H a=some u∨∃o,H a=some (.frz o u)
theorem Rd.ok{P:bj}{w:cn}{H:Hp}{h:cy}{a:ai}{u:HO}(r:Rd H a u)(x:Cq P w H h):Bk P w H h a u:=by
 rcases r with r|⟨o,r⟩
 ·exact x a u r
 ·obtain⟨_,q⟩:=x a _ r;exact q
def yM:Option HO->Prop
 |some (.lst _)=>True
 |some (.dK _)=>True
 |some (.dT _)=>True
 |some (.set _ _)=>True
 |some (.ins _ _ _)=>True
 |some (.ext _)=>True
 |_=>False
section
variable{P:bj}{w:cn}{H:Hp}{h h':cy}{x e:ai}{o':HO}
theorem Cq.write(ok:Cq P w H h)(mu:yM (H x))(he:e=x∨H e=some (.own x))(k:∀b u,b≠e->h.get? b=some u->h'.get? b=some u)(heo:∃u,h'.get? e=some u)(new:Bk P w (bI H x o') h' x o'):Cq P w (bI H x o') h':=λb u q=>by
 have nown:∀c y,H c=some (.own y)->c≠x:=λc y r z=>by subst z;rw[r]at mu;exact mu
 have ntup:∀c xs,H c=some (.tup xs)->c≠x:=λc xs r z=>by subst z;rw[r]at mu;exact mu
 by_cases hb:b=x
 ·subst hb;rw[eR]at q;cases q;exact new
 ·rw[cU hb]at q
  by_cases hbe:b=e
  ·have q':H b=some (.own x):=by
    rcases he with z|z
    ·exact absurd (hbe.trans z) hb
    ·rw[hbe];exact z
   rw[q]at q';cases q';obtain⟨v,hv⟩:=heo;exact⟨v,by rw[hbe];exact hv⟩
  ·refine(ok b u q).stay (λc v hc r=>k c v ?_ r) (λc r=>by rw[cU (nown c b r)];exact r) λc xs r=>by rw[cU (ntup c xs r)];exact r
   rcases hc with rfl|hc
   ·exact hbe
   ·rintro rfl
    rcases he with z|z
    ·exact nown c b hc z
    ·rw[hc]at z;cases z;exact hb rfl
end
structure Un(fs ex:List ai)(H H':Hp)(h h':cy):Prop where
 keep:∀b o,h.get? b=some o->H b=none->b∉fs->b∉ex->h'.get? b=some o
 slot:∀b o,h.get? b=some o->H b=none->b∈fs->b∉ex->∃sl,h'.get? b=some {o with slots:=sl}
 free:∀b o,h.get? b=some o->H b=none->b∉ex->H' b=none
 there:∀b o,h.get? b=some o->b∉ex->∃o',h'.get? b=some o'
 tups:∀b xs,H b=some (.tup xs)->H' b=some (.tup xs)
 frzs:∀b o u,H b=some (.frz o u)->H' b=some (.frz o u)
 tbls:∀b ps,H b=some (.tbl ps)->∃more,H' b=some (.tbl (ps++more))
section
variable{fs fs' ex ex':List ai}{H H1 H2:Hp}{h h1 h2 h':cy}{a x e:ai}{o:HO}
theorem Un.any(u:Un fs ex H H1 h h1){b:ai}{ob:Obj}(q:h.get? b=some ob)(n:H b=none)(hx:b∉ex):∃sl,h1.get? b=some {ob with slots:=sl}:=by
 by_cases hb:b∈fs
 ·exact u.slot b ob q n hb hx
 ·exact⟨ob.slots,u.keep b ob q n hb hx⟩
theorem Un.kept(k:∀b u,h.get? b=some u->h'.get? b=some u):Un fs ex H H h h':=⟨λb ob q _ _ _=>k b ob q,λb ob q _ _ _=>⟨ob.slots,k b ob q⟩,λ_ _ _ n _=>n,λb ob q _=>⟨ob,k b ob q⟩,λ_ _ q=>q,λ_ _ _ q=>q,λ_ ps q=>⟨#[],by rw[q];simp⟩⟩
theorem Un.refl:Un fs ex H H h h:=Un.kept λ_ _ q=>q
theorem Un.laid(k:∀b u,h.get? b=some u->h'.get? b=some u)(hp:h.objs.size<=a)(hn:H a=none):Un fs ex H (bI H a o) h h' where
 keep:=λb u q _ _ _=>k b u q
 slot:=λb u q _ _ _=>⟨u.slots,k b u q⟩
 free:=λb u q n _=>by rw[cU (bc (bo (ay q) hp))];exact n
 there:=λb u q _=>⟨u,k b u q⟩
 tups:=λb xs q=>by rw[cU (gH q hn)];exact q
 frzs:=λb u xs q=>by rw[cU (gH q hn)];exact q
 tbls:=λb ps q=>⟨#[],by rw[cU (gH q hn),q];simp⟩
theorem Un.write(mu:yM (H x))(he:e=x∨H e=some (.own x))(k:∀b u,b≠e->h.get? b=some u->h'.get? b=some u)(heo:∃u,h'.get? e=some u):Un fs ex H (bI H x o) h h':=by
 have hx:∀b,H b=none->b≠x:=λb n z=>by subst z;rw[n]at mu;exact mu
 have hb:∀b,H b=none->b≠e:=λb n z=>by
  subst z
  rcases he with r|r
  ·exact hx b n r
  ·rw[n]at r;cases r
 have hm:∀b u,H b=some u->¬yM (some u)->b≠x:=λb u q nm z=>by subst z;rw[q]at mu;exact nm mu
 refine⟨λb u q n _ _=>k b u (hb b n) q,λb u q n _ _=>⟨u.slots,k b u (hb b n) q⟩,λb u q n _=>by rw[cU (hx b n)];exact n,λb u q _=>?_,
  λb xs q=>by rw[cU (hm b _ q λz=>z)];exact q,λb u xs q=>by rw[cU (hm b _ q λz=>z)];exact q,λb ps q=>⟨#[],by rw[cU (hm b _ q λz=>z),q];simp⟩⟩
 by_cases hbe:b=e
 ·subst hbe;exact heo
 ·exact⟨u,k b u hbe q⟩
end
def yN(h:cy)(H:Hp):List ai:=(ak h.objs.size).filter λa=>(H a).isSome
def lP(h:cy)(H:Hp):cy:=PySem.W.hideAll h (yN h H)
theorem VE(h:cy)(H:Hp):(lP h H).objs.size=h.objs.size:=PySem.W.hideAll_size _ _
theorem VF{h:cy}{H:Hp}{b:ai}{o:Obj}(e:h.get? b=some o)(n:H b=none):(lP h H).get? b=some o:=PySem.W.hideAll_get _ e λhm=>by have q:(H b).isSome=true:=(gi.mp hm).2;rw[n]at q;simp at q
theorem VG{h:cy}{H:Hp}{b:ai}{o:Obj}(e:(lP h H).get? b=some o):h.get? b=some o/\H b=none:=by
 have e':h.get? b=some o:=PySem.W.of_hideAll (yN h H) e;refine⟨e',?_⟩
 cases q:H b with
 |none=>rfl
 |some x=>have hm:b∈yN h H:=gi.mpr ⟨bg.mpr (ay e'),by simp[q]⟩;have z:(lP h H).get? b=none:=PySem.W.hideAll_none (yN h H) hm;rw[z]at e;cases e
structure Mod(K:au)(mg:Str->Option af)(base:cy):Prop where
 kin:K.In base
 glob:base.Ns dz mg
 blt:∃mb,base.Ns builtinsNs mb/\∀x:Str,x≠"__name__"->mb x=di x
 nolimit:base.NoLimit
structure Cx where
 prog:bj
 w:cn
 K:au
 mg:Str->Option af
 base:cy
 A:cq
 N:Ax
 s₀:ag
 H₀:Hp
 env:Env
 outer:List Env
 stack:List Env
 ex:List ai
 fn:Str->Bool
 calm:Bool
 pn:List (ai×Obj)
 xe:af->ag->Prop
def fR(l:List Env):List ai:=l.filterMap (·.frame)
abbrev Cx.fs(X:Cx):List ai:=fR X.outer
def sN(sc:gf)(x:Str):Prop:=sc.names.lookup x=some .local∨sc.names.lookup x=some .cell∨sc.names.lookup x=some .free
def pM(sc:gf)(x:Str):Prop:=sc.names.lookup x=some .local∨sc.names.lookup x=some .cell
def VH(env:Env)(h:cy)(m:Str->Option af)(x:Str)(u:af):Prop:=(env.kindOf x=some .local/\m x=some u)∨((env.kindOf x=some .cell∨env.kindOf x=some .free)/\∃c,env.cells.lookup x=some c/\h.IsCell c (some u))
structure Cx.Ok(X:Cx):Prop where
 mod:Mod X.K X.mg X.base
 kind:X.env.scope.kind=.function
 glob:X.env.globals=dz
 blt:X.env.builtins=builtinsNs
 above:X.s₀.heap.objs.size<=X.env.locals
 inj:∀x y c,X.env.cells.lookup x=some c->X.env.cells.lookup y=some c->x=y
 has:∀x,(X.env.kindOf x=some .cell∨X.env.kindOf x=some .free)->∃c,X.env.cells.lookup x=some c
 cab:∀x c,X.fn x=true->X.env.cells.lookup x=some c->X.s₀.heap.objs.size<=c
 hd:X.calm=true->X.A.handled=none
 frames:X.A.frames=some X.stack
 stk:X.stack=X.outer∨(X.stack=X.env::X.outer/\X.env.frame=some X.env.locals)
 exf:∀b∈X.ex,b≠X.env.locals/\∀x c,X.env.cells.lookup x=some c->c≠b
 bs:∀b o,X.base.get? b=some o->X.s₀.heap.get? b=some o/\X.H₀ b=none
 bsz:X.base.objs.size<=X.s₀.heap.objs.size
 noex:∀b o,X.base.get? b=some o->b∉X.ex
 exfs:∀b∈X.ex,b∉X.fs
 funs:X.s₀.heap.FunFrames X.base X.outer
 frf:∀b∈X.fs,X.H₀ b=none
structure Inv(X:Cx)(pins:List (ai×Obj))(σ:List (Option V))(H:Hp)(s:ag):Prop where
 ok:X.Ok
 os:s.os=X.s₀.os
 bare:sv s.gens
 base:Un X.fs X.ex X.H₀ H X.s₀.heap s.heap
 loc:∃m,s.heap.Ns X.env.locals m/\∀(i:Nat)(x:Str)(v:V),X.N[i]?=some x->σ[i]?=some (some v)->sN X.env.scope x->∃u,RelV v u/\VH X.env s.heap m x u
 cell:∀x c,X.env.cells.lookup x=some c->∃v,s.heap.IsCell c v
 free:H X.env.locals=none
 freeC:∀x c,X.env.cells.lookup x=some c->H c=none
 pin:∀p∈X.pn++pins,s.heap.get? p.1=some p.2/\H p.1=none/\p.1≠X.env.locals/\p.1∉X.fs/\∀v,p.2.data≠.cell v
 hok:Cq X.prog X.w H s.heap
 len:σ.length=X.N.length
section
variable{X:Cx}{pins:List (ai×Obj)}{σ:List (Option V)}{H H':Hp}{s:ag}{h':cy}
theorem Cx.Ok.nofr(ok:X.Ok){b:ai}{o:Obj}(e:X.base.get? b=some o):b∉X.fs:=λhb=>by have:=(ok.funs.mem hb).1;rw[e]at this;cases this
theorem Inv.bs(I:Inv X pins σ H s):∀b o,X.base.get? b=some o->s.heap.get? b=some o/\H b=none:=λb o e=>⟨I.base.keep b o (I.ok.bs b o e).1 (I.ok.bs b o e).2 (I.ok.nofr e) (I.ok.noex b o e),I.base.free b o (I.ok.bs b o e).1 (I.ok.bs b o e).2 (I.ok.noex b o e)⟩
theorem Inv.bk(I:Inv X pins σ H s):∀b o,X.base.get? b=some o->s.heap.get? b=some o:=λb o e=>(I.bs b o e).1
theorem Inv.mod(I:Inv X pins σ H s):Mod X.K X.mg X.base:=I.ok.mod
theorem Inv.kIn(I:Inv X pins σ H s):X.K.In s.heap:=I.ok.mod.kin.keeps I.bk
theorem Inv.lt(I:Inv X pins σ H s):X.env.locals<s.heap.objs.size:=let ⟨_,hn,_⟩:=I.loc;hn.lt
theorem Inv.sz(I:Inv X pins σ H s):X.s₀.heap.objs.size<=s.heap.objs.size:=dh I.ok.above (ji I.lt)
theorem Inv.nofs(I:Inv X pins σ H s){a:ai}(h:s.heap.objs.size<=a):a∉X.fs:=λhb=>by obtain⟨_,o,ho,_⟩:=I.ok.funs.mem hb;exact absurd (bo (ay ho) (dh I.sz h)) (iz _)
theorem Inv.cne(I:Inv X pins σ H s):∀x c,X.env.cells.lookup x=some c->c≠X.env.locals:=λx c e z=>by obtain⟨v,o,ho,hd⟩:=I.cell x c e;obtain⟨m,⟨o',es,ep,En,Ft,_⟩,_⟩:=I.loc;rw[z,En]at ho;cases ho;rw[Ft]at hd;cases hd
theorem Inv.funs(I:Inv X pins σ H s):s.heap.FunFrames X.base X.outer:=by
 have all:∀(l:List Env),(∀b∈fR l,b∈X.fs)->X.s₀.heap.FunFrames X.base l->s.heap.FunFrames X.base l:=by
  intro l
  induction l with
  |nil=>intro _ _;trivial
  |cons env r ih=>intro hs hl;obtain⟨hk,⟨L,o,hf,hn,ho,hd⟩,hr⟩:=hl;have hL:L∈X.fs:=hs L (by unfold fR;rw[cw,hf];exact bf);obtain⟨sl,e⟩:=I.base.slot L o ho (I.ok.frf L hL) hL λz=>I.ok.exfs L z hL;exact⟨hk,⟨L,_,hf,hn,e,hd⟩,ih (λb hb=>hs b (by unfold fR;rw[cw,hf];exact av _ hb)) hr⟩
 exact all X.outer (λ_ hb=>hb) I.ok.funs
theorem Inv.stack(I:Inv X pins σ H s):s.heap.FunFrames X.base X.stack:=by
 rcases I.ok.stk with e|⟨e,hf⟩
 ·rw[e];exact I.funs
 ·rw[e];obtain⟨m,hn,_⟩:=I.loc;refine .cons (by rw[I.ok.kind];decide) hf hn ?_ I.funs;exact Heap.get?_none_of_le (dh I.ok.bsz I.ok.above)
theorem Inv.stkSub(I:Inv X pins σ H s):∀b∈fR X.stack,b∈X.env.locals::X.fs:=λb hb=>by
 rcases I.ok.stk with e|⟨e,hf⟩
 ·rw[e]at hb;exact av _ hb
 ·rw[e]at hb;unfold fR at hb;rw[cw,hf]at hb;exact hb
theorem Inv.stkFree(I:Inv X pins σ H s):∀b∈fR X.stack,H b=none:=λb hb=>by
 rcases aw.mp (I.stkSub b hb)with e|hb
 ·rw[e];exact I.free
 ·obtain⟨_,o,ho,_⟩:=I.ok.funs.mem hb;exact I.base.free b o ho (I.ok.frf b hb) λz=>I.ok.exfs b z hb
theorem Inv.step{g':Array GenState}{t':Nat}{d':Drawn}{ch:List ai}(I:Inv X pins σ H s)(Fe:∀b∈ch,(b∈X.ex∨X.s₀.heap.objs.size<=b)/\b≠X.env.locals/\(∀x c,X.env.cells.lookup x=some c->c≠b)/\∀p∈X.pn++pins,p.1≠b)(keep:∀b o,b≠X.env.locals->b∉X.fs->b∉ch->s.heap.get? b=some o->H b=none->h'.get? b=some o)(slot:∀b o,b≠X.env.locals->b∈X.fs->b∉ch->s.heap.get? b=some o->H b=none->∃sl,h'.get? b=some {o with slots:=sl})(free:∀b o,b∉ch->s.heap.get? b=some o->H b=none->H' b=none)(there:∀b o,b∉ch->s.heap.get? b=some o->∃o',h'.get? b=some o')(tups:∀b xs,H b=some (.tup xs)->H' b=some (.tup xs))(frzs:∀b o u,H b=some (.frz o u)->H' b=some (.frz o u))(tbls:∀b ps,H b=some (.tbl ps)->∃more,H' b=some (.tbl (ps++more)))(ns:∀m,s.heap.Ns X.env.locals m->h'.Ns X.env.locals m)(hok:Cq X.prog X.w H' h')(hg:sv g'):
  Inv X pins σ H' {s with heap:=h',gens:=g',drawn:=d',toks:=t'}:=by
 have neL:∀b o,X.s₀.heap.get? b=some o->b≠X.env.locals:=λb o e=>bc (bo (ay e) I.ok.above);have neC:∀b o,X.s₀.heap.get? b=some o->b∉X.ex->b∉ch:=λb o e hx hb=>by
  rcases(Fe b hb).1 with z|z
  ·exact hx z
  ·exact absurd (bo (ay e) z) (iz _)
 have cellK:∀x c,X.env.cells.lookup x=some c->∀v,s.heap.IsCell c v->h'.IsCell c v:=λx c e v⟨o,ho,hd⟩=>by
  have nch:c∉ch:=λz=>(Fe c z).2.2.1 x c e rfl
  by_cases hc:c∈X.fs
  ·obtain⟨sl,q⟩:=slot c o (I.cne x c e) hc nch ho (I.freeC x c e);exact⟨_,q,hd⟩
  ·exact⟨o,keep c o (I.cne x c e) hc nch ho (I.freeC x c e),hd⟩
 refine⟨I.ok,I.os,hg,⟨λb o e n hb hx=>?_,λb o e n hb hx=>?_,λb o e n hx=>?_,λb o e hx=>?_,λb xs e=>tups b xs (I.base.tups b xs e),λb o xs e=>frzs b o xs (I.base.frzs b o xs e),λb ps e=>?_⟩,?_,λx c e=>?_,?_,λx c e=>?_,λp hp=>?_,hok,I.len⟩
 ·exact keep b o (neL b o e) hb (neC b o e hx) (I.base.keep b o e n hb hx) (I.base.free b o e n hx)
 ·obtain⟨sl,e1⟩:=I.base.slot b o e n hb hx;obtain⟨sl',e2⟩:=slot b _ (neL b o e) hb (neC b o e hx) e1 (I.base.free b o e n hx);exact⟨sl',e2⟩
 ·obtain⟨o',e1⟩:=I.base.there b o e hx;exact free b o' (neC b o e hx) e1 (I.base.free b o e n hx)
 ·obtain⟨o',e1⟩:=I.base.there b o e hx;exact there b o' (neC b o e hx) e1
 ·obtain⟨m1,e1⟩:=I.base.tbls b ps e;obtain⟨m2,e2⟩:=tbls b _ e1;exact⟨m1++m2,by rw[e2,Array.append_assoc]⟩
 ·obtain⟨m,hn,hl⟩:=I.loc;refine⟨m,ns m hn,λi x v e1 e2 e3=>?_⟩;obtain⟨u,r,l⟩:=hl i x v e1 e2 e3;refine⟨u,r,?_⟩
  rcases l with l|⟨k,c,e,z⟩
  ·exact .inl l
  ·exact .inr ⟨k,c,e,cellK x c e _ z⟩
 ·obtain⟨v,z⟩:=I.cell x c e;exact⟨v,cellK x c e v z⟩
 ·obtain⟨m,⟨o,_,_,ho,_⟩,_⟩:=I.loc;exact free _ o (λz=>(Fe _ z).2.1 rfl) ho I.free
 ·obtain⟨v,o,ho,hd⟩:=I.cell x c e;exact free c o (λz=>(Fe c z).2.2.1 x c e rfl) ho (I.freeC x c e)
 ·obtain⟨e,n,ne,nf,d⟩:=I.pin p hp;have nch:p.1∉ch:=λz=>(Fe p.1 z).2.2.2 p hp rfl;exact⟨keep p.1 p.2 ne nf nch e n,free p.1 p.2 nch e n,ne,nf,d⟩
theorem Inv.un{t':Nat}(I:Inv X pins σ H s)(u:Un X.fs [] H H' s.heap h')(hok:Cq X.prog X.w H' h'):Inv X pins σ H' {s with heap:=h',toks:=t'}:=by obtain⟨m,⟨o,es,ep,ho,r⟩,_⟩:=id I.loc;obtain⟨sl,hL⟩:=u.any ho I.free (by simp);exact I.step (g':=s.gens) (d':=s.drawn) (ch:=[]) (λ_ z=>nomatch z) (λb o _ hb _ e n=>u.keep b o e n hb (by simp)) (λb o _ hb _ e n=>u.slot b o e n hb (by simp)) (λb o _ e n=>u.free b o e n (by simp)) (λb o _ e=>u.there b o e (by simp)) u.tups u.frzs u.tbls (λm' hm=>by obtain⟨o',es',ep',En,r'⟩:=hm;rw[ho]at En;cases En;exact⟨_,es',ep',hL,r'⟩) hok I.bare
theorem Inv.call{g':Array GenState}{t':Nat}{d':Drawn}{ch:List ai}(I:Inv X pins σ H s)(u:Un (fR X.stack) ch H H' s.heap h')(hok:Cq X.prog X.w H' h')(hg:sv g')(Fe:∀b∈ch,(b∈X.ex∨X.s₀.heap.objs.size<=b)/\b≠X.env.locals/\(∀x c,X.env.cells.lookup x=some c->c≠b)/\∀p∈X.pn++pins,p.1≠b):
  Inv X pins σ H' {s with heap:=h',gens:=g',drawn:=d',toks:=t'}:=by
 obtain⟨m,⟨o,es,ep,ho,r⟩,_⟩:=id I.loc;obtain⟨sl,hL⟩:=u.any ho I.free λz=>(Fe _ z).2.1 rfl;exact I.step (ch:=ch) Fe (λb o hL hb hc e n=>u.keep b o e n (λz=>(aw.mp (I.stkSub b z)).elim hL hb) hc) (λb o _ _ hc e n=>u.any e n hc) (λb o hc e n=>u.free b o e n hc) (λb o hc e=>u.there b o e hc) u.tups u.frzs u.tbls (λm' hm=>by obtain⟨o',es',ep',En,r'⟩:=hm;rw[ho]at En;cases En;exact⟨_,es',ep',hL,r'⟩) hok hg
theorem Inv.turned{t':Nat}{it:ai}(I:Inv X pins σ H s)(k:∀b o,b≠it->s.heap.get? b=some o->h'.get? b=some o)(hn:H it=none)(hL:it≠X.env.locals)(h1:it∈X.ex∨X.s₀.heap.objs.size<=it)(h2:∀x c,X.env.cells.lookup x=some c->c≠it)(h3:∀p∈X.pn++pins,p.1≠it):Inv X pins σ H {s with heap:=h',toks:=t'}:=by
 have nit:∀b u,H b=some u->b≠it:=λb u e z=>by rw[z,hn]at e;cases e
 refine I.step (g':=s.gens) (d':=s.drawn) (ch:=[it]) (λb hb=>?_) (λb o _ _ hc e _=>k b o (λz=>hc (by simp[z])) e) (λb o _ _ hc e _=>⟨o.slots,k b o (λz=>hc (by simp[z])) e⟩) (λ_ _ _ _ n=>n)
  (λb o hc e=>⟨o,k b o (λz=>hc (by simp[z])) e⟩) (λ_ _ e=>e) (λ_ _ _ e=>e) (λb ps e=>⟨#[],by rw[e];simp⟩) (λm hm=>?_) (λb u e=>?_) I.bare
 ·have e:b=it:=by simpa using hb
  subst e;exact⟨h1,hL,h2,h3⟩
 ·obtain⟨o,es,ep,ho,r⟩:=hm;exact⟨o,es,ep,k _ o (dk hL) ho,r⟩
 ·refine(I.hok b u e).stay (λc v hc q=>k c v ?_ q) (λ_ q=>q) λ_ _ q=>q
  rcases hc with z|z
  ·rw[z];exact nit b u e
  ·exact nit c _ z
theorem Inv.tok(I:Inv X pins σ H s)(t:Nat):Inv X pins σ H {s with toks:=t}:=I.un (h':=s.heap) (t':=t) Un.refl I.hok
theorem Inv.kept{t':Nat}(I:Inv X pins σ H s)(k:∀b u,s.heap.get? b=some u->h'.get? b=some u):Inv X pins σ H {s with heap:=h',toks:=t'}:=I.un (Un.kept k) (I.hok.kept k)
theorem Inv.laid{a:ai}{o:HO}{t':Nat}(I:Inv X pins σ H s)(k:∀b u,s.heap.get? b=some u->h'.get? b=some u)(hp:s.heap.objs.size<=a)(new:Bk X.prog X.w (bI H a o) h' a o):
  Inv X pins σ (bI H a o) {s with heap:=h',toks:=t'}:=I.un (Un.laid k hp (I.hok.fresh hp)) (I.hok.laid k hp new)
theorem Inv.write{x e:ai}{o:HO}{t':Nat}(I:Inv X pins σ H s)(mu:yM (H x))(he:e=x∨H e=some (.own x))(k:∀b u,b≠e->s.heap.get? b=some u->h'.get? b=some u)(heo:∃u,h'.get? e=some u)(new:Bk X.prog X.w (bI H x o) h' x o):Inv X pins σ (bI H x o) {s with heap:=h',toks:=t'}:=I.un (Un.write mu he k heo) (I.hok.write mu he k heo new)
theorem Inv.pins_of{pins':List (ai×Obj)}(I:Inv X pins σ H s)(h:∀p∈pins',s.heap.get? p.1=some p.2/\H p.1=none/\p.1≠X.env.locals/\p.1∉X.fs/\∀v,p.2.data≠.cell v):Inv X pins' σ H s:=⟨I.ok,I.os,I.bare,I.base,I.loc,I.cell,I.free,I.freeC,λp hp=>(cz.mp hp).elim (λz=>I.pin p (gb _ z)) (h p),I.hok,I.len⟩
theorem JT{N:Ax}(hN:N.Nodup){i j:Nat}{x:Str}(a:N[i]?=some x)(b:N[j]?=some x):i=j:=by obtain⟨h1,e1⟩:=bw.mp a;obtain⟨h2,e2⟩:=bw.mp b;exact(List.getElem_inj hN).mp (e1.trans e2.symm)
theorem JU{M:xo}{A:cq}{E:af->ag->Prop}{i:Nat}{x:Str}{v:V}{u:af}{Q:Unit->ag->Prop}(I:Inv X pins σ H s)(hN:X.N.Nodup)(hi:X.N[i]?=some x)(hx:pM X.env.scope x)(r:RelV v u)(h:∀s',Inv X pins (σ.set i (some v)) H s'->(∃a,ja a s.heap s'.heap/\(a=X.env.locals∨X.env.cells.lookup x=some a))->Q () s')(hf:X.fn x=true∨X.env.scope.names.lookup x=some .local:=by first|exact .inl rfl|exact .inr rfl|assumption):wpAny M A (storeName X.env x u) Q E s:=by
 obtain⟨m,hn,hl⟩:=id I.loc;have hcls:(X.env.scope.kind==.class||(X.env.scope.kind==.module&&X.env.locals !=X.env.globals))=false:=by rw[I.ok.kind];rfl
 have hiσ:i<σ.length:=by rw[I.len];exact(bw.mp hi).1
 have cne:=I.cne;have tracked:∀{a:ai}{h':cy},(∃o,s.heap.get? a=some o/\H a=none)->ja a s.heap h'->Cq X.prog X.w H h':=λ{a h'}ha hs b ob e=>by
  obtain⟨_,_,hfree⟩:=ha;refine(I.hok b ob e).stay (λc w' hc q=>(hs.2 c ?_).trans q) (λ_ q=>q) λ_ _ q=>q
  rintro rfl
  rcases hc with rfl|hc
  ·rw[hfree]at e;cases e
  ·rw[hfree]at hc;cases hc
 rcases hx with hk|hk
 ·refine wpAny_storeName_local hk hn (λh' hn' hs=>?_) hcls;obtain⟨oL,_,_,hoL,_⟩:=id hn;refine h _ ⟨I.ok,I.os,I.bare,⟨λb o e n hb hx=>?_,λb o e n hb hx=>?_,I.base.free,λb o e hx=>?_,I.base.tups,I.base.frzs,I.base.tbls⟩,⟨_,hn',λj y v' e1 e2 e3=>?_⟩,λy c e=>?_,I.free,I.freeC,λp hp=>?_,tracked ⟨oL,hoL,I.free⟩ hs,by simpa using I.len⟩ ⟨_,hs,.inl rfl⟩
  ·exact(hs.2 b (bc (bo (ay e) I.ok.above))).trans (I.base.keep b o e n hb hx)
  ·obtain⟨sl,e1⟩:=I.base.slot b o e n hb hx;exact⟨sl,(hs.2 b (bc (bo (ay e) I.ok.above))).trans e1⟩
  ·obtain⟨o',e1⟩:=I.base.there b o e hx;exact⟨o',(hs.2 b (bc (bo (ay e) I.ok.above))).trans e1⟩
  ·by_cases hj:j=i
   ·subst hj;rw[hi]at e1;cases e1;rw[jg hiσ]at e2;cases e2;exact⟨u,r,.inl ⟨hk,by simp⟩⟩
   ·rw[jd (dk hj)]at e2;obtain⟨u',r',q⟩:=hl j y v' e1 e2 e3;refine⟨u',r',?_⟩
    rcases q with⟨k,e⟩|⟨k,c,e,z⟩
    ·refine .inl ⟨k,?_⟩;have:y≠x:=λe=>hj (JT hN e1 (e▸hi));simp[this,e]
    ·exact .inr ⟨k,c,e,z.sameBut hs (cne y c e)⟩
  ·obtain⟨w',z⟩:=I.cell y c e;exact⟨w',z.sameBut hs (cne y c e)⟩
  ·obtain⟨e,n,ne,nf,d⟩:=I.pin p hp;exact⟨(hs.2 p.1 ne).trans e,n,ne,nf,d⟩
 ·have hfn:X.fn x=true:=by
   rcases hf with z|z
   ·exact z
   ·rw[z]at hk;cases hk
  obtain⟨c,hc⟩:=I.ok.has x (.inl hk);obtain⟨w',z⟩:=I.cell x c hc;refine wpAny_storeName_cell I.ok.kind hk hc z (λh' hc' hs=>?_);obtain⟨oc,hoc,hocd⟩:=id z;refine h {s with heap:=h'} ⟨I.ok,I.os,I.bare,⟨λb o e n hb hx=>?_,λb o e n hb hx=>?_,I.base.free,λb o e hx=>?_,I.base.tups,I.base.frzs,I.base.tbls⟩,⟨m,hn.sameBut hs (dk (cne x c hc)),λj y v' e1 e2 e3=>?_⟩,λy c' e=>?_,I.free,I.freeC,λp hp=>?_,tracked ⟨oc,hoc,I.freeC x c hc⟩ hs,by simpa using I.len⟩ ⟨c,hs,.inr hc⟩
  ·exact(hs.2 b (bc (bo (ay e) (I.ok.cab x c hfn hc)))).trans (I.base.keep b o e n hb hx)
  ·obtain⟨sl,e1⟩:=I.base.slot b o e n hb hx;exact⟨sl,(hs.2 b (bc (bo (ay e) (I.ok.cab x c hfn hc)))).trans e1⟩
  ·obtain⟨o',e1⟩:=I.base.there b o e hx;exact⟨o',(hs.2 b (bc (bo (ay e) (I.ok.cab x c hfn hc)))).trans e1⟩
  ·by_cases hj:j=i
   ·subst hj;rw[hi]at e1;cases e1;rw[jg hiσ]at e2;cases e2;exact⟨u,r,.inr ⟨.inl hk,c,hc,hc'⟩⟩
   ·rw[jd (dk hj)]at e2;obtain⟨u',r',q⟩:=hl j y v' e1 e2 e3;refine⟨u',r',?_⟩
    rcases q with q|⟨k,c',e,z'⟩
    ·exact .inl q
    ·refine .inr ⟨k,c',e,z'.sameBut hs ?_⟩
     rintro rfl
     exact hj (JT hN e1 (I.ok.inj _ _ _ e hc▸hi))
  ·by_cases hcc:c'=c
   ·subst hcc;exact⟨_,hc'⟩
   ·obtain⟨w2,z2⟩:=I.cell y c' e;exact⟨w2,z2.sameBut hs hcc⟩
  ·obtain⟨e,n,ne,nf,d⟩:=I.pin p hp;refine⟨(hs.2 p.1 ?_).trans e,n,ne,nf,d⟩;intro q;rw[q,hoc]at e;have q':oc=p.2:=de e;exact d w' (by rw[<-q'];exact hocd)
theorem yO{M:xo}{A:cq}{E:af->ag->Prop}{i:Nat}{x:Str}{v:V}{u:af}{Q:Unit->ag->Prop}(I:Inv X pins σ H s)(hN:X.N.Nodup)(hi:X.N[i]?=some x)(hx:pM X.env.scope x)(r:RelV v u)(h:∀s',Inv X pins (σ.set i (some v)) H s'->Q () s')(hf:X.fn x=true∨X.env.scope.names.lookup x=some .local:=by first|exact .inl rfl|exact .inr rfl|assumption):wpAny M A (storeName X.env x u) Q E s:=
 JU I hN hi hx r (λs' I' _=>h s' I') hf
theorem Inv.call'{s':ag}{ch:List ai}(I:Inv X pins σ H s)(ho:s'.os=s.os)(u:Un (fR X.stack) ch H H' s.heap s'.heap)(hok:Cq X.prog X.w H' s'.heap)(hg:sv s'.gens)(Fe:∀b∈ch,(b∈X.ex∨X.s₀.heap.objs.size<=b)/\b≠X.env.locals/\(∀x c,X.env.cells.lookup x=some c->c≠b)/\∀p∈X.pn++pins,p.1≠b):Inv X pins σ H' s':=by
 obtain⟨h',g',d',t',o'⟩:=s';have e:o'=s.os:=ho;subst e;exact I.call (g':=g') (t':=t') (d':=d') u hok hg Fe
end
abbrev XK:=af->Option ai->Hp->Prop
abbrev St:=List (Option V)
abbrev VK:=V->Hp->Prop
abbrev TE:=St->Hp->VK->Prop
abbrev TT:=St->Hp->(Bool->Hp->Prop)->Prop
abbrev TA:=St->Hp->(List V->Hp->Prop)->Prop
structure Ends where
 nx:St->Hp->Prop
 rt:VK
 bk:St->Hp->Prop:=λ_ _=>False
 ct:St->Hp->Prop:=λ_ _=>False
abbrev TS:=Ends->St->Hp->Prop
inductive EP(X:Cx)(pins:List (ai×Obj))(σ:St)(Q:VK)(u:af)(s':ag):Prop
 |mk (v:_) (H':_) (h0:Inv X pins σ H' s') (h1:RelV v u) (h2:Q v H'):EP X pins σ Q u s'
def TP(X:Cx)(pins:List (ai×Obj))(σ:St)(Q:Bool->Hp->Prop)(b:Bool)(s':ag):Prop:=∃H',Inv X pins σ H' s'/\Q b H'
inductive AP(X:Cx)(pins:List (ai×Obj))(σ:St)(Q:List V->Hp->Prop)(us:List af)(s':ag):Prop
 |mk (vs:_) (H':_) (h0:Inv X pins σ H' s') (h1:Bf vs us) (h2:Q vs H'):AP X pins σ Q us s'
def SP(X:Cx)(pins:List (ai×Obj))(D:Ends)(f:Flow)(s':ag):Prop:=
 match f with
 |.next=>∃σ' H',Inv X pins σ' H' s'/\D.nx σ' H'
 |.brk=>∃σ' H',Inv X pins σ' H' s'/\D.bk σ' H'
 |.cont=>∃σ' H',Inv X pins σ' H' s'/\D.ct σ' H'
 |.ret u=>∃v σ' H',Inv X pins σ' H' s'/\RelV v u/\D.rt v H'
def PE(X:Cx)(e:bq)(t:TE):Prop:=∀(pins:List (ai×Obj))(s:ag)(σ:St)(H:Hp)(Q:VK),Inv X pins σ H s->t σ H Q->wpAny (model X.prog X.w) X.A (eval e X.env) (EP X pins σ Q) X.xe s
def PT(X:Cx)(e:bq)(t:TT):Prop:=∀(pins:List (ai×Obj))(s:ag)(σ:St)(H:Hp)(Q:Bool->Hp->Prop),Inv X pins σ H s->t σ H Q->wpAny (model X.prog X.w) X.A (isTrue e X.env (eval e X.env)) (TP X pins σ Q) X.xe s
def PW(X:Cx)(e:bq)(t:TT):Prop:=∀(whole:Sem af)(pins:List (ai×Obj))(s:ag)(σ:St)(H:Hp)(Q:Bool->Hp->Prop),Inv X pins σ H s->t σ H Q->wpAny (model X.prog X.w) X.A (isTrue e X.env whole) (TP X pins σ Q) X.xe s
theorem PW.pt{X:Cx}{e:bq}{t:TT}(h:PW X e t):PT X e t:=h _
def PA(X:Cx)(es:List bq)(t:TA):Prop:=∀(pos:Pos)(pins:List (ai×Obj))(s:ag)(σ:St)(H:Hp)(Q:List V->Hp->Prop),Inv X pins σ H s->t σ H Q->wpAny (model X.prog X.w) X.A (spliced (backTo pos (ar es X.env))) (AP X pins σ Q) X.xe s
def PS(X:Cx)(st:fv)(t:TS):Prop:=∀(pins:List (ai×Obj))(s:ag)(σ:St)(H:Hp)(D:Ends),Inv X pins σ H s->t D σ H->wpAny (model X.prog X.w) X.A (exec st X.env) (SP X pins D) X.xe s
def Fw(X:Cx)(st:List fv)(t:TS):Prop:=∀(pins:List (ai×Obj))(s:ag)(σ:St)(H:Hp)(D:Ends),Inv X pins σ H s->t D σ H->wpAny (model X.prog X.w) X.A (execs st X.env) (SP X pins D) X.xe s
theorem bF{α:Type}{t:Sem α}{Q Q':α->ag->Prop}{M:xo}{A:cq}{E:af->ag->Prop}{s:ag}(h:wpAny M A t Q E s)(hQ:∀a s,Q a s->Q' a s):wpAny M A t Q' E s:=rq h hQ λ_ _ x=>x
section
variable{X:Cx}
def JV(i:Nat):TE:=λσ H Q=>∃v,σ[i]?=some (some v)/\Q v H
def tC(v:V):TE:=λ_ H Q=>Q v H
theorem DF{i:Nat}{x:Str}{pos:Pos}(hN:X.N[i]?=some x)(hv:sN X.env.scope x)(hd:(x==Gw)=false:=by decide)(hcd:(x==("__classdict__":Str))=false:=by decide):PE X (.Name x pos) (JV i):=by
 intro pins s σ H Q I h;obtain⟨v,e,h⟩:=h;obtain⟨m,hn,hl⟩:=I.loc;obtain⟨u,r,l⟩:=hl i x v hN e hv;have fin:EP X pins σ Q u s:=⟨v,H,I,r,h⟩
 rcases l with⟨hk,hm⟩|⟨hk,c,hc,hcell⟩
 ·exact wpAny_Name (wpAny_loadName_local I.ok.kind hk hn hm fin) hd
 ·rcases hk with hk|hk
  ·exact wpAny_Name (wpAny_loadName_cell I.ok.kind hk hc hcell fin) hd
  ·exact wpAny_Name (wpAny_loadName_free I.ok.kind hk hc hcell fin hcd) hd
theorem JW{i j pos}:PE X (.Constant (.int i) j pos) (tC (.int i)):=λ_ _ _ H _ I h=>wpAny_Constant_int ⟨.int i,H,I.tok _,⟨_,rfl⟩,h⟩
theorem VI{b j pos}:PE X (.Constant (.bool b) j pos) (tC (.bl b)):=λ_ _ _ H _ I h=>Constant_bool ⟨.bl b,H,I,rfl,h⟩
theorem VJ{j pos}:PE X (.Constant .none j pos) (tC .non):=λ_ _ _ H _ I h=>Constant_none ⟨.non,H,I,rfl,h⟩
theorem JX{x j pos}:PE X (.Constant (.str x) j pos) (tC (.str x)):=λ_ _ _ H _ I h=>Calls.Constant_str ⟨.str x,H,I.tok _,⟨_,rfl⟩,h⟩
def Gl(X:Cx)(x:Str):Prop:=X.env.kindOf x=some .globalImplicit
theorem DG{E:af->ag->Prop}{pins:List (ai×Obj)}{s:ag}{σ:St}{H:Hp}{x:Str}{u:af}{pos:Pos}{Q:af->ag->Prop}(I:Inv X pins σ H s)(hg:Gl X x)(hm:X.mg x=some u)(h:Q u s)(hd:(x==Gw)=false:=by decide):wpAny (model X.prog X.w) X.A (eval (.Name x pos) X.env) Q E s:=
 xp I.ok.kind hg (Calls.loadGlobal_global (by rw[I.ok.glob];exact I.mod.glob.keeps I.bk) hm h) hd
theorem oH{E:af->ag->Prop}{pins:List (ai×Obj)}{s:ag}{σ:St}{H:Hp}{x:Str}{u:af}{pos:Pos}{Q:af->ag->Prop}(I:Inv X pins σ H s)(hg:Gl X x)(hm:X.mg x=none)(hv:di x=some u)(h:Q u s)(hn:x≠"__name__":=by decide)(hd:(x==Gw)=false:=by decide):wpAny (model X.prog X.w) X.A (eval (.Name x pos) X.env) Q E s:=by
 obtain⟨mb,h1,h2⟩:=I.mod.blt;exact xp I.ok.kind hg (Calls.loadGlobal_builtin (by rw[I.ok.glob];exact I.mod.glob.keeps I.bk) hm (by rw[I.ok.blt];exact h1.keeps I.bk) ((h2 x hn).trans hv) h) hd
theorem VL{x:Str}{v:V}{u:af}{pos:Pos}(hg:Gl X x)(hm:X.mg x=some u)(r:RelV v u)(hd:(x==Gw)=false:=by decide):PE X (.Name x pos) (tC v):=λ_ _ _ H _ I h=>DG I hg hm ⟨v,H,I,r,h⟩ hd
variable{a b:bq}{ta tb:TE}{pos:Pos}
variable{tA tB':TT}{rest:List bq}
def JY(t u:TT):TT:=λσ H Q=>t σ H λc H1=>if c=true then u σ H1 Q else Q false H1
def JZ(t u:TT):TT:=λσ H Q=>t σ H λc H1=>if c=true then Q true H1 else u σ H1 Q
def VM(t:TT):TT:=λσ H Q=>t σ H λc H1=>Q (!c) H1
theorem VN(ha:PT X a tA):PW X (.BoolOp .And [a] pos) tA:=by
 intro wh pins s σ H Q I h;refine isTrue_and (bF (ha pins s σ H Q I h) λc s1 e=>?_)
 cases c with
 |true=>exact isTrue_and_nil e
 |false=>exact e
theorem VO(ha:PT X a tA):PW X (.BoolOp .Or [a] pos) tA:=by
 intro wh pins s σ H Q I h;refine isTrue_or (bF (ha pins s σ H Q I h) λc s1 e=>?_)
 cases c with
 |false=>exact isTrue_or_nil e
 |true=>exact e
theorem VP(ha:PT X a tA)(hb:PW X (.BoolOp .And (b::rest) pos) tB'):PW X (.BoolOp .And (a::b::rest) pos) (JY tA tB'):=by
 intro wh pins s σ H Q I h;refine isTrue_and (bF (ha pins s σ H _ I h) λc s1⟨H1,I1,q1⟩=>?_)
 cases c with
 |true=>exact hb wh pins s1 σ H1 Q I1 q1
 |false=>exact⟨H1,I1,q1⟩
theorem VQ(ha:PT X a tA)(hb:PW X (.BoolOp .Or (b::rest) pos) tB'):PW X (.BoolOp .Or (a::b::rest) pos) (JZ tA tB'):=by
 intro wh pins s σ H Q I h;refine isTrue_or (bF (ha pins s σ H _ I h) λc s1⟨H1,I1,q1⟩=>?_)
 cases c with
 |true=>exact⟨H1,I1,q1⟩
 |false=>exact hb wh pins s1 σ H1 Q I1 q1
theorem VR(ha:PT X a tA):PT X (.UnaryOp .Not a pos) (VM tA):=by intro pins s σ H Q I h;exact isTrue_not (ha pins s σ H (λc H1=>Q (!c) H1) I h)
def VS(ta tb:TE):TE:=λσ H Q=>ta σ H λx H1=>∃c,x=.bl c/\if c=true then tb σ H1 Q else Q (.bl false) H1
def VT(ta:TE):TE:=λσ H Q=>ta σ H λx H1=>∃c,x=.bl c/\Q (.bl (!c)) H1
theorem VU{op}{t:TE}(h:PE X a t):PE X (.BoolOp op [a] pos) t:=λpins s σ H Q I hw=>BoolOp_one (h pins s σ H Q I hw)
theorem VV(ha:PE X a ta)(hb:PE X (.BoolOp .And (b::rest) pos) tb):PE X (.BoolOp .And (a::b::rest) pos) (VS ta tb):=by
 intro pins s σ H Q I h;refine BoolOp_and (bF (ha pins s σ H _ I h) λv s1⟨x,H1,I1,r1,q1⟩=>?_);obtain⟨c,rfl,q1⟩:=q1;cases r1;refine jn ?_
 cases c with
 |true=>exact hb pins s1 σ H1 Q I1 q1
 |false=>exact⟨.bl false,H1,I1,rfl,q1⟩
theorem VW(ha:PE X a ta):PE X (.UnaryOp .Not a pos) (VT ta):=by intro pins s σ H Q I h;refine UnaryOp_ (bF (ha pins s σ H _ I h) λv s1⟨x,H1,I1,r1,q1⟩=>?_);obtain⟨c,rfl,q1⟩:=q1;cases r1;exact not_of (jn ⟨.bl (!c),H1,I1,rfl,q1⟩)
end
def By(K:au)(H:Hp)(a:ai)(xs:List V):Prop:=
 Rd H a (.lst xs) ∨
  ∃(o:Obj)(its:Array af)(n:Nat),K.lookup a=some o/\o.cls=.type "list"/\o.dict=none/\o.data=.seq its n/\its.size<=cg/\Bf xs its.toList
def Bu(K:au)(H:Hp)(a:ai)(xs:List V):Prop:=
 Rd H a (.tup xs) ∨
  ∃(o:Obj)(its:Array af)(n:Nat),K.lookup a=some o/\o.cls=.type "tuple"/\o.data=.seq its n/\its.size<=cg/\Bf xs its.toList
def VX:af->Option V
 |.none=>some .non
 |.bool b=>some (.bl b)
 |.int i _=>some (.int i)
 |.str x _=>some (.str x)
 |.bytes b _=>some (.byt b)
 |.float b _=>some (.flt b)
 |.ref a=>some (.ref a)
 |.type n=>some (.ty n)
 |_=>none
theorem RelV.abs{x:V}{u:af}(r:RelV x u):VX u=some x:=by
 cases x with
 |non=>cases r;rfl
 |bl _=>cases r;rfl
 |int _=>obtain⟨t,rfl⟩:=r;rfl
 |str _=>obtain⟨t,rfl⟩:=r;rfl
 |byt _=>obtain⟨t,rfl⟩:=r;rfl
 |flt _=>obtain⟨t,rfl⟩:=r;rfl
 |ref _=>cases r;rfl
 |ty _=>cases r;rfl
theorem RelV.inj{x y:V}{u:af}(r:RelV x u)(q:RelV y u):x=y:=de (r.abs.symm.trans q.abs)
theorem Bf.inj:∀{xs ys:List V}{us:List af},Bf xs us->Bf ys us->xs=ys
 |_,_,_,.nil,.nil=>rfl
 |_,_,_,.cons r t,.cons r' t'=>by rw[r.inj r',Bf.inj t t']
section
variable{X:Cx}{pins:List (ai×Obj)}{σ:St}{H:Hp}{s:ag}{a:ai}{xs ys:List V}
theorem By.of{K:au}(h:H a=some (.lst xs)):By K H a xs:=.inl (.inl h)
theorem Bu.of{K:au}(h:H a=some (.tup xs)):Bu K H a xs:=.inl (.inl h)
theorem Inv.list(I:Inv X pins σ H s)(h:By X.K H a xs):∃its:List af,Bf xs its/\PlainL s.heap a its.toArray/\xs.length<=cg:=by
 rcases h with h|⟨o,its,n,hk,hc,hd,hs,hz,r⟩
 ·obtain⟨z,its,n,r,e⟩:=h.ok I.hok;exact⟨its,r,⟨_,n,e,rfl,rfl,rfl⟩,z⟩
 ·refine⟨its.toList,r,⟨o,n,I.kIn a o hk,hc,hd,by simpa using hs⟩,?_⟩;have e:=r.length;simp only[ku]at e
  lia
theorem Inv.tuple(I:Inv X pins σ H s)(h:Bu X.K H a xs):∃its:List af,Bf xs its/\zj s.heap a its.toArray/\xs.length<=cg:=by
 rcases h with h|⟨o,its,n,hk,hc,hs,hz,r⟩
 ·obtain⟨z,its,r,p⟩:=h.ok I.hok;exact⟨its,r,p.tup,z⟩
 ·refine⟨its.toList,r,⟨o,I.kIn a o hk,hc,n,by simpa using hs⟩,?_⟩;have e:=r.length;simp only[ku]at e
  lia
theorem Inv.list_inj(I:Inv X pins σ H s)(h:By X.K H a xs)(h':By X.K H a ys):xs=ys:=by
 obtain⟨its,r,⟨o,n,e,_,_,d⟩,_⟩:=I.list h;obtain⟨its',r',⟨o',n',e',_,_,d'⟩,_⟩:=I.list h';rw[e]at e';cases e';rw[d]at d';injection d' with d1 _;have:its=its':=by simpa using congrArg Array.toList d1
 subst this;exact r.inj r'
theorem Inv.tuple_inj(I:Inv X pins σ H s)(h:Bu X.K H a xs)(h':Bu X.K H a ys):xs=ys:=by
 obtain⟨its,r,⟨o,e,_,n,d⟩,_⟩:=I.tuple h;obtain⟨its',r',⟨o',e',_,n',d'⟩,_⟩:=I.tuple h';rw[e]at e';cases e';rw[d]at d';injection d' with d1 _;have:its=its':=by simpa using congrArg Array.toList d1
 subst this;exact r.inj r'
end
section
variable{X:Cx}{st:fv}{rest:List fv}{t u:TS}{e:bq}{te:TE}{pos:Pos}
def VY:TS:=λD σ H=>D.nx σ H
def VZ(t u:TS):TS:=λD σ H=>t {D with nx:=u D} σ H
theorem V0:Fw X [] VY:=λ_ _ σ H _ I h=>ux ⟨σ,H,I,h⟩
theorem V1(h1:PS X st t)(h2:Fw X rest u):Fw X (st::rest) (VZ t u):=by
 intro pins s σ H D I h;refine wpAny_execs_cons (bF (h1 pins s σ H {D with nx:=u D} I h) λf s1 q=>?_)
 cases f with
 |next=>obtain⟨σ',H',I',q⟩:=q;exact h2 pins s1 σ' H' D I' q
 |ret v=>exact q
 |brk=>exact q
 |cont=>exact q
theorem V2(h1:PS X st t):Fw X [st] t:=by
 intro pins s σ H D I h;refine wpAny_execs_cons (bF (h1 pins s σ H D I h) λf s1 q=>?_)
 cases f with
 |next=>exact ux q
 |ret v=>exact q
 |brk=>exact q
 |cont=>exact q
theorem Inv.quiet{pins:List (ai×Obj)}{σ:St}{H:Hp}{s:ag}(I:Inv X pins σ H s):interactive X.env=false:=by simp[interactive,I.ok.kind]
def V3(te:TE):TS:=λD σ H=>te σ H λ_ H1=>D.nx σ H1
theorem V4(he:PE X e te)(hs:swapsWith e none pos.line X.env=pure false:=by rfl):PS X (.Expr e pos) (V3 te):=by intro pins s σ H D I h;exact wpAny_Expr_any (bF (he pins s σ H _ I h) λv s1⟨x,H1,I1,r1,q1⟩=>⟨σ,H1,I1,q1⟩) I.quiet hs
def V6(te:TE):TS:=λD σ H=>te σ H D.rt
theorem V7(he:PE X e te):PS X (.Return (some e) pos) (V6 te):=by intro pins s σ H D I h;exact wpAny_Return_some (bF (he pins s σ H _ I h) λv s1⟨x,H1,I1,r1,q1⟩=>⟨x,σ,H1,I1,r1,q1⟩)
def V8(c:TT)(t u:TS):TS:=λD σ H=>c σ H λb H1=>if b=true then t D σ H1 else u D σ H1
theorem V9{c:bq}{a b:List fv}{tc:TT}(hc:PT X c tc)(ha:Fw X a t)(hb:Fw X b u):PS X (.If c a b pos) (V8 tc t u):=by
 intro pins s σ H D I h;refine wpAny_If (bF (hc pins s σ H _ I h) λd s1⟨H1,I1,q1⟩=>?_)
 cases d with
 |true=>exact ha pins s1 σ H1 D I1 q1
 |false=>exact hb pins s1 σ H1 D I1 q1
end
abbrev TG:=V->St->Hp->(St->Hp->Prop)->Prop
abbrev oI:=List V->St->Hp->(St->Hp->Prop)->Prop
def PG(X:Cx)(target:bq)(t:TG):Prop:=
 ∀(pins:List (ai×Obj))(s:ag)(σ:St)(H:Hp)(v:V)(u:af)(Q:St->Hp->Prop),Inv X pins σ H s->RelV v u->t v σ H Q->
  wpAny (model X.prog X.w) X.A (assign target X.env u) (λ_ s'=>∃σ' H',Inv X pins σ' H' s'/\Q σ' H') X.xe s
def PGs(X:Cx)(ts:List bq)(t:oI):Prop:=
 ∀(pins:List (ai×Obj))(s:ag)(σ:St)(H:Hp)(vs:List V)(us:List af)(Q:St->Hp->Prop),Inv X pins σ H s->Bf vs us->t vs σ H Q->
  wpAny (model X.prog X.w) X.A (assignInOrder ((assignEach ts X.env).map (·.2)) us) (λ_ s'=>∃σ' H',Inv X pins σ' H' s'/\Q σ' H') X.xe s
abbrev DH:=V->V->V->Hp->(Hp->Prop)->Prop
def J0(X:Cx)(t:DH):Prop:=
 ∀(pins:List (ai×Obj))(s:ag)(σ:St)(H:Hp)(o i v:V)(ov iv u:af)(Q:Hp->Prop),Inv X pins σ H s->RelV o ov->RelV i iv->RelV v u->t o i v H Q->
  wpAny (model X.prog X.w) X.A (setItem ov iv u) (λ_ s'=>∃H',Inv X pins σ H' s'/\Q H') X.xe s
section
variable{X:Cx}{pos:Pos}
def DI(i:Nat):TG:=λv σ H Q=>Q (σ.set i (some v)) H
theorem WA{i:Nat}{x:Str}(hN:X.N.Nodup)(hi:X.N[i]?=some x)(hx:pM X.env.scope x)(hf:X.fn x=true∨X.env.scope.names.lookup x=some .local:=by first|exact .inl rfl|exact .inr rfl|assumption):PG X (.Name x pos) (DI i):=by intro pins s σ H v u Q I r h;exact wpAny_assign_Name (yO I hN hi hx r (λs' I'=>⟨_,H,I',h⟩) hf)
def WB:oI:=λvs σ H Q=>vs=[]/\Q σ H
def WC(t:TG)(u:oI):oI:=λvs σ H Q=>∃v r,vs=v::r/\t v σ H λσ' H'=>u r σ' H' Q
theorem WD:PGs X [] WB:=by intro pins s σ H vs us Q I r h;obtain⟨e,h⟩:=h;subst e;cases r;exact assignInOrder_nil ⟨σ,H,I,h⟩
theorem WE{e:bq}{es:List bq}{t:TG}{u:oI}(h1:PG X e t)(h2:PGs X es u)(hs:(assignEach (e::es) X.env).map (·.2)=assign e X.env::(assignEach es X.env).map (·.2):=by rfl):PGs X (e::es) (WC t u):=by
 intro pins s σ H vs us Q I r h;obtain⟨v,vr,e1,h⟩:=h;subst e1
 cases r with
 |cons r rr=>rw[hs];refine wz (bF (h1 pins s σ H _ _ _ I r h) λ_ s1⟨σ1,H1,I1,q1⟩=>?_);exact h2 pins s1 σ1 H1 _ _ Q I1 rr q1
def WG(K:au)(n:Nat)(t:oI):TG:=λv σ H Q=>∃a xs,v=.ref a/\Bu K H a xs/\xs.length=n/\t xs σ H Q
theorem WH{es:List bq}{k:Nat}{t:oI}{n:Nat}(hc:X.calm=true)(h:PGs X es t)(hn:(assignEach es X.env).length=n:=by rfl)(hst:(assignEach es X.env).findIdx? (·.1)=none:=by rfl):PG X (.Tuple es k pos) (WG X.K n t):=by
 intro pins s σ H v u Q I r hw;obtain⟨a,xs,e1,hq,hl,hw⟩:=hw;subst e1;cases r;obtain⟨its,rv,ht,hz⟩:=I.tuple hq;refine assign_Tuple_tuple (I.ok.hd hc) ht (by simp[hn,<-hl,rv.length]) hst λh' hx=>?_;have I1:Inv X pins σ H {s with heap:=h'}:=I.kept (t':=s.toks) λb o e=>hx b o (bc (ay e)) e;exact h pins _ σ H xs _ Q I1 (by simpa using rv) hw
def WI(to ti:TE)(t:DH):TG:=λv σ H Q=>to σ H λo H1=>ti σ H1 λi H2=>t o i v H2 λH3=>Q σ H3
theorem WJ{o i:bq}{to ti:TE}{t:DH}(ho:PE X o to)(hi:PE X i ti)(hs:J0 X t)(ha:∀v,assign (.Subscript o i pos) X.env v=(do
   let ov <-holding [v] (eval o X.env)
   let iv <-holding [v,ov] (eval i X.env)
   standAt pos
   holding [v,ov,iv] (setItem ov iv v)
   release [v,ov,iv] []):=by intro _;rfl):PG X (.Subscript o i pos) (WI to ti t):=by
 intro pins s σ H v u Q I r h;rw[ha];refine ae (fe (bF (ho pins s σ H _ I h) λov s1⟨x,H1,I1,r1,q1⟩=>?_));refine ae (fe (bF (hi pins s1 σ H1 _ I1 q1) λiv s2⟨y,H2,I2,r2,q2⟩=>?_));refine ae (ql (ae (fe (bF (hs pins s2 σ H2 x y v ov iv u _ I2 r1 r2 r q2) λ_ s3⟨H3,I3,q3⟩=>?_))));exact wpAny_release ⟨σ,H3,I3,q3⟩
def yP(te:TE)(g:TG):TS:=λD σ H=>te σ H λx H1=>g x σ H1 D.nx
theorem J1{tg e:bq}{te:TE}{g:TG}(he:PE X e te)(hg:PG X tg g)(hs:swapsWithSole [tg] e pos.line X.env=pure false:=by rfl)(hw:swappedStores [tg] e X.env=pure none:=by rfl)(h1:(assignEach [tg] X.env).map (·.2)=[assign tg X.env]:=by rfl):PS X (.Assign [tg] e pos) (yP te g):=by
 intro pins s σ H D I h;refine wpAny_Assign_stores (bF (he pins s σ H _ I h) λv s1⟨x,H1,I1,r1,q1⟩=>?_) hs hw;rw[h1];exact bF (hg pins s1 σ H1 x v _ I1 r1 q1) λ_ s2 q=>q
theorem WK{i:Nat}{x:Str}{e:bq}{te:TE}{pos':Pos}(hN:X.N.Nodup)(hi:X.N[i]?=some x)(hx:pM X.env.scope x)(he:PE X e te)(hs:swapsWith e (some (.Name x pos')) pos.line X.env=pure false:=by rfl)(hf:X.fn x=true∨X.env.scope.names.lookup x=some .local:=by first|exact .inl rfl|exact .inr rfl|assumption):
  PS X (.Assign [.Name x pos'] e pos) (yP te (DI i)):=by
 intro pins s σ H D I h;refine wpAny_Assign_Name (bF (he pins s σ H _ I h) λv s1⟨y,H1,I1,r1,q1⟩=>?_) hs;exact yO I1 hN hi hx r1 (λs2 I2=>⟨_,H1,I2,q1⟩) hf
def WL(i j:Nat)(ta:TA):TS:=λD σ H=>ta σ H λvs H1=>∃v w,vs=[v,w]/\D.nx ((σ.set i (some v)).set j (some w)) H1
theorem WM{i j:Nat}{x y:Str}{a b:bq}{ta:TA}{px py pt:Pos}{kt k2 pt2}(hc:X.calm=true)(hN:X.N.Nodup)(hi:X.N[i]?=some x)(hj:X.N[j]?=some y)(Cw:i≠j)(hx:X.env.scope.names.lookup x=some .local)(hy:X.env.scope.names.lookup y=some .local)(ha:PA X [a,b] ta)(hw:swappedStores [.Tuple [.Name x px,.Name y py] kt pt] (.Tuple [a,b] k2 pt2) X.env=pure (some [x,y]))(hs:swapsWithSole [.Tuple [.Name x px,.Name y py] kt pt] (.Tuple [a,b] k2 pt2) pos.line X.env=pure false:=by rfl):
  PS X (.Assign [.Tuple [.Name x px,.Name y py] kt pt] (.Tuple [a,b] k2 pt2) pos) (WL i j ta):=by
 intro pins s σ H D I h;rw[exec_Assign_arm];refine ae (ql ?_);rw[hs];refine ae (aj ?_);rw[if_neg (by decide)];refine ae (Tuple_ (bF (ha _ pins s σ H _ I h) λus s1⟨vs,H1,I1,r1,q1⟩=>?_));obtain⟨v,w,e1,q1⟩:=q1;subst e1;obtain⟨u1,u2,rfl,rv,rw'⟩:∃u1 u2,us=[u1,u2]/\RelV v u1/\RelV w u2:=by
  cases r1 with
  |cons p q=>
   cases q with
   |cons p' q'=>cases q';exact⟨_,_,rfl,p,p'⟩
 refine fj ?_ (by show 2<=cg;decide);have I2:Inv X pins σ H1 {s1 with heap:=s1.heap.push {cls:=.type "tuple",data:=.seq [u1,u2].toArray} }:=I1.kept (t':=s1.toks) λb o e=>ao _ e;rw[hw];refine ae (aj ?_);show wpAny (model X.prog X.w) X.A (do rule "assign.swapped-stores"; let items <-unpackItems (.ref s1.heap.objs.size) 2 none;assignInOrder [λv=>bindName X.env y v,λv=>bindName X.env x v] items.reverse;pure Flow.next) _ _ _;refine ae (om (ae (unpackItems_tuple (items:=#[u1,u2]) (I.ok.hd hc) (IsTup.new s1.heap _) λh' Ez=>?_)));have I3:=I2.kept (h':=h') (t':=s1.toks) λb o e=>Ez b o (bc (ay e)) e;show wpAny _ _ (assignInOrder [λv=>bindName X.env y v,λv=>bindName X.env x v] [u2,u1] >>=λ_=>pure Flow.next) _ _ _;refine ae (wz (wpAny_bindName (yO I3 hN hj (.inl hy) rw' (λs2 I4=>?_) (.inr hy))));refine wz (wpAny_bindName (yO I4 hN hi (.inl hx) rv (λs3 I5=>assignInOrder_nil (aj ?_)) (.inr hx)));rw[List.set_comm _ _ (dk Cw)]at I5;exact⟨_,H1,I5,q1⟩
end
section
variable{X:Cx}{pos:Pos}
def WN(c:TT)(tb:TS):TS:=λD σ H=>∃W:Nat->St->Hp->Prop,(∃m,W m σ H)/\∀m σ H,W m σ H->
 c σ H λb H1=>if b=true then ∃N:St->Hp->Prop,(∀σ' H',N σ' H'->∃m',m'<m/\W m' σ' H')/\tb {D with nx:=N,ct:=N,bk:=D.nx} σ H1 else D.nx σ H1
theorem WO{c:bq}{body:List fv}{tc:TT}{tb:TS}(hp:yk (model X.prog X.w) X.A X.env X.xe)(hc:PT X c tc)(hb:Fw X body tb):PS X (.While c body [] pos) (WN tc tb):=by
 intro pins s σ H D I h;obtain⟨W,⟨m0,w0⟩,turn⟩:=h;refine wpAny_While (codeAny_whileLoop (λn s'=>∃σ' H',Inv X pins σ' H' s'/\W n σ' H') ?_ m0 ⟨σ,H,I,w0⟩)
 rintro n s1 ⟨σ1,H1,I1,w1⟩
 refine mn hp (bF (hc pins s1 σ1 H1 _ I1 (turn n σ1 H1 w1)) λb s2⟨H2,I2,q2⟩=>?_)
 cases b with
 |true=>
  obtain⟨N,hN,q2⟩:=q2;rw[if_pos rfl];refine mn hp (bF (hb pins s2 σ1 H2 _ I2 q2) λf s3 q3=>?_)
  cases f with
  |next=>obtain⟨σ3,H3,I3,n3⟩:=q3;obtain⟨m',hm,w3⟩:=hN σ3 H3 n3;exact⟨m',hm,σ3,H3,I3,w3⟩
  |cont=>obtain⟨σ3,H3,I3,n3⟩:=q3;obtain⟨m',hm,w3⟩:=hN σ3 H3 n3;exact⟨m',hm,σ3,H3,I3,w3⟩
  |brk=>exact q3
  |ret v=>exact q3
 |false=>rw[if_neg ig];exact ux ⟨σ1,H2,I2,q2⟩
end
structure It where
 go:Nat->Hp->Prop
 yld:Nat->Hp->V->Hp->Prop
 stop:Nat->Hp->Prop
def eB(X:Cx)(pins:List (ai×Obj))(H:Hp)(b:ai):Prop:=H b=none/\b≠X.env.locals/\b∉X.fs/\(b∈X.ex∨X.s₀.heap.objs.size<=b)/\(∀x c,X.env.cells.lookup x=some c->c≠b)/\∀p∈X.pn++pins,p.1≠b
theorem Inv.fpOk{X:Cx}{pins:List (ai×Obj)}{σ:St}{H H':Hp}{s:ag}{b:ai}(I:Inv X pins σ H s)(hb:s.heap.objs.size<=b)(hn:H' b=none):eB X pins H' b:=by
 refine⟨hn,jj (bo I.lt hb),I.nofs hb,.inr (dh I.sz hb),λx c e z=>?_,λp hp z=>?_⟩
 ·obtain⟨v,q⟩:=I.cell x c e;exact absurd (bo q.lt (by rw[z];exact hb)) (iz _)
 ·exact absurd (bo (ay (I.pin p hp).1) (by rw[z];exact hb)) (iz _)
structure Turn(P:bj)(w:cn)(K:au)(tg:bq)(J:It)(fp:List ai)(it:ai)(tn:Nat->cy->Prop):Prop where
 mem:it∈fp
 obj:∀i h,tn i h->∀b∈fp,∃o,h.get? b=some o/\∀v,o.data≠.cell v
 keep:∀i h h',tn i h->(∀b∈fp,∀o,h.get? b=some o->h'.get? b=some o)->tn i h'
 item:∀(X:Cx),X.prog=P->X.w=w->X.K=K->X.calm=true->∀(i:Nat)(pins:List (ai×Obj))(s:ag)(σ:St)(H:Hp)(E:af->ag->Prop),Inv X pins σ H s->(∀b∈fp,eB X pins H b)->tn i s.heap->J.go i H->
  wpAny (model P w) X.A (pyNext (.ref it)) (λr s1=>∃u,r=some u/\
   wpAny (model P w) X.A (letOwnedTupleGo tg (.ref it) u) (λ_ s2=>∃x H',Inv X pins σ H' s2/\RelV x u/\J.yld i H x H'/\tn (i+1) s2.heap/\∀b∈fp,H' b=none) E s1) E s
 done:∀(X:Cx),X.prog=P->X.w=w->X.K=K->X.calm=true->∀(i:Nat)(pins:List (ai×Obj))(s:ag)(σ:St)(H:Hp)(E:af->ag->Prop),Inv X pins σ H s->(∀b∈fp,eB X pins H b)->tn i s.heap->J.stop i H->
  wpAny (model P w) X.A (pyNext (.ref it)) (λr s1=>r=none/\Inv X pins σ H s1) E s
 self:∀(A:cq)(i:Nat)(s:ag)(Q:af->ag->Prop)(E:af->ag->Prop),tn i s.heap->Q (.ref it) s->wpAny (model P w) A (pyIter (.ref it)) Q E s
abbrev TI:=St->Hp->(It->Hp->Prop)->Prop
inductive PIE(X:Cx)(pins:List (ai×Obj))(σ:St)(tg:bq)(R:It->Hp->Prop)(itv:af)(s2:ag):Prop
 |mk (it:ai) (fp:List ai) (tn:Nat->cy->Prop) (J:It) (H':Hp) (h0:itv=.ref it) (h1:Inv X pins σ H' s2) (h2:Turn X.prog X.w X.K tg J fp it tn) (h3:tn 0 s2.heap) (h4:(∀b∈fp,eB X pins H' b)) (h5:R J H'):PIE X pins σ tg R itv s2
def PI(X:Cx)(tg iter:bq)(wi:TI):Prop:=
 ∀(pins:List (ai×Obj))(s:ag)(σ:St)(H:Hp)(R:It->Hp->Prop),Inv X pins σ H s->wi σ H R->
  wpAny (model X.prog X.w) X.A (eval iter X.env) (λv s1=>wpAny (model X.prog X.w) X.A (pyIter v) (PIE X pins σ tg R) X.xe s1) X.xe s
theorem yQ{M:xo}{A:cq}{E:af->ag->Prop}{s:ag}{tg:bq}{it:ai}{u:af}{o:Obj}{n:String}{vs:Array af}{Q:Unit->ag->Prop}(ho:s.heap.get? it=some o)(hc:o.cls=.type n)(hd:o.data=.fields vs)(hn:["enumerate","zip","dict_itemiterator","dict_reverseitemiterator","odict_iterator","itertools.zip_longest","itertools.pairwise"].contains n=false)(hQ:Q () s):wpAny M A (letOwnedTupleGo tg (.ref it) u) Q E s:=by
 unfold letOwnedTupleGo
 cases tg<;>first
  |exact aj hQ
  |(cases u<;>first
    |exact aj hQ
    |(refine ae (wpAny_load ho ?_);rw[hc,hd];show wpAny M A (if(["enumerate","zip","dict_itemiterator","dict_reverseitemiterator","odict_iterator","itertools.zip_longest","itertools.pairwise"].contains n&&vs[0]?==some (rawInt _))=true then _ else _) Q E s;rw[if_neg (by intro h;rw[hn,Bool.false_and]at h;cases h)];exact aj hQ))
def J2(K:au)(a:ai):It:=⟨λi H=>∃xs x,By K H a xs/\xs[i]?=some x,λi H x H'=>H'=H/\∀xs,By K H a xs->xs[i]?=some x,λi H=>∃xs,By K H a xs/\xs.length<=i⟩
def DJ(K:au)(a:ai):It:=⟨λi H=>∃xs x,Bu K H a xs/\xs[i]?=some x,λi H x H'=>H'=H/\∀xs,Bu K H a xs->xs[i]?=some x,λi H=>∃xs,Bu K H a xs/\xs.length<=i⟩
def uT(lo:Int)(n:Nat):It:=⟨λi _=>i<n,λi H x H'=>H'=H/\x=.int (lo+i),λi _=>n<=i⟩
theorem WQ{P:bj}{w:cn}{K:au}{tg:bq}(a it:ai):Turn P w K tg (J2 K a) [it] it (λi h=>h.IsListIter it a i) where
 mem:=by simp
 obj:=λi h st b hb=>by
  have e:b=it:=by simpa using hb
  subst e;obtain⟨o,e,c,d⟩:=st;exact⟨o,e,λv z=>by rw[d]at z;cases z⟩
 keep:=λi h h' st k=>st.at λo e=>k it (by simp) o e
 item:=by intro X hP hw hK hc i pins s σ H E I hf st hg;subst hP hw hK;obtain⟨xs,x,hq,hx⟩:=hg;obtain⟨its,rv,p,hz⟩:=I.list hq;obtain⟨u,hu,ru⟩:=rv.get hx;obtain⟨f0,f1,f2,f3,f4,f5⟩:=hf it (by simp);refine wpAny_pyNext_list_item st p.isList (x:=u) (by simpa using hu) λh' Dd sb=>?_;have I1:Inv X pins σ H {s with heap:=h'}:=I.turned (t':=s.toks) (λb o hb e=>(sb.2 b hb).trans e) f0 f1 f3 f4 f5;obtain⟨o,e,c,d⟩:=id Dd;exact⟨u,rfl,yQ (s:={s with heap:=h'}) e c d (by decide) ⟨x,H,I1,ru,⟨rfl,λys hy=>by rw[I.list_inj hy hq];exact hx⟩,Dd,λb hb=>(hf b hb).1⟩⟩
 done:=by intro X hP hw hK hc i pins s σ H E I hf st hg;subst hP hw hK;obtain⟨xs,hq,hx⟩:=hg;obtain⟨its,rv,p,hz⟩:=I.list hq;obtain⟨f0,f1,f2,f3,f4,f5⟩:=hf it (by simp);have hl:=rv.length;exact wpAny_pyNext_list_end (I.ok.hd hc) st p.isList (by simp;lia) λh' eb=>⟨rfl,I.turned (t':=s.toks) (λb o hb e=>eb b o hb e) f0 f1 f3 f4 f5⟩
 self:=λ_ _ _ _ _ st h=>wpAny_pyIter_listiter st h
theorem WR{P:bj}{w:cn}{K:au}{tg:bq}(a it:ai):Turn P w K tg (DJ K a) [it] it (λi h=>h.IsTupleIter it a i) where
 mem:=by simp
 obj:=λi h st b hb=>by
  have e:b=it:=by simpa using hb
  subst e;obtain⟨o,e,c,d⟩:=st;exact⟨o,e,λv z=>by rw[d]at z;cases z⟩
 keep:=λi h h' st k=>st.at λo e=>k it (by simp) o e
 item:=by intro X hP hw hK hc i pins s σ H E I hf st hg;subst hP hw hK;obtain⟨xs,x,hq,hx⟩:=hg;obtain⟨its,rv,p,hz⟩:=I.tuple hq;obtain⟨u,hu,ru⟩:=rv.get hx;obtain⟨f0,f1,f2,f3,f4,f5⟩:=hf it (by simp);refine wpAny_pyNext_tuple_item st (show s.heap.IsTuple a its.toArray from p) (x:=u) (by simpa using hu) λh' Dd sb=>?_;have I1:Inv X pins σ H {s with heap:=h'}:=I.turned (t':=s.toks) (λb o hb e=>(sb.2 b hb).trans e) f0 f1 f3 f4 f5;obtain⟨o,e,c,d⟩:=id Dd;exact⟨u,rfl,yQ (s:={s with heap:=h'}) e c d (by decide) ⟨x,H,I1,ru,⟨rfl,λys hy=>by rw[I.tuple_inj hy hq];exact hx⟩,Dd,λb hb=>(hf b hb).1⟩⟩
 done:=by intro X hP hw hK hc i pins s σ H E I hf st hg;subst hP hw hK;obtain⟨xs,hq,hx⟩:=hg;obtain⟨its,rv,p,hz⟩:=I.tuple hq;obtain⟨f0,f1,f2,f3,f4,f5⟩:=hf it (by simp);have hl:=rv.length;exact wpAny_pyNext_tuple_end (I.ok.hd hc) st (show s.heap.IsTuple a its.toArray from p) (by simp;lia) λh' eb=>⟨rfl,I.turned (t':=s.toks) (λb o hb e=>eb b o hb e) f0 f1 f3 f4 f5⟩
 self:=λ_ _ _ _ _ st h=>wpAny_pyIter_tupleiter st h
theorem WS{P:bj}{w:cn}{K:au}{tg:bq}(it:ai)(lo:Int)(n:Nat):Turn P w K tg (uT lo n) [it] it (λi h=>yv h it (lo+(i:Nat)*1) ((n:Int)-(i:Nat)) 1) where
 mem:=by simp
 obj:=λi h st b hb=>by
  have e:b=it:=by simpa using hb
  subst e;exact⟨_,st,λv z=>by
   have z':Ac _=Data.cell v:=z
   cases z'⟩
 keep:=λi h h' st k=>k it (by simp) _ st
 item:=by intro X hP hw hK hc i pins s σ H E I hf st hg;subst hP hw hK;obtain⟨f0,f1,f2,f3,f4,f5⟩:=hf it (by simp);have W:=Walks.range (prog:=X.prog) (w:=X.w) (I.ok.hd hc) it lo 1 n;refine W.item i s _ _ hg st λv h' tk hv Dd kk=>?_;obtain⟨t,rfl⟩:=hv;have I1:Inv X pins σ H {s with heap:=h',toks:=tk}:=I.turned (λb o hb e=>kk b o (by simpa using hb) e) f0 f1 f3 f4 f5;refine⟨_,rfl,yQ (s:={s with heap:=h',toks:=tk}) (n:="range_iterator") Dd rfl rfl (by decide) ⟨.int (lo+i),H,I1,⟨t,?_⟩,⟨rfl,rfl⟩,Dd,λb hb=>(hf b hb).1⟩⟩;rw[Int.mul_one]
 done:=by intro X hP hw hK hc i pins s σ H E I hf st hg;subst hP hw hK;obtain⟨f0,f1,f2,f3,f4,f5⟩:=hf it (by simp);exact wpAny_pyNext_range_end (I.ok.hd hc) st (by have:n<=i:=hg;lia) λh' eb=>⟨rfl,I.turned (t':=s.toks) (λb o hb e=>eb b o hb e) f0 f1 f3 f4 f5⟩
 self:=λ_ _ _ _ _ st h=>wpAny_pyIter_rangeiter st h
section
variable{X:Cx}{tg:bq}
def WT(K:au)(tl:TE):TI:=λσ H R=>tl σ H λx H1=>∃a,x=.ref a/\(∃xs,By K H1 a xs)/\R (J2 K a) H1
def WU(K:au)(tl:TE):TI:=λσ H R=>tl σ H λx H1=>∃a,x=.ref a/\(∃xs,Bu K H1 a xs)/\R (DJ K a) H1
theorem WV{l:bq}{tl:TE}(hl:PE X l tl):PI X tg l (WT X.K tl):=by
 intro pins s σ H R I h;refine bF (hl pins s σ H _ I h) λv s1⟨x,H1,I1,r1,q1⟩=>?_;obtain⟨a,e,⟨xs,hq⟩,q⟩:=q1;subst e;cases r1;obtain⟨its,rv,p,hz⟩:=I1.list hq;refine jo p.isList ?_;refine⟨s1.heap.objs.size,[s1.heap.objs.size],_,_,H1,rfl,I1.kept (t':=s1.toks) λb o e=>ao _ e,WQ a _,⟨_,az _ rfl,rfl,rfl⟩,λb hb=>?_,q⟩;have e:b=s1.heap.objs.size:=by simpa using hb
 subst e;exact I1.fpOk (aq _) (I1.hok.fresh (aq _))
theorem WW{l:bq}{tl:TE}(hl:PE X l tl):PI X tg l (WU X.K tl):=by
 intro pins s σ H R I h;refine bF (hl pins s σ H _ I h) λv s1⟨x,H1,I1,r1,q1⟩=>?_;obtain⟨a,e,⟨xs,hq⟩,q⟩:=q1;subst e;cases r1;obtain⟨its,rv,p,hz⟩:=I1.tuple hq;refine rz (show s1.heap.IsTuple a its.toArray from p) ?_;refine⟨s1.heap.objs.size,[s1.heap.objs.size],_,_,H1,rfl,I1.kept (t':=s1.toks) λb o e=>ao _ e,WR a _,⟨_,az _ rfl,rfl,rfl⟩,λb hb=>?_,q⟩;have e:b=s1.heap.objs.size:=by simpa using hb
 subst e;exact I1.fpOk (aq _) (I1.hok.fresh (aq _))
theorem J3{pins:List (ai×Obj)}{σ:St}{H:Hp}{s:ag}{R:It->Hp->Prop}{E:af->ag->Prop}{lo hi:Int}{t u v:Tok}{tk:Nat}(I:Inv X pins σ H s)(h1:-(2^62)<=lo)(h2:lo<2^62)(h3:-(2^62)<=hi)(h4:hi<2^62)(q:R (uT lo (hi-lo).toNat) H):wpAny (model X.prog X.w) X.A (pyIter (.ref s.heap.objs.size)) (PIE X pins σ tg R) E {s with heap:=s.heap.push {cls:=.type "range",data:=.fields #[.int lo t,.int hi u,.int 1 v]},toks:=tk}:=by
 refine wpAny_pyIter_range (IsRange.new ..) (small_one h1 h2 h3 h4) ?_;have I1:Inv X pins σ H {s with heap:=s.heap.push {cls:=.type "range",data:=.fields #[.int lo t,.int hi u,.int 1 v]},toks:=tk}:=I.kept λb o e=>ao _ e;refine⟨(s.heap.push {cls:=.type "range",data:=.fields #[.int lo t,.int hi u,.int 1 v]}).objs.size,[(s.heap.push {cls:=.type "range",data:=.fields #[.int lo t,.int hi u,.int 1 v]}).objs.size],_,_,H,rfl,
  I1.kept (t':=tk) λb o e=>ao _ e,WS _ lo (hi-lo).toNat,?_,λb hb=>?_,q⟩
 ·have e1:lo+((0:Nat):Int)*1=lo:=by simp
  have e2:(((hi-lo).toNat:Nat):Int)-((0:Nat):Int)=dg lo hi 1:=by rw[rangeSize_one];split<;>lia
  show yv _ _ (lo+((0:Nat):Int)*1) ((((hi-lo).toNat:Nat):Int)-((0:Nat):Int)) 1;rw[e1,e2];exact az _ rfl
 ·have e:b=(s.heap.push {cls:=.type "range",data:=.fields #[.int lo t,.int hi u,.int 1 v]}).objs.size:=by simpa using hb
  subst e;exact I1.fpOk (aq _) (I1.hok.fresh (aq _))
def WX(ta:TA):TI:=λσ H R=>ta σ H λvs H1=>∃j:Int,vs=[.int j]/\-(2^62)<=j/\j<2^62/\R (uT 0 j.toNat) H1
def WY(ta:TA):TI:=λσ H R=>ta σ H λvs H1=>∃i j:Int,vs=[.int i,.int j]/\(-(2^62)<=i/\i<2^62/\-(2^62)<=j/\j<2^62)/\R (uT i (j-i).toNat) H1
theorem WZ{a:bq}{ta:TA}{p pos:Pos}(hg:Gl X "range")(hm:X.mg "range"=none)(ha:PA X [a] ta)(hs:ar [a] X.env=[(false,eval a X.env)]:=by rfl):PI X tg (.Call (.Name "range" p) [a] [] pos) (WX ta):=by
 intro pins s σ H R I h;refine Call_ (oH I hg hm zk (iu (bF (ha pos pins s σ H _ I h) λus s1⟨vs,H1,I1,r1,q1⟩=>?_) hs rfl));obtain⟨j,e,q1,q2,q⟩:=q1;subst e
 cases r1 with
 |cons r rr=>cases rr;obtain⟨t,rfl⟩:=r;exact call_range_1 (J3 I1 (by lia) (by lia) q1 q2 (by simpa using q))
theorem W0{a b:bq}{ta:TA}{p pos:Pos}(hg:Gl X "range")(hm:X.mg "range"=none)(ha:PA X [a,b] ta)(hs:ar [a,b] X.env=[(false,eval a X.env),(false,eval b X.env)]:=by rfl)(Fb:ar [b] X.env=[(false,eval b X.env)]:=by rfl):
  PI X tg (.Call (.Name "range" p) [a,b] [] pos) (WY ta):=by
 intro pins s σ H R I h;refine Call_ (oH I hg hm zk (iu (bF (ha pos pins s σ H _ I h) λus s1⟨vs,H1,I1,r1,q1⟩=>?_) (by rw[hs,Fb]) (by rw[Fb];rfl)));obtain⟨i,j,e,⟨q1,q2,q3,q4⟩,q⟩:=q1;subst e
 cases r1 with
 |cons r rr=>
  cases rr with
  |cons r' rr=>cases rr;obtain⟨t,rfl⟩:=r;obtain⟨t',rfl⟩:=r';exact call_range_2 (J3 I1 q1 q2 q3 q4 q)
def W2(wi:TI)(g:TG)(tb:TS):TS:=λD σ H=>wi σ H λJ H1=>∃W:Nat->Nat->St->Hp->Prop,(∃m,W 0 m σ H1)/\∀i m σ H,W i m σ H->
 (J.stop i H/\D.nx σ H)∨(J.go i H/\∃N:St->Hp->Prop,(∀σ' H',N σ' H'->∃m',m'<m/\W (i+1) m' σ' H')/\∀x H',J.yld i H x H'->g x σ H' λσ2 H2=>tb {D with nx:=N,ct:=N,bk:=D.nx} σ2 H2)
def kT(fp:List ai)(h:cy):List (ai×Obj):=fp.filterMap λb=>(h.get? b).map λo=>(b,o)
theorem sO{fp:List ai}{h:cy}{b:ai}{o:Obj}(hb:b∈fp)(e:h.get? b=some o):(b,o)∈kT fp h:=jt.mpr ⟨b,hb,by rw[e];rfl⟩
theorem DK{fp:List ai}{h:cy}{p:ai×Obj}(hp:p∈kT fp h):p.1∈fp/\h.get? p.1=some p.2:=by
 obtain⟨b,hb,e⟩:=jt.mp hp
 cases q:h.get? b with
 |none=>rw[q]at e;cases e
 |some o=>rw[q]at e;have e':(b,o)=p:=de e;subst e';exact⟨hb,q⟩
theorem Inv.pinned{pins:List (ai×Obj)}{σ:St}{H:Hp}{s:ag}{fp:List ai}(I:Inv X pins σ H s)(hf:∀b∈fp,eB X pins H b)(ho:∀b∈fp,∃o,s.heap.get? b=some o/\∀v,o.data≠.cell v):Inv X (pins++kT fp s.heap) σ H s:=I.pins_of λp hp=>(cz.mp hp).elim (λz=>I.pin p (cx _ z)) λz=>by obtain⟨hb,e⟩:=DK z;obtain⟨f0,f1,f2,_⟩:=hf p.1 hb;obtain⟨o,e',d⟩:=ho p.1 hb;rw[e]at e';cases e';exact⟨e,f0,f1,f2,d⟩
theorem Inv.unpinned{pins pl:List (ai×Obj)}{σ:St}{H:Hp}{s:ag}(I:Inv X (pins++pl) σ H s):Inv X pins σ H s:=I.pins_of λp hp=>I.pin p (cx _ (gb _ hp))
theorem W3{iter:bq}{body:List fv}{wi:TI}{g:TG}{tb:TS}{pos:Pos}(hp:yk (model X.prog X.w) X.A X.env X.xe)(hc:X.calm=true)(hi:PI X tg iter wi)(hg:PG X tg g)(hb:Fw X body tb)(hs:∀x,foldedSetIterable iter X.env x=pure x:=by intro _;rfl):PS X (.For tg iter body [] pos) (W2 wi g tb):=by
 intro pins s σ H D I h;refine wpAny_For (bF (hi pins s σ H _ I h) λv s1 h1=>bF h1 λitv s2 h2=>?_) hs;obtain⟨it,fp,tn,J,H2,e,I2,T,Ep,f2,W,⟨m0,w0⟩,turn⟩:=h2;subst e;have stat:∀{H':Hp},(∀b∈fp,H' b=none)->∀b∈fp,eB X pins H' b:=λhn b hb=>⟨hn b hb,(f2 b hb).2⟩
 refine codeAny_forLoop_any (λn s'=>∃i σ' H',Inv X pins σ' H' s'/\tn i s'.heap/\(∀b∈fp,H' b=none)/\W i n σ' H') ?_ m0 ⟨0,σ,H2,I2,Ep,λb hb=>(f2 b hb).1,w0⟩
 rintro n s3 ⟨i,σ3,H3,I3,st3,fr3,w3⟩
 rcases turn i n σ3 H3 w3 with⟨stop,qn⟩|⟨go,N,hN,step⟩
 ·refine mn hp (bF (T.done X rfl rfl rfl hc i pins s3 σ3 H3 X.xe I3 (stat fr3) st3 stop) λr s4⟨hr,I4⟩=>?_);subst hr;exact ux ⟨σ3,H3,I4,qn⟩
 ·refine mn hp (bF (T.item X rfl rfl rfl hc i pins s3 σ3 H3 X.xe I3 (stat fr3) st3 go) λr s4⟨u,hr,h4⟩=>?_);subst hr;refine mn hp (bF h4 λ_ s5⟨x,H5,I5,r5,y5,st5,fr5⟩=>?_);have I5':=I5.pinned (stat fr5) (T.obj _ _ st5);refine mn hp (bF (hg _ s5 σ3 H5 x u _ I5' r5 (step x H5 y5)) λ_ s6⟨σ6,H6,I6,q6⟩=>?_);refine mn hp (bF (hb _ s6 σ6 H6 _ I6 q6) λf s7 q7=>?_);have again:∀{σ7:St}{H7:Hp},Inv X (pins++kT fp s5.heap) σ7 H7 s7->N σ7 H7->∃m,m<n/\∃i σ' H',Inv X pins σ' H' s7/\tn i s7.heap/\(∀b∈fp,H' b=none)/\W i m σ' H':=λ{σ7 H7}I7 n7=>by obtain⟨m',hm,w7⟩:=hN σ7 H7 n7;refine⟨m',hm,i+1,σ7,H7,I7.unpinned,T.keep _ _ _ st5 λb hb o e=>(I7.pin (b,o) (cx _ (cx _ (sO hb e)))).1,λb hb=>?_,w7⟩;obtain⟨o,e,d⟩:=T.obj _ _ st5 b hb;exact(I7.pin (b,o) (cx _ (cx _ (sO hb e)))).2.1
  cases f with
  |next=>obtain⟨σ7,H7,I7,n7⟩:=q7;exact again I7 n7
  |cont=>obtain⟨σ7,H7,I7,n7⟩:=q7;exact again I7 n7
  |brk=>obtain⟨σ7,H7,I7,q7⟩:=q7;exact⟨σ7,H7,I7.unpinned,q7⟩
  |ret v=>obtain⟨x7,σ7,H7,I7,r7,q7⟩:=q7;exact⟨x7,σ7,H7,I7.unpinned,r7,q7⟩
end
abbrev R2:=V->V->Hp->VK->Prop
def Ca(X:Cx)(f:af->af->Sem af)(r:R2):Prop:=
 ∀(pins:List (ai×Obj))(s:ag)(σ:St)(H:Hp)(x y:V)(v u:af)(Q:VK),Inv X pins σ H s->RelV x v->RelV y u->r x y H Q->
  wpAny (model X.prog X.w) X.A (f v u) (EP X pins σ Q) X.xe s
def yR(X:Cx)(f:af->Sem af)(r:V->Hp->VK->Prop):Prop:=
 ∀(pins:List (ai×Obj))(s:ag)(σ:St)(H:Hp)(x:V)(v:af)(Q:VK),Inv X pins σ H s->RelV x v->r x H Q->
  wpAny (model X.prog X.w) X.A (f v) (EP X pins σ Q) X.xe s
def Bi(X:Cx)(f:af)(r:List V->Hp->VK->Prop):Prop:=
 ∀(pins:List (ai×Obj))(s:ag)(σ:St)(H:Hp)(xs:List V)(us:List af)(Q:VK),Inv X pins σ H s->Bf xs us->r xs H Q->
  wpAny (model X.prog X.w) X.A (call f us) (EP X pins σ Q) X.xe s
def W4(X:Cx)(r:V->Hp->(Bool->Hp->Prop)->Prop):Prop:=
 ∀(pins:List (ai×Obj))(s:ag)(σ:St)(H:Hp)(x:V)(v:af)(Q:Bool->Hp->Prop),Inv X pins σ H s->RelV x v->r x H Q->
  wpAny (model X.prog X.w) X.A (truthy v) (TP X pins σ Q) X.xe s
def uU(r:R2)(ta tb:TE):TE:=λσ H Q=>ta σ H λx H1=>tb σ H1 λy H2=>r x y H2 Q
def W5(r:V->Hp->VK->Prop)(ta:TE):TE:=λσ H Q=>ta σ H λx H1=>r x H1 Q
def rI(C:Int->Int->Prop)(g:Int->Int->V):R2:=λx y H Q=>∃i j,x=.int i/\y=.int j/\C i j/\Q (g i j) H
def kU(g:Int->Int->V):R2:=λx y H Q=>∃i j,x=.int i/\y=.int j/\Q (g i j) H
def rU(g:Int->V):V->Hp->VK->Prop:=λx H Q=>∃i,x=.int i/\Q (g i) H
section
variable{X:Cx}{a b c:bq}{ta tb tc:TE}{pos:Pos}
theorem DL(ha:PE X a ta)(hb:PE X b tb){pins:List (ai×Obj)}{s:ag}{σ:St}{H:Hp}{R:V->V->Hp->Prop}(I:Inv X pins σ H s)(h:ta σ H λx H1=>tb σ H1 λy H2=>R x y H2){Q:af->ag->Prop}{f:af->af->Sem af}(hf:∀v u s2 x y H2,Inv X pins σ H2 s2->RelV x v->RelV y u->R x y H2->wpAny (model X.prog X.w) X.A (f v u) Q X.xe s2):
  wpAny (model X.prog X.w) X.A (eval a X.env) (λv s₁=>wpAny (model X.prog X.w) X.A (eval b X.env) (λu s₂=>wpAny (model X.prog X.w) X.A (f v u) Q X.xe s₂) X.xe s₁) X.xe s:=by
 refine bF (ha pins s σ H _ I h) λv s1⟨x,H1,I1,r1,q1⟩=>?_;refine bF (hb pins s1 σ H1 _ I1 q1) λu s2⟨y,H2,I2,r2,q2⟩=>?_;exact hf v u s2 x y H2 I2 r1 r2 q2
theorem W6{op:Operator}{r:R2}(ho:Ca X (binaryOp op) r)(ha:PE X a ta)(hb:PE X b tb):PE X (.BinOp a op b pos) (uU r ta tb):=by intro pins s σ H Q I h;exact wpAny_BinOp (DL ha hb I h λv u s2 x y H2 I2 rx ry q=>ho pins s2 σ H2 x y v u Q I2 rx ry q)
theorem W7{op:UnaryOp}{r:V->Hp->VK->Prop}(ho:yR X (unaryOp op) r)(ha:PE X a ta):PE X (.UnaryOp op a pos) (W5 r ta):=by intro pins s σ H Q I h;exact UnaryOp_ (bF (ha pins s σ H _ I h) λv s1⟨x,H1,I1,r1,q1⟩=>ho pins s1 σ H1 x v Q I1 r1 q1)
theorem yS{f:af->af->Sem af}{C:Int->Int->Prop}{g:Int->Int->Int}(rule:∀(i j:Int)(t u:Tok)(s:ag)(Q:af->ag->Prop)(E:af->ag->Prop),C i j->Q (.int (g i j) s.toks) {s with toks:=s.toks+1}->wpAny (model X.prog X.w) X.A (f (.int i t) (.int j u)) Q E s):
  Ca X f (rI C λi j=>.int (g i j)):=by
 intro pins s σ H x y v u Q I rx ry h;obtain⟨i,j,rfl,rfl,hc,q⟩:=h;obtain⟨t,rfl⟩:=rx;obtain⟨t',rfl⟩:=ry;exact rule i j t t' s _ _ hc ⟨.int (g i j),H,I.tok _,⟨_,rfl⟩,q⟩
theorem J4{f:af->af->Sem af}{g:Int->Int->Int}(rule:∀(i j:Int)(t u:Tok)(s:ag)(Q:af->ag->Prop)(E:af->ag->Prop),Q (.int (g i j) s.toks) {s with toks:=s.toks+1}->wpAny (model X.prog X.w) X.A (f (.int i t) (.int j u)) Q E s):
  Ca X f (kU λi j=>.int (g i j)):=by
 intro pins s σ H x y v u Q I rx ry h;obtain⟨i,j,rfl,rfl,q⟩:=h;obtain⟨t,rfl⟩:=rx;obtain⟨t',rfl⟩:=ry;exact rule i j t t' s _ _ ⟨.int (g i j),H,I.tok _,⟨_,rfl⟩,q⟩
theorem yT{f:af->af->Sem af}{g:Int->Int->Bool}(rule:∀(i j:Int)(t u:Tok)(s:ag)(Q:af->ag->Prop)(E:af->ag->Prop),Q (.bool (g i j)) s->wpAny (model X.prog X.w) X.A (f (.int i t) (.int j u)) Q E s):
  Ca X f (kU λi j=>.bl (g i j)):=by
 intro pins s σ H x y v u Q I rx ry h;obtain⟨i,j,rfl,rfl,q⟩:=h;obtain⟨t,rfl⟩:=rx;obtain⟨t',rfl⟩:=ry;exact rule i j t t' s _ _ ⟨.bl (g i j),H,I,rfl,q⟩
def DM(i j:Int):Prop:=0<=j/\j<=1000000/\i.natAbs<2^64
def CMul(i j:Int):Prop:=(-(2^64)<i/\i<2^64)∨(-(2^64)<j/\j<2^64)
theorem CMul.ok{i j:Int}(h:CMul i j):IntMulOk i j:=by
 rcases h with⟨h1,h2⟩|⟨h1,h2⟩
 ·exact .of_left (intBits_le_64 h1 h2)
 ·exact .of_right (intBits_le_64 h1 h2)
theorem op_add:Ca X (binaryOp .Add) (kU λi j=>.int (i+j)):=J4 λ_ _ _ _ _ _ _ q=>add_int q
theorem W8:Ca X (binaryOp .Sub) (kU λi j=>.int (i-j)):=J4 λ_ _ _ _ _ _ _ q=>sub_int q
theorem W9:Ca X (binaryOp .Mult) (rI CMul λi j=>.int (i*j)):=yS λ_ _ _ _ _ _ _ hc q=>mul_int q hc.ok
theorem XA:Ca X (binaryOp .Mod) (rI (λ_ j=>0<j) λi j=>.int (i%j)):=yS λi j _ _ _ _ _ hc q=>by have h1:(0:Int)<j:=hc;exact mod_int' (by lia) (by rw[Int.fmod_eq_emod_of_nonneg i (by lia)];exact q)
theorem XB:Ca X (binaryOp .Pow) (rI DM λi j=>.int (i^j.toNat)):=yS λ_ _ _ _ _ _ _ hc q=>pow_int_small hc.1 hc.2.1 hc.2.2 q
theorem XC{f:af->Sem af}{g:Int->Int}(rule:∀(i:Int)(t:Tok)(s:ag)(Q:af->ag->Prop)(E:af->ag->Prop),Q (.int (g i) s.toks) {s with toks:=s.toks+1}->wpAny (model X.prog X.w) X.A (f (.int i t)) Q E s):
  yR X f (rU λi=>.int (g i)):=by
 intro pins s σ H x v Q I rx h;obtain⟨i,rfl,q⟩:=h;obtain⟨t,rfl⟩:=rx;exact rule i t s _ _ ⟨.int (g i),H,I.tok _,⟨_,rfl⟩,q⟩
theorem XD:yR X (unaryOp .USub) (rU λi=>.int (-i)):=XC λ_ _ _ _ _ q=>neg_int q
end
section
variable{X:Cx}{a b c:bq}{ta tb tc:TE}{pos:Pos}
theorem XE{pins:List (ai×Obj)}{σ:St}{H:Hp}{s:ag}{Q:VK}{k k':Bool}(I:Inv X pins σ H s)(q:Q (.bl k) H)(e:k=k'):EP X pins σ Q (.bool k') s:=by subst e;exact⟨.bl k,H,I,rfl,q⟩
theorem DN:Ca X (compareOp .Lt) (kU λi j=>.bl (decide (i<j))):=yT λ_ _ _ _ _ _ _ q=>lt_int q
theorem sP:Ca X (compareOp .LtE) (kU λi j=>.bl (decide (i<=j))):=yT λ_ _ _ _ _ _ _ q=>le_int q
theorem XF:Ca X (compareOp .Gt) (kU λi j=>.bl (decide (j<i))):=yT λ_ _ _ _ _ _ _ q=>gt_int q
theorem J5:Ca X (compareOp .GtE) (kU λi j=>.bl (decide (j<=i))):=yT λ_ _ _ _ _ _ _ q=>ge_int q
theorem XG:Ca X (compareOp .IsNot) (λx y H Q=>y=.non/\Q (.bl (!decide (x=.non))) H):=by
 intro pins s σ H x y v u Q I rx ry h;obtain⟨rfl,q⟩:=h;cases ry;refine isnot_none_gen (XE I q ?_)
 cases x<;>first
  |(cases rx;rfl)
  |(obtain⟨t,rfl⟩:=rx;rfl)
theorem Ca.or{f:af->af->Sem af}{r r':R2}(h:Ca X f r)(h':Ca X f r'):Ca X f (λx y H Q=>r x y H Q∨r' x y H Q):=by
 intro pins s σ H x y v u Q I rx ry q
 rcases q with q|q
 ·exact h pins s σ H x y v u Q I rx ry q
 ·exact h' pins s σ H x y v u Q I rx ry q
theorem lQ(b:bq){op:zl}(h:op≠.In:=by decide)(h2:op≠.NotIn:=by decide):behindInMarks op b=false:=by
 have e1:(op==CmpOp.In)=false:=by cases op<;>first|rfl|exact absurd rfl h
 have e2:(op==CmpOp.NotIn)=false:=by cases op<;>first|rfl|exact absurd rfl h2
 cases b<;>simp[behindInMarks,e1,e2]
theorem XH{op:zl}{r:R2}(ho:Ca X (compareOp op) r)(ha:PE X a ta)(hb:PE X b tb)(hm:behindInMarks op b=false):PE X (.Compare a [op] [b] pos) (uU r ta tb):=by intro pins s σ H Q I h;exact wpAny_Compare1 (DL ha hb I h λv u s2 x y H2 I2 rx ry q=>ho pins s2 σ H2 x y v u Q I2 rx ry q) hm
def J6(t:TE):TT:=λσ H Q=>t σ H λx H'=>∃k,x=.bl k/\Q k H'
theorem XI{op:zl}{r:R2}(ho:Ca X (compareOp op) r)(ha:PE X a ta)(hb:PE X b tb)(hm:behindInMarks op b=false):PT X (.Compare a [op] [b] pos) (J6 (uU r ta tb)):=by intro pins s σ H Q I h;refine wpAny_isTrue_Compare1 (bF (ha pins s σ H _ I h) λv s1⟨x,H1,I1,r1,q1⟩=>bF (hb pins s1 σ H1 _ I1 q1) λu s2⟨y,H2,I2,r2,q2⟩=>bF (ho pins s2 σ H2 x y v u _ I2 r1 r2 q2) λc s3⟨z,H3,I3,r3,k,e,q3⟩=>?_) hm;subst e;cases r3;exact jn ⟨H3,I3,q3⟩
def DO(r r':R2)(ta tb tc:TE):TE:=λσ H Q=>ta σ H λx H1=>tb σ H1 λy H2=>r x y H2 λz H3=>∃k,z=.bl k/\
 (if k=true then tc σ H3 λw' H4=>r' y w' H4 Q else Q (.bl false) H3)
theorem XJ{op Fi:zl}{r r':R2}(ho:Ca X (compareOp op) r)(En:Ca X (compareOp Fi) r')(ha:PE X a ta)(hb:PE X b tb)(hc:PE X c tc)(hm:lastMarks [op,Fi] [b,c]=false:=by with_unfolding_all rfl):PE X (.Compare a [op,Fi] [b,c] pos) (DO r r' ta tb tc):=by
 intro pins s σ H Q I h;refine Compare_chain (bF (ha pins s σ H _ I h) λv s1⟨x,H1,I1,r1,q1⟩=>chain_link (bF (hb pins s1 σ H1 _ I1 q1) λu s2⟨y,H2,I2,r2,q2⟩=>bF (ho pins s2 σ H2 x y v u _ I2 r1 r2 q2) λd s3⟨z,H3,I3,r3,k,e,q3⟩=>?_)) hm;subst e;cases r3;refine jn ?_
 cases k with
 |false=>exact ite_ff ⟨.bl false,H3,I3,rfl,q3⟩
 |true=>exact ite_tt (chain_last (bF (hc pins s3 σ H3 _ I3 q3) λw' s4⟨z',H4,I4,r4,q4⟩=>En pins s4 σ H4 y z' u w' Q I4 r2 r4 q4))
theorem XM{op Fi:zl}{r r':R2}(ho:Ca X (compareOp op) r)(En:Ca X (compareOp Fi) r')(ha:PE X a ta)(hb:PE X b tb)(hc:PE X c tc)(hm:lastMarks [op,Fi] [b,c]=false:=by with_unfolding_all rfl):PT X (.Compare a [op,Fi] [b,c] pos) (J6 (DO r r' ta tb tc)):=by
 intro pins s σ H Q I h;refine isTrue_chain (bF (ha pins s σ H _ I h) λv s1⟨x,H1,I1,r1,q1⟩=>test_link (bF (hb pins s1 σ H1 _ I1 q1) λu s2⟨y,H2,I2,r2,q2⟩=>bF (ho pins s2 σ H2 x y v u _ I2 r1 r2 q2) λd s3⟨z,H3,I3,r3,k,e,q3⟩=>?_)) hm;subst e;cases r3;refine jn ?_
 cases k with
 |false=>obtain⟨k',e',q'⟩:=q3;cases e';exact ite_ff ⟨H3,I3,q'⟩
 |true=>refine ite_tt (test_last (bF (hc pins s3 σ H3 _ I3 q3) λw' s4⟨z',H4,I4,r4,q4⟩=>bF (En pins s4 σ H4 y z' u w' _ I4 r2 r4 q4) λd' s5⟨z2,H5,I5,r5,k2,e2,q5⟩=>?_));subst e2;cases r5;exact jn ⟨H5,I5,q5⟩
def J7(K:au)(x:V)(H:Hp)(k:Bool):Prop:=
 match x with
 |.non=>k=false
 |.bl b=>k=b
 |.int i=>k=(i !=0)
 |.str y=>y.length<=cg/\k=((y.length:Int) !=0)
 |.byt y=>y.size<=cg/\k=((y.size:Int) !=0)
 |.ref p=>(∃xs,By K H p xs/\k=!xs.isEmpty)∨(∃xs,Bu K H p xs/\k=!xs.isEmpty)∨∃kvs,H p=some (.dK kvs)/\k=!kvs.isEmpty
 |_=>False
theorem XN{κ:Type}{kvs:List (κ×V)}{vs:List (κ×af)}(r:KV kvs vs):(!vs.isEmpty)=!kvs.isEmpty:=by cases r<;>rfl
theorem J8{xs:List V}{its:List af}(r:Bf xs its):(!its.toArray.isEmpty)=!xs.isEmpty:=by cases r<;>simp
theorem sQ:(cg:Nat)<2^63:=by rw[ic];decide
theorem XO:W4 X (λx H Q=>∃k,J7 X.K x H k/\Q k H):=by
 intro pins s σ H x v Q I rx h;obtain⟨k,e,q⟩:=h;have hl:=sQ;have hs:cg=16777216:=ic
 cases x with
 |non=>cases rx;have e':k=false:=e;subst e';exact truthy_none ⟨H,I,q⟩
 |bl b=>cases rx;have e':k=b:=e;subst e';exact jn ⟨H,I,q⟩
 |int i=>obtain⟨t,rfl⟩:=rx;have e':k=(i !=0):=e;subst e';exact PySem.P.truthy_int ⟨H,I,q⟩
 |str y=>obtain⟨t,rfl⟩:=rx;obtain⟨hy,e'⟩:y.length<=cg/\k=((y.length:Int) !=0):=e;subst e';exact PySem.P.truthy_str (by lia) ⟨H,I.tok _,q⟩
 |byt y=>obtain⟨t,rfl⟩:=rx;obtain⟨hy,e'⟩:y.size<=cg/\k=((y.size:Int) !=0):=e;subst e';exact PySem.W.truthy_bytes (by lia) ⟨H,I.tok _,q⟩
 |ref p=>
  cases rx;have e':(∃xs,By X.K H p xs/\k=!xs.isEmpty)∨(∃xs,Bu X.K H p xs/\k=!xs.isEmpty)∨∃kvs,H p=some (.dK kvs)/\k=!kvs.isEmpty:=e
  rcases e' with⟨xs,hx,e'⟩|⟨xs,hx,e'⟩|⟨kvs,hx,e'⟩
  ·subst e';obtain⟨its,r,pl,hz⟩:=I.list hx;have hlen:=r.length;exact wpAny_truthy_list pl.isList (by simp only[ba];lia) ⟨H,I.tok _,by rw[J8 r];exact q⟩
  ·subst e';obtain⟨its,r,pl,hz⟩:=I.tuple hx;have hlen:=r.length;exact truthy_tuple pl (by simp only[ba];lia) ⟨H,I.tok _,by rw[J8 r];exact q⟩
  ·subst e';obtain⟨hz,hS,vs,r,m⟩:kvs.length<=cg/\(p==sysModules)=false/\∃vs,KV kvs vs/\s.heap.DictOf (DE X.prog X.w) p vs:=I.hok p _ hx;have hlen:kvs.length=vs.length:=Paired.length r;exact wpAny_truthy_dict hS m (by lia) ⟨H,I.tok _,by rw[XN r];exact q⟩
 |_=>exact(show False from e).elim
theorem XQ(ha:PE X a ta)(he:∀whole,isTrue a X.env whole=(do let v <-whole;standAt a.pos;holding [v] (truthy v))):
  PT X a (λσ H Q=>ta σ H λx H'=>∃k,J7 X.K x H' k/\Q k H'):=by
 intro pins s σ H Q I h;exact isTrue_plain (bF (ha pins s σ H _ I h) λv s1⟨x,H1,I1,r1,q1⟩=>XO pins s1 σ H1 x v Q I1 r1 q1) (he _)
theorem gO{x:V}{us:List af}(r:Bf [x] us):∃u,us=[u]/\RelV x u:=by
 cases r with
 |cons r1 r2=>cases r2;exact⟨_,rfl,r1⟩
theorem yU{x y:V}{us:List af}(r:Bf [x,y] us):∃u w',us=[u,w']/\RelV x u/\RelV y w':=by
 cases r with
 |cons r1 r2=>
  cases r2 with
  |cons r3 r4=>cases r4;exact⟨_,_,rfl,r1,r3⟩
theorem XR:Bi X (.builtin "abs") (λxs H Q=>∃i,xs=[.int i]/\Q (.int (if i<0 then -i else i)) H):=by intro pins s σ H xs us Q I r h;obtain⟨i,rfl,q⟩:=h;obtain⟨u,rfl,t,rfl⟩:=gO r;exact call_abs_int λu tk=>⟨.int (if i<0 then -i else i),H,I.tok _,⟨_,rfl⟩,q⟩
theorem XS(hc:X.calm=true):Bi X (.builtin "max") (λxs H Q=>∃i j,xs=[.int i,.int j]/\Q (.int (if j>i then j else i)) H):=by
 intro pins s σ H xs us Q I r h;obtain⟨i,j,rfl,q⟩:=h;obtain⟨u,w',rfl,⟨t,rfl⟩,⟨t',rfl⟩⟩:=yU r;refine max_two_ints (I.ok.hd hc) λh' tk k=>⟨_,H,I.kept k,?_,q⟩
 by_cases hj:j>i
 ·rw[if_pos hj,if_pos hj];exact⟨_,rfl⟩
 ·rw[if_neg hj,if_neg hj];exact⟨_,rfl⟩
theorem XT(hc:X.calm=true):Bi X (.builtin "min") (λxs H Q=>∃i j,xs=[.int i,.int j]/\Q (.int (if j<i then j else i)) H):=by
 intro pins s σ H xs us Q I r h;obtain⟨i,j,rfl,q⟩:=h;obtain⟨u,w',rfl,⟨t,rfl⟩,⟨t',rfl⟩⟩:=yU r;refine min_two_ints (I.ok.hd hc) λh' tk k=>⟨_,H,I.kept k,?_,q⟩
 by_cases hj:j<i
 ·rw[if_pos hj,if_pos hj];exact⟨_,rfl⟩
 ·rw[if_neg hj,if_neg hj];exact⟨_,rfl⟩
end
structure Bx(k:Nat)(A:cq):Prop where
 hd:A.handled=none
 dp:A.depth+3*k+5<recursionLimit
 un:A.units+16*k+200<cLine
theorem Bx.mono{j k:Nat}{A:cq}(r:Bx k A)(h:j<=k):Bx j A:=⟨r.hd,by have:=r.dp;lia,by have:=r.un;lia⟩
theorem Bx.deeper{k:Nat}{A:cq}(r:Bx (k+1) A)(env:Env):Bx k (A.deeper env):=⟨r.hd,by have:=r.dp;show A.depth+1+3*k+5<_;lia,by have:=r.un;show A.units+3+16*k+200<_;lia⟩
theorem Bx.depth{k:Nat}{A:cq}(r:Bx k A):A.depth<recursionLimit:=by have:=r.dp;lia
theorem Bx.units{k:Nat}{A:cq}(r:Bx k A):A.units+64<cLine:=by have:=r.un;lia
def J9:TA:=λ_ H Q=>Q [] H
def KC(ta:TE)(tr:TA):TA:=λσ H Q=>ta σ H λx H1=>tr σ H1 λxs H2=>Q (x::xs) H2
section
variable{X:Cx}{e:bq}{es:List bq}{te:TE}{t:TA}{pos:Pos}
theorem lS:PA X [] J9:=λ_ _ _ _ H Q I h=>Calls.spliced_nil ⟨[],H,I,.nil,h⟩
theorem kW(ha:PE X e te)(hr:PA X es t)(hs:ar (e::es) X.env=(false,eval e X.env)::ar es X.env:=by rfl):PA X (e::es) (KC te t):=by intro pos pins s σ H Q I h;rw[hs];show wpAny _ _ (spliced ((false,eval e X.env)::backTo pos (ar es X.env))) _ _ s;refine Al (bF (ha pins s σ H _ I h) λu s1⟨x,H1,I1,r1,q1⟩=>?_);exact bF (hr pos pins s1 σ H1 _ I1 q1) λus s2⟨xs,H2,I2,r2,q2⟩=>⟨x::xs,H2,I2,.cons r1 r2,q2⟩
def XU(t:TA):TE:=λσ H Q=>t σ H λxs H1=>xs.length<=cg/\∀p,H1 p=none->Q (.ref p) (bI H1 p (.tup xs))
def XW(t:TA):TE:=λσ H Q=>t σ H λxs H1=>xs.length<=cg/\∀p,H1 p=none->Q (.ref p) (bI H1 p (.lst xs))
theorem XX{x1}(h:PA X es t):PE X (.Tuple es x1 pos) (XU t):=by intro pins s σ H Q I hq;refine wpAny_Tuple_spliced (bF (h pos pins s σ H _ I hq) λus s1⟨xs,H1,I1,r,z,q⟩=>⟨by rw[<-r.length];exact z,?_⟩);have hf:H1 s1.heap.objs.size=none:=I1.hok.fresh (aq _);refine⟨.ref s1.heap.objs.size,bI H1 s1.heap.objs.size (.tup xs),I1.laid (t':=s1.toks) (λb u e=>ao _ e) (aq _) ?_,rfl,q _ hf⟩;exact⟨z,us,r,⟨_,az _ rfl,rfl,rfl,_,rfl⟩⟩
theorem XY(h:PA X es t):PE X (.List es pos) (XW t):=by intro pins s σ H Q I hq;refine wpAny_List_spliced (bF (h pos pins s σ H _ I hq) λus s1⟨xs,H1,I1,r,z,q⟩=>⟨by rw[<-r.length];exact z,?_⟩);have hf:H1 s1.heap.objs.size=none:=I1.hok.fresh (aq _);refine⟨.ref s1.heap.objs.size,bI H1 s1.heap.objs.size (.lst xs),I1.laid (t':=s1.toks) (λb u e=>ao _ e) (aq _) ?_,rfl,q _ hf⟩;exact⟨z,us,0,r,az _ rfl⟩
end
abbrev Sp:=List V->Hp->VK->XK->Prop
abbrev oJ:=List Env->Hp->ag->XK->af->ag->Prop
structure Env0(P:bj)(w:cn)(K:au)(mg:Str->Option af)(base:cy)(A:cq)(outer:List Env)(s:ag)(H:Hp):Prop where
 frames:A.frames=some outer
 mod:Mod K mg base
 bs:∀b o,base.get? b=some o->s.heap.get? b=some o/\H b=none
 bsz:base.objs.size<=s.heap.objs.size
 funs:s.heap.FunFrames base outer
 frf:∀b∈fR outer,H b=none
 hok:Cq P w H s.heap
 bare:sv s.gens
inductive CE(outer:List Env)(P:bj)(w:cn)(H:Hp)(s:ag)(Q:VK)(u:af)(s':ag):Prop
 |mk (v:_) (H':_) (h0:s'.os=s.os) (h1:sv s'.gens) (h2:Un (fR outer) [] H H' s.heap s'.heap) (h3:Cq P w H' s'.heap) (h4:RelV v u) (h5:Q v H'):CE outer P w H s Q u s'
def CR(CX:oJ)(outer:List Env)(P:bj)(w:cn)(H:Hp)(s:ag)(Q:VK)(E:XK)(r:xa)(s':ag):Prop:=
 match r with
 |.ok (.ret u)=>CE outer P w H s Q u s'
 |.ok _=>False
 |.error e=>CX outer H s E e s'
structure Bj(P:bj)(w:cn)(K:au)(mg:Str->Option af)(base:cy)(CX:oJ)(k:Nat)(f:ai)(fd:bh)(ps:Ax)(sp:Sp):Prop where
 len:∀vs H Q E,sp vs H Q E->vs.length=ps.length
 run:∀(A:cq)(outer:List Env)(s:ag)(H:Hp)(args:Args)(us:List af)(vs:List V)(Q:VK)(E:XK),Bx k A->Env0 P w K mg base A outer s H->xq s fd args (ps.zip us)->Bf vs us->sp vs H Q E->
  codeAny (model P w) A (.call (.ref f) args) (CR CX outer P w H s Q E) s
section
variable{X:Cx}{pins:List (ai×Obj)}{σ:St}{H:Hp}{s s':ag}
theorem Inv.env0(I:Inv X pins σ H s):Env0 X.prog X.w X.K X.mg X.base X.A X.stack s H:=⟨I.ok.frames,I.ok.mod,I.bs,dh I.ok.bsz I.sz,I.stack,I.stkFree,I.hok,I.bare⟩
theorem Inv.after{Q:VK}{u:af}(I:Inv X pins σ H s)(h:CE X.stack X.prog X.w H s Q u s'):EP X pins σ Q u s':=by obtain⟨v,H',os,bare,un,hok,r,q⟩:=h;obtain⟨hh,g,d,t,os'⟩:=s';obtain rfl:os'=s.os:=os;exact⟨v,H',I.call (h':=hh) (g':=g) (d':=d) (t':=t) (ch:=[]) un hok bare (λb z=>absurd z (by simp)),r,q⟩
end
def XZ(sp:Sp)(dvs:List V)(E:XK)(t:TA):TE:=λσ H Q=>t σ H λvs H1=>sp (vs++dvs) H1 Q E
def Binds(K:au)(fd:bh)(ps:Ax)(ds:List af):Prop:=∀(s:ag)(us:List af),K.In s.heap->(us++ds).length=ps.length->xq s fd ⟨us,[]⟩ (ps.zip (us++ds))
theorem Binds.all{K:au}{fd:bh}{ps:Ax}(h:∀us:List af,us.length=ps.length->bindArgs fd ⟨us,[]⟩=pure (ps.zip us)):Binds K fd ps []:=λs us _ hl=>by rw[tq]at hl⊢;exact .of_eq (h us hl)
def DP(CX:oJ)(X:Cx)(E:XK):Prop:=∀(pins:List (ai×Obj))(σ:St)(H:Hp)(s:ag)(e:af)(s':ag),Inv X pins σ H s->CX X.stack H s E e s'->X.xe e s'
section
variable{X:Cx}{CX:oJ}{k:Nat}{f C:ai}{fd:bh}{ps:Ax}{sp:Sp}{dvs:List V}{ds:List af}{E:XK}{x m:Str}{p pos apos:Pos}{e o:bq}{es:List bq}{ta:TE}{t:TA}
theorem X0{pins:List (ai×Obj)}{σ:St}{H:Hp}{s:ag}{Q:VK}{us:List af}{vs:List V}(F:Bj X.prog X.w X.K X.mg X.base CX k f fd ps sp)(hr:Bx k X.A)(hb:Binds X.K fd ps ds)(hd:Bf dvs ds)(hx:DP CX X E)(I:Inv X pins σ H s)(r:Bf vs us)(h:sp (vs++dvs) H Q E):wpAny (model X.prog X.w) X.A (call (.ref f) us) (EP X pins σ Q) X.xe s:=by
 have r2:Bf (vs++dvs) (us++ds):=r.append hd;have hl:(us++ds).length=ps.length:=by rw[<-r2.length];exact F.len _ _ _ _ h
 refine wpAny_call (ur (F.run X.A X.stack s H ⟨us,[]⟩ (us++ds) (vs++dvs) Q E hr I.env0 (hb s us I.kIn hl) r2 h) λr s' hq=>?_)
 cases r with
 |error e=>exact hx pins σ H s e s' I hq
 |ok fl=>
  cases fl with
  |ret u=>exact I.after hq
  |next=>exact nt hq
  |brk=>exact nt hq
  |cont=>exact nt hq
theorem X1(F:Bj X.prog X.w X.K X.mg X.base CX k f fd ps sp)(hr:Bx k X.A)(hg:Gl X x)(hm:X.mg x=some (.ref f))(hk:tu X.K (.ref f)=true)(hb:Binds X.K fd ps ds)(hd:Bf dvs ds)(hx:DP CX X E)(ha:PA X (e::es) t)(Eu:(x==Gw)=false:=by decide)(he:ar (e::es) X.env=(false,eval e X.env)::ar es X.env:=by rfl)(Co:(backTo pos (ar es X.env)).any (·.1)=false:=by rfl):
  PE X (.Call (.Name x p) (e::es) [] pos) (XZ sp dvs E t):=by
 intro pins s σ H Q I h;refine sd (DG I hg hm ?_ Eu);refine PySem.W.callWith_K (h₀:=X.base) I.ok.mod.kin hk (bF (ha pos pins s σ H _ I h) λus s1⟨vs,H1,I1,r,q⟩=>⟨I1.kIn,?_⟩) he Co;exact X0 F hr hb hd hx I1 r q
end
structure Bd(N P:Ax)(sc:gf):Prop where
 kind:sc.kind=.function
 co:sc.isCoroutine=false
 gen:sc.isGenerator=false
 nd:N.Nodup
 pre:N.take P.length=P
 par:∀x∈P,sc.names.lookup x=some .local∨sc.names.lookup x=some .cell
 nofree:∀y∈sc.names,y.2≠.free
theorem KD{kindOf:Str->Option mq}{x:Str}:∀{binds:List (Str×af)}{m:Str->Option af},(∀v,(x,v)∉binds)->bindL kindOf binds m x=m x
 |[],_,_=>rfl
 |(n,v)::r,m,h=>by
  unfold bindL;rw[KD λw hw=>h w (av _ hw)]
  split
  ·have:x≠n:=by rintro rfl;exact h v bf
   simp[this]
  ·rfl
theorem KG{kindOf:Str->Option mq}{x:Str}:∀{binds:List (Str×af)}{m:Str->Option af},(∀v,(x,v)∉binds)->bindC kindOf binds m x=m x
 |[],_,_=>rfl
 |(n,v)::r,m,h=>by
  unfold bindC;rw[KG λw hw=>h w (av _ hw)]
  split
  ·rfl
  ·have:x≠n:=by rintro rfl;exact h v bf
   simp[this]
theorem KH{kindOf:Str->Option mq}{x:Str}{v:af}:∀{P:Ax}{vs:List af}{i:Nat}{m:Str->Option af},P.Nodup->P[i]?=some x->vs[i]?=some v->kindOf x=some .local->
  bindL kindOf (P.zip vs) m x=some v
 |[],_,_,_,_,h,_,_=>by simp at h
 |_::_,[],_,_,_,_,h,_=>by simp at h
 |p::P,w::vs,0,m,nd,h1,h2,hk=>by simp at h1 h2;subst h1;subst h2;show bindL kindOf ((p,w)::P.zip vs) m p=_;unfold bindL;rw[KD λv hv=>(jm.mp nd).1 (xh hv).1,if_pos hk];simp
 |p::P,w::vs,i+1,m,nd,h1,h2,hk=>by show bindL kindOf ((p,w)::P.zip vs) m x=_;unfold bindL;exact KH (i:=i) (jm.mp nd).2 (by simpa using h1) (by simpa using h2) hk
theorem KI{kindOf:Str->Option mq}{x:Str}{v:af}:∀{P:Ax}{vs:List af}{i:Nat}{m:Str->Option af},P.Nodup->P[i]?=some x->vs[i]?=some v->kindOf x≠some .local->
  bindC kindOf (P.zip vs) m x=some v
 |[],_,_,_,_,h,_,_=>by simp at h
 |_::_,[],_,_,_,_,h,_=>by simp at h
 |p::P,w::vs,0,m,nd,h1,h2,hk=>by simp at h1 h2;subst h1;subst h2;show bindC kindOf ((p,w)::P.zip vs) m p=_;unfold bindC;rw[KG λv hv=>(jm.mp nd).1 (xh hv).1,if_neg hk];simp
 |p::P,w::vs,i+1,m,nd,h1,h2,hk=>by show bindC kindOf ((p,w)::P.zip vs) m x=_;unfold bindC;exact KI (i:=i) (jm.mp nd).2 (by simpa using h1) (by simpa using h2) hk
def start(N:Ax)(vs:List V):St:=vs.map some++bx (N.length-vs.length) none
def mM(CX:oJ)(P:bj)(w:cn)(K:au)(mg:Str->Option af)(base:cy)(N:Ax)(qual:Str)(scope:gf)(f:ai)(cd:af)(A:cq)(outer:List Env)(s:ag)(H:Hp)(E:XK):Cx where
 prog:=P
 w:=w
 K:=K
 mg:=mg
 base:=base
 A:=A.deeper (envOfC qual scope s.heap.objs.size f cd)
 N:=N
 s₀:=s
 H₀:=H
 env:=envOfC qual scope s.heap.objs.size f cd
 outer:=outer
 stack:=envOfC qual scope s.heap.objs.size f cd::outer
 ex:=[]
 calm:=true
 fn:=λ_=>true
 pn:=[]
 xe:=λe s'=>wpAny (model P w) (A.deeper (envOfC qual scope s.heap.objs.size f cd)) (leaving (envOfC qual scope s.heap.objs.size f cd) e) (λ_ s''=>CX outer H s E e s'') (λe' s''=>CX outer H s E e' s'') s'
theorem KJ{sc:gf}{n:Nat}{x:Str}(h:sc.names.lookup x=some .cell):∃c,(cellsFrom n sc.names []).lookup x=some c:=by have q:=ym sc.names n [] (.inl h);exact ni.mp q
theorem X2{CX:oJ}{P:bj}{w:cn}{K:au}{mg:Str->Option af}{base:cy}{N ps:Ax}{qual:Str}{scope:gf}{f:ai}{cd:af}{A:cq}{outer:List Env}{s s1:ag}{H:Hp}{E:XK}{us:List af}{vs:List V}(S:Bd N ps scope)(hd:A.handled=none)(e0:Env0 P w K mg base A outer s H)(hl:vs.length=ps.length)(r:Bf vs us)(x:InCallC s s.heap.objs.size (bindL (envOfC qual scope s.heap.objs.size f cd).kindOf (ps.zip us) λ_=>none) (cellsFrom (s.heap.objs.size+1) scope.names []) (bindC (envOfC qual scope s.heap.objs.size f cd).kindOf (ps.zip us) λ_=>none) s1):
  Inv (mM CX P w K mg base N qual scope f cd A outer s H E) [] (start N vs) H s1:=by
 have Co:ps.length<=N.length:=by have:=congrArg nv S.pre;rw[kz]at this;lia
 obtain⟨h1,tk,rfl,hk⟩:=x.done;have noA:∀b:ai,b∉(mM CX P w K mg base N qual scope f cd A outer s H E).ex:=λb z=>absurd (show b∈([]:List ai) from z) (by simp);refine⟨⟨e0.mod,S.kind,rfl,rfl,aq _,λy z c h1 h2=>?_,λy hy=>?_,λy c _ h=>?_,λ_=>hd,Around.frames_deeper e0.frames,.inr ⟨rfl,rfl⟩,λb z=>absurd z (noA b),e0.bs,e0.bsz,λb _ _=>noA b,λb z=>absurd z (noA b),e0.funs,e0.frf⟩,
  rfl,e0.bare,Un.kept hk,⟨_,x.toInCall.ns,λi y v h1 h2 h3=>?_⟩,λy c h=>⟨_,x.cell y c h⟩,e0.hok.fresh (aq _),λy c h=>?_,λp hp=>absurd (show p∈([]:List (ai×Obj)) from hp) (by simp),e0.hok.kept hk,?_⟩
 ·exact name_of_addr x.apart (jz h1) (jz h2)
 ·have hy:scope.names.lookup y=some .cell∨scope.names.lookup y=some .free:=hy
  rcases hy with hy|hy
  ·exact KJ hy
  ·exact absurd rfl (S.nofree _ (jz hy))
 ·exact ji (x.above y c (jz h))
 ·have hi:i<vs.length:=by
   unfold start at h2
   by_cases hi:i<vs.length
   ·exact hi
   ·rw[jh (by simpa using hi)]at h2;rw[yz]at h2
    split at h2<;>cases h2
  have ha:vs[i]?=some v:=by
   unfold start at h2;rw[gd (by simpa using hi),fw]at h2
   cases e:vs[i]? with
   |none=>rw[e]at h2;cases h2
   |some a=>rw[e]at h2;cases h2;rfl
  obtain⟨u,hu,rv⟩:=r.get ha;have hp:ps[i]?=some y:=by rw[<-S.pre,yw (by lia)];exact h1
  have ndP:ps.Nodup:=by rw[<-S.pre];exact S.nd.sublist (List.take_sublist _ _)
  refine⟨u,rv,?_⟩
  rcases S.par y (dw hp)with k|k
  ·exact .inl ⟨k,KH ndP hp hu k⟩
  ·obtain⟨c,e⟩:=KJ (n:=s.heap.objs.size+1) k;refine .inr ⟨.inl k,c,e,?_⟩;have q:=x.cell y c e;rw[KI ndP hp hu (by show scope.names.lookup y≠_;rw[k];decide)]at q;exact q
 ·exact e0.hok.fresh (ji (x.above y c (jz h)))
 ·unfold start;show _=N.length;rw[cf,ax,List.length_replicate]
  lia
theorem KL{CX:oJ}{P:bj}{w:cn}{K:au}{mg:Str->Option af}{base:cy}{k:Nat}{f:ai}{name qual:Str}{params:kr}{body:List fv}{scope:gf}{dV kV doc pm cdv ct oc:af}{an od:Option ai}{osl:Array (Option af)}{N ps:Ax}{sp:Sp}(lk:K.lookup f=some ⟨oc,od,.func (pz name qual params body scope dV kV doc pm an cdv ct),osl⟩)(hcd:xb K cdv qual=true)(S:Bd N ps scope)(len:∀vs H Q E,sp vs H Q E->vs.length=ps.length)(Ew:∀(A:cq)(outer:List Env)(s:ag)(H:Hp)(vs:List V)(Q:VK)(E:XK),Bx k (A.deeper (envOfC qual scope s.heap.objs.size f cdv))->sp vs H Q E->
   ∃t,Fw (mM CX P w K mg base N qual scope f cdv A outer s H E) body t/\t {nx:=λ_ H'=>Q .non H',rt:=Q} (start N vs) H):
  Bj P w K mg base CX (k+1) f (pz name qual params body scope dV kV doc pm an cdv ct) ps sp:=by
 refine⟨len,λA outer s H args us vs Q E hr e0 hb r hsp=>?_⟩;have hl:=len _ _ _ _ hsp;have KX:K.In s.heap:=e0.mod.kin.keeps λb o e=>(e0.bs b o e).1;have lim:s.heap.NoLimit:=e0.mod.nolimit.keeps λb o e=>(e0.bs b o e).1;have hkind:∀y∈ps.zip us,scope.names.lookup y.1=some .local∨(scope.names.lookup y.1=some .cell/\((cellsFrom (s.heap.objs.size+1) scope.names []).lookup y.1).isSome=true):=λ⟨n,v⟩hy=>by
  rcases S.par n (xh hy).1 with q|q
  ·exact .inl q
  ·exact .inr ⟨q,ym _ _ _ (.inl q)⟩
 refine codeAny_call_function hr.depth (KX _ _ lk) rfl S.co S.gen rfl (PySem.W.codeRec_of KX hcd) (hb _ _ _ _ ?_);refine wpAny_newFunctionEnv_cells S.kind hkind λenv he s1 x=>?_;subst he;refine⟨lim.keeps x.toInCall.keep,codeAny_func ?_⟩;obtain⟨t,ht,hq⟩:=Ew A outer s H vs Q E (hr.deeper _) hsp;have I:Inv (mM CX P w K mg base N qual scope f cdv A outer s H E) [] (start N vs) H s1:=X2 S hr.hd e0 hl r x;refine rq (ht [] s1 (start N vs) H _ I hq) (λfl s' hs=>?_) λe s' hs=>hs;have fin:∀{σ':St}{H':Hp}{v:V}{u:af},Inv (mM CX P w K mg base N qual scope f cdv A outer s H E) [] σ' H' s'->RelV v u->Q v H'->CE outer P w H s Q u s':=λ{σ' H' v u}J rv q=>⟨v,H',J.os,J.bare,J.base,J.hok,rv,q⟩
 cases fl with
 |ret u=>obtain⟨v,σ',H',J,rv,q⟩:=hs;exact fin J rv q
 |next=>obtain⟨σ',H',J,q⟩:=hs;exact fin (v:=V.non) (u:=kj) J rfl q
 |brk=>obtain⟨_,_,_,q⟩:=hs;exact nt q
 |cont=>obtain⟨_,_,_,q⟩:=hs;exact nt q
section
variable{X:Cx}{x:Str}{p pos:Pos}{e:bq}{es:List bq}{t:TA}{id T:String}{r:List V->Hp->VK->Prop}
def yV(r:List V->Hp->VK->Prop)(t:TA):TE:=λσ H Q=>t σ H λvs H1=>r vs H1 Q
theorem uV(hc:Bi X (.builtin id) r)(hg:Gl X x)(hm:X.mg x=none)(hv:di x=some (.builtin id))(ha:PA X (e::es) t)(hn:x≠"__name__":=by decide)(Eu:(x==Gw)=false:=by decide)(he:ar (e::es) X.env=(false,eval e X.env)::ar es X.env:=by rfl)(Co:(backTo pos (ar es X.env)).any (·.1)=false:=by rfl):PE X (.Call (.Name x p) (e::es) [] pos) (yV r t):=by
 intro pins s σ H Q I h;refine sd (oH I hg hm hv ?_ hn Eu);exact PyProof.Rows.callWith_builtin1 (bF (ha pos pins s σ H _ I h) λus s1⟨vs,H1,I1,r1,q1⟩=>hc pins s1 σ H1 vs us Q I1 r1 q1) he Co
theorem sR(hc:Bi X (.type T) r)(hg:Gl X x)(hm:X.mg x=none)(hv:di x=some (.type T))(ha:PA X (e::es) t)(hn:x≠"__name__":=by decide)(Eu:(x==Gw)=false:=by decide)(he:ar (e::es) X.env=(false,eval e X.env)::ar es X.env:=by rfl)(Co:(backTo pos (ar es X.env)).any (·.1)=false:=by rfl):PE X (.Call (.Name x p) (e::es) [] pos) (yV r t):=by
 intro pins s σ H Q I h;refine sd (oH I hg hm hv ?_ hn Eu);exact iu (bF (ha pos pins s σ H _ I h) λus s1⟨vs,H1,I1,r1,q1⟩=>hc pins s1 σ H1 vs us Q I1 r1 q1) he Co
end
end L2
abbrev Gx:=List L2.V
open L2.V renaming int->Ga,ref->Gs
open L2.Bu renaming of->Gf
open L2.By renaming of->Gi
namespace HT
open PySem PyProof.Rows
def lexLt:y'->y'->Bool
 |[],[]=>false
 |[],_::_=>true
 |_::_,[]=>false
 |x::xs,y::ys=>if x=y then lexLt xs ys else decide (x<y)
theorem lexLt_cons(x y:Int)(xs ys:y'):lexLt (x::xs) (y::ys)=if x=y then lexLt xs ys else decide (x<y):=rfl
theorem X3:lexLt [] []=false:=rfl
theorem X4(y:Int)(ys:y'):lexLt [] (y::ys)=true:=rfl
theorem X5(x:Int)(xs:y'):lexLt (x::xs) []=false:=rfl
theorem X6(A:cq)(s:ag)(a:Int)(t:Tok)(c:Int)(u:Tok):∃e,lh A s (.int a t) (.int c u) e/\(e=true↔a=c):=⟨(a==c),SeqAt.EqAt.int_int a t c u,by simp⟩
theorem X7(A:cq)(s:ag)(a:Int)(t:Tok)(c:Int)(u:Tok)(prog:bj)(w:cn)(E:af->ag->Prop)(Q:af->ag->Prop)(h:Q (.bool (decide (a<c))) s):
  wpAny (model prog w) A (richCompare .Lt (.int a t) (.int c u)) Q E s:=
 (xr h:wpAny (model prog w) A (compareOp .Lt (.int a t) (.int c u)) Q E s)
section
open PySem.SeqAt
open PySem.AutoSeq1 (wpAny_loadPart')
open PySem.MeetsSeq PySem.MeetsSeq2 PySem.MeetsSeq3
theorem X8(l b:ai)(items Ce:Array af)(n n2:Nat)(dd dd2:Option ai)(sl sl2:Array (Option af))(ns ms:y')(hi:kv items.toList ns)(hj:kv Ce.toList ms):
  Meets (my.«tuple.__lt__» ⟨[.ref l,.ref b],[]⟩)
   (λ_ R s=>s.heap.get? l=some {cls:=.type "tuple",dict:=dd,data:=.seq items n,slots:=sl}/\s.heap.get? b=some {cls:=.type "tuple",dict:=dd2,data:=.seq Ce n2,slots:=sl2}/\
    R (.ok (.ret (.bool (lexLt ns ms)))) s):=
 .of_wp λprog w A R s h=>by
  obtain⟨hp,g,d,tk,os⟩:=s;obtain⟨hl,hb,h⟩:=h;have f2:=AutoSeq1.sub_tuple_tuple;have z1:items.size=ns.length:=by rw[<-hi.length];simp
  have z2:Ce.size=ms.length:=by rw[<-hj.length];simp
  wp_walk using wpAny_loadPart' hl,wpAny_loadPart' hb,qk _ (λrest b s'=>b.1=none/\s'=⟨hp,g,d,tk,os⟩/\∃(vs ws:List af)(ns' ms':y'),rest=vs.zip ws/\
   kv vs ns'/\kv ws ms'/\ns'.length+Ce.size=ms'.length+items.size/\R (.ok (.ret (.bool (lexLt ns' ms')))) ⟨hp,g,d,tk,os⟩) _
  case turn=>
   rintro ⟨y,x⟩ rest b s' ⟨hb',rfl,vs,ws,ns',ms',hz,hvi,hwi,hlen,hR⟩
   cases hvi with
   |nil=>rw[List.zip_nil_left]at hz;cases hz
   |cons a t hvi'=>
    cases hwi with
    |nil=>rw[List.zip_nil_right]at hz;cases hz
    |cons c u hwi'=>
     rw[List.zip_cons_cons]at hz;injection hz with hyx hrest;injection hyx with hy hx;subst hy hx;rw[lexLt_cons]at hR;simp only[bu]at hlen;obtain⟨e,he,hiff⟩:=X6 A.in1 ⟨hp,g,d,tk,os⟩ a t c u;refine ae (he prog w _ _ ?_)
     cases e with
     |true=>
      rw[if_pos (hiff.mp rfl)]at hR
      wp_walk
      exact⟨rfl,rfl,_,_,_,_,hrest,hvi',hwi',by lia,hR⟩
     |false=>
      rw[if_neg (λq=>absurd (hiff.mpr q) ig)]at hR;have hri:=X7 A.in1 ⟨hp,g,d,tk,os⟩ a t c u prog w
      wp_walk using hri
      exact⟨_,rfl,by simpa using hR⟩
  case fin=>
   rintro ⟨b1,b2⟩ s' ⟨hb',rfl,vs,ws,ns',ms',hz,hvi,hwi,hlen,hR⟩
   simp only at hb';subst hb';have hv:lexLt ns' ms'=decide (items.size<Ce.size):=by
    cases hvi with
    |nil=>
     cases hwi with
     |nil=>simp only[qc]at hlen;rw[X3];exact(decide_eq_false (by lia)).symm
     |cons c u hw=>simp only[qc,bu]at hlen;rw[X4];exact(decide_eq_true (by lia)).symm
    |cons a t hv=>
     cases hwi with
     |nil=>simp only[qc,bu]at hlen;rw[X5];exact(decide_eq_false (by lia)).symm
     |cons c u hw=>rw[List.zip_cons_cons]at hz;cases hz
   rw[hv]at hR
   wp_walk
   exact⟨_,rfl,by simpa[Builtin.Tuple.tupleCompareSizes]using hR⟩
  case h=>exact⟨rfl,rfl,items.toList,Ce.toList,ns,ms,rfl,hi,hj,by lia,h⟩
end
section
variable{prog:bj}{w:cn}{A:cq}{E:af->ag->Prop}{s:ag}
theorem lt_tupInts{l b:ai}{items Ce:Array af}{ns ms:y'}{Q:af->ag->Prop}(hl:zj s.heap l items)(hb:zj s.heap b Ce)(hi:kv items.toList ns)(hj:kv Ce.toList ms)(hu:A.units<cLine)(h:Q (.bool (lexLt ns ms)) s):wpAny (model prog w) A (compareOp .Lt (.ref l) (.ref b)) Q E s:=by
 obtain⟨⟨cls,dd,data,sl⟩,ho,hc,n,hd⟩:=id hl;obtain⟨⟨cls2,dd2,data2,sl2⟩,Em,hc2,n2,hd2⟩:=id hb;simp only at hc hd hc2 hd2;subst hc hd hc2 hd2;exact richCompare_meets_room (op:=.Lt) ⟨_,ho,rfl⟩ ⟨_,Em,rfl⟩ PySem.F.slot_tuple_lt PySem.F.entry_tuple_lt (PySem.F.args_tuple_lt_2 _ _) (X8 l b items Ce n n2 dd dd2 sl sl2 ns ms hi hj)
  ⟨ho,Em,show uz (lexLt ns ms)≠Value.notImplemented/\Q (.bool (lexLt ns ms)) s from⟨(λx=>nomatch x),h⟩⟩ hu
theorem cat_tup{t b:ai}{vs ws:List af}{Q:af->ag->Prop}(ht:zj s.heap t vs.toArray)(hb:zj s.heap b ws.toArray)(hv:vs≠[])(h1:ws=[]->Q (.ref t) s)(h2:ws≠[]->Q (.ref s.heap.objs.size) {s with heap:=s.heap.push {cls:=.type "tuple",data:=.seq (vs++ws).toArray} })(Cf:vs.length+ws.length<=cg):wpAny (model prog w) A (binaryOp .Add (.ref t) (.ref b)) Q E s:=by
 obtain⟨⟨cls,dd,data,sl⟩,ho,hc,n,hd⟩:=id ht;obtain⟨⟨cls2,dd2,data2,sl2⟩,Em,hc2,n2,hd2⟩:=id hb;simp only at hc hd hc2 hd2;subst hc hd hc2 hd2;have e:vs.toArray++ws.toArray=(vs++ws).toArray:=by simp
 by_cases hw:ws=[]
 ·exact concat_meets ⟨_,ho,rfl⟩ ⟨_,Em,rfl⟩ yn Am sf qz (qt _ _)
   (tuple_addW1 t b vs.toArray ws.toArray n n2 dd dd2 sl sl2 (by simpa using hv) (by simp[hw])) ⟨ho,Em,h1 hw⟩
 ·refine concat_meets ⟨_,ho,rfl⟩ ⟨_,Em,rfl⟩ yn Am sf qz (qt _ _)
   (tuple_addW2 t b vs.toArray ws.toArray n n2 dd dd2 sl sl2 (by simpa using hv) (by simpa using hw) (by rw[ba,ba];exact Cf)) ⟨ho,Em,?_⟩
  rw[e];exact h2 hw
def sIx(n d:Nat):Option Int->Nat
 |none=>d
 |some v=>if v<0 then(v+(n:Int)).toNat else min v.toNat n
theorem sIx_none(n d:Nat):sIx n d none=d:=rfl
theorem sIx_nat(n d k:Nat):sIx n d (some (k:Int))=min k n:=by show(if(k:Int)<0 then((k:Int)+(n:Int)).toNat else min (k:Int).toNat n)=min k n;rw[if_neg (by lia),fh]
theorem X9(n d:Nat)(hd:d<=n)(o:Option Int):sIx n d o<=n:=by
 cases o with
 |none=>exact hd
 |some v=>
  show(if v<0 then(v+(n:Int)).toNat else min v.toNat n)<=n
  by_cases hv:v<0
  ·rw[if_pos hv];lia
  ·rw[if_neg hv];exact Nat.min_le_right _ _
theorem KN(v:Int)(n d:Nat):(if v<0 then max (v+(n:Int)) 0 else min v (n:Int))=((sIx n d (some v):Nat):Int):=by
 show(if v<0 then max (v+(n:Int)) 0 else min v (n:Int))=(((if v<0 then(v+(n:Int)).toNat else min v.toNat n):Nat):Int)
 by_cases hv:v<0
 ·simp only[if_pos hv];lia
 ·simp only[if_neg hv];lia
theorem YA(lo hi:Option Int)(n:Nat):pd lo hi 1 (n:Int)=(((sIx n 0 lo:Nat):Int),((sIx n n hi:Nat):Int)):=by
 have h1:¬((1:Int)<0):=by lia
 unfold pd;simp only[h1,if_false];refine yc ?_ ?_
 ·cases lo with
  |none=>rfl
  |some v=>exact KN v n 0
 ·cases hi with
  |none=>rfl
  |some v=>exact KN v n n
theorem YB(i j:Nat):lx (i:Int) (j:Int) 1=j-i:=by
 unfold lx;have h1:(1:Int)>0:=by lia
 simp only[h1,if_true,Int.ediv_one]
 split<;>lia
theorem KO{v:af}{o:Option Int}{Q:Option Int->ag->Prop}(p:vm v o)(h:Q o s):wpAny (model prog w) A (Builtin.Slice.slicePartIndex v) Q E s:=by
 cases p with
 |none=>exact slicePart_none h
 |int i t=>exact slicePart_int h
theorem sliceApplied_gen{sl:ai}{vl vu:af}{lo hi:Option Int}{n:Nat}{Q:Int×Int×Nat->ag->Prop}(hs:s.heap.IsSliceOf sl vl vu .none)(pl:vm vl lo)(pu:vm vu hi)(h:Q (((sIx n 0 lo:Nat):Int),1,sIx n n hi-sIx n 0 lo) s):wpAny (model prog w) A (vf (.ref sl) (pure (n:Int))) Q E s:=by
 obtain⟨os,hos,hcs,hds⟩:=id hs;unfold vf Builtin.Slice.sliceFields;refine ae (ae (gg hos hds (x:=vl) rfl (ae (gg hos hds (x:=vu) rfl (ae (gg hos hds (x:=.none) rfl (aj ?_)))))));refine ae (slicePart_none ?_);show wpAny _ _ (if((1:Int)==0)=true then _ else _) _ _ s;rw[if_neg (by decide)];refine ae (KO pl (ae (KO pu (ae (aj ?_)))));show wpAny _ _ (match pd lo hi 1 (n:Int)with|(lo,hi)=>pure (lo,(1:Int),lx lo hi 1)) _ _ s;rw[YA lo hi n];show wpAny _ _ (pure (((sIx n 0 lo:Nat):Int),(1:Int),lx ((sIx n 0 lo:Nat):Int) ((sIx n n hi:Nat):Int) 1)) _ _ s;rw[YB];exact aj h
theorem YC(xs:Array af)(i k:Nat):((ak k).filterMap λ(m:Nat)=>xs[((i:Int)+(m:Int)*1).toNat]?).toArray=((xs.toList.drop i).take k).toArray:=by
 have e:(λ(m:Nat)=>xs[((i:Int)+(m:Int)*1).toNat]?)=λm=>xs[i+m]?:=by
  funext m
  have:((i:Int)+(m:Int)*1).toNat=i+m:=by lia
  rw[this]
 rw[e];have:=pick_run xs i k;rw[List.filterMap_map]at this;have e2:((λx=>xs[x]?)∘λx=>i+x)=λm=>xs[i+m]?:=rfl;rw[e2]at this;rw[this]
theorem getItem_tuple_cut{t sl:ai}{items:Array af}{vl vu:af}{lo hi:Option Int}{Q:af->ag->Prop}(ht:zj s.heap t items)(hs:s.heap.IsSliceOf sl vl vu .none)(pl:vm vl lo)(pu:vm vu hi)(hw:¬(sIx items.size 0 lo=0/\sIx items.size items.size hi=items.size))(h:Q (.ref s.heap.objs.size) {s with heap:=s.heap.push {cls:=.type "tuple",data:=.seq ((items.toList.drop (sIx items.size 0 lo)).take (sIx items.size items.size hi-sIx items.size 0 lo)).toArray} })(Cf:items.size<=cg):wpAny (model prog w) A (getItem (.ref t) (.ref sl)) Q E s:=by
 have htake:sizeOk (.seq ((items.toList.drop (sIx items.size 0 lo)).take (sIx items.size items.size hi-sIx items.size 0 lo)).toArray):=by
  show((items.toList.drop (sIx items.size 0 lo)).take (sIx items.size items.size hi-sIx items.size 0 lo)).toArray.size<=cg;rw[ba,kz,oz,ku]
  lia
 have hj:sIx items.size items.size hi<=items.size:=X9 _ _ (aq _) hi;obtain⟨os,hos,hcs,hds⟩:=id hs;have hTs:s.TypeIs (.ref sl) "slice":=⟨os,hos,hcs⟩;unfold getItem
 try with_reducible refine fe ?_
 first|refine ae (aj ?_)|skip
 refine ae (wpAny_sequenceKey ht.typeIs (by decide) ?_);refine ae (ij (name:=nh "__getitem__") ht.typeIs gy
  (fz gy ht.typeIs entry_tuple_getitem ?_ (args_tuple_getitem _ _)))
 show wpAny _ _ (vg (.ref t) >>=_) _ _ s;refine ae (An ht ?_);refine ae (rf hTs ?_);rw[if_pos (by decide)];refine ae (sliceApplied_gen hs pl pu ?_);have hno:¬((((sIx items.size 0 lo:Nat):Int)==0&&(1:Int)==1&&(sIx items.size items.size hi-sIx items.size 0 lo)==items.size)=true):=by intro q;rw[cu,cu]at q;have q1:((sIx items.size 0 lo:Nat):Int)=0:=eq_of_beq q.1.1;have q2:sIx items.size items.size hi-sIx items.size 0 lo=items.size:=eq_of_beq q.2;exact hw ⟨by lia,by lia⟩
 show wpAny _ _ (if(((sIx items.size 0 lo:Nat):Int)==0&&(1:Int)==1&&(sIx items.size items.size hi-sIx items.size 0 lo)==items.size)=true then _ else _) _ _ s;rw[if_neg hno,YC]
 first
  |exact ae (m:=mf _) (fj (aj ⟨_,rfl,aj h⟩) htake)
  |exact ae (m:=mf _) (fj (ae (aj (aj ⟨_,rfl,aj h⟩))) htake)
  |exact ae (ae (m:=mf _) (fj (aj (aj ⟨_,rfl,aj h⟩)) htake))
  |exact ae (ae (m:=mf _) (fj (aj ⟨_,rfl,aj h⟩) htake))
end
end HT
namespace L2
abbrev TO:=St->Hp->(Option Int->Hp->Prop)->Prop
def PO(X:Cx)(e:Option bq)(t:TO):Prop:=
 ∀(pins:List (ai×Obj))(s:ag)(σ:St)(H:Hp)(Q:Option Int->Hp->Prop),Inv X pins σ H s->t σ H Q->
  wpAny (model X.prog X.w) X.A (evalPart e X.env) (λu s'=>∃o H',Inv X pins σ H' s'/\vm u o/\Q o H') X.xe s
def YD:TO:=λ_ H Q=>Q none H
def YE(t:TE):TO:=λσ H Q=>t σ H λx H1=>∃i,x=.int i/\Q (some i) H1
theorem KQ{ns:y'}:∀{us:List af},Bf (ns.map Ga) us->kv us ns:=by
 induction ns with
 |nil=>intro us r;rw[List.map_nil]at r;cases r;exact .nil
 |cons n ns ih=>
  intro us r;rw[du]at r
  cases r with
  |cons r1 r2=>obtain⟨t,e⟩:=r1;subst e;exact .cons n t (ih r2)
section
variable{X:Cx}{e:bq}{te:TE}{lo hi:Option bq}{tl th:TO}{pos p2:Pos}
theorem YF:PO X none YD:=by intro pins s σ H Q I h;rw[evalPart_none];exact aj ⟨none,H,I,.none,h⟩
theorem YG(h:PE X e te):PO X (some e) (YE te):=by intro pins s σ H Q I hw;rw[evalPart_some];refine bF (h pins s σ H _ I hw) λu s1⟨x,H1,I1,r1,q1⟩=>?_;obtain⟨i,rfl,q⟩:=q1;obtain⟨t,rfl⟩:=r1;exact⟨some i,H1,I1,.int i t,q⟩
def SlR(X:Cx)(r:V->Option Int->Option Int->Hp->VK->Prop):Prop:=
 ∀(pins:List (ai×Obj))(s:ag)(σ:St)(H:Hp)(x:V)(v vl vu:af)(lo hi:Option Int)(sl:ai)(Q:VK),Inv X pins σ H s->RelV x v->s.heap.IsSliceOf sl vl vu .none->vm vl lo->vm vu hi->r x lo hi H Q->
  ∃T id,typeLookup (.type T) "__getitem__"=pure (some (.builtin id))/\s.TypeIs v T/\wpAny (model X.prog X.w) X.A (getItem v (.ref sl)) (EP X pins σ Q) X.xe s
theorem SlR.or{r r':V->Option Int->Option Int->Hp->VK->Prop}(h:SlR X r)(h':SlR X r'):SlR X (λx lo hi H Q=>r x lo hi H Q∨r' x lo hi H Q):=by
 intro pins s σ H x v vl vu lo hi sl Q I rx hs pl pu q
 rcases q with q|q
 ·exact h pins s σ H x v vl vu lo hi sl Q I rx hs pl pu q
 ·exact h' pins s σ H x v vl vu lo hi sl Q I rx hs pl pu q
def YH(r:V->Option Int->Option Int->Hp->VK->Prop)(te:TE)(tl th:TO):TE:=λσ H Q=>te σ H λx H1=>tl σ H1 λl H2=>th σ H2 λu H3=>r x l u H3 Q
theorem YI{r:V->Option Int->Option Int->Hp->VK->Prop}(hr:SlR X r)(he:PE X e te)(hl:PO X lo tl)(hu:PO X hi th):PE X (.Subscript e (.Slice lo hi none p2) pos) (YH r te tl th):=by intro pins s σ H Q I h;refine Subscript_ (bF (he pins s σ H _ I h) λv s1⟨x,H1,I1,r1,q1⟩=>?_);refine wpAny_Slice (bF (hl pins s1 σ H1 _ I1 q1) λvl s2⟨l,H2,I2,pl,q2⟩=>bF (hu pins s2 σ H2 _ I2 q2) λvu s3⟨u,H3,I3,pu,q3⟩=>?_);rw[evalPart_none];refine aj ?_;have I4:Inv X pins σ H3 {s3 with heap:=s3.heap.push {cls:=.type "slice",data:=.fields #[vl,vu,.none]} }:=I3.kept (t':=s3.toks) λb ob q=>ao _ q;obtain⟨T,id,hT,ht,hg⟩:=hr pins {s3 with heap:=s3.heap.push {cls:=.type "slice",data:=.fields #[vl,vu,.none]} } σ H3 x v vl vu l u s3.heap.objs.size Q I4 r1 (Heap.IsSliceOf.new ..) pl pu q3;show wpAny (model X.prog X.w) X.A (subscriptTail e (.Slice lo hi none p2) v (.ref s3.heap.objs.size)) (EP X pins σ Q) X.xe {s3 with heap:=s3.heap.push {cls:=.type "slice",data:=.fields #[vl,vu,.none]} };exact tail_any (ops:=[.ref s3.heap.objs.size,v]) ht hT hg (by with_unfolding_all rfl)
def pN(xs:Gx)(lo hi:Option Int):Gx:=(xs.drop (HT.sIx xs.length 0 lo)).take (HT.sIx xs.length xs.length hi-HT.sIx xs.length 0 lo)
theorem KR(xs:Gx)(lo hi:Option Int):(pN xs lo hi).length<=xs.length:=by
 unfold pN;rw[kz,oz]
 lia
def YJ(K:au):V->Option Int->Option Int->Hp->VK->Prop:=λx lo hi H Q=>∃a xs,x=.ref a/\Bu K H a xs/\
 ¬(HT.sIx xs.length 0 lo=0/\HT.sIx xs.length xs.length hi=xs.length)/\∀p,H p=none->Q (.ref p) (bI H p (.tup (pN xs lo hi)))
theorem YK:SlR X (YJ X.K):=by
 intro pins s σ H x v vl vu lo hi sl Q I rx hs pl pu h;obtain⟨a,xs,rfl,hx,hw,q⟩:=h;cases rx;obtain⟨its,r,ht,hz⟩:=I.tuple hx;have hlen:its.toArray.size=xs.length:=by rw[ba];exact r.length.symm
 refine⟨"tuple",_,gy.lookup,ht.typeIs,?_⟩;refine HT.getItem_tuple_cut ht hs pl pu (by rw[hlen];exact hw) ?_ (by rw[hlen];exact hz);rw[hlen];refine⟨.ref s.heap.objs.size,_,I.laid (t':=s.toks) (o:=.tup (pN xs lo hi)) (λb ob q=>ao _ q) (aq _) ?_,rfl,q _ (I.hok.fresh (aq _))⟩;exact⟨dh (KR xs lo hi) hz,_,(r.drop (HT.sIx xs.length 0 lo)).take (HT.sIx xs.length xs.length hi-HT.sIx xs.length 0 lo),Cb.new _ _⟩
def KS(K:au):R2:=λx y H Q=>∃a b ns ms,x=.ref a/\y=.ref b/\Bu K H a (ns.map Ga)/\Bu K H b (ms.map Ga)/\Q (.bl (HT.lexLt ns ms)) H
theorem KU(hu:X.A.units<cLine):Ca X (compareOp .Lt) (KS X.K):=by intro pins s σ H x y v u Q I rx ry h;obtain⟨a,b,ns,ms,rfl,rfl,ha,hb,q⟩:=h;cases rx;cases ry;obtain⟨its,r1,p1,_⟩:=I.tuple ha;obtain⟨Dk,r2,p2,_⟩:=I.tuple hb;have i1:kv its.toArray.toList ns:=KQ r1;have i2:kv Dk.toArray.toList ms:=KQ r2;exact HT.lt_tupInts p1 p2 i1 i2 hu ⟨.bl (HT.lexLt ns ms),H,I,rfl,q⟩
def KW(K:au):R2:=λx y H Q=>∃a b xs ys,x=.ref a/\y=.ref b/\Bu K H a xs/\Bu K H b ys/\xs≠[]/\xs.length+ys.length<=cg/\
 (ys=[]->Q (.ref a) H)/\(ys≠[]->∀p,H p=none->Q (.ref p) (bI H p (.tup (xs++ys))))
theorem Bf.nil_iff{xs:Gx}{us:List af}(r:Bf xs us):us=[]↔xs=[]:=by
 cases r with
 |nil=>simp
 |cons _ _=>simp
theorem YL:Ca X (binaryOp .Add) (KW X.K):=by intro pins s σ H x y v u Q I rx ry h;obtain⟨a,b,xs,ys,rfl,rfl,ha,hb,hx,hz,q1,q2⟩:=h;cases rx;cases ry;obtain⟨its,r1,p1,_⟩:=I.tuple ha;obtain⟨Dk,r2,p2,_⟩:=I.tuple hb;refine HT.cat_tup p1 p2 (λz=>hx (r1.nil_iff.mp z)) (λz=>⟨.ref a,H,I,rfl,q1 (r2.nil_iff.mp z)⟩) (λz=>?_) (by rw[<-r1.length,<-r2.length];exact hz);refine⟨.ref s.heap.objs.size,_,I.laid (t':=s.toks) (o:=.tup (xs++ys)) (λb ob q=>ao _ q) (aq _) ?_,rfl,q2 (λw=>z (r2.nil_iff.mpr w)) _ (I.hok.fresh (aq _))⟩;exact⟨by rw[cf];exact hz,_,r1.append r2,Cb.new _ _⟩
end
def eH(n:Nat)(i:Int):Option Nat:=if 0<=i then(if i<n then some i.toNat else none)else if -(n:Int)<=i then some (i+n).toNat else none
def dY{α:Type}(xs:List α)(i:Int):Option α:=(eH xs.length i).bind λj=>xs[j]?
theorem DQ{n:Nat}{i:Int}{j:Nat}(h:eH n i=some j):seqIndex? i n=some j/\j<n/\-(n:Int)<=i/\i<n:=by
 unfold eH at h
 by_cases h0:0<=i
 ·rw[if_pos h0]at h
  by_cases h1:i<n
  ·rw[if_pos h1]at h;have e:i.toNat=j:=de h;exact⟨by rw[seqIndex_of h0 h1,e],by lia,by lia,h1⟩
  ·rw[if_neg h1]at h;cases h
 ·rw[if_neg h0]at h
  by_cases h1:-(n:Int)<=i
  ·rw[if_pos h1]at h;have e:(i+n).toNat=j:=de h;exact⟨by rw[seqIndex_neg (by lia) h1,e],by lia,h1,by lia⟩
  ·rw[if_neg h1]at h;cases h
theorem DR{α:Type}{xs:List α}{i:Int}{v:α}(h:dY xs i=some v):∃j,seqIndex? i xs.length=some j/\xs[j]?=some v/\j<xs.length/\-(xs.length:Int)<=i/\i<xs.length:=by
 unfold dY at h
 cases e:eH xs.length i with
 |none=>rw[e]at h;cases h
 |some j=>rw[e]at h;obtain⟨h1,h2,h3,h4⟩:=DQ e;exact⟨j,h1,h,h2,h3,h4⟩
def DS(b:bq):Prop:=∀o i,subscripted b false o i=operate [o,i] (getItem o i)
def IxR(X:Cx)(r:R2):Prop:=
 ∀(value slice:bq)(pins:List (ai×Obj))(s:ag)(σ:St)(H:Hp)(x y:V)(v u:af)(Q:VK),Inv X pins σ H s->RelV x v->RelV y u->r x y H Q->
  subscripted slice false v u=operate [v,u] (getItem v u)->wpAny (model X.prog X.w) X.A (subscriptTail value slice v u) (EP X pins σ Q) X.xe s
def DT(X:Cx)(id:String)(r:V->Gx->Hp->VK->Prop):Prop:=
 ∀(pins:List (ai×Obj))(s:ag)(σ:St)(H:Hp)(x:V)(xs:Gx)(v:af)(us:List af)(Q:VK),Inv X pins σ H s->RelV x v->Bf xs us->r x xs H Q->
  wpAny (model X.prog X.w) X.A (call (.builtin id) (v::us)) (EP X pins σ Q) X.xe s
section
variable{X:Cx}{a b:bq}{ta tb:TE}{pos:Pos}
theorem IxR.or{r r':R2}(h:IxR X r)(h':IxR X r'):IxR X (λx y H Q=>r x y H Q∨r' x y H Q):=by
 intro value slice pins s σ H x y v u Q I rx ry q hs
 rcases q with q|q
 ·exact h value slice pins s σ H x y v u Q I rx ry q hs
 ·exact h' value slice pins s σ H x y v u Q I rx ry q hs
theorem KY{r:R2}(hr:IxR X r)(ha:PE X a ta)(hb:PE X b tb)(hs:DS b):PE X (.Subscript a b pos) (uU r ta tb):=by intro pins s σ H Q I h;exact Subscript_ (DL ha hb I h λv u s2 x y H2 I2 rx ry q=>hr a b pins s2 σ H2 x y v u Q I2 rx ry q (hs _ _))
def KZ(K:au):R2:=λx y H Q=>∃p xs i v,x=.ref p/\y=.int i/\By K H p xs/\dY xs i=some v/\Q v H
def K0(K:au):R2:=λx y H Q=>∃p xs i v,x=.ref p/\y=.int i/\Bu K H p xs/\dY xs i=some v/\Q v H
def K1:R2:=λx y H Q=>∃z i c,x=.str z/\y=.int i/\z.length<=cg/\dY z.cps.toList i=some c/\Q (.str ⟨#[c]⟩) H
theorem ix_list:IxR X (KZ X.K):=by
 intro value slice pins s σ H x y v u Q I rx ry h hs;obtain⟨p,xs,i,z,rfl,rfl,hq,he,q⟩:=h;cases rx;obtain⟨t,rfl⟩:=ry;obtain⟨its,r,pl,hz⟩:=I.list hq;obtain⟨j,h1,h2,h3,h4,h5⟩:=DR he;obtain⟨w,ew,rw'⟩:=r.get h2;have hl:=r.length;have hn:=sQ;have fin:EP X pins σ Q w s:=⟨z,H,I,rw',q⟩
 by_cases h0:0<=i
 ·have hj:i.toNat=j:=by rw[seqIndex_of h0 h5]at h1;exact de h1
  exact item_listR pl.isList h0 (by lia) (by rw[hj];simpa using ew) fin hs
 ·have hj:(i+(its.toArray.size:Int)).toNat=j:=by rw[seqIndex_neg (by lia) h4]at h1;rw[ba,<-hl];exact de h1
  exact subscriptTail_builtinR (x:=w) pl.isList.typeIs slot_list_getitem.lookup
   (wpAny_getItem_list_neg (Q:=λr s'=>r=w/\EP X pins σ Q r s') pl.isList (by lia) (by rw[ba]<;>lia) (by lia) (by rw[hj];simpa using ew) ⟨rfl,fin⟩) hs
theorem ix_tup:IxR X (K0 X.K):=by
 intro value slice pins s σ H x y v u Q I rx ry h hs;obtain⟨p,xs,i,z,rfl,rfl,hq,he,q⟩:=h;cases rx;obtain⟨t,rfl⟩:=ry;obtain⟨its,r,pl,hz⟩:=I.tuple hq;obtain⟨j,h1,h2,h3,h4,h5⟩:=DR he;obtain⟨w,ew,rw'⟩:=r.get h2;have hl:=r.length;have hn:=sQ;have fin:EP X pins σ Q w s:=⟨z,H,I,rw',q⟩
 exact subscriptTail_builtinR (x:=w) pl.typeIs slot_tuple_getitem.lookup
  (getItem_tuple (j:=j) (Q:=λr s'=>r=w/\EP X pins σ Q r s') pl (by lia) (by lia) (by rw[ba,<-hl];exact h1) (by simpa using ew) ⟨rfl,fin⟩) hs
theorem YM:IxR X K1:=by
 intro value slice pins s σ H x y v u Q I rx ry h hs;obtain⟨z,i,c,rfl,rfl,hz,he,q⟩:=h;obtain⟨t,rfl⟩:=rx;obtain⟨t',rfl⟩:=ry;obtain⟨j,h1,h2,h3,h4,h5⟩:=DR he;have hl:z.cps.toList.length=z.length:=by simp[Str.length]
 rw[hl]at h1 h4 h5;have hn:=sQ;exact tail_any (typeIs_str s z t) slot_str_getitem.lookup (getItem_str (c:=c) (by have e1:decide (i < -(2^63:Int))=false:=decide_eq_false (by lia);have e2:decide (i>=2^63)=false:=decide_eq_false (by lia);rw[e1,e2,Bool.or_false]) (by rw[h1];simpa using h2) ⟨.str ⟨#[c]⟩,H,I.tok _,⟨_,rfl⟩,q⟩) hs
def DU(K:au):R2:=λx y H Q=>KZ K x y H Q∨K0 K x y H Q∨K1 x y H Q
theorem K2:IxR X (DU X.K):=ix_list.or (ix_tup.or YM)
theorem YN(its:List af)(n j:Nat)(u:af):oa (·.setIfInBounds j u) {cls:=.type "list",data:=.seq its.toArray n}={cls:=.type "list",data:=.seq (its.set j u).toArray n}:=by simp[oa]
theorem Inv.lst{pins:List (ai×Obj)}{σ:St}{H:Hp}{s:ag}{p:ai}{xs:Gx}(I:Inv X pins σ H s)(h:H p=some (.lst xs)):
  ∃(its:List af)(n:Nat),Bf xs its/\s.heap.get? p=some {cls:=.type "list",data:=.seq its.toArray n}/\xs.length<=cg:=by
 obtain⟨z,its,n,r,e⟩:=I.hok p _ h;exact⟨its,n,r,e,z⟩
theorem Inv.lstUpd{pins:List (ai×Obj)}{σ:St}{H:Hp}{s:ag}{p:ai}{xs ys:Gx}{its its':List af}{n n':Nat}{f:Obj->Obj}(I:Inv X pins σ H s)(h:H p=some (.lst xs))(ho:s.heap.get? p=some {cls:=.type "list",data:=.seq its.toArray n})(hf:f {cls:=.type "list",data:=.seq its.toArray n}={cls:=.type "list",data:=.seq its'.toArray n'})(r:Bf ys its')(hz:ys.length<=cg)(t:Nat):
  Inv X pins σ (bI H p (.lst ys)) {s with heap:=s.heap.update p f,toks:=t}:=by
 have e:(s.heap.update p f).get? p=some {cls:=.type "list",data:=.seq its'.toArray n'}:=by rw[kl f ho (by rw[hf]<;>rfl),hf]
 refine I.write (x:=p) (e:=p) (by rw[h];trivial) (.inl rfl) (λb u hb q=>(ll _ _ (dk hb)).trans q) ⟨_,e⟩ ?_;exact⟨hz,its',n',r,e⟩
def DV:V->V->V->Hp->(Hp->Prop)->Prop:=λo i v H Q=>∃p xs k j,o=.ref p/\i=.int k/\H p=some (.lst xs)/\eH xs.length k=some j/\Q (bI H p (.lst (xs.set j v)))
theorem YO:J0 X DV:=by
 intro pins s σ H o i v ov iv u Q I ro ri rv h;obtain⟨p,xs,k,j,rfl,rfl,hp,hj,q⟩:=h;cases ro;obtain⟨t,rfl⟩:=ri;obtain⟨its,n,r,ho,hz⟩:=I.lst hp;obtain⟨h1,h2,h3,h4⟩:=DQ hj;have hl:=r.length;have hn:=sQ;have I':Inv X pins σ (bI H p (.lst (xs.set j v))) {s with heap:=s.heap.update p (oa (·.setIfInBounds j u))}:=I.lstUpd hp ho (YN its n j u) (r.set rv j) (by rw[tw];exact hz) s.toks
 by_cases h0:0<=k
 ·have hk:k.toNat=j:=by rw[seqIndex_of h0 h4]at h1;exact de h1
  exact PySem.W.ki_setAt ho h0 (by lia) (by rw[ba,<-hl];exact h4) (by rw[hk];exact⟨_,I',q⟩)
 ·have hk:(k+(its.toArray.size:Int)).toNat=j:=by rw[seqIndex_neg (by lia) h3]at h1;rw[ba,<-hl];exact de h1
  exact PySem.W.ki_setBack ho (by lia) (by rw[ba,<-hl];exact h3) (by lia) (by rw[hk];exact⟨_,I',q⟩)
theorem YQ(lo hi:Option Int)(n:Nat):(sliceBounds lo hi none n).1=((HT.sIx n 0 lo:Nat):Int)/\(sliceBounds lo hi none n).2.1=((HT.sIx n n hi:Nat):Int)/\(sliceBounds lo hi none n).2.2=1:=by
 refine⟨?_,?_,rfl⟩
 ·cases lo with
  |none=>simp[sliceBounds,HT.sIx]
  |some i=>
   simp only[sliceBounds,HT.sIx,Option.getD_none,show(1:Int)>0 by decide,if_true]
   by_cases h:i<0
   ·simp only[h,if_true]<;>lia
   ·simp only[h,if_false]<;>lia
 ·cases hi with
  |none=>simp[sliceBounds,HT.sIx]
  |some i=>
   simp only[sliceBounds,HT.sIx,Option.getD_none,show(1:Int)>0 by decide,if_true]
   by_cases h:i<0
   ·simp only[h,if_true]<;>lia
   ·simp only[h,if_false]<;>lia
theorem YR(its:List af)(lo hi:Option Int):slicePick its.toArray lo hi none=((its.drop (HT.sIx its.length 0 lo)).take (HT.sIx its.length its.length hi-HT.sIx its.length 0 lo)).toArray:=by obtain⟨h1,h2,h3⟩:=YQ lo hi its.toArray.size;unfold slicePick;rw[h1,h2,h3];simp only[sliceRange_one,pick_run,ba]<;>rfl
def YS(K:au):V->Option Int->Option Int->Hp->VK->Prop:=λx lo hi H Q=>∃a xs,x=.ref a/\By K H a xs/\∀p,H p=none->Q (.ref p) (bI H p (.lst (pN xs lo hi)))
theorem YT:SlR X (YS X.K):=by intro pins s σ H x v vl vu lo hi sl Q I rx hs pl pu h;obtain⟨a,xs,rfl,hx,q⟩:=h;cases rx;obtain⟨its,r,ht,hz⟩:=I.list hx;have hlen:=r.length;refine⟨"list",_,slot_list_getitem.lookup,ht.isList.typeIs,?_⟩;refine wpAny_getItem_list_slice ht.isList hs pl pu .none (by simp) ?_ (by rw[ba]<;>lia);rw[YR,<-hlen];refine⟨.ref s.heap.objs.size,_,I.laid (t':=s.toks) (o:=.lst (pN xs lo hi)) (λb ob q=>ao _ q) (aq _) ?_,rfl,q _ (I.hok.fresh (aq _))⟩;exact⟨dh (KR xs lo hi) hz,_,0,(r.drop (HT.sIx xs.length 0 lo)).take (HT.sIx xs.length xs.length hi-HT.sIx xs.length 0 lo),az _ rfl⟩
theorem K4:Bi X (.builtin "len") (λxs H Q=>∃p ys,xs=[.ref p]/\(By X.K H p ys∨Bu X.K H p ys)/\Q (.int ys.length) H):=by
 intro pins s σ H xs us Q I r h;obtain⟨p,ys,rfl,hq,q⟩:=h;obtain⟨u,rfl,rx⟩:=gO r;cases rx;have hn:=sQ
 rcases hq with hq|hq
 ·obtain⟨its,r',pl,hz⟩:=I.list hq;have hlen:=r'.length;exact Calls.call_len_list pl.isList (by simp only[ba]<;>lia) ⟨.int ys.length,H,I.tok _,⟨s.toks+1,by rw[ba,hlen]⟩,q⟩
 ·obtain⟨its,r',pl,hz⟩:=I.tuple hq;have hlen:=r'.length;exact len_tuple pl (by simp only[ba]<;>lia) ⟨.int ys.length,H,I.tok _,⟨s.toks+1,by rw[ba,hlen]⟩,q⟩
theorem YU:Bi X (.type "list") (λxs H Q=>∃p ys,xs=[.ref p]/\(By X.K H p ys∨Bu X.K H p ys)/\∀l,H l=none->Q (.ref l) (bI H l (.lst ys))):=by
 intro pins s σ H xs us Q I r h;obtain⟨p,ys,rfl,hq,q⟩:=h;obtain⟨u,rfl,rx⟩:=gO r;cases rx;have fin:∀(its:List af),Bf ys its->ys.length<=cg->∀(h':cy)(c':Nat),(∀b o',s.heap.get? b=some o'->h'.get? b=some o')->
   h'.get? s.heap.objs.size=some {cls:=.type "list",dict:=none,data:=.seq its.toArray c',slots:=#[]}->EP X pins σ Q (.ref s.heap.objs.size) {s with heap:=h'}:=λits r' hz h' c' kp e=>
  ⟨.ref s.heap.objs.size,_,I.laid (t':=s.toks) kp (aq _) (show Bk X.prog X.w _ h' _ (.lst ys) from⟨hz,its,c',r',e⟩),rfl,q _ (I.hok.fresh (aq _))⟩
 rcases hq with hq|hq
 ·obtain⟨its,r',pl,hz⟩:=I.list hq;have hlen:=r'.length;obtain⟨o,ho,hc,n,hd⟩:=pl.isList;exact call_list_seq p (.inl rfl) ho hc hd (λh' c' kp e=>fin its r' hz h' c' kp e) (by simp only[ba]<;>lia)
 ·obtain⟨its,r',pl,hz⟩:=I.tuple hq;have hlen:=r'.length;obtain⟨o,ho,hc,n,hd⟩:=pl;exact call_list_seq p (.inr rfl) ho hc hd (λh' c' kp e=>fin its r' hz h' c' kp e) (by simp only[ba]<;>lia)
theorem K5:Bi X (.type "tuple") (λxs H Q=>∃p ys,xs=[.ref p]/\((By X.K H p ys/\∀l,H l=none->Q (.ref l) (bI H l (.tup ys)))∨(Bu X.K H p ys/\Q (.ref p) H))):=by
 intro pins s σ H xs us Q I r h;obtain⟨p,ys,rfl,h⟩:=h;obtain⟨u,rfl,rx⟩:=gO r;cases rx
 rcases h with⟨hq,q⟩|⟨hq,q⟩
 ·obtain⟨its,r',pl,hz⟩:=I.list hq;have hlen:=r'.length;refine call_tuple_list pl.isList (λh' kp=>?_) (by simp only[ba]<;>lia);have I1:Inv X pins σ H {s with heap:=h'}:=I.kept (t':=s.toks) kp;have I2:Inv X pins σ (bI H h'.objs.size (.tup ys)) {s with heap:=h'.push {cls:=.type "tuple",data:=.seq its.toArray} }:=I1.laid (t':=s.toks) (λb o e=>ao _ e) (aq _) (show Bk X.prog X.w _ _ _ (.tup ys) from⟨hz,its,r',Cb.new _ _⟩);exact⟨.ref h'.objs.size,_,I2,rfl,q _ (I1.hok.fresh (aq _))⟩
 ·obtain⟨its,r',pl,hz⟩:=I.tuple hq;exact call_tuple_same pl ⟨.ref p,H,I,rfl,q⟩
def yW(K:au)(T:String)(x:V)(H:Hp):Prop:=match x with
 |.str _=>T="str"
 |.int _=>T="int"
 |.ref p=>(T="list"/\∃xs,By K H p xs)∨(T="tuple"/\∃o,K.lookup p=some o/\o.cls=.type "tuple"/\o.dict=none) ∨
   (T="dict"/\((∃kvs,H p=some (.dK kvs))∨∃kvs,H p=some (.dT kvs)))∨(T="set"/\∃S n,H p=some (.set S n))
 |_=>False
theorem YV{pins:List (ai×Obj)}{σ:St}{H:Hp}{s:ag}{T:String}{x:V}{v:af}(I:Inv X pins σ H s)(r:RelV x v)(ty:yW X.K T x H):
  s.TypeIs v T/\∀a,v=.ref a->∃ob,s.heap.get? a=some ob/\ob.dict=none:=by
 cases x with
 |str z=>
  obtain⟨t,rfl⟩:=r
  cases (show T="str" from ty)
  exact⟨typeIs_str s z t,λ_ e=>nomatch e⟩
 |int i=>
  obtain⟨t,rfl⟩:=r
  cases (show T="int" from ty)
  exact⟨typeIs_int s i t,λ_ e=>nomatch e⟩
 |ref p=>
  cases r
  rcases ty with⟨rfl,xs,hq⟩|⟨rfl,o,hk,hc,hd⟩|⟨rfl,hk⟩|⟨rfl,S,n,hk⟩
  ·obtain⟨its,_,pl,_⟩:=I.list hq;refine⟨pl.isList.typeIs,λa e=>?_⟩;cases e;obtain⟨o,n,e,c,hd,_⟩:=pl;exact⟨o,e,hd⟩
  ·refine⟨⟨o,I.kIn p o hk,hc⟩,λa e=>?_⟩;cases e;exact⟨o,I.kIn _ o hk,hd⟩
  ·have z:∃o,s.heap.get? p=some o/\o.ExactDict:=by
    rcases hk with⟨kvs,hk⟩|⟨kvs,hk⟩
    ·obtain⟨_,_,_,_,o,_,_,e,ex,_⟩:=I.hok p _ hk;exact⟨o,e,ex⟩
    ·obtain⟨_,_,_,_,o,_,_,e,ex,_⟩:=I.hok p _ hk;exact⟨o,e,ex⟩
   obtain⟨o,e,ex⟩:=z;refine⟨⟨o,e,ex.1⟩,λa e2=>?_⟩;cases e2;exact⟨o,e,ex.2.1⟩
  ·obtain⟨o,_,_,_,e,ex,_⟩:=I.hok p _ hk;refine⟨⟨o,e,ex.1⟩,λa e2=>?_⟩;cases e2;exact⟨o,e,ex.2.1⟩
 |_=>exact nt ty
def YW(K:au)(T:String)(r:V->Gx->Hp->VK->Prop)(to:TE)(t:TA):TE:=λσ H Q=>to σ H λx H1=>yW K T x H1/\t σ H1 λxs H2=>r x xs H2 Q
variable{o e:bq}{es:List bq}{to:TE}{t:TA}{name:Str}{apos cpos:Pos}{T id:String}{r:V->Gx->Hp->VK->Prop}
theorem K6(pa:PlainAttrs T)(slot:Slot T name id)(hty:typeOf (.builtin id)=pure (.type "method_descriptor"))(hm:DT X id r)(ho:PE X o to)(ha:PA X (e::es) t)(hbase:attributeBase o name X.env (eval o X.env)=eval o X.env:=by rfl)(hfew:((backTo cpos (ar (e::es) X.env)).all (λx=>!x.1)&&(backToKw cpos (keywordEach [] X.env)).all (λx=>x.1.isSome)
   && decide ((e::es).length+([]:List Keyword).length+(if([]:List Keyword).isEmpty then 0 else 1)<30))=true:=by rfl)(hline:(apos.endLine==cpos.line)=true:=by rfl)(hs:ar (e::es) X.env=(false,eval e X.env)::ar es X.env:=by rfl)(hplain:(backTo cpos (ar es X.env)).any (·.1)=false:=by rfl):
  PE X (.Call (.Attribute o name apos) (e::es) [] cpos) (YW X.K T r to t):=by
 intro pins s σ H Q I h;refine wpAny_Call_method_late hbase hfew hline rfl (bF (ho pins s σ H _ I h) λv s1⟨x,H1,I1,r1,ty,q1⟩=>?_);obtain⟨h1,h2⟩:=YV I1 r1 ty;refine⟨T,id,pa,slot,hty,h1,h2,?_⟩;have hA:=ha cpos pins s1 σ H1 _ I1 q1;rw[hs]at hA⊢;refine zb (by show(false||(backTo cpos (ar es X.env)).any (·.1))=false;rw[hplain]<;>rfl) (uh ?_);exact bF hA λus s2⟨vs,H2,I2,r2,q2⟩=>hm pins s2 σ H2 x vs v us Q I2 r1 r2 q2
end
def K7(X:Cx)(id:String)(r:V->Gx->Hp->VK->Prop):Prop:=
 ∀(pins:List (ai×Obj))(s:ag)(σ:St)(H:Hp)(x:V)(xs:Gx)(v:af)(us:List af)(Q:VK),Inv X pins σ H s->RelV x v->Bf xs us->r x xs H Q->
  wpAny (model X.prog X.w) X.A (call (.builtin id) (v::us)) (EP X pins σ Q) X.xe s
theorem Bf.one:∀{x:V}{us:List af},Bf [x] us->∃u,us=[u]/\RelV x u
 |_,_,.cons r .nil=>⟨_,rfl,r⟩
theorem Bf.eraseIdx:∀{xs:Gx}{us:List af}(i:Nat),Bf xs us->Bf (xs.eraseIdx i) (us.eraseIdx i)
 |_,_,_,.nil=>.nil
 |_,_,0,.cons _ t=>t
 |_,_,i+1,.cons r t=>.cons r (Bf.eraseIdx i t)
theorem Bf.rep{xs:Gx}{us:List af}(h:Bf xs us):∀k:Nat,Bf (bx k xs).flatten (bx k us).flatten
 |0=>.nil
 |k+1=>by rw[jk,jk,mm,mm];exact Bf.append h (Bf.rep h k)
theorem K8{α:Type}:∀(l:List α)(i:Nat),(l.eraseIdx i).length<=l.length
 |[],_=>aq _
 |_::_,0=>xi _
 |_::r,i+1=>Nat.succ_le_succ (K8 r i)
theorem K9(its:List af):∀(k:Nat)(acc:List af),
  List.foldl (λx1 x2=>x1++x2) acc.toArray (bx k its.toArray)=(acc++(bx k its).flatten).toArray
 |0,acc=>by simp
 |k+1,acc=>by
  have e:acc.toArray++its.toArray=(acc++its).toArray:=by simp
  have e2:(acc++its)++(bx k its).flatten=acc++(bx (k+1) its).flatten:=by rw[jk,mm,vt]
  rw[<-e2,<-K9 its k (acc++its),<-e,jk,List.foldl_cons]
section
variable{X:Cx}{pins:List (ai×Obj)}{σ:St}{H:Hp}{s:ag}{l b:ai}{xs ys zs:Gx}
theorem Inv.lset{its its':List af}{n:Nat}{f:Array af->Array af}{t':Nat}(I:Inv X pins σ H s)(hH:H l=some (.lst xs))(e:s.heap.get? l=some {cls:=.type "list",data:=.seq its.toArray n})(hf:f its.toArray=its'.toArray)(hv:Bf ys its')(hz:ys.length<=cg):
  Inv X pins σ (bI H l (.lst ys)) {s with heap:=s.heap.update l (oa f),toks:=t'}:=by
 have q:=zo e f;rw[hf]at q;refine I.write (x:=l) (e:=l) (by rw[hH];exact trivial) (.inl rfl) (λb' u hb hu=>(ll s.heap (oa f) (dk hb)).trans hu) ⟨_,q⟩ ?_;exact⟨hz,its',_,hv,q⟩
theorem Inv.lnew{its:List af}{t':Nat}(I:Inv X pins σ H s)(hv:Bf ys its)(hz:ys.length<=cg):
  Inv X pins σ (bI H s.heap.objs.size (.lst ys)) {s with heap:=s.heap.push {cls:=.type "list",data:=.seq its.toArray},toks:=t'}:=
 I.laid (λ_ _ q=>ao _ q) (aq _) ⟨hz,its,0,hv,az _ rfl⟩
theorem Inv.fresh(I:Inv X pins σ H s):H s.heap.objs.size=none:=I.hok.fresh (aq _)
theorem Inv.lstM(I:Inv X pins σ H s)(hH:H l=some (.lst xs)):xs.length<=cg/\∃(its:List af)(n:Nat),Bf xs its/\xs.length=its.length/\s.heap.get? l=some {cls:=.type "list",data:=.seq its.toArray n}:=by obtain⟨z,its,n,r,e⟩:=I.hok l _ hH;exact⟨z,its,n,r,r.length,e⟩
theorem YX{n:Nat}(h:n<=cg):qd n=false:=by unfold qd;exact decide_eq_false (by lia)
end
section
variable{X:Cx}
def YY:V->Gx->Hp->VK->Prop:=λx vs H Q=>∃l xs y,x=.ref l/\vs=[y]/\H l=some (.lst xs)/\xs.length<cg/\Q .non (bI H l (.lst (xs++[y])))
theorem YZ:K7 X "list.append" YY:=by
 intro pins s σ H x vs v us Q I rx rv h;obtain⟨l,xs,y,rfl,rfl,hH,hz,q⟩:=h;cases rx;obtain⟨u,rfl,ru⟩:=rv.one;obtain⟨z,its,n,r,hl,e⟩:=I.lstM hH;refine xc F.slot_list_append ⟨_,e,rfl⟩ F.entry_list_append (F.args_list_append_2 _ _) (PySem.list_append l its.toArray n u (by rw[ba];lia)) ⟨e,?_⟩;refine⟨.non,_,I.lset (its':=its++[u]) hH e (by simp) (r.append (.cons ru .nil)) ?_,rfl,q⟩;rw[cf,zq]
 lia
def Y0:V->Gx->Hp->VK->Prop:=λx vs H Q=>∃l xs i k y,x=.ref l/\vs=[.int i]/\H l=some (.lst xs)/\-(2^63)<=i/\i<2^63/\seqIndex? i xs.length=some k/\xs[k]?=some y/\Q y (bI H l (.lst (xs.eraseIdx k)))
theorem Y1:K7 X "list.pop" Y0:=by
 intro pins s σ H x vs v us Q I rx rv h;obtain⟨l,xs,i,k,y,rfl,rfl,hH,h1,h2,hk,hy,q⟩:=h;cases rx;obtain⟨u,rfl,ru⟩:=rv.one;obtain⟨t,rfl⟩:=ru;obtain⟨z,its,n,r,hl,e⟩:=I.lstM hH;obtain⟨w,hw,rw'⟩:=r.get hy;refine xc F.slot_list_pop ⟨_,e,rfl⟩ F.entry_list_pop (F.args_list_pop_2 _ _)
  (MeetsSeq.list_pop_at l its.toArray n i t k w (fitsIndex_both h1 h2) (by rw[ba,<-hl];exact hk) (by rw[<-ly];exact hw) (by rw[ba];lia)) ⟨e,?_⟩
 refine⟨y,_,I.lset (its':=its.eraseIdx k) hH e ?_ (r.eraseIdx k) ?_,rw',q⟩
 ·show its.toArray.eraseIdxIfInBounds k=(its.eraseIdx k).toArray;rw[List.eraseIdxIfInBounds_toArray]
 ·have:=K8 xs k
  lia
def LA:R2:=λx y H Q=>∃l b xs zs,x=.ref l/\y=.ref b/\H l=some (.lst xs)/\H b=some (.lst zs)/\xs.length+zs.length<=cg/\∀p,H p=none->Q (.ref p) (bI H p (.lst (xs++zs)))
theorem op_cat:Ca X (binaryOp .Add) LA:=by
 intro pins s σ H x y v u Q I rx ry h;obtain⟨l,b,xs,zs,rfl,rfl,hH,hB,hz,q⟩:=h;cases rx;cases ry;obtain⟨z,its,n,r,hl,e⟩:=I.lstM hH;obtain⟨z2,Dk,n2,r2,hl2,e2⟩:=I.lstM hB;refine PySem.P.add_list e e2 ?_ (by rw[ba,ba];lia);have ea:its.toArray++Dk.toArray=(its++Dk).toArray:=by simp
 rw[ea];exact⟨.ref _,_,I.lnew (t':=s.toks) (r.append r2) (by rw[cf];lia),rfl,q _ I.fresh⟩
def LB:R2:=λx y H Q=>∃l k xs,x=.ref l/\y=.int k/\H l=some (.lst xs)/\-(2^63)<=k/\k<2^63/\xs.length*k.toNat<=cg/\
 ∀p,H p=none->Q (.ref p) (bI H p (.lst (bx k.toNat xs).flatten))
theorem Y2{α:Type}(xs:List α)(k:Nat):(bx k xs).flatten.length=k*xs.length:=by
 induction k with
 |zero=>simp
 |succ k ih=>rw[jk,mm,cf,ih,ua,Nat.add_comm]
theorem Y3:Ca X (binaryOp .Mult) LB:=by
 intro pins s σ H x y v u Q I rx ry h;obtain⟨l,k,xs,rfl,rfl,hH,h1,h2,hz,q⟩:=h;cases rx;obtain⟨t,rfl⟩:=ry;obtain⟨z,its,n,r,hl,e⟩:=I.lstM hH;have hlen:its.toArray.size*k.toNat<=cg:=by rw[ba,<-hl];exact hz
 have Dx:¬its.toArray.size*k.toNat>(2^63-1)/8:=by
  have:(cg:Nat)<=(2^63-1)/8:=by decide
  lia
 have hfit:¬(!Builtin.List.listFitsIndex k)=true:=by rw[fitsIndex_both h1 h2];exact ig
 have hlong:¬qd (its.toArray.size*k.toNat)=true:=by rw[YX hlen];exact ig
 have Eh:List.foldl (λx1 x2=>x1++x2) #[] (bx (if its.toArray.isEmpty=true then 0 else k.toNat) its.toArray)=(bx k.toNat its).flatten.toArray:=by
  have f0:∀m:Nat,List.foldl (λx1 x2=>x1++x2) #[] (bx m its.toArray)=(bx m its).flatten.toArray:=λm=>by have:=K9 its m [];rw[List.nil_append]at this;exact this
  rw[f0]
  cases its with
  |nil=>simp
  |cons a r'=>rw[if_neg (by simp)]
 refine wpAny_binaryOp_repeat_ref (T:="list") (U:="int") (by decide) ⟨_,e,rfl⟩ (λs'=>typeIs_int s' k t) noFill_list_mul F.fills_int_mul F.slot_int_rmul repeat_list F.slot_int_index.lookup
  (xc F.slot_int_rmul (typeIs_int s k t) F.entry_int_rmul (F.args_int_rmul_2 _ _) (int___rmul___int_list k t l its.toArray n)
   ⟨e,rfl,⟨_,e,rfl⟩,xc F.slot_list_mul ⟨_,e,rfl⟩ F.entry_list_mul (F.args_list_mul_2 _ _) (AutoListH.list___mul___list_int_3 l its.toArray n k t hfit Dx hlong) ⟨e,?_⟩⟩)
 rw[Eh];exact⟨.ref _,_,I.lnew (t':=s.toks) (r.rep k.toNat) (by rw[Y2,Nat.mul_comm];exact hz),rfl,q _ I.fresh⟩
end
section
variable{prog:bj}{w:cn}{A:cq}{E:af->ag->Prop}{s:ag}
set_option maxRecDepth 100000 in
end
end L2
namespace Att
open PySem PySem.W PySem.Calls PyProof.Rows
theorem Y4{P:Params}{h:cy}:∀(ns:y')(vs:List af),WellAll P h vs (ns.map WData.int)->kv vs ns:=by
 intro ns
 induction ns with
 |nil=>intro vs w;rw[List.map_nil]at w;cases w;exact .nil
 |cons n ns ih=>
  intro vs w;rw[du]at w
  cases w with
  |cons a b=>cases a;exact .cons _ _ (ih _ b)
theorem Y5{l:OpenLaw}{n:Nat}(hn:l.most=some n){P:Params}{h:cy}{args:List WData}{fF:List af}(hpre:l.row.toRowW.claim.pre args=true)(hwl:WellAll P h fF args):
  ∃a vs ns,fF=[iq a]/\args=[WData.list (ns.map WData.int)]/\h.get? a=some {cls:=.type "list",data:=.seq vs.toArray}/\kv vs ns/\ns.length<=n:=by
 have hsh:WShape.hasAll [] args [.list .int]=true:=(pre_splitW hpre).1;have hc:l.pre.holds [] {args:=args}=true:=(pre_splitW hpre).2;obtain⟨d,r,rfl,h1,h2⟩:=hasAllW_cons hsh;obtain rfl:=hasAllW_nil h2;obtain⟨xs,rfl,h3⟩:=hasW_list h1;obtain⟨ns,rfl⟩:=items_int h3;have hlen:ns.length<=n:=by
  unfold OpenLaw.pre at hc;have h4:(WTm.not (.lt (.lit (.int (n:Int))) (.len (.arg 0)))).holds [] {args:=[.list (ns.map .int)]}=true:=by have h4:=(holds_andW hc).1;rw[hn]at h4;exact h4
  have h5:=condW_of h4 (w_not (w_lt w_lit (w_len_list (w_arg rfl))));rw[ax]at h5;refine Nat.le_of_not_lt λq=>?_;have q':(n:Int)<((ns.length:Nat):Int):=by lia
  first
   |(rw[decide_eq_true q']at h5;exact absurd h5 (by decide))
   |(simp at h5;lia)
 cases hwl with
 |cons w1 w2=>
  cases w2
  cases w1 with
  |list ho Dl=>exact⟨_,_,ns,rfl,rfl,ho,Y4 ns _ Dl,hlen⟩
theorem Y6(l:OpenLaw)(args:List WData):l.row.toRowW.claim.post args (.bool true) args=true:=
 postW_of (r:=l.row.toRowW) (X:=(true==true))
  (show WShape.has [] (.bool true) .bool=true by first|rfl|decide|simp[WShape.has,WShape.arms,WShape.armsAll])
  (show(WTm.eq .res (.lit (.bool true))).value [] {args:=args,res:=some (.bool true),after:=args}=some (.bool (true==true)) from w_eq_bool (w_res rfl) w_lit) rfl
theorem attach_call{l:OpenLaw}{n:Nat}{q:bj}{cO:Ax}{XP:(Str->Option af)->cy->Prop}{YP:cn->cy->Prop}{d:zr}(hn:l.most=some n)(hdf:d.params.defaults=[])(call:∀(w:cn)(s₀ s₁:ag)(mg mb:Str->Option af)(fa:ai)(o:Obj)(pm cd doc:af)(a:ai)(vs:List af)(ns:y'),
   Ground q cO [] XP w s₀ mg mb s₁.heap->YP w s₁.heap->
   s₁.heap.get? fa=some o->o.data=.func (docDef d.name d.params d.body d.scope pm cd doc)->s₁.heap.CodeRec cd d.name->mg d.name=some (.ref fa)->
   s₁.heap.get? a=some {cls:=.type "list",data:=.seq vs.toArray}->kv vs ns->ns.length<=n->s₁.gens=#[]->
   codeAny (model l.prog w) callerA (.call (.ref fa) ⟨[.ref a],[]⟩) (λr s'=>r=.ok (.ret (.bool true))/\OldK s₁.heap s'.heap/\s'.os=s₁.os/\sv s'.gens) s₁):
  WalkO q cO XP YP l.row.toRowW d [] (λf vs=>xu f vs):=by
 intro w s₀ s₁ mg mb G Y fa o pm cd doc dV kV ho hd hcd hD hmg hg args fF as hpre hlay hrd hwl hlo;obtain rfl:dV=.none:=Dflts.none hD hdf;obtain rfl:kV=.none:=Dflts.noKw hD;obtain⟨a,vs,ns,rfl,rfl,Fq,hints,hlen⟩:=Y5 hn hpre hwl;refine enter_call (ur (call w s₀ s₁ mg mb fa o pm cd doc a vs ns G Y ho (fd_plain hd) hcd hmg Fq hints hlen hg) λr s' hq=>?_);obtain⟨rfl,h2,h3,h4⟩:=hq;exact⟨.inl ⟨.bool true,.bool true,[],rfl,λ_=>rfl,.bool true,Y6 l _,λ_=>⟨pw,λ_ hm=>(nomatch hm)⟩⟩,h2,h3,h4⟩
end Att
namespace L2
theorem sT:∀{vs:List af}{ns:y'},kv vs ns->Bf (ns.map Ga) vs
 |_,_,.nil=>.nil
 |_,_,.cons n t h=>.cons ⟨t,rfl⟩ (sT h)
def pO(s:fv):kr:=match s with
 |.FunctionDef _ a _ _ _ _ _ _ _ _=>a
 |_=>{posonlyargs:=[],args:=[],vararg:=none,kwonlyargs:=[],kw_defaults:=[],kwarg:=none,defaults:=[]}
def mO(s:fv):List fv:=match s with
 |.FunctionDef _ _ b _ _ _ _ _ _ _=>b
 |_=>[]
def aZ(s:fv):gf:=match s with
 |.FunctionDef _ _ _ _ _ _ sc _ _ _=>sc
 |_=>{kind:=.function,names:=[],isGenerator:=false,isCoroutine:=false}
abbrev E0:XK:=λ_ _ _=>False
structure Fun(K:au)(x qual:Str)(st:fv)(f:ai)(fd:bh):Prop where
 ex:∃(oc:af)(od:Option ai)(kV doc pm:af)(an:Option ai)(cdv ct:af)(osl:Array (Option af)),
  fd=pz x qual (pO st) (mO st) (aZ st) .none kV doc pm an cdv ct/\K.lookup f=some ⟨oc,od,.func fd,osl⟩/\xb K cdv qual=true
 kp:tu K (.ref f)=true
section
variable{P:bj}{w:cn}{K:au}{mg:Str->Option af}{base:cy}
theorem Fun.binds{x qual:Str}{st:fv}{f:ai}{fd:bh}{ps:Ax}(F:Fun K x qual st f fd)(h:∀(kV doc pm:af)(an:Option ai)(cdv ct:af)(us:List af),us.length=ps.length->bindArgs (pz x qual (pO st) (mO st) (aZ st) .none kV doc pm an cdv ct) ⟨us,[]⟩=pure (ps.zip us)):Binds K fd ps []:=by
 obtain⟨oc,od,kV,doc,pm,an,cdv,ct,osl,rfl,lk,hcd⟩:=F.ex;exact .all (h kV doc pm an cdv ct)
theorem LC{x qual:Str}{st:fv}{f:ai}{oc:af}{od an:Option ai}{osl:Array (Option af)}{kV doc pm cdv ct:af}(l:K.lookup f=some ⟨oc,od,.func (pz x qual (pO st) (mO st) (aZ st) .none kV doc pm an cdv ct),osl⟩)(c:xb K cdv qual=true)(k:tu K (.ref f)=true):Fun K x qual st f (pz x qual (pO st) (mO st) (aZ st) .none kV doc pm an cdv ct):=⟨⟨oc,od,kV,doc,pm,an,cdv,ct,osl,rfl,l,c⟩,k⟩
end
theorem LD{A B:Prop}(h:B):if false=true then A else B:=by rw[if_neg ig];exact h
theorem LF{A B:Prop}(h:A):if true=true then A else B:=by rw[if_pos rfl];exact h
def Cv(H H':Hp):Prop:=∀b o,H b=some o->H' b=some o
theorem Cv.refl(H:Hp):Cv H H:=λ_ _ h=>h
theorem yX{β:Type}(x y:Str)(c:β)(acc:List (Str×β)):((y,c)::acc).lookup x=if x=y then some c else acc.lookup x:=by
 rw[jr]
 by_cases e:x=y
 ·have hb:(x==y)=true:=beq_iff_eq.mpr e;rw[hb,if_pos e]
 ·have hb:(x==y)=false:=beq_eq_false_iff_ne.mpr e;rw[hb,if_neg e]
def gI(env:Env):List (Str×mq)->List (Str×ai)->List (Str×ai)
 |[],acc=>acc
 |(x,k)::r,acc=>gI env r (if k==.free then(x,(env.cells.lookup x).getD 0)::acc else acc)
theorem DW{env:Env}:∀(l:List (Str×mq))(acc:List (Str×ai)),(∀x,(x,dj)∈l->∃c,env.cells.lookup x=some c)->
  (forIn l acc (λ(x:Str×mq)(r:List (Str×ai))=>match x with
   |(name,kind)=>if(kind==dj)=true then(do let a <-cellOf env name;pure (rl ((name,a)::r)))else(pure (rl r):Sem (ForInStep (List (Str×ai))))))=(pure (gI env l acc):Sem (List (Str×ai)))
 |[],acc,_=>rfl
 |(x,k)::l,acc,h=>by
  rw[qe];dsimp only
  cases hk:k==dj with
  |true=>
   have e:k=.free:=by cases k<;>first|rfl|cases hk
   subst e;obtain⟨c,hc⟩:=h x (bf ..);rw[if_pos rfl,show gI env ((x,dj)::l) acc=gI env l ((x,c)::acc)by rw[gI,if_pos hk,hc];rfl,<-DW l ((x,c)::acc) λy hy=>h y (av _ hy)];unfold cellOf;rw[hc];rfl
  |false=>rw[if_neg (by simp),show gI env ((x,k)::l) acc=gI env l acc by rw[gI,hk];rfl,<-DW l acc λy hy=>h y (av _ hy)];rfl
theorem LG{env:Env}{scope:gf}(h:∀x,(x,dj)∈scope.names->∃c,env.cells.lookup x=some c):closureFor scope env=pure (gI env scope.names []):=by unfold closureFor;have:=DW (env:=env) scope.names [] h;show(forIn scope.names [] _ >>=λcs=>pure cs)=_;exact(congrArg (λ(m:Sem (List (Str×ai)))=>m >>=λcs=>pure cs) this)
theorem yY{env:Env}{x:Str}:∀(l:List (Str×mq))(acc:List (Str×ai)),((x,dj)∈l∨acc.lookup x=some ((env.cells.lookup x).getD 0))->(gI env l acc).lookup x=some ((env.cells.lookup x).getD 0)
 |[],acc,h=>h.elim (λz=>nomatch z) id
 |(y,k)::l,acc,h=>by
  rw[gI]
  cases hk:k==dj with
  |true=>
   refine yY l _ ?_;rw[if_pos rfl]
   by_cases e:x=y
   ·subst e;right;rw[yX,if_pos rfl]
   ·rcases h with h|h
    ·rcases aw.mp h with h|h
     ·cases h;exact absurd rfl e
     ·exact .inl h
    ·right;rw[yX,if_neg e];exact h
  |false=>
   refine yY l _ ?_
   rcases h with h|h
   ·rcases aw.mp h with h|h
    ·cases h;simp at hk
    ·exact .inl h
   ·exact .inr h
structure BlkCells(h h':cy)(names:List (Str×mq))(acc cs:List (Str×ai)):Prop where
 cases:∀x c,cs.lookup x=some c->acc.lookup x=some c∨(h.objs.size<=c/\h'.IsCell c none/\(x,dy)∈names)
 own:∀x,(x,dy)∈names->∃c,cs.lookup x=some c
 old:∀x,(x,dy)∉names->cs.lookup x=acc.lookup x
 inj:(∀x y c,acc.lookup x=some c->acc.lookup y=some c->x=y)->(∀x c,acc.lookup x=some c->c<h.objs.size)->∀x y c,cs.lookup x=some c->cs.lookup y=some c->x=y
theorem uW:∀(names:List (Str×mq))(h:cy)(acc:List (Str×ai)),BlkCells h (pushCells h names) names acc (cellsFrom h.objs.size names acc)
 |[],h,acc=>{cases:=λ_ _ e=>.inl e,own:=λ_ z=>(nomatch z),old:=λ_ _=>rfl,inj:=λa _=>a}
 |(y,k)::r,h,acc=>by
  cases hk:k==dy with
  |true=>
   have ek:k=.cell:=by cases k<;>first|rfl|cases hk
   subst ek;have ih:=uW r (h.push {cls:=.type "cell",data:=.cell none}) ((y,h.objs.size)::acc);have e1:pushCells h ((y,dy)::r)=pushCells (h.push {cls:=.type "cell",data:=.cell none}) r:=rfl;have e2:cellsFrom h.objs.size ((y,dy)::r) acc=cellsFrom (h.push {cls:=.type "cell",data:=.cell none}).objs.size r ((y,h.objs.size)::acc):=by rw[ed];rfl
   rw[e1,e2];have look:∀x,((y,h.objs.size)::acc).lookup x=if x=y then some h.objs.size else acc.lookup x:=λx=>yX ..
   refine⟨λx c e=>?_,λx hx=>?_,λx hx=>?_,λh1 h2 x z c ex ez=>?_⟩
   ·rcases ih.cases x c e with q|⟨q1,q2,q3⟩
    ·rw[look]at q
     by_cases exy:x=y
     ·rw[if_pos exy]at q;cases q;refine .inr ⟨aq _,⟨_,qu r _ _ _ (az _ rfl),rfl⟩,by rw[exy];exact bf ..⟩
     ·rw[if_neg exy]at q;exact .inl q
    ·rw[ed]at q1;exact .inr ⟨Nat.le_of_succ_le q1,q2,av _ q3⟩
   ·by_cases hr:(x,dy)∈r
    ·exact ih.own x hr
    ·rw[ih.old x hr,look]
     rcases aw.mp hx with z|z
     ·cases z;exact⟨_,if_pos rfl⟩
     ·exact absurd z hr
   ·rw[ih.old x λz=>hx (av _ z),look,if_neg]
    rintro rfl
    exact hx (bf ..)
   ·refine ih.inj ?_ ?_ x z c ex ez
    ·intro a b c ea eb;rw[look]at ea eb
     by_cases qa:a=y
     ·rw[if_pos qa]at ea;cases ea
      by_cases qb:b=y
      ·exact qa.trans qb.symm
      ·rw[if_neg qb]at eb;exact absurd (h2 b _ eb) (iz _)
     ·rw[if_neg qa]at ea
      by_cases qb:b=y
      ·rw[if_pos qb]at eb;cases eb;exact absurd (h2 a _ ea) (iz _)
      ·rw[if_neg qb]at eb;exact h1 a b c ea eb
    ·intro a c ea;rw[ed];rw[look]at ea
     by_cases qa:a=y
     ·rw[if_pos qa]at ea;cases ea;exact jv _
     ·rw[if_neg qa]at ea;exact fi (h2 a c ea)
  |false=>
   have ih:=uW r h acc;have e1:pushCells h ((y,k)::r)=pushCells h r:=by rw[pushCells,hk];rfl
   have e2:cellsFrom h.objs.size ((y,k)::r) acc=cellsFrom h.objs.size r acc:=by rw[cellsFrom,hk];rfl
   rw[e1,e2];have nk:∀x,(x,dy)∈(y,k)::r->(x,dy)∈r:=λx z=>by
    rcases aw.mp z with z|z
    ·cases z;simp at hk
    ·exact z
   exact⟨λx c e=>(ih.cases x c e).imp id λ⟨a,b,c⟩=>⟨a,b,av _ c⟩,λx hx=>ih.own x (nk x hx),λx hx=>ih.old x λz=>hx (av _ z),ih.inj⟩
def LH(scope:gf)(env:Env)(L:ai):Env:={scope:=relabel scope env,locals:=L,globals:=env.globals,cells:=cellsFrom (L+1) scope.names (gI env scope.names []),qual:=env.qual,func:=none,code:=env.code,frame:=env.frame,builtins:=env.builtins}
theorem Y7{M:xo}{A:cq}{E:af->ag->Prop}{s:ag}{scope:gf}{env:Env}{cl:List (Str×ai)}{qual:Str}{g:ai}{Q:Env->ag->Prop}(h:Q {scope:=scope,locals:=s.heap.objs.size,globals:=g,cells:=cellsFrom (s.heap.objs.size+1) scope.names cl,qual:=qual,func:=none,code:=env.code,frame:=env.frame,builtins:=env.builtins}
   {s with heap:=pushCells (s.heap.push {cls:=.type "dict",data:=.dict #[]}) scope.names}):
  wpAny M A (newFunctionEnv scope g cl [] qual none .none (some env)) Q E s:=by
 simp only[newFunctionEnv,Ae,if_true];refine ae (wpAny_alloc ?_);refine ae (wpAny_layCells _ (λname kind cells=>by cases hkc:kind==dy<;>simp[hkc]) _ _ _ _ ?_);rw[show({s with heap:=s.heap.push {cls:=.type "dict",data:=.dict #[]} }:ag).heap.objs.size=s.heap.objs.size+1 from ed ..];exact ae (aj (aj h))
def bW(X:Cx)(scope:gf)(N:Ax)(s:ag)(H:Hp)(ex:List ai):Cx:={X with N:=N,s₀:=s,H₀:=H,env:=LH scope X.env s.heap.objs.size,outer:=X.stack,stack:=X.stack,ex:=ex,fn:=λx=>scope.names.lookup x==some .cell,xe:=λ_ _=>False}
def sU(cap:List (Option Nat))(σ:St):St:=cap.map λo=>match o with|some j=>(σ[j]?).getD none|none=>none
structure Cc(X:Cx)(scope:gf)(N:Ax)(cap:List (Option Nat)):Prop where
 kind:scope.kind=.function
 nd:∀x∈scope.names,x.2=.local->scope.names.lookup x.1=some .local
 len:cap.length=N.length
 free:∀x,(x,dj)∈scope.names->X.env.kindOf x=some .cell∨X.env.kindOf x=some .free
 apart:∀x,(x,dj)∈scope.names->(x,dy)∉scope.names
 cap:∀(i j:Nat)(x:Str),cap[i]?=some (some j)->N[i]?=some x->X.N[j]?=some x/\(x,dj)∈scope.names/\(relabel scope X.env).names.lookup x≠some .local
theorem DX{scope:gf}{env:Env}{x:Str}:∀{l:List (Str×mq)}{k:mq},(l.map λ(n,k)=>if(k==dj&&env.scope.kind==.function&&env.kindOf n==some .cell)then(n,dy)else(n,k)).lookup x=some k->
  (x,k)∈l∨(k=.cell/\(x,dj)∈l)
 |[],_,h=>by simp at h
 |(n,q)::r,k,h=>by
  have ih:=@DX scope env x r k;rw[du]at h
  by_cases hc:(q==dj&&env.scope.kind==.function&&env.kindOf n==some .cell)=true
  ·have hq:q=.free:=by
    have:(q==dj)=true:=by
     cases z:q==dj with
     |true=>rfl
     |false=>rw[z]at hc;simp at hc
    cases q<;>first|rfl|cases this
   dsimp only at h;rw[if_pos hc,jr]at h
   cases e:x==n with
   |true=>rw[e]at h;have h':dy=k:=de h;subst h';have ex:=beq_iff_eq.mp e;subst ex;subst hq;exact .inr ⟨rfl,bf ..⟩
   |false=>rw[e]at h;exact(ih h).imp (av _) λ⟨a,b⟩=>⟨a,av _ b⟩
  ·dsimp only at h;rw[if_neg hc,jr]at h
   cases e:x==n with
   |true=>rw[e]at h;have h':q=k:=de h;subst h';have ex:=beq_iff_eq.mp e;subst ex;exact .inl (bf ..)
   |false=>rw[e]at h;exact(ih h).imp (av _) λ⟨a,b⟩=>⟨a,av _ b⟩
theorem DY{env:Env}{x:Str}{c:ai}:∀(l:List (Str×mq))(acc:List (Str×ai)),(gI env l acc).lookup x=some c->acc.lookup x=some c∨((x,dj)∈l/\c=(env.cells.lookup x).getD 0)
 |[],acc,h=>.inl h
 |(y,k)::l,acc,h=>by
  rw[gI]at h
  cases hk:k==dj with
  |true=>
   have ek:k=.free:=by cases k<;>first|rfl|cases hk
   subst ek;rw[if_pos hk]at h
   rcases DY l _ h with q|⟨q1,q2⟩
   ·rw[yX]at q
    by_cases e:x=y
    ·rw[if_pos e]at q;subst e;exact .inr ⟨bf ..,(de q).symm⟩
    ·rw[if_neg e]at q;exact .inl q
   ·exact .inr ⟨av _ q1,q2⟩
  |false=>rw[if_neg (by rw[hk];exact ig)]at h;exact(DY l _ h).imp id λ⟨a,b⟩=>⟨av _ a,b⟩
section
variable{X:Cx}{pins:List (ai×Obj)}{σ:St}{H:Hp}{s:ag}{scope:gf}{N:Ax}{cap:List (Option Nat)}{ex:List ai}
theorem yZ(I:Inv X pins σ H s)(C:Cc X scope N cap){x:Str}{c:ai}(e:(gI X.env scope.names []).lookup x=some c):(x,dj)∈scope.names/\X.env.cells.lookup x=some c:=by
 rcases DY _ _ e with q|⟨q1,q2⟩
 ·cases q
 ·obtain⟨c',h'⟩:=I.ok.has x (C.free x q1);rw[h']at q2;subst q2;exact⟨q1,h'⟩
theorem zA(I:Inv X pins σ H s)(C:Cc X scope N cap){x:Str}{c:ai}(e:(LH scope X.env s.heap.objs.size).cells.lookup x=some c):
  (X.env.cells.lookup x=some c/\(x,dj)∈scope.names)∨(s.heap.objs.size<c/\(pushCells (s.heap.push {cls:=.type "dict",data:=.dict #[]}) scope.names).IsCell c none/\(x,dy)∈scope.names):=by
 have B:=uW scope.names (s.heap.push {cls:=.type "dict",data:=.dict #[]}) (gI X.env scope.names []);rw[ed]at B
 rcases B.cases x c e with q|⟨q1,q2,q3⟩
 ·obtain⟨a,b⟩:=yZ I C q;exact .inl ⟨b,a⟩
 ·rw[ed]at q1;exact .inr ⟨q1,q2,q3⟩
theorem LI(I:Inv X pins σ H s)(C:Cc X scope N cap)(hex:∀b∈ex,eB X pins H b/\b<s.heap.objs.size):(bW X scope N s H ex).Ok:=by
 have B:=uW scope.names (s.heap.push {cls:=.type "dict",data:=.dict #[]}) (gI X.env scope.names []);rw[ed]at B;have kf:∀x,(x,dj)∈scope.names->∃c,X.env.cells.lookup x=some c:=λx hx=>I.ok.has x (C.free x hx);refine⟨I.ok.mod,C.kind,I.ok.glob,I.ok.blt,aq _,?_,?_,?_,I.ok.hd,I.ok.frames,.inl rfl,?_,I.bs,dh I.ok.bsz I.sz,?_,?_,I.stack,I.stkFree⟩
 ·refine B.inj (λx y c e1 e2=>?_) λx c e=>?_
  ·exact I.ok.inj x y c (yZ I C e1).2 (yZ I C e2).2
  ·obtain⟨v,q⟩:=I.cell x c (yZ I C e).2;rw[ed];exact fi q.lt
 ·intro x hx;have Ez:(relabel scope X.env).names.lookup x=some .cell∨(relabel scope X.env).names.lookup x=some .free:=hx;have mem:(x,dy)∈scope.names∨(x,dj)∈scope.names:=by
   rcases Ez with h|h
   ·rcases DX (scope:=scope) h with q|⟨_,q⟩
    ·exact .inl q
    ·exact .inr q
   ·rcases DX (scope:=scope) h with q|⟨z,q⟩
    ·exact .inr q
    ·exact .inr q
  by_cases hc:(x,dy)∈scope.names
  ·exact B.own x hc
  ·rcases mem with h|h
   ·exact absurd h hc
   ·exact⟨_,(B.old x hc).trans (yY _ _ (.inl h))⟩
 ·intro x c hf e;have hf':(scope.names.lookup x==some .cell)=true:=hf;have hm:(x,dy)∈scope.names:=jz (eq_of_beq hf')
  rcases zA I C e with⟨_,q⟩|⟨q,_⟩
  ·exact absurd hm (C.apart x q)
  ·exact ji q
 ·intro b hb;obtain⟨⟨f0,f1,f2,f3,f4,f5⟩,hlt⟩:=hex b hb;refine⟨bc hlt,λx c e z=>?_⟩
  rcases zA I C e with⟨q,_⟩|⟨q,_⟩
  ·exact f4 x c q z
  ·subst z;exact iz _ (Nat.lt_trans q hlt)
 ·intro b o e hb;obtain⟨⟨f0,f1,f2,f3,f4,f5⟩,hlt⟩:=hex b hb
  rcases f3 with q|q
  ·exact I.ok.noex b o e q
  ·exact iz _ (bo (ay e) (dh I.ok.bsz q))
 ·intro b hb z;obtain⟨⟨f0,f1,f2,f3,f4,f5⟩,hlt⟩:=hex b hb
  rcases aw.mp (I.stkSub b z)with q|q
  ·exact f1 q
  ·exact f2 q
theorem Y8(I:Inv X pins σ H s)(C:Cc X scope N cap)(hex:∀b∈ex,eB X pins H b/\b<s.heap.objs.size):
  Inv (bW X scope N s H ex) pins (sU cap σ) H {s with heap:=pushCells (s.heap.push {cls:=.type "dict",data:=.dict #[]}) scope.names}:=by
 have B:=uW scope.names (s.heap.push {cls:=.type "dict",data:=.dict #[]}) (gI X.env scope.names []);rw[ed]at B;have kp:∀b o,s.heap.get? b=some o->(pushCells (s.heap.push {cls:=.type "dict",data:=.dict #[]}) scope.names).get? b=some o:=λb o e=>qu _ _ _ _ (ao _ e);have ns:(pushCells (s.heap.push {cls:=.type "dict",data:=.dict #[]}) scope.names).Ns s.heap.objs.size (λ_=>none):=⟨_,#[],_,qu _ _ _ _ (az _ rfl),rfl,(λe he=>absurd he (by simp)),λ_=>rfl⟩
 obtain⟨m,hn,hl⟩:=I.loc;refine⟨LI I C hex,rfl,I.bare,Un.kept kp,⟨_,ns,λi x v h1 h2 h3=>?_⟩,λx c e=>?_,I.hok.fresh (aq _),λx c e=>?_,λp hp=>?_,I.hok.kept kp,?_⟩
 ·have h2':(cap.map λo=>match o with|some j=>(σ[j]?).getD none|none=>none)[i]?=some (some v):=h2;rw[fw]at h2'
  cases q:cap[i]? with
  |none=>rw[q]at h2';cases h2'
  |some o=>
   rw[q]at h2'
   cases o with
   |none=>cases h2'
   |some j=>
    have e1:(σ[j]?).getD none=some v:=de h2';have e2:σ[j]?=some (some v):=by
     cases z:σ[j]? with
     |none=>rw[z]at e1;cases e1
     |some w=>rw[z]at e1;exact congrArg some e1
    obtain⟨c1,c2,c3⟩:=C.cap i j x q h1;have vis:sN X.env.scope x:=by
     rcases C.free x c2 with z|z
     ·exact .inr (.inl z)
     ·exact .inr (.inr z)
    obtain⟨u,r,l⟩:=hl j x v c1 e2 vis;refine⟨u,r,?_⟩
    rcases l with⟨hk,hm⟩|⟨hk,c,hc,hcell⟩
    ·rcases C.free x c2 with z|z
     ·rw[z]at hk;cases hk
     ·rw[z]at hk;cases hk
    ·refine .inr ⟨?_,c,?_,?_⟩
     ·have h3':sN (relabel scope X.env) x:=h3
      rcases h3' with z|z|z
      ·exact absurd z c3
      ·exact .inl z
      ·exact .inr z
     ·have:=(B.old x (C.apart x c2)).trans (yY _ _ (.inl c2));rw[hc]at this;exact this
     ·obtain⟨o,ho,hd⟩:=hcell;exact⟨o,kp _ _ ho,hd⟩
 ·rcases zA I C e with⟨q,_⟩|⟨_,q,_⟩
  ·obtain⟨v,o,ho,hd⟩:=I.cell x c q;exact⟨v,o,kp _ _ ho,hd⟩
  ·exact⟨none,q⟩
 ·rcases zA I C e with⟨q,_⟩|⟨q,_⟩
  ·exact I.freeC x c q
  ·exact I.hok.fresh (ji q)
 ·obtain⟨a1,a2,a3,a4,a5⟩:=I.pin p hp;refine⟨kp _ _ a1,a2,bc (ay a1),λz=>?_,a5⟩
  rcases aw.mp (I.stkSub _ z)with q|q
  ·exact a3 q
  ·exact a4 q
 ·show(cap.map _).length=N.length;rw[ax];exact C.len
theorem Y9(I:Inv X pins σ H s)(C:Cc X scope N cap)(hex:∀b∈ex,eB X pins H b/\b<s.heap.objs.size):∀b∈ex,eB (bW X scope N s H ex) pins H b:=by intro b hb;obtain⟨⟨f0,f1,f2,f3,f4,f5⟩,hlt⟩:=hex b hb;have ok:=LI (N:=N) I C hex;exact⟨f0,(ok.exf b hb).1,ok.exfs b hb,.inl hb,(ok.exf b hb).2,f5⟩
theorem ZA{σ':St}{H':Hp}{s':ag}{h':cy}(I:Inv X pins σ H s)(hex:∀b∈ex,eB X pins H b/\b<s.heap.objs.size)(I':Inv (bW X scope N s H ex) pins σ' H' s')(hh:ja s.heap.objs.size s'.heap h'):
  Inv X pins σ H' {s' with heap:=h'}:=by
 have u:Un (fR X.stack) ex H H' s.heap s'.heap:=I'.base;have up:∀b o o',s.heap.get? b=some o->s'.heap.get? b=some o'->h'.get? b=some o':=λb o o' e e'=>(hh.2 b (bc (ay e))).trans e';have hL:H' s.heap.objs.size=none:=I'.free;refine I.call' (s':={s' with heap:=h'}) (ch:=ex) I'.os ⟨λb o q n hb hx=>up b o o q (u.keep b o q n hb hx),λb o q n hb hx=>?_,u.free,λb o q hx=>?_,u.tups,u.frzs,u.tbls⟩ (λb o e=>?_) I'.bare λb hb=>?_
 ·obtain⟨sl,e⟩:=u.slot b o q n hb hx;exact⟨sl,up b o _ q e⟩
 ·obtain⟨o',e⟩:=u.there b o q hx;exact⟨o',up b o _ q e⟩
 ·refine(I'.hok b o e).stay (λc v hc q=>(hh.2 c ?_).trans q) (λ_ q=>q) λ_ _ q=>q
  rcases hc with z|z
  ·rw[z];rintro rfl;rw[hL]at e;cases e
  ·rintro rfl;rw[hL]at z;cases z
 ·obtain⟨⟨f0,f1,f2,f3,f4,f5⟩,hlt⟩:=hex b hb;exact⟨f3,f1,f4,f5⟩
theorem Inv.adopt{a:ai}{o:HO}(I:Inv X pins σ H s)(f:eB X pins H a)(ha:X.s₀.heap.objs.size<=a)(new:Bk X.prog X.w (bI H a o) s.heap a o):Inv X pins σ (bI H a o) s:=by
 obtain⟨f0,f1,f2,f3,f4,f5⟩:=f;have ne0:∀b ob,X.s₀.heap.get? b=some ob->b≠a:=λb ob e z=>by subst z;exact iz _ (bo (ay e) ha)
 refine⟨I.ok,I.os,I.bare,⟨I.base.keep,I.base.slot,λb ob e n hx=>by rw[cU (ne0 b ob e)];exact I.base.free b ob e n hx,I.base.there,λb xs e=>?_,λb ob u e=>?_,λb ps e=>?_⟩,I.loc,I.cell,by rw[cU (dk f1)];exact I.free,
  λx c e=>by rw[cU (f4 x c e)];exact I.freeC x c e,λp hp=>?_,λb u e=>?_,I.len⟩
 ·have:=I.base.tups b xs e;rw[cU (gH this f0)];exact this
 ·have:=I.base.frzs b ob u e;rw[cU (gH this f0)];exact this
 ·obtain⟨more,this⟩:=I.base.tbls b ps e;exact⟨more,by rw[cU (gH this f0)];exact this⟩
 ·obtain⟨a1,a2,a3,a4,a5⟩:=I.pin p hp;exact⟨a1,by rw[cU (f5 p hp)];exact a2,a3,a4,a5⟩
 ·by_cases hb:b=a
  ·subst hb;rw[eR]at e;cases e;exact new
  ·rw[cU hb]at e;exact(I.hok b u e).stay (λ_ _ _ q=>q) (λc q=>by rw[cU (gH q f0)];exact q) λc xs q=>by rw[cU (gH q f0)];exact q
end
def AccAt(s:ag)(D:ai)(xs:Gx):Prop:=xs.length<=cg/\∃(its:List af)(n:Nat),Bf xs its/\s.heap.get? D=some {cls:=.type "list",data:=.seq its.toArray n}
abbrev TC:=St->Hp->Gx->(St->Hp->Gx->Prop)->Prop
def Ed(X:Cx)(D:ai)(m:Sem Unit)(t:TC):Prop:=
 ∀(pins:List (ai×Obj))(s:ag)(σ:St)(H:Hp)(xs:Gx)(K:St->Hp->Gx->Prop),Inv X pins σ H s->AccAt s D xs->eB X pins H D->t σ H xs K->
  wpAny (model X.prog X.w) X.A m (λ_ s'=>∃σ' H' xs',Inv X pins σ' H' s'/\AccAt s' D xs'/\H' D=none/\K σ' H' xs') X.xe s
section
variable{X:Cx}{D:ai}
theorem AccAt.obj{s:ag}{xs:Gx}(a:AccAt s D xs):∃o,s.heap.get? D=some o/\∀v,o.data≠.cell v:=by obtain⟨_,its,n,_,e⟩:=a;exact⟨_,e,λv z=>nomatch z⟩
theorem Inv.pinD{pins:List (ai×Obj)}{s:ag}{σ:St}{H:Hp}{xs:Gx}(I:Inv X pins σ H s)(a:AccAt s D xs)(f:eB X pins H D):Inv X (pins++kT [D] s.heap) σ H s:=
 I.pinned (λb hb=>by (have e:b=D:=by simpa using hb);subst e;exact f) λb hb=>by
  have e:b=D:=by simpa using hb
  subst e;exact a.obj
theorem Inv.atD{pins:List (ai×Obj)}{s s':ag}{σ':St}{H':Hp}{xs:Gx}(a:AccAt s D xs)(I:Inv X (pins++kT [D] s.heap) σ' H' s'):AccAt s' D xs/\H' D=none:=by obtain⟨z,its,n,r,e⟩:=a;have:=I.pin (D,_) (cx _ (cx _ (sO (by simp) e)));exact⟨⟨z,its,n,r,this.1⟩,this.2.1⟩
def LJ(te:TE):TC:=λσ H xs K=>te σ H λv H1=>xs.length<cg/\K σ H1 (xs++[v])
theorem uX{elt:bq}{te:TE}(he:PE X elt te):Ed X D (do let x <-eval elt X.env;let _ <-call (.builtin "list.append") [.ref D,x];pure ()) (LJ te):=by
 intro pins s σ H xs K I a f h;refine ae (bF (he _ s σ H _ (I.pinD a f) h) λu s1⟨v,H1,I1,r1,hz,q1⟩=>?_);obtain⟨a1,n1⟩:=Inv.atD a I1;have I1':=I1.unpinned;obtain⟨z,its,n,r,e⟩:=a1;have hl:=r.length;refine ae (xc F.slot_list_append ⟨_,e,rfl⟩ F.entry_list_append (F.args_list_append_2 _ _) (PySem.list_append D its.toArray n u (by rw[ba];lia)) ⟨e,?_⟩);have q:=zo e (·.push u);have e2:its.toArray.push u=(its++[u]).toArray:=by simp
 rw[e2]at q;refine aj ⟨σ,H1,xs++[v],?_,⟨by rw[cf,zq];lia,its++[u],_,r.append (.cons r1 .nil),q⟩,n1,q1⟩;obtain⟨f0,f1,f2,f3,f4,f5⟩:=f;exact I1'.turned (t':=s1.toks) (λb o hb z=>(ll s1.heap _ (dk hb)).trans z) n1 f1 f3 f4 f5
def LK(ifs:List bq)(env:Env):Sem Bool:=forIn ifs true λc r=>if r=true then do let ok <-isTrue c env (eval c env);pure (rl ok)else pure (rl r)
def PTs(X:Cx)(ifs:List bq)(t:TT):Prop:=∀(pins:List (ai×Obj))(s:ag)(σ:St)(H:Hp)(Q:Bool->Hp->Prop),Inv X pins σ H s->t σ H Q->wpAny (model X.prog X.w) X.A (LK ifs X.env) (TP X pins σ Q) X.xe s
def ZC:TT:=λ_ H Q=>Q true H
theorem ZD:PTs X [] ZC:=λpins s σ H Q I h=>wpAny_tests_nil ⟨H,I,h⟩
theorem ZE{c:bq}{t:TT}(h:PT X c t):PTs X [c] t:=λpins s σ H Q I q=>wpAny_tests_one (h pins s σ H Q I q)
def jM(p:Pos)(it:af)(tg:bq)(ifs:List bq)(env:Env)(inner:Sem Unit)(c:Code):Sem PySem.Fin:=do
 standAt p
 match <-pyNext it with
 |none=>pure (.done .next)
 |some v=>do
  letOwnedTupleGo tg it v
  assign tg env v
  let ok <-LK ifs env
  if ok=true then do inner;again c
  else again c
def uY(J:It)(g:TG)(tt:TT)(inner:TC)(K:St->Hp->Gx->Prop)(σ:St)(H:Hp)(xs:Gx):Prop:=
 ∃W:Nat->Nat->St->Hp->Gx->Prop,(∃m,W 0 m σ H xs)/\∀i m σ H xs,W i m σ H xs->
  (J.stop i H/\K σ H xs)∨(J.go i H/\∃N:St->Hp->Gx->Prop,(∀σ' H' xs',N σ' H' xs'->∃m',m'<m/\W (i+1) m' σ' H' xs')/\
   ∀x H',J.yld i H x H'->g x σ H' λσ2 H2=>tt σ2 H2 λb H3=>if b=true then inner σ2 H3 xs N else N σ2 H3 xs)
theorem LL{elt:bq}{gens:List lb}{sc:gf}{ps:Pos}{d:Nat}{it:ai}{tg:bq}{ifs:List bq}{p:Pos}{inner:Sem Unit}{g:TG}{tt:TT}{ti:TC}{J:It}{fp:List ai}{tn:Nat->cy->Prop}(hx:X.xe=λ_ _=>False)(hc:X.calm=true)(ht:compTurn (.ListComp elt gens sc ps) d (.ref it) (.ref D) X.env=jM p (.ref it) tg ifs X.env inner (.compLoop (.ListComp elt gens sc ps) d (.ref it) (.ref D) X.env))(hg:PG X tg g)(Eg:PTs X ifs tt)(hi:Ed X D inner ti)(T:Turn X.prog X.w X.K tg J fp it tn){pins:List (ai×Obj)}{s:ag}{σ:St}{H:Hp}{xs:Gx}{K:St->Hp->Gx->Prop}{R:xa->ag->Prop}(I:Inv X pins σ H s)(a:AccAt s D xs)(f:eB X pins H D)(st:tn 0 s.heap)(hf:∀b∈fp,eB X pins H b)(hD:D∉fp)(h:uY J g tt ti K σ H xs)(hR:∀σ' H' xs' s',Inv X pins σ' H' s'->AccAt s' D xs'->H' D=none->K σ' H' xs'->R (.ok .next) s'):
  codeAny (model X.prog X.w) X.A (.compLoop (.ListComp elt gens sc ps) d (.ref it) (.ref D) X.env) R s:=by
 obtain⟨W,⟨m0,w0⟩,turn⟩:=h;have stat:∀{H':Hp},(∀b∈fp,H' b=none)->∀b∈fp,eB X pins H' b:=λhn b hb=>⟨hn b hb,(hf b hb).2⟩
 have statD:∀{H':Hp},H' D=none->eB X pins H' D:=λhn=>⟨hn,f.2⟩
 refine codeAny_loop rfl (λn s'=>∃i σ' H' xs',Inv X pins σ' H' s'/\AccAt s' D xs'/\H' D=none/\tn i s'.heap/\(∀b∈fp,H' b=none)/\W i n σ' H' xs') ?_ m0 ⟨0,σ,H,xs,I,a,f.1,st,λb hb=>(hf b hb).1,w0⟩
 rintro n s3 ⟨i,σ3,H3,xs3,I3,a3,n3,st3,fr3,w3⟩
 show wpAny _ X.A ((compTurn (.ListComp elt gens sc ps) d (.ref it) (.ref D) X.env).onRaise (λx=>do noteFrame x X.env;theTreesLotGoes x)) _ _ s3;rw[ht];refine ub (rq (Q:=λfin s'=>match fin with|.done f=>R (.ok f) s'|.again c'=>c'=.compLoop (.ListComp elt gens sc ps) d (.ref it) (.ref D) X.env/\∃m,m<n/\∃i σ' H' xs',Inv X pins σ' H' s'/\AccAt s' D xs'/\H' D=none/\tn i s'.heap/\(∀b∈fp,H' b=none)/\W i m σ' H' xs') (E:=λ_ _=>False) ?_ (λ_ _ z=>z) λ_ _ z=>z.elim);unfold jM;refine ae (ql (ae ?_));have xe':∀{α:Type}{m:Sem α}{Q:α->ag->Prop}{s:ag},wpAny (model X.prog X.w) X.A m Q X.xe s->wpAny (model X.prog X.w) X.A m Q (λ_ _=>False) s:=λ{α m Q s}z=>by rw[hx]at z;exact z
 have I3':=I3.pinD a3 (statD n3);have fr3':∀b∈fp,eB X (pins++kT [D] s3.heap) H3 b:=λb hb=>by
  obtain⟨g0,g1,g2,g3,g4,g5⟩:=stat fr3 b hb;refine⟨g0,g1,g2,g3,g4,λp hp=>?_⟩
  rcases cz.mp hp with z|z
  ·exact g5 p (gb _ z)
  ·rcases cz.mp z with z|z
   ·exact g5 p (cx _ z)
   ·have:=(DK z).1;have e:p.1=D:=by simpa using this
    rw[e];rintro rfl;exact hD hb
 rcases turn i n σ3 H3 xs3 w3 with⟨stop,qn⟩|⟨go,N,hN,step⟩
 ·refine bF (T.done X rfl rfl rfl hc i _ s3 σ3 H3 (λ_ _=>False) I3' fr3' st3 stop) λr s4⟨hr,I4⟩=>?_;subst hr;obtain⟨a4,n4⟩:=Inv.atD a3 I4;exact aj (hR σ3 H3 xs3 s4 I4.unpinned a4 n4 qn)
 ·refine bF (T.item X rfl rfl rfl hc i _ s3 σ3 H3 (λ_ _=>False) I3' fr3' st3 go) λr s4⟨u,hr,h4⟩=>?_;subst hr;refine ae (bF h4 λ_ s5⟨x,H5,I5,r5,y5,st5,fr5⟩=>?_);obtain⟨a5,n5⟩:=Inv.atD a3 I5;have I5u:=I5.unpinned;have I5p:=I5u.pinned (stat fr5) (T.obj _ _ st5);have fD5:eB X (pins++kT fp s5.heap) H5 D:=by
   obtain⟨g0,g1,g2,g3,g4,g5⟩:=statD n5;refine⟨g0,g1,g2,g3,g4,λp hp=>?_⟩
   rcases cz.mp hp with z|z
   ·exact g5 p (gb _ z)
   ·rcases cz.mp z with z|z
    ·exact g5 p (cx _ z)
    ·rintro rfl;exact hD (DK z).1
  have I5':=I5p.pinD a5 fD5;refine ae (xe' (bF (hg _ s5 σ3 H5 x u _ I5' r5 (step x H5 y5)) λ_ s6⟨σ6,H6,I6,q6⟩=>?_));obtain⟨a6,n6⟩:=Inv.atD a5 I6;have pin':∀{s σ H},Inv X (pins++kT fp s5.heap) σ H s->tn (i+1) s.heap/\∀b∈fp,H b=none:=λ{s σ H}J=>by refine⟨T.keep _ _ _ st5 λb hb o e=>(J.pin (b,o) (cx _ (cx _ (sO hb e)))).1,λb hb=>?_⟩;obtain⟨o,e,d⟩:=T.obj _ _ st5 b hb;exact(J.pin (b,o) (cx _ (cx _ (sO hb e)))).2.1
  have fD6:eB X (pins++kT fp s5.heap) H6 D:=⟨n6,fD5.2⟩
  have I6u:=I6.unpinned;have I6p:=I6u.pinD a6 fD6;refine ae (xe' (bF (Eg _ s6 σ6 H6 _ I6p q6) λb s7⟨H7,I7,q7⟩=>?_));obtain⟨a7,n7⟩:=Inv.atD a6 I7;have I7u:=I7.unpinned;have fin:∀{s8 σ8 H8 xs8},Inv X (pins++kT fp s5.heap) σ8 H8 s8->AccAt s8 D xs8->H8 D=none->N σ8 H8 xs8->
    ∃m,m<n/\∃i σ' H' xs',Inv X pins σ' H' s8/\AccAt s8 D xs'/\H' D=none/\tn i s8.heap/\(∀b∈fp,H' b=none)/\W i m σ' H' xs':=λ{s8 σ8 H8 xs8}J a8 n8 q8=>by
   obtain⟨m',hm,w8⟩:=hN σ8 H8 xs8 q8;obtain⟨t8,fr8⟩:=pin' J;exact⟨m',hm,i+1,σ8,H8,xs8,J.unpinned,a8,n8,t8,fr8,w8⟩
  cases b with
  |true=>
   rw[if_pos rfl]at q7⊢;have fD7:eB X (pins++kT fp s5.heap) H7 D:=⟨n7,fD5.2⟩
   refine ae (xe' (bF (hi _ s7 σ6 H7 xs3 N I7u a7 fD7 q7) λ_ s8⟨σ8,H8,xs8,I8,a8,n8,q8⟩=>?_));exact aj ⟨rfl,fin I8 a8 n8 q8⟩
  |false=>rw[if_neg ig]at q7⊢;exact aj ⟨rfl,fin I7u a7 n7 q7⟩
end
theorem LM(elt tg iter:bq)(ifs:List bq)(sc:gf)(ps:Pos)(it:af)(D:ai)(env:Env):
  compTurn (.ListComp elt [⟨tg,iter,ifs,0⟩] sc ps) 0 it (.ref D) env=
   jM iter.pos it tg ifs env (do let x <-eval elt env;let _ <-call (.builtin "list.append") [.ref D,x];pure ()) (.compLoop (.ListComp elt [⟨tg,iter,ifs,0⟩] sc ps) 0 it (.ref D) env):=by rfl
def kX(iter:bq)(e:bq)(d:Nat)(D:ai)(env:Env):Sem Unit:=do
 let x <-eval iter env
 standAt iter.pos
 let x <-foldedSetIterable iter env x
 let it <-holding [x] (pyIter x)
 let _ <-runOwn (.compStart e d it (.ref D) env) env
 pure ()
theorem LN(elt tg iter Bz Bh:bq)(ifs Bn:List bq)(sc:gf)(ps:Pos)(it:af)(D:ai)(env:Env):
  compTurn (.ListComp elt [⟨tg,iter,ifs,0⟩,⟨Bz,Bh,Bn,0⟩] sc ps) 0 it (.ref D) env=
   jM iter.pos it tg ifs env (kX Bh (.ListComp elt [⟨tg,iter,ifs,0⟩,⟨Bz,Bh,Bn,0⟩] sc ps) 1 D env) (.compLoop (.ListComp elt [⟨tg,iter,ifs,0⟩,⟨Bz,Bh,Bn,0⟩] sc ps) 0 it (.ref D) env):=by
 unfold jM kX;simp only[bind_assoc,pure_bind];rfl
theorem LO(elt tg iter Bz Bh:bq)(ifs Bn:List bq)(sc:gf)(ps:Pos)(it:af)(D:ai)(env:Env):
  compTurn (.ListComp elt [⟨tg,iter,ifs,0⟩,⟨Bz,Bh,Bn,0⟩] sc ps) 1 it (.ref D) env=
   jM Bh.pos it Bz Bn env (do let x <-eval elt env;let _ <-call (.builtin "list.append") [.ref D,x];pure ()) (.compLoop (.ListComp elt [⟨tg,iter,ifs,0⟩,⟨Bz,Bh,Bn,0⟩] sc ps) 1 it (.ref D) env):=by rfl
section
variable{X:Cx}{D:ai}
theorem LP{prog:bj}{w:cn}{A:cq}{R:xa->ag->Prop}{s:ag}{elt:bq}{gens:List lb}{sc:gf}{ps:Pos}{d:Nat}{it acc:af}{env:Env}(ha:((gens)[d]?).elim false (·.is_async !=0)=false)(h0:codeAny (model prog w) A (.compLoop (.ListComp elt gens sc ps) d it acc env) R s)(h:wpAny (model prog w) A (pyIter it) (λit' s'=>codeAny (model prog w) A (.compLoop (.ListComp elt gens sc ps) d it' acc env) R s') (λ_ _=>False) s):
  codeAny (model prog w) A (.compStart (.ListComp elt gens sc ps) d it acc env) R s:=by
 refine codeAny_of_tree ?_;show wpAny _ _ ((compStart (.ListComp elt gens sc ps) d it acc env).onRaise (λx=>do noteFrame x env;standAt theWindowsPlace)) _ _ s;refine wpAny_notedAt (rq (E:=λ_ _=>False) ?_ (λ_ _ z=>z) λ_ _ z=>z.elim);unfold compStart;rw[show((clausesOf (.ListComp elt gens sc ps))[d]?).elim false (·.is_async !=0)=false from ha];simp only[cp,if_false];refine ae (nu (wpAny_ite ?_))
 split
 ·first
   |exact ae (aj (aj (And.intro rfl h0)))
   |exact aj (And.intro rfl h0)
 ·have fin:∀s:ag,wpAny (model prog w) A (pyIter it) (λit' s'=>codeAny (model prog w) A (.compLoop (.ListComp elt gens sc ps) d it' acc env) R s') (λ_ _=>False) s->
    wpAny (model prog w) A (do let it' <-pyIter it;again (.compLoop (.ListComp elt gens sc ps) d it' acc env)) (λfin s'=>match fin with|.done f=>R (.ok f) s'|.again c=>c.quiet=true/\codeAny (model prog w) A c R s') (λ_ _=>False) s:=λs h=>ae (rq h (λit' s' h'=>aj ⟨rfl,h'⟩) λ_ _ x=>x)
  refine ae (om ?_);have ec:clausesOf (.ListComp elt gens sc ps)=gens:=rfl;rw[ec]
  cases q:gens[d]? with
  |none=>exact fin s h
  |some g=>exact ae (ql (fin s h))
def LQ(wi:TI)(g:TG)(tt:TT)(inner:TC):TC:=λσ H xs K=>wi σ H λJ H1=>uY J g tt inner K σ H1 xs
theorem zB{elt:bq}{gens:List lb}{sc:gf}{ps:Pos}{d:Nat}{tg iter:bq}{ifs:List bq}{inner:Sem Unit}{wi:TI}{g:TG}{tt:TT}{ti:TC}(hx:X.xe=λ_ _=>False)(hc:X.calm=true)(ha:((gens)[d]?).elim false (·.is_async !=0)=false)(ht:∀it,compTurn (.ListComp elt gens sc ps) d (.ref it) (.ref D) X.env=jM iter.pos (.ref it) tg ifs X.env inner (.compLoop (.ListComp elt gens sc ps) d (.ref it) (.ref D) X.env))(hi:PI X tg iter wi)(hg:PG X tg g)(Eg:PTs X ifs tt)(Cm:Ed X D inner ti)(hs:∀x,foldedSetIterable iter X.env x=pure x):
  Ed X D (kX iter (.ListComp elt gens sc ps) d D X.env) (LQ wi g tt ti):=by
 intro pins s σ H xs K I a f h;unfold kX;refine ae (bF (hi _ s σ H _ (I.pinD a f) h) λv s1 h1=>ae (ql (ae (sy (hs v) (ae (fe (bF h1 λitv s2 h2=>?_)))))));obtain⟨it,fp,tn,J,H2,e,I2,T,Ep,f2,lp⟩:=h2;subst e;obtain⟨a2,n2⟩:=Inv.atD a I2;have I2u:=I2.unpinned;have hpD:∀b∈fp,b≠D:=λb hb z=>by subst z;obtain⟨_,its,n,_,eo⟩:=a;exact(f2 b hb).2.2.2.2.2 (b,_) (cx _ (cx _ (sO (by simp) eo))) rfl
 have f2u:∀b∈fp,eB X pins H2 b:=λb hb=>by
  obtain⟨g0,g1,g2,g3,g4,g5⟩:=f2 b hb;exact⟨g0,g1,g2,g3,g4,λp hp=>g5 p (by
   rcases cz.mp hp with z|z
   ·exact gb _ z
   ·exact cx _ (gb _ z))⟩
 have fD:eB X pins H2 D:=⟨n2,f.2⟩
 refine ae (wpAny_runOwn ?_);have loop:codeAny (model X.prog X.w) X.A (.compLoop (.ListComp elt gens sc ps) d (.ref it) (.ref D) X.env) (λr s'=>match r with
   |.ok f=>wpAny (model X.prog X.w) X.A (pure ():Sem Unit) (λ_ s'=>∃σ' H' xs',Inv X pins σ' H' s'/\AccAt s' D xs'/\H' D=none/\K σ' H' xs') X.xe s'
   |.error e=>cameBackBy (model X.prog X.w) X.A X.env X.xe e s') s2:=
  LL hx hc (ht it) hg Eg Cm T I2u a2 fD Ep f2u (λz=>hpD D z rfl) lp λσ' H' xs' s' I' a' n' k'=>aj ⟨σ',H',xs',I',a',n',k'⟩
 exact LP ha loop (T.self _ 0 s2 _ _ Ep loop)
end
def DZ(wi:TI)(cap:List (Option Nat))(g:TG)(tt:TT)(inner:TC):TE:=λσ H Q=>wi σ H λJ H1=>uY J g tt inner (λ_ H' xs=>∀p,H' p=none->Q (.ref p) (bI H' p (.lst xs))) (sU cap σ) H1 []
section
variable{X:Cx}
theorem LR{elt:bq}{gens:List lb}{sc:gf}{ps:Pos}{tg iter:bq}{ifs:List bq}{rest:List lb}{inner:ai->Env->Sem Unit}{g:TG}{tt:TT}{ti:TC}{N:Ax}{cap:List (Option Nat)}{E:af->ag->Prop}(hc:X.calm=true)(C:Cc X sc N cap)(eg:gens=⟨tg,iter,ifs,0⟩::rest)(ht:∀it D env,compTurn (.ListComp elt gens sc ps) 0 (.ref it) (.ref D) env=jM iter.pos (.ref it) tg ifs env (inner D env) (.compLoop (.ListComp elt gens sc ps) 0 (.ref it) (.ref D) env))(hg:∀s H ex,PG (bW X sc N s H ex) tg g)(Eg:∀s H ex,PTs (bW X sc N s H ex) ifs tt){pins:List (ai×Obj)}{s2:ag}{σ:St}{H2:Hp}(Cm:∀s ex D,Inv X pins σ H2 s->(∀b∈ex,eB X pins H2 b/\b<s.heap.objs.size)->Ed (bW X sc N s H2 ex) D (inner D (bW X sc N s H2 ex).env) ti){K:St->Hp->Gx->Prop}{it:ai}{fp:List ai}{tn:Nat->cy->Prop}{J:It}(I2:Inv X pins σ H2 s2)(T:Turn X.prog X.w X.K tg J fp it tn)(Ep:tn 0 s2.heap)(f2:∀b∈fp,eB X pins H2 b)(lp:uY J g tt ti K (sU cap σ) H2 []){R:af->ai->xa->ag->Prop}(hR:∀σ' H' xs(s3 s':ag)(C D:ai),X.s₀.heap.objs.size<=D->C=s3.heap.objs.size->(∃m,s'.heap.Ns C m)->AccAt s' D xs->eB X pins H' D->eB X pins H' C->D<C->(∀h',ja C s'.heap h'->Inv X pins σ H' {s' with heap:=h'})->K σ' H' xs->R (.ref D) C (.ok .next) s'):
  wpAny (model X.prog X.w) X.A (newList []) (λacc s3=>wpAny (model X.prog X.w) X.A (newFunctionEnv sc X.env.globals (gI X.env sc.names []) [] X.env.qual none .none (some X.env)) (λcenv s4=>codeAny (model X.prog X.w) X.A (.compStart (.ListComp elt gens sc ps) 0 (.ref it) acc {cenv with scope:=relabel sc X.env}) (R acc cenv.locals) s4) E s3) E s2:=by
 refine fj (Y7 ?_);dsimp only;generalize hs3:({s2 with heap:=s2.heap.push {cls:=.type "list",dict:=none,data:=.seq ([]:List af).toArray} }:ag)=s3;have kp:∀b o,s2.heap.get? b=some o->s3.heap.get? b=some o:=λb o e=>by rw[<-hs3];exact ao _ e
 have I3:Inv X pins σ H2 s3:=by rw[<-hs3];exact I2.kept (t':=s2.toks) λb o e=>ao _ e
 have eD:s3.heap.get? s2.heap.objs.size=some {cls:=.type "list",data:=.seq ([]:List af).toArray 0}:=by rw[<-hs3];exact az _ rfl
 have nD:H2 s2.heap.objs.size=none:=I2.hok.fresh (aq _);have fD:eB X pins H2 s2.heap.objs.size:=I2.fpOk (aq _) nD;have hlt:s2.heap.objs.size<s3.heap.objs.size:=ay eD;have hex:∀b∈s2.heap.objs.size::fp,eB X pins H2 b/\b<s3.heap.objs.size:=λb hb=>by
  rcases aw.mp hb with rfl|hb
  ·exact⟨fD,hlt⟩
  ·obtain⟨o,e,_⟩:=T.obj 0 _ Ep b hb;exact⟨f2 b hb,ay (kp b o e)⟩
 have hDfp:s2.heap.objs.size∉fp:=λz=>by obtain⟨o,e,_⟩:=T.obj 0 _ Ep _ z;exact iz _ (ay e)
 have I4:=Y8 (N:=N) (ex:=s2.heap.objs.size::fp) I3 C hex;have F4:=Y9 (N:=N) I3 C hex;have st4:tn 0 (pushCells (s3.heap.push {cls:=.type "dict",data:=.dict #[]}) sc.names):=T.keep 0 _ _ Ep λb hb o e=>qu _ _ _ _ (ao _ (kp b o e));have a4:AccAt {s3 with heap:=pushCells (s3.heap.push {cls:=.type "dict",data:=.dict #[]}) sc.names} s2.heap.objs.size []:=⟨gz _,[],0,.nil,qu _ _ _ _ (ao _ eD)⟩
 have loop:codeAny (model X.prog X.w) X.A (.compLoop (.ListComp elt gens sc ps) 0 (.ref it) (.ref s2.heap.objs.size) (bW X sc N s3 H2 (s2.heap.objs.size::fp)).env) (R (.ref s2.heap.objs.size) s3.heap.objs.size)
   {s3 with heap:=pushCells (s3.heap.push {cls:=.type "dict",data:=.dict #[]}) sc.names}:=by
  refine LL (X:=bW X sc N s3 H2 (s2.heap.objs.size::fp)) rfl hc (ht it _ _) (hg _ _ _) (Eg _ _ _) (Cm _ _ _ I3 hex) T I4 a4 (F4 _ (bf ..)) st4 (λb hb=>F4 b (av _ hb)) hDfp lp λσ' H' xs' s' I' a' n' k'=>?_;obtain⟨m,hn,_⟩:=I'.loc;exact hR σ' H' xs' s3 s' _ _ (dh I2.sz (aq _)) rfl ⟨m,hn⟩ a' ⟨n',fD.2⟩ (I3.fpOk (aq _) I'.free) hlt (λh' hh=>ZA I3 hex I' hh) k'
 have ha:((gens)[0]?).elim false (·.is_async !=0)=false:=by rw[eg];rfl
 subst hs3;exact LP ha loop (T.self _ 0 _ _ _ st4 loop)
theorem LS{elt:bq}{gens:List lb}{sc:gf}{ps:Pos}{tg iter:bq}{ifs:List bq}{rest:List lb}{inner:ai->Env->Sem Unit}{wi:TI}{g:TG}{tt:TT}{ti:TC}{N:Ax}{cap:List (Option Nat)}(hc:X.calm=true)(C:Cc X sc N cap)(eg:gens=⟨tg,iter,ifs,0⟩::rest)(ht:∀it D env,compTurn (.ListComp elt gens sc ps) 0 (.ref it) (.ref D) env=jM iter.pos (.ref it) tg ifs env (inner D env) (.compLoop (.ListComp elt gens sc ps) 0 (.ref it) (.ref D) env))(hi:PI X tg iter wi)(hg:∀s H ex,PG (bW X sc N s H ex) tg g)(Eg:∀s H ex,PTs (bW X sc N s H ex) ifs tt)(Cm:∀s H ex D,Ed (bW X sc N s H ex) D (inner D (bW X sc N s H ex).env) ti)(hs:∀x,foldedSetIterable iter X.env x=pure x):PE X (.ListComp elt gens sc ps) (DZ wi cap g tt ti):=by
 intro pins s σ H Q I h;rw[eval_ListComp];have hcl:closureFor sc X.env=pure (gI X.env sc.names []):=LG λx hx=>I.ok.has x (C.free x hx);have e1:firstAsync gens=false:=by rw[eg];rfl
 have e2:firstIter gens X.env=eval iter X.env:=by rw[eg];rfl
 rw[e1,e2];refine Ao (use:=none) (g:=⟨tg,iter,ifs,0⟩) (gs:=rest) (by rw[eg];rfl) hs hcl C.kind C.nd (bF (hi pins s σ H _ I h) λv s1 h1=>bF h1 λitv s2 h2=>?_);obtain⟨it,fp,tn,J,H2,e,I2,T,Ep,f2,lp⟩:=h2;subst e;refine LR (N:=N) (inner:=inner) (R:=λacc C=>compPost (model X.prog X.w) X.A X.xe none (EP X pins σ Q) acc C) hc C eg ht hg Eg (λs ex D _ _=>Cm s _ ex D) I2 T Ep f2 lp ?_;intro σ' H' xs s3 s' C D hD0 hC hn a f fC hDC Ck k;obtain⟨m,hn⟩:=hn;refine⟨m,hn,λh' hh=>?_⟩;have I5:=Ck h' hh;obtain⟨hz,its,n,r,eD⟩:=a;have eD':h'.get? D=some {cls:=.type "list",data:=.seq its.toArray n}:=(hh.2 D (bc hDC)).trans eD;refine⟨.ref D,bI H' D (.lst xs),I5.adopt f hD0 ⟨hz,its,n,r,eD'⟩,rfl,k D f.1⟩
end
section
variable{X:Cx}
theorem EA{i:Nat}{x:Str}{px pos:Pos}{elt:bq}{gens:List lb}{sc:gf}{ps:Pos}{tg iter:bq}{ifs:List bq}{rest:List lb}{inner:ai->Env->Sem Unit}{wi:TI}{g:TG}{tt:TT}{ti:TC}{N:Ax}{cap:List (Option Nat)}(hsw:swapsWith (.ListComp elt gens sc ps) (some (.Name x px)) pos.line X.env=pure true)(hN:X.N.Nodup)(hi':X.N[i]?=some x)(hx:X.env.scope.names.lookup x=some .local)(hc:X.calm=true)(C:Cc X sc N cap)(eg:gens=⟨tg,iter,ifs,0⟩::rest)(ht:∀it D env,compTurn (.ListComp elt gens sc ps) 0 (.ref it) (.ref D) env=jM iter.pos (.ref it) tg ifs env (inner D env) (.compLoop (.ListComp elt gens sc ps) 0 (.ref it) (.ref D) env))(hi:PI X tg iter wi)(hg:∀s H ex,PG (bW X sc N s H ex) tg g)(Eg:∀s H ex,PTs (bW X sc N s H ex) ifs tt)(Cm:∀s H ex D,Ed (bW X sc N s H ex) D (inner D (bW X sc N s H ex).env) ti)(hs:∀x,foldedSetIterable iter X.env x=pure x):PS X (.Assign [.Name x px] (.ListComp elt gens sc ps) pos) (yP (DZ wi cap g tt ti) (DI i)):=by
 intro pins s σ H D I h;rw[exec_Assign_Name_used _ _ _ _ hsw];have hcl:closureFor sc X.env=pure (gI X.env sc.names []):=LG λx hx=>I.ok.has x (C.free x hx);have e1:firstAsync gens=false:=by rw[eg];rfl
 have e2:firstIter gens X.env=eval iter X.env:=by rw[eg];rfl
 refine ae (ql (ae ?_));show wpAny _ X.A (do let _ <-comprehension (.ListComp elt gens sc ps) sc X.env (firstIterPos gens ps) (newList []) (firstAsync gens) (firstIter gens X.env) (some (assign (.Name x px) X.env))) _ _ s;rw[e1,e2];refine ae (bF (Ao (use:=some (assign (.Name x px) X.env)) (Q:=λ_ s'=>SP X pins D .next s') (g:=⟨tg,iter,ifs,0⟩) (gs:=rest) (by rw[eg];rfl) hs hcl C.kind C.nd (bF (hi pins s σ H _ I h) λv s1 h1=>bF h1 λitv s2 h2=>?_)) λ_ s' hq=>aj (aj hq));obtain⟨it,fp,tn,J,H2,e,I2,T,Ep,f2,lp⟩:=h2;subst e;refine LR (N:=N) (inner:=inner) (R:=λacc C=>compPost (model X.prog X.w) X.A X.xe (some (assign (.Name x px) X.env)) (λ_ s'=>SP X pins D .next s') acc C) hc C eg ht hg Eg (λs ex D _ _=>Cm s _ ex D) I2 T Ep f2 lp ?_;intro σ' H' xs s3 s' C D' hD0 hC hn a f fC hDC Ck k;obtain⟨m,hn⟩:=hn;have I5:Inv X pins σ H' s':=Ck s'.heap (nj ..);obtain⟨hz,its,n,r,eD⟩:=a;have I6:Inv X pins σ (bI H' D' (.lst xs)) s':=I5.adopt f hD0 ⟨hz,its,n,r,eD⟩;show wpAny _ X.A (assign (.Name x px) X.env (.ref D')) _ _ s';obtain⟨c0,c1,c2,c3,c4,c5⟩:=fC;have nC:bI H' D' (.lst xs) C=none:=by rw[cU (dk (bc hDC))];exact c0
 refine wpAny_assign_Name (JU (v:=Gs D') I6 hN hi' (.inl hx) rfl (λs'' I7⟨a,sb,ha⟩=>?_) (.inr hx));have hCa:C≠a:=by
  rcases ha with z|z
  ·rw[z];exact c1
  ·exact dk (c4 x a z)
 refine⟨m,hn.sameBut sb hCa,λh' hh=>?_⟩;have I8:Inv X pins (σ.set i (some (.ref D'))) (bI H' D' (.lst xs)) {s'' with heap:=h'}:=I7.turned (t':=s''.toks) (λb o hb e=>(hh.2 b hb).trans e) nC c1 c3 c4 c5;exact⟨_,_,I8,k D' f.1⟩
end
inductive Dt where
 |non|bl (b:Bool)|int (i:Int)|str (x:Str)|tup (xs:List Dt)|lst (xs:List Dt)|dct
mutual
def Den(P:ai->Prop)(H:Hp):Dt->V->Prop
 |.non,v=>v=.non
 |.bl b,v=>v=.bl b
 |.int i,v=>v=.int i
 |.str x,v=>v=.str x
 |.tup ds,v=>∃a vs,v=.ref a/\H a=some (.tup vs)/\Bl P H ds vs
 |.lst ds,v=>∃a vs,v=.ref a/\P a/\H a=some (.lst vs)/\Bl P H ds vs
 |.dct,v=>∃a,v=.ref a/\P a/\H a=some (.dK [])
def Bl(P:ai->Prop)(H:Hp):List Dt->Gx->Prop
 |[],vs=>vs=[]
 |d::ds,vs=>∃v r,vs=v::r/\Den P H d v/\Bl P H ds r
end
theorem Bl.length{P:ai->Prop}{H:Hp}:∀{ds:List Dt}{vs:Gx},Bl P H ds vs->vs.length=ds.length
 |[],vs,h=>by rw[Bl]at h;rw[h];rfl
 |d::ds,vs,h=>by rw[Bl]at h;obtain⟨v,r,rfl,_,h2⟩:=h;simp[Bl.length h2]
theorem Bl.get{P:ai->Prop}{H:Hp}:∀{ds:List Dt}{vs:Gx}{i:Nat}{v:V},Bl P H ds vs->vs[i]?=some v->∃d,ds[i]?=some d/\Den P H d v
 |[],vs,i,v,h,e=>by rw[Bl]at h;rw[h]at e;simp at e
 |d::ds,vs,i,v,h,e=>by
  rw[Bl]at h;obtain⟨w,r,rfl,h1,h2⟩:=h
  cases i with
  |zero=>simp at e;subst e;exact⟨d,rfl,h1⟩
  |succ i=>simp at e;exact Bl.get (i:=i) h2 e
theorem Bl.nil{P:ai->Prop}{H:Hp}:Bl P H [] []:=by rw[Bl]
theorem Bl.cons{P:ai->Prop}{H:Hp}{d:Dt}{v:V}{ds:List Dt}{vs:Gx}(h:Den P H d v)(t:Bl P H ds vs):Bl P H (d::ds) (v::vs):=by rw[Bl];exact⟨v,vs,rfl,h,t⟩
mutual
def bX:Dt->Dt->Bool
 |.non,.non=>true
 |.bl a,.bl b=>a==b
 |.bl a,.int j=>(if a then 1 else 0)==j
 |.int i,.bl b=>i==(if b then 1 else 0)
 |.int i,.int j=>i==j
 |.str x,.str y=>x==y
 |.tup xs,.tup ys=>iQ xs ys
 |.lst xs,.lst ys=>iQ xs ys
 |_,_=>false
def iQ:List Dt->List Dt->Bool
 |[],[]=>true
 |x::xs,y::ys=>bX x y&&iQ xs ys
 |_,_=>false
end
mutual
def fK:Dt->Nat
 |.tup xs=>oK xs+1
 |.lst xs=>oK xs+1
 |_=>0
def oK:List Dt->Nat
 |[]=>0
 |x::xs=>max (fK x) (oK xs)
end
mutual
def nod:Dt->Bool
 |.tup xs=>lT xs
 |.lst xs=>lT xs
 |.dct=>false
 |_=>true
def lT:List Dt->Bool
 |[]=>true
 |x::xs=>nod x&&lT xs
end
mutual
theorem EC:∀d:Dt,nod d=true->bX d d=true
 |.non,_=>rfl
 |.bl b,_=>by simp[bX]
 |.int i,_=>by simp[bX]
 |.str x,_=>by simp[bX]
 |.tup xs,h=>by rw[bX];exact ED xs (by rw[nod]at h;exact h)
 |.lst xs,h=>by rw[bX];exact ED xs (by rw[nod]at h;exact h)
 |.dct,h=>by simp[nod]at h
theorem ED:∀l:List Dt,lT l=true->iQ l l=true
 |[],_=>rfl
 |x::xs,h=>by rw[lT,cu]at h;rw[iQ,EC x h.1,ED xs h.2];rfl
end
theorem LU:∀{l:List Dt}{d:Dt},d∈l->fK d<=oK l
 |x::xs,d,h=>by
  rw[oK]
  rcases aw.mp h with rfl|h
  ·lia
  ·have:=LU h;lia
theorem EE:∀{l:List Dt}{d:Dt},lT l=true->d∈l->nod d=true
 |x::xs,d,h,hd=>by
  rw[lT,cu]at h
  rcases aw.mp hd with rfl|hd
  ·exact h.1
  ·exact EE h.2 hd
theorem uZ:∀{xs ys:List Dt},xs.length=ys.length->iQ xs ys=(ak xs.length).all λi=>bX (xs.getD i .non) (ys.getD i .non)
 |[],[],_=>rfl
 |x::xs,y::ys,h=>by rw[iQ,uZ (xs:=xs) (ys:=ys) (by simpa using h),bu,zg,List.all_cons,List.all_map];rfl
theorem vA:∀{xs ys:List Dt},xs.length≠ys.length->iQ xs ys=false
 |[],[],h=>absurd rfl h
 |[],_::_,_=>rfl
 |_::_,[],_=>rfl
 |x::xs,y::ys,h=>by rw[iQ,vA (xs:=xs) (ys:=ys) (by simpa using h),um]
mutual
theorem Den.inj{P:ai->Prop}{H:Hp}:∀(d d':Dt)(v:V),Den P H d v->Den P H d' v->d=d'
 |.non,d',v,h,h'=>by
  rw[Den]at h;subst h
  cases d'<;>rw[Den]at h'<;>first|rfl|(obtain⟨_,_,e,_⟩:=h';cases e;done)|(obtain⟨_,e,_⟩:=h';cases e;done)|(cases h';done)
 |.bl b,d',v,h,h'=>by
  rw[Den]at h;subst h
  cases d'<;>rw[Den]at h'<;>first|(obtain⟨_,_,e,_⟩:=h';cases e;done)|(obtain⟨_,e,_⟩:=h';cases e;done)|(cases h';done)|(cases h';rfl)
 |.int b,d',v,h,h'=>by
  rw[Den]at h;subst h
  cases d'<;>rw[Den]at h'<;>first|(obtain⟨_,_,e,_⟩:=h';cases e;done)|(obtain⟨_,e,_⟩:=h';cases e;done)|(cases h';done)|(cases h';rfl)
 |.str b,d',v,h,h'=>by
  rw[Den]at h;subst h
  cases d'<;>rw[Den]at h'<;>first|(obtain⟨_,_,e,_⟩:=h';cases e;done)|(obtain⟨_,e,_⟩:=h';cases e;done)|(cases h';done)|(cases h';rfl)
 |.tup ds,d',v,h,h'=>by
  rw[Den]at h;obtain⟨a,vs,rfl,h1,h2⟩:=h
  cases d'<;>rw[Den]at h'<;>first|(cases h';done)|(obtain⟨_,_,e,_,q,_⟩:=h';cases e;rw[h1]at q;cases q;done)|(obtain⟨_,e,_,q⟩:=h';cases e;rw[h1]at q;cases q;done)|(obtain⟨_,_,e,q,g⟩:=h';cases e;rw[h1]at q;cases q;rw[Bl.inj ds _ vs h2 g])
 |.lst ds,d',v,h,h'=>by
  rw[Den]at h;obtain⟨a,vs,rfl,_,h1,h2⟩:=h
  cases d'<;>rw[Den]at h'<;>first|(cases h';done)|(obtain⟨_,_,e,q,_⟩:=h';cases e;rw[h1]at q;cases q;done)|(obtain⟨_,e,_,q⟩:=h';cases e;rw[h1]at q;cases q;done)|(obtain⟨_,_,e,_,q,g⟩:=h';cases e;rw[h1]at q;cases q;rw[Bl.inj ds _ vs h2 g])
 |.dct,d',v,h,h'=>by
  rw[Den]at h;obtain⟨a,rfl,_,h1⟩:=h
  cases d'<;>rw[Den]at h'<;>first|rfl|(cases h';done)|(obtain⟨_,_,e,q,_⟩:=h';cases e;rw[h1]at q;cases q;done)|(obtain⟨_,_,e,_,q,_⟩:=h';cases e;rw[h1]at q;cases q;done)
theorem Bl.inj{P:ai->Prop}{H:Hp}:∀(ds Cy:List Dt)(vs:Gx),Bl P H ds vs->Bl P H Cy vs->ds=Cy
 |[],Cy,vs,h,h'=>by
  rw[Bl]at h;subst h
  cases Cy with
  |nil=>rfl
  |cons d Cy=>rw[Bl]at h';obtain⟨_,_,e,_⟩:=h';cases e
 |d::ds,Cy,vs,h,h'=>by
  rw[Bl]at h;obtain⟨v,r,rfl,h1,h2⟩:=h
  cases Cy with
  |nil=>rw[Bl]at h';cases h'
  |cons d' Cy=>rw[Bl]at h';obtain⟨v',r',e,h1',h2'⟩:=h';cases e;rw[Den.inj d d' v h1 h1',Bl.inj ds Cy r h2 h2']
end
section
variable{Pg:bj}{w:cn}{P:ai->Prop}{H:Hp}{s:ag}
theorem ZF(hok:Cq Pg w H s.heap){a:ai}{vs:Gx}(e:H a=some (.tup vs)):∃its:List af,Bf vs its/\s.heap.IsTuple a its.toArray:=by
 obtain⟨_,its,r,p⟩:=(show Bk Pg w H s.heap a (.tup vs) from hok a _ e)
 exact⟨its,r,p.tup⟩
theorem ZG(hok:Cq Pg w H s.heap){a:ai}{vs:Gx}(e:H a=some (.lst vs)):∃its:List af,Bf vs its/\s.heap.IsList a its.toArray:=by
 obtain⟨_,its,n,r,p⟩:=(show Bk Pg w H s.heap a (.lst vs) from hok a _ e)
 exact⟨its,r,_,p,rfl,n,rfl⟩
theorem LV{vs:Gx}{its:List af}(r:Bf vs its){j:Nat}(h:j<its.toArray.size):∃v,vs[j]?=some v/\RelV v its.toArray[j]:=by
 have hl:=r.length;have h':j<its.length:=by simpa using h
 have hv:j<vs.length:=by lia
 obtain⟨u,e,q⟩:=r.get (i:=j) (x:=vs[j]) (bz hv);refine⟨vs[j],bz hv,?_⟩;have:its.toArray[j]=u:=by have:its[j]?=some its[j]:=bz h';rw[this]at e;simpa using e
 rw[this];exact q
inductive Vw(P:ai->Prop)(H:Hp)(s:ag):Dt->af->Prop
 |non:Vw P H s .non .none
 |bl {b:Bool}:Vw P H s (.bl b) (.bool b)
 |int {i:Int}{t:Tok}:Vw P H s (.int i) (.int i t)
 |str {x:Str}{t:Tok}:Vw P H s (.str x) (.str x t)
 |tup {ds:List Dt}{a:ai}{vs:Gx}{its:List af}(e:H a=some (.tup vs)) (g:Bl P H ds vs) (q:Bf vs its) (tp:s.heap.IsTuple a its.toArray):Vw P H s (.tup ds) (.ref a)
 |lst {ds:List Dt}{a:ai}{vs:Gx}{its:List af}(e:H a=some (.lst vs)) (g:Bl P H ds vs) (q:Bf vs its) (tp:s.heap.IsList a its.toArray):Vw P H s (.lst ds) (.ref a)
theorem vw(hok:Cq Pg w H s.heap){d:Dt}{v:V}{u:af}(n:nod d=true)(h:Den P H d v)(r:RelV v u):Vw P H s d u:=by
 cases d<;>rw[Den]at h
 case tup=>obtain⟨a,vs,rfl,e,g⟩:=h;cases r;obtain⟨its,q,tp⟩:=ZF hok e;exact .tup e g q tp
 case lst=>obtain⟨a,vs,rfl,_,e,g⟩:=h;cases r;obtain⟨its,q,tp⟩:=ZG hok e;exact .lst e g q tp
 case dct=>simp[nod]at n
 all_goals subst h
 case int=>obtain⟨t,rfl⟩:=r;exact .int
 case str=>obtain⟨t,rfl⟩:=r;exact .str
 all_goals cases r;constructor
theorem zC(hok:Cq Pg w H s.heap){A:cq}{n:Nat}(ih:∀(d d':Dt)(u u':af),fK d<=n->nod d=true->nod d'=true->Vw P H s d u->Vw P H s d' u'->lh A s u u' (bX d d')){vs Ct:Gx}{ds Cy:List Dt}{its its':List af}(hd:oK ds<=n)(m1:lT ds=true)(m2:lT Cy=true)(g:Bl P H ds vs)(g':Bl P H Cy Ct)(q:Bf vs its)(q':Bf Ct its')(j:Nat)(h1:j<its.toArray.size)(h2:j<its'.toArray.size):lh A s its.toArray[j] its'.toArray[j] (bX (ds.getD j .non) (Cy.getD j .non)):=by
 obtain⟨x,ex,rx⟩:=LV q h1;obtain⟨x',ex',rx'⟩:=LV q' h2;obtain⟨dx,edx,gx⟩:=g.get ex;obtain⟨dx',edx',gx'⟩:=g'.get ex';have e1:ds.getD j .non=dx:=by simp[pb,edx]
 have e2:Cy.getD j .non=dx':=by simp[pb,edx']
 rw[e1,e2];have hm:=dw edx;have k1:=EE m1 hm;have k2:=EE m2 (dw edx');exact ih dx dx' _ _ (dh (LU hm) hd) k1 k2 (vw hok k1 gx rx) (vw hok k2 gx' rx')
theorem LW(hok:Cq Pg w H s.heap)(n:Nat)(ih:∀m,m+1=n->∀(A:cq)(d d':Dt)(u u':af),fK d<=m->A.units+m+1<cLine->nod d=true->nod d'=true->Vw P H s d u->Vw P H s d' u'->sk A s u u' (bX d d')/\lh A s u u' (bX d d'))(A:cq)(d d':Dt)(u u':af)(hn:fK d<=n)(hu:A.units+n+1<cLine)(n1:nod d=true)(n2:nod d'=true)(h:Vw P H s d u)(h':Vw P H s d' u'):sk A s u u' (bX d d')/\lh A s u u' (bX d d'):=by
 have Bs:A.units<cLine:=by lia
 have ok:∀{a1 a2:ai}{b:Bool},(sk A s (.ref a1) (.ref a2) b)->(a1=a2->b=true)->sk A s (.ref a1) (.ref a2) b/\lh A s (.ref a1) (.ref a2) b:=λ{a1 a2 b}key z=>⟨key,by
  by_cases Dy:a1=a2
  ·rw[z Dy,Dy];exact .same _
  ·exact .of_refs Dy key⟩
 have Cm:1<=n->∀(d d':Dt)(u u':af),fK d<=n-1->nod d=true->nod d'=true->Vw P H s d u->Vw P H s d' u'->lh A.in1 s u u' (bX d d'):=λhd d d' u u' a b c e f=>(ih (n-1) (by lia) A.in1 d d' u u' a (by show A.units+1+(n-1)+1<cLine;lia) b c e f).2
 cases h<;>cases h'
 case tup.tup ds a1 vs1 its1 e1 g1 q1 tp1 Cy a2 vs2 Dk e2 g2 q2 hW=>
  rw[nod]at n1 n2;rw[fK]at hn;have hl1:=g1.length;have hl2:=g2.length;have hq1:=q1.length;have hq2:=q2.length;refine ok ?_ λDy=>?_
  ·rw[bX];have z:=SeqAt.RcAt.tuples (e:=λj=>bX (ds.getD j .non) (Cy.getD j .non)) tp1 hW Bs (zC hok (Cm (by lia)) (by lia) n1 n2 g1 g2 q1 q2);have s1:its1.toArray.size=ds.length:=by simp;lia
   have s2:Dk.toArray.size=Cy.length:=by simp;lia
   rw[s1,s2]at z
   by_cases hlen:ds.length=Cy.length
   ·rw[uZ hlen];rw[<-hlen,zt]at z;simpa using z
   ·rw[vA hlen];rw[show(ds.length==Cy.length)=false from beq_eq_false_iff_ne.mpr hlen,um]at z;exact z
  ·subst Dy;rw[e1]at e2;cases e2;rw[Bl.inj ds Cy _ g1 g2,EC _ (by rw[nod];exact n2)]
 case lst.lst ds a1 vs1 its1 e1 g1 q1 tp1 Cy a2 vs2 Dk e2 g2 q2 hW=>
  rw[nod]at n1 n2;rw[fK]at hn;have hl1:=g1.length;have hl2:=g2.length;have hq1:=q1.length;have hq2:=q2.length;refine ok ?_ λDy=>?_
  ·rw[bX]
   by_cases hlen:ds.length=Cy.length
   ·have z:=SeqAt.RcAt.lists (e:=λj=>bX (ds.getD j .non) (Cy.getD j .non)) tp1 hW (by simp;lia) Bs (zC hok (Cm (by lia)) (by lia) n1 n2 g1 g2 q1 q2);rw[uZ hlen];simpa[hq1.symm,hl1]using z
   ·rw[vA hlen];exact SeqAt.RcAt.lists_lengths tp1 hW (by simp;lia) Bs
  ·subst Dy;rw[e1]at e2;cases e2;rw[Bl.inj ds Cy _ g1 g2,EC _ (by rw[nod];exact n2)]
 case non.non=>exact⟨.none_none,.same _⟩
 case non.bl=>exact⟨.none_bool _,.none_bool _⟩
 case non.int=>exact⟨.none_int _ _,.none_int _ _⟩
 case non.str=>exact⟨.none_str _ _,.none_str _ _⟩
 case non.tup=>exact⟨.none_tuple ‹_› Bs,.none_tuple ‹_› Bs⟩
 case non.lst=>exact⟨.none_list ‹_› Bs,.none_list ‹_› Bs⟩
 case bl.non=>exact⟨.bool_none _,.bool_none _⟩
 case bl.bl=>exact⟨.bool_bool _ _,.bool_bool _ _⟩
 case bl.int=>exact⟨.bool_int _ _ _,.bool_int _ _ _⟩
 case bl.str=>exact⟨.bool_str _ _ _,.bool_str _ _ _⟩
 case bl.tup=>exact⟨.bool_tuple _ ‹_› Bs,.bool_tuple _ ‹_› Bs⟩
 case bl.lst=>exact⟨.bool_list _ ‹_› Bs,.bool_list _ ‹_› Bs⟩
 case int.non=>exact⟨.int_none _ _,.int_none _ _⟩
 case int.bl=>exact⟨.int_bool _ _ _,.int_bool _ _ _⟩
 case int.int=>exact⟨.int_int _ _ _ _,.int_int _ _ _ _⟩
 case int.str=>exact⟨.int_str _ _ _ _,.int_str _ _ _ _⟩
 case int.tup=>exact⟨.int_tuple _ _ ‹_› Bs,.int_tuple _ _ ‹_› Bs⟩
 case int.lst=>exact⟨.int_list _ _ ‹_› Bs,.int_list _ _ ‹_› Bs⟩
 case str.non=>exact⟨.str_none _ _,.str_none _ _⟩
 case str.bl=>exact⟨.str_bool _ _ _,.str_bool _ _ _⟩
 case str.int=>exact⟨.str_int _ _ _ _,.str_int _ _ _ _⟩
 case str.str=>exact⟨.str_str _ _ _ _,.str_str _ _ _ _⟩
 case str.tup=>exact⟨.str_tuple _ _ ‹_› Bs,.str_tuple _ _ ‹_› Bs⟩
 case str.lst=>exact⟨.str_list _ _ ‹_› Bs,.str_list _ _ ‹_› Bs⟩
 case tup.non=>exact⟨.tuple_none ‹_› Bs,.tuple_none ‹_› Bs⟩
 case tup.bl=>exact⟨.tuple_bool _ ‹_› Bs,.tuple_bool _ ‹_› Bs⟩
 case tup.int=>exact⟨.tuple_int _ _ ‹_› Bs,.tuple_int _ _ ‹_› Bs⟩
 case tup.str=>exact⟨.tuple_str _ _ ‹_› Bs,.tuple_str _ _ ‹_› Bs⟩
 case tup.lst=>exact⟨.tuple_list ‹_› ‹_› Bs,.tuple_list ‹_› ‹_› Bs⟩
 case lst.non=>exact⟨.list_none ‹_› Bs,.list_none ‹_› Bs⟩
 case lst.bl=>exact⟨.list_bool _ ‹_› Bs,.list_bool _ ‹_› Bs⟩
 case lst.int=>exact⟨.list_int _ _ ‹_› Bs,.list_int _ _ ‹_› Bs⟩
 case lst.str=>exact⟨.list_str _ _ ‹_› Bs,.list_str _ _ ‹_› Bs⟩
 case lst.tup=>exact⟨.list_tuple ‹_› ‹_› Bs,.list_tuple ‹_› ‹_› Bs⟩
theorem EF(hok:Cq Pg w H s.heap):∀(n:Nat)(A:cq)(d d':Dt)(u u':af),fK d<=n->A.units+n+1<cLine->nod d=true->nod d'=true->Vw P H s d u->Vw P H s d' u'->sk A s u u' (bX d d')/\lh A s u u' (bX d d')
 |0=>LW hok 0 λ_ e=>by cases e
 |n+1=>LW hok _ λm e=>by cases e;exact EF hok n
theorem LX(hok:Cq Pg w H s.heap)(n:Nat)(A:cq)(d d':Dt)(v v':V)(u u':af)(a:fK d<=n)(b:A.units+n+1<cLine)(n1:nod d=true)(n2:nod d'=true)(h:Den P H d v)(h':Den P H d' v')(r:RelV v u)(r':RelV v' u'):
  sk A s u u' (bX d d')/\lh A s u u' (bX d d'):=EF hok n A d d' u u' a b n1 n2 (vw hok n1 h r) (vw hok n2 h' r')
end
end L2
open L2.Dt renaming int->Gn
namespace L2.Mr
inductive Dv where
 |non|bl (b:Bool)|int (i:Int)|str (x:Str)|tup (xs:List Dv)|ref (i:Nat)|edc|exc (c:Nat)|scr
inductive Ob where
 |lst (xs:List Dv)
 |clo (k t:Nat)
 |dct (ks:wo)
abbrev Hs:=List Ob
abbrev Ev:=List (Option Dv)
inductive Rs(α:Type) where
 |ok (a:α) (h:Hs)|ex (c:Nat) (h:Hs)|bad
abbrev Ay:=List Dv->Hs->Rs Dv
abbrev Az:=List Dv
abbrev A':=Option Dv
noncomputable def Rs.bind {α β:Type}(r:Rs α) (f:α->Hs->Rs β):Rs β:=match r with
 |.ok a h=>f a h
 |.ex c h=>.ex c h
 |.bad=>.bad
@[simp] theorem Rs.bind_ok {α β:Type}(a:α) (h:Hs) (f:α->Hs->Rs β):(Rs.ok a h).bind f=f a h:=rfl
@[simp] theorem Rs.bind_ex {α β:Type}(c:Nat) (h:Hs) (f:α->Hs->Rs β):(Rs.ex c h).bind f=.ex c h:=rfl
@[simp] theorem Rs.bind_bad {α β:Type}(f:α->Hs->Rs β):(Rs.bad).bind f=.bad:=rfl
abbrev M(α:Type):=Ev->Hs->Rs α
structure Cf0 where
 K:au
 cl:Nat->ai
 scr:y'
 sa:ai
 tabs:ai->Option Str:=λ_=>none
 lq:Str:=Str.empty
def fL(C:af)(e T:ai)(a0:af)(h:cy):Prop:=∃oe vs,h.get? e=some oe/\oe.cls=C/\oe.data=.fields vs/\vs[0]?=some a0/\vs[1]?=some (.ref T)/\oe.dict=none
inductive FlyE(G:Cf0)(H:Hp)(c:Nat)(u:af):Prop
 |mk (e:_) (φ:_) (h0:u=.ref e) (h1:H e=some (.ext φ)) (h2:∀h,φ h->∃o,h.get? e=some o/\o.cls=.ref (G.cl c)):FlyE G H c u
def EG:HO->Prop
 |.tup _=>True
 |.dK kvs=>kvs=[]
 |.frz _ _=>True
 |_=>False
def FzL(K:au)(H:Hp)(a:ai)(xs:Gx):Prop:=(∃o,H a=some (.frz o (.lst xs))) ∨
  ∃(o:Obj)(its:Array af)(n:Nat),K.lookup a=some o/\o.cls=.type "list"/\o.dict=none/\o.data=.seq its n/\its.size<=cg/\Bf xs its.toList
theorem FzL.sq{K:au}{H:Hp}{a:ai}{xs:Gx}(h:FzL K H a xs):By K H a xs:=by
 rcases h with⟨o,h⟩|h
 ·exact .inl (.inr ⟨o,h⟩)
 ·exact .inr h
theorem FzL.keep{K:au}{H H':Hp}{a:ai}{xs:Gx}(h:FzL K H a xs)(k:∀a o,EG o->H a=some o->H' a=some o):FzL K H' a xs:=by
 rcases h with⟨o,h⟩|h
 ·exact .inl ⟨o,k a _ trivial h⟩
 ·exact .inr h
mutual
def Be(G:Cf0)(μ:Nat->ai)(n:Nat)(H:Hp):Dv->V->Prop
 |.non,v=>v=.non
 |.bl b,v=>v=.bl b
 |.int i,v=>v=.int i
 |.str x,v=>v=.str x
 |.tup ds,v=>∃a vs,v=.ref a/\H a=some (.tup vs)/\RelDL G μ n H ds vs
 |.ref i,v=>i<n/\v=.ref (μ i)
 |.edc,v=>∃a,v=.ref a/\H a=some (.dK [])
 |.exc c,v=>∃a o u,v=.ref a/\H a=some (.frz o u)/\o.cls=.ref (G.cl c)/\o.dict=none/\∃vs,o.data=.fields vs
 |.scr,v=>v=.ref G.sa/\FzL G.K H G.sa (G.scr.map Ga)
def RelDL(G:Cf0)(μ:Nat->ai)(n:Nat)(H:Hp):Az->Gx->Prop
 |[],vs=>vs=[]
 |d::ds,vs=>∃v r,vs=v::r/\Be G μ n H d v/\RelDL G μ n H ds r
end
structure Ext(μ:Nat->ai)(n:Nat)(H:Hp)(μ':Nat->ai)(n':Nat)(H':Hp):Prop where
 le:n<=n'
 mu:∀i,i<n->μ' i=μ i
 im:∀a o,EG o->H a=some o->H' a=some o
theorem Ext.refl{μ:Nat->ai}{n:Nat}{H:Hp}:Ext μ n H μ n H:=⟨aq _,λ_ _=>rfl,λ_ _ _ e=>e⟩
theorem Ext.trans{μ μ1 μ2:Nat->ai}{n n1 n2:Nat}{H H1 H2:Hp}(a:Ext μ n H μ1 n1 H1)(b:Ext μ1 n1 H1 μ2 n2 H2):Ext μ n H μ2 n2 H2:=⟨dh a.le b.le,λi hi=>(b.mu i (bo hi a.le)).trans (a.mu i hi),λc o i e=>b.im c o i (a.im c o i e)⟩
structure Cfg extends Cf0 where
 clo:(Nat->ai)->Nat->Hp->Nat->Nat->ai->Prop:=λ_ _ _ _ _ _=>True
 cloM:∀{μ μ':Nat->ai}{n n':Nat}{H H':Hp}{k t:Nat}{a:ai},Ext μ n H μ' n' H'->clo μ n H k t a->clo μ' n' H' k t a:=by intros;trivial
instance:Coe Cfg Cf0:=⟨Cfg.toCf0⟩
section
variable{G:Cf0}{μ μ':Nat->ai}{n n':Nat}{H H':Hp}
mutual
theorem Be.mono(x:Ext μ n H μ' n' H'):∀(d:Dv)(v:V),Be G μ n H d v->Be G μ' n' H' d v
 |.non,v,h=>h
 |.bl b,v,h=>h
 |.int i,v,h=>h
 |.str s,v,h=>h
 |.tup ds,v,h=>by obtain⟨a,vs,e,h1,h2⟩:=h;exact⟨a,vs,e,x.im a _ trivial h1,RelDL.mono x ds vs h2⟩
 |.ref i,v,h=>by obtain⟨h1,h2⟩:=h;exact⟨bo h1 x.le,by rw[x.mu i h1];exact h2⟩
 |.edc,v,h=>by obtain⟨a,e,h1⟩:=h;exact⟨a,e,x.im a _ rfl h1⟩
 |.exc c,v,h=>by obtain⟨a,o,u,e,h1,h2⟩:=h;exact⟨a,o,u,e,x.im a _ trivial h1,h2⟩
 |.scr,v,h=>by obtain⟨h1,h2⟩:=h;exact⟨h1,h2.keep x.im⟩
theorem RelDL.mono(x:Ext μ n H μ' n' H'):∀(ds:Az)(vs:Gx),RelDL G μ n H ds vs->RelDL G μ' n' H' ds vs
 |[],vs,h=>h
 |d::ds,vs,h=>by obtain⟨v,r,e,h1,h2⟩:=h;exact⟨v,r,e,Be.mono x d v h1,RelDL.mono x ds r h2⟩
end
theorem RelDL.length:∀{ds:Az}{vs:Gx},RelDL G μ n H ds vs->vs.length=ds.length
 |[],_,h=>by rw[RelDL]at h;subst h;rfl
 |d::ds,_,h=>by rw[RelDL]at h;obtain⟨v,r,rfl,_,h2⟩:=h;rw[bu,bu,RelDL.length h2]
theorem RelDL.get:∀{ds:Az}{vs:Gx}{i:Nat}{d:Dv},RelDL G μ n H ds vs->ds[i]?=some d->∃v,vs[i]?=some v/\Be G μ n H d v
 |[],_,_,_,_,e=>by simp at e
 |d::ds,_,0,d',h,e=>by rw[RelDL]at h;obtain⟨v,r,rfl,h1,_⟩:=h;simp at e;subst e;exact⟨v,rfl,h1⟩
 |d::ds,_,i+1,d',h,e=>by rw[RelDL]at h;obtain⟨v,r,rfl,_,h2⟩:=h;obtain⟨u,e1,h3⟩:=RelDL.get (i:=i) h2 (by simpa using e);exact⟨u,by simpa using e1,h3⟩
theorem RelDL.nil:RelDL G μ n H [] []:=by rw[RelDL]
theorem RelDL.cons{d:Dv}{v:V}{ds:Az}{vs:Gx}(h:Be G μ n H d v)(t:RelDL G μ n H ds vs):RelDL G μ n H (d::ds) (v::vs):=by rw[RelDL];exact⟨v,vs,rfl,h,t⟩
theorem RelDL.append:∀{ds es:Az}{vs ws:Gx},RelDL G μ n H ds vs->RelDL G μ n H es ws->RelDL G μ n H (ds++es) (vs++ws)
 |[],_,_,_,h,h'=>by rw[RelDL]at h;subst h;exact h'
 |d::ds,_,_,_,h,h'=>by rw[RelDL]at h;obtain⟨v,r,rfl,h1,h2⟩:=h;exact RelDL.cons h1 (RelDL.append h2 h')
theorem RelDL.take:∀{ds:Az}{vs:Gx}(k:Nat),RelDL G μ n H ds vs->RelDL G μ n H (ds.take k) (vs.take k)
 |[],_,k,h=>by rw[RelDL]at h;subst h;simp[RelDL.nil]
 |d::ds,_,0,h=>by simp[RelDL.nil]
 |d::ds,_,k+1,h=>by rw[RelDL]at h;obtain⟨v,r,rfl,h1,h2⟩:=h;exact RelDL.cons h1 (RelDL.take k h2)
theorem RelDL.drop:∀{ds:Az}{vs:Gx}(k:Nat),RelDL G μ n H ds vs->RelDL G μ n H (ds.drop k) (vs.drop k)
 |[],_,k,h=>by rw[RelDL]at h;subst h;simp[RelDL.nil]
 |d::ds,_,0,h=>h
 |d::ds,_,k+1,h=>by rw[RelDL]at h;obtain⟨v,r,rfl,h1,h2⟩:=h;exact RelDL.drop k h2
theorem RelDL.set{x:Dv}{u:V}(hx:Be G μ n H x u):∀{ds:Az}{vs:Gx}(i:Nat),RelDL G μ n H ds vs->RelDL G μ n H (ds.set i x) (vs.set i u)
 |[],_,_,h=>by rw[RelDL]at h;subst h;exact RelDL.nil
 |d::ds,_,0,h=>by rw[RelDL]at h;obtain⟨v,r,rfl,h1,h2⟩:=h;exact RelDL.cons hx h2
 |d::ds,_,i+1,h=>by rw[RelDL]at h;obtain⟨v,r,rfl,h1,h2⟩:=h;exact RelDL.cons h1 (RelDL.set hx i h2)
end
def LY(ks:wo):List (List iP×V):=ks.map λk=>(k.map uw,.bl true)
def ObR(G:Cfg)(μ:Nat->ai)(n:Nat)(H:Hp)(a:ai):Ob->Prop
 |.lst xs=>∃vs,H a=some (.lst vs)/\RelDL G μ n H xs vs
 |.clo k t=>t<n/\(∃o u,H a=some (.frz o u))/\G.clo μ n H k t a
 |.dct ks=>H a=some (.dT (LY ks))
theorem ObR.clo{G:Cfg}{μ μ':Nat->ai}{n n':Nat}{H H':Hp}{a:ai}{k t:Nat}(r:ObR G μ n H a (.clo k t))(x:Ext μ n H μ' n' H'):ObR G μ' n' H' a (.clo k t):=by obtain⟨h1,⟨o,u,h2⟩,h3⟩:=r;exact⟨bo h1 x.le,⟨o,u,x.im _ _ trivial h2⟩,G.cloM x h3⟩
inductive CodeQ(q:Str)(oc:Obj):Prop
 |mk (vs:_) (t:_) (h0:oc.data=.fields vs) (h1:vs[1]?=some (.str q t)):CodeQ q oc
def TabOk(G:Cf0)(H:Hp):Prop:=∀P lq,G.tabs P=some lq->∃ps,H P=some (.tbl ps)/\TriplesOk ps.toList/\∀pos cv,codeAmong pos ps.toList=some cv->∃q oc,cv=.ref q/\H q=some (.frz oc (.own 0))/\CodeQ lq oc
theorem TabOk.keep{G:Cf0}{H H':Hp}(t:TabOk G H)(k:∀a o,(∀xs,o≠.lst xs)->(∀φ,o≠.ext φ)->H a=some o->H' a=some o):TabOk G H':=λP lq e=>by obtain⟨ps,h1,h2,h3⟩:=t P lq e;refine⟨ps,k P _ (λ_ z=>by cases z) (λ_ z=>by cases z) h1,h2,λpos cv q=>?_⟩;obtain⟨a,oc,e1,e2,e3⟩:=h3 pos cv q;exact⟨a,oc,e1,k a _ (λ_ z=>by cases z) (λ_ z=>by cases z) e2,e3⟩
structure Bt(G:Cfg)(μ:Nat->ai)(h:Hs)(H:Hp):Prop where
 inj:∀i j,i<h.length->j<h.length->μ i=μ j->i=j
 ob:∀(i:Nat)(o:Ob),h[i]?=some o->ObR G μ h.length H (μ i) o
 tab:TabOk G H
structure Bo(G:Cfg)(μ:Nat->ai)(n:Nat)(H:Hp)(ρ:Ev)(σ:St):Prop where
 len:ρ.length=σ.length
 at_:∀(i:Nat)(d:Dv),ρ[i]?=some (some d)->∃v,σ[i]?=some (some v)/\Be G μ n H d v
theorem Bo.mono{G:Cfg}{μ μ':Nat->ai}{n n':Nat}{H H':Hp}{ρ:Ev}{σ:St}(r:Bo G μ n H ρ σ)(x:Ext μ n H μ' n' H'):Bo G μ' n' H' ρ σ:=⟨r.len,λi d e=>let ⟨v,e1,h⟩:=r.at_ i d e;⟨v,e1,Be.mono x d v h⟩⟩
def Out{α β:Type}(G:Cfg)(E:XK)(μ:Nat->ai)(n:Nat)(H:Hp)(r:Rs α)(R:(Nat->ai)->Nat->Hp->α->β->Prop)(Q:β->Hp->Prop):Prop:=
 match r with
 |.ok d h'=>∀μ' H' v,Ext μ n H μ' h'.length H'->Bt G μ' h' H'->R μ' h'.length H' d v->Q v H'
 |.ex c h'=>∀μ' H' u,Ext μ n H μ' h'.length H'->Bt G μ' h' H'->FlyE G H' c u->E u none H'
 |.bad=>False
theorem Out.bind{α β γ δ:Type}{G:Cfg}{E:XK}{μ:Nat->ai}{n:Nat}{H:Hp}{r:Rs α}{f:α->Hs->Rs γ}{R:(Nat->ai)->Nat->Hp->γ->δ->Prop}{Q:δ->Hp->Prop}{R1:(Nat->ai)->Nat->Hp->α->β->Prop}(o:Out G E μ n H (r.bind f) R Q):Out G E μ n H r R1 λv H1=>∃μ1 d h1,Ext μ n H μ1 h1.length H1/\Bt G μ1 h1 H1/\R1 μ1 h1.length H1 d v/\Out G E μ1 h1.length H1 (f d h1) R Q:=by
 cases r with
 |bad=>exact o
 |ex c h'=>exact o
 |ok d h'=>
  intro μ1 H1 v x1 s1 r1;refine⟨μ1,d,h',x1,s1,r1,?_⟩;have o':Out G E μ n H (f d h') R Q:=o
  cases e:f d h' with
  |bad=>rw[e]at o';exact o'
  |ex c h2=>rw[e]at o';exact λμ2 H2 u x2 s2 r2=>o' μ2 H2 u (x1.trans x2) s2 r2
  |ok d2 h2=>rw[e]at o';exact λμ2 H2 u x2 s2 r2=>o' μ2 H2 u (x1.trans x2) s2 r2
theorem Out.mono{α β:Type}{G:Cfg}{E:XK}{μ:Nat->ai}{n:Nat}{H:Hp}{r:Rs α}{R:(Nat->ai)->Nat->Hp->α->β->Prop}{Q Q':β->Hp->Prop}(o:Out G E μ n H r R Q)(h:∀v H',Q v H'->Q' v H'):Out G E μ n H r R Q':=by
 cases r with
 |bad=>exact o
 |ex c h'=>exact o
 |ok d h'=>exact λμ' H' v x s r=>h _ _ (o μ' H' v x s r)
abbrev RB:(Nat->ai)->Nat->Hp->Bool->Bool->Prop:=λ_ _ _ b b'=>b'=b
inductive TOu{α β:Type}(G:Cfg)(E:XK)(m:M α)(R:(Nat->ai)->Nat->Hp->α->β->Prop)(σ:St)(H:Hp)(Q:β->Hp->Prop):Prop
 |mk (μ:Nat->ai) (ρ:Ev) (h:Hs) (rs:Bo G μ h.length H ρ σ) (s:Bt G μ h H) (o:Out G E μ h.length H (m ρ h) R Q):TOu G E m R σ H Q
def iZ(G:Cfg)(E:XK)(m:M Dv):TE:=TOu G E m (Be G)
def jN(G:Cfg)(E:XK)(m:M Bool):TT:=TOu G E m RB
def EH(G:Cfg)(E:XK)(m:M Az ):TA:=TOu G E m (RelDL G)
def aI(X:Cx)(G:Cfg)(E:XK)(pe:bq)(m:M Dv):Prop:=X.K=G.K->PE X pe (iZ G E m)
def fS(X:Cx)(G:Cfg)(E:XK)(pe:bq)(m:M Bool):Prop:=X.K=G.K->PT X pe (jN G E m)
def dP(X:Cx)(G:Cfg)(E:XK)(pe:List bq)(m:M Az ):Prop:=X.K=G.K->PA X pe (EH G E m)
theorem PE.imp{X:Cx}{e:bq}{t t':TE}(h:PE X e t)(i:∀σ H Q,t' σ H Q->t σ H Q):PE X e t':=λpins s σ H Q I q=>h pins s σ H Q I (i σ H Q q)
theorem PT.imp{X:Cx}{e:bq}{t t':TT}(h:PT X e t)(i:∀σ H Q,t' σ H Q->t σ H Q):PT X e t':=λpins s σ H Q I q=>h pins s σ H Q I (i σ H Q q)
theorem PA.imp{X:Cx}{e:List bq}{t t':TA}(h:PA X e t)(i:∀σ H Q,t' σ H Q->t σ H Q):PA X e t':=λpos pins s σ H Q I q=>h pos pins s σ H Q I (i σ H Q q)
section
variable{G:Cfg}{E:XK}{σ:St}{H:Hp}
theorem gB{m:M Dv}{γ δ:Type}{f:Dv->Hs->Rs γ}{R:(Nat->ai)->Nat->Hp->γ->δ->Prop}{Q:δ->Hp->Prop}{Q1:V->Hp->Prop}{μ:Nat->ai}{ρ:Ev}{h:Hs}(rs:Bo G μ h.length H ρ σ)(s:Bt G μ h H)(o:Out G E μ h.length H ((m ρ h).bind f) R Q)(k:∀μ1 d h1 v H1,Ext μ h.length H μ1 h1.length H1->Bo G μ1 h1.length H1 ρ σ->Bt G μ1 h1 H1->Be G μ1 h1.length H1 d v->Out G E μ1 h1.length H1 (f d h1) R Q->Q1 v H1):iZ G E m σ H Q1:=
 ⟨μ,ρ,h,rs,s,(o.bind (R1:=Be G)).mono λv H1⟨μ1,d,h1,x,s1,r1,o1⟩=>k μ1 d h1 v H1 x (rs.mono x) s1 r1 o1⟩
theorem EI{m:M Bool}{γ δ:Type}{f:Bool->Hs->Rs γ}{R:(Nat->ai)->Nat->Hp->γ->δ->Prop}{Q:δ->Hp->Prop}{Q1:Bool->Hp->Prop}{μ:Nat->ai}{ρ:Ev}{h:Hs}(rs:Bo G μ h.length H ρ σ)(s:Bt G μ h H)(o:Out G E μ h.length H ((m ρ h).bind f) R Q)(k:∀μ1 b h1 H1,Ext μ h.length H μ1 h1.length H1->Bo G μ1 h1.length H1 ρ σ->Bt G μ1 h1 H1->Out G E μ1 h1.length H1 (f b h1) R Q->Q1 b H1):jN G E m σ H Q1:=
 ⟨μ,ρ,h,rs,s,(o.bind (R1:=RB)).mono λv H1⟨μ1,d,h1,x,s1,r1,o1⟩=>by have e:v=d:=r1;subst e;exact k μ1 v h1 H1 x (rs.mono x) s1 o1⟩
theorem kJ{m:M Az}{γ δ:Type}{f:Az->Hs->Rs γ}{R:(Nat->ai)->Nat->Hp->γ->δ->Prop}{Q:δ->Hp->Prop}{Q1:Gx->Hp->Prop}{μ:Nat->ai}{ρ:Ev}{h:Hs}(rs:Bo G μ h.length H ρ σ)(s:Bt G μ h H)(o:Out G E μ h.length H ((m ρ h).bind f) R Q)(k:∀μ1 d h1 v H1,Ext μ h.length H μ1 h1.length H1->Bo G μ1 h1.length H1 ρ σ->Bt G μ1 h1 H1->RelDL G μ1 h1.length H1 d v->Out G E μ1 h1.length H1 (f d h1) R Q->Q1 v H1):EH G E m σ H Q1:=
 ⟨μ,ρ,h,rs,s,(o.bind (R1:=RelDL G)).mono λv H1⟨μ1,d,h1,x,s1,r1,o1⟩=>k μ1 d h1 v H1 x (rs.mono x) s1 r1 o1⟩
theorem Out.val{α β:Type}{μ:Nat->ai}{h:Hs}{d:α}{R:(Nat->ai)->Nat->Hp->α->β->Prop}{Q:β->Hp->Prop}{v:β}(s:Bt G μ h H)(o:Out G E μ h.length H (.ok d h) R Q)(r:R μ h.length H d v):Q v H:=o μ H v Ext.refl s r
end
section
variable{G:Cfg}{μ:Nat->ai}{h:Hs}{H H':Hp}{p:ai}{n:Nat}
theorem Ext.same(e:Cv H H'):Ext μ n H μ n H':=⟨aq _,λ_ _=>rfl,λa o _ q=>e a o q⟩
theorem Bt.same(s:Bt G μ h H)(e:Cv H H'):Bt G μ h H':=⟨s.inj,λi o q=>by
 have r:=s.ob i o q
 cases o with
 |lst xs=>obtain⟨vs,e1,r1⟩:=r;exact⟨vs,e _ _ e1,RelDL.mono (Ext.same e) _ _ r1⟩
 |clo k t=>exact r.clo (Ext.same e)
 |dct ks=>exact e _ _ r,s.tab.keep λa o _ _ q=>e a o q⟩
theorem dQ{o:HO}(h:H p=none):Cv H (bI H p o):=λb u e=>by rw[cU (gH e h)];exact e
theorem Bt.not(s:Bt G μ h H)(hp:H p=none):∀(i:Nat),i<h.length->μ i≠p:=λi hi z=>by
 have q:h[i]?=some h[i]:=bz hi;generalize h[i]=o at q
 cases o with
 |lst xs=>obtain⟨vs,e1,_⟩:=s.ob i _ q;rw[z,hp]at e1;cases e1
 |clo k t=>obtain⟨_,⟨o,u,e1⟩,_⟩:=s.ob i _ q;rw[z,hp]at e1;cases e1
 |dct ks=>have e1:H (μ i)=some (.dT (LY ks)):=s.ob i _ q;rw[z,hp]at e1;cases e1
theorem Bt.alloc{ds:Az}{vs:Gx}(s:Bt G μ h H)(hp:H p=none)(r:RelDL G μ h.length H ds vs):
  Ext μ h.length H (λi=>if i=h.length then p else μ i) (h++[Ob.lst ds]).length (bI H p (.lst vs))/\Bt G (λi=>if i=h.length then p else μ i) (h++[.lst ds]) (bI H p (.lst vs)):=by
 have hl:(h++[Ob.lst ds]).length=h.length+1:=by simp
 have hq:=s.not hp;have x:Ext μ h.length H (λi=>if i=h.length then p else μ i) (h++[Ob.lst ds]).length (bI H p (.lst vs)):=⟨by lia,λi hi=>if_neg (bc hi),λa o _ e=>dQ hp a o e⟩
 refine⟨x,λi j hi hj e=>?_,λi o q=>?_,s.tab.keep λa o _ _ q=>dQ hp a o q⟩
 ·rw[hl]at hi hj
  by_cases h1:i=h.length<;>by_cases h2:j=h.length
  ·lia
  ·rw[if_pos h1,if_neg h2]at e;exact absurd e.symm (hq j (by lia))
  ·rw[if_neg h1,if_pos h2]at e;exact absurd e (hq i (by lia))
  ·rw[if_neg h1,if_neg h2]at e;exact s.inj i j (by lia) (by lia) e
 ·by_cases h1:i<h.length
  ·rw[gd h1]at q;have r1:=s.ob i o q
   cases o with
   |lst xs=>obtain⟨ws,e1,r2⟩:=r1;exact⟨ws,by rw[if_neg (bc h1)];exact dQ hp _ _ e1,RelDL.mono x _ _ r2⟩
   |clo k t=>rw[if_neg (bc h1)];exact r1.clo x
   |dct ks=>rw[if_neg (bc h1)];exact dQ hp _ _ r1
  ·rw[jh (by lia)]at q;have h2:i=h.length:=by have:=(bw.mp q).1;simp at this;lia
   subst h2;simp at q;subst q;exact⟨vs,by rw[if_pos rfl];exact eR,RelDL.mono x _ _ r⟩
theorem Bt.write{xs ys:Az}{i:Nat}{vs:Gx}(s:Bt G μ h H)(q:h[i]?=some (.lst xs))(r:RelDL G μ h.length H ys vs):
  Ext μ h.length H μ (h.set i (.lst ys)).length (bI H (μ i) (.lst vs))/\Bt G μ (h.set i (.lst ys)) (bI H (μ i) (.lst vs)):=by
 obtain⟨us,e0,r0⟩:=s.ob i _ q;have hi:i<h.length:=(bw.mp q).1;have im:∀a o,EG o->H a=some o->bI H (μ i) (.lst vs) a=some o:=λa o m e=>by
  rw[cU];exact e
  rintro rfl;rw[e0]at e;cases e;exact m
 have x:Ext μ h.length H μ (h.set i (.lst ys)).length (bI H (μ i) (.lst vs)):=⟨by simp,λ_ _=>rfl,im⟩
 refine⟨x,λa b ha hb=>?_,λj o e=>?_,s.tab.keep λa o n1 _ q=>?_⟩
 rotate_left 2
 ·rw[cU];exact q
  rintro rfl;rw[e0]at q;cases q;exact n1 _ rfl
 ·rw[tw]at ha hb;exact s.inj a b ha hb
 ·by_cases Cw:i=j
  ·subst Cw;rw[jg hi]at e;cases e;exact⟨vs,eR,RelDL.mono x _ _ r⟩
  ·rw[jd Cw]at e;have hj:j<h.length:=(bw.mp e).1;have r1:=s.ob j o e;have ne:μ j≠μ i:=λz=>Cw (s.inj j i hj hi z).symm
   cases o with
   |lst zs=>obtain⟨ws,e1,r2⟩:=r1;exact⟨ws,by rw[cU ne];exact e1,RelDL.mono x _ _ r2⟩
   |clo k t=>exact r1.clo x
   |dct ks=>exact(cU ne).trans r1
end
def lim{α:Type}(n:Nat)(r:Rs α):Rs α:=if n<=1000000 then r else .bad
theorem zD{n:Nat}(h:n<=1000000):n<=cg:=dh h (by decide)
def getL(h:Hs)(i:Nat):Option Az:=match h[i]? with
 |some (.lst xs)=>some xs
 |_=>none
theorem dW{h:Hs}{i:Nat}{xs:Az}(e:getL h i=some xs):h[i]?=some (.lst xs):=by
 unfold getL at e
 cases q:h[i]? with
 |none=>rw[q]at e;cases e
 |some o=>
  cases o with
  |lst ys=>rw[q]at e;cases e;rfl
  |clo k t=>rw[q]at e;cases e
  |dct ks=>rw[q]at e;cases e
section
variable{X:Cx}{G:Cfg}{E:XK}{a b c:bq}{ma mb mc:M Dv}{pos:Pos}{es:List bq}{aM:M Az}
def aA(i:Nat):M Dv:=λρ h=>match ρ[i]? with
 |some (some d)=>.ok d h
 |_=>.bad
theorem fO(i:Nat){x:Str}(hN:X.N[i]?=some x:=by rfl)(hv:sN X.env.scope x:=by first|exact Af rfl|exact Or.inr (Af rfl)|exact Or.inr (Or.inr rfl))(hd:(x==Gw)=false:=by decide)(hcd:(x==("__classdict__":Str))=false:=by decide):aI X G E (.Name x pos) (aA i):=λ_=>PE.imp (DF hN hv hd hcd) λσ H Q⟨μ,ρ,h,rs,s,o⟩=>by
 unfold aA at o
 split at o
 ·rename_i d e;obtain⟨v,e1,r⟩:=rs.at_ i d e;exact⟨v,e1,o.val s r⟩
 ·exact o.elim
def mC(d:Dv):M Dv:=λ_ h=>.ok d h
abbrev aF(i:Int):M Dv:=mC (.int i)
theorem aS{i j}:aI X G E (.Constant (.int i) j pos) (aF i):=λ_=>PE.imp JW λσ H Q⟨μ,ρ,h,rs,s,o⟩=>o.val s (show Be G μ _ H (.int i) (.int i) from rfl)
theorem kK{i j}:aI X G E (.Constant (.bool i) j pos) (mC (.bl i)):=λ_=>PE.imp VI λσ H Q⟨μ,ρ,h,rs,s,o⟩=>o.val s (show Be G μ _ H (.bl i) (.bl i) from rfl)
theorem EJ{j}:aI X G E (.Constant .none j pos) (mC .non):=λ_=>PE.imp VJ λσ H Q⟨μ,ρ,h,rs,s,o⟩=>o.val s (show Be G μ _ H .non .non from rfl)
theorem sW{x j}:aI X G E (.Constant (.str x) j pos) (mC (.str x)):=λ_=>PE.imp JX λσ H Q⟨μ,ρ,h,rs,s,o⟩=>o.val s (show Be G μ _ H (.str x) (.str x) from rfl)
def aQ:M Az:=λ_ h=>.ok [] h
def aR(m:M Dv)(ms:M Az ):M Az:=λρ h=>(m ρ h).bind λd h1=>(ms ρ h1).bind λds h2=>.ok (d::ds) h2
abbrev aE(a:M Dv):M Az:=aR a aQ
abbrev aJ(a b:M Dv):M Az:=aR a (aR b aQ)
abbrev dD(a b c:M Dv):M Az:=aR a (aR b (aR c aQ))
abbrev jX(a b c d:M Dv):M Az:=aR a (aR b (aR c (aR d aQ)))
theorem lU:dP X G E [] aQ:=λ_=>PA.imp lS λσ H Q⟨μ,ρ,h,rs,s,o⟩=>o.val s RelDL.nil
theorem jA(ha:aI X G E a ma)(hr:dP X G E es aM)(hs:ar (a::es) X.env=(false,eval a X.env)::ar es X.env:=by rfl):dP X G E (a::es) (aR ma aM):=λhK=>PA.imp (kW (ha hK) (hr hK) hs) λσ H Q⟨μ,ρ,h,rs,s,o⟩=>gB rs s o λμ1 d h1 v H1 x1 Bv s1 r1 o1=>kJ Bv s1 o1 λμ2 ds h2 vs H2 x2 Ek s2 r2 o2=>o2.val s2 (RelDL.cons (Be.mono x2 _ _ r1) r2)
theorem aV{X:Cx}{G:Cfg}{E:XK}{a:bq}{ma:M Dv}(ka:aI X G E a ma)(ha:ar [a] X.env=(false,eval a X.env)::ar [] X.env:=by rfl):dP X G E [a] (aE ma):=jA ka lU ha
theorem bO{X:Cx}{G:Cfg}{E:XK}{a b:bq}{ma mb:M Dv}(ka:aI X G E a ma)(kb:aI X G E b mb)(ha:ar [a,b] X.env=(false,eval a X.env)::ar [b] X.env:=by rfl)(hb:ar [b] X.env=(false,eval b X.env)::ar [] X.env:=by rfl):dP X G E [a,b] (aJ ma mb):=jA ka (jA kb lU hb) ha
theorem jO{X:Cx}{G:Cfg}{E:XK}{a b c:bq}{ma mb mc:M Dv}(ka:aI X G E a ma)(kb:aI X G E b mb)(kc:aI X G E c mc)(ha:ar [a,b,c] X.env=(false,eval a X.env)::ar [b,c] X.env:=by rfl)(hb:ar [b,c] X.env=(false,eval b X.env)::ar [c] X.env:=by rfl)(hc:ar [c] X.env=(false,eval c X.env)::ar [] X.env:=by rfl):dP X G E [a,b,c] (dD ma mb mc):=jA ka (jA kb (jA kc lU hc) hb) ha
theorem vB{X:Cx}{G:Cfg}{E:XK}{a b c d:bq}{ma mb mc md:M Dv}(ka:aI X G E a ma)(kb:aI X G E b mb)(kc:aI X G E c mc)(kd:aI X G E d md)(ha:ar [a,b,c,d] X.env=(false,eval a X.env)::ar [b,c,d] X.env:=by rfl)(hb:ar [b,c,d] X.env=(false,eval b X.env)::ar [c,d] X.env:=by rfl)(hc:ar [c,d] X.env=(false,eval c X.env)::ar [d] X.env:=by rfl)(hd:ar [d] X.env=(false,eval d X.env)::ar [] X.env:=by rfl):dP X G E [a,b,c,d] (jX ma mb mc md):=jA ka (jA kb (jA kc (jA kd lU hd) hc) hb) ha
def bH(ms:M Az ):M Dv:=λρ h=>(ms ρ h).bind λds h1=>lim ds.length (.ok (.tup ds) h1)
theorem eM{k}(h:dP X G E es aM):aI X G E (.Tuple es k pos) (bH aM):=λhK=>PE.imp (XX (h hK)) λσ H Q⟨μ,ρ,h,rs,s,o⟩=>kJ rs s o λμ1 ds h1 vs H1 x1 Bv s1 r1 o1=>by
 unfold lim at o1
 split at o1
 ·rename_i hl;refine⟨by rw[r1.length];exact zD hl,λp hp=>?_⟩;exact o1 μ1 _ _ (Ext.same (dQ hp)) (s1.same (dQ hp)) ⟨p,vs,rfl,eR,RelDL.mono (Ext.same (dQ hp)) _ _ r1⟩
 ·exact o1.elim
def bY(ms:M Az ):M Dv:=λρ h=>(ms ρ h).bind λds h1=>lim ds.length (.ok (.ref h1.length) (h1++[.lst ds]))
theorem mP{μ:Nat->ai}{h:Hs}{H:Hp}{ds:Az}{vs:Gx}{Q:VK}{p:ai}(s:Bt G μ h H)(r:RelDL G μ h.length H ds vs)(hp:H p=none)(o:Out G E μ h.length H (.ok (.ref h.length) (h++[.lst ds])) (Be G) Q):Q (.ref p) (bI H p (.lst vs)):=by obtain⟨x,s'⟩:=s.alloc hp r;exact o _ _ _ x s' ⟨by simp,by show Gs p=Gs (if h.length=h.length then p else μ h.length);rw[if_pos rfl]⟩
theorem jP(h:dP X G E es aM):aI X G E (.List es pos) (bY aM):=λhK=>PE.imp (XY (h hK)) λσ H Q⟨μ,ρ,h,rs,s,o⟩=>kJ rs s o λμ1 ds h1 vs H1 x1 Bv s1 r1 o1=>by
 unfold lim at o1
 split at o1
 ·rename_i hl;exact⟨by rw[r1.length];exact zD hl,λp hp=>mP s1 r1 hp o1⟩
 ·exact o1.elim
def m2(f:Dv->Dv->Hs->Rs Dv)(ma mb:M Dv):M Dv:=λρ h=>(ma ρ h).bind λx h1=>(mb ρ h1).bind λy h2=>f x y h2
def fU(G:Cfg)(r:R2)(f:Dv->Dv->Hs->Rs Dv):Prop:=∀(E:XK)(μ:Nat->ai)(h:Hs)(H:Hp)(x y:Dv)(vx vy:V)(Q:VK),Bt G μ h H->Be G μ h.length H x vx->Be G μ h.length H y vy->Out G E μ h.length H (f x y h) (Be G) Q->r vx vy H Q
theorem vD{r:R2}{f:Dv->Dv->Hs->Rs Dv}(hd:fU G r f){σ:St}{H:Hp}{Q:VK}(t:iZ G E (m2 f ma mb) σ H Q):uU r (iZ G E ma) (iZ G E mb) σ H Q:=by obtain⟨μ,ρ,h,rs,s,o⟩:=t;exact gB rs s o λμ1 x h1 vx H1 x1 Bv s1 r1 o1=>gB Bv s1 o1 λμ2 y h2 vy H2 x2 Ek s2 r2 o2=>hd E μ2 h2 H2 x y vx vy Q s2 (Be.mono x2 _ _ r1) r2 o2
theorem qR{op:Operator}{r:R2}{f:Dv->Dv->Hs->Rs Dv}(ho:Ca X (binaryOp op) r)(hd:fU G r f)(ha:aI X G E a ma)(hb:aI X G E b mb):aI X G E (.BinOp a op b pos) (m2 f ma mb):=λhK=>PE.imp (W6 ho (ha hK) (hb hK)) λ_ _ _ t=>vD hd t
theorem sX{op:zl}{r:R2}{f:Dv->Dv->Hs->Rs Dv}(ho:Ca X (compareOp op) r)(hd:fU G r f)(ha:aI X G E a ma)(hb:aI X G E b mb)(hm:behindInMarks op b=false):aI X G E (.Compare a [op] [b] pos) (m2 f ma mb):=λhK=>PE.imp (XH ho (ha hK) (hb hK) hm) λ_ _ _ t=>vD hd t
def dZ:Dv->Hs->Rs Bool
 |.bl b,h=>.ok b h
 |_,_=>.bad
def mB(m:M Dv):M Bool:=λρ h=>(m ρ h).bind dZ
theorem LZ{m:M Dv}{σ:St}{H:Hp}{Q:Bool->Hp->Prop}(t:jN G E (mB m) σ H Q):iZ G E m σ H λx H'=>∃k,x=.bl k/\Q k H':=by
 obtain⟨μ,ρ,h,rs,s,o⟩:=t;refine gB rs s o λμ1 x h1 vx H1 x1 Bv s1 r1 o1=>?_
 cases x with
 |bl k=>exact⟨k,r1,o1.val s1 rfl⟩
 |_=>exact o1.elim
theorem oM{op:zl}{r:R2}{f:Dv->Dv->Hs->Rs Dv}(ho:Ca X (compareOp op) r)(hd:fU G r f)(ha:aI X G E a ma)(hb:aI X G E b mb)(hm:behindInMarks op b=false):fS X G E (.Compare a [op] [b] pos) (mB (m2 f ma mb)):=λhK=>PT.imp (XI ho (ha hK) (hb hK) hm) λσ H Q t=>vD hd (LZ t)
def kL(f f':Dv->Dv->Hs->Rs Dv)(ma mb mc:M Dv):M Dv:=λρ h=>(ma ρ h).bind λx h1=>(mb ρ h1).bind λy h2=>(f x y h2).bind λz h3=>match z with
 |.bl true=>(mc ρ h3).bind λw h4=>f' y w h4
 |.bl false=>.ok (.bl false) h3
 |_=>.bad
theorem L0{r r':R2}{f f':Dv->Dv->Hs->Rs Dv}(hd:fU G r f)(Ft:fU G r' f'){σ:St}{H:Hp}{Q:VK}(t:iZ G E (kL f f' ma mb mc) σ H Q):DO r r' (iZ G E ma) (iZ G E mb) (iZ G E mc) σ H Q:=by
 obtain⟨μ,ρ,h,rs,s,o⟩:=t;refine gB rs s o λμ1 x h1 vx H1 x1 Bv s1 r1 o1=>gB Bv s1 o1 λμ2 y h2 vy H2 x2 Ek s2 r2 o2=>?_;refine hd E μ2 h2 H2 x y vx vy _ s2 (Be.mono x2 _ _ r1) r2 ((o2.bind (R1:=Be G)).mono λvz H3⟨μ3,z,h3,x3,s3,r3,o3⟩=>?_)
 cases z with
 |bl k=>
  refine⟨k,r3,?_⟩
  cases k with
  |true=>exact LF (gB (Ek.mono x3) s3 o3 λμ4 w h4 vw H4 x4 rs4 s4 r4 o4=>Ft E μ4 h4 H4 y w vy vw Q s4 (Be.mono (x3.trans x4) _ _ r2) r4 o4)
  |false=>exact LD (o3.val s3 rfl)
 |_=>exact o3.elim
theorem ZH{op Fi:zl}{r r':R2}{f f':Dv->Dv->Hs->Rs Dv}(ho:Ca X (compareOp op) r)(En:Ca X (compareOp Fi) r')(hd:fU G r f)(Ft:fU G r' f')(ha:aI X G E a ma)(hb:aI X G E b mb)(hc:aI X G E c mc)(hm:lastMarks [op,Fi] [b,c]=false:=by with_unfolding_all rfl):aI X G E (.Compare a [op,Fi] [b,c] pos) (kL f f' ma mb mc):=λhK=>
 PE.imp (XJ ho En (ha hK) (hb hK) (hc hK) hm) λ_ _ _ t=>L0 hd Ft t
theorem L1{op Fi:zl}{r r':R2}{f f':Dv->Dv->Hs->Rs Dv}(ho:Ca X (compareOp op) r)(En:Ca X (compareOp Fi) r')(hd:fU G r f)(Ft:fU G r' f')(ha:aI X G E a ma)(hb:aI X G E b mb)(hc:aI X G E c mc)(hm:lastMarks [op,Fi] [b,c]=false:=by with_unfolding_all rfl):fS X G E (.Compare a [op,Fi] [b,c] pos) (mB (kL f f' ma mb mc)):=λhK=>
 PT.imp (XM ho En (ha hK) (hb hK) (hc hK) hm) λσ H Q t=>L0 hd Ft (LZ t)
def jY(G:Cfg)(r:V->Hp->VK->Prop)(f:Dv->Hs->Rs Dv):Prop:=∀(E:XK)(μ:Nat->ai)(h:Hs)(H:Hp)(x:Dv)(vx:V)(Q:VK),Bt G μ h H->Be G μ h.length H x vx->Out G E μ h.length H (f x h) (Be G) Q->r vx H Q
def m1(f:Dv->Hs->Rs Dv)(ma:M Dv):M Dv:=λρ h=>(ma ρ h).bind f
theorem ZI{op:UnaryOp}{r:V->Hp->VK->Prop}{f:Dv->Hs->Rs Dv}(ho:yR X (unaryOp op) r)(hd:jY G r f)(ha:aI X G E a ma):aI X G E (.UnaryOp op a pos) (m1 f ma):=λhK=>PE.imp (W7 ho (ha hK)) λσ H Q⟨μ,ρ,h,rs,s,o⟩=>gB rs s o λμ1 x h1 vx H1 x1 Bv s1 r1 o1=>hd E μ1 h1 H1 x vx Q s1 r1 o1
variable{tA tB':M Bool}{rest:List bq}
def iR(t u:M Bool):M Bool:=λρ h=>(t ρ h).bind λc h1=>if c=true then u ρ h1 else .ok false h1
def gD(t u:M Bool):M Bool:=λρ h=>(t ρ h).bind λc h1=>if c=true then .ok true h1 else u ρ h1
def eN(t:M Bool):M Bool:=λρ h=>(t ρ h).bind λc h1=>.ok (!c) h1
def Cp(X:Cx)(G:Cfg)(E:XK)(pe:bq)(m:M Bool):Prop:=X.K=G.K->PW X pe (jN G E m)
theorem Cp.t{pe:bq}{m:M Bool}(h:Cp X G E pe m):fS X G E pe m:=λhK=>(h hK).pt
theorem PW.imp{e:bq}{t t':TT}(h:PW X e t)(i:∀σ H Q,t' σ H Q->t σ H Q):PW X e t':=λwh pins s σ H Q I q=>h wh pins s σ H Q I (i σ H Q q)
theorem L4(ha:fS X G E a tA):Cp X G E (.BoolOp .And [a] pos) tA:=λhK=>VN (ha hK)
theorem pP(ha:fS X G E a tA):Cp X G E (.BoolOp .Or [a] pos) tA:=λhK=>VO (ha hK)
theorem ZJ{σ:St}{H:Hp}{Q:Bool->Hp->Prop}(t:jN G E (iR tA tB') σ H Q):JY (jN G E tA) (jN G E tB') σ H Q:=by
 obtain⟨μ,ρ,h,rs,s,o⟩:=t;refine EI rs s o λμ1 k h1 H1 x1 Bv s1 o1=>?_
 cases k with
 |true=>rw[if_pos rfl]at o1⊢;exact⟨μ1,ρ,h1,Bv,s1,o1⟩
 |false=>rw[if_neg (by decide)]at o1⊢;exact o1.val s1 rfl
theorem ZK{σ:St}{H:Hp}{Q:Bool->Hp->Prop}(t:jN G E (gD tA tB') σ H Q):JZ (jN G E tA) (jN G E tB') σ H Q:=by
 obtain⟨μ,ρ,h,rs,s,o⟩:=t;refine EI rs s o λμ1 k h1 H1 x1 Bv s1 o1=>?_
 cases k with
 |false=>rw[if_neg (by decide)]at o1⊢;exact⟨μ1,ρ,h1,Bv,s1,o1⟩
 |true=>rw[if_pos rfl]at o1⊢;exact o1.val s1 rfl
theorem EK(ha:fS X G E a tA)(hb:Cp X G E (.BoolOp .And (b::rest) pos) tB'):Cp X G E (.BoolOp .And (a::b::rest) pos) (iR tA tB'):=λhK=>PW.imp (VP (ha hK) (hb hK)) λ_ _ _ t=>ZJ t
theorem pQ(ha:fS X G E a tA)(hb:Cp X G E (.BoolOp .Or (b::rest) pos) tB'):Cp X G E (.BoolOp .Or (a::b::rest) pos) (gD tA tB'):=λhK=>PW.imp (VQ (ha hK) (hb hK)) λ_ _ _ t=>ZK t
theorem kY(ha:fS X G E a tA):fS X G E (.UnaryOp .Not a pos) (eN tA):=λhK=>PT.imp (VR (ha hK)) λσ H Q⟨μ,ρ,h,rs,s,o⟩=>EI rs s o λμ1 k h1 H1 x1 Bv s1 o1=>o1.val s1 rfl
def dE(m u:M Dv):M Dv:=λρ h=>(m ρ h).bind λd h1=>match d with
 |.bl true=>u ρ h1
 |.bl false=>.ok (.bl false) h1
 |_=>.bad
def sY:Dv->Hs->Rs Dv
 |.bl b,h=>.ok (.bl (!b)) h
 |_,_=>.bad
theorem oO{op}{m:M Dv}(h:aI X G E a m):aI X G E (.BoolOp op [a] pos) m:=λhK=>VU (h hK)
theorem kZ(ha:aI X G E a ma)(hb:aI X G E (.BoolOp .And (b::rest) pos) mb):aI X G E (.BoolOp .And (a::b::rest) pos) (dE ma mb):=λhK=>PE.imp (VV (ha hK) (hb hK)) λσ H Q⟨μ,ρ,h,rs,s,o⟩=>
 gB rs s o λμ1 x h1 vx H1 x1 Bv s1 r1 o1=>by
  cases x with
  |bl k=>
   refine⟨k,r1,?_⟩
   cases k with
   |true=>exact LF ⟨μ1,ρ,h1,Bv,s1,o1⟩
   |false=>exact LD (o1.val s1 rfl)
  |_=>exact o1.elim
theorem L5(ha:aI X G E a ma):aI X G E (.UnaryOp .Not a pos) (m1 sY ma):=λhK=>PE.imp (VW (ha hK)) λσ H Q⟨μ,ρ,h,rs,s,o⟩=>
 gB rs s o λμ1 x h1 vx H1 x1 Bv s1 r1 o1=>by
  cases x with
  |bl k=>exact⟨k,r1,o1.val s1 rfl⟩
  |_=>exact o1.elim
def jZ:Dv->Hs->Rs Bool
 |.non,h=>.ok false h
 |.bl b,h=>.ok b h
 |.int i,h=>.ok (i !=0) h
 |.tup xs,h=>.ok (!xs.isEmpty) h
 |.ref i,h=>match getL h i with
  |some xs=>.ok (!xs.isEmpty) h
  |none=>.bad
 |_,_=>.bad
def cF(m:M Dv):M Bool:=λρ h=>(m ρ h).bind jZ
theorem L6{μ:Nat->ai}{n:Nat}{H:Hp}{ds:Az}{vs:Gx}(r:RelDL G μ n H ds vs):vs.isEmpty=ds.isEmpty:=by
 have:=r.length
 cases ds<;>cases vs<;>simp_all
theorem iA(ha:aI X G E a ma)(he:∀whole,isTrue a X.env whole=(do let v <-whole;standAt a.pos;holding [v] (truthy v)):=by intro _;rfl):fS X G E a (cF ma):=λhK=>PT.imp (XQ (ha hK) he) λσ H Q⟨μ,ρ,h,rs,s,o⟩=>
 gB rs s o λμ1 x h1 vx H1 x1 Bv s1 r1 o1=>by
  cases x with
  |non=>rw[Be]at r1;subst r1;exact⟨_,rfl,o1.val s1 rfl⟩
  |bl k=>rw[Be]at r1;subst r1;exact⟨_,rfl,o1.val s1 rfl⟩
  |int i=>rw[Be]at r1;subst r1;exact⟨_,rfl,o1.val s1 rfl⟩
  |tup ds=>obtain⟨p,vs,rfl,e,r⟩:=r1;exact⟨_,.inr (.inl ⟨vs,Gf e,rfl⟩),by rw[L6 r];exact o1.val s1 rfl⟩
  |ref i=>
   obtain⟨hi,rfl⟩:=r1;dsimp only[jZ]at o1
   cases q:getL h1 i with
   |none=>rw[q]at o1;exact o1.elim
   |some xs=>obtain⟨vs,e,r⟩:=s1.ob i _ (dW q);rw[q]at o1;exact⟨_,.inl ⟨vs,Gi e,rfl⟩,by rw[L6 r];exact o1.val s1 rfl⟩
  |_=>exact o1.elim
end
end L2.Mr
open L2.Mr.Dv renaming int->Fx,bl->Gq,tup->Gu
open L2.Mr.Ob renaming lst->Fy
open L2.Mr.Ext renaming same->F',refl->Ge
open L2.Mr.RelDL renaming mono->Gb,cons->Gg,nil->Gj
open L2.Mr.PE renaming imp->Gh
open L2.Mr.Be renaming mono->Gk
open L2.Mr.Rs renaming ok->Gp
open L2.Mr.Cp renaming t->Gr
namespace L2
section
variable{Pg:bj}{w:cn}{P:ai->Prop}{H:Hp}{s:ag}
theorem ZL(hok:Cq Pg w H s.heap)(n:Nat)(A:cq)(d d':Dt)(v v':V)(u u':af)(hn:fK d<=n)(hu:A.units+n+1<cLine)(n1:nod d=true)(n2:nod d'=true)(h:Den P H d v)(h':Den P H d' v')(r:RelV v u)(r':RelV v' u'):
  SeqAt.RcNeAt A s u u' (!bX d d'):=by
 have Bs:A.units<cLine:=by lia
 have Cm:1<=n->∀(d d':Dt)(u u':af),fK d<=n-1->nod d=true->nod d'=true->Vw P H s d u->Vw P H s d' u'->lh A.in1 s u u' (bX d d'):=λhd d d' u u' a b c e f=>(EF hok (n-1) A.in1 d d' u u' a (by show A.units+1+(n-1)+1<cLine;lia) b c e f).2;have k:=vw hok n1 h r;have k':=vw hok n2 h' r'
 clear h h' r r'
 cases k<;>cases k'
 case tup.tup ds a1 vs1 its1 e1 g1 q1 tp1 Cy a2 vs2 Dk e2 g2 q2 hW=>
  rw[nod]at n1 n2;rw[fK]at hn;have hl1:=g1.length;have hl2:=g2.length;have hq1:=q1.length;have hq2:=q2.length;rw[bX];have z:=SeqAt.RcNeAt.tuples (e:=λj=>bX (ds.getD j .non) (Cy.getD j .non)) tp1 hW Bs (zC hok (Cm (by lia)) (by lia) n1 n2 g1 g2 q1 q2);have s1:its1.toArray.size=ds.length:=by simp;lia
  have s2:Dk.toArray.size=Cy.length:=by simp;lia
  rw[s1,s2]at z
  by_cases hlen:ds.length=Cy.length
  ·rw[uZ hlen];rw[<-hlen,zt]at z;simpa using z
  ·rw[vA hlen];rw[show(ds.length==Cy.length)=false from beq_eq_false_iff_ne.mpr hlen,um]at z;exact z
 case lst.lst ds a1 vs1 its1 e1 g1 q1 tp1 Cy a2 vs2 Dk e2 g2 q2 hW=>
  rw[nod]at n1 n2;rw[fK]at hn;have hl1:=g1.length;have hl2:=g2.length;have hq1:=q1.length;have hq2:=q2.length;rw[bX]
  by_cases hlen:ds.length=Cy.length
  ·have z:=SeqAt.RcNeAt.lists (e:=λj=>bX (ds.getD j .non) (Cy.getD j .non)) tp1 hW (by simp;lia) Bs (zC hok (Cm (by lia)) (by lia) n1 n2 g1 g2 q1 q2);rw[uZ hlen];simpa[hq1.symm,hl1]using z
  ·rw[vA hlen];exact SeqAt.RcNeAt.lists_lengths tp1 hW (by simp;lia) Bs
 case non.non=>exact .none_none
 case non.bl=>exact .none_bool _
 case non.int=>exact .none_int _ _
 case non.str=>exact .none_str _ _
 case non.tup=>exact .none_tuple ‹_› Bs
 case non.lst=>exact .none_list ‹_› Bs
 case bl.non=>exact .bool_none _
 case bl.bl=>exact .bool_bool _ _
 case bl.int=>exact .bool_int _ _ _
 case bl.str=>exact .bool_str _ _ _
 case bl.tup=>exact .bool_tuple _ ‹_› Bs
 case bl.lst=>exact .bool_list _ ‹_› Bs
 case int.non=>exact .int_none _ _
 case int.bl=>exact .int_bool _ _ _
 case int.int=>exact .int_int _ _ _ _
 case int.str=>exact .int_str _ _ _ _
 case int.tup=>exact .int_tuple _ _ ‹_› Bs
 case int.lst=>exact .int_list _ _ ‹_› Bs
 case str.non=>exact .str_none _ _
 case str.bl=>exact .str_bool _ _ _
 case str.int=>exact .str_int _ _ _ _
 case str.str=>exact .str_str _ _ _ _
 case str.tup=>exact .str_tuple _ _ ‹_› Bs
 case str.lst=>exact .str_list _ _ ‹_› Bs
 case tup.non=>exact .tuple_none ‹_› Bs
 case tup.bl=>exact .tuple_bool _ ‹_› Bs
 case tup.int=>exact .tuple_int _ _ ‹_› Bs
 case tup.str=>exact .tuple_str _ _ ‹_› Bs
 case tup.lst=>exact .tuple_list ‹_› ‹_› Bs
 case lst.non=>exact .list_none ‹_› Bs
 case lst.bl=>exact .list_bool _ ‹_› Bs
 case lst.int=>exact .list_int _ _ ‹_› Bs
 case lst.str=>exact .list_str _ _ ‹_› Bs
 case lst.tup=>exact .list_tuple ‹_› ‹_› Bs
end
end L2
namespace L2.Mr
def bU{α β:Type}(f:α->Option β):List α->Option (List β)
 |[]=>some []
 |x::xs=>match f x with
  |none=>none
  |some y=>match bU f xs with
   |none=>none
   |some ys=>some (y::ys)
def cG:Nat->Hs->Dv->Option Dt
 |0,_,_=>none
 |k+1,h,d=>match d with
  |.non=>some .non
  |.bl b=>some (.bl b)
  |.int i=>some (.int i)
  |.str x=>some (.str x)
  |.tup xs=>match bU (cG k h) xs with
   |some ts=>some (.tup ts)
   |none=>none
  |.ref i=>match getL h i with
   |some xs=>match bU (cG k h) xs with
    |some ts=>some (.lst ts)
    |none=>none
   |none=>none
  |_=>none
abbrev lA:ai->Prop:=λ_=>True
section
variable{G:Cfg}{μ:Nat->ai}{h:Hs}{H:Hp}
theorem sZ(s:Bt G μ h H):∀(k:Nat)(d:Dv)(v:V)(t:Dt),Be G μ h.length H d v->cG k h d=some t->Den lA H t v/\fK t<=k/\nod t=true:=by
 intro k
 induction k with
 |zero=>intro d v t _ e;cases e
 |succ k ih=>
  have il:∀(xs:Az)(vs:Gx)(ts:List Dt),RelDL G μ h.length H xs vs->bU (cG k h) xs=some ts->Bl lA H ts vs/\oK ts<=k/\lT ts=true:=by
   intro xs
   induction xs with
   |nil=>intro vs ts r e;cases e;rw[RelDL]at r;subst r;exact⟨Bl.nil,by simp[oK],rfl⟩
   |cons x xs ihx=>
    intro vs ts r e;rw[RelDL]at r;obtain⟨v,rr,rfl,r1,r2⟩:=r;unfold bU at e
    cases q:cG k h x with
    |none=>rw[q]at e;cases e
    |some y=>
     rw[q]at e;dsimp only at e
     cases q2:bU (cG k h) xs with
     |none=>rw[q2]at e;cases e
     |some ys=>rw[q2]at e;cases e;obtain⟨a1,a2,a3⟩:=ih x v y r1 q;obtain⟨b1,b2,b3⟩:=ihx rr ys r2 q2;exact⟨Bl.cons a1 b1,by rw[oK];lia,by rw[lT,a3,b3];rfl⟩
  intro d v t r e;unfold cG at e
  cases d with
  |non=>cases e;rw[Be]at r;subst r;exact⟨by rw[Den],by simp[fK],rfl⟩
  |bl b=>cases e;rw[Be]at r;subst r;exact⟨by rw[Den],by simp[fK],rfl⟩
  |int b=>cases e;rw[Be]at r;subst r;exact⟨by rw[Den],by simp[fK],rfl⟩
  |str b=>cases e;rw[Be]at r;subst r;exact⟨by rw[Den],by simp[fK],rfl⟩
  |tup xs=>
   dsimp only at e
   cases q:bU (cG k h) xs with
   |none=>rw[q]at e;cases e
   |some ts=>rw[q]at e;cases e;obtain⟨a,vs,rfl,e1,r1⟩:=r;obtain⟨b1,b2,b3⟩:=il xs vs ts r1 q;exact⟨by rw[Den];exact⟨a,vs,rfl,e1,b1⟩,by rw[fK];lia,by rw[nod];exact b3⟩
  |ref i=>
   dsimp only at e
   cases g:getL h i with
   |none=>rw[g]at e;cases e
   |some xs=>
    rw[g]at e;dsimp only at e
    cases q:bU (cG k h) xs with
    |none=>rw[q]at e;cases e
    |some ts=>rw[q]at e;cases e;obtain⟨hi,rfl⟩:=r;obtain⟨vs,e1,r1⟩:=s.ob i _ (dW g);obtain⟨b1,b2,b3⟩:=il xs vs ts r1 q;exact⟨by rw[Den];exact⟨_,vs,rfl,trivial,e1,b1⟩,by rw[fK];lia,by rw[nod];exact b3⟩
  |edc=>cases e
  |exc c=>cases e
  |scr=>cases e
end
def cX:Nat:=30
def cE(x y:Dv)(h:Hs):Rs Dv:=match cG cX h x,cG cX h y with
 |some s,some t=>.ok (.bl (bX s t)) h
 |_,_=>.bad
def dR(x y:Dv)(h:Hs):Rs Dv:=match cG cX h x,cG cX h y with
 |some s,some t=>.ok (.bl (!bX s t)) h
 |_,_=>.bad
def zE(neg:Bool):R2:=λx y H Q=>∃t t',Den lA H t x/\Den lA H t' y/\fK t<=cX/\nod t=true/\nod t'=true/\Q (.bl (if neg then !bX t t' else bX t t')) H
section
variable{X:Cx}{G:Cfg}
theorem L7(hu:X.A.units+64<cLine):Ca X (compareOp .Eq) (zE false):=by intro pins s σ H x y v u Q I r1 r2 ⟨t,t',d,d',hd,n1,n2,q⟩;exact EqBoolInt.of_rc (LX I.hok cX X.A t t' x y v u hd (by unfold cX;lia) n1 n2 d d' r1 r2).1 ⟨.bl _,H,I,rfl,q⟩
theorem L8(hu:X.A.units+64<cLine):Ca X (compareOp .NotEq) (zE true):=by intro pins s σ H x y v u Q I r1 r2 ⟨t,t',d,d',hd,n1,n2,q⟩;exact EqBoolInt.of_rcne (ZL I.hok cX X.A t t' x y v u hd (by unfold cX;lia) n1 n2 d d' r1 r2) ⟨.bl _,H,I,rfl,q⟩
theorem L9:fU G (zE false) cE:=by
 intro E μ h H x y vx vy Q s rx ry o;unfold cE at o
 split at o
 ·rename_i t t' e e';obtain⟨a1,a2,a3⟩:=sZ s _ x vx t rx e;obtain⟨b1,b2,b3⟩:=sZ s _ y vy t' ry e';exact⟨t,t',a1,b1,a2,a3,b3,o.val s rfl⟩
 ·exact o.elim
theorem MA:fU G (zE true) dR:=by
 intro E μ h H x y vx vy Q s rx ry o;unfold dR at o
 split at o
 ·rename_i t t' e e';obtain⟨a1,a2,a3⟩:=sZ s _ x vx t rx e;obtain⟨b1,b2,b3⟩:=sZ s _ y vy t' ry e';exact⟨t,t',a1,b1,a2,a3,b3,o.val s rfl⟩
 ·exact o.elim
end
def gQ(g:Int->Int->Dv):Dv->Dv->Hs->Rs Dv
 |.int i,.int j,h=>.ok (g i j) h
 |_,_,_=>.bad
def lV(C:Int->Int->Bool)(g:Int->Int->Dv):Dv->Dv->Hs->Rs Dv
 |.int i,.int j,h=>if C i j=true then .ok (g i j) h else .bad
 |_,_,_=>.bad
section
variable{X:Cx}{G:Cfg}
theorem ZM{f:Int->Int->Int}:fU G (kU λi j=>.int (f i j)) (gQ λi j=>.int (f i j)):=by
 intro E μ h H x y vx vy Q s rx ry o
 cases x with
 |int i=>
  cases y with
  |int j=>exact⟨i,j,rx,ry,o.val s rfl⟩
  |_=>exact o.elim
 |_=>exact o.elim
theorem lW{f:Int->Int->Bool}:fU G (kU λi j=>.bl (f i j)) (gQ λi j=>.bl (f i j)):=by
 intro E μ h H x y vx vy Q s rx ry o
 cases x with
 |int i=>
  cases y with
  |int j=>exact⟨i,j,rx,ry,o.val s rfl⟩
  |_=>exact o.elim
 |_=>exact o.elim
theorem zF{C:Int->Int->Prop}{B:Int->Int->Bool}{f:Int->Int->Int}(hB:∀i j,B i j=true->C i j):fU G (rI C λi j=>.int (f i j)) (lV B λi j=>.int (f i j)):=by
 intro E μ h H x y vx vy Q s rx ry o
 cases x with
 |int i=>
  cases y with
  |int j=>
   dsimp only[lV]at o
   split at o
   ·rename_i hb;exact⟨i,j,rx,ry,hB i j hb,o.val s rfl⟩
   ·exact o.elim
  |_=>exact o.elim
 |_=>exact o.elim
def iB(i:Int):Bool:=decide (-18446744073709551616<i)&&decide (i<18446744073709551616)
def zG(i j:Int):Bool:=iB i||iB j
theorem ZN(i j:Int)(h:zG i j=true):CMul i j:=by
 unfold zG iB at h;unfold CMul;simp only[xj,cu,decide_eq_true_eq]at h
 rcases h with h|h
 ·exact .inl ⟨by lia,by lia⟩
 ·exact .inr ⟨by lia,by lia⟩
def tD(_ j:Int):Bool:=decide (0<j)
theorem ZO(i j:Int)(h:tD i j=true):0<j:=by unfold tD at h;simpa using h
def vE(i j:Int):Bool:=decide (0<=j)&&decide (j<=1000000)&&decide (i.natAbs<18446744073709551616)
theorem ZP(i j:Int)(h:vE i j=true):DM i j:=by unfold vE at h;unfold DM;simp only[cu,decide_eq_true_eq]at h;exact⟨h.1.1,h.1.2,by have:=h.2;lia⟩
def mQ:Dv->Dv->Hs->Rs Dv
 |.int i,.int j,h=>.ok (.int (i+j)) h
 |.ref i,.ref j,h=>match getL h i,getL h j with
  |some xs,some ys=>lim (xs.length+ys.length) (.ok (.ref h.length) (h++[.lst (xs++ys)]))
  |_,_=>.bad
 |.tup xs,.tup ys,h=>if xs.isEmpty=true then .bad else lim (xs.length+ys.length) (.ok (.tup (xs++ys)) h)
 |_,_,_=>.bad
def EM(K:au):R2:=λx y H Q=>(kU λi j=>.int (i+j)) x y H Q∨LA x y H Q∨KW K x y H Q
theorem ZQ:Ca X (binaryOp .Add) (EM X.K):=op_add.or (op_cat.or YL)
theorem ZR:fU G (EM G.K) mQ:=by
 intro E μ h H x y vx vy Q s rx ry o
 cases x with
 |int i=>
  cases y with
  |int j=>exact .inl ⟨i,j,rx,ry,o.val s rfl⟩
  |_=>exact o.elim
 |ref i=>
  cases y with
  |ref j=>
   dsimp only[mQ]at o
   cases g1:getL h i with
   |none=>rw[g1]at o;exact o.elim
   |some xs=>
    cases g2:getL h j with
    |none=>rw[g1,g2]at o;exact o.elim
    |some ys=>
     rw[g1,g2]at o;dsimp only at o;unfold lim at o
     split at o
     ·rename_i hl;obtain⟨vs,e1,r1⟩:=s.ob i _ (dW g1);obtain⟨ws,e2,r2⟩:=s.ob j _ (dW g2);obtain⟨_,rfl⟩:=rx;obtain⟨_,rfl⟩:=ry;exact .inr (.inl ⟨_,_,vs,ws,rfl,rfl,e1,e2,by rw[r1.length,r2.length];exact zD hl,λp hp=>mP s (r1.append r2) hp o⟩)
     ·exact o.elim
  |_=>exact o.elim
 |tup xs=>
  cases y with
  |tup ys=>
   dsimp only[mQ]at o
   split at o
   ·exact o.elim
   ·rename_i hne;unfold lim at o
    split at o
    ·rename_i hl;obtain⟨a,vs,rfl,e1,r1⟩:=rx;obtain⟨b,ws,rfl,e2,r2⟩:=ry;refine .inr (.inr ⟨a,b,vs,ws,rfl,rfl,Gf e1,Gf e2,?_,by rw[r1.length,r2.length];exact zD hl,λz=>?_,λ_ p hp=>?_⟩)
     ·intro z;subst z;have:=r1.length
      cases xs<;>simp_all
     ·subst z;have e3:ys=[]:=by have:=r2.length;cases ys<;>simp_all
      subst e3;refine o.val s ?_;rw[tq];exact⟨a,vs,rfl,e1,r1⟩
     ·exact o μ _ _ (F' (dQ hp)) (s.same (dQ hp)) ⟨p,_,rfl,eR,Gb (F' (dQ hp)) _ _ (r1.append r2)⟩
    ·exact o.elim
  |_=>exact o.elim
 |_=>exact o.elim
def gJ(xs:Az)(i:Int)(h:Hs):Rs Dv:=match dY xs i with
 |some d=>.ok d h
 |none=>.bad
def eO(scr:y'):Dv->Dv->Hs->Rs Dv
 |.tup xs,.int i,h=>gJ xs i h
 |.ref k,.int i,h=>match getL h k with
  |some xs=>gJ xs i h
  |none=>.bad
 |.scr,.int i,h=>gJ (scr.map Fx) i h
 |_,_,_=>.bad
theorem qS{μ:Nat->ai}{n:Nat}{H:Hp}:∀ns:y',RelDL G μ n H (ns.map Fx) (ns.map Ga)
 |[]=>Gj
 |i::ns=>Gg rfl (qS ns)
theorem EN{E:XK}{μ:Nat->ai}{h:Hs}{H:Hp}{xs:Az}{vs:Gx}{i:Int}{Q:VK}(s:Bt G μ h H)(r:RelDL G μ h.length H xs vs)(o:Out G E μ h.length H (gJ xs i h) (Be G) Q):∃v,dY vs i=some v/\Q v H:=by
 unfold gJ at o
 cases e:dY xs i with
 |none=>rw[e]at o;exact o.elim
 |some d=>
  rw[e]at o;unfold dY at e⊢;rw[r.length]
  cases q:eH xs.length i with
  |none=>rw[q]at e;cases e
  |some j=>rw[q]at e;obtain⟨v,e1,r1⟩:=r.get e;exact⟨v,e1,o.val s r1⟩
theorem MB:fU G (DU G.K) (eO G.scr):=by
 intro E μ h H x y vx vy Q s rx ry o
 cases y with
 |int i=>
  cases x with
  |tup xs=>obtain⟨a,vs,rfl,e1,r1⟩:=rx;obtain⟨v,e2,q⟩:=EN s r1 o;exact .inr (.inl ⟨a,vs,i,v,rfl,ry,Gf e1,e2,q⟩)
  |ref k=>
   dsimp only[eO]at o
   cases g:getL h k with
   |none=>rw[g]at o;exact o.elim
   |some xs=>rw[g]at o;obtain⟨vs,e1,r1⟩:=s.ob k _ (dW g);obtain⟨_,rfl⟩:=rx;obtain⟨v,e2,q⟩:=EN s r1 o;exact .inl ⟨_,vs,i,v,rfl,ry,Gi e1,e2,q⟩
  |scr=>obtain⟨rfl,hf⟩:=rx;obtain⟨v,e2,q⟩:=EN s (qS G.scr) o;exact .inl ⟨_,_,i,v,rfl,ry,hf.sq,e2,q⟩
  |_=>exact o.elim
 |_=>cases x<;>exact o.elim
theorem ZS{E:XK}{a b:bq}{ma mb:M Dv}{pos:Pos}(ha:aI X G E a ma)(hb:aI X G E b mb)(hs:DS b:=by intro _ _;rfl):aI X G E (.Subscript a b pos) (m2 (eO G.scr) ma mb):=λhK=>Gh (KY (by have:=K2 (X:=X);rw[hK]at this;exact this) (ha hK) (hb hK) hs) λ_ _ _ t=>vD MB t
theorem ZT:di "abs"=some (.builtin "abs"):=by decide+kernel
theorem EO:di "tuple"=some (.type "tuple"):=by decide+kernel
theorem ER:di "list"=some (.type "list"):=by decide+kernel
theorem ES:di "max"=some (.builtin "max"):=by decide+kernel
theorem MD:di "min"=some (.builtin "min"):=by decide+kernel
variable{E:XK}{aM:M Az}{e:bq}{es:List bq}{x:Str}{p pos:Pos}{id T:String}
def qT(G:Cfg)(r:Gx->Hp->VK->Prop)(f:Ay):Prop:=∀(E:XK)(μ:Nat->ai)(h:Hs)(H:Hp)(xs:Az)(vs:Gx)(Q:VK),Bt G μ h H->RelDL G μ h.length H xs vs->Out G E μ h.length H (f xs h) (Be G) Q->r vs H Q
def aB(f:Ay)(ms:M Az ):M Dv:=λρ h=>(ms ρ h).bind f
theorem ME{r:Gx->Hp->VK->Prop}{f:Ay}(hd:qT G r f){σ:St}{H:Hp}{Q:VK}(t:iZ G E (aB f aM) σ H Q):yV r (EH G E aM) σ H Q:=by obtain⟨μ,ρ,h,rs,s,o⟩:=t;exact kJ rs s o λμ1 ds h1 vs H1 x1 Bv s1 r1 o1=>hd E μ1 h1 H1 ds vs Q s1 r1 o1
theorem oP{r:Gx->Hp->VK->Prop}{f:Ay}(hc:Bi X (.builtin id) r)(hd:qT G r f)(hg:Gl X x)(hm:X.mg x=none)(hv:di x=some (.builtin id))(ha:dP X G E (e::es) aM)(hn:x≠"__name__":=by decide)(Eu:(x==Gw)=false:=by decide)(he:ar (e::es) X.env=(false,eval e X.env)::ar es X.env:=by rfl)(Co:(backTo pos (ar es X.env)).any (·.1)=false:=by rfl):aI X G E (.Call (.Name x p) (e::es) [] pos) (aB f aM):=λhK=>
 Gh (uV hc hg hm hv (ha hK) hn Eu he Co) λ_ _ _ t=>ME hd t
theorem MF{r:Gx->Hp->VK->Prop}{f:Ay}(hc:Bi X (.type T) r)(hd:qT G r f)(hg:Gl X x)(hm:X.mg x=none)(hv:di x=some (.type T))(ha:dP X G E (e::es) aM)(hn:x≠"__name__":=by decide)(Eu:(x==Gw)=false:=by decide)(he:ar (e::es) X.env=(false,eval e X.env)::ar es X.env:=by rfl)(Co:(backTo pos (ar es X.env)).any (·.1)=false:=by rfl):aI X G E (.Call (.Name x p) (e::es) [] pos) (aB f aM):=λhK=>
 Gh (sR hc hg hm hv (ha hK) hn Eu he Co) λ_ _ _ t=>ME hd t
def fX(scr:y'):Dv->Hs->Option Az 
 |.tup xs,_=>some xs
 |.ref i,h=>getL h i
 |.scr,_=>some (scr.map Fx)
 |_,_=>none
def f1(g:Dv->Hs->Rs Dv):Ay
 |[d],h=>g d h
 |_,_=>.bad
def iC(scr:y')(d:Dv)(h:Hs):Rs Dv:=match fX scr d h with
 |some xs=>.ok (.int xs.length) h
 |none=>.bad
theorem qU{μ:Nat->ai}{n:Nat}{H:Hp}{d:Dv}{vs:Gx}(r:RelDL G μ n H [d] vs):∃v,vs=[v]/\Be G μ n H d v:=by rw[RelDL]at r;obtain⟨v,rr,rfl,h1,h2⟩:=r;rw[RelDL]at h2;subst h2;exact⟨v,rfl,h1⟩
theorem oQ{r:V->Hp->VK->Prop}{g:Dv->Hs->Rs Dv}(hg:jY G r g):qT G (λxs H Q=>∃v,xs=[v]/\r v H Q) (f1 g):=by
 intro E μ h H xs vs Q s rr o
 match xs,rr,o with
 |[],_,o=>exact o.elim
 |_::_::_,_,o=>exact o.elim
 |[d],rr,o=>obtain⟨v,rfl,r1⟩:=qU rr;exact⟨v,rfl,hg E μ h H d v Q s r1 o⟩
theorem zH{μ:Nat->ai}{n:Nat}{H:Hp}{d d':Dv}{vs:Gx}(r:RelDL G μ n H [d,d'] vs):∃v v',vs=[v,v']/\Be G μ n H d v/\Be G μ n H d' v':=by rw[RelDL]at r;obtain⟨v,rr,rfl,h1,h2⟩:=r;obtain⟨v',rfl,h3⟩:=qU h2;exact⟨v,v',rfl,h1,h3⟩
theorem ET{μ:Nat->ai}{h:Hs}{H:Hp}{d:Dv}{v:V}{xs:Az}(s:Bt G μ h H)(r:Be G μ h.length H d v)(e:fX G.scr d h=some xs):∃a vs,v=.ref a/\(By G.K H a vs∨Bu G.K H a vs)/\RelDL G μ h.length H xs vs:=by
 cases d with
 |tup ds=>cases e;obtain⟨a,vs,rfl,e1,r1⟩:=r;exact⟨a,vs,rfl,.inr (Gf e1),r1⟩
 |ref i=>obtain⟨_,rfl⟩:=r;obtain⟨vs,e1,r1⟩:=s.ob i _ (dW e);exact⟨_,vs,rfl,.inl (Gi e1),r1⟩
 |scr=>cases e;obtain⟨rfl,hf⟩:=r;exact⟨_,_,rfl,.inl hf.sq,qS _⟩
 |_=>cases e
def MG(K:au):V->Hp->VK->Prop:=λx H Q=>∃p ys,x=.ref p/\(By K H p ys∨Bu K H p ys)/\Q (.int ys.length) H
theorem MH:jY G (MG G.K) (iC G.scr):=by
 intro E μ h H d v Q s r1 o;unfold iC at o
 cases e:fX G.scr d h with
 |none=>rw[e]at o;exact o.elim
 |some ys=>rw[e]at o;obtain⟨a,ws,rfl,hs,r2⟩:=ET s r1 e;exact⟨a,ws,rfl,hs,by rw[r2.length];exact o.val s rfl⟩
theorem Bi.imp{f:af}{r r':Gx->Hp->VK->Prop}(h:Bi X f r)(i:∀xs H Q,r' xs H Q->r xs H Q):Bi X f r':=λpins s σ H xs us Q I rv q=>h pins s σ H xs us Q I rv (i xs H Q q)
theorem MI(hg:Gl X "len")(hm:X.mg "len"=none)(ha:dP X G E (e::es) aM)(he:ar (e::es) X.env=(false,eval e X.env)::ar es X.env:=by rfl)(Co:(backTo pos (ar es X.env)).any (·.1)=false:=by rfl):aI X G E (.Call (.Name "len" p) (e::es) [] pos) (aB (f1 (iC G.scr)) aM):=λhK=>
 oP (Bi.imp (K4 (X:=X)) λxs H Q⟨v,h1,a,ys,h2,h3,h4⟩=>⟨a,ys,by rw[h1,h2],by rw[hK];exact h3,h4⟩) (oQ MH) hg hm PySem.boot_len ha (by decide) (by decide) he Co hK
def pR:Dv->Hs->Rs Dv
 |.int i,h=>.ok (.int (if i<0 then -i else i)) h
 |_,_=>.bad
theorem ZU:jY G (λx H Q=>∃i,x=.int i/\Q (.int (if i<0 then -i else i)) H) pR:=by
 intro E μ h H d v Q s r1 o
 cases d with
 |int i=>rw[Be]at r1;subst r1;exact⟨i,rfl,o.val s rfl⟩
 |_=>exact o.elim
theorem ZV(hg:Gl X "abs")(hm:X.mg "abs"=none)(ha:dP X G E (e::es) aM)(he:ar (e::es) X.env=(false,eval e X.env)::ar es X.env:=by rfl)(Co:(backTo pos (ar es X.env)).any (·.1)=false:=by rfl):aI X G E (.Call (.Name "abs" p) (e::es) [] pos) (aB (f1 pR) aM):=
 oP (Bi.imp (XR (X:=X)) λxs H Q⟨v,h1,i,h2,h3⟩=>⟨i,by rw[h1,h2],h3⟩) (oQ ZU) hg hm ZT ha (by decide) (by decide) he Co
def oR:Ay
 |[.int i,.int j],h=>.ok (.int (if j>i then j else i)) h
 |_,_=>.bad
def tE:Ay
 |[.int i,.int j],h=>.ok (.int (if j<i then j else i)) h
 |_,_=>.bad
theorem MJ{f:Ay}{g:Int->Int->Int}(h2:∀i j h,f [.int i,.int j] h=.ok (.int (g i j)) h)(hb:∀xs h,(∀i j,xs≠[.int i,.int j])->f xs h=.bad):
  qT G (λxs H Q=>∃i j,xs=[.int i,.int j]/\Q (.int (g i j)) H) f:=by
 intro E μ h H xs vs Q s r o
 by_cases hx:∃i j,xs=[.int i,.int j]
 ·obtain⟨i,j,rfl⟩:=hx;obtain⟨v,v',rfl,r1,r2⟩:=zH r;rw[Be]at r1 r2;subst r1;subst r2;rw[h2]at o;exact⟨i,j,rfl,o.val s rfl⟩
 ·rw[hb xs h (λi j e=>hx ⟨i,j,e⟩)]at o;exact o.elim
theorem ZW:qT G (λxs H Q=>∃i j,xs=[.int i,.int j]/\Q (.int (if j>i then j else i)) H) oR:=MJ (λ_ _ _=>rfl) λxs h hx=>by
 unfold oR;split
 ·rename_i i j;exact absurd rfl (hx i j)
 ·rfl
theorem ZX:qT G (λxs H Q=>∃i j,xs=[.int i,.int j]/\Q (.int (if j<i then j else i)) H) tE:=MJ (λ_ _ _=>rfl) λxs h hx=>by
 unfold tE;split
 ·rename_i i j;exact absurd rfl (hx i j)
 ·rfl
def lB:Dv->Hs->Rs Dv
 |.tup xs,h=>.ok (.tup xs) h
 |.ref i,h=>match getL h i with
  |some xs=>.ok (.tup xs) h
  |none=>.bad
 |_,_=>.bad
def ZY(K:au):V->Hp->VK->Prop:=λx H Q=>∃p ys,x=.ref p/\((By K H p ys/\∀l,H l=none->Q (.ref l) (bI H l (.tup ys)))∨(Bu K H p ys/\Q (.ref p) H))
theorem ZZ:jY G (ZY G.K) lB:=by
 intro E μ h H d v Q s r1 o
 cases d with
 |tup ds=>have r1':=r1;obtain⟨a,ws,rfl,e1,r2⟩:=r1;exact⟨a,ws,rfl,.inr ⟨Gf e1,o.val s r1'⟩⟩
 |ref i=>
  dsimp only[lB]at o
  cases g:getL h i with
  |none=>rw[g]at o;exact o.elim
  |some ys=>rw[g]at o;obtain⟨_,rfl⟩:=r1;obtain⟨ws,e1,r2⟩:=s.ob i _ (dW g);exact⟨_,ws,rfl,.inl ⟨Gi e1,λl hl=>o μ _ _ (F' (dQ hl)) (s.same (dQ hl)) ⟨l,ws,rfl,eR,Gb (F' (dQ hl)) _ _ r2⟩⟩⟩
 |_=>exact o.elim
theorem EU(hg:Gl X "tuple")(hm:X.mg "tuple"=none)(ha:dP X G E (e::es) aM)(he:ar (e::es) X.env=(false,eval e X.env)::ar es X.env:=by rfl)(Co:(backTo pos (ar es X.env)).any (·.1)=false:=by rfl):aI X G E (.Call (.Name "tuple" p) (e::es) [] pos) (aB (f1 lB) aM):=λhK=>
 MF (Bi.imp (K5 (X:=X)) λxs H Q⟨v,h1,a,ys,h2,h3⟩=>⟨a,ys,by rw[h1,h2],by rw[hK];exact h3⟩) (oQ ZZ) hg hm EO ha (by decide) (by decide) he Co hK
def vF(scr:y')(d:Dv)(h:Hs):Rs Dv:=match fX scr d h with
 |some xs=>.ok (.ref h.length) (h++[.lst xs])
 |none=>.bad
theorem Z0:jY G (λx H Q=>∃p ys,x=.ref p/\(By G.K H p ys∨Bu G.K H p ys)/\∀l,H l=none->Q (.ref l) (bI H l (.lst ys))) (vF G.scr):=by
 intro E μ h H d v Q s r1 o;unfold vF at o
 cases e:fX G.scr d h with
 |none=>rw[e]at o;exact o.elim
 |some ys=>rw[e]at o;obtain⟨a,ws,rfl,hs,r2⟩:=ET s r1 e;exact⟨a,ws,rfl,hs,λl hl=>mP s r2 hl o⟩
theorem MK(hc:X.calm=true)(hg:Gl X "max")(hm:X.mg "max"=none)(ha:dP X G E (e::es) aM)(he:ar (e::es) X.env=(false,eval e X.env)::ar es X.env:=by rfl)(Co:(backTo pos (ar es X.env)).any (·.1)=false:=by rfl):aI X G E (.Call (.Name "max" p) (e::es) [] pos) (aB oR aM):=
 oP (XS hc) ZW hg hm ES ha (by decide) (by decide) he Co
theorem Z1(hc:X.calm=true)(hg:Gl X "min")(hm:X.mg "min"=none)(ha:dP X G E (e::es) aM)(he:ar (e::es) X.env=(false,eval e X.env)::ar es X.env:=by rfl)(Co:(backTo pos (ar es X.env)).any (·.1)=false:=by rfl):aI X G E (.Call (.Name "min" p) (e::es) [] pos) (aB tE aM):=
 oP (XT hc) ZX hg hm MD ha (by decide) (by decide) he Co
end
inductive Sr where
 |nx (ρ:Ev) (h:Hs)|rt (d:Dv) (h:Hs)|bk (ρ:Ev) (h:Hs)|ct (ρ:Ev) (h:Hs)|ex (c:Nat) (h:Hs)|bad
abbrev MS:=Ev->Hs->Sr
def Cg(G:Cfg)(E:XK)(μ:Nat->ai)(n:Nat)(H:Hp)(r:Sr)(D:Ends):Prop:=match r with
 |.nx ρ h'=>∀μ' H' σ',Ext μ n H μ' h'.length H'->Bt G μ' h' H'->Bo G μ' h'.length H' ρ σ'->D.nx σ' H'
 |.bk ρ h'=>∀μ' H' σ',Ext μ n H μ' h'.length H'->Bt G μ' h' H'->Bo G μ' h'.length H' ρ σ'->D.bk σ' H'
 |.ct ρ h'=>∀μ' H' σ',Ext μ n H μ' h'.length H'->Bt G μ' h' H'->Bo G μ' h'.length H' ρ σ'->D.ct σ' H'
 |.rt d h'=>∀μ' H' v,Ext μ n H μ' h'.length H'->Bt G μ' h' H'->Be G μ' h'.length H' d v->D.rt v H'
 |.ex c h'=>∀μ' H' u,Ext μ n H μ' h'.length H'->Bt G μ' h' H'->FlyE G H' c u->E u none H'
 |.bad=>False
theorem Cg.ext{G:Cfg}{E:XK}{μ μ1:Nat->ai}{n n1:Nat}{H H1:Hp}{r:Sr}{D:Ends}(o:Cg G E μ n H r D)(x:Ext μ n H μ1 n1 H1):Cg G E μ1 n1 H1 r D:=by
 cases r with
 |nx ρ h'=>exact λμ' H' σ' y=>o μ' H' σ' (x.trans y)
 |bk ρ h'=>exact λμ' H' σ' y=>o μ' H' σ' (x.trans y)
 |ct ρ h'=>exact λμ' H' σ' y=>o μ' H' σ' (x.trans y)
 |rt d h'=>exact λμ' H' σ' y=>o μ' H' σ' (x.trans y)
 |ex c h'=>exact λμ' H' σ' y=>o μ' H' σ' (x.trans y)
 |bad=>exact o
inductive TSO(G:Cfg)(E:XK)(m:MS)(D:Ends)(σ:St)(H:Hp):Prop
 |mk (μ:Nat->ai) (ρ:Ev) (h:Hs) (rs:Bo G μ h.length H ρ σ) (s:Bt G μ h H) (o:Cg G E μ h.length H (m ρ h) D):TSO G E m D σ H
def EV(G:Cfg)(E:XK)(m:MS):TS:=TSO G E m
def iD(X:Cx)(G:Cfg)(E:XK)(st:fv)(m:MS):Prop:=X.K=G.K->PS X st (EV G E m)
def mR(X:Cx)(G:Cfg)(E:XK)(st:List fv)(m:MS):Prop:=X.K=G.K->Fw X st (EV G E m)
theorem PS.imp{X:Cx}{e:fv}{t t':TS}(h:PS X e t)(i:∀D σ H,t' D σ H->t D σ H):PS X e t':=λpins s σ H D I q=>h pins s σ H D I (i D σ H q)
theorem Fw.imp{X:Cx}{e:List fv}{t t':TS}(h:Fw X e t)(i:∀D σ H,t' D σ H->t D σ H):Fw X e t':=λpins s σ H D I q=>h pins s σ H D I (i D σ H q)
noncomputable def Rs.thenS {α:Type}(r:Rs α) (f:α->Hs->Sr):Sr:=match r with
 |.ok a h=>f a h
 |.ex c h=>.ex c h
 |.bad=>.bad
@[simp] theorem Rs.thenS_ok {α:Type}(a:α) (h:Hs) (f:α->Hs->Sr):(Gp a h).thenS f=f a h:=rfl
@[simp] theorem Rs.thenS_ex {α:Type}(c:Nat) (h:Hs) (f:α->Hs->Sr):(Rs.ex c h).thenS f=.ex c h:=rfl
@[simp] theorem Rs.thenS_bad {α:Type}(f:α->Hs->Sr):(Rs.bad).thenS f=.bad:=rfl
theorem Cg.thenS{α β:Type}{G:Cfg}{E:XK}{μ:Nat->ai}{n:Nat}{H:Hp}{r:Rs α}{f:α->Hs->Sr}{D:Ends}{R:(Nat->ai)->Nat->Hp->α->β->Prop}(o:Cg G E μ n H (r.thenS f) D):Out G E μ n H r R λv H1=>∃μ1 d h1,Ext μ n H μ1 h1.length H1/\Bt G μ1 h1 H1/\R μ1 h1.length H1 d v/\Cg G E μ1 h1.length H1 (f d h1) D:=by
 cases r with
 |bad=>exact o
 |ex c h'=>exact o
 |ok d h'=>exact λμ1 H1 v x1 s1 r1=>⟨μ1,d,h',x1,s1,r1,Cg.ext o x1⟩
variable{X:Cx}{G:Cfg}{E:XK}
section
variable{st:fv}{rest:List fv}{m u:MS}{e:bq}{me:M Dv}{pos:Pos}
theorem mS{m:M Dv}{σ:St}{H:Hp}{f:Dv->Hs->Sr}{D:Ends}{Q1:V->Hp->Prop}{μ:Nat->ai}{ρ:Ev}{h:Hs}(rs:Bo G μ h.length H ρ σ)(s:Bt G μ h H)(o:Cg G E μ h.length H ((m ρ h).thenS f) D)(k:∀μ1 d h1 v H1,Ext μ h.length H μ1 h1.length H1->Bo G μ1 h1.length H1 ρ σ->Bt G μ1 h1 H1->Be G μ1 h1.length H1 d v->Cg G E μ1 h1.length H1 (f d h1) D->Q1 v H1):iZ G E m σ H Q1:=
 ⟨μ,ρ,h,rs,s,(o.thenS (R:=Be G)).mono λv H1⟨μ1,d,h1,x,s1,r1,o1⟩=>k μ1 d h1 v H1 x (rs.mono x) s1 r1 o1⟩
theorem ML{m:M Bool}{σ:St}{H:Hp}{f:Bool->Hs->Sr}{D:Ends}{Q1:Bool->Hp->Prop}{μ:Nat->ai}{ρ:Ev}{h:Hs}(rs:Bo G μ h.length H ρ σ)(s:Bt G μ h H)(o:Cg G E μ h.length H ((m ρ h).thenS f) D)(k:∀μ1 b h1 H1,Ext μ h.length H μ1 h1.length H1->Bo G μ1 h1.length H1 ρ σ->Bt G μ1 h1 H1->Cg G E μ1 h1.length H1 (f b h1) D->Q1 b H1):jN G E m σ H Q1:=
 ⟨μ,ρ,h,rs,s,(o.thenS (R:=RB)).mono λv H1⟨μ1,d,h1,x,s1,r1,o1⟩=>by have e:v=d:=r1;subst e;exact k μ1 v h1 H1 x (rs.mono x) s1 o1⟩
def cA:MS:=λρ h=>.nx ρ h
def aH(m u:MS):MS:=λρ h=>match m ρ h with
 |.nx ρ1 h1=>u ρ1 h1
 |r=>r
theorem eU:mR X G E [] cA:=λ_=>Fw.imp V0 λD σ H⟨μ,ρ,h,rs,s,o⟩=>o μ H σ Ge s rs
theorem bG(h1:iD X G E st m)(h2:mR X G E rest u):mR X G E (st::rest) (aH m u):=λhK=>Fw.imp (V1 (h1 hK) (h2 hK)) λD σ H⟨μ,ρ,h,rs,s,o⟩=>by
 refine⟨μ,ρ,h,rs,s,?_⟩;unfold aH at o
 cases q:m ρ h with
 |nx ρ1 h1=>rw[q]at o;exact λμ1 H1 σ1 x1 s1 Bv=>⟨μ1,ρ1,h1,Bv,s1,Cg.ext o x1⟩
 |bk ρ1 h1=>rw[q]at o;exact o
 |ct ρ1 h1=>rw[q]at o;exact o
 |rt ρ1 h1=>rw[q]at o;exact o
 |ex ρ1 h1=>rw[q]at o;exact o
 |bad=>rw[q]at o;exact o
theorem bB(h1:iD X G E st m):mR X G E [st] m:=λhK=>V2 (h1 hK)
def bV(me:M Dv):MS:=λρ h=>(me ρ h).thenS λ_ h1=>.nx ρ h1
theorem gZ(he:aI X G E e me)(hs:swapsWith e none pos.line X.env=pure false:=by rfl):iD X G E (.Expr e pos) (bV me):=λhK=>PS.imp (V4 (he hK) hs) λD σ H⟨μ,ρ,h,rs,s,o⟩=>mS rs s o λμ1 d h1 v H1 x1 Bv s1 r1 o1=>o1 μ1 H1 σ Ge s1 Bv
def aL(me:M Dv):MS:=λρ h=>(me ρ h).thenS λd h1=>.rt d h1
theorem cC(he:aI X G E e me):iD X G E (.Return (some e) pos) (aL me):=λhK=>PS.imp (V7 (he hK)) λD σ H⟨μ,ρ,h,rs,s,o⟩=>mS rs s o λμ1 d h1 v H1 x1 Bv s1 r1 o1=>o1 μ1 H1 v Ge s1 r1
def bP(c:M Bool)(t u:MS):MS:=λρ h=>(c ρ h).thenS λb h1=>if b=true then t ρ h1 else u ρ h1
theorem eV{c:bq}{a b:List fv}{mc:M Bool}(hc:fS X G E c mc)(ha:mR X G E a m)(hb:mR X G E b u):iD X G E (.If c a b pos) (bP mc m u):=λhK=>PS.imp (V9 (hc hK) (ha hK) (hb hK)) λD σ H⟨μ,ρ,h,rs,s,o⟩=>
 ML rs s o λμ1 k h1 H1 x1 Bv s1 o1=>by
  cases k with
  |true=>rw[if_pos rfl]at o1⊢;exact⟨μ1,ρ,h1,Bv,s1,o1⟩
  |false=>rw[if_neg (by decide)]at o1⊢;exact⟨μ1,ρ,h1,Bv,s1,o1⟩
theorem Bo.set{μ:Nat->ai}{n:Nat}{H:Hp}{ρ:Ev}{σ:St}{d:Dv}{v:V}(rs:Bo G μ n H ρ σ)(i:Nat)(r:Be G μ n H d v):Bo G μ n H (ρ.set i (some d)) (σ.set i (some v)):=⟨by rw[tw,tw];exact rs.len,λj d' e=>by
 have hl:=rs.len
 by_cases Cw:i=j
 ·subst Cw;have hi:i<ρ.length:=by have:=(bw.mp e).1;simpa using this
  rw[jg hi]at e;cases e;exact⟨v,jg (by lia),r⟩
 ·rw[jd Cw]at e⊢;exact rs.at_ j d' e⟩
abbrev dS:=Dv->Ev->Option Ev
inductive TGO(G:Cfg)(st:dS)(v:V)(σ:St)(H:Hp)(Q:St->Hp->Prop):Prop
 |mk (μ:Nat->ai) (ρ:Ev) (h:Nat) (d:Dv) (ρ':Ev) (rs:Bo G μ h H ρ σ) (r:Be G μ h H d v) (e:st d ρ=some ρ') (q:∀σ',Bo G μ h H ρ' σ'->Q σ' H):TGO G st v σ H Q
def vG(G:Cfg)(st:dS):TG:=TGO G st
def iS(X:Cx)(G:Cfg)(tg:bq)(st:dS):Prop:=X.K=G.K->PG X tg (vG G st)
theorem PG.imp{tg:bq}{t t':TG}(h:PG X tg t)(i:∀v σ H Q,t' v σ H Q->t v σ H Q):PG X tg t':=λpins s σ H v u Q I r q=>h pins s σ H v u Q I r (i v σ H Q q)
theorem PGs.imp{tg:List bq}{t t':oI}(h:PGs X tg t)(i:∀v σ H Q,t' v σ H Q->t v σ H Q):PGs X tg t':=λpins s σ H v u Q I r q=>h pins s σ H v u Q I r (i v σ H Q q)
def aD(i:Nat):dS:=λd ρ=>some (ρ.set i (some d))
theorem Z2{i:Nat}{x:Str}(hN:X.N.Nodup)(hi:X.N[i]?=some x)(hx:pM X.env.scope x)(hf:X.fn x=true∨X.env.scope.names.lookup x=some .local:=by first|exact .inl rfl|exact .inr rfl|assumption):iS X G (.Name x pos) (aD i):=λ_=>PG.imp (WA hN hi hx hf) λv σ H Q⟨μ,ρ,h,d,ρ',rs,r,e,k⟩=>by cases e;exact k _ (rs.set i r)
abbrev oS:=Az->Ev->Option Ev
inductive TGSO(G:Cfg)(st:oS)(vs:Gx)(σ:St)(H:Hp)(Q:St->Hp->Prop):Prop
 |mk (μ:Nat->ai) (ρ:Ev) (h:Nat) (ds:Az) (ρ':Ev) (rs:Bo G μ h H ρ σ) (r:RelDL G μ h H ds vs) (e:st ds ρ=some ρ') (q:∀σ',Bo G μ h H ρ' σ'->Q σ' H):TGSO G st vs σ H Q
def Z3(G:Cfg)(st:oS):oI:=TGSO G st
def zI(X:Cx)(G:Cfg)(tg:List bq)(st:oS):Prop:=X.K=G.K->PGs X tg (Z3 G st)
def cW:oS:=λds ρ=>match ds with
 |[]=>some ρ
 |_=>none
def aW(s:dS)(t:oS):oS:=λds ρ=>match ds with
 |d::r=>match s d ρ with
  |some ρ1=>t r ρ1
  |none=>none
 |[]=>none
theorem jB:zI X G [] cW:=λ_=>PGs.imp WD λvs σ H Q⟨μ,ρ,h,ds,ρ',rs,r,e,k⟩=>by
 cases ds with
 |nil=>cases e;rw[RelDL]at r;subst r;exact⟨rfl,k _ rs⟩
 |cons d r=>cases e
theorem dX{tg:bq}{tgs:List bq}{s:dS}{t:oS}(h1:iS X G tg s)(h2:zI X G tgs t)(hs:(assignEach (tg::tgs) X.env).map (·.2)=assign tg X.env::(assignEach tgs X.env).map (·.2):=by rfl):zI X G (tg::tgs) (aW s t):=λhK=>PGs.imp (WE (h1 hK) (h2 hK) hs) λvs σ H Q⟨μ,ρ,h,ds,ρ',rs,r,e,k⟩=>by
 cases ds with
 |nil=>cases e
 |cons d ds=>
  rw[RelDL]at r;obtain⟨v,rr,rfl,r1,r2⟩:=r;unfold aW at e;dsimp only at e
  cases q:s d ρ with
  |none=>rw[q]at e;cases e
  |some ρ1=>rw[q]at e;exact⟨v,rr,rfl,μ,ρ,h,d,ρ1,rs,r1,q,λσ1 Bv=>⟨μ,ρ1,h,ds,ρ',Bv,r2,e,k⟩⟩
def cV(n:Nat)(t:oS):dS:=λd ρ=>match d with
 |.tup ds=>if ds.length=n then t ds ρ else none
 |_=>none
theorem jC{tgs:List bq}{k:Nat}{t:oS}{n:Nat}(hc:X.calm=true)(h:zI X G tgs t)(hn:(assignEach tgs X.env).length=n:=by rfl)(hst:(assignEach tgs X.env).findIdx? (·.1)=none:=by rfl):iS X G (.Tuple tgs k pos) (cV n t):=λhK=>
 PG.imp (WH hc (h hK) hn hst) λv σ H Q⟨μ,ρ,hh,d,ρ',rs,r,e,kk⟩=>by
  cases d with
  |tup ds=>
   dsimp only[cV]at e
   split at e
   ·rename_i hl;obtain⟨a,vs,rfl,e1,r1⟩:=r;exact⟨a,vs,rfl,Gf e1,by rw[r1.length];exact hl,μ,ρ,hh,ds,ρ',rs,r1,e,kk⟩
   ·cases e
  |_=>cases e
def aK(me:M Dv)(st:dS):MS:=λρ h=>(me ρ h).thenS λd h1=>match st d ρ with
 |some ρ1=>.nx ρ1 h1
 |none=>.bad
theorem Z4{st:dS}{σ:St}{H:Hp}{D:Ends}(t:EV G E (aK me st) D σ H):yP (iZ G E me) (vG G st) D σ H:=by
 obtain⟨μ,ρ,h,rs,s,o⟩:=t;refine mS rs s o λμ1 d h1 v H1 x1 Bv s1 r1 o1=>?_
 cases q:st d ρ with
 |none=>rw[q]at o1;exact o1.elim
 |some ρ1=>rw[q]at o1;exact⟨μ1,ρ,h1.length,d,ρ1,Bv,r1,q,λσ' rs'=>o1 μ1 H1 σ' Ge s1 rs'⟩
theorem vH{tg:bq}{st:dS}(he:aI X G E e me)(hg:iS X G tg st)(hs:swapsWithSole [tg] e pos.line X.env=pure false:=by rfl)(hw:swappedStores [tg] e X.env=pure none:=by rfl)(h1:(assignEach [tg] X.env).map (·.2)=[assign tg X.env]:=by rfl):iD X G E (.Assign [tg] e pos) (aK me st):=λhK=>PS.imp (J1 (he hK) (hg hK) hs hw h1) λ_ _ _ t=>Z4 t
theorem Z5{i:Nat}{x:Str}{pos':Pos}(hN:X.N.Nodup)(hi:X.N[i]?=some x)(hx:pM X.env.scope x)(he:aI X G E e me)(hs:swapsWith e (some (.Name x pos')) pos.line X.env=pure false:=by rfl)(hf:X.fn x=true∨X.env.scope.names.lookup x=some .local:=by first|exact .inl rfl|exact .inr rfl|assumption):
  iD X G E (.Assign [.Name x pos'] e pos) (aK me (aD i)):=λhK=>PS.imp (WK hN hi hx (he hK) hs hf) λD σ H t=>by
 obtain⟨μ,ρ,h,rs,s,o⟩:=t;exact mS rs s o λμ1 d h1 v H1 x1 Bv s1 r1 o1=>o1 μ1 H1 _ Ge s1 (Bv.set i r1)
end
structure Src where
 n:Nat
 get:Nat->Hs->A'
 fin:Hs->Bool
def Df(G:Cfg)(μ0:Nat->ai)(n0:Nat)(H0:Hp)(src:Src)(J:It):Prop:=
 ∀(k:Nat)(μ:Nat->ai)(h:Hs)(H:Hp),Ext μ0 n0 H0 μ h.length H->Bt G μ h H->
  (k<src.n->∀d,src.get k h=some d->J.go k H/\∀x H',J.yld k H x H'->Cv H H'/\Be G μ h.length H' d x)/\(k=src.n->src.fin h=true->J.stop k H)
def EW(G:Cfg)(E:XK)(m:M Src):TI:=TOu G E m (Df G)
def hG(X:Cx)(G:Cfg)(E:XK)(tg iter:bq)(m:M Src):Prop:=X.K=G.K->PI X tg iter (EW G E m)
theorem PI.imp{X:Cx}{tg iter:bq}{t t':TI}(h:PI X tg iter t)(i:∀σ H R,t' σ H R->t σ H R):PI X tg iter t':=λpins s σ H R I q=>h pins s σ H R I (i σ H R q)
def eC(xs:Az):Src:=⟨xs.length,λk _=>xs[k]?,λ_=>true⟩
def cI(i n:Nat):Src:=⟨n,λk h=>match getL h i with
 |some xs=>if xs.length=n then xs[k]? else none
 |none=>none,λh=>match getL h i with
 |some xs=>xs.length==n
 |none=>false⟩
def bZ(lo hi:Int):Src:=⟨(hi-lo).toNat,λk _=>some (.int (lo+k)),λ_=>true⟩
def aY(f:Dv->Hs->Rs Src)(m:M Dv):M Src:=λρ h=>(m ρ h).bind f
section
variable{tg e a b:bq}{me ma mb:M Dv}{pos p:Pos}
def bQ:Dv->Hs->Rs Src
 |.ref i,h=>match getL h i with
  |some xs=>.ok (cI i xs.length) h
  |none=>.bad
 |_,_=>.bad
def fP:Dv->Hs->Rs Src
 |.tup xs,h=>.ok (eC xs) h
 |_,_=>.bad
theorem jQ(he:aI X G E e me):hG X G E tg e (aY bQ me):=λhK=>PI.imp (WV (he hK)) λσ H R⟨μ,ρ,h,rs,s,o⟩=>gB rs s o λμ1 x h1 vx H1 x1 Bv s1 r1 o1=>by
 rw[hK]
 cases x with
 |ref i=>
  obtain⟨hi,rfl⟩:=r1;dsimp only[bQ]at o1
  cases g:getL h1 i with
  |none=>rw[g]at o1;exact o1.elim
  |some xs=>
   rw[g]at o1;obtain⟨vs,e1,r2⟩:=s1.ob i _ (dW g);refine⟨_,rfl,⟨vs,Gi e1⟩,o1.val s1 λk μ2 h2 H2 x2 s2=>?_⟩;have emu:=x2.mu i hi;constructor
   ·intro hk d hd;dsimp only[cI]at hd
    cases g2:getL h2 i with
    |none=>rw[g2]at hd;cases hd
    |some ys=>
     rw[g2]at hd;dsimp only at hd
     split at hd
     ·obtain⟨ws,e2,r3⟩:=s2.ob i _ (dW g2);rw[emu]at e2;obtain⟨v,ev,rv⟩:=r3.get hd;refine⟨⟨ws,v,Gi e2,ev⟩,λx H' hy=>?_⟩;obtain⟨rfl,hy⟩:=hy;have:=hy ws (Gi e2);rw[ev]at this;cases this;exact⟨Cv.refl _,rv⟩
     ·cases hd
   ·intro hk hf;dsimp only[cI]at hf
    cases g2:getL h2 i with
    |none=>rw[g2]at hf;cases hf
    |some ys=>
     rw[g2]at hf;obtain⟨ws,e2,r3⟩:=s2.ob i _ (dW g2);rw[emu]at e2;refine⟨ws,Gi e2,?_⟩;have h3:ys.length=xs.length:=by simpa using hf
     rw[r3.length,h3,hk];exact aq _
 |_=>exact o1.elim
theorem Df.tup{μ:Nat->ai}{n:Nat}{H:Hp}{a:ai}{vs:Gx}{xs:Az}{K:au}(e:H a=some (.tup vs))(r:RelDL G μ n H xs vs)(hi:∀(X:Cx),True):Df G μ n H (eC xs) (DJ K a):=by
 intro k μ2 h2 H2 x2 s2;have e2:=x2.im a (.tup vs) trivial e;have r2:=Gb x2 _ _ r;have inj:∀ws,Bu K H2 a ws->ws=vs->True:=λ_ _ _=>trivial;constructor
 ·intro hk d hd;obtain⟨v,ev,rv⟩:=r2.get hd;refine⟨⟨vs,v,Gf e2,ev⟩,λx H' hy=>?_⟩;obtain⟨rfl,hy⟩:=hy;have:=hy vs (Gf e2);rw[ev]at this;cases this;exact⟨Cv.refl _,rv⟩
 ·intro hk _;exact⟨vs,Gf e2,by rw[r2.length,hk];exact aq _⟩
theorem mT(he:aI X G E e me):hG X G E tg e (aY fP me):=λhK=>PI.imp (WW (he hK)) λσ H R⟨μ,ρ,h,rs,s,o⟩=>gB rs s o λμ1 x h1 vx H1 x1 Bv s1 r1 o1=>by
 cases x with
 |tup xs=>obtain⟨a,vs,rfl,e1,r2⟩:=r1;exact⟨a,rfl,⟨vs,Gf e1⟩,o1.val s1 (Df.tup e1 r2 λ_=>trivial)⟩
 |_=>exact o1.elim
def gE(i:Int):Bool:=decide (-4611686018427387904<=i)&&decide (i<4611686018427387904)
def bT:Az->Hs->Rs Src
 |[.int j],h=>if gE j=true then .ok (bZ 0 j) h else .bad
 |_,_=>.bad
def iE:Az->Hs->Rs Src
 |[.int i,.int j],h=>if gE i=true/\gE j=true then .ok (bZ i j) h else .bad
 |_,_=>.bad
def aM(f:Az->Hs->Rs Src)(ms:M Az ):M Src:=λρ h=>(ms ρ h).bind f
theorem Df.rng{μ:Nat->ai}{n:Nat}{H:Hp}(lo hi:Int):Df G μ n H (bZ lo hi) (uT lo (hi-lo).toNat):=by
 intro k μ2 h2 H2 x2 s2;constructor
 ·intro hk d hd;cases hd;exact⟨hk,λx H' hy=>by obtain⟨rfl,rfl⟩:=hy;exact⟨Cv.refl _,rfl⟩⟩
 ·intro hk _;exact qm hk.symm
variable{ms:M Az}
theorem gK(hg:Gl X "range")(hm:X.mg "range"=none)(ha:dP X G E [a] ms)(hs:ar [a] X.env=[(false,eval a X.env)]:=by rfl):hG X G E tg (.Call (.Name "range" p) [a] [] pos) (aM bT ms):=λhK=>
 PI.imp (WZ hg hm (ha hK) hs) λσ H R⟨μ,ρ,h,rs,s,o⟩=>kJ rs s o λμ1 ds h1 vs H1 x1 Bv s1 r1 o1=>by
  unfold bT at o1
  split at o1
  ·rename_i j
   split at o1
   ·rename_i hj;obtain⟨v,rfl,rv⟩:=qU r1;rw[Be]at rv;subst rv;simp only[gE,cu,decide_eq_true_eq]at hj;refine⟨j,rfl,by lia,by lia,?_⟩;have:=o1.val s1 (Df.rng (G:=G) (μ:=μ1) (n:=h1.length) (H:=H1) 0 j);rw[Int.sub_zero]at this;exact this
   ·exact o1.elim
  ·exact o1.elim
theorem EX(hg:Gl X "range")(hm:X.mg "range"=none)(ha:dP X G E [a,b] ms)(hs:ar [a,b] X.env=[(false,eval a X.env),(false,eval b X.env)]:=by rfl)(Fb:ar [b] X.env=[(false,eval b X.env)]:=by rfl):hG X G E tg (.Call (.Name "range" p) [a,b] [] pos) (aM iE ms):=λhK=>
 PI.imp (W0 hg hm (ha hK) hs Fb) λσ H R⟨μ,ρ,h,rs,s,o⟩=>kJ rs s o λμ1 ds h1 vs H1 x1 Bv s1 r1 o1=>by
  unfold iE at o1
  split at o1
  ·rename_i i j
   split at o1
   ·rename_i hj;obtain⟨v,v',rfl,rv,rv'⟩:=zH r1;rw[Be]at rv rv';subst rv;subst rv';simp only[gE,cu,decide_eq_true_eq]at hj;exact⟨i,j,rfl,⟨by lia,by lia,by lia,by lia⟩,o1.val s1 (Df.rng (G:=G) (μ:=μ1) (n:=h1.length) (H:=H1) i j)⟩
   ·exact o1.elim
  ·exact o1.elim
end
def gR(src:Src)(st:dS)(body:MS):Nat->Nat->MS
 |0,_=>λρ h=>if src.fin h=true then .nx ρ h else .bad
 |f+1,k=>λρ h=>match src.get k h with
  |none=>.bad
  |some d=>match st d ρ with
   |none=>.bad
   |some ρ1=>match body ρ1 h with
    |.nx ρ2 h2=>gR src st body f (k+1) ρ2 h2
    |.ct ρ2 h2=>gR src st body f (k+1) ρ2 h2
    |.bk ρ2 h2=>.nx ρ2 h2
    |r=>r
def eW(mi:M Src)(st:dS)(body:MS):MS:=λρ h=>(mi ρ h).thenS λsrc h1=>gR src st body src.n 0 ρ h1
section
variable{tg iter:bq}{body:List fv}{mi:M Src}{st:dS}{mb:MS}{pos:Pos}
theorem mU(hp:yk (model X.prog X.w) X.A X.env X.xe)(hc:X.calm=true)(hi:hG X G E tg iter mi)(hg:iS X G tg st)(hb:mR X G E body mb)(hs:∀x,foldedSetIterable iter X.env x=pure x:=by intro _;rfl):iD X G E (.For tg iter body [] pos) (eW mi st mb):=λhK=>PS.imp (W3 hp hc (hi hK) (hg hK) (hb hK) hs) λD σ H⟨μ,ρ,h,rs,s,o⟩=>by
 refine⟨μ,ρ,h,rs,s,(o.thenS (R:=Df G)).mono λJ H1⟨μ1,src,h1,x1,s1,ok,o1⟩=>?_⟩;refine⟨λi m σ H=>∃μ2 ρ2 h2,Ext μ1 h1.length H1 μ2 h2.length H/\Bo G μ2 h2.length H ρ2 σ/\Bt G μ2 h2 H/\i+m=src.n/\Cg G E μ2 h2.length H (gR src st mb m i ρ2 h2) D,⟨src.n,μ1,ρ,h1,Ge,rs.mono x1,s1,Nat.zero_add _,o1⟩,?_⟩
 rintro i m σ2 H2 ⟨μ2,ρ2,h2,x2,Ek,s2,him,o2⟩
 cases m with
 |zero=>
  unfold gR at o2
  split at o2
  ·rename_i hf;exact .inl ⟨(ok i μ2 h2 H2 x2 s2).2 (by lia) hf,o2 μ2 H2 σ2 Ge s2 Ek⟩
  ·exact o2.elim
 |succ m=>
  unfold gR at o2
  cases q:src.get i h2 with
  |none=>rw[q]at o2;exact o2.elim
  |some d=>
   rw[q]at o2;dsimp only at o2
   cases q2:st d ρ2 with
   |none=>rw[q2]at o2;exact o2.elim
   |some ρ3=>
    rw[q2]at o2;dsimp only at o2;obtain⟨go,yl⟩:=(ok i μ2 h2 H2 x2 s2).1 (by lia) d q;refine .inr ⟨go,λσ' H'=>∃μ3 ρ4 h4,Ext μ1 h1.length H1 μ3 h4.length H'/\Bo G μ3 h4.length H' ρ4 σ'/\Bt G μ3 h4 H'/\(i+1)+m=src.n/\Cg G E μ3 h4.length H' (gR src st mb m (i+1) ρ4 h4) D,λσ' H' z=>⟨m,jv m,z⟩,λx H' hy=>?_⟩;obtain⟨sm,rx⟩:=yl x H' hy;have xs:Ext μ2 h2.length H2 μ2 h2.length H':=F' sm;refine⟨μ2,ρ2,h2.length,d,ρ3,Ek.mono xs,rx,q2,λσ3 rs3=>⟨μ2,ρ3,h2,rs3,s2.same sm,?_⟩⟩;have step:∀ρ5 h5,Cg G E μ2 h2.length H2 (gR src st mb m (i+1) ρ5 h5) D->∀μ6 H6 σ6,Ext μ2 h2.length H' μ6 h5.length H6->Bt G μ6 h5 H6->Bo G μ6 h5.length H6 ρ5 σ6->
      ∃μ3 ρ4 h4,Ext μ1 h1.length H1 μ3 h4.length H6/\Bo G μ3 h4.length H6 ρ4 σ6/\Bt G μ3 h4 H6/\(i+1)+m=src.n/\Cg G E μ3 h4.length H6 (gR src st mb m (i+1) ρ4 h4) D:=
     λρ5 h5 o5 μ6 H6 σ6 x6 s6 rs6=>⟨μ6,ρ5,h5,(x2.trans xs).trans x6,rs6,s6,by lia,o5.ext (xs.trans x6)⟩
    cases q3:mb ρ3 h2 with
    |nx ρ5 h5=>rw[q3]at o2;exact step ρ5 h5 o2
    |ct ρ5 h5=>rw[q3]at o2;exact step ρ5 h5 o2
    |bk ρ5 h5=>rw[q3]at o2;exact λμ6 H6 σ6 x6 s6 rs6=>o2 μ6 H6 σ6 (xs.trans x6) s6 rs6
    |rt d5 h5=>rw[q3]at o2;exact λμ6 H6 σ6 x6 s6 rs6=>o2 μ6 H6 σ6 (xs.trans x6) s6 rs6
    |ex d5 h5=>rw[q3]at o2;exact λμ6 H6 σ6 x6 s6 rs6=>o2 μ6 H6 σ6 (xs.trans x6) s6 rs6
    |bad=>rw[q3]at o2;exact o2.elim
end
abbrev MC:=Ev->Hs->Az->Rs (Ev×Az)
def aU(me:M Dv):MC:=λρ h acc=>match me ρ h with
 |.ok d h1=>if acc.length<1000000 then .ok (ρ,acc++[d]) h1 else .bad
 |_=>.bad
def iF(src:Src)(st:dS)(test:M Bool)(inner:MC):Nat->Nat->MC
 |0,_=>λρ h acc=>if src.fin h=true then .ok (ρ,acc) h else .bad
 |f+1,k=>λρ h acc=>match src.get k h with
  |none=>.bad
  |some d=>match st d ρ with
   |none=>.bad
   |some ρ1=>match test ρ1 h with
    |.ok true h2=>match inner ρ1 h2 acc with
     |.ok r h3=>iF src st test inner f (k+1) r.1 h3 r.2
     |_=>.bad
    |.ok false h2=>iF src st test inner f (k+1) ρ1 h2 acc
    |_=>.bad
def dF(mi:M Src)(st:dS)(test:M Bool)(inner:MC):MC:=λρ h acc=>match mi ρ h with
 |.ok src h1=>iF src st test inner src.n 0 ρ h1 acc
 |_=>.bad
def bK:M Bool:=λ_ h=>.ok true h
def kM(cap:List (Option Nat))(ρ:Ev):Ev:=cap.map λo=>match o with
 |some j=>(ρ[j]?).getD none
 |none=>none
def bA(mi:M Src)(cap:List (Option Nat))(st:dS)(test:M Bool)(inner:MC):M Az:=λρ h=>(mi ρ h).bind λsrc h1=>match iF src st test inner src.n 0 (kM cap ρ) h1 []with
 |.ok r h2=>.ok r.2 h2
 |_=>.bad
inductive TCO(G:Cfg)(m:MC)(σ:St)(H:Hp)(vs:Gx)(K:St->Hp->Gx->Prop):Prop
 |mk (μ:Nat->ai) (ρ:Ev) (h:Hs) (xs:Az) (ρ':Ev) (xs':Az) (h':Hs) (rs:Bo G μ h.length H ρ σ) (s:Bt G μ h H) (r:RelDL G μ h.length H xs vs) (e:m ρ h xs=.ok (ρ',xs') h')
  (q:∀μ' H' σ' Ct,Ext μ h.length H μ' h'.length H'->Bt G μ' h' H'->Bo G μ' h'.length H' ρ' σ'->RelDL G μ' h'.length H' xs' Ct->K σ' H' Ct):TCO G m σ H vs K
def tF(G:Cfg)(m:MC):TC:=TCO G m
section
variable{G:Cfg}
theorem Z6{μ:Nat->ai}{n:Nat}{H:Hp}{ρ:Ev}{σ:St}(rs:Bo G μ n H ρ σ)(cap:List (Option Nat)):Bo G μ n H (kM cap ρ) (sU cap σ):=⟨by simp[kM,sU],λi d e=>by
 unfold kM at e;rw[fw]at e
 cases q:cap[i]? with
 |none=>rw[q]at e;cases e
 |some o=>
  rw[q]at e
  cases o with
  |none=>cases e
  |some j=>
   have e':(ρ[j]?).getD none=some d:=by simpa using e
   have e2:ρ[j]?=some (some d):=by
    cases z:ρ[j]? with
    |none=>rw[z]at e';cases e'
    |some y=>rw[z]at e';simp at e';rw[e']
   obtain⟨v,e3,r⟩:=rs.at_ j d e2;refine⟨v,?_,r⟩;unfold sU;rw[fw,q];simp[e3]⟩
theorem vJ{E:XK}{me:M Dv}{σ:St}{H:Hp}{vs:Gx}{K:St->Hp->Gx->Prop}(t:tF G (aU me) σ H vs K):LJ (iZ G E me) σ H vs K:=by
 obtain⟨μ,ρ,h,xs,ρ',xs',h',rs,s,r,e,k⟩:=t;refine⟨μ,ρ,h,rs,s,?_⟩;unfold aU at e
 cases q:me ρ h with
 |bad=>rw[q]at e;cases e
 |ex c h1=>rw[q]at e;cases e
 |ok d h1=>
  rw[q]at e;dsimp only at e
  split at e
  ·rename_i hl;cases e;intro μ1 H1 v x1 s1 r1;refine⟨?_,k μ1 H1 σ _ x1 s1 (rs.mono x1) ((Gb x1 _ _ r).append (Gg r1 Gj))⟩;rw[r.length];exact bo hl (by decide)
  ·cases e
theorem MM{E:XK}{src:Src}{st:dS}{test:M Bool}{inner:MC}{J:It}{μ1:Nat->ai}{h1:Hs}{H1:Hp}{ρ ρ':Ev}{σ:St}{xs xs':Az}{vs:Gx}{h':Hs}{K:St->Hp->Gx->Prop}(ok:Df G μ1 h1.length H1 src J)(rs:Bo G μ1 h1.length H1 ρ σ)(s1:Bt G μ1 h1 H1)(r:RelDL G μ1 h1.length H1 xs vs)(e:iF src st test inner src.n 0 ρ h1 xs=.ok (ρ',xs') h')(k:∀μ' H' σ' Ct,Ext μ1 h1.length H1 μ' h'.length H'->Bt G μ' h' H'->Bo G μ' h'.length H' ρ' σ'->RelDL G μ' h'.length H' xs' Ct->K σ' H' Ct):
  uY J (vG G st) (jN G E test) (tF G inner) K σ H1 vs:=by
 refine⟨λi m σ H vs=>∃μ2 ρ2 h2 xs2,Ext μ1 h1.length H1 μ2 h2.length H/\Bo G μ2 h2.length H ρ2 σ/\Bt G μ2 h2 H/\RelDL G μ2 h2.length H xs2 vs/\i+m=src.n/\iF src st test inner m i ρ2 h2 xs2=.ok (ρ',xs') h',⟨src.n,μ1,ρ,h1,xs,Ge,rs,s1,r,Nat.zero_add _,e⟩,?_⟩
 rintro i m σ2 H2 vs2 ⟨μ2,ρ2,h2,xs2,x2,Ek,s2,r2,him,e2⟩
 cases m with
 |zero=>
  unfold iF at e2
  split at e2
  ·rename_i hf;cases e2;exact .inl ⟨(ok i μ2 _ H2 x2 s2).2 (by lia) hf,k μ2 H2 σ2 vs2 x2 s2 Ek r2⟩
  ·cases e2
 |succ m=>
  unfold iF at e2
  cases q:src.get i h2 with
  |none=>rw[q]at e2;cases e2
  |some d=>
   rw[q]at e2;dsimp only at e2
   cases q2:st d ρ2 with
   |none=>rw[q2]at e2;cases e2
   |some ρ3=>
    rw[q2]at e2;dsimp only at e2;obtain⟨go,yl⟩:=(ok i μ2 h2 H2 x2 s2).1 (by lia) d q;refine .inr ⟨go,λσ' H' Ct=>∃μ3 ρ4 h4 xs4,Ext μ1 h1.length H1 μ3 h4.length H'/\Bo G μ3 h4.length H' ρ4 σ'/\Bt G μ3 h4 H'/\RelDL G μ3 h4.length H' xs4 Ct/\(i+1)+m=src.n/\iF src st test inner m (i+1) ρ4 h4 xs4=.ok (ρ',xs') h',
     λσ' H' Ct z=>⟨m,jv m,z⟩,λx H' hy=>?_⟩
    obtain⟨sm,rx⟩:=yl x H' hy;have xsm:Ext μ2 h2.length H2 μ2 h2.length H':=F' sm;refine⟨μ2,ρ2,h2.length,d,ρ3,Ek.mono xsm,rx,q2,λσ3 rs3=>⟨μ2,ρ3,h2,rs3,s2.same sm,?_⟩⟩
    cases q3:test ρ3 h2 with
    |bad=>rw[q3]at e2;cases e2
    |ex c h3=>rw[q3]at e2;cases e2
    |ok b h3=>
     rw[q3]at e2;intro μ4 H4 b' x4 s4 rb;have eb:b'=b:=rb;subst eb
     cases b' with
     |false=>rw[if_neg (by decide)];exact⟨μ4,ρ3,h3,xs2,(x2.trans xsm).trans x4,rs3.mono x4,s4,Gb (xsm.trans x4) _ _ r2,by lia,e2⟩
     |true=>
      rw[if_pos rfl];dsimp only at e2
      cases q4:inner ρ3 h3 xs2 with
      |bad=>rw[q4]at e2;cases e2
      |ex c h5=>rw[q4]at e2;cases e2
      |ok rr h5=>rw[q4]at e2;obtain⟨ρ5,xs5⟩:=rr;exact⟨μ4,ρ3,h3,xs2,ρ5,xs5,h5,rs3.mono x4,s4,Gb (xsm.trans x4) _ _ r2,q4,λμ6 H6 σ6 vs6 x6 s6 rs6 r6=>⟨μ6,ρ5,h5,xs5,((x2.trans xsm).trans x4).trans x6,rs6,s6,r6,by lia,e2⟩⟩
theorem zJ{E:XK}{mi:M Src}{st:dS}{test:M Bool}{inner:MC}{σ:St}{H:Hp}{vs:Gx}{K:St->Hp->Gx->Prop}(t:tF G (dF mi st test inner) σ H vs K):LQ (EW G E mi) (vG G st) (jN G E test) (tF G inner) σ H vs K:=by
 obtain⟨μ,ρ,h,xs,ρ',xs',h',rs,s,r,e,k⟩:=t;refine⟨μ,ρ,h,rs,s,?_⟩;unfold dF at e
 cases q:mi ρ h with
 |bad=>rw[q]at e;cases e
 |ex c h1=>rw[q]at e;cases e
 |ok src h1=>rw[q]at e;exact λμ1 H1 J x1 s1 ok=>MM ok (rs.mono x1) s1 (Gb x1 _ _ r) e λμ2 H2 σ2 vs2 x2=>k μ2 H2 σ2 vs2 (x1.trans x2)
def RL(G:Cfg):(Nat->ai)->Nat->Hp->Az->V->Prop:=λμ n H xs v=>∃p vs,v=.ref p/\H p=some (.lst vs)/\(∀i,i<n->μ i≠p)/\RelDL G μ n H xs vs
def zK(G:Cfg)(E:XK)(m:M Az ):TE:=TOu G E m (RL G)
def pS(X:Cx)(G:Cfg)(E:XK)(pe:bq)(m:M Az ):Prop:=X.K=G.K->PE X pe (zK G E m)
theorem Bt.adopt{μ:Nat->ai}{h:Hs}{H:Hp}{p:ai}{ds:Az}{vs:Gx}(s:Bt G μ h H)(e:H p=some (.lst vs))(hq:∀i,i<h.length->μ i≠p)(r:RelDL G μ h.length H ds vs):
  Ext μ h.length H (λi=>if i=h.length then p else μ i) (h++[Fy ds]).length H/\Bt G (λi=>if i=h.length then p else μ i) (h++[.lst ds]) H:=by
 have hl:(h++[Fy ds]).length=h.length+1:=by simp
 have x:Ext μ h.length H (λi=>if i=h.length then p else μ i) (h++[Fy ds]).length H:=⟨by lia,λi hi=>if_neg (bc hi),λa o _ e=>e⟩
 refine⟨x,λi j hi hj e=>?_,λi o q=>?_,s.tab⟩
 ·rw[hl]at hi hj
  by_cases h1:i=h.length<;>by_cases h2:j=h.length
  ·lia
  ·rw[if_pos h1,if_neg h2]at e;exact absurd e.symm (hq j (by lia))
  ·rw[if_neg h1,if_pos h2]at e;exact absurd e (hq i (by lia))
  ·rw[if_neg h1,if_neg h2]at e;exact s.inj i j (by lia) (by lia) e
 ·by_cases h1:i<h.length
  ·rw[gd h1]at q;have r1:=s.ob i o q
   cases o with
   |lst xs=>obtain⟨ws,e1,r2⟩:=r1;exact⟨ws,by rw[if_neg (bc h1)];exact e1,Gb x _ _ r2⟩
   |clo k t=>rw[if_neg (bc h1)];exact r1.clo x
   |dct ks=>rw[if_neg (bc h1)];exact r1
  ·rw[jh (by lia)]at q;have h2:i=h.length:=by have:=(bw.mp q).1;simp at this;lia
   subst h2;simp at q;subst q;exact⟨vs,by rw[if_pos rfl];exact e,Gb x _ _ r⟩
def aX(m:M Az ):M Dv:=λρ h=>(m ρ h).bind λxs h1=>.ok (.ref h1.length) (h1++[.lst xs])
theorem zL{E:XK}{m:M Az}{σ:St}{H:Hp}{Q:VK}(t:iZ G E (aX m) σ H Q):zK G E m σ H Q:=by obtain⟨μ,ρ,h,rs,s,o⟩:=t;refine⟨μ,ρ,h,rs,s,(o.bind (R1:=RL G)).mono λv H1⟨μ1,xs,h1,x1,s1,⟨p,vs,ev,e1,hq,r1⟩,o1⟩=>?_⟩;subst ev;obtain⟨x2,s2⟩:=s1.adopt e1 hq r1;exact o1 _ _ _ x2 s2 ⟨by simp,by show Gs p=Gs (if h1.length=h1.length then p else μ1 h1.length);rw[if_pos rfl]⟩
theorem jD{X:Cx}{E:XK}{pe:bq}{m:M Az}(h:pS X G E pe m):aI X G E pe (aX m):=λhK=>Gh (h hK) λ_ _ _ t=>zL t
theorem vK{E E':XK}{mi:M Src}{cap:List (Option Nat)}{st:dS}{test:M Bool}{inner:MC}{σ:St}{H:Hp}{Q:VK}(t:zK G E (bA mi cap st test inner) σ H Q):DZ (EW G E mi) cap (vG G st) (jN G E' test) (tF G inner) σ H Q:=by
 obtain⟨μ,ρ,h,rs,s,o⟩:=t;refine⟨μ,ρ,h,rs,s,(o.bind (R1:=Df G)).mono λJ H1⟨μ1,src,h1,x1,s1,ok,o1⟩=>?_⟩
 cases q:iF src st test inner src.n 0 (kM cap ρ) h1 []with
 |bad=>rw[q]at o1;exact o1.elim
 |ex c h2=>rw[q]at o1;exact o1.elim
 |ok r h2=>rw[q]at o1;obtain⟨ρ',xs'⟩:=r;refine MM ok (Z6 (rs.mono x1) cap) s1 Gj q λμ2 H2 σ2 vs2 x2 s2 Ek r2 p hp=>?_;exact o1 μ2 _ _ (x2.trans (F' (dQ hp))) (s2.same (dQ hp)) ⟨p,vs2,rfl,eR,s2.not hp,Gb (F' (dQ hp)) _ _ r2⟩
end
section
variable{elt tg iter Bz Bh:bq}{ifs Bn:List bq}{sc:gf}{ps pos:Pos}{mi mi':M Src}{st Dd:dS}{test Cr:M Bool}{me:M Dv}{N:Ax}{cap:List (Option Nat)}
def kN(X:Cx)(G:Cfg)(ifs:List bq)(m:M Bool):Prop:=X.K=G.K->PTs X ifs (jN G E0 m)
theorem PTs.imp{Y:Cx}{ifs:List bq}{t t':TT}(h:PTs Y ifs t)(i:∀σ H Q,t' σ H Q->t σ H Q):PTs Y ifs t':=λpins s σ H Q I q=>h pins s σ H Q I (i σ H Q q)
theorem eQ{Y:Cx}:kN Y G [] bK:=λ_=>PTs.imp ZD λσ H Q⟨μ,ρ,h,rs,s,o⟩=>o.val s rfl
theorem jR{Y:Cx}{c:bq}{m:M Bool}(h:fS Y G E0 c m):kN Y G [c] m:=λhK=>ZE (h hK)
theorem Ed.imp{Y:Cx}{D:ai}{m:Sem Unit}{t t':TC}(h:Ed Y D m t)(i:∀σ H xs K,t' σ H xs K->t σ H xs K):Ed Y D m t':=λpins s σ H xs K I a f q=>h pins s σ H xs K I a f (i σ H xs K q)
theorem gS(hc:X.calm=true)(C:Cc X sc N cap)(hi:hG X G E tg iter mi)(hg:∀s H ex,iS (bW X sc N s H ex) G tg st)(Eg:∀s H ex,kN (bW X sc N s H ex) G ifs test)(Ds:∀s H ex,aI (bW X sc N s H ex) G E0 elt me)(hs:∀x,foldedSetIterable iter X.env x=pure x:=by intro _;rfl):pS X G E (.ListComp elt [⟨tg,iter,ifs,0⟩] sc ps) (bA mi cap st test (aU me)):=λhK=>
 Gh (LS hc C rfl (λit D env=>LM elt tg iter ifs sc ps (.ref it) D env) (hi hK) (λs H ex=>hg s H ex hK) (λs H ex=>Eg s H ex hK) (λs H ex D=>Ed.imp (uX (Ds s H ex hK)) λ_ _ _ _ t=>vJ t) hs) λ_ _ _ t=>vK t
theorem qV(hc:X.calm=true)(C:Cc X sc N cap)(hi:hG X G E tg iter mi)(hg:∀s H ex,iS (bW X sc N s H ex) G tg st)(Eg:∀s H ex,kN (bW X sc N s H ex) G ifs test)(hi':∀s H ex,hG (bW X sc N s H ex) G E0 Bz Bh mi')(Fs:∀s H ex,iS (bW X sc N s H ex) G Bz Dd)(Fo:∀s H ex,kN (bW X sc N s H ex) G Bn Cr)(Ds:∀s H ex,aI (bW X sc N s H ex) G E0 elt me)(hs:∀x,foldedSetIterable iter X.env x=pure x:=by intro _;rfl)(Fc:∀s H ex x,foldedSetIterable Bh (bW X sc N s H ex).env x=pure x:=by intro _ _ _ _;rfl):
  pS X G E (.ListComp elt [⟨tg,iter,ifs,0⟩,⟨Bz,Bh,Bn,0⟩] sc ps) (bA mi cap st test (dF mi' Dd Cr (aU me))):=λhK=>
 Gh (LS hc C rfl (inner:=λD env=>kX Bh (.ListComp elt [⟨tg,iter,ifs,0⟩,⟨Bz,Bh,Bn,0⟩] sc ps) 1 D env) (λit D env=>LN elt tg iter Bz Bh ifs Bn sc ps (.ref it) D env) (hi hK) (λs H ex=>hg s H ex hK) (λs H ex=>Eg s H ex hK)
  (λs H ex D=>Ed.imp (zB (X:=bW X sc N s H ex) (D:=D) (gens:=[⟨tg,iter,ifs,0⟩,⟨Bz,Bh,Bn,0⟩]) (d:=1) rfl hc rfl (λit=>LO elt tg iter Bz Bh ifs Bn sc ps (.ref it) D _) (hi' s H ex hK) (Fs s H ex hK) (Fo s H ex hK) (Ed.imp (uX (Ds s H ex hK)) λ_ _ _ _ t=>vJ t) (Fc s H ex)) λ_ _ _ _ t=>zJ t) hs) λ_ _ _ t=>vK t
end
def iT(T:ai)(h:cy):Prop:=∃oT ts,h.get? T=some oT/\oT.data=.fields ts/\ts[3]?=some .none
structure Chg(fs:List ai)(e T:ai)(h h':cy):Prop where
 new:h.objs.size<=T
 keep:∀b o,b≠e->b∉fs->h.get? b=some o->h'.get? b=some o
 slot:∀b o,b≠e->h.get? b=some o->∃sl,h'.get? b=some {o with slots:=sl}
 tb:iT T h'
theorem Z7(f:Array af->Array af)(o:Obj):(Obj.mapFields f o).dict=o.dict:=by
 unfold Obj.mapFields
 split<;>rfl
section
variable{M:xo}{A:cq}{E:af->ag->Prop}{s:ag}
theorem EY{a:ai}{o:Obj}{vs:Array af}{i:Nat}{v:af}{Q:Unit->ag->Prop}(e:s.heap.get? a=some o)(hd:o.data=.fields vs)(hi:i<vs.size)(k:∀h' o',ja a s.heap h'->h'.get? a=some o'->o'.cls=o.cls->o'.dict=o.dict->o'.data=.fields (vs.setIfInBounds i v)->Q () {s with heap:=h'}):wpAny M A (setField (.ref a) i v) Q E s:=
 have d':=vn hd (·.setIfInBounds i v)
 zu e hd hi (k _ _ (kn ..) (kl _ e (Ag d')) (Obj.cls_mapFields ..) (Z7 ..) d')
theorem Z8{head v:af}{L:Int}{pl:List af}{Q:af->ag->Prop}(Co:IsPlace pl)(k:∀ob ts,ob.data=.fields ts->3<ts.size->ob.isFreed=false->Q (.ref s.heap.objs.size) {s with heap:=s.heap.push ob}):
  wpAny M A (yo head v .none (rawInt L) .none pl) Q E s:=
 fj (k _ _ rfl (by simp only[ba,cf,bu,qc];lia) rfl) (Co.sizeOk5 ..)
theorem Z9{e T:ai}{oe oT:Obj}{vs ts:Array af}{Q:Unit->ag->Prop}(he:s.heap.get? e=some oe)(hd:oe.data=.fields vs)(h1:vs[1]?=some (.ref T))(hT:s.heap.get? T=some oT)(hdT:oT.data=.fields ts)(hs:3<ts.size)(k:∀h',ja T s.heap h'->iT T h'->Q () {s with heap:=h'}):wpAny M A (setFlight (.ref e) none) Q E s:=by
 refine ae (gg he hd h1 ?_);show wpAny M A (if(iq T !=kj)=true then _ else _) Q E s;rw[if_pos (by simp)];exact EY hT hdT hs λh' o' sb g _ _ d=>k h' sb ⟨o',_,g,d,by rw[ju hs];rfl⟩
theorem MN{base:cy}{l:List Env}{a:ai}{o:Obj}{vs:Array af}(hl:s.heap.FunFrames base l)(e:s.heap.get? a=some o)(hd:o.data=.fields vs):a∉fR l:=λhm=>by obtain⟨_,o',e',nf⟩:=hl.mem hm;rw[e]at e';cases e';exact nf vs hd
theorem MP{base:cy}{env:Env}{outer:List Env}{L e:ai}{oe:Obj}{vs:Array af}{head a0:af}{nx:Bool}{Q:Unit->ag->Prop}(hfr:A.frames=some (env::outer))(hl:s.heap.FunFrames base (env::outer))(hf:env.frame=some L)(he:s.heap.get? e=some oe)(hd:oe.data=.fields vs)(hdn:oe.dict=none)(Cf:1<vs.size)(h0:vs[0]?=some a0)(k:∀h' T,Chg (fR (env::outer)) e T s.heap h'->fL oe.cls e T a0 h'->Q () {s with heap:=h'}):
  wpAny M A (do let a <-frameOf env;let pl <-entryPlaceOf L nx;let b <-yo head a .none (rawInt L) .none pl;setField (.ref e) 1 b)
   (λ_ s'=>wpAny M A (setFlight (.ref e) none) Q E s') E s:=by
 have ne:=MN hl he hd;refine ae (wpAny_frameOf_fun hfr hl hf λg1 so=>ae (wpAny_entryPlaceOf λpl Co=>ae (Z8 Co λob ts dt hts nf=>?_)));have e1:g1.get? e=some oe:=(so.2.1 e ne).trans he;have lt:e<g1.objs.size:=ay e1;refine EY (s:={s with heap:=g1.push ob}) (ao _ e1) hd Cf λg2 oe2 sb2 ge c2 dn2 d2=>?_;have gT:g2.get? g1.objs.size=some ob:=sb2.extBut _ _ (jj lt) (az _ nf);refine Z9 (s:={s with heap:=g2}) ge d2 (T:=g1.objs.size) (by rw[ju Cf]) gT dt hts λg3 sb3 tb=>?_;have kp:∀b o,b≠e->g1.get? b=some o->g3.get? b=some o:=λb o hb q=>sb3.extBut _ _ (bc (ay q)) (sb2.extBut _ _ hb (ao _ q));refine k g3 g1.objs.size ⟨qm so.1.symm,λb o hb hn q=>kp b o hb ((so.2.1 b hn).trans q),λb o hb q=>?_,tb⟩ ⟨oe2,_,sb3.extBut _ _ (bc lt) ge,c2,d2,?_,?_,dn2.trans hdn⟩
 ·obtain⟨sl,q'⟩:=so.2.2 b o q;exact⟨sl,kp b _ hb q'⟩
 ·rw[Array.getElem?_setIfInBounds_ne (by decide)];exact h0
 ·rw[ju Cf]
theorem a9{base:cy}{env:Env}{outer:List Env}{L e:ai}{oe:Obj}{vs:Array af}{a0:af}{Q:Unit->ag->Prop}(hfr:A.frames=some (env::outer))(hl:s.heap.FunFrames base (env::outer))(hf:env.frame=some L)(he:s.heap.get? e=some oe)(hd:oe.data=.fields vs)(hdn:oe.dict=none)(h0:vs[0]?=some a0)(h1:vs[1]?=some .none)(k:∀h' T,Chg (fR (env::outer)) e T s.heap h'->fL oe.cls e T a0 h'->Q () {s with heap:=h'}):
  wpAny M A (noteFrame (.ref e) env) (λ_ s'=>wpAny M A (setFlight (.ref e) none) Q E s') E s:=by
 unfold noteFrame;rw[hf];refine ae (gg he hd h1 ?_);exact MP hfr hl hf he hd hdn (ff.mp h1).1 h0 k
theorem b9{base:cy}{env:Env}{outer:List Env}{L e T:ai}{C a0:af}{Q:Unit->ag->Prop}(hfr:A.frames=some (env::outer))(hl:s.heap.FunFrames base (env::outer))(hf:env.frame=some L)(hx:fL C e T a0 s.heap)(ht:iT T s.heap)(hne:T≠e)(k:∀h' T',s.heap.objs.size<=T'->(∀b o,b≠e->b≠T->b∉fR (env::outer)->s.heap.get? b=some o->h'.get? b=some o)->(∀b o,b≠e->b≠T->s.heap.get? b=some o->∃sl,h'.get? b=some {o with slots:=sl})->
   fL C e T' a0 h'->iT T h'->iT T' h'->Q () {s with heap:=h'}):
  wpAny M A (noteFrame (.ref e) env) (λ_ s'=>wpAny M A (setFlight (.ref e) none) Q E s') E s:=by
 obtain⟨oe,vs,he,rfl,hd,h0,h1,hdn⟩:=hx;obtain⟨oT,ts,hT,hdT,h3⟩:=ht;have l3:3<ts.size:=(ff.mp h3).1;have nT:=MN hl hT hdT;unfold noteFrame;rw[hf];refine ae (gg he hd h1 ?_);rw[if_pos (by simp)];refine ae (gg hT hdT h3 ?_);rw[if_neg (by simp[rawInt])];refine ae (EY hT hdT l3 λg o' sb gT _ _ dT=>?_);have hl':g.FunFrames base (env::outer):=hl.of_keeps λb o q nf=>⟨o,sb.extBut _ _ (λz=>by subst z;rw[hT]at q;cases q;exact nf ts hdT) q,rfl⟩
 refine MP (s:={s with heap:=g}) hfr hl' hf (sb.extBut _ _ (dk hne) he) hd hdn (ff.mp h1).1 h0 λh' T' c x=>?_;refine k h' T' (by rw[<-sb.1];exact c.new) (λb o n1 n2 n3 q=>c.keep b o n1 n3 (sb.extBut _ _ n2 q)) (λb o n1 n2 q=>c.slot b o n1 (sb.extBut _ _ n2 q)) x ⟨_,_,c.keep T _ hne nT gT,dT,?_⟩ c.tb;rw[ju l3]
end
theorem EZ{P:bj}{w:cn}{H:Hp}{h:cy}{a:ai}{o:HO}(x:Bk P w H h a o):∃ob,h.get? a=some ob:=by
 cases o with
 |lst xs=>obtain⟨_,_,_,_,e⟩:=x;exact⟨_,e⟩
 |tup xs=>obtain⟨_,_,_,ob,e,_⟩:=x;exact⟨_,e⟩
 |dK kvs=>obtain⟨_,_,_,_,o,_,_,e,_⟩:=x;exact⟨_,e⟩
 |dT kvs=>obtain⟨_,_,_,_,o,_,_,e,_⟩:=x;exact⟨_,e⟩
 |set S n=>obtain⟨o,_,_,_,e,_⟩:=x;exact⟨_,e⟩
 |ins C dx fs=>obtain⟨_,_,_,e,_⟩:=x;exact⟨_,e⟩
 |own y=>exact x
 |xd fs=>obtain⟨_,⟨_,_,_,e,_⟩,_⟩:=x;exact⟨_,e⟩
 |rng lo hi=>obtain⟨_,_,_,e⟩:=x;exact⟨_,e⟩
 |frz ob u=>obtain⟨e,_⟩:=x;exact⟨_,e⟩
 |tbl ps=>exact⟨_,(show h.get? a=some _ from x)⟩
 |met f y=>exact⟨_,(show h.get? a=some _ from x)⟩
 |ext φ=>obtain⟨_,e,_⟩:=x;exact e
inductive Fly(base:cy)(H:Hp)(C:af)(e:ai):Prop
 |mk (T:_) (a0:_) (h0:H e=some (.ext (fL C e T a0))) (h1:H T=some (.ext (iT T))) (h2:base.get? e=none) (h3:T≠e):Fly base H C e
def zM(e:ai)(H H':Hp):Prop:=∀b o,b≠e->H b=some o->H' b=some o
theorem c6{C a0:af}{e T:ai}{h1 h2:cy}(x:fL C e T a0 h1)(k:∀o,h1.get? e=some o->h2.get? e=some o):fL C e T a0 h2:=by obtain⟨oe,vs,he,r⟩:=x;exact⟨oe,vs,k oe he,r⟩
theorem c8{T:ai}{h1 h2:cy}(x:iT T h1)(k:∀o,h1.get? T=some o->h2.get? T=some o):iT T h2:=by obtain⟨oe,vs,he,r⟩:=x;exact⟨oe,vs,k oe he,r⟩
theorem MQ{P:bj}{w:cn}{H:Hp}{h:cy}{C a0:af}{e T:ai}(x:fL C e T a0 h):Bk P w H h e (.ext (fL C e T a0)):=⟨x,(let ⟨oe,_,he,_⟩:=x;⟨oe,he⟩),λ_ _ y k=>c6 y k⟩
theorem E1{P:bj}{w:cn}{H:Hp}{h:cy}{T:ai}(x:iT T h):Bk P w H h T (.ext (iT T)):=⟨x,(let ⟨oe,_,he,_⟩:=x;⟨oe,he⟩),λ_ _ y k=>c8 y k⟩
section
variable{P:bj}{w:cn}{M:xo}{A:cq}{E:af->ag->Prop}{s:ag}{H:Hp}{base:cy}{env:Env}{outer:List Env}{L e:ai}{C:af}
theorem c9{Q:Unit->ag->Prop}(hfr:A.frames=some (env::outer))(hl:s.heap.FunFrames base (env::outer))(hf:env.frame=some L)(hok:Cq P w H s.heap)(hfree:∀b∈fR (env::outer),H b=none)(fl:Fly base H C e)(k:∀h' H',Un (fR (env::outer)) [] H H' s.heap h'->Cq P w H' h'->Fly base H' C e->zM e H H'->Q () {s with heap:=h'}):
  wpAny M A (noteFrame (.ref e) env) (λ_ s'=>wpAny M A (setFlight (.ref e) none) Q E s') E s:=by
 obtain⟨T,a0,he,hT,hb,hne⟩:=fl;have xe:fL C e T a0 s.heap:=(show Bk P w H s.heap e _ from hok e _ he).1;have xt:iT T s.heap:=(show Bk P w H s.heap T _ from hok T _ hT).1;refine b9 hfr hl hf xe xt hne λh' T' Eh keep slot x' t0 t'=>?_;have nT':H T'=none:=hok.fresh Eh;have eT':T'≠e:=(gH he nT').symm;have TT':T'≠T:=(gH hT nT').symm;have sx:zM e H (bI (bI H e (.ext (fL C e T' a0))) T' (.ext (iT T'))):=λb o hbe q=>by rw[cU (gH q nT'),cU hbe];exact q
 have ee:bI (bI H e (.ext (fL C e T' a0))) T' (.ext (iT T')) e=some (.ext (fL C e T' a0)):=by rw[cU (dk eT'),eR]
 refine k h' (bI (bI H e (.ext (fL C e T' a0))) T' (.ext (iT T'))) ?_ ?_ ⟨T',a0,ee,eR,hb,eT'⟩ sx
 ·have free:∀b o,s.heap.get? b=some o->H b=none->bI (bI H e (.ext (fL C e T' a0))) T' (.ext (iT T')) b=none:=λb o q n=>by have h1:b≠T':=bc (bo (ay q) Eh);have h2:b≠e:=(gH he n).symm;rw[cU h1,cU h2];exact n
  refine⟨λb o q n hb _=>keep b o (gH he n).symm (gH hT n).symm hb q,λb o q n _ _=>slot b o (gH he n).symm (gH hT n).symm q,λb o q n _=>free b o q n,λb o q _=>?_,λb xs q=>?_,λb o u q=>?_,λb ps q=>?_⟩
  ·by_cases h1:b=e
   ·subst h1;obtain⟨oe,_,z,_⟩:=x';exact⟨oe,z⟩
   ·by_cases h2:b=T
    ·subst h2;obtain⟨oe,_,z,_⟩:=t0;exact⟨oe,z⟩
    ·obtain⟨sl,z⟩:=slot b o h1 h2 q;exact⟨_,z⟩
  ·exact sx b _ (oG q he (by intro z;cases z)) q
  ·exact sx b _ (oG q he (by intro z;cases z)) q
  ·exact⟨#[],by rw[sx b _ (oG q he (by intro z;cases z)) q];simp⟩
 ·intro a o q
  by_cases h1:a=T'
  ·subst h1;rw[eR]at q;cases q;exact E1 t'
  ·rw[cU h1]at q
   by_cases h2:a=e
   ·subst h2;rw[eR]at q;cases q;exact MQ x'
   ·rw[cU h2]at q
    by_cases h3:a=T
    ·subst h3;rw[hT]at q;cases q;exact E1 t0
    ·have nf:a∉fR (env::outer):=λz=>by rw[hfree a z]at q;cases q
     refine(hok a o q).stay (λb u hb z=>?_) (λb z=>sx b _ (oG z he (by intro y;cases y)) z) λb xs z=>sx b _ (oG z he (by intro y;cases y)) z
     rcases hb with rfl|hb
     ·exact keep b u h2 h3 nf z
     ·exact keep b u (oG hb he (by intro y;cases y)) (oG hb hT (by intro y;cases y)) (λy=>by rw[hfree b y]at hb;cases hb) z
theorem d6{Q:Unit->ag->Prop}{h0:cy}{args:List af}(hfr:A.frames=some (env::outer))(hl:h0.FunFrames base (env::outer))(hf:env.frame=some L)(hok:Cq P w H h0)(hfree:∀b∈fR (env::outer),H b=none)(hsb:∀b o,base.get? b=some o->h0.get? b=some o)(mx:Heap.MadeExcOf h0 s.heap e C args)(k:∀h' H',Un (fR (env::outer)) [] H H' h0 h'->Cq P w H' h'->Fly base H' C e->Cv H H'->Q () {s with heap:=h'}):
  wpAny M A (noteFrame (.ref e) env) (λ_ s'=>wpAny M A (setFlight (.ref e) none) Q E s') E s:=by
 obtain⟨t,he,hnt,ht⟩:=mx.there;have hbn:base.get? e=none:=by
  cases q:base.get? e with
  |none=>rfl
  |some o=>have:=hsb e o q;rw[mx.new]at this;cases this
 have nH:H e=none:=by
  cases q:H e with
  |none=>rfl
  |some o=>
   have z:∀a o,H a=some o->h0.get? a≠none:=λa o q n=>by
    have lt:=hok.lt q;have:=(hok a o q)
    have ex:∃ob,h0.get? a=some ob:=EZ this;obtain⟨ob,eo⟩:=ex;rw[n]at eo;cases eo
   exact absurd mx.new (z e o q)
 have hl1:s.heap.FunFrames base (env::outer):=hl.of_keeps λb o hb _=>⟨o,mx.keeps b o hb,rfl⟩
 refine a9 hfr hl1 hf he rfl rfl (a0:=.ref t) rfl rfl λh' T c x=>?_;have ne_e:∀b o,h0.get? b=some o->b≠e:=λb o q z=>by subst z;rw[mx.new]at q;cases q
 have lt0:∀b o,h0.get? b=some o->b<T:=λb o q=>bo (ay (mx.keeps b o q)) c.new;have nT:H T=none:=by
  cases q:H T with
  |none=>rfl
  |some o=>obtain⟨ob,eo⟩:=EZ (hok T o q);exact absurd (lt0 T ob eo) (iz _)
 have eT:T≠e:=jj (bo (ay he) c.new);have sm:Cv H (bI (bI H e (.ext (fL C e T (.ref t)))) T (.ext (iT T))):=λb o q=>by rw[cU (gH q nT),cU (gH q nH)];exact q
 refine k h' (bI (bI H e (.ext (fL C e T (.ref t)))) T (.ext (iT T))) ?_ ?_ ⟨T,.ref t,by rw[cU (dk eT),eR],eR,hbn,eT⟩ sm
 ·refine⟨λb o q n hb _=>c.keep b o (ne_e b o q) hb (mx.keeps b o q),λb o q n _ _=>c.slot b o (ne_e b o q) (mx.keeps b o q),λb o q n _=>?_,λb o q _=>?_,λb xs q=>sm b _ q,λb o u q=>sm b _ q,λb ps q=>⟨#[],by rw[sm b _ q];simp⟩⟩
  ·rw[cU (bc (lt0 b o q)),cU (ne_e b o q)];exact n
  ·obtain⟨sl,z⟩:=c.slot b o (ne_e b o q) (mx.keeps b o q);exact⟨_,z⟩
 ·intro a o q
  by_cases h1:a=T
  ·subst h1;rw[eR]at q;cases q;exact E1 c.tb
  ·rw[cU h1]at q
   by_cases h2:a=e
   ·subst h2;rw[eR]at q;cases q;exact MQ x
   ·rw[cU h2]at q;have nf:a∉fR (env::outer):=λz=>by rw[hfree a z]at q;cases q
    refine(hok a o q).stay (λb u hb z=>?_) (λb z=>sm b _ z) λb xs z=>sm b _ z
    rcases hb with rfl|hb
    ·exact c.keep b u (ne_e b u z) nf (mx.keeps b u z)
    ·exact c.keep b u (ne_e b u z) (λy=>by rw[hfree b y]at hb;cases hb) (mx.keeps b u z)
end
inductive CXo(P:bj)(w:cn)(base:cy)(outer:List Env)(H:Hp)(s:ag)(E:XK)(u:af)(s':ag):Prop
 |mk (e:ai) (C:af) (H':Hp) (h0:u=.ref e) (h1:s'.os=s.os) (h2:sv s'.gens) (h3:Un (fR outer) [] H H' s.heap s'.heap) (h4:Cq P w H' s'.heap) (h5:Fly base H' C e) (h6:E u none H'):CXo P w base outer H s E u s'
def cB(P:bj)(w:cn)(base:cy):oJ:=CXo P w base
def d7(X:Cx)(E:XK):Prop:=∀(pins:List (ai×Obj))(σ:St)(H:Hp)(s:ag)(h':cy)(e:ai)(C:af)(args:List af),Inv X pins σ H s->Heap.MadeExcOf s.heap h' e C args->
 (∀H',Cv H H'->(∃T a0,H' e=some (.ext (fL C e T a0)))->E (.ref e) none H')->X.xe (.ref e) {s with heap:=h'}
structure Good(X:Cx)(G:Cfg)(E:XK)(k:Nat):Prop where
 calm:X.calm=true
 room:Bx k X.A
 K:X.K=G.K
 pas:DP (cB X.prog X.w X.base) X E
 own:yk (model X.prog X.w) X.A X.env X.xe
 rais:d7 X E
def MR(E:XK):Prop:=∀e H H',zM e H H'->(∃C T a0 T' a0',H e=some (.ext (fL C e T a0))/\(∃h,fL C e T a0 h)/\H' e=some (.ext (fL C e T' a0')))->E (.ref e) none H->E (.ref e) none H'
section
variable{P:bj}{w:cn}{K:au}{mg:Str->Option af}{base:cy}{N:Ax}{qual:Str}{scope:gf}{f:ai}{cdv:af}{A:cq}{outer:List Env}{s0:ag}{H0:Hp}{E0:XK}{G:Cfg}{E:XK}{k:Nat}
theorem MT(hr:Bx k (A.deeper (envOfC qual scope s0.heap.objs.size f cdv)))(hK:K=G.K)(hE:∀u H',E u none H'->E0 u none H')(hF:MR E):
  Good (mM (cB P w base) P w K mg base N qual scope f cdv A outer s0 H0 E0) G E k where
 calm:=rfl
 room:=hr
 K:=hK
 own:=PassesOwn.leaving
 pas:=by intro pins σ H s u s' I ⟨e,C,H',eu,os,bare,un,hok,fl,he⟩;subst eu;have I':=I.call' os un hok bare (λb z=>absurd z (by simp));refine ae (c9 (P:=P) (w:=w) (H:=H') (base:=base) I'.ok.frames I'.stack rfl hok I'.stkFree fl λh'' H'' un2 hok2 fl2 sx=>?_);have I2:=I'.call (h':=h'') (g':=s'.gens) (d':=s'.drawn) (t':=s'.toks) un2 hok2 I'.bare (λb z=>absurd z (by simp));obtain⟨T,a0,h1,_⟩:=id fl;obtain⟨T2,a2,h3,_⟩:=id fl2;have xe1:fL C e T a0 s'.heap:=(show Bk P w H' s'.heap e _ from hok e _ h1).1;have:E (.ref e) none H'':=hF e H' H'' sx ⟨C,T,a0,T2,a2,h1,⟨_,xe1⟩,h3⟩ he;exact⟨e,C,H'',rfl,I2.os,I2.bare,I2.base,hok2,fl2,hE _ _ this⟩
 rais:=by intro pins σ H s h' e C args I mx he;refine ae (d6 (P:=P) (w:=w) (H:=H) (base:=base) I.ok.frames I.stack rfl I.hok I.stkFree I.bk mx λh'' H'' un2 hok2 fl2 sm=>?_);have I2:=I.call (h':=h'') (g':=s.gens) (d':=s.drawn) (t':=s.toks) un2 hok2 I.bare (λb z=>absurd z (by simp));obtain⟨T2,a2,h3,_⟩:=id fl2;exact⟨e,C,H'',rfl,I2.os,I2.bare,I2.base,hok2,fl2,hE _ _ (he H'' sm ⟨T2,a2,h3⟩)⟩
theorem cZ{X:Cx}{sc:gf}{N':Ax}{s:ag}{H:Hp}{ex:List ai}(g:Good X G E k):Good (bW X sc N' s H ex) G L2.E0 k where
 calm:=g.calm
 room:=g.room
 K:=g.K
 own:=PassesOwn.never
 pas:=λ_ _ _ _ _ _ _⟨_,_,_,_,_,_,_,_,_,z⟩=>z
 rais:=λ_ _ H s h' e C args I mx he=>by
  have nH:H e=none:=by
   cases q:H e with
   |none=>rfl
   |some o=>obtain⟨ob,eo⟩:=EZ (I.hok e o q);rw[mx.new]at eo;cases eo
  exact he (bI H e (.ext (fL C e 0 .none))) (dQ nH) ⟨0,.none,eR⟩
def dJ(n:Nat)(ds:Az):Ev:=ds.map some++bx (n-ds.length) none
def bN:Sr->Rs Dv
 |.rt d h=>.ok d h
 |.nx _ h=>.ok .non h
 |.ex c h=>.ex c h
 |_=>.bad
def aT(np n:Nat)(mb:MS):Ay:=λds h=>if ds.length=np then bN (mb (dJ n ds) h)else .bad
inductive SPo(G:Cfg)(F:Ay)(vs:Gx)(H:Hp)(Q:VK)(E:XK):Prop
 |mk (μ:Nat->ai) (h:Hs) (ds:Az) (r:RelDL G μ h.length H ds vs) (s:Bt G μ h H) (o:Out G E μ h.length H (F ds h) (Be G) Q):SPo G F vs H Q E
def cH(G:Cfg)(F:Ay):Sp:=SPo G F
theorem MU{μ:Nat->ai}{n:Nat}{H:Hp}{ds:Az}{vs:Gx}(r:RelDL G μ n H ds vs)(N:Ax):Bo G μ n H (dJ N.length ds) (start N vs):=by
 have hl:=r.length;refine⟨by simp[dJ,start,hl],λi d e=>?_⟩;unfold dJ at e
 by_cases hi:i<ds.length
 ·rw[gd (by simpa using hi),fw]at e
  cases q:ds[i]? with
  |none=>rw[q]at e;cases e
  |some d'=>rw[q]at e;cases e;obtain⟨v,e1,r1⟩:=r.get q;refine⟨v,?_,r1⟩;unfold start;rw[gd (by simp;lia),fw,e1];rfl
 ·rw[jh (by simpa using hi),yz]at e
  split at e<;>cases e
def EB(G:Cfg)(μ0:Nat->ai)(n0:Nat)(H0:Hp)(r:Sr):XK:=λu _ H'=>∃c h' μ',r=.ex c h'/\Ext μ0 n0 H0 μ' h'.length H'/\Bt G μ' h' H'/\FlyE G H' c u
theorem Bt.sameX{μ:Nat->ai}{h:Hs}{H H':Hp}{e:ai}(s:Bt G μ h H)(sx:zM e H H')(hx:∃φ,H e=some (.ext φ)):Bt G μ h H'/\∀(n:Nat),Ext μ n H μ n H':=by
 obtain⟨φ,hx⟩:=hx;have x:∀n:Nat,Ext μ n H μ n H':=λn=>⟨aq _,λ_ _=>rfl,λa o i q=>sx a o (by rintro rfl;rw[hx]at q;cases q;exact i) q⟩
 refine⟨⟨s.inj,λi o q=>?_,s.tab.keep λa o _ n2 q=>sx a o (by rintro rfl;rw[hx]at q;cases q;exact n2 _ rfl) q⟩,x⟩;have r:=s.ob i o q
 cases o with
 |lst xs=>obtain⟨vs,e1,r1⟩:=r;exact⟨vs,sx _ _ (oG e1 hx (by intro z;cases z)) e1,Gb (x _) _ _ r1⟩
 |clo k t=>exact r.clo (x _)
 |dct ks=>exact sx _ _ (oG r hx (by intro z;cases z)) r
theorem MV{μ0:Nat->ai}{n0:Nat}{H0:Hp}{r:Sr}:MR (EB G μ0 n0 H0 r):=by intro e H H' sx ⟨C,T,a0,T',a0',h1,⟨hp,hx⟩,h3⟩ ⟨c,h',μ',er,x,s,e',φ,eu,h4,h5⟩;cases eu;obtain⟨s2,x2⟩:=s.sameX sx ⟨_,h1⟩;refine⟨c,h',μ',er,x.trans (x2 _),s2,e,_,rfl,h3,λhh z=>?_⟩;rw[h1]at h4;cases h4;obtain⟨o,g1,g2⟩:=h5 hp hx;obtain⟨oe,vs,g3,g4,_⟩:=hx;rw[g3]at g1;cases g1;obtain⟨oe',Ct,g5,g6,_⟩:=z;exact⟨oe',g5,by rw[g6,<-g4,g2]⟩
theorem cT{x qual:Str}{st:fv}{fd:bh}{ps:Ax}{mb:MS}(Fn:Fun K x qual st f fd)(S:Bd N ps (aZ st))(hK:K=G.K)(Ew:∀(cdv:af)(A:cq)(outer:List Env)(s:ag)(H:Hp)(E₀ E:XK),Good (mM (cB P w base) P w K mg base N qual (aZ st) f cdv A outer s H E₀) G E k->mR (mM (cB P w base) P w K mg base N qual (aZ st) f cdv A outer s H E₀) G E (mO st) mb):
  Bj P w K mg base (cB P w base) (k+1) f fd ps (cH G (aT ps.length N.length mb)):=by
 obtain⟨oc,od,kV,doc,pm,an,cdv,ct,osl,rfl,lk,hcd⟩:=Fn.ex;have hlen:∀vs H Q E,cH G (aT ps.length N.length mb) vs H Q E->vs.length=ps.length:=λvs H Q E⟨μ,h,ds,r,sm,o⟩=>by
  rw[r.length];unfold aT at o
  by_cases hd:ds.length=ps.length
  ·exact hd
  ·rw[if_neg hd]at o;exact o.elim
 refine KL lk hcd S hlen λA outer s H vs Q E hr hsp=>?_;have hl:=hlen _ _ _ _ hsp;obtain⟨μ,h,ds,r,sm,o⟩:=hsp;have o':Out G E μ h.length H (bN (mb (dJ N.length ds) h)) (Be G) Q:=by unfold aT at o;rw[if_pos (by rw[<-r.length];exact hl)]at o;exact o
 refine⟨_,Ew cdv A outer s H E (EB G μ h.length H (mb (dJ N.length ds) h)) (MT hr hK (λu H'⟨c,h',μ',er,x,s',fl⟩=>?_) MV) hK,?_⟩
 ·rw[er]at o';exact o' μ' H' u x s' fl
 ·refine⟨μ,dJ N.length ds,h,MU r N,sm,?_⟩
  cases q:mb (dJ N.length ds) h with
  |bad=>rw[q]at o';exact o'.elim
  |bk ρ h'=>rw[q]at o';exact o'.elim
  |ct ρ h'=>rw[q]at o';exact o'.elim
  |rt d h'=>rw[q]at o';exact o'
  |nx ρ h'=>rw[q]at o';exact λμ' H' σ' x' s' rs'=>o' μ' H' .non x' s' rfl
  |ex c h'=>exact λμ' H' u x' s' fl=>⟨c,h',μ',rfl,x',s',fl⟩
theorem d8{X:Cx}{F:Ay}{ps:Ax}{fd:bh}{x:Str}{p pos:Pos}{e:bq}{es:List bq}{ms:M Az}{j:Nat}(g:Good X G E k)(Fn:Bj X.prog X.w X.K X.mg X.base (cB X.prog X.w X.base) j f fd ps (cH G F))(hj:j<=k)(hg:Gl X x)(hm:X.mg x=some (.ref f))(hk:tu X.K (.ref f)=true)(hb:Binds X.K fd ps [])(ha:dP X G E (e::es) ms)(Eu:(x==Gw)=false:=by decide)(he:ar (e::es) X.env=(false,eval e X.env)::ar es X.env:=by rfl)(Co:(backTo pos (ar es X.env)).any (·.1)=false:=by rfl):
  aI X G E (.Call (.Name x p) (e::es) [] pos) (aB F ms):=λhK=>
 Gh (X1 Fn (g.room.mono hj) hg hm hk hb .nil g.pas (ha hK) Eu he Co) λσ H Q⟨μ,ρ,h,rs,s,o⟩=>kJ rs s o λμ1 ds1 h1 vs H1 x1 Bv s1 r1 o1=>by rw[tq];exact⟨μ1,h1,ds1,r1,s1,o1⟩
end
abbrev vL:List af:=[.type "ValueError",.type "Exception",.type "BaseException",.type "object"]
theorem d9{K:au}{mg:Str->Option af}{base:cy}(p:bj)(m:Mod K mg base):∃cO mb,PySem.W.TopRead p cO mg mb base:=by
 obtain⟨mb,hb,hbb⟩:=m.blt;obtain⟨o,es,ep,ho,hd,hk,hf⟩:=id m.glob;refine⟨es.toList.filterMap λe=>match e.key with
  |.str n _=>some n
  |_=>none,mb,m.glob,hb,m.nolimit,hbb,λx _ hx _ _ _=>?_⟩
 rw[<-hf x]
 cases q:nsFind es x with
 |none=>rfl
 |some v=>
  exfalso
  apply hx
  unfold nsFind findBy at q;obtain⟨e,he,_⟩:=Option.map_eq_some_iff.mp q;have h1:=Array.find?_some he;have h2:=Array.mem_of_find?_eq_some he;obtain⟨n,t,hn⟩:=hk e h2;rw[hn]at h1;have h3:n=x:=by simpa[Value.isStr]using h1
  exact jt.mpr ⟨e,by simpa using h2,by rw[hn,h3]⟩
section
variable{k:Nat}{x:Str}{C:ai}{np cpos pos:Pos}{e:bq}{es:List bq}{t:TA}{ms:M Az}{c:Nat}
theorem MW(g:Good X G E k)(hg:Gl X x)(hm:X.mg x=some (.ref C))(hns:sh X.K dz x=some (some (.ref C)))(hx:qv X.K C vL "ValueError.__new__"=true)(ha:PA X (e::es) t)(hd:(x==Gw)=false:=by decide)(he:ar (e::es) X.env=(false,eval e X.env)::ar es X.env:=by rfl)(Co:(backTo cpos (ar es X.env)).any (·.1)=false:=by rfl):
  PS X (.Raise (some (.Call (.Name x np) (e::es) [] cpos)) none pos) (λ_ σ H=>t σ H λvs H1=>vs.length<=cg/\∀e H',Cv H1 H'->(∃T a0,H' e=some (.ext (fL (.ref C) e T a0)))->E (.ref e) none H'):=by
 intro pins s σ H D I h;obtain⟨bm,N,nm,q,bs,hdct,sn,sub,ab,col,dd,k0,k1,k2,k3,k5,mN,hC,hN,hni,T⟩:=(let ⟨_,_,tr⟩:=d9 X.prog I.ok.mod;PySem.W.own_of_in I.ok.mod.kin tr hns hx).obj;refine wpAny_Raise_call_subU (C:=C) (nm:=nm) (q:=q) (N:=N) (bs:=bs) (bm:=bm) (hdct:=hdct) (sn:=sn) (sub:=sub) (ab:=ab) (col:=col) (dd:=dd) (k0:=k0) (k1:=k1) (k2:=k2) (k3:=k3) (k5:=k5)
  xf (by decide) xf (mN:=mN) (T.hasType (by decide)) (I.ok.hd g.calm) (by rw[he];show(false||(backTo cpos (ar es X.env)).any (·.1))=false;rw[Co];rfl) hni (DG I hg hm ⟨rfl,?_⟩ hd)
 have hh:=ha cpos pins s σ H _ I h;rw[he]at hh⊢;refine uh (bF hh λus s2⟨vs,H2,I2,r,hz,w⟩=>⟨rfl,by rw[<-r.length];exact hz,I2.bk _ _ hC,hN.keeps I2.bk,T.keeps I2.bk,λh' e' mx=>?_⟩);exact g.rais pins σ H2 s2 h' e' _ _ I2 mx λH' sm z=>w e' H' sm z
theorem MX{H:Hp}{e:ai}(hc:C=G.cl c)(z:∃T a0,H e=some (.ext (fL (.ref C) e T a0))):FlyE G H c (.ref e):=by obtain⟨T,a0,z⟩:=z;exact⟨e,_,rfl,z,λh⟨oe,vs,h1,h2,_⟩=>⟨oe,h1,by rw[h2,hc]⟩⟩
def vM(c:Nat)(ms:M Az ):MS:=λρ h=>(ms ρ h).thenS λds h1=>if ds.length<=1000 then .ex c h1 else .bad
theorem e8(g:Good X G E k)(hg:Gl X x)(hm:X.mg x=some (.ref C))(hns:sh X.K dz x=some (some (.ref C)))(hx:qv X.K C vL "ValueError.__new__"=true)(hc:C=G.cl c)(ha:dP X G E (e::es) ms)(hd:(x==Gw)=false:=by decide)(he:ar (e::es) X.env=(false,eval e X.env)::ar es X.env:=by rfl)(Co:(backTo cpos (ar es X.env)).any (·.1)=false:=by rfl):
  iD X G E (.Raise (some (.Call (.Name x np) (e::es) [] cpos)) none pos) (vM c ms):=λhK=>PS.imp (MW g hg hm hns hx (ha hK) hd he Co) λD σ H⟨μ,ρ,h,rs,s,o⟩=>
 ⟨μ,ρ,h,rs,s,(o.thenS (R:=RelDL G)).mono λvs H1⟨μ1,ds,h1,x1,s1,r1,o1⟩=>by
  split at o1
  ·rename_i hl;refine⟨by rw[r1.length];exact dh hl (by decide),λe' H' sm z=>?_⟩;exact o1 μ1 H' (.ref e') (F' sm) (s1.same sm) (MX hc z)
  ·exact o1.elim⟩
def E2(X:Cx)(p:bq)(cond:St->Prop):Prop:=∀(pins:List (ai×Obj))(s:ag)(σ:St)(H:Hp),Inv X pins σ H s->cond σ->
 wpAny (model X.prog X.w) X.A (eval p X.env) (λu s'=>∃y t,u=.str y t/\y.length<=1000/\Inv X pins σ H s') X.xe s
theorem MY{y:Str}{j:Nat}{p:Pos}(h:y.length<=1000):E2 X (.Constant (.str y) j p) (λ_=>True):=λpins s σ H I _=>bF (JX (X:=X) pins s σ H (λv H'=>v=.str y/\H'=H) I ⟨rfl,rfl⟩) λu s'⟨v,H',I',r,hv,hH⟩=>by subst hv;subst hH;obtain⟨t,rfl⟩:=r;exact⟨y,t,rfl,h,I'⟩
theorem MZ{a:Int}(h:iB a=true):a.natAbs.log2<1920/\(toString a:Str).length<=1000:=by
 have hn:a.natAbs<2^64:=by
  simp only[iB,cu,decide_eq_true_eq]at h
  lia
 have hlog:a.natAbs.log2<64:=by
  by_cases h0:a.natAbs=0
  ·rw[h0];decide
  ·exact(Nat.log2_lt h0).mpr hn
 refine⟨by lia,?_⟩;have e:=int_text_length_le (k:=64) (by decide) hlog;rw[PySem.ofString_length]
 lia
theorem M0{i:Nat}{y:Str}{p q:Pos}(hv:PE X (.Name y p) (JV i)):E2 X (.FormattedValue (.Name y p) (-1) none q) (λσ=>∃a,σ[i]?=some (some (.int a))/\iB a=true):=by intro pins s σ H I ⟨a,e,ha⟩;refine FormattedValue_plain (bF (hv pins s σ H (λv H'=>v=.int a/\H'=H) I ⟨_,e,rfl,rfl⟩) λu s1⟨v,H',I',r,e1,e2⟩=>?_);subst e1;subst e2;obtain⟨t,rfl⟩:=r;exact formatField_int_small (MZ ha).1 ⟨_,_,rfl,(MZ ha).2,I'.tok _⟩
inductive Dr(X:Cx):List bq->(St->Prop)->Prop
 |nil:Dr X [] (λ_=>True)
 |cons {p:bq}{ps:List bq}{a b:St->Prop}:E2 X p a->Dr X ps b->Dr X (p::ps) (λσ=>a σ/\b σ)
theorem e9{ps:List bq}{cond:St->Prop}(h:Dr X ps cond):∀(out:Str)(pins:List (ai×Obj))(s:ag)(σ:St)(H:Hp),Inv X pins σ H s->cond σ->out.length+1000*ps.length<=cg->
  wpAny (model X.prog X.w) X.A (joinParts out (evalEach ps X.env)) (λu s'=>∃y t,u=.str y t/\Inv X pins σ H s') X.xe s:=by
 induction h with
 |nil=>intro out pins s σ H I _ hl;exact joinParts_nil ⟨_,_,rfl,I.tok _⟩ (by simpa using hl)
 | @cons p ps a b hp hr ih=>intro out pins s σ H I ⟨ca,cb⟩ hl;rw[bu]at hl;have e1:evalEach (p::ps) X.env=eval p X.env::evalEach ps X.env:=rfl;rw[e1];refine joinParts_cons (bF (hp pins s σ H I ca) λu s1⟨y,t,eu,hy,I1⟩=>?_);subst eu;have hz:(out++y).length=out.length+y.length:=strLen_append ..;refine⟨by lia,ih (out++y) pins s1 σ H I1 cb (by lia)⟩
theorem h8{p1 p2:bq}{ps:List bq}{cond:St->Prop}(h:Dr X (p1::p2::ps) cond)(hl:1000*(ps.length+2)<=cg:=by decide):
  PE X (.JoinedStr (p1::p2::ps) pos) (λσ H Q=>cond σ/\∀y,Q (.str y) H):=by
 intro pins s σ H Q I ⟨c,q⟩;refine JoinedStr_many ?_;have e1:eval p1 X.env::eval p2 X.env::evalEach ps X.env=evalEach (p1::p2::ps) X.env:=rfl;rw[e1];refine bF (e9 h Str.empty pins s σ H I c (by have:Str.empty.length=0:=rfl;rw[this,bu,bu];lia)) λu s'⟨y,t,eu,I'⟩=>?_;exact⟨.str y,H,I',⟨t,eu⟩,q y⟩
def E3(c:Nat)(slots:Aw):MS:=λρ h=>if slots.all (λi=>match ρ[i]? with
 |some (some (.int a))=>iB a
 |_=>false)=true then .ex c h else .bad
theorem h9{p1 p2:bq}{ps:List bq}{cond:St->Prop}{slots:Aw}{fpos:Pos}(g:Good X G E k)(hg:Gl X x)(hm:X.mg x=some (.ref C))(hns:sh X.K dz x=some (some (.ref C)))(hx:qv X.K C vL "ValueError.__new__"=true)(hc:C=G.cl c)(h:Dr X (p1::p2::ps) cond)(hcond:∀σ,(∀i∈slots,∃a,σ[i]?=some (some (.int a))/\iB a=true)->cond σ)(hl:1000*(ps.length+2)<=cg:=by decide)(hd:(x==Gw)=false:=by decide)(he:ar [.JoinedStr (p1::p2::ps) fpos] X.env=[(false,eval (.JoinedStr (p1::p2::ps) fpos) X.env)]:=by rfl):
  iD X G E (.Raise (some (.Call (.Name x np) [.JoinedStr (p1::p2::ps) fpos] [] cpos)) none pos) (E3 c slots):=λhK=>PS.imp (MW g hg hm hns hx (kW (h8 h hl) lS he) hd he rfl) λD σ H⟨μ,ρ,hh,rs,s,o⟩=>by
 unfold E3 at o
 split at o
 ·rename_i ha;refine⟨hcond σ λi hi=>?_,λy=>⟨by show 1<=cg;decide,λe' H' sm z=>o μ H' (.ref e') (F' sm) (s.same sm) (MX hc z)⟩⟩;have:=fg.mp ha i hi
  cases q:ρ[i]? with
  |none=>rw[q]at this;cases this
  |some o1=>
   cases o1 with
   |none=>rw[q]at this;cases this
   |some d=>
    cases d with
    |int a=>rw[q]at this;obtain⟨v,e1,r1⟩:=rs.at_ i _ q;rw[Be]at r1;subst r1;exact⟨a,e1,this⟩
    |_=>rw[q]at this;cases this
 ·exact o.elim
end
open PySem.W
section
variable{prog:bj}{w:cn}{A:cq}{E:af->ag->Prop}{h:cy}{g:Array GenState}{d:Drawn}{t:Nat}{os:OsState}{a C:ai}{o:Obj}{K:Frag}
structure ExK(K:Frag)(C:ai):Prop where
 ga:findIn K (.ref C) "__getattribute__"=some (some (.builtin "BaseException.__getattribute__"))
 ng:findIn K (.ref C) "__getattr__"=some none
 cl:findIn K (.ref C) "__class__"=some (some (.builtin "object.__class__"))
 ob:mroIn K C (.type "object")=some true
 be:subIn K (.ref C) (.type "BaseException")=some true
 se:kitCls K (.ref C) (.ref C)=some true
 lk:∃oc od cd osl,K.lookup C=some ⟨oc,od,.cls cd,osl⟩
theorem kindGa:builtinKind "BaseException.__getattribute__"=some .slot/\splitId "BaseException.__getattribute__"=some ("BaseException","__getattribute__"):=by decide+kernel
theorem i0:(uy "BaseException.__getattribute__"==uy "object.__getattribute__")=false:=by decide+kernel
section
variable{R:xa->ag->Prop}{s:ag}
theorem i5{M:xo}{n:af}{Q:Unit->ag->Prop}(X:K.In s.heap)(I:InstAt s.heap a o C none)(k:ExK K C)(hq:Q () s):wpAny M A (checkBuiltinCall "BaseException.__getattribute__" ⟨[.ref a,n],[]⟩) Q E s:=by
 have one:Looks M s.heap (isInstance (.ref a) (.type "BaseException")) true:=I.type.andThen (looks_subIn X k.be);have qQ:=F.args_bexc_ga (.ref a) n;obtain⟨hh,g,d,t,os⟩:=s;unfold checkBuiltinCall;rw[kindGa.1,kindGa.2];refine ae (one.at ?_)
 repeat (first|assumption|wp_step)
theorem i6{n:Tok}(X:K.In s.heap)(I:InstAt s.heap a o C none)(k:ExK K C)(hq:R (.ok (.ret (.ref C))) s):codeAny (model prog w) A (.call (.builtin "BaseException.__getattribute__") ⟨[.ref a,.str "__class__" n],[]⟩) R s:=by
 refine qo F.excAttr_ValueError.ga.plain F.entry_bexc_ga (i5 X I k ?_);have own:=I.type (M:=model prog w);have entry:=looks_findIn (M:=model prog w) X k.cl;have of_get:=F.slot_gs_get.lookup;have of_set:=F.slot_gs_set.lookup;have kind:=F.typeOf_object_class;have kindIs:s.TypeIs (.builtin "object.__class__") "getset_descriptor":=kind;obtain⟨hh,g,d,t,os⟩:=s
 repeat (any_goals (first|assumption|with_reducible refine own.at ?_|with_reducible refine entry.at ?_|wp_step))
 exact class_get (s:=⟨hh,g,d,t,os⟩) X I k.ob (by repeat (any_goals (first|assumption|wp_step)))
end
theorem i7{Q:Option af->ag->Prop}(X:K.In h)(I:InstAt h a o C none)(k:ExK K C)(hq:Q (some (.ref C)) ⟨h,g,d,t+1,os⟩):
  wpAny (model prog w) A (getAttr? (.ref a) "__class__") Q E ⟨h,g,d,t,os⟩:=by
 have own:=I.type (M:=model prog w);have first_:=looks_findIn (M:=model prog w) X k.ga;have then_:=looks_findIn (M:=model prog w) X k.ng;have bound:=F.excAttr_ValueError.ga.bind (.ref a);have other:=i0;have apart:(onTheHeap (iq C)&&uy "BaseException.__getattribute__"==uy "object.__getattribute__")=false:=by rw[other];rfl
 unfold getAttr? getAttrBy?
 repeat (any_goals (first|assumption|with_reducible refine own.at ?_|with_reducible refine first_.at ?_|with_reducible refine then_.at ?_|wp_step))
 exact i6 X I k (by repeat (any_goals (first|assumption|wp_step)))
def i9(a C:ai)(h:cy):Prop:=∃o,InstAt h a o C none
theorem j3(k:ExK K C):KitX K (.ref a) (.ref C) (i9 a C) where
 ty:=λ_ _ _⟨_,I⟩=>I.type
 it:=λ_ _ X _=>(kit_cls X k.se).2.1
 ne:=λh tp dd its n sl X htp=>by
  cases z:(iq C==iq tp)with
  |false=>rfl
  |true=>
   obtain rfl:C=tp:=by simpa using z
   obtain⟨oc,od,cd,osl,lk⟩:=k.lk;have:=X _ _ lk;rw[htp]at this;simp at this
 ca:=λ{prog w A E Q s}X⟨o,I⟩hq=>by obtain⟨hh,g,d,t,os⟩:=s;exact i7 X I k hq
end
inductive Ty where
 |non|bl|int|str|tup|lst|dct|exc (c:Nat)
def mV:Dv->Hs->Option Ty
 |.non,_=>some .non
 |.bl _,_=>some .bl
 |.int _,_=>some .int
 |.str _,_=>some .str
 |.tup _,_=>some .tup
 |.ref i,h=>match getL h i with
  |some _=>some .lst
  |none=>none
 |.edc,_=>some .dct
 |.exc c,_=>some (.exc c)
 |.scr,_=>none
def qW(cl:Nat->ai):Ty->af
 |.non=>.type "NoneType"
 |.bl=>.type "bool"
 |.int=>.type "int"
 |.str=>.type "str"
 |.tup=>.type "tuple"
 |.lst=>.type "list"
 |.dct=>.type "dict"
 |.exc c=>.ref (cl c)
def iG(f:Ty->Option Bool)(d:Dv)(h:Hs):Rs Dv:=match mV d h with
 |some ty=>match f ty with
  |some b=>.ok (.bl b) h
  |none=>.bad
 |none=>.bad
section
variable{pins:List (ai×Obj)}{σ:St}{H:Hp}{s:ag}
theorem j4{μ:Nat->ai}{h:Hs}{d:Dv}{v:V}{u:af}{ty:Ty}(I:Inv X pins σ H s)(sm:Bt G μ h H)(r:Be G μ h.length H d v)(ru:RelV v u)(e:mV d h=some ty)(hex:∀c,ty=.exc c->ExK X.K (G.cl c)):
  ∃P,KitX X.K u (qW G.cl ty) P/\P s.heap/\u≠.builtin "__main__.__loader__#opaque":=by
 cases d with
 |non=>cases e;rw[Be]at r;subst r;cases ru;exact⟨_,kitx_none,trivial,λz=>nomatch z⟩
 |bl b=>cases e;rw[Be]at r;subst r;cases ru;exact⟨_,kitx_bool,trivial,λz=>nomatch z⟩
 |int i=>cases e;rw[Be]at r;subst r;obtain⟨t,rfl⟩:=ru;exact⟨_,kitx_int,trivial,λz=>nomatch z⟩
 |str i=>cases e;rw[Be]at r;subst r;obtain⟨t,rfl⟩:=ru;exact⟨_,kitx_str,trivial,λz=>nomatch z⟩
 |tup ds=>
  cases e;obtain⟨a,vs,rfl,ea,_⟩:=r;cases ru;obtain⟨_,_,_,o,h1,h2,_⟩:=(show Bk X.prog X.w H s.heap a (.tup vs) from I.hok a _ ea)
  exact⟨_,kitx_tuple,⟨o,h1,h2⟩,λz=>nomatch z⟩
 |ref i=>
  dsimp only[mV]at e
  cases g:getL h i with
  |none=>rw[g]at e;cases e
  |some xs=>
   rw[g]at e;cases e;obtain⟨_,rfl⟩:=r;cases ru;obtain⟨vs,ea,_⟩:=sm.ob i _ (dW g);obtain⟨_,_,n,_,h1⟩:=(show Bk X.prog X.w H s.heap (μ i) (.lst vs) from I.hok _ _ ea)
   exact⟨_,kitx_list,⟨_,h1,rfl⟩,λz=>nomatch z⟩
 |edc=>
  cases e;obtain⟨a,rfl,ea⟩:=r;cases ru;obtain⟨_,_,vs,_,p⟩:=(show Bk X.prog X.w H s.heap a (.dK []) from I.hok a _ ea)
  obtain⟨o,es,ep,h1,h2,_⟩:=p;exact⟨_,kitx_dict,⟨o,h1,h2.1⟩,λz=>nomatch z⟩
 |exc c=>
  cases e;obtain⟨a,o,uo,rfl,ea,hc,hdn,vs,hd⟩:=r;cases ru;obtain⟨h1,_⟩:=(show Bk X.prog X.w H s.heap a (.frz o uo) from I.hok a _ ea)
  refine⟨_,j3 (hex c rfl),⟨o,h1,hc,?_,?_⟩,λz=>nomatch z⟩
  ·unfold notCls;rw[hd]
  ·rw[hdn];trivial
 |scr=>cases e
end
section
variable{a b:bq}{ma:M Dv}{p pos:Pos}{f:Ty->Option Bool}
theorem j5:di "isinstance"=some (.builtin "isinstance"):=by decide+kernel
def M1(G:Cfg)(f:Ty->Option Bool)(c:V):Gx->Hp->VK->Prop:=λxs H Q=>∃μ h d v ty bb,xs=[v,c]/\Bt G μ h H/\Be G μ h.length H d v/\mV d h=some ty/\f ty=some bb/\Q (.bl bb) H
theorem j6{c:V}{u:af}(hc:(∃T,c=.ty T)∨∃C,c=.ref C)(rc:RelV c u)(hf:∀ty bb,f ty=some bb->kitOne X.K (qW G.cl ty) u=some bb)(hex:∀c bb,f (.exc c)=some bb->ExK X.K (G.cl c)):Bi X (.builtin "isinstance") (M1 G f c):=by
 intro pins s σ H xs us Q I rv ⟨μ,h,d,v,ty,bb,e1,sm,r,et,ef,q⟩;subst e1;obtain⟨u1,u2,rfl,r1,r2⟩:=yU rv;have e2:u2=u:=by rcases hc with⟨T,rfl⟩|⟨C,rfl⟩<;>(cases rc;cases r2;rfl)
 subst e2;obtain⟨P,Z,hP,hne⟩:=j4 I sm r r1 et (λc z=>by subst z;exact hex c bb ef);exact kia_one Z I.kIn hP (hf ty bb ef) hne λtk=>⟨.bl bb,H,I.tok _,rfl,q⟩
theorem zN{x:Str}{T:String}(hg:Gl X x)(hm:X.mg x=none)(hv:di x=some (.type T))(hn:x≠"__name__":=by decide)(hd:(x==Gw)=false:=by decide):PE X (.Name x pos) (tC (.ty T)):=λpins s σ H Q I h=>oH I hg hm hv ⟨.ty T,H,I,rfl,h⟩ hn hd
theorem zO{c:V}{u:af}(hg:Gl X "isinstance")(hm:X.mg "isinstance"=none)(ha:aI X G E a ma)(hb:PE X b (tC c))(hc:(∃T,c=.ty T)∨∃C,c=.ref C)(rc:RelV c u)(hf:∀ty bb,f ty=some bb->kitOne G.K (qW G.cl ty) u=some bb)(hex:∀c bb,f (.exc c)=some bb->ExK G.K (G.cl c))(he:ar [a,b] X.env=[(false,eval a X.env),(false,eval b X.env)]:=by rfl)(Eo:ar [b] X.env=[(false,eval b X.env)]:=by rfl):
  aI X G E (.Call (.Name "isinstance" p) [a,b] [] pos) (m1 (iG f) ma):=λhK=>
 Gh (uV (j6 (G:=G) (f:=f) hc rc (by rw[hK];exact hf) (by rw[hK];exact hex)) hg hm j5 (kW (ha hK) (kW hb lS Eo) (by rw[he,Eo])) (by decide) (by decide) (by rw[he,Eo]) (by rw[Eo];rfl))
  λσ H Q⟨μ,ρ,h,rs,s,o⟩=>gB rs s o λμ1 d h1 v H1 x1 Bv s1 r1 o1=>by
   show M1 G f c [v,c] H1 Q;unfold iG at o1
   cases q:mV d h1 with
   |none=>rw[q]at o1;exact o1.elim
   |some ty=>
    rw[q]at o1;dsimp only at o1
    cases q2:f ty with
    |none=>rw[q2]at o1;exact o1.elim
    |some bb=>rw[q2]at o1;exact⟨μ1,h1,d,v,ty,bb,rfl,s1,r1,q,q2,o1.val s1 rfl⟩
end
def mW:Dv->Option Bool
 |.bl b=>some b
 |_=>none
theorem E4{G:Cfg}{μ:Nat->ai}{n:Nat}{H:Hp}:∀{xs:Az}{vs:Gx}{bs:List Bool},RelDL G μ n H xs vs->bU mW xs=some bs->vs=bs.map V.bl
 |[],vs,bs,r,e=>by cases e;rw[RelDL]at r;exact r
 |x::xs,vs,bs,r,e=>by
  rw[RelDL]at r;obtain⟨v,rr,rfl,r1,r2⟩:=r;unfold bU at e
  cases x with
  |bl b=>
   dsimp only[mW]at e
   cases q:bU mW xs with
   |none=>rw[q]at e;cases e
   |some zs=>rw[q]at e;cases e;rw[Be]at r1;subst r1;rw[E4 r2 q];rfl
  |_=>cases e
section
variable{X:Cx}{pins:List (ai×Obj)}{σ:St}{H:Hp}{s:ag}
theorem j7(bs:List Bool):(ak bs.length).all (λi=>bs.getD i false)=bs.all id:=by
 rw[gq,fg,fg];constructor
 ·intro h b hb;obtain⟨i,hi,rfl⟩:=je.mp hb;simpa[pb,hi]using h i (bg.mpr hi)
 ·intro h i hi;have hi:=bg.mp hi;simpa[pb,hi]using h _ (gu hi)
theorem j8(bs:List Bool):(ak bs.length).any (λi=>bs.getD i false)=bs.any id:=by
 rw[gq,mz,mz];constructor
 ·rintro ⟨i,hi,h⟩
  have hi:=bg.mp hi;exact⟨bs[i],gu hi,by simpa[pb,hi]using h⟩
 ·rintro ⟨b,hb,h⟩
  obtain⟨i,hi,rfl⟩:=je.mp hb;exact⟨i,bg.mpr hi,by simpa[pb,hi]using h⟩
theorem j9{bs:List Bool}{its:List af}(rv:Bf (bs.map V.bl) its){i:Nat}{v:af}(e:its.toArray[i]?=some v):v=.bool (bs.getD i false):=by
 have hl:=rv.length;rw[ax]at hl;have e':its[i]?=some v:=by simpa using e
 have hi:i<its.length:=(bw.mp e').1;have hb:i<bs.length:=by lia
 obtain⟨u,e2,r⟩:=rv.get (i:=i) (x:=V.bl bs[i]) (by simp[hb]);rw[e']at e2;cases e2;have hg:bs.getD i false=bs[i]:=by simp[pb,hb]
 rw[hg];exact r
theorem M3{bs:List Bool}{its:List af}{A:cq}(rv:Bf (bs.map V.bl) its):TruthOf X.prog X.w A (λi v=>its.toArray[i]?=some v) (λi=>bs.getD i false):=by intro i v s Q E e q;rw[j9 rv e];exact jn q
theorem vN{o:Obj}{h':cy}{tk:Nat}(I:Inv X pins σ H s)(k:∀b u,b∉[s.heap.objs.size]->(s.heap.push o).get? b=some u->h'.get? b=some u):Inv X pins σ H {s with heap:=h',toks:=tk}:=by have I1:Inv X pins σ H {s with heap:=s.heap.push o}:=I.kept (t':=s.toks) λb u e=>ao _ e;obtain⟨f0,f1,f2,f3,f4,f5⟩:=I.fpOk (aq s.heap.objs.size) I.fresh;exact I1.turned (t':=tk) (λb u hb e=>k b u (by simpa using hb) e) f0 f1 f3 f4 f5
theorem k6(hc:X.calm=true):Bi X (.builtin "all") (λxs H Q=>∃(p:ai)(bs:List Bool),xs=[.ref p]/\H p=some (.lst (bs.map V.bl))/\Q (.bl (bs.all id)) H):=by
 intro pins s σ H xs us Q I rv ⟨p,bs,e,hp,q⟩;subst e;obtain⟨u,rfl,ru⟩:=gO rv;cases ru;obtain⟨its,rits,pl,hz⟩:=I.list (Gi hp);have hn:its.toArray.size=bs.length:=by have:=rits.length;simp at this⊢;lia
 have ne:p≠s.heap.objs.size:=bc (I.hok.lt hp);refine call_all_walk (jo pl.isList ⟨_,_,_,_,_,_,λi=>bs.getD i false,rfl,ow (A:=X.A.in1) (show X.A.in1.handled=none from I.ok.hd hc) _ p ne its.toArray,⟨⟨_,az _ rfl,rfl,rfl⟩,pl.isList.push _⟩,M3 rits,λh' tk k=>?_⟩);rw[hn,j7];exact⟨.bl _,H,(vN (tk:=tk) I k:Inv X pins σ H {s with heap:=h',toks:=tk}),rfl,q⟩
theorem k7(hc:X.calm=true):Bi X (.builtin "any") (λxs H Q=>∃(p:ai)(bs:List Bool),xs=[.ref p]/\H p=some (.lst (bs.map V.bl))/\Q (.bl (bs.any id)) H):=by
 intro pins s σ H xs us Q I rv ⟨p,bs,e,hp,q⟩;subst e;obtain⟨u,rfl,ru⟩:=gO rv;cases ru;obtain⟨its,rits,pl,hz⟩:=I.list (Gi hp);have hn:its.toArray.size=bs.length:=by have:=rits.length;simp at this⊢;lia
 have ne:p≠s.heap.objs.size:=bc (I.hok.lt hp);refine call_any_walk (jo pl.isList ⟨_,_,_,_,_,_,λi=>bs.getD i false,rfl,ow (A:=X.A.in1) (show X.A.in1.handled=none from I.ok.hd hc) _ p ne its.toArray,⟨⟨_,az _ rfl,rfl,rfl⟩,pl.isList.push _⟩,M3 rits,λh' tk k=>?_⟩);rw[hn,j8];exact⟨.bl _,H,(vN (tk:=tk) I k:Inv X pins σ H {s with heap:=h',toks:=tk}),rfl,q⟩
end
section
variable{e:bq}{ml:M Az}{x:Str}{p pos:Pos}{bid T:String}
def mL(f:Ay)(ml:M Az ):M Dv:=λρ h=>(ml ρ h).bind f
def E5(G:Cfg)(r:Gx->Hp->VK->Prop)(f:Ay):Prop:=∀(E:XK)(μ:Nat->ai)(h:Hs)(H:Hp)(xs:Az)(a:ai)(vs:Gx)(Q:VK),Bt G μ h H->H a=some (.lst vs)->RelDL G μ h.length H xs vs->Out G E μ h.length H (f xs h) (Be G) Q->r [.ref a] H Q
theorem M4{r:Gx->Hp->VK->Prop}{f:Ay}(hd:E5 G r f){σ:St}{H:Hp}{Q:VK}(t:iZ G E (mL f ml) σ H Q):yV r (KC (zK G E ml) J9) σ H Q:=by obtain⟨μ,ρ,h,rs,s,o⟩:=t;refine⟨μ,ρ,h,rs,s,(o.bind (R1:=RL G)).mono λv H1⟨μ1,xs,h1,x1,s1,⟨a,vs,ev,ea,_,r1⟩,o1⟩=>?_⟩;subst ev;exact hd E μ1 h1 H1 xs a vs Q s1 ea r1 o1
theorem M5{r:Gx->Hp->VK->Prop}{f:Ay}(hc:Bi X (.builtin bid) r)(hd:E5 G r f)(hg:Gl X x)(hm:X.mg x=none)(hv:di x=some (.builtin bid))(ha:pS X G E e ml)(hn:x≠"__name__":=by decide)(Eu:(x==Gw)=false:=by decide)(he:ar [e] X.env=[(false,eval e X.env)]:=by rfl):aI X G E (.Call (.Name x p) [e] [] pos) (mL f ml):=λhK=>
 Gh (uV hc hg hm hv (kW (ha hK) lS he) hn Eu he rfl) λ_ _ _ t=>M4 hd t
theorem k8{r:Gx->Hp->VK->Prop}{f:Ay}(hc:Bi X (.type T) r)(hd:E5 G r f)(hg:Gl X x)(hm:X.mg x=none)(hv:di x=some (.type T))(ha:pS X G E e ml)(hn:x≠"__name__":=by decide)(Eu:(x==Gw)=false:=by decide)(he:ar [e] X.env=[(false,eval e X.env)]:=by rfl):aI X G E (.Call (.Name x p) [e] [] pos) (mL f ml):=λhK=>
 Gh (sR hc hg hm hv (kW (ha hK) lS he) hn Eu he rfl) λ_ _ _ t=>M4 hd t
theorem k9:di "all"=some (.builtin "all"):=by decide+kernel
theorem l7:di "any"=some (.builtin "any"):=by decide+kernel
def kP(xs:Az)(h:Hs):Rs Dv:=match bU mW xs with
 |some bs=>.ok (.bl (bs.all id)) h
 |none=>.bad
def vO(xs:Az)(h:Hs):Rs Dv:=match bU mW xs with
 |some bs=>.ok (.bl (bs.any id)) h
 |none=>.bad
theorem vP(hc:X.calm=true)(hg:Gl X "all")(hm:X.mg "all"=none)(ha:pS X G E e ml)(he:ar [e] X.env=[(false,eval e X.env)]:=by rfl):aI X G E (.Call (.Name "all" p) [e] [] pos) (mL kP ml):=
 M5 (k6 hc) (λE μ h H xs a vs Q s ea r o=>by
  unfold kP at o
  cases q:bU mW xs with
  |none=>rw[q]at o;exact o.elim
  |some bs=>rw[q]at o;exact⟨a,bs,rfl,by rw[ea,E4 r q],o.val s rfl⟩) hg hm k9 ha (by decide) (by decide) he
theorem l8(hc:X.calm=true)(hg:Gl X "any")(hm:X.mg "any"=none)(ha:pS X G E e ml)(he:ar [e] X.env=[(false,eval e X.env)]:=by rfl):aI X G E (.Call (.Name "any" p) [e] [] pos) (mL vO ml):=
 M5 (k7 hc) (λE μ h H xs a vs Q s ea r o=>by
  unfold vO at o
  cases q:bU mW xs with
  |none=>rw[q]at o;exact o.elim
  |some bs=>rw[q]at o;exact⟨a,bs,rfl,by rw[ea,E4 r q],o.val s rfl⟩) hg hm l7 ha (by decide) (by decide) he
def oU(xs:Az)(h:Hs):Rs Dv:=.ok (.tup xs) h
theorem vQ(hg:Gl X "tuple")(hm:X.mg "tuple"=none)(ha:pS X G E e ml)(he:ar [e] X.env=[(false,eval e X.env)]:=by rfl):aI X G E (.Call (.Name "tuple" p) [e] [] pos) (mL oU ml):=k8 K5 (λE μ h H xs a vs Q s ea r o=>⟨a,vs,rfl,.inl ⟨Gi ea,λl hl=>o μ _ _ (F' (dQ hl)) (s.same (dQ hl)) ⟨l,vs,rfl,eR,Gb (F' (dQ hl)) _ _ r⟩⟩⟩) hg hm EO ha (by decide) (by decide) he
end
section
variable{o e i:bq}{mo me mi:M Dv}{ml:M Az}{pos apos cpos:Pos}
theorem l9{H:Hp}{a:ai}{vs:Gx}(e:H a=some (.lst vs)):yW X.K "list" (.ref a) H:=.inl ⟨rfl,vs,Gi e⟩
def oV(o d:Dv)(h:Hs):Rs Dv:=match o with
 |.ref j=>match getL h j with
  |some xs=>if xs.length<1000000 then .ok .non (h.set j (.lst (xs++[d])))else .bad
  |none=>.bad
 |_=>.bad
def lD(o:Dv)(h:Hs):Bool:=match o with
 |.ref j=>(getL h j).isSome
 |_=>false
def iU(mo me:M Dv):M Dv:=λρ h=>(mo ρ h).bind λx h1=>if lD x h1=true then(me ρ h1).bind λd h2=>oV x d h2 else .bad
theorem M6{μ:Nat->ai}{h:Hs}{H:Hp}{x:Dv}{v:V}(s:Bt G μ h H)(r:Be G μ h.length H x v)(e:lD x h=true):yW X.K "list" v H:=by
 cases x with
 |ref j=>obtain⟨xs,q⟩:=ni.mp (show(getL h j).isSome=true from e);obtain⟨vs,ea,_⟩:=s.ob j _ (dW q);obtain⟨_,rfl⟩:=r;exact l9 ea
 |_=>cases e
theorem vR{y:Str}{np:Pos}(ho:aI X G E (.Name y np) mo)(he:aI X G E e me)(hs:ar [e] X.env=[(false,eval e X.env)]:=by rfl)(hl:(apos.endLine==cpos.line)=true:=by rfl):aI X G E (.Call (.Attribute (.Name y np) "append" apos) [e] [] cpos) (iU mo me):=λhK=>
 Gh (K6 yd PySem.F.slot_list_append PySem.F.type_list_append YZ (ho hK) (kW (he hK) lS hs) rfl (by rw[hs];rfl) hl hs rfl) λσ H Q⟨μ,ρ,h,rs,s,oo⟩=>gB rs s oo λμ1 x h1 vx H1 x1 Bv s1 r1 o1=>by
  split at o1
  ·rename_i hl;refine⟨M6 s1 r1 hl,gB Bv s1 o1 λμ2 d h2 vd H2 x2 Ek s2 r2 o2=>?_⟩
   cases x with
   |ref j=>
    dsimp only[oV]at o2
    cases q:getL h2 j with
    |none=>rw[q]at o2;exact o2.elim
    |some xs=>
     rw[q]at o2;dsimp only at o2
     split at o2
     ·rename_i hz;obtain⟨vs,ea,ra⟩:=s2.ob j _ (dW q);obtain⟨_,rfl⟩:=Gk x2 _ _ r1;obtain⟨x3,s3⟩:=s2.write (dW q) (ra.append (Gg r2 Gj));exact⟨_,vs,vd,rfl,rfl,ea,by rw[ra.length];exact bo hz (by decide),o2 μ2 _ _ x3 s3 rfl⟩
     ·exact o2.elim
   |_=>exact o2.elim
  ·exact o1.elim
end
section
variable{e i:bq}{mo me mi:M Dv}{ml:M Az}{pos apos cpos np:Pos}{y:Str}
def zP(o i d:Dv)(h:Hs):Option Hs:=match o,i with
 |.ref j,.int k=>match getL h j with
  |some xs=>match eH xs.length k with
   |some n=>some (h.set j (.lst (xs.set n d)))
   |none=>none
  |none=>none
 |_,_=>none
def vS(mo mi me:M Dv):MS:=λρ h=>(me ρ h).thenS λd h1=>(mo ρ h1).thenS λo h2=>(mi ρ h2).thenS λi h3=>match zP o i d h3 with
 |some h4=>.nx ρ h4
 |none=>.bad
theorem M7{o:bq}{spos:Pos}(ho:aI X G E o mo)(hi:aI X G E i mi)(he:aI X G E e me)(ha:∀v,assign (.Subscript o i spos) X.env v=(do
   let ov <-holding [v] (eval o X.env)
   let iv <-holding [v,ov] (eval i X.env)
   standAt spos
   holding [v,ov,iv] (setItem ov iv v)
   release [v,ov,iv] []):=by intro _;rfl)(hs:swapsWithSole [.Subscript o i spos] e pos.line X.env=pure false:=by rfl)(hw:swappedStores [.Subscript o i spos] e X.env=pure none:=by rfl)(h1:(assignEach [.Subscript o i spos] X.env).map (·.2)=[assign (.Subscript o i spos) X.env]:=by rfl):iD X G E (.Assign [.Subscript o i spos] e pos) (vS mo mi me):=λhK=>
 PS.imp (J1 (he hK) (WJ (ho hK) (hi hK) YO ha) hs hw h1) λD σ H⟨μ,ρ,h,rs,s,oo⟩=>mS rs s oo λμ1 d h1 v H1 x1 Bv s1 r1 o1=>mS Bv s1 o1 λμ2 ob h2 vo H2 x2 Ek s2 r2 o2=>mS Ek s2 o2 λμ3 ix h3 vi H3 x3 rs3 s3 r3 o3=>by
  cases ob with
  |ref j=>
   cases ix with
   |int k=>
    dsimp only[zP]at o3
    cases q:getL h3 j with
    |none=>rw[q]at o3;exact o3.elim
    |some xs=>
     rw[q]at o3;dsimp only at o3
     cases q2:eH xs.length k with
     |none=>rw[q2]at o3;exact o3.elim
     |some n=>rw[q2]at o3;obtain⟨vs,ea,ra⟩:=s3.ob j _ (dW q);obtain⟨_,rfl⟩:=Gk x3 _ _ r2;rw[Be]at r3;subst r3;obtain⟨x4,s4⟩:=s3.write (dW q) (RelDL.set (Gk (x2.trans x3) _ _ r1) n ra);exact⟨_,vs,k,n,rfl,rfl,ea,by rw[ra.length];exact q2,o3 μ3 _ σ x4 s4 (rs3.mono x4)⟩
   |_=>exact o3.elim
  |_=>cases ix<;>exact o3.elim
end
section
variable{prog:bj}{w:cn}{A:cq}{E:af->ag->Prop}{s:ag}
theorem m6{it t:ai}{i:Nat}{items:Array af}{x:af}{Q:af->ag->Prop}(hit:s.heap.IsTupleIter it t i)(ht:s.heap.IsTuple t items)(hx:items[i]?=some x)(k:∀h',h'.IsTupleIter it t (i+1)->ja it s.heap h'->Q x {s with heap:=h'}):wpAny (model prog w) A (fo (.ref it)) Q E s:=by
 obtain⟨o,ho,hc,hd⟩:=id hit;obtain⟨ol,hol,hcl,nl,hdl⟩:=id ht;refine ae (ij (name:=nh "__next__") hit.typeIs F.slot_tuple_iterator_next (fz F.slot_tuple_iterator_next hit.typeIs F.entry_tuple_iterator_next ?_ (F.args_tuple_iterator_next_1 _)));have q0:∀{Q':af->ag->Prop}{E':af->ag->Prop}{B:cq},Q' (.ref t) s->wpAny (model prog w) B (field (.ref it) 0) Q' E' s:=λq=>gg ho hd (x:=.ref t) rfl q;have q1:∀{Q':af->ag->Prop}{E':af->ag->Prop}{B:cq},Q' (.int i 0) s->wpAny (model prog w) B (field (.ref it) 1) Q' E' s:=λq=>gg ho hd (x:=.int i 0) rfl q;refine ae (aj (ae (q0 ?_)));dsimp only;rw[if_neg (by simp)];refine ae (q1 (ae (jc hol hdl ?_)));rw[show((i:Int)).toNat=i from fh i];dsimp only;rw[hx];refine ae (zu ho hd (by simp) (aj ⟨x,rfl,aj (k _ ⟨_,kl _ ho (Ag (vn hd _)),?_,?_⟩ (kn ..))⟩))
 ·rw[Obj.cls_mapFields];exact hc
 ·rw[vn hd];simp[rawInt]
end
section
variable{prog:bj}{w:cn}{A:cq}{E:af->ag->Prop}{s:ag}
theorem m7{α:Type}{Q:α->ag->Prop}(hh:A.handled=none)(k:∀h' e,(∀b o,s.heap.get? b=some o->h'.get? b=some o)->(∃o,h'.get? e=some o/\o.cls=.type "StopIteration")->E (.ref e) {s with heap:=h'}):
  wpAny (model prog w) A (rn:Sem α) Q E s:=by
 have e0:firstArgMember (.type "StopIteration") []=pure kj:=by show(pure (if _ then kj else kj):Sem af)=_;rw[ite_self]
 unfold rn newExc newTuple;refine ae (ae (fj (ae (sy e0 (fj (wpAny_raiseNew_none hh (k _ _ (λb o q=>ao _ (ao _ q)) ⟨_,az _ rfl,rfl⟩)) (by size_fits)))) (by size_fits)))
theorem m8{it t:ai}{i:Nat}{items:Array af}{Q:af->ag->Prop}(hh:A.handled=none)(hit:s.heap.IsTupleIter it t i)(ht:s.heap.IsTuple t items)(hx:items[i]?=none)(k:∀h' e,Ah it s.heap h'->(∃o,h'.get? e=some o/\o.cls=.type "StopIteration")->E (.ref e) {s with heap:=h'}):wpAny (model prog w) A (fo (.ref it)) Q E s:=by
 obtain⟨o,ho,hc,hd⟩:=id hit;obtain⟨ol,hol,hcl,nl,hdl⟩:=id ht;refine ae (ij (name:=nh "__next__") hit.typeIs F.slot_tuple_iterator_next (fz F.slot_tuple_iterator_next hit.typeIs F.entry_tuple_iterator_next ?_ (F.args_tuple_iterator_next_1 _)));have q0:∀{Q':af->ag->Prop}{E':af->ag->Prop}{B:cq},Q' (.ref t) s->wpAny (model prog w) B (field (.ref it) 0) Q' E' s:=λq=>gg ho hd (x:=.ref t) rfl q;have q1:∀{Q':af->ag->Prop}{E':af->ag->Prop}{B:cq},Q' (.int i 0) s->wpAny (model prog w) B (field (.ref it) 1) Q' E' s:=λq=>gg ho hd (x:=.int i 0) rfl q;refine ae (aj (ae (q0 ?_)));dsimp only;rw[if_neg (by simp)];refine ae (q1 (ae (jc hol hdl ?_)));rw[show((i:Int)).toNat=i from fh i];dsimp only;rw[hx];refine ae (om (ae (zu ho hd (by simp) (m7 (show A.in1.handled=none from hh) λh' e kp st=>k h' e (λb u hb q=>kp b u ?_) st))));rw[ll _ _ (dk hb)];exact q
end
structure Draws(prog:bj)(w:cn)(it src:ai)(xs:List af)(st:Nat->cy->Prop):Prop where
 keep:∀i h h',st i h->(∀b o,b=it∨b=src->h.get? b=some o->h'.get? b=some o)->st i h'
 there:∀i h,st i h->∃o vs,h.get? it=some o/\o.data=.fields vs
 item:∀(A:cq)(i:Nat)(x:af)(s:ag)(Q:af->ag->Prop)(E:af->ag->Prop),xs[i]?=some x->st i s.heap->
  (∀h',st (i+1) h'->ja it s.heap h'->Q x {s with heap:=h'})->wpAny (model prog w) A (fo (.ref it)) Q E s
 done:∀(A:cq)(i:Nat)(s:ag)(Q:af->ag->Prop)(E:af->ag->Prop),A.handled=none->xs[i]?=none->st i s.heap->
  (∀h' e,Ah it s.heap h'->(∃o,h'.get? e=some o/\o.cls=.type "StopIteration")->E (.ref e) {s with heap:=h'})->wpAny (model prog w) A (fo (.ref it)) Q E s
structure Four(z TI TO i j u v:ai):Prop where
 a:z≠TO
 b:z≠i
 c:z≠j
 d:TO≠i
 e:TO≠j
 f:i≠j
 g:TI≠z
 h:TI≠TO
 k:TI≠i
 l:TI≠j
 u1:u≠z
 u2:u≠TO
 u3:u≠i
 u4:u≠j
 v1:v≠z
 v2:v≠TO
 v3:v≠i
 v4:v≠j
theorem kA{b x y c:ai}(h:b=x∨b=y)(p:x≠c)(q:y≠c):b≠c:=by
 rcases h with h|h
 ·rw[h];exact p
 ·rw[h];exact q
def zQ(z TO i j:ai)(h h':cy):Prop:=∀b o,b≠z->b≠TO->b≠i->b≠j->h.get? b=some o->h'.get? b=some o
section
variable{prog:bj}{w:cn}{A:cq}{E:af->ag->Prop}{s:ag}{z TI TO i j u v:ai}{xs ys:List af}{st su:Nat->cy->Prop}
theorem m9{n:Nat}{x y a b:af}{Q:af->ag->Prop}(F4:Four z TI TO i j u v)(P:Draws prog w i u xs st)(R:Draws prog w j v ys su)(hz:yx s.heap z TI TO .none)(hTI:pg s.heap TI (.ref i) (.ref j))(hTO:pg s.heap TO a b)(p:st n s.heap)(r:su n s.heap)(hx:xs[n]?=some x)(hy:ys[n]?=some y)(k:∀h' T,s.heap.objs.size<=T->yx h' z TI TO (rawInt T)->pg h' TI (.ref i) (.ref j)->pg h' TO x y->st (n+1) h'->su (n+1) h'->pg h' T x y->zQ z TO i j s.heap h'->Q (.ref T) {s with heap:=h'}):
  wpAny (model prog w) A (my.«zip.__next__» ⟨[.ref z],[]⟩) (λfin s'=>∃v,fin=.done (.ret v)/\Q v s') E s:=by
 refine ae (aj (ae (gg hz rfl (x:=.bool false) rfl (ae (gg hz rfl (x:=.ref TI) rfl (ae (jc hTI rfl ?_)))))));have fr:∀{Q':Bool->ag->Prop}{E':af->ag->Prop},Q' true s->wpAny (model prog w) A (qw (.ref z)) Q' E' s:=λq=>ae (gg hz rfl (x:=.none) rfl (aj q));refine ae (fr ?_);rw[if_pos rfl];refine ae (om (ae (gg hz rfl (x:=.ref TO) rfl (ae (jx hz (by simp) λg1 z1 b1=>?_)))));have z1':yx g1 z TI TO .ellipsis:=z1;refine ae ?_;show wpAny _ _ (forIn [(iq i,0),(iq j,1)] _ _) _ _ _;rw[qe];refine ae (ae (ub ?_));show wpAny _ _ (fo (.ref i) >>=_) _ _ _;refine ae (P.item A n x _ _ _ hx (P.keep n _ _ p λb o hb q=>b1.extBut _ _ (kA hb (dk F4.b) F4.u1) q) λg2 p2 b2=>aj ?_);have t2:pg g2 TO a b:=b2.extBut _ _ F4.d (b1.extBut _ _ (dk F4.a) hTO);refine ae (jc t2 rfl (ae (vp t2 λg3 t3 b3=>ae (qp (aj ?_)))));have t3':pg g3 TO x b:=t3;dsimp only;rw[qe];refine ae (ae (ub ?_));show wpAny _ _ (fo (.ref j) >>=_) _ _ _;have r3:su n g3:=R.keep n _ _ r λb o hb q=>b3.extBut _ _ (kA hb (dk F4.e) F4.v2) (b2.extBut _ _ (kA hb (dk F4.f) F4.v3) (b1.extBut _ _ (kA hb (dk F4.c) F4.v1) q));refine ae (R.item A n y _ _ _ hy r3 λg4 r4 b4=>aj ?_);have t4:pg g4 TO x b:=b4.extBut _ _ F4.e t3';refine ae (jc t4 rfl (ae (vp t4 λg5 t5 b5=>ae (qp (aj ?_)))));have t5':pg g5 TO x y:=t5;dsimp only;rw[List.forIn_nil];refine aj ?_;refine ae (jc t5' rfl (ae (wpAny_newTuple ?_)));have z5:yx g5 z TI TO .ellipsis:=b5.extBut _ _ F4.a (b4.extBut _ _ F4.c (b3.extBut _ _ F4.a (b2.extBut _ _ F4.b z1')));have sz:g5.objs.size=s.heap.objs.size:=by rw[b5.1,b4.1,b3.1,b2.1,b1.1]
 have all5:zQ z TO i j s.heap g5:=λc o c1 c2 c3 c4 q=>b5.extBut _ _ c2 (b4.extBut _ _ c4 (b3.extBut _ _ c2 (b2.extBut _ _ c3 (b1.extBut _ _ c1 q))));have p5:st (n+1) g5:=P.keep _ _ _ p2 λb o hb q=>b5.extBut _ _ (kA hb (dk F4.d) F4.u2) (b4.extBut _ _ (kA hb F4.f F4.u4) (b3.extBut _ _ (kA hb (dk F4.d) F4.u2) q));have r5:su (n+1) g5:=R.keep _ _ _ r4 λb o hb q=>b5.extBut _ _ (kA hb (dk F4.e) F4.v2) q;generalize hob:({cls:=.type "tuple",dict:=none,data:=.seq [x,y].toArray}:Obj)=ob;have zp:yx (g5.push ob) z TI TO .ellipsis:=ao _ z5;refine ae (ae (jx zp (by simp) λg7 z7 b7=>?_));have z7':yx g7 z TI TO (rawInt g5.objs.size):=z7;refine jx z7' (by simp) λg8 z8 b8=>aj ⟨_,rfl,?_⟩;have up:∀c o,c≠z->g5.get? c=some o->g8.get? c=some o:=λc o c1 q=>b8.extBut _ _ c1 (b7.extBut _ _ c1 (ao _ q));have lz:z<g5.objs.size:=ay z5;have T8:pg g8 g5.objs.size x y:=b8.extBut _ _ (jj lz) (b7.extBut _ _ (jj lz) (by rw[<-hob];exact az _ rfl));refine k g8 g5.objs.size (qm sz.symm) z8 (up _ _ F4.g (all5 _ _ F4.g F4.h F4.k F4.l hTI)) (up _ _ (dk F4.a) t5') (P.keep _ _ _ p5 λb o hb q=>up _ _ (kA hb (dk F4.b) F4.u1) q) (R.keep _ _ _ r5 λb o hb q=>up _ _ (kA hb (dk F4.c) F4.v1) q) T8 λc o c1 c2 c3 c4 q=>up _ _ c1 (all5 c o c1 c2 c3 c4 q)
end
section
variable{prog:bj}{w:cn}{A:cq}{E:af->ag->Prop}{s:ag}{z TI TO i j u v:ai}{xs ys:List af}{st su:Nat->cy->Prop}
theorem n9{n:Nat}{a b:af}{Q:PySem.Fin->ag->Prop}(hh:A.handled=none)(F4:Four z TI TO i j u v)(P:Draws prog w i u xs st)(R:Draws prog w j v ys su)(hz:yx s.heap z TI TO .none)(hTI:pg s.heap TI (.ref i) (.ref j))(hTO:pg s.heap TO a b)(p:st n s.heap)(r:su n s.heap)(hend:xs[n]?=none∨ys[n]?=none)(k:∀h' e,zQ z TO i j s.heap h'->(∃o,h'.get? e=some o/\o.cls=.type "StopIteration")->E (.ref e) {s with heap:=h'}):
  wpAny (model prog w) A (my.«zip.__next__» ⟨[.ref z],[]⟩) Q E s:=by
 refine ae (aj (ae (gg hz rfl (x:=.bool false) rfl (ae (gg hz rfl (x:=.ref TI) rfl (ae (jc hTI rfl ?_)))))));have fr:∀{Q':Bool->ag->Prop}{E':af->ag->Prop},Q' true s->wpAny (model prog w) A (qw (.ref z)) Q' E' s:=λq=>ae (gg hz rfl (x:=.none) rfl (aj q));refine ae (fr ?_);rw[if_pos rfl];refine ae (om (ae (gg hz rfl (x:=.ref TO) rfl (ae (jx hz (by simp) λg1 z1 b1=>?_)))));have z1':yx g1 z TI TO .ellipsis:=z1;have p1:st n g1:=P.keep n _ _ p λb o hb q=>b1.extBut _ _ (kA hb (dk F4.b) F4.u1) q;have fin:∀(g:cy)(e:ai),yx g z TI TO .ellipsis->zQ z TO i j s.heap g->(∃o,g.get? e=some o/\o.cls=.type "StopIteration")->
   wpAny (model prog w) A (setField (.ref z) 0 .none) (λ_ s'=>E (.ref e) s') E {s with heap:=g}:=λg e zz bt⟨o,he,hc⟩=>
  jx zz (by simp) λg' _ b'=>k g' e (λc u c1 c2 c3 c4 q=>b'.extBut _ _ c1 (bt c u c1 c2 c3 c4 q)) ⟨o,b'.extBut _ _ (λq=>by subst q;rw[zz]at he;cases he;simp at hc) he,hc⟩
 refine ae ?_;show wpAny _ _ (forIn [(iq i,0),(iq j,1)] _ _) _ _ _;rw[qe];refine ae (ae (ub ?_));show wpAny _ _ (fo (.ref i) >>=_) _ _ _
 cases hx:xs[n]? with
 |none=>exact ae (P.done A n _ _ _ hh hx p1 λg2 e b2 he=>fin g2 e (b2 _ _ F4.b z1') (λc u c1 _ c3 _ q=>b2 _ _ c3 (b1.extBut _ _ c1 q)) he)
 |some x=>
  have hy:ys[n]?=none:=by
   rcases hend with q|q
   ·rw[hx]at q;cases q
   ·exact q
  refine ae (P.item A n x _ _ _ hx p1 λg2 p2 b2=>aj ?_);have t2:pg g2 TO a b:=b2.extBut _ _ F4.d (b1.extBut _ _ (dk F4.a) hTO);refine ae (jc t2 rfl (ae (vp t2 λg3 t3 b3=>ae (qp (aj ?_)))));dsimp only;rw[qe];refine ae (ae (ub ?_));show wpAny _ _ (fo (.ref j) >>=_) _ _ _;have r3:su n g3:=R.keep n _ _ r λb o hb q=>b3.extBut _ _ (kA hb (dk F4.e) F4.v2) (b2.extBut _ _ (kA hb (dk F4.f) F4.v3) (b1.extBut _ _ (kA hb (dk F4.c) F4.v1) q));exact ae (R.done A n _ _ _ hh hy r3 λg4 e b4 he=>fin g4 e (b4 _ _ F4.c (b3.extBut _ _ F4.a (b2.extBut _ _ F4.b z1'))) (λc u c1 c2 c3 c4 q=>b4 _ _ c4 (b3.extBut _ _ c2 (b2.extBut _ _ c3 (b1.extBut _ _ c1 q)))) he)
theorem zR{it t:ai}{items:Array af}(hne:t≠it):Draws prog w it t items.toList (λi h=>h.IsTupleIter it t i/\h.IsTuple t items) where
 keep:=λi h h'⟨⟨o,e,r⟩,⟨o2,e2,r2⟩⟩k=>⟨⟨o,k _ _ (.inl rfl) e,r⟩,⟨o2,k _ _ (.inr rfl) e2,r2⟩⟩
 there:=λi h⟨⟨o,e,_,d⟩,_⟩=>⟨o,_,e,d⟩
 item:=λA i x s Q E hx⟨a,b⟩k=>m6 a b (by simpa using hx) λh' a' sb=>k h' ⟨a',b.extBut sb.extBut hne⟩ sb
 done:=λA i s Q E hh hx⟨a,b⟩k=>m8 hh a b (by simpa using hx) k
end
def E6(K:au)(t u:ai):It:=
 ⟨λi H=>∃vs ws v w,Bu K H t vs/\Bu K H u ws/\vs[i]?=some v/\ws[i]?=some w,
  λi H x H'=>∃p v w,x=.ref p/\H p=none/\H'=bI H p (.tup [v,w])/\(∀vs,Bu K H t vs->vs[i]?=some v)/\∀ws,Bu K H u ws->ws[i]?=some w,
  λi H=>∃vs ws,Bu K H t vs/\Bu K H u ws/\(vs.length<=i∨ws.length<=i)⟩
structure ZipAt(z TI TO i j t u:ai)(n:Nat)(h:cy):Prop where
 zp:yx h z TI TO .none
 ti:pg h TI (.ref i) (.ref j)
 to:∃a b,pg h TO a b
 i1:h.IsTupleIter i t n
 i2:h.IsTupleIter j u n
section
variable{X:Cx}{pins:List (ai×Obj)}{σ:St}{H:Hp}{s:ag}
theorem Inv.turns{h':cy}{ch:List ai}{T:ai}{vs:Gx}{its:List af}(I:Inv X pins σ H s)(Fe:∀b∈ch,eB X pins H b)(k:∀b o,b∉ch->s.heap.get? b=some o->h'.get? b=some o)(there:∀b∈ch,∃o,h'.get? b=some o)(hT:s.heap.objs.size<=T)(hv:Bf vs its)(hl:vs.length<=cg)(tp:Cb h' T its.toArray):Inv X pins σ (bI H T (.tup vs)) {s with heap:=h'}:=by
 have nT:H T=none:=I.hok.fresh hT;have nch:∀b o,H b=some o->b∉ch:=λb o q z=>by rw[(Fe b z).1]at q;cases q
 have un:Un (fR X.stack) ch H (bI H T (.tup vs)) s.heap h':=
  ⟨λb o q _ _ hb=>k b o hb q,λb o q _ _ hb=>⟨o.slots,k b o hb q⟩,λb o q n _=>by rw[cU (bc (bo (ay q) hT))];exact n,
   λb o q hb=>⟨o,k b o hb q⟩,λb xs q=>dQ nT b _ q,λb o u q=>dQ nT b _ q,λb ps q=>⟨#[],by rw[dQ nT b _ q];simp⟩⟩
 have ok:Cq X.prog X.w (bI H T (.tup vs)) h':=λb o q=>by
  by_cases hb:b=T
  ·subst hb;rw[eR]at q;cases q;exact⟨hl,its,hv,tp⟩
  ·rw[cU hb]at q;refine(I.hok b o q).stay (λc v hc z=>k c v ?_ z) (λc z=>dQ nT c _ z) λc xs z=>dQ nT c _ z
   rcases hc with rfl|hc
   ·exact nch c o q
   ·exact nch c _ hc
 exact I.call (g':=s.gens) (d':=s.drawn) (t':=s.toks) un ok I.bare λb hb=>let ⟨_,f1,_,f3,f4,f5⟩:=Fe b hb;⟨f3,f1,f4,f5⟩
theorem Inv.turns0{h':cy}{ch:List ai}(I:Inv X pins σ H s)(Fe:∀b∈ch,eB X pins H b)(k:∀b o,b∉ch->s.heap.get? b=some o->h'.get? b=some o):Inv X pins σ H {s with heap:=h'}:=by
 have nch:∀b o,H b=some o->b∉ch:=λb o q z=>by rw[(Fe b z).1]at q;cases q
 refine I.call (g':=s.gens) (d':=s.drawn) (t':=s.toks) (ch:=ch) ⟨λb o q _ _ hb=>k b o hb q,λb o q _ _ hb=>⟨o.slots,k b o hb q⟩,λ_ _ _ n _=>n,λb o q hb=>⟨o,k b o hb q⟩,λ_ _ q=>q,λ_ _ _ q=>q,λb ps q=>⟨#[],by rw[q];simp⟩⟩ (λb o q=>?_) I.bare λb hb=>let ⟨_,f1,_,f3,f4,f5⟩:=Fe b hb;⟨f3,f1,f4,f5⟩;refine(I.hok b o q).stay (λc v hc z=>k c v ?_ z) (λ_ z=>z) λ_ _ z=>z
 rcases hc with rfl|hc
 ·exact nch c o q
 ·exact nch c _ hc
end
theorem o6{P:bj}{w:cn}{K:au}{elts:List bq}{kk:Nat}{tp:Pos}{z TI TO i j t u:ai}(F4:Four z TI TO i j t u)(hti:t≠i)(huj:u≠j):
  Turn P w K (.Tuple elts kk tp) (E6 K t u) [z,TI,TO,i,j] z (ZipAt z TI TO i j t u) where
 mem:=by simp
 obj:=λn h st b hb=>by
  obtain⟨zp,ti,⟨a,b',to⟩,⟨o1,e1,_,d1⟩,⟨o2,e2,_,d2⟩⟩:=st;simp at hb
  rcases hb with rfl|rfl|rfl|rfl|rfl
  ·exact⟨_,zp,λv q=>by cases q⟩
  ·exact⟨_,ti,λv q=>by cases q⟩
  ·exact⟨_,to,λv q=>by cases q⟩
  ·exact⟨_,e1,λv q=>by rw[d1]at q;cases q⟩
  ·exact⟨_,e2,λv q=>by rw[d2]at q;cases q⟩
 keep:=λn h h' st k=>by obtain⟨zp,ti,⟨a,b',to⟩,⟨o1,e1,r1⟩,⟨o2,e2,r2⟩⟩:=st;exact⟨k _ (by simp) _ zp,k _ (by simp) _ ti,⟨a,b',k _ (by simp) _ to⟩,⟨o1,k _ (by simp) _ e1,r1⟩,⟨o2,k _ (by simp) _ e2,r2⟩⟩
 item:=by
  intro X hP hw hK hc n pins s σ H E I hf st hg;subst hP hw hK;obtain⟨vs,ws,v,w',hq,hr,hv,hw'⟩:=hg;obtain⟨its,rv,p1,z1⟩:=I.tuple hq;obtain⟨jts,rw',p2,z2⟩:=I.tuple hr;obtain⟨x,hx,rx⟩:=rv.get hv;obtain⟨y,hy,ry⟩:=rw'.get hw';obtain⟨zp,ti,⟨a,b,to⟩,i1,i2⟩:=st;have hT:s.TypeIs (.ref z) "zip":=⟨_,zp,rfl⟩;unfold pyNext;refine ae (wk (ij (name:=nh "__next__") hT F.slot_zip_next (fz F.slot_zip_next hT F.entry_zip_next
   (m9 F4 (zR (items:=its.toArray) hti) (zR (items:=jts.toArray) huj) zp ti to ⟨i1,p1⟩ ⟨i2,p2⟩ (by simpa using hx) (by simpa using hy) λh' T Eh a1 a2 a3 a4 a5 a6 bt=>aj ⟨_,rfl,?_⟩) (F.args_zip_next_1 _))))
  refine wpAny_letOwnedTupleGo_zip a1 λh2 z2' sb=>?_;have kp:∀b o,b∉[z,TI,TO,i,j]->s.heap.get? b=some o->h2.get? b=some o:=λb o hb q=>by simp at hb;obtain⟨n1,n2,n3,n4,n5⟩:=hb;exact sb.extBut _ _ n1 (bt b o n1 n3 n4 n5 q)
  have Tz:T≠z:=jj (bo (ay zp) Eh);have T2:pg h2 T x y:=sb.extBut _ _ Tz a6;have th:∀b∈[z,TI,TO,i,j],∃o,h2.get? b=some o:=λb hb=>by
   obtain⟨⟨o1,e1,_⟩,_⟩:=a4;obtain⟨⟨o2,e2,_⟩,_⟩:=a5;simp at hb
   rcases hb with rfl|rfl|rfl|rfl|rfl
   ·exact⟨_,z2'⟩
   ·exact⟨_,sb.extBut _ _ F4.g a2⟩
   ·exact⟨_,sb.extBut _ _ (dk F4.a) a3⟩
   ·exact⟨_,sb.extBut _ _ (dk F4.b) e1⟩
   ·exact⟨_,sb.extBut _ _ (dk F4.c) e2⟩
  have I2:=Inv.turns (T:=T) (vs:=[v,w']) (its:=[x,y]) I hf kp th Eh (.cons rx (.cons ry .nil)) (by show 2<=cg;decide) ⟨_,T2,rfl,rfl,_,rfl⟩;have nT:H T=none:=I.hok.fresh Eh;refine⟨.ref T,_,I2,rfl,⟨T,v,w',rfl,nT,rfl,λCt h'=>by rw[I.tuple_inj h' hq];exact hv,λws' h'=>by rw[I.tuple_inj h' hr];exact hw'⟩,?_,λb hb=>?_⟩
  ·exact⟨z2',sb.extBut _ _ F4.g a2,⟨_,_,sb.extBut _ _ (dk F4.a) a3⟩,a4.1.extBut sb.extBut (dk F4.b),a5.1.extBut sb.extBut (dk F4.c)⟩
  ·obtain⟨o,q,_⟩:∃o,s.heap.get? b=some o/\True:=by
    obtain⟨o1,e1,_⟩:=i1;obtain⟨o2,e2,_⟩:=i2;simp at hb
    rcases hb with rfl|rfl|rfl|rfl|rfl
    ·exact⟨_,zp,trivial⟩
    ·exact⟨_,ti,trivial⟩
    ·exact⟨_,to,trivial⟩
    ·exact⟨_,e1,trivial⟩
    ·exact⟨_,e2,trivial⟩
   rw[cU (bc (bo (ay q) Eh))];exact(hf b hb).1
 done:=by
  intro X hP hw hK hc n pins s σ H E I hf st hg;subst hP hw hK;obtain⟨vs,ws,hq,hr,hend⟩:=hg;obtain⟨its,rv,p1,z1⟩:=I.tuple hq;obtain⟨jts,rw',p2,z2⟩:=I.tuple hr;have l1:=rv.length;have l2:=rw'.length;obtain⟨zp,ti,⟨a,b,to⟩,i1,i2⟩:=st;have hT:s.TypeIs (.ref z) "zip":=⟨_,zp,rfl⟩;unfold pyNext;refine ae (wk (ij (name:=nh "__next__") hT F.slot_zip_next (fz F.slot_zip_next hT F.entry_zip_next
   (n9 (show X.A.in1.handled=none from I.ok.hd hc) F4 (zR (items:=its.toArray) hti) (zR (items:=jts.toArray) huj) zp ti to ⟨i1,p1⟩ ⟨i2,p2⟩ (by
    rcases hend with q|q
    ·exact .inl (by simp;lia)
    ·exact .inr (by simp;lia)) λh' e bt⟨o,he,hcl⟩=>ae (yp (T:="StopIteration") (b:=true) ⟨o,he,hcl⟩ isSubtype_stop (aj ⟨rfl,?_⟩))) (F.args_zip_next_1 _))))
  refine Inv.turns0 I hf λb o hb q=>?_;simp at hb;exact bt b o hb.1 hb.2.2.1 hb.2.2.2.1 hb.2.2.2.2 q
 self:=λ_ _ _ _ _ st h=>wpAny_pyIter_zip st.zp h
def M8(t u:ai)(h:cy)(z:ai)(h':cy):Prop:=∃TI TO i j,ZipAt z TI TO i j t u 0 h'/\Four z TI TO i j t u/\(∀b∈[z,TI,TO,i,j],h.objs.size<=b)/\∀b o,h.get? b=some o->h'.get? b=some o
theorem vT{h h':cy}{o:Obj}(e:h'=h.push o)(nf:o.isFreed=false):h'.get? h.objs.size=some o:=by rw[e];exact az _ nf
theorem o7(n t u:Nat)(lt:t<n)(lu:u<n):Four (n+4) (n+2) (n+3) n (n+1) t u:=by
 have ne:∀{a b:Nat},(a<b∨b<a)->a≠b:=λh=>by lia
 exact⟨ne (by lia),ne (by lia),ne (by lia),ne (by lia),ne (by lia),ne (by lia),ne (by lia),ne (by lia),ne (by lia),ne (by lia),ne (by lia),ne (by lia),ne (by lia),ne (by lia),ne (by lia),ne (by lia),ne (by lia),ne (by lia)⟩
theorem o8{t u:ai}{hp h1 h2 h3 h4 h5:cy}{n:Nat}(hn:n=hp.objs.size)(lt:t<n)(lu:u<n)(e1:h1=hp.push {cls:=.type "tuple_iterator",data:=.fields #[.ref t,.int 0 0]})(e2:h2=h1.push {cls:=.type "tuple_iterator",data:=.fields #[.ref u,.int 0 0]})(e3:h3=h2.push {cls:=.type "tuple",data:=.seq #[.ref n,.ref (n+1)]})(e4:h4=h3.push {cls:=.type "tuple",data:=.seq #[.none,.none]})(e5:h5=h4.push {cls:=.type "zip",data:=.fields #[.none,.bool false,.bool false,.ref (n+2),.ref (n+3)]}):M8 t u hp (n+4) h5:=by
 have z1:h1.objs.size=n+1:=by rw[e1,ed,hn]
 have z2:h2.objs.size=n+2:=by rw[e2,ed,z1]
 have z3:h3.objs.size=n+3:=by rw[e3,ed,z2]
 have z4:h4.objs.size=n+4:=by rw[e4,ed,z3]
 have up:∀(h:cy)(o:Obj)(b:ai)(q:Obj),h.get? b=some q->(h.push o).get? b=some q:=λh o b q e=>ao _ e;have g1:=vT e1 rfl;have g2:=vT e2 rfl;have g3:=vT e3 rfl;have g4:=vT e4 rfl;have g5:=vT e5 rfl;rw[<-hn]at g1;rw[z1]at g2;rw[z2]at g3;rw[z3]at g4;rw[z4]at g5;have u2:∀b q,h2.get? b=some q->h5.get? b=some q:=λb q e=>by rw[e5,e4,e3];exact up _ _ _ _ (up _ _ _ _ (up _ _ _ _ e))
 have u1:∀b q,h1.get? b=some q->h5.get? b=some q:=λb q e=>u2 b q (by rw[e2];exact up _ _ _ _ e);have u3:∀b q,h3.get? b=some q->h5.get? b=some q:=λb q e=>by rw[e5,e4];exact up _ _ _ _ (up _ _ _ _ e)
 have u4:∀b q,h4.get? b=some q->h5.get? b=some q:=λb q e=>by rw[e5];exact up _ _ _ _ e
 refine⟨n+2,n+3,n,n+1,⟨g5,u3 _ _ g3,⟨_,_,u4 _ _ g4⟩,⟨_,u1 _ _ g1,rfl,rfl⟩,⟨_,u2 _ _ g2,rfl,rfl⟩⟩,?_,?_,λb q e=>u1 b q (by rw[e1];exact up _ _ _ _ e)⟩
 ·exact o7 n t u lt lu
 ·intro b hb;rw[<-hn];simp at hb
  rcases hb with rfl|rfl|rfl|rfl|rfl
  ·exact sr _ _
  ·exact sr _ _
  ·exact sr _ _
  ·exact aq _
  ·exact sr _ _
theorem o9{t u:ai}(xs ys:Array af):Meets (my.«zip.__new__» ⟨[.type "zip",.ref t,.ref u],[]⟩) (λ_ R s=>s.heap.IsTuple t xs/\s.heap.IsTuple u ys/\∀h' z,M8 t u s.heap z h'->R (.ok (.ret (.ref z))) {s with heap:=h'}):=
 .of_wp λprog w A R s h=>by
  obtain⟨ht,hu,k⟩:=h;obtain⟨hp,g,d,tk,os⟩:=s;have sub:=sub_zip;have Fp:(⟨hp,g,d,tk,os⟩:ag).heap.IsTuple t xs:=ht;have Bs:(⟨hp.push {cls:=.type "tuple_iterator",data:=.fields #[.ref t,.int 0 0]},g,d,tk,os⟩:ag).heap.IsTuple u ys:=hu.push _
  wp_walk using rz Fp,rz Bs
  have lt:t<hp.objs.size:=by obtain⟨o,e,_⟩:=ht;exact ay e
  have lu:u<hp.objs.size:=by obtain⟨o,e,_⟩:=hu;exact ay e
  simp only[ed];refine⟨_,rfl,k _ _ (o8 rfl lt lu rfl rfl rfl rfl ?_)⟩;simp only[ed];rfl
section
variable{a b:bq}{elts:List bq}{kk:Nat}{tp p pos:Pos}{ta:TA}{ms:M Az}
def p0(K:au)(ta:TA):TI:=λσ H R=>ta σ H λvs H1=>∃t u xs ys,vs=[.ref t,.ref u]/\Bu K H1 t xs/\Bu K H1 u ys/\R (E6 K t u) H1
theorem p7:di "zip"=some (.type "zip"):=by decide+kernel
theorem p8(hg:Gl X "zip")(hm:X.mg "zip"=none)(ha:PA X [a,b] ta)(hs:ar [a,b] X.env=[(false,eval a X.env),(false,eval b X.env)]:=by rfl)(Fb:ar [b] X.env=[(false,eval b X.env)]:=by rfl):
  PI X (.Tuple elts kk tp) (.Call (.Name "zip" p) [a,b] [] pos) (p0 X.K ta):=by
 intro pins s σ H R I h;refine Call_ (oH I hg hm p7 (iu (bF (ha pos pins s σ H _ I h) λus s1⟨vs,H1,I1,r1,q1⟩=>?_) (by rw[hs,Fb]) (by rw[Fb];rfl)));obtain⟨t,u,xs,ys,e,hq,hr,q⟩:=q1;subst e;obtain⟨u1,u2,rfl,e1,e2⟩:=yU r1;cases e1;cases e2;obtain⟨its,rv,p1,_⟩:=I1.tuple hq;obtain⟨jts,rw',p2,_⟩:=I1.tuple hr;refine callType_new F.called_zip (by decide) (F.typeCall_zip_2 _ _) (F.newCall_zip_2 _ _) (λobj=>F.args_object_init_3 obj _ _) F.entry_zip_new (o9 its.toArray jts.toArray) ⟨p1,p2,λh' z nz=>?_⟩;obtain⟨TI,TO,i,j,za,f4,fresh,kp⟩:=nz;refine⟨⟨_,za.zp,rfl⟩,?_⟩;have I2:Inv X pins σ H1 {s1 with heap:=h'}:=I1.kept (t':=s1.toks) kp;refine wpAny_pyIter_zip za.zp ⟨z,[z,TI,TO,i,j],_,_,H1,rfl,I2,o6 f4 f4.u3 f4.v4,za,λb hb=>I1.fpOk (fresh b hb) (I1.hok.fresh (fresh b hb)),q⟩
def tG(xs ys:Az):Src:=eC ((xs.zip ys).map λq=>.tup [q.1,q.2])
def tH:Az->Hs->Rs Src
 |[.tup xs,.tup ys],h=>.ok (tG xs ys) h
 |_,_=>.bad
theorem Df.zip{μ:Nat->ai}{n:Nat}{H:Hp}{t u:ai}{vs ws:Gx}{xs ys:Az}{K:au}(e:H t=some (.tup vs))(e':H u=some (.tup ws))(r:RelDL G μ n H xs vs)(r':RelDL G μ n H ys ws):Df G μ n H (tG xs ys) (E6 K t u):=by
 intro k μ2 h2 H2 x2 s2;have f:=x2.im t (.tup vs) trivial e;have f':=x2.im u (.tup ws) trivial e';have g:=Gb x2 _ _ r;have g':=Gb x2 _ _ r';have hl:(tG xs ys).n=min xs.length ys.length:=by simp[tG,eC]
 constructor
 ·intro hk d hd;have Ft:((xs.zip ys).map λq=>Gu [q.1,q.2])[k]?=some d:=hd;rw[fw]at Ft
  cases q:(xs.zip ys)[k]? with
  |none=>rw[q]at Ft;cases Ft
  |some xy=>
   rw[q]at Ft;cases Ft;obtain⟨qx,qy⟩:=yq.mp q;obtain⟨v,ev,rv⟩:=g.get qx;obtain⟨w',ew,rw'⟩:=g'.get qy;refine⟨⟨vs,ws,v,w',Gf f,Gf f',ev,ew⟩,λx H' hy=>?_⟩;obtain⟨pp,v1,w1,rfl,np,rfl,a1,a2⟩:=hy;have b1:=a1 vs (Gf f);have b2:=a2 ws (Gf f');rw[ev]at b1;rw[ew]at b2
   cases b1;cases b2
   have sm:Cv H2 (bI H2 pp (.tup [v,w'])):=dQ np;exact⟨sm,pp,_,rfl,eR,Gg (Gk (F' sm) _ _ rv) (Gg (Gk (F' sm) _ _ rw') Gj)⟩
 ·intro hk _;refine⟨vs,ws,Gf f,Gf f',?_⟩;rw[g.length,g'.length,hk,hl];lia
theorem p9(hg:Gl X "zip")(hm:X.mg "zip"=none)(ha:dP X G E [a,b] ms)(hs:ar [a,b] X.env=[(false,eval a X.env),(false,eval b X.env)]:=by rfl)(Fb:ar [b] X.env=[(false,eval b X.env)]:=by rfl):
  hG X G E (.Tuple elts kk tp) (.Call (.Name "zip" p) [a,b] [] pos) (aM tH ms):=λhK=>
 PI.imp (p8 hg hm (ha hK) hs Fb) λσ H R⟨μ,ρ,h,rs,s,o⟩=>kJ rs s o λμ1 ds h1 vs H1 x1 Bv s1 r1 o1=>by
  unfold tH at o1
  split at o1
  ·rename_i xs ys;obtain⟨v,v',rfl,rv,rv'⟩:=zH r1;obtain⟨t,us,rfl,e,r⟩:=rv;obtain⟨u,ws,rfl,e',r'⟩:=rv';exact⟨t,u,us,ws,rfl,Gf e,Gf e',o1.val s1 (Df.zip e e' r r')⟩
  ·exact o1.elim
end
def qX(mg:Str->Option af)(base:cy):Prop:=∃bm ob,mg "__builtins__"=some (.ref bm)/\bm≠builtinsNs/\base.get? bm=some ob/\ob.cls=.type "module"/\ob.dict=some builtinsNs/\ob.data=.plain
section
variable{X:Cx}{G:Cfg}
open Classical in
def isT(H:Hp)(tx:Dt)(u:af):Bool:=decide (∃v t,RelV v u/\Den lA H t v/\bX t tx=true)
open Classical in
theorem M9{H:Hp}{tx t:Dt}{u:af}{v:V}(r:RelV v u)(d:Den lA H t v):isT H tx u=bX t tx:=by
 unfold isT
 cases q:bX t tx with
 |true=>exact decide_eq_true ⟨v,t,r,d,q⟩
 |false=>refine decide_eq_false λ⟨v',t',r',d',q'⟩=>?_;have e:=r'.inj r;subst e;rw[Den.inj t' t v' d' d,q]at q';cases q'
theorem vU{H:Hp}{tx:Dt}:∀{ts:List Dt}{vs:Gx}{us:List af},Bl lA H ts vs->Bf vs us->us.any (isT H tx)=ts.any λt=>bX t tx
 |[],_,_,d,r=>by rw[Bl]at d;subst d;cases r;rfl
 |t::ts,_,_,d,r=>by
  rw[Bl]at d;obtain⟨v,rr,rfl,d1,d2⟩:=d
  cases r with
  |cons r1 r2=>rw[List.any_cons,List.any_cons,M9 r1 d1,vU d2 r2]
def zS(K:au)(neg:Bool):R2:=λx y H Q=>∃a vs ts tx,y=.ref a/\(By K H a vs∨Bu K H a vs)/\Bl lA H ts vs/\Den lA H tx x/\(∀t∈ts,fK t<=cX/\nod t=true)/\nod tx=true/\Q (.bl (if neg then !(ts.any λt=>bX t tx)else ts.any λt=>bX t tx)) H
theorem zT{pins:List (ai×Obj)}{σ:St}{H:Hp}{s:ag}{x:V}{v:af}{vs:Gx}{its:List af}{ts:List Dt}{tx:Dt}(hu:X.A.units+64<cLine)(I:Inv X pins σ H s)(rx:RelV x v)(r:Bf vs its)(d:Bl lA H ts vs)(dx:Den lA H tx x)(ht:∀t∈ts,fK t<=cX/\nod t=true)(nx:nod tx=true):∀y,y∈its.toArray->lh X.A.in1 s y v (isT H tx y):=λy hy=>by
 have hy':y∈its:=by simpa using hy
 obtain⟨j,hj,e⟩:=je.mp hy';have hl:=r.length;obtain⟨u,eu,ru⟩:=r.get (i:=j) (x:=vs[j]'(by lia)) (bz (by lia));have:u=y:=by rw[bz hj,e]at eu;cases eu;rfl
 subst this;obtain⟨t,et,dt⟩:=d.get (i:=j) (bz (by lia:j<vs.length));obtain⟨h1,h2⟩:=ht t (dw et);rw[M9 ru dt];exact(LX I.hok cX X.A.in1 t tx _ x _ v h1 (by show X.A.units+1+cX+1<cLine;unfold cX;lia) h2 nx dt dx ru rx).2
theorem NA(hu:X.A.units+64<cLine):Ca X (compareOp .In) (zS X.K false):=by
 intro pins s σ H x y v u Q I r1 r2 ⟨a,vs,ts,tx,e,hs,d,dx,ht,nx,q⟩;subst e;cases r2
 rcases hs with hs|hs
 ·obtain⟨its,r,pl,hz⟩:=I.list hs;refine SeqAt.in_listAt (isT H tx) pl.isList (zT hu I r1 r d dx ht nx) ?_;exact⟨.bl _,H,I,by rw[show its.toArray.any (isT H tx)=its.any (isT H tx)by simp,vU d r];rfl,q⟩
 ·obtain⟨its,r,pl,hz⟩:=I.tuple hs;refine SeqAt.in_tupleAt (isT H tx) pl (zT hu I r1 r d dx ht nx) ?_;exact⟨.bl _,H,I,by rw[show its.toArray.any (isT H tx)=its.any (isT H tx)by simp,vU d r];rfl,q⟩
theorem NB(hu:X.A.units+64<cLine):Ca X (compareOp .NotIn) (zS X.K true):=by
 intro pins s σ H x y v u Q I r1 r2 ⟨a,vs,ts,tx,e,hs,d,dx,ht,nx,q⟩;subst e;cases r2
 rcases hs with hs|hs
 ·obtain⟨its,r,pl,hz⟩:=I.list hs;refine SeqAt.notIn_listAt (isT H tx) pl.isList (zT hu I r1 r d dx ht nx) ?_;exact⟨.bl _,H,I,by rw[show its.toArray.any (isT H tx)=its.any (isT H tx)by simp,vU d r];rfl,q⟩
 ·obtain⟨its,r,pl,hz⟩:=I.tuple hs;refine SeqAt.notIn_tupleAt (isT H tx) pl (zT hu I r1 r d dx ht nx) ?_;exact⟨.bl _,H,I,by rw[show its.toArray.any (isT H tx)=its.any (isT H tx)by simp,vU d r];rfl,q⟩
def lE(scr:y')(neg:Bool)(x c:Dv)(h:Hs):Rs Dv:=match fX scr c h with
 |some ys=>match bU (cG cX h) ys,cG cX h x with
  |some ts,some tx=>.ok (.bl (if neg then !(ts.any λt=>bX t tx)else ts.any λt=>bX t tx)) h
  |_,_=>.bad
 |none=>.bad
theorem NC{μ:Nat->ai}{h:Hs}{H:Hp}(s:Bt G μ h H):∀{xs:Az}{vs:Gx}{ts:List Dt},RelDL G μ h.length H xs vs->bU (cG cX h) xs=some ts->Bl lA H ts vs/\∀t∈ts,fK t<=cX/\nod t=true
 |[],_,_,r,e=>by cases e;rw[RelDL]at r;subst r;exact⟨Bl.nil,λt ht=>by simp at ht⟩
 |x::xs,_,_,r,e=>by
  rw[RelDL]at r;obtain⟨v,rr,rfl,r1,r2⟩:=r;unfold bU at e
  cases q:cG cX h x with
  |none=>rw[q]at e;cases e
  |some y=>
   rw[q]at e;dsimp only at e
   cases q2:bU (cG cX h) xs with
   |none=>rw[q2]at e;cases e
   |some ys=>
    rw[q2]at e;cases e;obtain⟨a1,a2,a3⟩:=sZ s _ x v y r1 q;obtain⟨b1,b2⟩:=NC s r2 q2;refine⟨Bl.cons a1 b1,λt ht=>?_⟩
    rcases aw.mp ht with rfl|ht
    ·exact⟨a2,a3⟩
    ·exact b2 t ht
theorem q9(neg:Bool):fU G (zS G.K neg) (lE G.scr neg):=by
 intro E μ h H x y vx vy Q s rx ry o;unfold lE at o
 cases q:fX G.scr y h with
 |none=>rw[q]at o;exact o.elim
 |some ys=>
  rw[q]at o;dsimp only at o
  split at o
  ·rename_i ts tx e1 e2;obtain⟨a,vs,rfl,hs,r⟩:=ET s ry q;obtain⟨b1,b2⟩:=NC s r e1;obtain⟨c1,c2,c3⟩:=sZ s _ x vx tx rx e2;exact⟨a,vs,ts,tx,rfl,hs,b1,c1,b2,c3,o.val s rfl⟩
  ·exact o.elim
end
section
variable{X:Cx}{G:Cfg}
theorem r8{M:xo}{A:cq}{E:af->ag->Prop}{s:ag}{x:V}{u:af}{b:Bool}{Q:Bool->ag->Prop}(r:RelV x u)(q:Q (decide (x=.bl b)) s):wpAny M A (isSame u (.bool b)) Q E s:=by
 cases x with
 |non=>cases r;exact aj q
 |bl c=>
  cases r;refine aj ?_;have:decide (V.bl c=V.bl b)=(uz c==uz b):=by cases c<;>cases b<;>rfl
  rw[this]at q;exact q
 |int i=>obtain⟨t,rfl⟩:=r;exact aj q
 |str i=>obtain⟨t,rfl⟩:=r;exact aj q
 |byt i=>obtain⟨t,rfl⟩:=r;exact aj q
 |flt i=>obtain⟨t,rfl⟩:=r;exact aj q
 |ref a=>cases r;exact aj q
 |ty n=>cases r;exact aj q
def ND(neg:Bool):R2:=λx y H Q=>∃b,y=.bl b/\Q (.bl (if neg then !decide (x=.bl b)else decide (x=.bl b))) H
theorem r9:Ca X (compareOp .IsNot) (ND true):=by intro pins s σ H x y v u Q I rx ry ⟨b,e,q⟩;subst e;cases ry;exact ae (r8 rx (aj ⟨.bl _,H,I,rfl,q⟩))
def tI:Dv->Dv->Option Bool
 |.non,.non=>some true
 |_,.non=>some false
 |.bl a,.bl b=>some (a==b)
 |_,.bl _=>some false
 |_,_=>none
def lX(neg:Bool)(x y:Dv)(h:Hs):Rs Dv:=match tI x y with
 |some b=>.ok (.bl (if neg then !b else b)) h
 |none=>.bad
def NF(neg:Bool):R2:=λx y H Q=>(y=.non/\Q (.bl (if neg then !decide (x=.non)else decide (x=.non))) H)∨ND neg x y H Q
theorem t6:Ca X (compareOp .IsNot) (NF true):=Ca.or XG r9
theorem t9{μ:Nat->ai}{n:Nat}{H:Hp}{x:Dv}{v:V}{b:Bool}(r:Be G μ n H x v)(e:tI x .non=some b):decide (v=.non)=b:=by
 cases x with
 |non=>cases e;rw[Be]at r;subst r;rfl
 |bl c=>cases e;rw[Be]at r;subst r;rfl
 |int c=>cases e;rw[Be]at r;subst r;rfl
 |str c=>cases e;rw[Be]at r;subst r;rfl
 |tup c=>cases e;obtain⟨a,vs,rfl,_⟩:=r;rfl
 |ref c=>cases e;obtain⟨_,rfl⟩:=r;rfl
 |edc=>cases e;obtain⟨a,rfl,_⟩:=r;rfl
 |exc c=>cases e;obtain⟨a,o,u,rfl,_⟩:=r;rfl
 |scr=>cases e;obtain⟨rfl,_⟩:=r;rfl
theorem u5{μ:Nat->ai}{n:Nat}{H:Hp}{x:Dv}{v:V}{b c:Bool}(r:Be G μ n H x v)(e:tI x (.bl c)=some b):decide (v=.bl c)=b:=by
 cases x with
 |non=>cases e;rw[Be]at r;subst r;rfl
 |bl d=>cases e;rw[Be]at r;subst r;cases c<;>cases d<;>rfl
 |int c=>cases e;rw[Be]at r;subst r;rfl
 |str c=>cases e;rw[Be]at r;subst r;rfl
 |tup c=>cases e;obtain⟨a,vs,rfl,_⟩:=r;rfl
 |ref c=>cases e;obtain⟨_,rfl⟩:=r;rfl
 |edc=>cases e;obtain⟨a,rfl,_⟩:=r;rfl
 |exc c=>cases e;obtain⟨a,o,u,rfl,_⟩:=r;rfl
 |scr=>cases e;obtain⟨rfl,_⟩:=r;rfl
theorem u6(neg:Bool):fU G (NF neg) (lX neg):=by
 intro E μ h H x y vx vy Q s rx ry o;unfold lX at o
 cases q:tI x y with
 |none=>rw[q]at o;exact o.elim
 |some b=>
  rw[q]at o
  cases y with
  |non=>rw[Be]at ry;exact .inl ⟨ry,by rw[t9 rx q];exact o.val s rfl⟩
  |bl c=>rw[Be]at ry;exact .inr ⟨c,ry,by rw[u5 rx q];exact o.val s rfl⟩
  |_=>cases x<;>cases q
end
def jE(c:M Bool)(body:MS):Nat->MS
 |0=>λ_ _=>.bad
 |f+1=>λρ h=>(c ρ h).thenS λb h1=>if b=true then(match body ρ h1 with
  |.nx ρ2 h2=>jE c body f ρ2 h2
  |.ct ρ2 h2=>jE c body f ρ2 h2
  |.bk ρ2 h2=>.nx ρ2 h2
  |r=>r)else .nx ρ h1
section
variable{c:bq}{body:List fv}{mc:M Bool}{mb:MS}{pos:Pos}
theorem NG(n:Nat)(hp:yk (model X.prog X.w) X.A X.env X.xe)(hc:fS X G E c mc)(hb:mR X G E body mb):iD X G E (.While c body [] pos) (jE mc mb n):=λhK=>PS.imp (WO hp (hc hK) (hb hK)) λD σ H⟨μ,ρ,h,rs,s,o⟩=>by
 refine⟨λm σ H=>∃μ ρ h,Bo G μ h.length H ρ σ/\Bt G μ h H/\Cg G E μ h.length H (jE mc mb m ρ h) D,⟨n,μ,ρ,h,rs,s,o⟩,?_⟩
 rintro m σ1 H1 ⟨μ1,ρ1,h1,Bv,s1,o1⟩
 cases m with
 |zero=>exact o1.elim
 |succ m=>
  refine ML Bv s1 o1 λμ2 b h2 H2 x2 Ek s2 o2=>?_
  cases b with
  |false=>rw[if_neg (by decide)]at o2⊢;exact o2 μ2 H2 σ1 Ge s2 Ek
  |true=>
   rw[if_pos rfl]at o2⊢;refine⟨λσ' H'=>∃μ ρ h,Bo G μ h.length H' ρ σ'/\Bt G μ h H'/\Cg G E μ h.length H' (jE mc mb m ρ h) D,λσ' H' z=>⟨m,jv m,z⟩,μ2,ρ1,h2,Ek,s2,?_⟩
   cases q:mb ρ1 h2 with
   |nx ρ3 h3=>rw[q]at o2;exact λμ4 H4 σ4 x4 s4 rs4=>⟨μ4,ρ3,h3,rs4,s4,Cg.ext o2 x4⟩
   |ct ρ3 h3=>rw[q]at o2;exact λμ4 H4 σ4 x4 s4 rs4=>⟨μ4,ρ3,h3,rs4,s4,Cg.ext o2 x4⟩
   |bk ρ3 h3=>rw[q]at o2;exact o2
   |rt d h3=>rw[q]at o2;exact o2
   |ex d h3=>rw[q]at o2;exact o2
   |bad=>rw[q]at o2;exact o2.elim
end
section
variable{e o:bq}{mo me:M Dv}{pos apos cpos np p2:Pos}{y:Str}
def zU(x i:Dv)(h:Hs):Rs Dv:=match x,i with
 |.ref j,.int n=>match getL h j with
  |some xs=>match eH xs.length n with
   |some k=>match xs[k]? with
    |some d=>if xs.length<=1000000 then .ok d (h.set j (.lst (xs.eraseIdx k)))else .bad
    |none=>.bad
   |none=>.bad
  |none=>.bad
 |_,_=>.bad
theorem NH{μ:Nat->ai}{n:Nat}{H:Hp}:∀{ds:Az}{vs:Gx}(k:Nat),RelDL G μ n H ds vs->RelDL G μ n H (ds.eraseIdx k) (vs.eraseIdx k)
 |[],_,_,h=>by rw[RelDL]at h;subst h;exact Gj
 |d::ds,_,0,h=>by rw[RelDL]at h;obtain⟨v,r,rfl,h1,h2⟩:=h;exact h2
 |d::ds,_,k+1,h=>by rw[RelDL]at h;obtain⟨v,r,rfl,h1,h2⟩:=h;exact Gg h1 (NH k h2)
def vV(mo me:M Dv):M Dv:=λρ h=>(mo ρ h).bind λx h1=>if lD x h1=true then(me ρ h1).bind λd h2=>zU x d h2 else .bad
theorem u7(ho:aI X G E (.Name y np) mo)(he:aI X G E e me)(hs:ar [e] X.env=[(false,eval e X.env)]:=by rfl)(hl:(apos.endLine==cpos.line)=true:=by rfl):aI X G E (.Call (.Attribute (.Name y np) "pop" apos) [e] [] cpos) (vV mo me):=λhK=>
 Gh (K6 yd PySem.F.slot_list_pop PySem.F.type_list_pop Y1 (ho hK) (kW (he hK) lS hs) rfl (by rw[hs];rfl) hl hs rfl) λσ H Q⟨μ,ρ,h,rs,s,oo⟩=>gB rs s oo λμ1 x h1 vx H1 x1 Bv s1 r1 o1=>by
  split at o1
  ·rename_i hl;refine⟨M6 s1 r1 hl,gB Bv s1 o1 λμ2 d h2 vd H2 x2 Ek s2 r2 o2=>?_⟩
   cases x with
   |ref j=>
    cases d with
    |int n=>
     dsimp only[zU]at o2
     cases q:getL h2 j with
     |none=>rw[q]at o2;exact o2.elim
     |some xs=>
      rw[q]at o2;dsimp only at o2
      cases q2:eH xs.length n with
      |none=>rw[q2]at o2;exact o2.elim
      |some k=>
       rw[q2]at o2;dsimp only at o2
       cases q3:xs[k]? with
       |none=>rw[q3]at o2;exact o2.elim
       |some d'=>
        rw[q3]at o2;dsimp only at o2
        split at o2
        ·rename_i hz;obtain⟨vs,ea,ra⟩:=s2.ob j _ (dW q);obtain⟨_,rfl⟩:=Gk x2 _ _ r1;rw[Be]at r2;subst r2;obtain⟨v,ev,rv⟩:=ra.get q3;obtain⟨i1,i2,i3,i4⟩:=DQ q2;obtain⟨x3,s3⟩:=s2.write (dW q) (NH k ra);exact⟨_,vs,n,k,v,rfl,rfl,ea,by lia,by lia,by rw[ra.length];exact i1,ev,o2 μ2 _ _ x3 s3 (Gk x3 _ _ rv)⟩
        ·exact o2.elim
    |_=>exact o2.elim
   |_=>exact o2.elim
  ·exact o1.elim
def mX(xs:Az)(lo hi:Option Int):Az:=(xs.drop (HT.sIx xs.length 0 lo)).take (HT.sIx xs.length xs.length hi-HT.sIx xs.length 0 lo)
theorem NI{μ:Nat->ai}{n:Nat}{H:Hp}{xs:Az}{vs:Gx}(r:RelDL G μ n H xs vs)(lo hi:Option Int):RelDL G μ n H (mX xs lo hi) (pN vs lo hi):=by unfold mX pN;rw[r.length];exact(r.drop _).take _
abbrev MO:=Ev->Hs->Rs (Option Int)
def u9(G:Cfg)(E:XK)(m:MO):TO:=TOu G E m (λ_ _ _ a b=>b=a)
def zV(X:Cx)(G:Cfg)(E:XK)(pe:Option bq)(m:MO):Prop:=X.K=G.K->PO X pe (u9 G E m)
theorem PO.imp{pe:Option bq}{t t':TO}(h:PO X pe t)(i:∀σ H Q,t' σ H Q->t σ H Q):PO X pe t':=λpins s σ H Q I q=>h pins s σ H Q I (i σ H Q q)
def pT:MO:=λ_ h=>.ok none h
def E7:Dv->Hs->Rs (Option Int)
 |.int i,h=>.ok (some i) h
 |_,_=>.bad
def pU(m:M Dv):MO:=λρ h=>(m ρ h).bind E7
theorem NJ:zV X G E none pT:=λ_=>PO.imp YF λσ H Q⟨μ,ρ,h,rs,s,oo⟩=>oo.val s rfl
theorem NK(he:aI X G E e me):zV X G E (some e) (pU me):=λhK=>PO.imp (YG (he hK)) λσ H Q⟨μ,ρ,h,rs,s,oo⟩=>gB rs s oo λμ1 d h1 v H1 x1 Bv s1 r1 o1=>by
 cases d with
 |int i=>exact⟨i,r1,o1.val s1 rfl⟩
 |_=>exact o1.elim
end
section
variable{pos:Pos}
theorem v5:aI X G E (.Dict [] [] pos) (mC .edc):=λ_ pins s σ H Q I⟨μ,ρ,h,rs,sm,o⟩=>by have hb:sysModules<s.heap.objs.size:=Nat.lt_trans (by decide) (I.mod.glob.keeps I.bk).lt;have hn:=I.hok.fresh (aq s.heap.objs.size);refine wpAny_Dict_empty ⟨.ref s.heap.objs.size,_,I.laid (a:=s.heap.objs.size) (o:=.dK []) (t':=s.toks) (λ_ _ q=>ao _ q) (aq _) ⟨gz _,beq_eq_false_iff_ne.mpr (dk (bc hb)),[],.nil,Heap.DictOf.new s.heap⟩,rfl,?_⟩;exact o μ _ _ (F' (dQ hn)) (sm.same (dQ hn)) ⟨_,rfl,eR⟩
theorem tJ{x:Str}{i:Int}{t:Tok}(hg:Gl X x)(hm:X.mg x=some (.int i t))(hd:(x==Gw)=false:=by decide):aI X G E (.Name x pos) (aF i):=λ_=>Gh (VL (v:=.int i) hg hm ⟨t,rfl⟩ hd) λσ H Q⟨μ,ρ,h,rs,s,o⟩=>o.val s (show Be G μ _ H (.int i) (.int i) from rfl)
def lF:Dv->Hs->Rs Dv
 |.int i,h=>.ok (.int (-i)) h
 |_,_=>.bad
theorem v7:jY G (rU λi=>.int (-i)) lF:=by
 intro E μ h H x vx Q s r o
 cases x with
 |int i=>rw[Be]at r;subst r;exact⟨i,rfl,o.val s rfl⟩
 |_=>exact o.elim
end
def NL(lo st:Int)(n:Nat):It:=⟨λi _=>i<n,λi H x H'=>H'=H/\x=.int (lo+i*st),λi _=>n<=i⟩
theorem v8{P:bj}{w:cn}{K:au}{tg:bq}(it:ai)(lo st:Int)(n:Nat):Turn P w K tg (NL lo st n) [it] it (λi h=>yv h it (lo+(i:Nat)*st) ((n:Int)-(i:Nat)) st) where
 mem:=by simp
 obj:=λi h st b hb=>by
  have e:b=it:=by simpa using hb
  subst e;exact⟨_,st,λv z=>by
   have z':Ac _=Data.cell v:=z
   cases z'⟩
 keep:=λi h h' st k=>k it (by simp) _ st
 item:=by intro X hP hw hK hc i pins s σ H E I hf wL hg;subst hP hw hK;obtain⟨f0,f1,f2,f3,f4,f5⟩:=hf it (by simp);have W:=Walks.range (prog:=X.prog) (w:=X.w) (I.ok.hd hc) it lo st n;refine W.item i s _ _ hg wL λv h' tk hv Dd kk=>?_;obtain⟨t,rfl⟩:=hv;have I1:Inv X pins σ H {s with heap:=h',toks:=tk}:=I.turned (λb o hb e=>kk b o (by simpa using hb) e) f0 f1 f3 f4 f5;exact⟨_,rfl,yQ (s:={s with heap:=h',toks:=tk}) (n:="range_iterator") Dd rfl rfl (by decide) ⟨.int (lo+i*st),H,I1,⟨t,rfl⟩,⟨rfl,rfl⟩,Dd,λb hb=>(hf b hb).1⟩⟩
 done:=by intro X hP hw hK hc i pins s σ H E I hf wL hg;subst hP hw hK;obtain⟨f0,f1,f2,f3,f4,f5⟩:=hf it (by simp);exact wpAny_pyNext_range_end (I.ok.hd hc) wL (by have:n<=i:=hg;lia) λh' eb=>⟨rfl,I.turned (t':=s.toks) (λb o hb e=>eb b o hb e) f0 f1 f3 f4 f5⟩
 self:=λ_ _ _ _ _ st h=>wpAny_pyIter_rangeiter st h
section
variable{tg a b c:bq}{p pos:Pos}{ms:M Az}
def tK(lo hi st:Int):Nat:=if lo<hi then((hi-lo-1)/st+1).toNat else 0
def v9(lo hi st:Int):Src:=⟨tK lo hi st,λk _=>some (.int (lo+k*st)),λ_=>true⟩
def qY(i:Int):Bool:=decide (-1000000<i)&&decide (i<1000000)
def E8:Az->Hs->Rs Src
 |[.int i,.int j,.int k],h=>if(qY i&&qY j&&qY k&&decide (0<k))=true then .ok (v9 i j k) h else .bad
 |_,_=>.bad
theorem y0{μ:Nat->ai}{n:Nat}{H:Hp}{d d' d'':Dv}{vs:Gx}(r:RelDL G μ n H [d,d',d''] vs):∃v v' v'',vs=[v,v',v'']/\Be G μ n H d v/\Be G μ n H d' v'/\Be G μ n H d'' v'':=by rw[RelDL]at r;obtain⟨v,r1,rfl,a1,r⟩:=r;obtain⟨v',v'',rfl,a2,a3⟩:=zH r;exact⟨v,v',v'',rfl,a1,a2,a3⟩
theorem y6(hg:Gl X "range")(hm:X.mg "range"=none)(ha:dP X G E [a,b,c] ms)(hs:ar [a,b,c] X.env=[(false,eval a X.env),(false,eval b X.env),(false,eval c X.env)]:=by rfl)(Fb:ar [b,c] X.env=[(false,eval b X.env),(false,eval c X.env)]:=by rfl):
  hG X G E tg (.Call (.Name "range" p) [a,b,c] [] pos) (aM E8 ms):=λhK pins s σ H R I⟨μ,ρ,h,rs,sm,o⟩=>by
 refine Call_ (oH I hg hm zk (iu (bF (ha hK pos pins s σ H _ I (kJ rs sm o λμ1 ds h1 vs H1 x1 Bv s1 r1 o1=>show ∃i j k:Int,vs=[.int i,.int j,.int k]/\(qY i&&qY j&&qY k&&decide (0<k))=true/\R (NL i k (tK i j k)) H1 from ?_)) λus s1⟨vs,H1,I1,r1,q1⟩=>?_) (by rw[hs,Fb]) (by rw[Fb];rfl)))
 ·unfold E8 at o1
  split at o1
  ·rename_i i j k
   split at o1
   ·rename_i hj;obtain⟨v,v',v'',rfl,a1,a2,a3⟩:=y0 r1;rw[Be]at a1 a2 a3;subst a1;subst a2;subst a3;refine⟨i,j,k,rfl,hj,o1.val s1 ?_⟩;intro kk μ2 h2 H2 x2 s2;refine⟨λhk d hd=>?_,λhk _=>qm hk.symm⟩;cases hd;exact⟨hk,λx H' hy=>by obtain⟨rfl,rfl⟩:=hy;exact⟨Cv.refl _,rfl⟩⟩
   ·exact o1.elim
  ·exact o1.elim
 ·obtain⟨i,j,k,e,hj,q⟩:=q1;subst e;simp only[qY,cu,decide_eq_true_eq]at hj;obtain⟨⟨⟨⟨i1,i2⟩,j1,j2⟩,k1,k2⟩,k0⟩:=hj
  cases r1 with
  |cons r rr=>
  cases rr with
  |cons r' rr=>
  cases rr with
  |cons r'' rr=>
  cases rr;obtain⟨t,rfl⟩:=r;obtain⟨t',rfl⟩:=r';obtain⟨t'',rfl⟩:=r'';have Cf:0<=dg i j k/\dg i j k<=2000001/\((tK i j k:Nat):Int)=dg i j k:=by
   unfold dg tK;rw[if_pos k0]
   split
   ·rename_i Cw;have h0:0<=(j-i-1)/k:=Int.ediv_nonneg (by lia) (by lia);have h1:(j-i-1)/k<=j-i-1:=Int.ediv_le_self _ (by lia);refine⟨by lia,by lia,by lia⟩
   ·exact⟨by lia,by lia,rfl⟩
  have hmul:(dg i j k)*k<=2000001*1000000:=Int.mul_le_mul Cf.2.1 (by lia) (by lia) (by lia);have hmul0:0<=(dg i j k)*k:=Int.mul_nonneg Cf.1 (by lia);have small:xk i j k=true:=by
   unfold xk;simp only[Builtin.Range.rangeFitsLong,cu,xj,decide_eq_true_eq,beq_iff_eq];have cm:k*dg i j k=dg i j k*k:=Int.mul_comm _ _;generalize dg i j k=z at *;refine⟨by lia,.inr ?_⟩;rw[if_pos k0];simp only[cu,decide_eq_true_eq]
   lia
  refine call_range_3 (by lia) ?_ (.inl (PyProof.noPylong_small (by lia)));refine wpAny_pyIter_range (IsRange.new ..) small ?_;have I2:Inv X pins σ H1 {s1 with heap:=s1.heap.push {cls:=.type "range",data:=.fields #[.int i t,.int j t',.int k t'']},toks:=s1.toks}:=I1.kept λb o e=>ao _ e;refine⟨(s1.heap.push {cls:=.type "range",data:=.fields #[.int i t,.int j t',.int k t'']}).objs.size,[(s1.heap.push {cls:=.type "range",data:=.fields #[.int i t,.int j t',.int k t'']}).objs.size],_,_,H1,rfl,
   I2.kept (t':=s1.toks) λb o e=>ao _ e,v8 _ i k (tK i j k),?_,λb hb=>?_,q⟩
  ·show yv _ _ (i+((0:Nat):Int)*k) (((tK i j k:Nat):Int)-((0:Nat):Int)) k;rw[Cf.2.2];have e1:i+((0:Nat):Int)*k=i:=by simp
   rw[e1];have e2:dg i j k-((0:Nat):Int)=dg i j k:=by simp
   rw[e2];exact az _ rfl
  ·have e:b=(s1.heap.push {cls:=.type "range",data:=.fields #[.int i t,.int j t',.int k t'']}).objs.size:=by simpa using hb
   subst e;exact I2.fpOk (aq _) (I2.hok.fresh (aq _))
end
structure Lawful(lp:bj)(w:cn)(K:au)(mg:Str->Option af)(base:cy)(k:Nat)(fa:ai)(fd:bh)(x:Str)(Ps:List ai)(a:ai)(ns:y'):Prop where
 ex:∃(G:Cfg)(lawF:Ay)(hh:Hs),G.K=K/\G.scr=ns/\G.sa=a/\(∀P lq,G.tabs P=some lq->P∈Ps)/\lawF [.scr] []=.ok (.bl true) hh/\Bj lp w K mg base (cB lp w base) k fa fd [x] (cH G lawF)
theorem E9{lp:bj}{w:cn}{K:au}{mg mb:Str->Option af}{k:Nat}{fa a:ai}{cps:List (ai×ai)}{fd:bh}{x:Str}{s₁:ag}{vs:List af}{ns:y'}(KX:K.In s₁.heap)(hns:s₁.heap.Ns dz mg)(hb:s₁.heap.Ns builtinsNs mb)(hbb:∀x:Str,x≠"__name__"->mb x=di x)(hlim:s₁.heap.NoLimit)(hg:s₁.gens=#[])(ha:s₁.heap.get? a=some {cls:=.type "list",data:=.seq vs.toArray})(hi:kv vs ns)(hl:ns.length<=cg)(hr:Bx k callerA)(hC:∀y∈cps,xg s₁.heap y.1 y.2)(hP':∀y∈cps,s₁.heap.get? y.2=some (uc #[]))(hB:qX mg s₁.heap)(hnt:PySem.W.noTabs K=true)(F:∀base:cy,K.In base->base.Ns dz mg->(∀y∈cps,xg base y.1 y.2)->qX mg base->Lawful lp w K mg base k fa fd x (cps.map gr) a ns)(hbind:∀(s:ag)(u:af),xq s fd ⟨[u],[]⟩ [(x,u)]):
  codeAny (model lp w) callerA (.call (.ref fa) ⟨[.ref a],[]⟩) (λr s'=>r=.ok (.ret (.bool true))/\OldK s₁.heap s'.heap/\s'.os=s₁.os/\sv s'.gens) s₁:=by
 have rv:=sT hi;have lenV:=hi.length;have hP:∀{P:ai},P∈cps.map gr->s₁.heap.get? P=some (uc #[]):=λ{P}h=>by obtain⟨y,hy,rfl⟩:=br.mp h;exact hP' y hy
 have KP:∀{P:ai},P∈cps.map gr->K.lookup P=none:=λ{P}hm=>by
  cases q:K.lookup P with
  |none=>rfl
  |some o=>have e:=KX P o q;rw[hP hm]at e;cases e;have:=fg.mp hnt (P,uc #[]) (PySem.W.mem_of_lookupK q);exact absurd (show false=true from this) ig
 have aP:a∉cps.map gr:=λz=>by rw[hP z]at ha;cases ha
 have core:∀H:Hp,(∀P∈cps.map gr,H P=some (.tbl #[]))->FzL K H a (ns.map Ga)->Cq lp w H s₁.heap->(∀b,H b≠none->b=a∨b∈cps.map gr)->(H a≠none->K.lookup a=none)->(∀u,H a=some u->∃o xs,u=.frz o (.lst xs))->
   codeAny (model lp w) callerA (.call (.ref fa) ⟨[.ref a],[]⟩) (λr s'=>r=.ok (.ret (.bool true))/\OldK s₁.heap s'.heap/\s'.os=s₁.os/\sv s'.gens) s₁:=by
  intro H hHP hS hok hA hK hF;have base_of:∀{b:ai}{o:Obj},s₁.heap.get? b=some o->H b=none->(lP s₁.heap H).get? b=some o:=λe n=>VF e n;have none_of:∀{b:ai},b≠a->b∉cps.map gr->H b=none:=λ{b}h1 h2=>by
   cases q:H b with
   |none=>rfl
   |some u=>exact((hA b (by rw[q];simp)).elim h1 h2).elim
  have noD:∀{b:ai}{o:Obj}{es:Array DictEntry}{ep:Nat},s₁.heap.get? b=some o->o.data=.dict es ep->H b=none:=λ{b o es ep}e d=>none_of (λz=>by
    subst z;rw[ha]at e;cases e;have d':Data.seq vs.toArray _=Data.dict es ep:=d
    cases d') (λz=>by
    rw[hP z]at e;cases e;have d':Ac _=Data.dict es ep:=d
    cases d')
  have nsK:∀{b:ai}{m:Str->Option af},s₁.heap.Ns b m->(lP s₁.heap H).Ns b m:=λ{b m}⟨o,es,ep,e,d,r⟩=>⟨o,es,ep,base_of e (noD e d),d,r⟩
  have hKb:K.In (lP s₁.heap H):=λb o e=>base_of (KX b o e) (by
   cases q:H b with
   |none=>rfl
   |some u=>
    rcases hA b (by rw[q];simp)with z|z
    ·subst z;rw[hK (by rw[q];simp)]at e;cases e
    ·rw[KP z]at e;cases e)
  have hM:Mod K mg (lP s₁.heap H):=⟨hKb,nsK hns,⟨mb,nsK hb,hbb⟩,let ⟨mc,h1,h2⟩:=hlim;⟨mc,nsK h1,h2⟩⟩
  have hCb:∀y∈cps,xg (lP s₁.heap H) y.1 y.2:=λy hy=>by
   obtain⟨o,Ct,file,tf,flags,tg,inF,text,tt,e1,r1,r⟩:=hC y hy;refine⟨o,Ct,file,tf,flags,tg,inF,text,tt,base_of e1 (none_of (λz=>?_) (λz=>?_)),r1,r⟩
   rotate_left
   ·rw[hP z]at e1;cases e1;cases r1
   rw[z,ha]at e1;cases e1;exact absurd r1 (by intro w;injection w with w;exact absurd w (by decide))
  have hBb:qX mg (lP s₁.heap H):=by
   obtain⟨bm,ob,b1,b2,b3,b4,b5,b6⟩:=hB;refine⟨bm,ob,b1,b2,base_of b3 (none_of (λz=>?_) (λz=>?_)),b4,b5,b6⟩
   ·subst z;rw[ha]at b3;cases b3;exact absurd b4 (by intro w;injection w with w;exact absurd w (by decide))
   ·rw[hP z]at b3;cases b3;cases b4
  have e0:Env0 lp w K mg (lP s₁.heap H) callerA [] s₁ H:=⟨rfl,hM,λb o e=>VG e,qm (VE _ _),trivial,λb hb=>absurd (show b∈([]:List ai) from hb) (by simp),hok,.of_eq hg⟩
  obtain⟨G,lawF,hh,g1,g2,g3,g4,hlaw,Fn⟩:=(F _ hKb (nsK hns) hCb hBb).ex;have rd:RelDL G (λ_=>0) 0 H [.scr] [.ref a]:=by refine Gg ?_ Gj;rw[Be,g1,g2,g3];exact⟨rfl,hS⟩
  have sm:Bt G (λ_=>0) [] H:=⟨λi j h1=>absurd h1 (by simp),λi o q=>by simp at q,λP' lq e=>by
   exact⟨#[],hHP P' (g4 P' lq e),trivial,λpos cv q=>by
    have q':(none:Option af)=some cv:=q
    cases q'⟩⟩
  refine ur (Fn.run callerA [] s₁ H ⟨[.ref a],[]⟩ [.ref a] [.ref a] (λv _=>v=.bl true) (λ_ _ _=>False) hr e0 (hbind s₁ (.ref a)) (.cons rfl .nil) ⟨λ_=>0,[],[.scr],rd,sm,?_⟩) λr s' h=>?_
  ·rw[hlaw];exact λμ' H' v _ _ r=>r
  cases r with
  |error e=>obtain⟨_,_,_,_,_,_,_,_,_,z⟩:=h;exact z.elim
  |ok fl=>
   cases fl with
   |next=>exact nt h
   |brk=>exact nt h
   |cont=>exact nt h
   |ret u=>
    obtain⟨v,H',os,bare,un,hok',r',q⟩:=h;have q':v=.bl true:=q;subst q';obtain rfl:u=uz true:=r';have kept:∀b o,b∉cps.map gr->s₁.heap.get? b=some o->s'.heap.get? b=some o:=λb o hbP e=>by
     cases q:H b with
     |none=>exact un.keep b o e q (by intro z;exact absurd (show b∈([]:List ai) from z) (by simp)) (by simp)
     |some u=>
      rcases hA b (by rw[q];simp)with z|z
      ·subst z;obtain⟨ob,xs,rfl⟩:=hF u q;have z2:=un.frzs b ob _ q;obtain⟨e1,_⟩:=hok b _ q;obtain⟨e2,_⟩:=hok' b _ z2;rw[e]at e1;cases e1;exact e2
      ·exact absurd z hbP
    have gP':∀P∈cps.map gr,∃more,s'.heap.get? P=some (uc (#[]++more)):=λP h=>by obtain⟨more,hm⟩:=un.tbls P #[] (hHP P h);exact⟨more,hok' P _ hm⟩
    refine⟨rfl,⟨λb o e=>?_,λb o e=>?_⟩,os,bare⟩
    ·by_cases hb:b∈cps.map gr
     ·rw[hP hb]at e;cases e;obtain⟨more,gP⟩:=gP' b hb;obtain⟨y,hy,rfl⟩:=br.mp hb;exact .inr (.inl ⟨((hC y hy).tab (hP hb)).isCodeTable,rfl,#[],more,rfl,gP⟩)
     ·exact .inl (kept b o hb e)
    ·by_cases hb:b∈cps.map gr
     ·obtain⟨more,gP⟩:=gP' b hb;exact⟨_,gP⟩
     ·exact⟨_,kept b o hb e⟩
 cases hk:K.lookup a with
 |some o=>
  have e:=KX a o hk;rw[ha]at e;cases e;refine core (λb=>if b∈cps.map gr then some (.tbl #[])else none) (λP h=>if_pos h) (.inr ⟨_,vs.toArray,_,hk,rfl,rfl,rfl,by rw[ba,lenV];exact hl,by simpa using rv⟩) (λb u z=>?_) (λb z=>?_) (λz=>absurd (if_neg aP) z) (λu z=>?_)
  ·by_cases hb:b∈cps.map gr
   ·have z':=(if_pos hb).symm.trans z;cases z';exact hP hb
   ·have z':=(if_neg hb).symm.trans z;cases z'
  ·by_cases hb:b∈cps.map gr
   ·exact .inr hb
   ·exact absurd (if_neg hb) z
  ·have z':=(if_neg aP).symm.trans z;cases z'
 |none=>
  have ea:(λb=>if b=a then some (HO.frz {cls:=.type "list",data:=.seq vs.toArray} (.lst (ns.map Ga)))else if b∈cps.map gr then some (.tbl #[])else none) a=some (.frz {cls:=.type "list",data:=.seq vs.toArray} (.lst (ns.map Ga))):=if_pos rfl;refine core (λb=>if b=a then some (.frz {cls:=.type "list",data:=.seq vs.toArray} (.lst (ns.map Ga)))else if b∈cps.map gr then some (.tbl #[])else none) (λP h=>(if_neg (λz:P=a=>aP (by rw[<-z];exact h))).trans (if_pos h)) (.inl ⟨{cls:=.type "list",data:=.seq vs.toArray},ea⟩) (λb u z=>?_) (λb z=>?_) (λ_=>hk) (λu z=>?_)
  ·by_cases hb:b=a
   ·have z':=(if_pos hb).symm.trans z;cases z';subst hb;exact⟨ha,by rw[ax];exact hl,vs,_,rv,ha⟩
   ·have z':=(if_neg hb).symm.trans z
    by_cases hb2:b∈cps.map gr
    ·have z2:=(if_pos hb2).symm.trans z';cases z2;exact hP hb2
    ·have z2:=(if_neg hb2).symm.trans z';cases z2
  ·by_cases hb:b=a
   ·exact .inl hb
   ·by_cases hb2:b∈cps.map gr
    ·exact .inr hb2
    ·exact absurd ((if_neg hb).trans (if_neg hb2)) z
  ·have z':=ea.symm.trans z;cases z';exact⟨_,_,rfl⟩
theorem fG{α:Type}{P:List α->Prop}(h:∀a,P [a]):∀us:List α,us.length=1->P us
 |[a],_=>h a
theorem gU{α:Type}{P:List α->Prop}(h:∀a b,P [a,b]):∀us:List α,us.length=2->P us
 |[a,b],_=>h a b
theorem FA{α:Type}{P:List α->Prop}(h:∀a b c,P [a,b,c]):∀us:List α,us.length=3->P us
 |[a,b,c],_=>h a b c
theorem y7{α:Type}{P:List α->Prop}(h:∀a b c d,P [a,b,c,d]):∀us:List α,us.length=4->P us
 |[a,b,c,d],_=>h a b c d
open PySem.Calls
abbrev Ys{β:Type}(ob:Frag->β)(obE:β):cn->cy->Prop:=λ_ h=>∃K:Frag,K.In h/\noTabs K=true/\ob K=obE
theorem ys_of{β:Type}{ob:Frag->β}{obE:β}:∀(w:cn)(s:ag),ob (uR s.heap)=obE->Ys ob obE w s.heap:=λ_ s e=>⟨uR s.heap,yJ _ _,yK _ _,e⟩
theorem ys_keeps{β:Type}{ob:Frag->β}{obE:β}:∀(w:cn)(h h':cy),Ys ob obE w h->(∀b o,h.get? b=some o->h'.get? b=some o)->Ys ob obE w h':=λ_ _ _⟨K,x,n,e⟩k=>⟨K,x.keeps k,n,e⟩
theorem zb0{β:Type}{ob:Frag->β}{obE:β}{l:OpenLaw}{n k:Nat}{q:bj}{cO:Ax}{XP:(Str->Option af)->cy->Prop}{d:zr}{x:Str}(hn:l.most=some n)(hn2:n<=cg)(hdf:d.params.defaults=[])(hr:Bx k callerA)(Et:(recsOf q).find? (λe=>e.name==d.name)=some d)(F:∀(K:Frag)(w:cn)(mg:Str->Option af)(fa:ai)(h:cy),ob K=obE->noTabs K=true->K.In h->h.Ns dz mg->mg d.name=some (.ref fa)->
   ∃(fd:bh)(c P:ai),(∀(s:ag)(u:af),xq s fd ⟨[u],[]⟩ [(x,u)])/\tabIn K d.name=some (c,P)/\noTabs K=true/\
    ∀(base:cy)(a:ai)(ns:y'),ns.length<=n->K.In base->base.Ns dz mg->CodeHd base c P->qX mg base->Lawful l.prog w K mg base k fa fd x [P] a ns):
  WalkO q cO XP (Ys ob obE) l.row.toRowW d [] (λf vs=>xu f vs):=by
 refine Att.attach_call hn hdf λw s₀ s₁ mg mb fa o pm cd doc a vs ns G Y ho hd hcd hmg Fq hints hlen hg=>?_;obtain⟨K,KX,hnt',hob⟩:=Y;obtain⟨fd,c,P,hb,ht,hnt,hF⟩:=F K w mg fa _ hob hnt' KX G.T.g hmg;obtain⟨hC,hP⟩:=tab_of G.T KX Et ht;exact E9 KX G.T.g G.T.b G.T.builtins G.T.nolimit hg Fq hints (dh hlen hn2) hr (cps:=[(c,P)]) (by simpa using hC) (by simpa using hP) G.T.bmain hnt (λbase h1 h2 h3 h4=>hF base a ns hlen h1 h2 (h3 (c,P) (by simp)) h4) hb
theorem y8{K:Frag}{f c:ai}{st:fv}{n:Str}{ps:Ax}(h:cJ K f=some (fnOf n n (pO st) (mO st) (aZ st) .none .none .none .none none (.ref c) .none))(hc:codeIn K (.ref c) n=true)(hk:keepIn K (.ref f)=true)(hb:∀(kV doc pm:af)(an:Option ai)(cdv ct:af)(us:List af),us.length=ps.length->bindArgs (fnOf n n (pO st) (mO st) (aZ st) .none kV doc pm an cdv ct) ⟨us,[]⟩=pure (ps.zip us)):
  ∃fd:bh,Fun K n n st f fd/\Binds K fd ps []/\fd.code=.ref c/\∀us:List af,us.length=ps.length->bindArgs fd ⟨us,[]⟩=pure (ps.zip us):=by
 obtain⟨oc,od,kV,dc,pm,an,ct,sl,e⟩:=UP h;exact⟨_,LC e hc hk,(LC e hc hk).binds hb,rfl,hb kV dc pm an (.ref c) ct⟩
theorem walkK2{β:Type}{ob:Frag->β}{obE:β}{l:OpenLaw}{n k:Nat}{q:bj}{cO:Ax}{XP:(Str->Option af)->cy->Prop}{d:zr}{x:Str}(nm:Str)(hn:l.most=some n)(hn2:n<=cg)(hdf:d.params.defaults=[])(hr:Bx k callerA)(Et:∃d2:zr,(recsOf q).find? (λe=>e.name==nm)=some d2/\d2.name=nm)(F:∀(K:Frag)(w:cn)(mg:Str->Option af)(fa:ai)(h:cy),ob K=obE->noTabs K=true->K.In h->h.Ns dz mg->mg d.name=some (.ref fa)->
   ∃(fd:bh)(c P:ai),(∀(s:ag)(u:af),xq s fd ⟨[u],[]⟩ [(x,u)])/\tabIn K nm=some (c,P)/\noTabs K=true/\
    ∀(base:cy)(a:ai)(ns:y'),ns.length<=n->K.In base->base.Ns dz mg->CodeHd base c P->qX mg base->Lawful l.prog w K mg base k fa fd x [P] a ns):
  WalkO q cO XP (Ys ob obE) l.row.toRowW d [] (λf vs=>xu f vs):=by
 refine Att.attach_call hn hdf λw s₀ s₁ mg mb fa o pm cd doc a vs ns G Y ho hd hcd hmg Fq hints hlen hg=>?_;obtain⟨K,KX,hnt',hob⟩:=Y;obtain⟨fd,c,P,hb,ht,hnt,hF⟩:=F K w mg fa _ hob hnt' KX G.T.g hmg;obtain⟨d2,hf,hnm⟩:=Et;have hf':(recsOf q).find? (λe=>e.name==d2.name)=some d2:=by rw[hnm];exact hf
 obtain⟨hC,hP⟩:=tab_of G.T KX hf' (by rw[hnm];exact ht);exact E9 KX G.T.g G.T.b G.T.builtins G.T.nolimit hg Fq hints (dh hlen hn2) hr (cps:=[(c,P)]) (by simpa using hC) (by simpa using hP) G.T.bmain hnt (λbase h1 h2 h3 h4=>hF base a ns hlen h1 h2 (h3 (c,P) (by simp)) h4) hb
theorem y9{p:ai}{q:Str}:∀P lq,(if P=p then some q else none)=some lq->P∈[p]:=λP lq h=>by
 by_cases z:P=p
 ·simp[z]
 ·rw[if_neg z]at h;cases h
theorem zb1{β:Type}{ob:Frag->β}{obE:β}{l:OpenLaw}{n k:Nat}{q:bj}{cO:Ax}{XP:(Str->Option af)->cy->Prop}{d:zr}{x:Str}(nm nm':Str)(hn:l.most=some n)(hn2:n<=cg)(hdf:d.params.defaults=[])(hr:Bx k callerA)(Et:∃d2:zr,(recsOf q).find? (λe=>e.name==nm)=some d2/\d2.name=nm)(hfind':∃d2:zr,(recsOf q).find? (λe=>e.name==nm')=some d2/\d2.name=nm')(F:∀(K:Frag)(w:cn)(mg:Str->Option af)(fa:ai)(h:cy),ob K=obE->noTabs K=true->K.In h->h.Ns dz mg->mg d.name=some (.ref fa)->
   ∃(fd:bh)(c P c' P':ai),(∀(s:ag)(u:af),xq s fd ⟨[u],[]⟩ [(x,u)])/\tabIn K nm=some (c,P)/\tabIn K nm'=some (c',P')/\noTabs K=true/\
    ∀(base:cy)(a:ai)(ns:y'),ns.length<=n->K.In base->base.Ns dz mg->CodeHd base c P->CodeHd base c' P'->qX mg base->Lawful l.prog w K mg base k fa fd x [P,P'] a ns):
  WalkO q cO XP (Ys ob obE) l.row.toRowW d [] (λf vs=>xu f vs):=by
 refine Att.attach_call hn hdf λw s₀ s₁ mg mb fa o pm cd doc a vs ns G Y ho hd hcd hmg Fq hints hlen hg=>?_;obtain⟨K,KX,hnt',hob⟩:=Y;obtain⟨fd,c,P,c',P',hb,ht,Fp,hnt,hF⟩:=F K w mg fa _ hob hnt' KX G.T.g hmg;obtain⟨d2,hf,hnm⟩:=Et;obtain⟨d3,hf3,hnm3⟩:=hfind';obtain⟨hC,hP⟩:=tab_of G.T KX (by rw[hnm];exact hf:(recsOf q).find? (λe=>e.name==d2.name)=some d2) (by rw[hnm];exact ht);obtain⟨hC',hP'⟩:=tab_of G.T KX (by rw[hnm3];exact hf3:(recsOf q).find? (λe=>e.name==d3.name)=some d3) (by rw[hnm3];exact Fp);refine E9 KX G.T.g G.T.b G.T.builtins G.T.nolimit hg Fq hints (dh hlen hn2) hr (cps:=[(c,P),(c',P')]) (λy hy=>?_) (λy hy=>?_) G.T.bmain hnt (λbase h1 h2 h3 h4=>hF base a ns hlen h1 h2 (h3 (c,P) (by simp)) (h3 (c',P') (by simp)) h4) hb
 ·rcases aw.mp hy with rfl|hy
  ·exact hC
  ·rw[cc.mp hy];exact hC'
 ·rcases aw.mp hy with rfl|hy
  ·exact hP
  ·rw[cc.mp hy];exact hP'
theorem dB{F:List (Frag->Bool)}{K:Frag}(h:F.all (λf=>f K)=true)(i:Nat){g:Frag->Prop}[∀K,Decidable (g K)](e:F[i]?=some (λK=>decide (g K)):=by rfl):g K:=dA h i e
theorem cM{K:Frag}{h:cy}{mg:Str->Option af}{n:Str}{v:af}{F:List (Frag->Bool)}(X:K.In h)(G:h.Ns dz mg)(hc:F.all (λf=>f K)=true)(i:Nat)(e:F[i]?=some (λK=>decide (nsIn K dz n=some (some v))):=by rfl):mg n=some v:=mg_of X G (dA hc i e)
theorem FC{env:Env}{x:Str}:∀{l:List (Str×mq)},l.lookup x=some .free->(l.map λ(n,k)=>if(k==dj&&env.scope.kind==.function&&env.kindOf n==some .cell)then(n,dy)else(n,k)).lookup x≠some .local
 |[],h=>by simp at h
 |(n,q)::r,h=>by
  rw[jr]at h;rw[du]
  cases e:x==n with
  |true=>
   rw[e]at h;have hq:q=.free:=de h;subst hq;dsimp only
   split
   ·rw[jr,e];simp
   ·rw[jr,e];simp
  |false=>
   rw[e]at h;dsimp only
   split
   ·rw[jr,e];exact FC h
   ·rw[jr,e];exact FC h
theorem z00{X:Cx}{sc os:gf}{oN N:Ax}{cap:List (Option Nat)}(hs:X.env.scope.names=os.names)(hN:X.N=oN)(h1:sc.kind=.function)(h2:∀p∈sc.names,p.2=.local->sc.names.lookup p.1=some .local)(h3:cap.length=N.length)(h4:∀p∈sc.names,p.2=.free->os.names.lookup p.1=some .cell∨os.names.lookup p.1=some .free)(h5:∀p∈sc.names,p.2=.free->(p.1,dy)∉sc.names)(h6:∀q∈cap.zip N,∀j∈q.1,oN[j]?=some q.2/\sc.names.lookup q.2=some .free):Cc X sc N cap:=by
 refine⟨h1,h2,h3,λx hx=>?_,λx hx=>h5 _ hx rfl,λi j x e1 e2=>?_⟩
 ·have:=h4 _ hx rfl;rw[<-hs]at this;exact this
 ·have hm:(some j,x)∈cap.zip N:=dw (i:=i) (yq.mpr ⟨e1,e2⟩);obtain⟨a,b⟩:=h6 _ hm j rfl;rw[hN];refine⟨a,jz b,?_⟩;exact FC b
def eX:Dv->Dv->Hs->Rs Dv:=gQ λi j=>.int (i-j)
def pV:Dv->Dv->Hs->Rs Dv:=lV zG λi j=>.int (i*j)
def jF:Dv->Dv->Hs->Rs Dv:=lV tD λi j=>.int (i%j)
def vW:Dv->Dv->Hs->Rs Dv:=lV vE λi j=>.int (i^j.toNat)
def NM:Dv->Dv->Hs->Rs Dv:=gQ λi j=>.bl (decide (i<j))
def gL:Dv->Dv->Hs->Rs Dv:=gQ λi j=>.bl (decide (i<=j))
def qZ:Dv->Dv->Hs->Rs Dv:=gQ λi j=>.bl (decide (i>j))
def pW:Dv->Dv->Hs->Rs Dv:=gQ λi j=>.bl (decide (i>=j))
section
variable{k:Nat}{a b:bq}{ma mb:M Dv}{pos:Pos}
theorem oW(ha:aI X G E a ma)(hb:aI X G E b mb):aI X G E (.BinOp a .Sub b pos) (m2 eX ma mb):=qR W8 ZM ha hb
theorem tL(ha:aI X G E a ma)(hb:aI X G E b mb):aI X G E (.BinOp a .Mult b pos) (m2 pV ma mb):=qR W9 (zF ZN) ha hb
theorem rA(ha:aI X G E a ma)(hb:aI X G E b mb):aI X G E (.BinOp a .Mod b pos) (m2 jF ma mb):=qR XA (zF ZO) ha hb
theorem NN(ha:aI X G E a ma)(hb:aI X G E b mb):aI X G E (.BinOp a .Pow b pos) (m2 vW ma mb):=qR XB (zF ZP) ha hb
theorem vX(ha:aI X G E a ma):aI X G E (.UnaryOp .USub a pos) (m1 lF ma):=ZI XD v7 ha
theorem z01(ha:aI X G E a ma)(hb:aI X G E b mb):aI X G E (.Compare a [.GtE] [b] pos) (m2 pW ma mb):=sX J5 lW ha hb (lQ _)
theorem tM(g:Good X G E k)(ha:aI X G E a ma)(hb:aI X G E b mb):aI X G E (.Compare a [.Eq] [b] pos) (m2 cE ma mb):=sX (L7 g.room.units) L9 ha hb (lQ _)
theorem z02(g:Good X G E k)(ha:aI X G E a ma)(hb:aI X G E b mb):aI X G E (.Compare a [.NotEq] [b] pos) (m2 dR ma mb):=sX (L8 g.room.units) MA ha hb (lQ _)
theorem z03(ha:aI X G E a ma)(hb:aI X G E b mb):fS X G E (.Compare a [.LtE] [b] pos) (mB (m2 gL ma mb)):=oM sP lW ha hb (lQ _)
theorem NO(ha:aI X G E a ma)(hb:aI X G E b mb):fS X G E (.Compare a [.Gt] [b] pos) (mB (m2 qZ ma mb)):=oM XF lW ha hb (lQ _)
theorem z04(ha:aI X G E a ma)(hb:aI X G E b mb):fS X G E (.Compare a [.GtE] [b] pos) (mB (m2 pW ma mb)):=oM J5 lW ha hb (lQ _)
theorem lY(g:Good X G E k)(ha:aI X G E a ma)(hb:aI X G E b mb):fS X G E (.Compare a [.Eq] [b] pos) (mB (m2 cE ma mb)):=oM (L7 g.room.units) L9 ha hb (lQ _)
theorem pX(g:Good X G E k)(ha:aI X G E a ma)(hb:aI X G E b mb):fS X G E (.Compare a [.NotEq] [b] pos) (mB (m2 dR ma mb)):=oM (L8 g.room.units) MA ha hb (lQ _)
variable{c:bq}{mc:M Dv}
theorem z05(ha:aI X G E a ma)(hb:aI X G E b mb)(hc:aI X G E c mc)(hm:lastMarks [.LtE,.LtE] [b,c]=false:=by with_unfolding_all rfl):aI X G E (.Compare a [.LtE,.LtE] [b,c] pos) (kL gL gL ma mb mc):=ZH sP sP lW lW ha hb hc hm
theorem z06(ha:aI X G E a ma)(hb:aI X G E b mb)(hc:aI X G E c mc)(hm:lastMarks [.LtE,.LtE] [b,c]=false:=by with_unfolding_all rfl):fS X G E (.Compare a [.LtE,.LtE] [b,c] pos) (mB (kL gL gL ma mb mc)):=L1 sP sP lW lW ha hb hc hm
theorem z07(ha:aI X G E a ma)(hb:aI X G E b mb)(hc:aI X G E c mc)(hm:lastMarks [.LtE,.Lt] [b,c]=false:=by with_unfolding_all rfl):fS X G E (.Compare a [.LtE,.Lt] [b,c] pos) (mB (kL gL NM ma mb mc)):=L1 sP DN lW lW ha hb hc hm
end
def vY:Ty->Option Bool
 |.bl=>some true|.int=>some true|.exc _=>none|_=>some false
def vZ:Ty->Option Bool
 |.bl=>some true|.exc _=>none|_=>some false
def rB:Ty->Option Bool
 |.tup=>some true|.exc _=>none|_=>some false
def wC:Ty->Option Bool
 |.lst=>some true|.exc _=>none|_=>some false
section
variable{K:au}{cl:Nat->ai}
theorem z08:∀ty bb,vY ty=some bb->ud K (qW cl ty) (.type "int")=some bb:=by intro ty bb h;cases ty<;>first|(cases h;rfl)|cases h
theorem z09:∀ty bb,vZ ty=some bb->ud K (qW cl ty) (.type "bool")=some bb:=by intro ty bb h;cases ty<;>first|(cases h;rfl)|cases h
theorem z0a:∀ty bb,rB ty=some bb->ud K (qW cl ty) (.type "tuple")=some bb:=by intro ty bb h;cases ty<;>first|(cases h;rfl)|cases h
theorem z0b:∀ty bb,wC ty=some bb->ud K (qW cl ty) (.type "list")=some bb:=by intro ty bb h;cases ty<;>first|(cases h;rfl)|cases h
end
theorem z0c:di "int"=some (.type "int"):=by decide+kernel
theorem z0d:di "bool"=some (.type "bool"):=by decide+kernel
section
variable{a:bq}{ma:M Dv}{p q r pos:Pos}
theorem z0e(hg:Gl X "isinstance")(hm:X.mg "isinstance"=none)(Fs:Gl X "int")(hm':X.mg "int"=none)(ha:aI X G E a ma)(he:ar [a,.Name "int" q] X.env=[(false,eval a X.env),(false,eval (.Name "int" q) X.env)]:=by rfl):
  aI X G E (.Call (.Name "isinstance" p) [a,.Name "int" q] [] pos) (m1 (iG vY) ma):=zO hg hm ha (zN Fs hm' z0c) (.inl ⟨_,rfl⟩) rfl z08 (λc bb h=>by cases h) he
theorem z0f(hg:Gl X "isinstance")(hm:X.mg "isinstance"=none)(Fs:Gl X "bool")(hm':X.mg "bool"=none)(ha:aI X G E a ma)(he:ar [a,.Name "bool" q] X.env=[(false,eval a X.env),(false,eval (.Name "bool" q) X.env)]:=by rfl):
  aI X G E (.Call (.Name "isinstance" p) [a,.Name "bool" q] [] pos) (m1 (iG vZ) ma):=zO hg hm ha (zN Fs hm' z0d) (.inl ⟨_,rfl⟩) rfl z09 (λc bb h=>by cases h) he
theorem FD(hg:Gl X "isinstance")(hm:X.mg "isinstance"=none)(Fs:Gl X "tuple")(hm':X.mg "tuple"=none)(ha:aI X G E a ma)(he:ar [a,.Name "tuple" q] X.env=[(false,eval a X.env),(false,eval (.Name "tuple" q) X.env)]:=by rfl):
  aI X G E (.Call (.Name "isinstance" p) [a,.Name "tuple" q] [] pos) (m1 (iG rB) ma):=zO hg hm ha (zN Fs hm' EO) (.inl ⟨_,rfl⟩) rfl z0a (λc bb h=>by cases h) he
theorem z0g(hg:Gl X "isinstance")(hm:X.mg "isinstance"=none)(Fs:Gl X "list")(hm':X.mg "list"=none)(ha:aI X G E a ma)(he:ar [a,.Name "list" q] X.env=[(false,eval a X.env),(false,eval (.Name "list" q) X.env)]:=by rfl):
  aI X G E (.Call (.Name "isinstance" p) [a,.Name "list" q] [] pos) (m1 (iG wC) ma):=zO hg hm ha (zN Fs hm' ER) (.inl ⟨_,rfl⟩) rfl z0b (λc bb h=>by cases h) he
end
section
variable{P:bj}{w:cn}{K:au}{mg:Str->Option af}{base:cy}{f:ai}{G:Cfg}{k:Nat}{N:Ax}
theorem z0h{x qual:Str}{st:fv}{fd:bh}{ps:Ax}{mb:MS}(Fn:Fun K x qual st f fd)(S:Bd N ps (aZ st))(hK:K=G.K)(Ew:∀(cdv:af)(A:cq)(outer:List Env)(s:ag)(H:Hp)(E₀ E:XK),fd.code=cdv->Good (mM (cB P w base) P w K mg base N qual (aZ st) f cdv A outer s H E₀) G E k->mR (mM (cB P w base) P w K mg base N qual (aZ st) f cdv A outer s H E₀) G E (mO st) mb):
  Bj P w K mg base (cB P w base) (k+1) f fd ps (cH G (aT ps.length N.length mb)):=by
 obtain⟨oc,od,kV,doc,pm,an,cdv,ct,osl,rfl,lk,hcd⟩:=Fn.ex;have hlen:∀vs H Q E,cH G (aT ps.length N.length mb) vs H Q E->vs.length=ps.length:=λvs H Q E⟨μ,h,ds,r,sm,o⟩=>by
  rw[r.length];unfold aT at o
  by_cases hd:ds.length=ps.length
  ·exact hd
  ·rw[if_neg hd]at o;exact o.elim
 refine KL lk hcd S hlen λA outer s H vs Q E hr hsp=>?_;have hl:=hlen _ _ _ _ hsp;obtain⟨μ,h,ds,r,sm,o⟩:=hsp;have o':Out G E μ h.length H (bN (mb (dJ N.length ds) h)) (Be G) Q:=by unfold aT at o;rw[if_pos (by rw[<-r.length];exact hl)]at o;exact o
 refine⟨_,Ew cdv A outer s H E (EB G μ h.length H (mb (dJ N.length ds) h)) rfl (MT hr hK (λu H'⟨c,h',μ',er,x,s',fl⟩=>?_) MV) hK,?_⟩
 ·rw[er]at o';exact o' μ' H' u x s' fl
 ·refine⟨μ,dJ N.length ds,h,MU r N,sm,?_⟩
  cases q:mb (dJ N.length ds) h with
  |bad=>rw[q]at o';exact o'.elim
  |bk ρ h'=>rw[q]at o';exact o'.elim
  |ct ρ h'=>rw[q]at o';exact o'.elim
  |rt d h'=>rw[q]at o';exact o'
  |nx ρ h'=>rw[q]at o';exact λμ' H' σ' x' s' rs'=>o' μ' H' .non x' s' rfl
  |ex c h'=>exact λμ' H' u x' s' fl=>⟨c,h',μ',rfl,x',s',fl⟩
end
def eE:Dv->Bool
 |.scr=>false
 |_=>true
def aO(x y:Dv)(h:Hs):Rs Dv:=if eE x=true then eO [] x y h else .bad
def dU(x:Dv)(h:Hs):Rs Dv:=if eE x=true then iC [] x h else .bad
def rD(x:Dv)(h:Hs):Rs Dv:=if eE x=true then vF [] x h else .bad
def cN(neg:Bool)(x y:Dv)(h:Hs):Rs Dv:=if eE y=true then lE [] neg x y h else .bad
theorem FE{scr:y'}{x:Dv}{h:Hs}(e:eE x=true):fX [] x h=fX scr x h:=by cases x<;>first|rfl|cases e
section
variable{k:Nat}{a b e:bq}{es:List bq}{ma mb:M Dv}{aM:M Az}{p pos:Pos}
theorem z0i:fU G (DU G.K) aO:=by
 intro E μ h H x y vx vy Q s rx ry o;unfold aO at o
 split at o
 ·rename_i hx;refine MB E μ h H x y vx vy Q s rx ry ?_;have e:eO G.scr x y h=eO [] x y h:=by cases x<;>cases y<;>first|rfl|exact absurd hx (by decide)
  rw[e];exact o
 ·exact o.elim
theorem z0j:jY G (MG G.K) dU:=by
 intro E μ h H x vx Q s rx o;unfold dU at o
 split at o
 ·rename_i hx;refine MH E μ h H x vx Q s rx ?_;unfold iC at o⊢;rw[<-FE hx];exact o
 ·exact o.elim
theorem z0k:jY G (λx H Q=>∃p ys,x=.ref p/\(By G.K H p ys∨Bu G.K H p ys)/\∀l,H l=none->Q (.ref l) (bI H l (.lst ys))) rD:=by
 intro E μ h H x vx Q s rx o;unfold rD at o
 split at o
 ·rename_i hx;refine Z0 E μ h H x vx Q s rx ?_;unfold vF at o⊢;rw[<-FE hx];exact o
 ·exact o.elim
theorem zW(neg:Bool):fU G (zS G.K neg) (cN neg):=by
 intro E μ h H x y vx vy Q s rx ry o;unfold cN at o
 split at o
 ·rename_i hx;refine q9 neg E μ h H x y vx vy Q s rx ry ?_;unfold lE at o⊢;rw[<-FE hx];exact o
 ·exact o.elim
theorem dG(ha:aI X G E a ma)(hb:aI X G E b mb)(hs:DS b:=by intro _ _;rfl):aI X G E (.Subscript a b pos) (m2 aO ma mb):=λhK=>Gh (KY (by have:=K2 (X:=X);rw[hK]at this;exact this) (ha hK) (hb hK) hs) λ_ _ _ t=>vD z0i t
theorem mY(hg:Gl X "len")(hm:X.mg "len"=none)(ha:dP X G E (e::es) aM)(he:ar (e::es) X.env=(false,eval e X.env)::ar es X.env:=by rfl)(Co:(backTo pos (ar es X.env)).any (·.1)=false:=by rfl):aI X G E (.Call (.Name "len" p) (e::es) [] pos) (aB (f1 dU) aM):=λhK=>
 oP (Bi.imp (K4 (X:=X)) λxs H Q⟨v,h1,a,ys,h2,h3,h4⟩=>⟨a,ys,by rw[h1,h2],by rw[hK];exact h3,h4⟩) (oQ z0j) hg hm PySem.boot_len ha (by decide) (by decide) he Co hK
theorem z0l(hg:Gl X "list")(hm:X.mg "list"=none)(ha:dP X G E (e::es) aM)(he:ar (e::es) X.env=(false,eval e X.env)::ar es X.env:=by rfl)(Co:(backTo pos (ar es X.env)).any (·.1)=false:=by rfl):aI X G E (.Call (.Name "list" p) (e::es) [] pos) (aB (f1 rD) aM):=λhK=>
 MF (Bi.imp (YU (X:=X)) λxs H Q⟨v,h1,a,ys,h2,h3,h4⟩=>⟨a,ys,by rw[h1,h2],by rw[hK];exact h3,h4⟩) (oQ z0k) hg hm ER ha (by decide) (by decide) he Co hK
end
theorem z0m(h l:Hs)(k:Nat):getL (h++l) (h.length+k)=getL l k:=by unfold getL;rw[jh (by lia),show h.length+k-h.length=k by lia]
theorem z0n(h l:Hs):getL (h++l) h.length=getL l 0:=z0m h l 0
def eY:Dv->Option Int
 |.int i=>some i
 |_=>none
theorem mZ{G:Cfg}{μ:Nat->ai}{n:Nat}{H:Hp}:∀{xs:Az}{vs:Gx}{ns:y'},RelDL G μ n H xs vs->bU eY xs=some ns->vs=ns.map Ga
 |[],_,ns,r,e=>by cases e;rw[RelDL]at r;subst r;rfl
 |x::xs,_,ns,r,e=>by
  rw[RelDL]at r;obtain⟨v,rr,rfl,r1,r2⟩:=r;unfold bU at e
  cases x with
  |int i=>
   dsimp only[eY]at e
   cases q:bU eY xs with
   |none=>rw[q]at e;cases e
   |some zs=>rw[q]at e;cases e;rw[Be]at r1;subst r1;rw[mZ r2 q];rfl
  |_=>cases e
theorem NP(ns:y'):∀k,k<=ns.length->preSum (λi=>ns.getD i 0) k=(ns.take k).sum
 |0,_=>by simp[preSum]
 |k+1,h=>by
  rw[preSum,NP ns k (by lia),List.take_succ,List.sum_append];have:k<ns.length:=by lia
  simp[pb,this]
section
variable{e a b:bq}{es:List bq}{ma mb:M Dv}{aM:M Az}{p pos:Pos}
theorem pY{ns:y'}{its:List af}(rv:Bf (ns.map Ga) its){i:Nat}{v:af}(e:its.toArray[i]?=some v):∃t,v=.int (ns.getD i 0) t:=by
 have hl:=rv.length;rw[ax]at hl;have e':its[i]?=some v:=by simpa using e
 have hi:i<its.length:=(bw.mp e').1;have hb:i<ns.length:=by lia
 obtain⟨u,e2,r⟩:=rv.get (i:=i) (x:=Ga ns[i]) (by simp[hb]);rw[e']at e2;cases e2;have hg:ns.getD i 0=ns[i]:=by simp[pb,hb]
 rw[hg];exact r
theorem z0o(hc:X.calm=true):Bi X (.builtin "sum") (λxs H Q=>∃(p:ai)(ns:y'),xs=[.ref p]/\H p=some (.lst (ns.map Ga))/\Q (.int ns.sum) H):=by
 intro pins s σ H xs us Q I rv ⟨p,ns,e,hp,q⟩;subst e;obtain⟨u,rfl,ru⟩:=gO rv;cases ru;obtain⟨its,rits,pl,hz⟩:=I.list (Gi hp);have hn:its.toArray.size=ns.length:=by have:=rits.length;simp at this⊢;lia
 have lp:=I.hok.lt hp;have ne:p≠s.heap.objs.size:=bc lp;refine call_sum_walkG (jo pl.isList ⟨_,_,_,_,_,_,λi=>ns.getD i 0,rfl,ow (A:=X.A.in1) (show X.A.in1.handled=none from I.ok.hd hc) _ p ne its.toArray,⟨⟨_,az _ rfl,rfl,rfl⟩,pl.isList.push _⟩,λb hb=>?_,λi v ev=>pY rits ev,λh' tk t' k=>?_⟩)
 ·simp only[ed];simp at hb
  rcases hb with rfl|rfl
  ·exact jv _
  ·exact fi lp
 ·rw[hn,NP ns _ (aq _),List.take_length];exact⟨.int ns.sum,H,(vN (tk:=tk) I k:Inv X pins σ H {s with heap:=h',toks:=tk}),⟨t',rfl⟩,q⟩
def iV(x:Dv)(h:Hs):Rs Dv:=match x with
 |.ref i=>match getL h i with
  |some xs=>match bU eY xs with
   |some ns=>.ok (.int ns.sum) h
   |none=>.bad
  |none=>.bad
 |_=>.bad
theorem z0p:jY G (λx H Q=>∃(p:ai)(ns:y'),x=.ref p/\H p=some (.lst (ns.map Ga))/\Q (.int ns.sum) H) iV:=by
 intro E μ h H x vx Q s r o
 cases x with
 |ref i=>
  dsimp only[iV]at o
  cases q:getL h i with
  |none=>rw[q]at o;exact o.elim
  |some xs=>
   rw[q]at o;dsimp only at o
   cases q2:bU eY xs with
   |none=>rw[q2]at o;exact o.elim
   |some ns=>rw[q2]at o;obtain⟨vs,e1,r1⟩:=s.ob i _ (dW q);obtain⟨_,rfl⟩:=r;exact⟨_,ns,rfl,by rw[e1,mZ r1 q2],o.val s rfl⟩
 |_=>exact o.elim
theorem z0q:di "sum"=some (.builtin "sum"):=by decide+kernel
theorem zX(hc:X.calm=true)(hg:Gl X "sum")(hm:X.mg "sum"=none)(ha:dP X G E (e::es) aM)(he:ar (e::es) X.env=(false,eval e X.env)::ar es X.env:=by rfl)(Co:(backTo pos (ar es X.env)).any (·.1)=false:=by rfl):aI X G E (.Call (.Name "sum" p) (e::es) [] pos) (aB (f1 iV) aM):=
 oP (Bi.imp (z0o hc) λxs H Q⟨v,h1,a,ns,h2,h3,h4⟩=>⟨a,ns,by rw[h1,h2],h3,h4⟩) (oQ z0p) hg hm z0q ha (by decide) (by decide) he Co
def rF:Dv->Dv->Hs->Rs Dv
 |.ref i,.int k,h=>match getL h i with
  |some xs=>if(iB k&&decide (k<9223372036854775808)&&decide (-9223372036854775808<=k)&&decide (xs.length*k.toNat<=1000000))=true then .ok (.ref h.length) (h++[.lst (bx k.toNat xs).flatten])else .bad
  |none=>.bad
 |_,_,_=>.bad
theorem RelDL.rep{μ:Nat->ai}{n:Nat}{H:Hp}{ds:Az}{vs:Gx}(r:RelDL G μ n H ds vs):∀k:Nat,RelDL G μ n H (bx k ds).flatten (bx k vs).flatten
 |0=>Gj
 |k+1=>by rw[jk,jk,mm,mm];exact r.append (RelDL.rep r k)
theorem z0r:fU G LB rF:=by
 intro E μ h H x y vx vy Q s rx ry o
 cases x with
 |ref i=>
  cases y with
  |int k=>
   dsimp only[rF]at o
   cases q:getL h i with
   |none=>rw[q]at o;exact o.elim
   |some xs=>
    rw[q]at o;dsimp only at o
    split at o
    ·rename_i hb;simp only[cu,decide_eq_true_eq]at hb;obtain⟨⟨⟨_,h1⟩,h2⟩,h3⟩:=hb;obtain⟨vs,e1,r1⟩:=s.ob i _ (dW q);obtain⟨_,rfl⟩:=rx;rw[Be]at ry;subst ry;refine⟨_,k,vs,rfl,rfl,e1,by lia,by lia,by rw[r1.length];exact dh h3 (by decide),λp hp=>?_⟩;exact mP s (r1.rep k.toNat) hp o
    ·exact o.elim
  |_=>exact o.elim
 |_=>cases y<;>exact o.elim
theorem z0s(ha:aI X G E a ma)(hb:aI X G E b mb):aI X G E (.BinOp a .Mult b pos) (m2 rF ma mb):=qR Y3 z0r ha hb
end
def NQ(K:au)(l:ai):It:=⟨λi H=>∃xs x,By K H l xs/\xs[i]?=some x,λi H x H'=>∃pp v,x=.ref pp/\H pp=none/\H'=bI H pp (.tup [.int i,v])/\∀xs,By K H l xs->xs[i]?=some v,λi H=>∃xs,By K H l xs/\xs.length<=i⟩
def z0t(e it l:ai)(i:Nat)(h:cy):Prop:=(∃old,IsEnum h e it i old)/\h.IsListIter it l i
theorem z0u{P:bj}{w:cn}{K:au}{elts:List bq}{kk:Nat}{tp:Pos}{e it l:ai}(hei:e≠it):Turn P w K (.Tuple elts kk tp) (NQ K l) [e,it] e (z0t e it l) where
 mem:=by simp
 obj:=λi h st b hb=>by
  obtain⟨⟨old,he⟩,o,ho,_,hd⟩:=st;simp at hb
  rcases hb with rfl|rfl
  ·exact⟨_,he,λv q=>by cases q⟩
  ·exact⟨_,ho,λv q=>by rw[hd]at q;cases q⟩
 keep:=λi h h' st k=>by obtain⟨⟨old,he⟩,hit⟩:=st;exact⟨⟨old,k _ (by simp) _ he⟩,hit.at λo q=>k it (by simp) o q⟩
 item:=by
  intro X hP hw hK hc i pins s σ H E I hf st hg;subst hP hw hK;obtain⟨xs,x,hq,hx⟩:=hg;obtain⟨its,rv,p,hz⟩:=I.list hq;obtain⟨u,hu,ru⟩:=rv.get hx;obtain⟨⟨old,he⟩,hit⟩:=st;refine wpAny_pyNext_enum_item he hit p.isList (x:=u) (by simpa using hu) hei λh' ho hit' hT Cf hk=>⟨_,rfl,?_⟩
  refine wpAny_letOwnedTupleGo_enum ho λh2 Eo sb=>?_;have Te:s.heap.objs.size≠e:=jj (ay he);have nT:H s.heap.objs.size=none:=I.hok.fresh (aq _);have kp:∀b o,b∉[e,it]->s.heap.get? b=some o->h2.get? b=some o:=λb o hb q=>by simp at hb;exact sb.extBut _ _ hb.1 (hk b o hb.1 hb.2 q)
  have it2:h2.IsListIter it l (i+1):=hit'.at λo q=>(sb.2 it (dk hei)).trans q;have th:∀b∈[e,it],∃o,h2.get? b=some o:=λb hb=>by
   simp at hb
   rcases hb with rfl|rfl
   ·exact⟨_,Eo⟩
   ·obtain⟨o,q,_⟩:=it2;exact⟨_,q⟩
  have I1:=I.tok (s.toks+1);have I2:=Inv.turns (T:=s.heap.objs.size) (vs:=[.int i,x]) (its:=[.int i s.toks,u]) I1 hf kp th (aq _) (.cons ⟨_,rfl⟩ (.cons ru .nil)) (by show 2<=cg;decide) ⟨_,sb.extBut _ _ Te hT,rfl,rfl,_,rfl⟩;refine⟨.ref s.heap.objs.size,_,I2,rfl,⟨_,x,rfl,nT,rfl,λys hy=>by rw[I.list_inj hy hq];exact hx⟩,⟨⟨_,Eo⟩,it2⟩,λb hb=>?_⟩;obtain⟨o,q⟩:∃o,s.heap.get? b=some o:=by
   simp at hb
   rcases hb with rfl|rfl
   ·exact⟨_,he⟩
   ·obtain⟨o,q,_⟩:=hit;exact⟨_,q⟩
  rw[cU (bc (ay q))];exact(hf b hb).1
 done:=by
  intro X hP hw hK hc i pins s σ H E I hf st hg;subst hP hw hK;obtain⟨xs,hq,hx⟩:=hg;obtain⟨its,rv,p,hz⟩:=I.list hq;have hl:=rv.length;obtain⟨⟨old,he⟩,hit⟩:=st;refine wpAny_pyNext_enum_end (I.ok.hd hc) he hit p.isList (oh (by simp;lia)) λh' eb=>⟨rfl,?_⟩
  refine Inv.turns0 I hf λb o hb q=>?_;simp at hb;exact eb b o hb.2 q
 self:=λ_ _ _ _ _ st h=>by obtain⟨⟨old,he⟩,_⟩:=st;exact wpAny_pyIter_enum he h
section
variable{a:bq}{elts:List bq}{kk:Nat}{tp p pos:Pos}{ma:M Dv}{ms:M Az}
theorem z0v:di "enumerate"=some (.type "enumerate"):=by decide+kernel
def jS(i n:Nat):Src:=⟨n,λk h=>match getL h i with
 |some xs=>if xs.length=n then(xs[k]?).map λd=>.tup [.int k,d]else none
 |none=>none,λh=>match getL h i with
 |some xs=>xs.length==n
 |none=>false⟩
def nB:Az->Hs->Rs Src
 |[.ref i],h=>match getL h i with
  |some xs=>.ok (jS i xs.length) h
  |none=>.bad
 |_,_=>.bad
theorem NR(hg:Gl X "enumerate")(hm:X.mg "enumerate"=none)(ha:dP X G E [a] ms)(hs:ar [a] X.env=[(false,eval a X.env)]:=by rfl):
  hG X G E (.Tuple elts kk tp) (.Call (.Name "enumerate" p) [a] [] pos) (aM nB ms):=λhK pins s σ H R I⟨μ,ρ,h,rs,sm,o⟩=>by
 refine Call_ (oH I hg hm z0v (iu (bF (ha hK pos pins s σ H _ I (kJ rs sm o λμ1 ds h1 vs H1 x1 Bv s1 r1 o1=>show ∃l xs,vs=[.ref l]/\By X.K H1 l xs/\R (NQ X.K l) H1 from ?_)) λus s1⟨vs,H1,I1,r1,q1⟩=>?_) hs rfl))
 ·unfold nB at o1
  split at o1
  ·rename_i i
   cases q:getL h1 i with
   |none=>rw[q]at o1;exact o1.elim
   |some xs=>
    rw[q]at o1;obtain⟨v,rfl,rv⟩:=qU r1;obtain⟨_,rfl⟩:=rv;obtain⟨vs1,e1,r2⟩:=s1.ob i _ (dW q);refine⟨μ1 i,vs1,rfl,Gi e1,o1.val s1 ?_⟩;intro k μ2 h2 H2 x2 s2;have hi1:i<h1.length:=(bw.mp (dW q)).1;constructor
    ·intro hk d hd;dsimp only[jS]at hd
     cases q2:getL h2 i with
     |none=>rw[q2]at hd;cases hd
     |some ys=>
      rw[q2]at hd;dsimp only at hd
      split at hd
      ·obtain⟨ws,e3,r3⟩:=s2.ob i _ (dW q2);rw[x2.mu i hi1]at e3
       cases q3:ys[k]? with
       |none=>rw[q3]at hd;cases hd
       |some d'=>rw[q3]at hd;cases hd;obtain⟨v',ev,rv'⟩:=r3.get q3;refine⟨⟨ws,v',Gi e3,ev⟩,λx H' hy=>?_⟩;obtain⟨pp,v1,rfl,np,rfl,a1⟩:=hy;have b1:=a1 ws (Gi e3);rw[ev]at b1;cases b1;have smm:Cv H2 (bI H2 pp (.tup [.int k,v'])):=dQ np;exact⟨smm,pp,_,rfl,eR,Gg rfl (Gg (Gk (F' smm) _ _ rv') Gj)⟩
      ·cases hd
    ·intro hk hf;dsimp only[jS]at hf hk
     cases q2:getL h2 i with
     |none=>rw[q2]at hf;cases hf
     |some ys=>
      rw[q2]at hf;obtain⟨ws,e3,r3⟩:=s2.ob i _ (dW q2);rw[x2.mu i hi1]at e3;have hl:ys.length=xs.length:=by simpa using hf
      exact⟨ws,Gi e3,by rw[r3.length];lia⟩
  ·exact o1.elim
 ·obtain⟨l,xs,e,hq,q⟩:=q1;subst e;obtain⟨u1,rfl,e1⟩:=gO r1;cases e1;obtain⟨its,rv,p1,hz⟩:=I1.list hq;refine call_enumerate_list p1.isList λh' he hit Cf kp=>?_;have I2:Inv X pins σ H1 {s1 with heap:=h'}:=I1.kept (t':=s1.toks) kp;refine wpAny_pyIter_enum he ⟨s1.heap.objs.size+1,[s1.heap.objs.size+1,s1.heap.objs.size],_,_,H1,rfl,I2,z0u (l:=l) (lg _),⟨⟨_,he⟩,hit⟩,λb hb=>?_,q⟩;have hb':s1.heap.objs.size<=b:=by
   simp at hb
   rcases hb with rfl|rfl<;>lia
  exact I1.fpOk hb' (I1.hok.fresh hb')
end
def gF(g:Int->Int->Bool)(val:Nat->Int):Nat->Int
 |0=>val 0
 |k+1=>if g (val (k+1)) (gF g val k)then val (k+1)else gF g val k
theorem FF(g:Int->Int->Bool)(val:Nat->Int):∀k,val (argBest (λi j=>g (val i) (val j)) k)=gF g val k
 |0=>rfl
 |k+1=>by
  rw[argBest,gF,<-FF g val k]
  split<;>rfl
def cY(ns:y'):Int:=gF (λa b=>decide (a>b)) (λi=>ns.getD i 0) (ns.length-1)
def hJ(ns:y'):Int:=gF (λa b=>decide (a<b)) (λi=>ns.getD i 0) (ns.length-1)
def rG(x:Int):y'->y'
 |[]=>[x]
 |y::ys=>if x<=y then x::y::ys else y::rG x ys
def iH:y'->y'
 |[]=>[]
 |x::xs=>rG x (iH xs)
theorem ins_perm(x:Int):∀ys,(rG x ys).Perm (x::ys)
 |[]=>wd _
 |y::ys=>by
  unfold rG
  split
  ·exact wd _
  ·exact((ins_perm x ys).cons y).trans (we x y ys)
theorem FG:∀xs,(iH xs).Perm xs
 |[]=>wd _
 |x::xs=>(ins_perm x (iH xs)).trans ((FG xs).cons x)
theorem NS(x:Int):∀ys,ys.Pairwise (·<=·)->(rG x ys).Pairwise (·<=·)
 |[],_=>by simp[rG]
 |y::ys,h=>by
  have h1:=df.mp h;unfold rG
  split
  ·rename_i hxy;refine df.mpr ⟨λz hz=>?_,h⟩
   rcases aw.mp hz with rfl|hz
   ·exact hxy
   ·exact Int.le_trans hxy (h1.1 z hz)
  ·rename_i hxy;refine df.mpr ⟨λz hz=>?_,NS x ys h1.2⟩
   rcases aw.mp ((ins_perm x ys).subset hz)with rfl|hz
   ·lia
   ·exact h1.1 z hz
theorem NT:∀xs,(iH xs).Pairwise (·<=·)
 |[]=>pw
 |x::xs=>NS x _ (NT xs)
theorem z0w{ms ns:y'}(hp:ms.Perm ns)(hs:ms.Pairwise (·<=·)):ms=iH ns:=List.Perm.eq_of_pairwise (le:=(·<=·)) (λa b _ _ h1 h2=>Int.le_antisymm h1 h2) hs (NT ns) (hp.trans (FG ns).symm)
theorem FH(xs:y'):(iH xs).length=xs.length:=(FG xs).length_eq
section
variable{e a b:bq}{es:List bq}{ma mb:M Dv}{aM:M Az}{p pos:Pos}
abbrev FI(f:y'->Int):Gx->Hp->VK->Prop:=λxs H Q=>∃(p:ai)(ns:y'),xs=[.ref p]/\H p=some (.lst (ns.map Ga))/\0<ns.length/\Q (.int (f ns)) H
theorem z0x(hc:X.calm=true):Bi X (.builtin "max") (FI cY):=by
 intro pins s σ H xs us Q I rv ⟨p,ns,e,hp,h0,q⟩;subst e;obtain⟨u,rfl,ru⟩:=gO rv;cases ru;obtain⟨its,rits,pl,hz⟩:=I.list (Gi hp);have hn:its.toArray.size=ns.length:=by have:=rits.length;simp at this⊢;lia
 have lp:=I.hok.lt hp;have ne:p≠s.heap.objs.size:=bc lp;refine call_max_walk (jo pl.isList ⟨_,_,_,_,_,_,_,rfl,ow (A:=X.A.in1) (show X.A.in1.handled=none from I.ok.hd hc) _ p ne its.toArray,⟨⟨_,az _ rfl,rfl,rfl⟩,pl.isList.push _⟩,λb hb=>?_,by rw[hn];exact h0,CmpOf.ints_gt (λi=>ns.getD i 0) (λi v ev=>pY rits ev),λv h' tk ev k=>?_⟩)
 ·simp only[ed];simp at hb
  rcases hb with rfl|rfl
  ·exact jv _
  ·exact fi lp
 ·obtain⟨t',rfl⟩:=pY rits ev;refine⟨.int (cY ns),H,(vN (tk:=tk) I k:Inv X pins σ H {s with heap:=h',toks:=tk}),⟨t',?_⟩,q⟩;rw[hn];rw[FF (λa b=>decide (a>b)) (λi=>ns.getD i 0)];rfl
theorem z0y(hc:X.calm=true):Bi X (.builtin "min") (FI hJ):=by
 intro pins s σ H xs us Q I rv ⟨p,ns,e,hp,h0,q⟩;subst e;obtain⟨u,rfl,ru⟩:=gO rv;cases ru;obtain⟨its,rits,pl,hz⟩:=I.list (Gi hp);have hn:its.toArray.size=ns.length:=by have:=rits.length;simp at this⊢;lia
 have lp:=I.hok.lt hp;have ne:p≠s.heap.objs.size:=bc lp;refine call_min_walk (jo pl.isList ⟨_,_,_,_,_,_,_,rfl,ow (A:=X.A.in1) (show X.A.in1.handled=none from I.ok.hd hc) _ p ne its.toArray,⟨⟨_,az _ rfl,rfl,rfl⟩,pl.isList.push _⟩,λb hb=>?_,by rw[hn];exact h0,CmpOf.ints_lt (λi=>ns.getD i 0) (λi v ev=>pY rits ev),λv h' tk ev k=>?_⟩)
 ·simp only[ed];simp at hb
  rcases hb with rfl|rfl
  ·exact jv _
  ·exact fi lp
 ·obtain⟨t',rfl⟩:=pY rits ev;refine⟨.int (hJ ns),H,(vN (tk:=tk) I k:Inv X pins σ H {s with heap:=h',toks:=tk}),⟨t',?_⟩,q⟩;rw[hn];rw[FF (λa b=>decide (a<b)) (λi=>ns.getD i 0)];rfl
theorem FJ:∀{vs:List af}{ns:y'},Bf (ns.map Ga) vs->kv vs ns
 |[],[],_=>.nil
 |[],n::ns,h=>by cases h
 |v::vs,[],h=>by cases h
 |v::vs,n::ns,h=>by
  cases h with
  |cons h1 h2=>obtain⟨t,rfl⟩:=h1;exact .cons _ _ (FJ h2)
theorem sT:∀{vs:List af}{ns:y'},kv vs ns->Bf (ns.map Ga) vs
 |_,_,.nil=>.nil
 |_,_,.cons _ _ h=>.cons ⟨_,rfl⟩ (sT h)
theorem z0z:Bi X (.builtin "sorted") (λxs H Q=>∃(p:ai)(ns:y'),xs=[.ref p]/\H p=some (.lst (ns.map Ga))/\ns.length<64/\∀l,H l=none->Q (.ref l) (bI H l (.lst ((iH ns).map Ga)))):=by
 intro pins s σ H xs us Q I rv ⟨p,ns,e,hp,h0,q⟩;subst e;obtain⟨u,rfl,ru⟩:=gO rv;cases ru;obtain⟨its,rits,pl,hz⟩:=I.list (Gi hp);have hl:=rits.length;rw[ax]at hl;refine sorted_ints pl.isList (FJ rits) (by lia) λout ns' a1 a2 a3=>?_;obtain⟨ep,he⟩:=sortedAll_at s.heap its out;have hu:=z0w a2 a3;subst hu;refine⟨.ref (s.heap.objs.size+1),_,I.laid (t':=s.toks) (λb u hb=>sortedAll_old hb) (xi _) (show Bk X.prog X.w _ _ _ (.lst ((iH ns).map Ga)) from⟨?_,out.toList,ep,sT a1,?_⟩),rfl,q _ (I.hok.fresh (xi _))⟩
 ·rw[ax,FH];exact dh (ji h0) (by decide)
 ·rw[he]
def fV(f:y'->Int)(x:Dv)(h:Hs):Rs Dv:=match x with
 |.ref i=>match getL h i with
  |some xs=>match bU eY xs with
   |some ns=>if 0<ns.length then .ok (.int (f ns)) h else .bad
   |none=>.bad
  |none=>.bad
 |_=>.bad
theorem NU{f:y'->Int}:jY G (λx H Q=>FI f [x] H Q) (fV f):=by
 intro E μ h H x vx Q s r o
 cases x with
 |ref i=>
  dsimp only[fV]at o
  cases q:getL h i with
  |none=>rw[q]at o;exact o.elim
  |some xs=>
   rw[q]at o;dsimp only at o
   cases q2:bU eY xs with
   |none=>rw[q2]at o;exact o.elim
   |some ns=>
    rw[q2]at o;dsimp only at o
    split at o
    ·rename_i h0;obtain⟨vs,e1,r1⟩:=s.ob i _ (dW q);obtain⟨_,rfl⟩:=r;exact⟨_,ns,rfl,by rw[e1,mZ r1 q2],h0,o.val s rfl⟩
    ·exact o.elim
 |_=>exact o.elim
theorem FK:di "sorted"=some (.builtin "sorted"):=by decide+kernel
theorem FL(hc:X.calm=true)(hg:Gl X "max")(hm:X.mg "max"=none)(ha:dP X G E [e] aM)(he:ar [e] X.env=[(false,eval e X.env)]:=by rfl):aI X G E (.Call (.Name "max" p) [e] [] pos) (aB (f1 (fV cY)) aM):=
 oP (Bi.imp (z0x hc) λxs H Q⟨v,h1,a,ns,h2,h3⟩=>⟨a,ns,by rw[h1,h2],h3⟩) (oQ NU) hg hm ES ha (by decide) (by decide) he rfl
theorem NV(hc:X.calm=true)(hg:Gl X "min")(hm:X.mg "min"=none)(ha:dP X G E [e] aM)(he:ar [e] X.env=[(false,eval e X.env)]:=by rfl):aI X G E (.Call (.Name "min" p) [e] [] pos) (aB (f1 (fV hJ)) aM):=
 oP (Bi.imp (z0y hc) λxs H Q⟨v,h1,a,ns,h2,h3⟩=>⟨a,ns,by rw[h1,h2],h3⟩) (oQ NU) hg hm MD ha (by decide) (by decide) he rfl
def wD(x:Dv)(h:Hs):Rs Dv:=match x with
 |.ref i=>match getL h i with
  |some xs=>match bU eY xs with
   |some ns=>if ns.length<64 then .ok (.ref h.length) (h++[.lst ((iH ns).map Fx)])else .bad
   |none=>.bad
  |none=>.bad
 |_=>.bad
theorem z10:jY G (λx H Q=>∃(p:ai)(ns:y'),x=.ref p/\H p=some (.lst (ns.map Ga))/\ns.length<64/\∀l,H l=none->Q (.ref l) (bI H l (.lst ((iH ns).map Ga)))) wD:=by
 intro E μ h H x vx Q s r o
 cases x with
 |ref i=>
  dsimp only[wD]at o
  cases q:getL h i with
  |none=>rw[q]at o;exact o.elim
  |some xs=>
   rw[q]at o;dsimp only at o
   cases q2:bU eY xs with
   |none=>rw[q2]at o;exact o.elim
   |some ns=>
    rw[q2]at o;dsimp only at o
    split at o
    ·rename_i h0;obtain⟨vs,e1,r1⟩:=s.ob i _ (dW q);obtain⟨_,rfl⟩:=r;exact⟨_,ns,rfl,by rw[e1,mZ r1 q2],h0,λl hl=>mP s (qS _) hl o⟩
    ·exact o.elim
 |_=>exact o.elim
end
section
variable{e o a b:bq}{es:List bq}{ma mb mo me:M Dv}{aM:M Az}{p pos np apos cpos:Pos}{y:Str}
def FN(_ j:Int):Prop:=0<j/\j<18446744073709551616
theorem z11:Ca X (binaryOp .FloorDiv) (rI FN λi j=>.int (i/j)):=yS λi j _ _ _ _ _ hc q=>by
 have h1:(0:Int)<j:=hc.1;have h2:j<18446744073709551616:=hc.2;refine floordiv_int (by lia) (by rw[Int.fdiv_eq_ediv_of_nonneg i (by lia)];exact q) (.inl (PyProof.noPylong_of_log2 ?_));have h3:j.natAbs≠0:=by lia
 have h4:j.natAbs<2^64:=by lia
 have:=(Nat.log2_lt h3).mpr h4
 lia
def tN(_ j:Int):Bool:=decide (0<j)&&decide (j<18446744073709551616)
theorem z12(i j:Int)(h:tN i j=true):FN i j:=by unfold tN at h;unfold FN;simpa only[cu,decide_eq_true_eq]using h
def rH:Dv->Dv->Hs->Rs Dv:=lV tN λi j=>.int (i/j)
theorem FO(ha:aI X G E a ma)(hb:aI X G E b mb):aI X G E (.BinOp a .FloorDiv b pos) (m2 rH ma mb):=qR z11 (zF z12) ha hb
def NW(K:au):R2:=λx y H Q=>∃a b ys,x=.ref a/\y=.ref b/\Bu K H a []/\Bu K H b ys/\Q (.ref b) H
theorem op_catT0:Ca X (binaryOp .Add) (NW X.K):=by
 intro pins s σ H x y v u Q I rx ry ⟨a,b,ys,e1,e2,ha,hb,q⟩;subst e1;subst e2;cases rx;cases ry;obtain⟨its,r1,p1,_⟩:=I.tuple ha;obtain⟨Dk,r2,p2,_⟩:=I.tuple hb;have hn:its=[]:=r1.nil_iff.mpr rfl;subst hn;obtain⟨⟨cls,dd,data,sl⟩,ho,hc,n,hd⟩:=p1;obtain⟨⟨cls2,dd2,data2,sl2⟩,Em,hc2,n2,hd2⟩:=p2;simp only at hc hd hc2 hd2;subst hc hd hc2 hd2;exact concat_meets ⟨_,ho,rfl⟩ ⟨_,Em,rfl⟩ yn Am sf qz (qt _ _)
  (tuple_addW0 a b _ _ n n2 dd dd2 sl sl2 rfl) ⟨ho,Em,⟨.ref b,H,I,rfl,q⟩⟩
def cD(x y:Dv)(h:Hs):Rs Dv:=match x,y with
 |.tup [],.tup ys=>.ok (.tup ys) h
 |x,y=>mQ x y h
theorem z13:fU G (λx y H Q=>NW G.K x y H Q∨EM G.K x y H Q) cD:=by
 intro E μ h H x y vx vy Q s rx ry o;unfold cD at o
 split at o
 ·rename_i ys;obtain⟨a,vs,rfl,ea,ra⟩:=rx;obtain⟨b,ws,rfl,eb,rb⟩:=id ry;have:vs=[]:=by rw[RelDL]at ra;exact ra
  subst this;exact .inl ⟨a,b,ws,rfl,rfl,Gf ea,Gf eb,o.val s ry⟩
 ·exact .inr (ZR E μ h H _ _ vx vy Q s rx ry o)
theorem gW(ha:aI X G E a ma)(hb:aI X G E b mb):aI X G E (.BinOp a .Add b pos) (m2 cD ma mb):=λhK=>qR (op_catT0.or ZQ) (by rw[hK];exact z13) ha hb hK
def fY(k:Int):y'->Option Nat
 |[]=>none
 |n::ns=>if n=k then some 0 else(fY k ns).map (·+1)
theorem FP{k:Int}:∀{ns:y'}{j:Nat},fY k ns=some j->ns[j]?=some k/\∀m,m<j->ns[m]?≠some k
 |[],j,h=>by cases h
 |n::ns,j,h=>by
  unfold fY at h
  split at h
  ·rename_i e;cases h;exact⟨by simp[e],λm hm=>by lia⟩
  ·rename_i e
   cases q:fY k ns with
   |none=>rw[q]at h;cases h
   |some i=>
    rw[q]at h;cases h;obtain⟨h1,h2⟩:=FP q;refine⟨by simpa using h1,λm hm=>?_⟩
    cases m with
    |zero=>simpa using e
    |succ m=>
     have hm':m<i:=by simpa using hm
     simpa using h2 m hm'
theorem NX:∀{vs:List af}{ns:y'}{i:Nat}{n:Int},kv vs ns->ns[i]?=some n->∃t,vs[i]?=some (.int n t)
 |_,_,0,n,.cons m t h,e=>by simp at e;subst e;exact⟨t,rfl⟩
 |_,_,i+1,n,.cons m t h,e=>by simpa using NX h (by simpa using e)
 |_,_,i,n,.nil,e=>by simp at e
theorem z14(a b:af):argsOk "tuple.index" ⟨[a,b],[]⟩:=by unfold argsOk;kernel_rfl
theorem z15{prog:bj}{w:cn}{A:cq}{E:af->ag->Prop}{s:ag}{t:ai}{items:Array af}{ns:y'}{k:Int}{u:Tok}{j:Nat}{P:Fin->ag->Prop}(ht:zj s.heap t items)(hi:kv items.toList ns)(hj:ns[j]?=some k)(hno:∀m,m<j->ns[m]?≠some k)(h:P (.done (.ret (.int j s.toks))) {s with toks:=s.toks+1}):wpAny (model prog w) A (my.«tuple.index» ⟨[.ref t,.int k u],[]⟩) P E s:=by
 show wpAny _ _ (vg (.ref t) >>=_) _ _ s;refine ae (An ht ?_);refine ae (aj ?_);refine ae (aj ?_);show wpAny _ _ (forIn [:min items.size items.size] (none,()) _ >>=_) _ _ s;rw[zt,Std.Legacy.Range.forIn_eq_forIn_range'];have Cf:items.size=ns.length:=by have:=hi.length;simpa using this
 have hjn:j<ns.length:=(bw.mp hj).1;refine ae (qk _ (λrest b s'=>b=(none,())/\s'=s/\∃i,i<=j/\rest=List.range' i (items.size-i) 1) _ ?_ ?_ _ _ ⟨rfl,rfl,0,gz _,?_⟩)
 ·rintro x rest b s' ⟨rfl,rfl,i,Cw,hr⟩
  have hlt:i<items.size:=by lia
  obtain⟨z,hz⟩:∃z,items.size-i=z+1:=⟨items.size-i-1,by lia⟩
  rw[hz,List.range'_succ]at hr;injection hr with hx hrest;subst hx;obtain⟨n,hn⟩:∃n,ns[x]?=some n:=⟨ns[x]'(by lia),by simp[show x<ns.length by lia]⟩
  obtain⟨tt,ht2⟩:=NX hi hn;have ht3:items[x]?=some (.int n tt):=by simpa using ht2
  rw[ht3];dsimp only;refine ae (yj ?_)
  by_cases hxj:x=j
  ·subst hxj;have hnk:n=k:=by rw[hj]at hn;cases hn;rfl
   subst hnk;rw[if_pos (by simp)];refine ae (ae (wpAny_mkInt ?_));exact aj (aj (aj h))
  ·have hne:n≠k:=λe=>hno x (by lia) (by rw[hn,e]);rw[if_neg (by simpa using hne)];exact aj ⟨rfl,rfl,x+1,by lia,by rw[hrest];congr 1;lia⟩
 ·rintro b s' ⟨rfl,rfl,i,Cw,hr⟩
  exfalso
  have hlt:i<items.size:=by lia
  have:=congrArg nv hr;simp at this
  lia
 ·simp[Std.Legacy.Range.size]
theorem z16:DT X "tuple.index" (λx xs H Q=>∃(a:ai)(ns:y')(k:Int)(j:Nat),x=.ref a/\xs=[.int k]/\H a=some (.tup (ns.map Ga))/\fY k ns=some j/\Q (.int j) H):=by intro pins s σ H x xs v us Q I rx rv ⟨a,ns,k,j,e1,e2,ha,hj,q⟩;subst e1;subst e2;cases rx;obtain⟨u,rfl,ru⟩:=gO rv;obtain⟨t,rfl⟩:=ru;obtain⟨its,rits,p1,_⟩:=I.tuple (Gf ha);obtain⟨h1,h2⟩:=FP hj;refine fz xv p1.typeIs PySem.F.entry_tuple_index (z15 p1 (FJ rits) h1 h2 ⟨_,rfl,?_⟩) (z14 _ _);exact⟨.int j,H,I.tok _,⟨_,rfl⟩,q⟩
theorem z17{id:String}{name:Str}{r:V->Gx->Hp->VK->Prop}{to:TE}{t:TA}(slot:Slot "tuple" name id)(hty:typeOf (.builtin id)=pure (.type "method_descriptor"))(hm:DT X id r)(ho:PE X o to)(ha:PA X [e] t)(hbase:attributeBase o name X.env (eval o X.env)=eval o X.env)(hfew:((backTo cpos (ar [e] X.env)).all (λx=>!x.1)&&(backToKw cpos (keywordEach [] X.env)).all (λx=>x.1.isSome)
   && decide ([e].length+([]:List Keyword).length+(if([]:List Keyword).isEmpty then 0 else 1)<30))=true)(hline:(apos.endLine==cpos.line)=true)(hs:ar [e] X.env=[(false,eval e X.env)]):
  PE X (.Call (.Attribute o name apos) [e] [] cpos) (λσ H Q=>to σ H λx H1=>(∃a xs,x=.ref a/\H1 a=some (.tup xs))/\t σ H1 λxs H2=>r x xs H2 Q):=by
 intro pins s σ H Q I h;refine wpAny_Call_method_late hbase hfew hline rfl (bF (ho pins s σ H _ I h) λv s1⟨x,H1,I1,r1,⟨a,ys,ex,ea⟩,q1⟩=>?_);subst ex;cases r1;obtain⟨_,its,rits,ob,g1,g2,g3,n,g4⟩:=(show Bk X.prog X.w H1 s1.heap a (.tup ys) from I1.hok a _ ea)
 refine⟨"tuple",id,PySem.F.plainAttrs_tuple,slot,hty,⟨ob,g1,g2⟩,λb eb=>?_,?_⟩
 ·cases eb;exact⟨ob,g1,g3⟩
 ·have hA:=ha cpos pins s1 σ H1 _ I1 q1;rw[hs]at hA⊢;exact zb (by rfl) (uh (bF hA λus s2⟨vs,H2,I2,r2,q2⟩=>hm pins s2 σ H2 (.ref a) vs (.ref a) us Q I2 rfl r2 q2))
def FQ(x i:Dv)(h:Hs):Rs Dv:=match x,i with
 |.tup xs,.int k=>match bU eY xs with
  |some ns=>match fY k ns with
   |some j=>.ok (.int j) h
   |none=>.bad
  |none=>.bad
 |_,_=>.bad
def NY(x:Dv):Bool:=match x with
 |.tup _=>true
 |_=>false
def lZ(mo me:M Dv):M Dv:=λρ h=>(mo ρ h).bind λx h1=>if NY x=true then(me ρ h1).bind λd h2=>FQ x d h2 else .bad
theorem NZ(ho:aI X G E (.Name y np) mo)(he:aI X G E e me)(hs:ar [e] X.env=[(false,eval e X.env)]:=by rfl)(hl:(apos.endLine==cpos.line)=true:=by rfl):aI X G E (.Call (.Attribute (.Name y np) "index" apos) [e] [] cpos) (lZ mo me):=λhK=>
 Gh (z17 xv PySem.F.type_tuple_index z16 (ho hK) (kW (he hK) lS hs) rfl (by rw[hs];rfl) hl hs) λσ H Q⟨μ,ρ,h,rs,s,oo⟩=>gB rs s oo λμ1 x h1 vx H1 x1 Bv s1 r1 o1=>by
  split at o1
  ·rename_i hl
   cases x with
   |tup xs=>
    obtain⟨a,vs,rfl,ea,ra⟩:=id r1;refine⟨⟨a,vs,rfl,ea⟩,gB Bv s1 o1 λμ2 d h2 vd H2 x2 Ek s2 r2 o2=>?_⟩
    cases d with
    |int k=>
     dsimp only[FQ]at o2
     cases q:bU eY xs with
     |none=>rw[q]at o2;exact o2.elim
     |some ns=>
      rw[q]at o2;dsimp only at o2
      cases q2:fY k ns with
      |none=>rw[q2]at o2;exact o2.elim
      |some j=>rw[q2]at o2;obtain⟨a',Ct,e',ea',ra'⟩:=Gk x2 _ _ r1;cases e';rw[Be]at r2;subst r2;exact⟨_,ns,k,j,rfl,rfl,by rw[ea',mZ ra' q],q2,o2.val s2 rfl⟩
    |_=>exact o2.elim
   |_=>cases hl
  ·exact o1.elim
end
section
variable{k:Nat}{a b:bq}{ma mb mo:M Dv}{pos:Pos}
theorem wF(g:Good X G E k)(ha:aI X G E a ma)(hb:aI X G E b mb)(hm:lastMarks [.In] [b]=false:=by with_unfolding_all rfl):aI X G E (.Compare a [.In] [b] pos) (m2 (cN false) ma mb):=λhK=>sX (NA g.room.units) (by rw[hK];exact zW false) ha hb hm hK
theorem N0(g:Good X G E k)(ha:aI X G E a ma)(hb:aI X G E b mb)(hm:lastMarks [.NotIn] [b]=false:=by with_unfolding_all rfl):aI X G E (.Compare a [.NotIn] [b] pos) (m2 (cN true) ma mb):=λhK=>sX (NB g.room.units) (by rw[hK];exact zW true) ha hb hm hK
theorem N1(g:Good X G E k)(ha:aI X G E a ma)(hb:aI X G E b mb)(hm:lastMarks [.In] [b]=false:=by with_unfolding_all rfl):fS X G E (.Compare a [.In] [b] pos) (mB (m2 (cN false) ma mb)):=λhK=>oM (NA g.room.units) (by rw[hK];exact zW false) ha hb hm hK
theorem zY(g:Good X G E k)(ha:aI X G E a ma)(hb:aI X G E b mb)(hm:lastMarks [.NotIn] [b]=false:=by with_unfolding_all rfl):fS X G E (.Compare a [.NotIn] [b] pos) (mB (m2 (cN true) ma mb)):=λhK=>oM (NB g.room.units) (by rw[hK];exact zW true) ha hb hm hK
theorem N2(ha:aI X G E a ma)(hb:aI X G E b mb):fS X G E (.Compare a [.IsNot] [b] pos) (mB (m2 (lX true) ma mb)):=oM t6 (u6 true) ha hb (lQ _)
end
theorem oX{H:Hs}{n:Nat}{xs ys:Az}(e:getL H n=some xs):getL (H.set n (.lst ys)) n=some ys:=by have h:=(bw.mp (dW e)).1;unfold getL;rw[jg h]
theorem N3{H:Hs}{n j:Nat}{o:Ob}(h:n≠j):getL (H.set n o) j=getL H j:=by unfold getL;rw[jd h]
theorem zZ{H:Hs}{n:Nat}{xs:Az}(e:getL H n=some xs):n<H.length:=(bw.mp (dW e)).1
theorem jT{H l:Hs}{n:Nat}{xs:Az}(e:getL H n=some xs):getL (H++l) n=some xs:=by unfold getL;rw[gd (zZ e),dW e]
structure Fr(S:Aw)(H H':Hs):Prop where
 le:H.length<=H'.length
 at_:∀j,j<H.length->j∉S->H'[j]?=H[j]?
theorem Fr.refl{S:Aw}{H:Hs}:Fr S H H:=⟨aq _,λ_ _ _=>rfl⟩
theorem Fr.trans{S T:Aw}{H H1 H2:Hs}(a:Fr S H H1)(b:Fr T H1 H2)(h:∀j∈T,j∈S∨H.length<=j):Fr S H H2:=⟨dh a.le b.le,λj hj hS=>(b.at_ j (bo hj a.le) λz=>(h j z).elim hS λw=>absurd (bo hj w) (iz _)).trans (a.at_ j hj hS)⟩
theorem Fr.app{S:Aw}{H l:Hs}:Fr S H (H++l):=⟨by simp,λj hj _=>gd hj⟩
theorem Fr.set{H:Hs}{n:Nat}{o:Ob}:Fr [n] H (H.set n o):=⟨by simp,λj hj hS=>jd (by simpa using dk (by simpa using hS))⟩
theorem Fr.getL{S:Aw}{H H':Hs}{j:Nat}{xs:Az}(a:Fr S H H')(e:getL H j=some xs)(h:j∉S):getL H' j=some xs:=by unfold L2.Mr.getL at e⊢;rw[a.at_ j (zZ e) h];exact e
theorem Fr.mono{S T:Aw}{H H':Hs}(a:Fr S H H')(h:∀j∈S,j∈T):Fr T H H':=⟨a.le,λj hj hT=>a.at_ j hj λz=>hT (h j z)⟩
theorem bR{m u:MS}{ρ ρ1:Ev}{h h1:Hs}(e:m ρ h=.nx ρ1 h1):aH m u ρ h=u ρ1 h1:=by unfold aH;rw[e]
theorem AA{mi:M Src}{st:dS}{b:MS}{ρ:Ev}{h h1:Hs}{src:Src}(e:mi ρ h=.ok src h1):eW mi st b ρ h=gR src st b src.n 0 ρ h1:=by unfold eW;rw[e];rfl
theorem pZ{c:M Bool}{t u:MS}{ρ:Ev}{h h1:Hs}(e:c ρ h=.ok true h1):bP c t u ρ h=t ρ h1:=by unfold bP;rw[e];rfl
theorem kQ{c:M Bool}{t u:MS}{ρ:Ev}{h h1:Hs}(e:c ρ h=.ok false h1):bP c t u ρ h=u ρ h1:=by unfold bP;rw[e];rfl
theorem AB{src:Src}{sg:dS}{b:MS}{f k:Nat}{ρ ρ1 ρ2:Ev}{H H2:Hs}{d:Dv}(hg:src.get k H=some d)(hs:sg d ρ=some ρ1)(hb:b ρ1 H=.nx ρ2 H2):gR src sg b (f+1) k ρ H=gR src sg b f (k+1) ρ2 H2:=by simp[gR,hg,hs,hb]
theorem N4{src:Src}{sg:dS}{b:MS}(P:Nat->Ev->Hs->Prop)(step:∀k ρ H,k<src.n->P k ρ H->∃d ρ1 ρ2 H2,src.get k H=some d/\sg d ρ=some ρ1/\b ρ1 H=.nx ρ2 H2/\P (k+1) ρ2 H2)(fin:∀ρ H,P src.n ρ H->src.fin H=true):∀(f k:Nat)(ρ:Ev)(H:Hs),f+k=src.n->P k ρ H->∃ρ' H',gR src sg b f k ρ H=.nx ρ' H'/\P src.n ρ' H'
 |0,k,ρ,H,h,p=>by
  have hk:k=src.n:=by lia
  subst hk;exact⟨ρ,H,by simp[gR,fin ρ H p],p⟩
 |f+1,k,ρ,H,h,p=>by obtain⟨d,ρ1,ρ2,H2,e1,e2,e3,p2⟩:=step k ρ H (by lia) p;rw[AB e1 e2 e3];exact N4 P step fin f (k+1) ρ2 H2 (by lia) p2
theorem wG{mi:M Src}{src:Src}{sg:dS}{b:MS}{ρ:Ev}{H H1:Hs}(hi:mi ρ H=.ok src H1)(P:Nat->Ev->Hs->Prop)(step:∀k ρ H,k<src.n->P k ρ H->∃d ρ1 ρ2 H2,src.get k H=some d/\sg d ρ=some ρ1/\b ρ1 H=.nx ρ2 H2/\P (k+1) ρ2 H2)(fin:∀ρ H,P src.n ρ H->src.fin H=true)(p:P 0 ρ H1):∃ρ' H',eW mi sg b ρ H=.nx ρ' H'/\P src.n ρ' H':=by
 rw[AA hi];exact N4 P step fin src.n 0 ρ H1 (by lia) p
theorem wH{src:Src}{sg:dS}{t:M Bool}{m:MC}(P:Nat->Ev->Hs->Az->Prop)(step:∀k ρ H acc,k<src.n->P k ρ H acc->∃d ρ1,src.get k H=some d/\sg d ρ=some ρ1/\
   ((∃H2,t ρ1 H=.ok false H2/\P (k+1) ρ1 H2 acc)∨∃H2 ρ3 acc3 H3,t ρ1 H=.ok true H2/\m ρ1 H2 acc=.ok (ρ3,acc3) H3/\P (k+1) ρ3 H3 acc3))(fin:∀ρ H acc,P src.n ρ H acc->src.fin H=true):∀(f k:Nat)(ρ:Ev)(H:Hs)(acc:Az),f+k=src.n->P k ρ H acc->∃ρ' H' De,iF src sg t m f k ρ H acc=.ok (ρ',De) H'/\P src.n ρ' H' De
 |0,k,ρ,H,acc,h,p=>by
  have hk:k=src.n:=by lia
  subst hk;exact⟨ρ,H,acc,by simp[iF,fin ρ H acc p],p⟩
 |f+1,k,ρ,H,acc,h,p=>by
  obtain⟨d,ρ1,e1,e2,e3⟩:=step k ρ H acc (by lia) p
  rcases e3 with⟨H2,e3,p2⟩|⟨H2,ρ3,acc3,H3,e3,e4,p2⟩
  ·obtain⟨ρ',H',De,e5,p5⟩:=wH P step fin f (k+1) ρ1 H2 acc (by lia) p2;exact⟨ρ',H',De,by simp[iF,e1,e2,e3,e5],p5⟩
  ·obtain⟨ρ',H',De,e5,p5⟩:=wH P step fin f (k+1) ρ3 H3 acc3 (by lia) p2;exact⟨ρ',H',De,by simp[iF,e1,e2,e3,e4,e5],p5⟩
theorem rJ(k:Nat)(H:Hs):∀ns:y',bU (cG (k+1) H) (ns.map Fx)=some (ns.map Gn)
 |[]=>rfl
 |n::ns=>by rw[du,bU,rJ k H ns];rfl
def aN(p:Int×Int):Dv:=.tup [.int p.1,.int p.2]
def kR(p:Int×Int):Dt:=.tup [.int p.1,.int p.2]
theorem FR(k:Nat)(H:Hs)(p:Int×Int):cG (k+2) H (aN p)=some (kR p):=rfl
theorem FT(k:Nat)(H:Hs):∀ps:dn,bU (cG (k+2) H) (ps.map aN)=some (ps.map kR)
 |[]=>rfl
 |p::ps=>by rw[du,bU,FT k H ps,FR];rfl
theorem N5(p q:Int×Int):bX (kR p) (kR q)=decide (p=q):=by obtain⟨a,b⟩:=p;obtain⟨c,d⟩:=q;simp only[kR,bX,iQ,Bool.and_true];rw[gq];simp
theorem AD(neg:Bool)(H:Hs)(p:Int×Int)(ps:dn):cN neg (aN p) (.tup (ps.map aN)) H=.ok (.bl (if neg then !decide (p∈ps)else decide (p∈ps))) H:=by
 have e:(ps.map kR).any (λt=>bX t (kR p))=decide (p∈ps):=by
  rw[gq];simp only[td,mz,ui,N5,decide_eq_true_eq];constructor
  ·rintro ⟨q,hq,rfl⟩;exact hq
  ·intro h;exact⟨p,h,rfl⟩
 have h1:bU (cG cX H) (ps.map aN)=some (ps.map kR):=FT 28 H ps;have h2:cG cX H (aN p)=some (kR p):=FR 28 H p;show lE [] neg (aN p) (.tup (ps.map aN)) H=_;simp only[lE,fX,h1,h2,e]
theorem N6(neg:Bool)(H:Hs)(x:Int)(ns:y'):cN neg (.int x) (.tup (ns.map Fx)) H=.ok (.bl (if neg then !decide (x∈ns)else decide (x∈ns))) H:=by
 have e:(ns.map Gn).any (λt=>bX t (.int x))=decide (x∈ns):=by
  rw[gq];simp only[td,mz,ui,bX,decide_eq_true_eq,beq_iff_eq];constructor
  ·rintro ⟨q,hq,rfl⟩;exact hq
  ·intro h;exact⟨x,h,rfl⟩
 have h1:bU (cG cX H) (ns.map Fx)=some (ns.map Gn):=rJ 29 H ns;have h2:cG cX H (.int x)=some (.int x):=rfl;show lE [] neg (.int x) (.tup (ns.map Fx)) H=_;simp only[lE,fX,h1,h2,e]
section
variable{elt tg iter Bz Bh:bq}{ifs Bn:List bq}{sc:gf}{ps px pos:Pos}{N:Ax}{cap:List (Option Nat)}{mi mi':M Src}{st Dd:dS}{test Cr:M Bool}{me:M Dv}{i:Nat}{x:Str}
theorem N7(hN:X.N.Nodup)(hi':X.N[i]?=some x)(hc:X.calm=true)(C:Cc X sc N cap)(hi:hG X G E tg iter mi)(hg:∀s H ex,iS (bW X sc N s H ex) G tg st)(Eg:∀s H ex,kN (bW X sc N s H ex) G ifs test)(Ds:∀s H ex,aI (bW X sc N s H ex) G E0 elt me)(hx:X.env.scope.names.lookup x=some .local:=by rfl)(hsw:swapsWith (.ListComp elt [⟨tg,iter,ifs,0⟩] sc ps) (some (.Name x px)) pos.line X.env=pure true:=by rfl)(hs:∀x,foldedSetIterable iter X.env x=pure x:=by intro _;rfl):iD X G E (.Assign [.Name x px] (.ListComp elt [⟨tg,iter,ifs,0⟩] sc ps) pos) (aK (aX (bA mi cap st test (aU me))) (aD i)):=λhK=>
 PS.imp (EA hsw hN hi' hx hc C rfl (λit D env=>LM elt tg iter ifs sc ps (.ref it) D env) (hi hK) (λs H ex=>hg s H ex hK) (λs H ex=>Eg s H ex hK) (λs H ex D=>Ed.imp (uX (Ds s H ex hK)) λ_ _ _ _ t=>vJ t) hs) λD σ H⟨μ,ρ,h,rs,s,o⟩=>vK (zL (mS rs s o λμ1 d h1 v H1 x1 Bv s1 r1 o1=>o1 μ1 H1 _ Ge s1 (Bv.set i r1)))
theorem N8(hN:X.N.Nodup)(hi1:X.N[i]?=some x)(hc:X.calm=true)(C:Cc X sc N cap)(hi:hG X G E tg iter mi)(hg:∀s H ex,iS (bW X sc N s H ex) G tg st)(Eg:∀s H ex,kN (bW X sc N s H ex) G ifs test)(hi':∀s H ex,hG (bW X sc N s H ex) G E0 Bz Bh mi')(Fs:∀s H ex,iS (bW X sc N s H ex) G Bz Dd)(Fo:∀s H ex,kN (bW X sc N s H ex) G Bn Cr)(Ds:∀s H ex,aI (bW X sc N s H ex) G E0 elt me)(hx:X.env.scope.names.lookup x=some .local:=by rfl)(hsw:swapsWith (.ListComp elt [⟨tg,iter,ifs,0⟩,⟨Bz,Bh,Bn,0⟩] sc ps) (some (.Name x px)) pos.line X.env=pure true:=by rfl)(hs:∀x,foldedSetIterable iter X.env x=pure x:=by intro _;rfl)(Fc:∀s H ex x,foldedSetIterable Bh (bW X sc N s H ex).env x=pure x:=by intro _ _ _ _;rfl):
  iD X G E (.Assign [.Name x px] (.ListComp elt [⟨tg,iter,ifs,0⟩,⟨Bz,Bh,Bn,0⟩] sc ps) pos) (aK (aX (bA mi cap st test (dF mi' Dd Cr (aU me)))) (aD i)):=λhK=>
 PS.imp (EA hsw hN hi1 hx hc C rfl (inner:=λD env=>kX Bh (.ListComp elt [⟨tg,iter,ifs,0⟩,⟨Bz,Bh,Bn,0⟩] sc ps) 1 D env) (λit D env=>LN elt tg iter Bz Bh ifs Bn sc ps (.ref it) D env) (hi hK) (λs H ex=>hg s H ex hK) (λs H ex=>Eg s H ex hK)
  (λs H ex D=>Ed.imp (zB (X:=bW X sc N s H ex) (D:=D) (gens:=[⟨tg,iter,ifs,0⟩,⟨Bz,Bh,Bn,0⟩]) (d:=1) rfl hc rfl (λit=>LO elt tg iter Bz Bh ifs Bn sc ps (.ref it) D _) (hi' s H ex hK) (Fs s H ex hK) (Fo s H ex hK) (Ed.imp (uX (Ds s H ex hK)) λ_ _ _ _ t=>vJ t) (Fc s H ex)) λ_ _ _ _ t=>zJ t) hs) λD σ H⟨μ,ρ,h,rs,s,o⟩=>
  vK (zL (mS rs s o λμ1 d h1 v H1 x1 Bv s1 r1 o1=>o1 μ1 H1 _ Ge s1 (Bv.set i r1)))
end
end L2.Mr
open L2.Mr.Fr renaming app->Fz,refl->Gd,set->Gm
namespace SoM
open PySem PySem.W PyProof.Rows
variable{n:Nat}{f:Nat->Nat}{s:ag}
def oY(n:Nat)(f:Nat->Nat)(i j:Nat)(C:Bool->ag->Prop)(s:ag):Prop:=i<n/\j<n/\C (decide (f i<f j)) s
def F(f:Nat->Nat)(p:Array Nat)(k:Nat):Nat:=f (p.getD k 0)
def Ent(n:Nat)(p:Array Nat):Prop:=p.size=n/\p.toList.Perm (ak n)
theorem Ent.lt{p:Array Nat}(e:Ent n p)(hn:0<n)(k:Nat):p.getD k 0<n:=by
 by_cases h:k<p.size
 ·have:p.getD k 0=p[k]:=by simp[lj,h]
  rw[this];have hm:p[k]∈p.toList:=by simp
  exact bg.mp (e.2.mem_iff.mp hm)
 ·have:p.getD k 0=0:=by simp[lj,h]
  lia
theorem wI{p q:Array Nat}{i j:Nat}(h:p[i]?=q[j]?):F f p i=F f q j:=by unfold F;simp only[Array.getD_eq_getD_getElem?,h]
theorem Ent.mirror{p:Array Nat}(e:Ent n p)(i j d:Nat):Ent n (mirror p i j d):=⟨(mirror_size ..).trans e.1,((xw.mp (mirror_perm p i j d))).trans e.2⟩
theorem Ent.bubble{p:Array Nat}(e:Ent n p)(k d:Nat):Ent n (bubble p k d):=⟨(bubble_size ..).trans e.1,((xw.mp (bubble_perm p k d))).trans e.2⟩
theorem Ent.rev{p:Array Nat}(e:Ent n p)(i j:Nat):Ent n (kas_rev p i j):=e.mirror _ _ _
theorem wJ{p:Array Nat}{i j:Nat}(hj:j<=p.size)(k:Nat):F f (kas_rev p i j) k=if i<=k/\k<j then F f p (i+j-1-k)else F f p k:=by
 have e:=getElem?_mirror_all (i:=i) hj k
 by_cases h:i<=k/\k<j
 ·rw[if_pos h]at e⊢;exact wI e
 ·rw[if_neg h]at e⊢;exact wI e
theorem N9{p:Array Nat}{k d:Nat}(hs:k<p.size)(hd:d<=k)(i:Nat):F f (bubble p k d) i=if i=k-d then F f p k else if k-d<i/\i<=k then F f p (i-1)else F f p i:=by
 have e:=getElem?_bubble hs d hd i
 by_cases h1:i=k-d
 ·rw[if_pos h1]at e⊢;exact wI e
 ·rw[if_neg h1]at e⊢
  by_cases h2:k-d<i/\i<=k
  ·rw[if_pos h2]at e⊢;exact wI e
  ·rw[if_neg h2]at e⊢;exact wI e
def Inc(f:Nat->Nat)(p:Array Nat)(m:Nat):Prop:=∀i j,i<=j->j<m->F f p i<=F f p j
def Dec(f:Nat->Nat)(p:Array Nat)(m:Nat):Prop:=∀i j,i<=j->j<m->F f p j<=F f p i
theorem Inc.succ{p:Array Nat}{m:Nat}(h:Inc f p m)(hm:1<=m)(h1:F f p (m-1)<=F f p m):Inc f p (m+1):=by
 intro i j Cw hj
 by_cases q:j=m
 ·subst q
  by_cases r:i=j
  ·subst r;exact aq _
  ·exact dh (h i (j-1) (by lia) (by lia)) h1
 ·exact h i j Cw (by lia)
theorem Dec.succ{p:Array Nat}{m:Nat}(h:Dec f p m)(hm:1<=m)(h1:F f p m<=F f p (m-1)):Dec f p (m+1):=by
 intro i j Cw hj
 by_cases q:j=m
 ·subst q
  by_cases r:i=j
  ·subst r;exact aq _
  ·exact dh h1 (h i (j-1) (by lia) (by lia))
 ·exact h i j Cw (by lia)
theorem FU{p:Array Nat}(e:Ent n p)(hn:0<n){Q:Nat->ag->Prop}:∀(fu m:Nat)(s:ag),1<=m->Inc f p m->
  (∀m',m<=m'->m'<=m+fu->Inc f p m'->(m'=m+fu∨F f p m'<F f p (m'-1))->Q m' s)->(kas_asc p fu m).kasWp (oY n f) Q s
 |0,m,s,h1,hi,h=>h m (aq _) (aq _) hi (.inl rfl)
 |fu+1,m,s,h1,hi,h=>by
  refine⟨e.lt hn _,e.lt hn _,?_⟩
  by_cases c:f (p.getD m 0)<f (p.getD (m-1) 0)
  ·rw[decide_eq_true c];exact h m (aq _) (by lia) hi (.inr c)
  ·rw[decide_eq_false c];refine FU e hn fu (m+1) s (by lia) (hi.succ h1 (Nat.le_of_not_lt c)) λm' a b c d=>h m' (by lia) (by lia) c ?_
   rcases d with d|d
   ·exact .inl (by lia)
   ·exact .inr d
theorem AE(hn:0<n){Q:Array Nat×Nat×Nat->ag->Prop}:∀(fu m q:Nat)(p:Array Nat)(s:ag),Ent n p->q+1<=m->m+fu<=n->Dec f p m->(∀k,m-1-q<=k->k<m->F f p k=F f p (m-1))->
  (∀p' m' q',Ent n p'->q'+1<=m'->m<=m'->m'<=m+fu->Dec f p' m'->(∀k,m'-1-q'<=k->k<m'->F f p' k=F f p' (m'-1))->Q (p',m',q') s)->(kas_desc fu p m q).kasWp (oY n f) Q s
 |0,m,q,p,s,e,h1,h2,hd,he,h=>h p m q e h1 (aq _) (aq _) hd he
 |fu+1,m,q,p,s,e,h1,h2,hd,he,h=>by
  refine⟨e.lt hn _,e.lt hn _,?_⟩
  by_cases c:f (p.getD m 0)<f (p.getD (m-1) 0)
  ·have c':F f p m<F f p (m-1):=c;rw[decide_eq_true c];show KasT.kasWp _ (if true=true then(if q>0 then _ else _)else _) _ _;rw[if_pos rfl]
   by_cases hq:q>0
   ·rw[if_pos hq];have Cf:m<=p.size:=by rw[e.1];lia
    have hF:∀k,F f (kas_rev p (m-(q+1)) m) k=F f p k:=by
     intro k;rw[wJ Cf]
     split
     ·rw[he _ (by lia) (by lia),he k (by lia) (by lia)]
     ·rfl
    have Ft:Dec f (kas_rev p (m-(q+1)) m) (m+1):=by intro i j Cw hj;rw[hF,hF];exact hd.succ (by lia) (ji c') i j Cw hj
    refine AE hn fu (m+1) 0 _ s (e.rev _ _) (by lia) (by lia) Ft ?_ λp' m' q' a b c d=>h p' m' q' a b (by lia) (by lia);intro k k1 k2;have:k=m:=by lia
    subst this;rfl
   ·rw[if_neg hq];refine AE hn fu (m+1) 0 _ s e (by lia) (by lia) (hd.succ (by lia) (ji c')) ?_ λp' m' q' a b c d=>h p' m' q' a b (by lia) (by lia);intro k k1 k2;have:k=m:=by lia
    subst this;rfl
  ·have c':¬F f p m<F f p (m-1):=c;rw[decide_eq_false c];show KasT.kasWp _ (if false=true then _ else KasT.ask _ _ _) _ _;rw[if_neg (by simp)];refine⟨e.lt hn _,e.lt hn _,?_⟩
   by_cases c2:f (p.getD (m-1) 0)<f (p.getD m 0)
   ·rw[decide_eq_true c2];exact h p m q e h1 (aq _) (by lia) hd he
   ·have c2':¬F f p (m-1)<F f p m:=c2;rw[decide_eq_false c2];have eq:F f p m=F f p (m-1):=by lia
    refine AE hn fu (m+1) (q+1) _ s e (by lia) (by lia) (hd.succ (by lia) (by lia)) ?_ λp' m' q' a b c d=>h p' m' q' a b (by lia) (by lia);intro k k1 k2;show F f p k=F f p m
    by_cases r:k=m
    ·subst r;rfl
    ·rw[eq];exact he k (by lia) (by lia)
theorem Dec.rev{p:Array Nat}{m:Nat}(hm:m<=p.size)(h:Dec f p m):Inc f (kas_rev p 0 m) m:=by intro i j Cw hj;rw[wJ hm,wJ hm,if_pos ⟨gz _,by lia⟩,if_pos ⟨gz _,hj⟩];exact h _ _ (by lia) (by lia)
theorem OA(hn:0<n){p:Array Nat}{m:Nat}{Q:Nat×Array Nat->ag->Prop}(e:Ent n p)(h1:1<=m)(h2:m<=n)(hd:Dec f p m)(h:∀m' p',Ent n p'->1<=m'->m'<=n->Inc f p' m'->Q (m',p') s):(kas_tail3 m n p).kasWp (oY n f) Q s:=by
 unfold kas_tail3;rw[KasT.kasWp_bind];refine FU (e.rev 0 m) hn (n-m) m s h1 (hd.rev (by rw[e.1];exact h2)) λm' a b c _=>?_;exact h m' _ (e.rev 0 m) (by lia) (by lia) c
theorem OB(hn:0<n){p:Array Nat}{m:Nat}{Q:Nat×Array Nat->ag->Prop}(e:Ent n p)(h2:m+1<=n)(hd:Dec f p (m+1))(h:∀m' p',Ent n p'->1<=m'->m'<=n->Inc f p' m'->Q (m',p') s):(kas_descPart m n p).kasWp (oY n f) Q s:=by
 unfold kas_descPart;rw[KasT.kasWp_bind];refine AE hn (n-(m+1)) (m+1) 0 p s e (by lia) (by lia) hd (λk k1 k2=>by (have:k=m:=by lia);subst this;rfl) λp' m' q' e' a b c d eq=>?_;show KasT.kasWp _ (if q'>0 then _ else _) _ _
 by_cases hq:q'>0
 ·rw[if_pos hq];have Cf:m'<=p'.size:=by rw[e'.1];lia
  have hF:∀k,F f (kas_rev p' (m'-(q'+1)) m') k=F f p' k:=by
   intro k;rw[wJ Cf]
   split
   ·rw[eq _ (by lia) (by lia),eq k (by lia) (by lia)]
   ·rfl
  refine OA hn (e'.rev _ _) (show 1<=m' by lia) (show m'<=n by lia) ?_ h;intro i j Cw hj;rw[hF,hF];exact d i j Cw hj
 ·rw[if_neg hq];exact OA hn e' (show 1<=m' by lia) (show m'<=n by lia) d h
theorem z18(hn:1<=n){p:Array Nat}{Q:Nat×Array Nat->ag->Prop}(e:Ent n p)(h:∀m' p',Ent n p'->1<=m'->m'<=n->Inc f p' m'->Q (m',p') s):(kas_count n p).kasWp (oY n f) Q s:=by
 unfold kas_count;rw[KasT.kasWp_bind];refine FU e (by lia) (n-1) 1 s (aq _) (λi j Cw hj=>by (have:i=j:=by lia);subst this;exact aq _) λm a b c d=>?_;show KasT.kasWp _ (if(m==n)=true then _ else if m>1 then _ else _) _ _
 by_cases q:m=n
 ·rw[if_pos (beq_iff_eq.mpr q)];exact h m p e (by lia) (by lia) c
 ·rw[if_neg (by intro z;exact q (beq_iff_eq.mp z))];have hlt:F f p m<F f p (m-1):=by
   rcases d with d|d
   ·lia
   ·exact d
  by_cases q1:m>1
  ·rw[if_pos q1];refine⟨e.lt (by lia) _,e.lt (by lia) _,?_⟩
   by_cases c2:f (p.getD 0 0)<f (p.getD (m-1) 0)
   ·rw[decide_eq_true c2];exact h m p e (by lia) (by lia) c
   ·have c2':¬F f p 0<F f p (m-1):=c2;rw[decide_eq_false c2];have Cf:m<=p.size:=by rw[e.1];lia
    have eq:∀k,k<m->F f p k=F f p 0:=by
     intro k hk;have:=c 0 k (by lia) hk;have:=c k (m-1) (by lia) (by lia)
     lia
    have hF:∀k,F f (kas_rev p 0 m) k=F f p k:=by
     intro k;rw[wJ Cf]
     split
     ·rw[eq _ (by lia),eq k (by lia)]
     ·rfl
    refine OB (by lia) (e.rev _ _) (by lia) ?_ h;intro i j Cw hj;rw[hF,hF]
    by_cases r:j=m
    ·subst r
     by_cases r2:i=j
     ·subst r2;exact aq _
     ·have:=eq i (by lia);have:=eq (j-1) (by lia)
      lia
    ·rw[eq i (by lia),eq j (by lia)];exact aq _
  ·rw[if_neg q1];have:m=1:=by lia
   subst this;refine OB (by lia) e (by lia) ?_ h;intro i j Cw hj
   by_cases r:i=j
   ·subst r;exact aq _
   ·have h1:i=0:=by lia
    have h2:j=1:=by lia
    subst h1;subst h2;exact ji hlt
theorem FV{p:Array Nat}(e:Ent n p)(hn:0<n){k:Nat}(hi:Inc f p k){Q:Nat->ag->Prop}:∀(fu l r:Nat)(s:ag),r-l<=fu->l<=r->r<=k->
  (∀i,i<l->F f p i<=F f p k)->(∀i,r<=i->i<k->F f p k<F f p i)->
  (∀l',l'<=k->(∀i,i<l'->F f p i<=F f p k)->(∀i,l'<=i->i<k->F f p k<F f p i)->Q l' s)->(kas_place p k fu l r).kasWp (oY n f) Q s
 |0,l,r,s,h1,h2,h3,ha,hb,h=>by
  have:l=r:=by lia
  subst this;exact h l h3 ha hb
 |fu+1,l,r,s,h1,h2,h3,ha,hb,h=>by
  unfold kas_place
  by_cases q:l>=r
  ·rw[if_pos q];have:l=r:=by lia
   subst this;exact h l h3 ha hb
  ·rw[if_neg q];refine⟨e.lt hn _,e.lt hn _,?_⟩
   by_cases c:f (p.getD k 0)<f (p.getD ((l+r)/2) 0)
   ·have c':F f p k<F f p ((l+r)/2):=c;rw[decide_eq_true c];refine FV e hn hi fu l ((l+r)/2) s (by lia) (by lia) (by lia) ha ?_ h;intro i i1 i2;have:=hi ((l+r)/2) i i1 i2
    lia
   ·have c':¬F f p k<F f p ((l+r)/2):=c;rw[decide_eq_false c];refine FV e hn hi fu ((l+r)/2+1) r s (by lia) (by lia) (by lia) ?_ hb h;intro i i1;have:=hi i ((l+r)/2) (by lia) (by lia)
    lia
theorem OC(hn:0<n){Q:Array Nat->ag->Prop}:∀(fu k:Nat)(p:Array Nat)(s:ag),Ent n p->k+fu<=n->Inc f p k->(∀p',Ent n p'->Inc f p' (k+fu)->Q p' s)->(kas_bin fu p k).kasWp (oY n f) Q s
 |0,k,p,s,e,h1,hi,h=>h p e hi
 |fu+1,k,p,s,e,h1,hi,h=>by
  unfold kas_bin;rw[KasT.kasWp_bind];refine FV e hn hi k 0 k s (by lia) (by lia) (aq _) (λi hi=>absurd hi (by lia)) (λi a b=>absurd b (by lia)) λl hl ha hb=>?_;have Cf:k<p.size:=by rw[e.1];lia
  refine OC hn fu (k+1) _ s (e.bubble _ _) (by lia) ?_ λp' e' i'=>h p' e' (by rw[show k+(fu+1)=k+1+fu by lia];exact i');intro i j Cw hj;rw[N9 Cf (by lia),N9 Cf (by lia)];have hkl:k-(k-l)=l:=by lia
  rw[hkl]
  by_cases i1:i=l
  ·rw[if_pos i1]
   by_cases j1:j=l
   ·rw[if_pos j1];exact aq _
   ·rw[if_neg j1,if_pos (by lia)];exact ji (hb (j-1) (by lia) (by lia))
  ·rw[if_neg i1]
   by_cases i2:l<i/\i<=k
   ·rw[if_pos i2,if_neg (by lia),if_pos (by lia)];exact hi (i-1) (j-1) (by lia) (by lia)
   ·rw[if_neg i2]
    by_cases j1:j=l
    ·rw[if_pos j1];exact ha i (by lia)
    ·rw[if_neg j1]
     by_cases j2:l<j/\j<=k
     ·rw[if_pos j2];exact hi i (j-1) (by lia) (by lia)
     ·rw[if_neg j2];exact hi i j Cw (by lia)
theorem z19(hn:1<=n){Q:Array Nat->ag->Prop}(h:∀p,Ent n p->Inc f p n->Q p s):(kas_sort n).kasWp (oY n f) Q s:=by
 unfold kas_sort;rw[KasT.kasWp_bind];refine z18 hn ⟨by simp,by simp⟩ λm p e h1 h2 hi=>?_;show KasT.kasWp _ (if m<n then _ else _) _ _
 by_cases q:m<n
 ·rw[if_pos q];have:max m 1=m:=by lia
  rw[this];refine OC (by lia) (n-m) m p s e (by lia) hi λp' e' i'=>h p' e' ?_;rw[show m+(n-m)=n by lia]at i';exact i'
 ·rw[if_neg q];have:m=n:=by lia
  subst this;exact h p e hi
theorem OD{α:Type}{cmp:Nat->Nat->(Bool->ag->Prop)->ag->Prop}{I:ag->Prop}(hc:∀i j C s,I s->i<n->j<n->(∀s',I s'->C (decide (f i<f j)) s')->cmp i j C s):
  ∀(t:KasT α)(Q:α->Prop)(Q':α->ag->Prop)(s₀ s:ag),t.kasWp (oY n f) (λa _=>Q a) s₀->I s->(∀a s',Q a->I s'->Q' a s')->t.kasWp cmp Q' s
 |.ret a,Q,Q',s₀,s,h,hi,k=>k a s h hi
 |.ask i j c,Q,Q',s₀,s,h,hi,k=>hc i j _ s hi h.1 h.2.1 λs' hi'=>OD hc (c _) Q Q' s₀ s' h.2.2 hi' k
end SoM
namespace L2
structure Dq{α:Type}(lt:α->α->Bool):Prop where
 irr:∀x,lt x x=false
 tr:∀x y z,lt x y=true->lt y z=true->lt x z=true
 tot:∀x y,lt x y=false->lt y x=false->x=y
section
variable{α:Type}{lt:α->α->Bool}
theorem Dq.asy(o:Dq lt){x y:α}(h:lt x y=true):lt y x=false:=by
 cases q:lt y x with
 |false=>rfl
 |true=>have:=o.tr x y x h q;rw[o.irr]at this;cases this
theorem Dq.lt_le(o:Dq lt){x y z:α}(h:lt x y=true)(h2:lt z y=false):lt x z=true:=by
 cases q:lt y z with
 |true=>exact o.tr x y z h q
 |false=>rw[<-o.tot y z q h2];exact h
theorem Dq.le_tr(o:Dq lt){x y z:α}(h:lt y x=false)(h2:lt z y=false):lt z x=false:=by
 cases q:lt z x with
 |false=>rfl
 |true=>have:=o.lt_le q h;rw[h2]at this;cases this
def rK(lt:α->α->Bool)(x:α):List α->List α
 |[]=>[x]
 |y::r=>if lt y x then y::rK lt x r else x::y::r
def rM(lt:α->α->Bool):List α->List α
 |[]=>[]
 |x::r=>rK lt x (rM lt r)
theorem FW(x:α):∀l,(rK lt x l).Perm (x::l)
 |[]=>.refl _
 |y::r=>by
  unfold rK
  split
  ·exact((FW x r).cons y).trans (we ..)
  ·exact .refl _
theorem FX:∀l,(rM lt l).Perm l
 |[]=>.refl _
 |x::r=>(FW x _).trans ((FX r).cons x)
abbrev fZ(lt:α->α->Bool)(l:List α):Prop:=l.Pairwise λa b=>lt b a=false
abbrev jG(lt:α->α->Bool)(l:List α):Prop:=l.Pairwise λa b=>lt a b=true
theorem OE(o:Dq lt)(x:α):∀l,fZ lt l->fZ lt (rK lt x l)
 |[],_=>by simp[rK,fZ]
 |y::r,h=>by
  have h1:=df.mp h;unfold rK
  split
  ·rename_i q;refine df.mpr ⟨λz hz=>?_,OE o x r h1.2⟩
   rcases aw.mp ((FW x r).mem_iff.mp hz)with rfl|hz
   ·exact o.asy q
   ·exact h1.1 z hz
  ·rename_i q;have q':lt y x=false:=by simpa using q
   refine df.mpr ⟨λz hz=>?_,h⟩
   rcases aw.mp hz with rfl|hz
   ·exact q'
   ·exact o.le_tr q' (h1.1 z hz)
theorem OF(o:Dq lt):∀l,fZ lt (rM lt l)
 |[]=>pw
 |x::r=>OE o x _ (OF o r)
theorem FY(o:Dq lt):∀{l l':List α},fZ lt l->fZ lt l'->l.Perm l'->l=l'
 |[],l',_,_,p=>(List.nil_perm.mp p).symm
 |x::r,[],_,_,p=>by simp at p
 |x::r,y::r',h,h',p=>by
  have h1:=df.mp h;have h2:=df.mp h';have e:x=y:=by
   refine o.tot x y ?_ ?_
   ·rcases aw.mp (p.mem_iff.mp (bf ..))with e|e
    ·rw[e];exact o.irr y
    ·exact h2.1 x e
   ·rcases aw.mp (p.mem_iff.mpr (bf ..))with e|e
    ·rw[e];exact o.irr x
    ·exact h1.1 y e
  subst e;rw[FY o h1.2 h2.2 (List.Perm.cons_inv p)]
theorem z1a(o:Dq lt){l l':List α}(h:fZ lt l')(p:l'.Perm l):l'=rM lt l:=FY o h (OF o l) (p.trans (FX l).symm)
def kB(lt:α->α->Bool)(x:α):List α->List α
 |[]=>[x]
 |y::r=>if lt y x then y::kB lt x r else if lt x y then x::y::r else y::r
def dC(lt:α->α->Bool):List α->List α
 |[]=>[]
 |x::r=>kB lt x (dC lt r)
theorem FZ(o:Dq lt)(x z:α):∀l,z∈kB lt x l↔z=x∨z∈l
 |[]=>by simp[kB]
 |y::r=>by
  unfold kB
  split
  ·rw[aw,FZ o x z r,aw];constructor
   ·rintro (h|h|h)
    ·exact .inr (.inl h)
    ·exact .inl h
    ·exact .inr (.inr h)
   ·rintro (h|h|h)
    ·exact .inr (.inl h)
    ·exact .inl h
    ·exact .inr (.inr h)
  ·rename_i q1
   split
   ·simp
   ·rename_i q2;have e:=o.tot x y (by simpa using q2) (by simpa using q1);subst e;simp
theorem oZ(o:Dq lt)(z:α):∀l,z∈dC lt l↔z∈l
 |[]=>.rfl
 |x::r=>by rw[dC,FZ o,oZ o z r,aw]
theorem OG(o:Dq lt)(x:α):∀l,jG lt l->jG lt (kB lt x l)
 |[],_=>by simp[kB,jG]
 |y::r,h=>by
  have h1:=df.mp h;unfold kB
  split
  ·rename_i q;refine df.mpr ⟨λz hz=>?_,OG o x r h1.2⟩
   rcases(FZ o x z r).mp hz with rfl|hz
   ·exact q
   ·exact h1.1 z hz
  ·split
   ·rename_i q;refine df.mpr ⟨λz hz=>?_,h⟩
    rcases aw.mp hz with rfl|hz
    ·exact q
    ·exact o.tr _ _ _ q (h1.1 z hz)
   ·exact h
theorem rN(o:Dq lt):∀l,jG lt (dC lt l)
 |[]=>pw
 |x::r=>OG o x _ (rN o r)
theorem OH(o:Dq lt){l:List α}(h:jG lt l):fZ lt l:=h.imp λh=>o.asy h
theorem qA(o:Dq lt){l:List α}(h:jG lt l):l.Nodup:=h.imp λ{a b}h e=>by rw[e,o.irr]at h;cases h
theorem z1b(o:Dq lt){l l':List α}(h:jG lt l)(h':jG lt l')(m:∀z,z∈l↔z∈l'):l=l':=by refine FY o (OH o h) (OH o h') ?_;exact(mr (qA o h) (qA o h')).mpr m
theorem OI(o:Dq lt){l l':List α}(h:jG lt l')(m:∀z,z∈l'↔z∈l):l'=dC lt l:=z1b o h (rN o l) λz=>(m z).trans (oZ o z l).symm
theorem AF(l:List α):(dC lt l).length<=l.length:=by
 have ins:∀(x:α)(l:List α),(kB lt x l).length<=l.length+1:=λx l=>by
  induction l with
  |nil=>simp[kB]
  |cons y r ih=>
   unfold kB
   split
   ·simp;lia
   ·split<;>simp
 induction l with
 |nil=>simp[dC]
 |cons x r ih=>have:=ins x (dC lt r);simp only[dC,bu];lia
def rk(lt:α->α->Bool)(ks:List α)(x:α):Nat:=ks.countP λy=>lt y x
theorem F0{p q:α->Bool}:∀(l:List α),(∀y,p y=true->q y=true)->l.countP p<=l.countP q
 |[],_=>aq _
 |y::r,h=>by
  have:=F0 r h;rw[si,si]
  cases hp:p y with
  |true=>rw[h y hp];simp;lia
  |false=>cases q y<;>simp<;>lia
theorem OJ{p q:α->Bool}:∀(l:List α),(∀y,p y=true->q y=true)->∀x,x∈l->q x=true->p x=false->l.countP p<l.countP q
 |[],_,x,hx,_,_=>by simp at hx
 |y::r,h,x,hx,h1,h2=>by
  rw[si,si]
  rcases aw.mp hx with rfl|hx
  ·have:=F0 r h;rw[h1,h2];simp;lia
  ·have:=OJ r h x hx h1 h2
   cases hp:p y with
   |true=>rw[h y hp];simp;lia
   |false=>cases q y<;>simp<;>lia
theorem OK(o:Dq lt){ks:List α}{x z:α}(hx:x∈ks):decide (rk lt ks x<rk lt ks z)=lt x z:=by
 cases q:lt x z with
 |true=>exact decide_eq_true (OJ ks (λy h=>o.tr y x z h q) x hx q (o.irr x))
 |false=>exact decide_eq_false (Nat.not_lt.mpr (F0 ks λy h=>o.lt_le h q))
theorem z1c(o:Dq lt){ks:List α}{x z:α}(hz:z∈ks)(h:rk lt ks x<=rk lt ks z):lt z x=false:=by rw[<-OK o hz];exact decide_eq_false (Nat.not_lt.mpr h)
end
def dN:y'->y'->Bool
 |[],[]=>false
 |[],_::_=>true
 |_::_,[]=>false
 |a::x,b::y=>if a==b then dN x y else decide (a<b)
theorem Dg:Dq dN:=by
 refine⟨λx=>?_,λx=>?_,λx=>?_⟩
 ·induction x with
  |nil=>rfl
  |cons a x ih=>simp[dN,ih]
 ·induction x with
  |nil=>
   intro y z h1 h2
   cases z with
   |nil=>cases y with
    |nil=>exact h1
    |cons b y=>cases h2
   |cons c z=>rfl
  |cons a x ih=>
   intro y z h1 h2
   cases y with
   |nil=>cases h1
   |cons b y=>
    cases z with
    |nil=>cases h2
    |cons c z=>
     simp only[dN,beq_iff_eq]at h1 h2⊢
     by_cases e1:a=b<;>by_cases e2:b=c
     ·rw[if_pos e1]at h1;rw[if_pos e2]at h2;rw[if_pos (e1.trans e2)];exact ih y z h1 h2
     ·rw[if_neg e2]at h2;rw[if_neg (by rw[e1];exact e2)];rw[e1];exact h2
     ·rw[if_neg e1]at h1;rw[if_neg (by rw[<-e2];exact e1)];rw[<-e2];exact h1
     ·rw[if_neg e1]at h1;rw[if_neg e2]at h2;simp only[decide_eq_true_eq]at h1 h2;rw[if_neg (by lia)];simp;lia
 ·induction x with
  |nil=>
   intro y h1 h2
   cases y with
   |nil=>rfl
   |cons b y=>cases h1
  |cons a x ih=>
   intro y h1 h2
   cases y with
   |nil=>cases h2
   |cons b y=>
    simp only[dN,beq_iff_eq]at h1 h2
    by_cases e:a=b
    ·subst e;rw[if_pos rfl]at h1 h2;rw[ih y h1 h2]
    ·rw[if_neg e]at h1;rw[if_neg (dk e)]at h2;simp at h1 h2;lia
def gG(p q:Int×Int):Bool:=if p.1==q.1 then decide (p.2<q.2)else decide (p.1<q.1)
def lG(p:Int×Int):y':=[p.1,p.2]
theorem wK(p q:Int×Int):dN (lG p) (lG q)=gG p q:=by
 unfold gG lG dN
 split
 ·unfold dN
  split
  ·rename_i h;simp at h;simp[dN,h]
  ·rfl
 ·rfl
theorem z1d{p q:Int×Int}(h:lG p=lG q):p=q:=by obtain⟨a,b⟩:=p;obtain⟨c,d⟩:=q;simp[lG]at h;rw[h.1,h.2]
theorem stoP:Dq gG:=⟨λx=>by rw[<-wK];exact Dg.irr _,λx y z h1 h2=>by rw[<-wK]at *;exact Dg.tr _ _ _ h1 h2,λx y h1 h2=>by rw[<-wK]at *;exact z1d (Dg.tot _ _ h1 h2)⟩
section
variable{α β:Type}{lt:α->α->Bool}{lt':β->β->Bool}{f:α->β}
theorem OL(h:∀x y,lt' (f x) (f y)=lt x y)(x:α):∀l,kB lt' (f x) (l.map f)=(kB lt x l).map f
 |[]=>rfl
 |y::r=>by
  simp only[du,kB,h]
  split
  ·rw[OL h x r];rfl
  ·split<;>rfl
theorem OM(h:∀x y,lt' (f x) (f y)=lt x y):∀l,dC lt' (l.map f)=(dC lt l).map f
 |[]=>rfl
 |x::r=>by rw[du,dC,OM h r,OL h];rfl
end
end L2
namespace SM
open PySem PySem.SetTable
def fZ(l:Aw):Prop:=l.Pairwise (·<·)
theorem F1{l:Aw}(hr:fZ l){i k x:Nat}(a:l[i]?=some x)(b:l[k]?=some x):i=k:=by
 obtain⟨p1,p2⟩:=bw.mp a;obtain⟨q1,q2⟩:=bw.mp b
 rcases Nat.lt_trichotomy i k with h|h|h
 ·have:=ik.mp hr i k p1 q1 h;lia
 ·exact h
 ·have:=ik.mp hr k i q1 p1 h;lia
theorem z1e(xs:Array Nat)(j:Nat)(hr:fZ xs.toList):∀(fuel lo hi:Nat),lo<=hi->hi<=xs.size->hi-lo<=fuel->
  (∀i(h:i<xs.size),i<lo->xs[i]<j)->(∀i(h:i<xs.size),hi<=i->j<=xs[i])->
  (∀i(h:i<xs.size),i<below.go xs j fuel lo hi->xs[i]<j)/\(∀i(h:i<xs.size),below.go xs j fuel lo hi<=i->j<=xs[i])/\below.go xs j fuel lo hi<=xs.size:=by
 intro fuel
 induction fuel with
 |zero=>
  intro lo hi h1 h2 h3 ha hb;have:lo=hi:=by lia
  subst this;exact⟨ha,hb,h2⟩
 |succ n ih=>
  intro lo hi h1 h2 h3 ha hb;unfold below.go
  by_cases hlt:lo<hi
  ·rw[if_pos hlt];dsimp only;have hm:(lo+hi)/2<xs.size:=by lia
   have e:xs.getD ((lo+hi)/2) j=xs[(lo+hi)/2]:=by simp[lj,hm]
   have mono:∀a b(ha:a<xs.size)(hb:b<xs.size),a<b->xs[a]<xs[b]:=by intro a b ha hb Dy;have:=ik.mp hr a b (by simpa using ha) (by simpa using hb) Dy;simpa using this
   by_cases hc:xs.getD ((lo+hi)/2) j<j
   ·rw[if_pos hc];refine ih _ _ (by lia) h2 (by lia) ?_ hb;intro i h hi';rw[e]at hc
    by_cases q:i=(lo+hi)/2
    ·subst q;exact hc
    ·have:=mono i _ h hm (by lia);lia
   ·rw[if_neg hc];refine ih _ _ (by lia) (by lia) (by lia) ha ?_;intro i h hi';rw[e]at hc
    by_cases q:i=(lo+hi)/2
    ·subst q;lia
    ·have:=mono _ i hm h (by lia);lia
  ·rw[if_neg hlt];have:lo=hi:=by lia
   subst this;exact⟨ha,hb,h2⟩
theorem tO{xs:Array Nat}{j:Nat}(hr:fZ xs.toList):
  (∀i(h:i<xs.size),i<below xs j->xs[i]<j)/\(∀i(h:i<xs.size),below xs j<=i->j<=xs[i])/\below xs j<=xs.size:=
 z1e xs j hr xs.size 0 xs.size (gz _) (aq _) (by lia) (λi h hi=>absurd hi (by lia)) (λi h hi=>absurd h (by lia))
theorem ON{xs:Array Nat}{j:Nat}(hr:fZ xs.toList)(hm:j∈xs.toList):xs[below xs j]?=some j:=by
 obtain⟨h1,h2,h3⟩:=tO (j:=j) hr;obtain⟨i,hi,e⟩:=kg hm;have hi':i<xs.size:=by simpa using hi
 have e':xs[i]=j:=by simpa using e
 have hle:below xs j<=i:=by
  rcases jw i (below xs j)with q|q
  ·have:=h1 i hi' q;lia
  ·exact q
 have hb:below xs j<xs.size:=by lia
 have:=h2 (below xs j) hb (aq _);have mono:∀a b(ha:a<xs.size)(hb:b<xs.size),a<b->xs[a]<xs[b]:=by intro a b ha hb Dy;have:=ik.mp hr a b (by simpa using ha) (by simpa using hb) Dy;simpa using this
 have hE:below xs j=i:=by
  rcases jw (below xs j) i with q|q
  ·have:=mono _ _ hb hi' q;lia
  ·lia
 rw[gc hb]
 congr 1
 have:∀k(hk:k<xs.size),k=i->xs[k]=xs[i]:=by intro k hk e;subst e;rfl
 rw[this _ hb hE,e']
theorem z1f{xs:Array Nat}{j:Nat}(hm:j∉xs.toList):(xs[below xs j]?==some j)=false:=by rw[beq_eq_false_iff_ne];intro e;obtain⟨h,e⟩:=ff.mp e;exact hm (by rw[<-e];simp)
theorem tP{α:Type}(xs:Array α)(p:Nat)(x:α)(hp:p<=xs.size):(insertAt xs p x).toList=xs.toList.take p++x::xs.toList.drop p:=by unfold insertAt;rw[Array.toList_append,Array.toList_push];simp[Array.toList_extract,oi]
theorem z1g{xs:Array Nat}{j:Nat}(hr:fZ xs.toList)(hm:j∉xs.toList):fZ (insertAt xs (below xs j) j).toList:=by
 obtain⟨h1,h2,h3⟩:=tO (j:=j) hr;rw[tP _ _ _ h3];unfold fZ at hr⊢;have hlt:∀a∈xs.toList.take (below xs j),a<j:=by intro a ha;obtain⟨i,hi,e⟩:=kg ha;rw[kz]at hi;rw[List.getElem_take]at e;have:=h1 i (by simp at hi;lia) (by lia);simp at e;lia
 have hgt:∀a∈xs.toList.drop (below xs j),j<a:=by
  intro a ha;obtain⟨i,hi,e⟩:=kg ha;rw[oz]at hi;rw[List.getElem_drop]at e;have q:=h2 (below xs j+i) (by simp at hi;lia) (by lia);have ne:a≠j:=by rintro rfl;exact hm (List.mem_of_mem_drop ha)
  simp at e;lia
 rw[List.pairwise_append];refine⟨hr.sublist (List.take_sublist _ _),?_,?_⟩
 ·rw[df];exact⟨hgt,hr.sublist (List.drop_sublist _ _)⟩
 ·intro a ha b hb
  rcases aw.mp hb with rfl|hb
  ·exact hlt a ha
  ·have:=hlt a ha;have:=hgt b hb;lia
def pA(mask:Nat)(p:Probe):Probe:=
 if p.more>0 then{p with j:=p.j+1,more:=p.more-1} else
 {p with j:=(leap mask p.i p.perturb).1,more:=runEnd mask (leap mask p.i p.perturb).1-(leap mask p.i p.perturb).1,i:=(leap mask p.i p.perturb).1,perturb:=(leap mask p.i p.perturb).2}
theorem OO(t:gh)(p:Probe):t.advance p=pA t.mask p:=by
 unfold SetTable.advance pA
 split<;>rfl
def wL(mask:Nat)(h:Int):Probe:={j:=bits h%(mask+1),more:=runEnd mask (bits h%(mask+1))-bits h%(mask+1),i:=bits h%(mask+1),perturb:=bits h,dummy:=none}
def eF(mask:Nat)(h:Int):Nat->Probe
 |0=>wL mask h
 |n+1=>pA mask (eF mask h n)
def pr(mask:Nat)(h:Int)(n:Nat):Nat:=(eF mask h n).j
theorem z1h(mask:Nat)(p:Probe):(pA mask p).dummy=p.dummy:=by unfold pA;split<;>rfl
theorem OP(mask:Nat)(h:Int):∀n,(eF mask h n).dummy=none
 |0=>rfl
 |n+1=>by rw[eF,z1h,OP mask h n]
def rO(mask i pt:Nat):Probe:={j:=i,more:=runEnd mask i-i,i:=i,perturb:=pt,dummy:=none}
def bs(mask:Nat)(h:Int):Nat->Nat×Nat
 |0=>(bits h%(mask+1),bits h)
 |L+1=>leap mask (bs mask h L).1 (bs mask h L).2
theorem z1i(mask i:Nat):runEnd mask i-i<=9:=by unfold runEnd;split<;>lia
theorem AG(mask:Nat)(h:Int)(i pt:Nat)(n:Nat)(e:eF mask h n=rO mask i pt):∀k,k<=runEnd mask i-i->eF mask h (n+k)={rO mask i pt with j:=i+k,more:=runEnd mask i-i-k}
 |0,_=>by rw[Nat.add_zero,e];rfl
 |k+1,hk=>by
  have ih:=AG mask h i pt n e k (by lia);rw[show n+(k+1)=(n+k)+1 from rfl,eF,ih];unfold pA;rw[if_pos (show runEnd mask i-i-k>0 by lia)];simp[rO]
  lia
theorem OQ(mask:Nat)(h:Int):∀L,∃n,n<=10*L/\eF mask h n=rO mask (bs mask h L).1 (bs mask h L).2
 |0=>⟨0,by lia,rfl⟩
 |L+1=>by obtain⟨n,hn,e⟩:=OQ mask h L;have r:=AG mask h _ _ n e (runEnd mask (bs mask h L).1-(bs mask h L).1) (aq _);have:=z1i mask (bs mask h L).1;refine⟨n+(runEnd mask (bs mask h L).1-(bs mask h L).1)+1,by lia,?_⟩;rw[eF,r];unfold pA;rw[if_neg (by simp)];rfl
theorem OR(mask:Nat)(h:Int):∀L,(bs mask h L).2=bits h/32^L
 |0=>by simp[bs]
 |L+1=>by rw[bs];show(bs mask h L).2/32=_;rw[OR mask h L,Nat.div_div_eq_div_mul,Nat.pow_succ]
theorem z1j(h:Int):bits h<2^64:=by unfold bits;lia
theorem z1k(mask:Nat)(h:Int){L:Nat}(hL:13<=L):(bs mask h L).2=0:=by
 rw[OR];have h1:=z1j h;have h2:(32:Nat)^13<=32^L:=Ap (by decide) hL;have h3:(2:Nat)^64<32^13:=by decide
 exact Nat.div_eq_of_lt (by lia)
def fx(mask x:Nat):Nat:=(x*5+1)%(mask+1)
def qB(mask:Nat):Nat->Nat->Nat
 |0,x=>x
 |n+1,x=>qB mask n (fx mask x)
theorem OS(mask:Nat):∀n x,qB mask (n+1) x=fx mask (qB mask n x)
 |0,x=>rfl
 |n+1,x=>by rw[qB,OS mask n,qB]
theorem OT(mask:Nat)(h:Int):∀n,(bs mask h (13+n)).1=qB mask n (bs mask h 13).1
 |0=>rfl
 |n+1=>by rw[OS,<-OT mask h n,show 13+(n+1)=(13+n)+1 from rfl,bs];show((bs mask h (13+n)).1*5+1+(bs mask h (13+n)).2/32)%(mask+1)=_;rw[z1k mask h (by lia)];rfl
def tQ(mask:Nat):Nat->Nat->Nat
 |0,_=>0
 |n+1,x=>2^x||| tQ mask n (fx mask x)
theorem OU(mask j:Nat):∀n x,(tQ mask n x).testBit j=true->∃k,k<n/\qB mask k x=j
 |0,x,h=>by simp[tQ]at h
 |n+1,x,h=>by
  rw[tQ,Nat.testBit_or,xj]at h
  rcases h with h|h
  ·rw[Nat.testBit_two_pow,decide_eq_true_eq]at h;exact⟨0,by lia,h⟩
  ·obtain⟨k,hk,e⟩:=OU mask j n _ h;exact⟨k+1,by lia,e⟩
def lH(mask:Nat):Prop:=mask=7∨mask=31∨mask=127
def OV(mask:Nat):Bool:=(ak (mask+1)).all λx=>tQ mask (mask+1) x==2^(mask+1)-1
theorem z1l{mask:Nat}(g:lH mask):OV mask=true:=by rcases g with rfl|rfl|rfl<;>decide+kernel
theorem z1m{mask x j:Nat}(g:lH mask)(hx:x<=mask)(hj:j<=mask):∃k,k<=mask/\qB mask k x=j:=by
 have h1:=z1l g;unfold OV at h1;rw[fg]at h1;have h2:=h1 x (bg.mpr (by lia));rw[beq_iff_eq]at h2;have h3:(tQ mask (mask+1) x).testBit j=true:=by rw[h2,Nat.testBit_two_pow_sub_one,decide_eq_true_eq];lia
 obtain⟨k,hk,e⟩:=OU mask j _ _ h3;exact⟨k,by lia,e⟩
theorem AH(a m:Nat):a%(m+1)<=m:=by
 have:=Nat.mod_lt a (show 0<m+1 by lia)
 lia
theorem z1n(mask:Nat)(h:Int):∀L,(bs mask h L).1<=mask
 |0=>AH _ _
 |L+1=>AH _ _
theorem OW{mask j:Nat}(g:lH mask)(h:Int)(hj:j<=mask):∃L,L<=13+mask/\(bs mask h L).1=j:=by obtain⟨k,hk,e⟩:=z1m g (z1n mask h 13) hj;exact⟨13+k,by lia,by rw[OT];exact e⟩
theorem z1o{mask j:Nat}(g:lH mask)(h:Int)(hj:j<=mask):∃n,n<10*turns mask/\pr mask h n=j:=by obtain⟨L,hL,e⟩:=OW g h hj;obtain⟨n,hn,e2⟩:=OQ mask h L;refine⟨n,by unfold turns;lia,?_⟩;unfold pr;rw[e2];exact e
theorem OX{mask i:Nat}(hi:i<=mask):runEnd mask i<=mask:=by unfold runEnd;split<;>lia
theorem OY{mask:Nat}(h:Int):∀n,(eF mask h n).i<=mask/\(eF mask h n).j+(eF mask h n).more<=mask
 |0=>by
  have e:bits h%(mask+1)<=mask:=AH _ _;have:=OX e;have:bits h%(mask+1)<=runEnd mask (bits h%(mask+1)):=by unfold runEnd;split<;>lia
  exact⟨e,by show bits h%(mask+1)+(runEnd mask (bits h%(mask+1))-bits h%(mask+1))<=mask;lia⟩
 |n+1=>by
  obtain⟨h1,h2⟩:=OY (mask:=mask) h n;rw[eF];unfold pA
  split
  ·exact⟨h1,by dsimp only;lia⟩
  ·dsimp only;have e:(leap mask (eF mask h n).i (eF mask h n).perturb).1<=mask:=AH _ _;have:=OX e;have:(leap mask (eF mask h n).i (eF mask h n).perturb).1<=runEnd mask (leap mask (eF mask h n).i (eF mask h n).perturb).1:=by unfold runEnd;split<;>lia
   exact⟨e,by lia⟩
theorem F2{mask:Nat}(h:Int)(n:Nat):pr mask h n<=mask:=by have:=(OY (mask:=mask) h n).2;unfold pr;lia
def Way(mask:Nat)(occ:Nat->Prop)(h:Int)(j:Nat):Prop:=∃n,pr mask h n=j/\∀m,m<n->occ (pr mask h m)
theorem Way.mono{mask:Nat}{occ occ':Nat->Prop}{h:Int}{j:Nat}(w:Way mask occ h j)(k:∀x,occ x->occ' x):Way mask occ' h j:=let ⟨n,e,a⟩:=w;⟨n,e,λm hm=>k _ (a m hm)⟩
structure Dc(t:gh)(hs:y'):Prop where
 size:t.place.size=hs.length
 rise:fZ t.place.toList
 nod:t.dummies=#[]
 bnd:∀j∈t.place.toList,j<=t.mask
 room:hs.length<=t.mask
 msk:lH t.mask
 way:∀(i:Nat)(h:Int)(j:Nat),hs[i]?=some h->t.place.toList[i]?=some j->Way t.mask (·∈t.place.toList) h j
 plain:t.plain=true
theorem Dc.fits{t:gh}{hs:y'}(T:Dc t hs):t.fits hs.length=true:=by unfold SetTable.fits xl;rw[T.nod,T.size];simpa using T.room
theorem Dc.gave{t:gh}{hs:y'}(T:Dc t hs):t.gaveWay=false:=by
 unfold SetTable.gaveWay
 rcases T.msk with e|e|e<;>rw[e]<;>rfl
theorem OZ(j:Nat):SetTable.has #[] j=false:=by unfold SetTable.has;simp
theorem Dc.slot_live{t:gh}{hs:y'}(T:Dc t hs){j:Nat}(h:j∈t.place.toList):∃i,t.slot j=.live i/\t.place.toList[i]?=some j:=by refine⟨below t.place j,?_,by simpa using ON T.rise h⟩;unfold SetTable.slot;dsimp only;rw[ON T.rise h];simp
theorem Dc.slot_empty{t:gh}{hs:y'}(T:Dc t hs){j:Nat}(h:j∉t.place.toList):t.slot j=.empty:=by unfold SetTable.slot;dsimp only;rw[z1f h,T.nod,OZ];rfl
theorem Dc.empty_there{t:gh}{hs:y'}(T:Dc t hs):∃j,j<=t.mask/\j∉t.place.toList:=by
 rcases rh (∃j,j<=t.mask/\j∉t.place.toList)with h|h
 ·exact h
 ·exfalso
  have h1:∀j,j∈ak (t.mask+1)->j∈t.place.toList:=by
   intro j hj
   rcases rh (j∈t.place.toList)with q|q
   ·exact q
   ·exact absurd ⟨j,by have:=bg.mp hj;lia,q⟩ h
  have h2:=(sj (n:=t.mask+1)).length_le_of_subset h1;rw[dm]at h2;have h3:t.place.toList.length=hs.length:=by rw[<-T.size];simp
  have:=T.room
  lia
theorem O2{t:gh}{hs:y'}(T:Dc t hs)(hashAt:Nat->Int)(h:Int):∀(fuel n N:Nat),n<=N->N-n<fuel->pr t.mask h N∉t.place.toList->
  ∃m,n<=m/\m<=N/\(∀l,n<=l->l<m->pr t.mask h l∈t.place.toList/\∀i,t.place.toList[i]?=some (pr t.mask h l)->hashAt i≠h)/\
   ((pr t.mask h m∉t.place.toList/\probe.go t hashAt h fuel (eF t.mask h n)=some (.empty (pr t.mask h m) none)) ∨
    (∃i,t.place.toList[i]?=some (pr t.mask h m)/\hashAt i=h/\probe.go t hashAt h fuel (eF t.mask h n)=some (.candidate (pr t.mask h m) i (eF t.mask h (m+1))))):=by
 intro fuel
 induction fuel with
 |zero=>intro n N _ h2 _;lia
 |succ f ih=>
  intro n N h1 h2 h3;have hj:(eF t.mask h n).j=pr t.mask h n:=rfl
  rcases rh (pr t.mask h n∈t.place.toList)with hm|hm
  ·obtain⟨i,e1,e2⟩:=T.slot_live hm
   by_cases hh:hashAt i=h
   ·refine⟨n,aq _,h1,λl a b=>absurd a (by lia),.inr ⟨i,e2,hh,?_⟩⟩;rw[probe.go,hj,e1];dsimp only;rw[if_pos (beq_iff_eq.mpr hh),OO];rfl
   ·have hne:n≠N:=by rintro rfl;exact h3 hm
    obtain⟨m,a1,a2,a3,a4⟩:=ih (n+1) N (by lia) (by lia) h3;have e3:probe.go t hashAt h (f+1) (eF t.mask h n)=probe.go t hashAt h f (eF t.mask h (n+1)):=by rw[probe.go,hj,e1];dsimp only;rw[if_neg (by intro q;exact hh (beq_iff_eq.mp q)),OO];rfl
    refine⟨m,by lia,a2,λl b1 b2=>?_,by rw[e3];exact a4⟩
    rcases jw n l with q|q
    ·exact a3 l (by lia) b2
    ·have:l=n:=by lia
     subst this;refine⟨hm,λi' e'=>?_⟩;have:i'=i:=F1 T.rise e' e2;subst this;exact hh
  ·refine⟨n,aq _,h1,λl a b=>absurd a (by lia),.inl ⟨hm,?_⟩⟩;rw[probe.go,hj,T.slot_empty hm];dsimp only;rw[OP]
theorem Dc.stops{t:gh}{hs:y'}(T:Dc t hs)(h:Int):∃N,N<10*turns t.mask/\pr t.mask h N∉t.place.toList:=by obtain⟨j,hj,hn⟩:=T.empty_there;obtain⟨N,hN,e⟩:=z1o T.msk h hj;exact⟨N,hN,by rw[e];exact hn⟩
theorem Dc.before{t:gh}{hs:y'}(T:Dc t hs){h:Int}{i j m:Nat}(e1:hs[i]?=some h)(e2:t.place.toList[i]?=some j)(hm:pr t.mask h m∉t.place.toList):∃n,n<m/\pr t.mask h n=j:=by
 obtain⟨n,e,a⟩:=T.way i h j e1 e2;refine⟨n,?_,e⟩
 rcases jw n m with q|q
 ·exact q
 ·exfalso
  rcases jw m n with r|r
  ·exact hm (a m r)
  ·have:m=n:=by lia
   subst this;exact hm (by rw[e];exact dw e2)
theorem O3{xs:Array Nat}{p j x:Nat}(hp:p<=xs.size):x∈(insertAt xs p j).toList↔x=j∨x∈xs.toList:=by
 rw[tP _ _ _ hp,cz,aw];have e:x∈xs.toList↔x∈xs.toList.take p∨x∈xs.toList.drop p:=by rw[<-cz,zv]
 rw[e];constructor
 ·rintro (a|a|a)
  ·exact .inr (.inl a)
  ·exact .inl a
  ·exact .inr (.inr a)
 ·rintro (a|a|a)
  ·exact .inr (.inl a)
  ·exact .inl a
  ·exact .inr (.inr a)
theorem O4{t:gh}(hn:t.dummies=#[])(j:Nat):t.put j=({t with place:=insertAt t.place (below t.place j) j},below t.place j):=by unfold SetTable.put;dsimp only;rw[hn,OZ];cases t;subst hn;rfl
theorem O5{α:Type}(l:List α)(x:α)(p i:Nat)(hp:p<=l.length):(l.take p++x::l.drop p)[i]?=if i<p then l[i]? else if i=p then some x else l[i-1]?:=by
 have hl:(l.take p).length=p:=by rw[kz];lia
 by_cases h1:i<p
 ·rw[if_pos h1,gd (by lia),yw h1]
 ·rw[if_neg h1,jh (by lia),hl]
  by_cases h2:i=p
  ·subst h2;rw[if_pos rfl,Nat.sub_self];rfl
  ·rw[if_neg h2];obtain⟨k,rfl⟩:∃k,i=p+(k+1):=⟨i-p-1,by lia⟩
   rw[show p+(k+1)-p=k+1 by lia,zc,List.getElem?_drop,show p+(k+1)-1=p+k by lia]
theorem Dc.put{t:gh}{hs:y'}(T:Dc t hs){h:Int}{n:Nat}(hn:pr t.mask h n∉t.place.toList)(hw:∀m,m<n->pr t.mask h m∈t.place.toList)(hr:hs.length+1<=t.mask):
  Dc {t with place:=insertAt t.place (below t.place (pr t.mask h n)) (pr t.mask h n)} (hs.take (below t.place (pr t.mask h n))++h::hs.drop (below t.place (pr t.mask h n))):=by
 have hb:=(tO (j:=pr t.mask h n) T.rise).2.2;have Fc:t.place.toList.length=hs.length:=by rw[<-T.size];simp
 have hlen:(hs.take (below t.place (pr t.mask h n))++h::hs.drop (below t.place (pr t.mask h n))).length=hs.length+1:=by
  rw[cf,bu,kz,oz];have:=T.size
  lia
 refine⟨?_,z1g T.rise hn,T.nod,?_,?_,T.msk,?_,T.plain⟩
 ·show(insertAt t.place (below t.place (pr t.mask h n)) (pr t.mask h n)).size=_;rw[hlen];have:(insertAt t.place (below t.place (pr t.mask h n)) (pr t.mask h n)).toList.length=hs.length+1:=by
   rw[tP _ _ _ hb,cf,bu,kz,oz,Fc];have:=T.size
   lia
  simpa using this
 ·intro j hj
  rcases(O3 hb).mp hj with rfl|hj
  ·exact F2 h n
  ·exact T.bnd j hj
 ·rw[hlen];exact hr
 ·intro i h' j e1 e2;have Fu:(t.place.toList.take (below t.place (pr t.mask h n))++pr t.mask h n::t.place.toList.drop (below t.place (pr t.mask h n)))[i]?=some j:=by rw[<-tP _ _ _ hb];exact e2
  have hb2:below t.place (pr t.mask h n)<=hs.length:=by rw[<-T.size];exact hb
  rw[O5 _ _ _ _ hb2]at e1;rw[O5 _ _ _ _ (by rw[Fc];exact hb2)]at Fu;have mono:∀x,x∈t.place.toList->x∈(insertAt t.place (below t.place (pr t.mask h n)) (pr t.mask h n)).toList:=λx hx=>(O3 hb).mpr (.inr hx)
  by_cases q1:i<below t.place (pr t.mask h n)
  ·rw[if_pos q1]at e1 Fu;exact(T.way _ _ _ e1 Fu).mono mono
  ·rw[if_neg q1]at e1 Fu
   by_cases q2:i=below t.place (pr t.mask h n)
   ·rw[if_pos q2]at e1 Fu
    cases e1;cases Fu
    exact⟨n,rfl,λm hm=>mono _ (hw m hm)⟩
   ·rw[if_neg q2]at e1 Fu;exact(T.way _ _ _ e1 Fu).mono mono
def iW(owner:Array (Option Nat))(j:Nat):Prop:=(owner.getD j (some 0)).isSome=true
theorem O6{P:Nat->Bool}{n:Nat}(h:(ak n).find? P=none):∀k,k<n->P k=false:=by intro k hk;have:=List.find?_eq_none.mp h k (bg.mpr hk);simpa using this
theorem z1p{P:Nat->Bool}:∀{n k:Nat},(ak n).find? P=some k->k<n/\P k=true/\∀l,l<k->P l=false:=by
 intro n
 induction n with
 |zero=>intro k h;simp at h
 |succ n ih=>
  intro k h;rw[qf,List.find?_append]at h
  cases q:(ak n).find? P with
  |some k'=>rw[q]at h;simp at h;subst h;obtain⟨a,b,c⟩:=ih q;exact⟨by lia,b,c⟩
  |none=>
   rw[q]at h
   by_cases hp:P n=true
   ·simp[hp]at h;subst h;exact⟨by lia,hp,λl hl=>O6 q l hl⟩
   ·simp[hp]at h
theorem z1q{mask:Nat}{h:Int}{L n:Nat}(e:eF mask h n=rO mask (bs mask h L).1 (bs mask h L).2):eF mask h (n+(runEnd mask (bs mask h L).1-(bs mask h L).1)+1)=rO mask (bs mask h (L+1)).1 (bs mask h (L+1)).2:=by have r:=AG mask h _ _ n e (runEnd mask (bs mask h L).1-(bs mask h L).1) (aq _);rw[eF,r];unfold pA;rw[if_neg (by simp)];rfl
theorem z1r{mask:Nat}{h:Int}{owner:Array (Option Nat)}:∀(fuel L n:Nat),eF mask h n=rO mask (bs mask h L).1 (bs mask h L).2->(∀k,k<n->iW owner (pr mask h k))->
  (∃L',L<=L'/\L'<L+fuel/\¬iW owner (bs mask h L').1)->
  ∃n,layClean.free mask owner fuel (bs mask h L).1 (bs mask h L).2=some (pr mask h n)/\¬iW owner (pr mask h n)/\∀m,m<n->iW owner (pr mask h m):=by
 intro fuel
 induction fuel with
 |zero=>rintro L n _ _ ⟨L',a,b,_⟩;lia
 |succ f ih=>
  rintro L n e hb ⟨L',a1,a2,a3⟩
  have r:=AG mask h _ _ n e;have hle:(bs mask h L).1<=runEnd mask (bs mask h L).1:=by unfold runEnd;split<;>lia
  rw[layClean.free]
  cases q:(ak (runEnd mask (bs mask h L).1+1-(bs mask h L).1)).find? λk=>(owner.getD ((bs mask h L).1+k) (some 0)).isNone with
  |some k=>
   obtain⟨b1,b2,b3⟩:=z1p q;dsimp only;have ek:pr mask h (n+k)=(bs mask h L).1+k:=by unfold pr;rw[r k (by lia)]
   refine⟨n+k,by rw[ek],?_,λm hm=>?_⟩
   ·rw[ek];unfold iW;simp at b2;simp[b2]
   ·rcases jw m n with z|z
    ·exact hb m z
    ·obtain⟨l,rfl⟩:∃l,m=n+l:=⟨m-n,by lia⟩
     have el:pr mask h (n+l)=(bs mask h L).1+l:=by unfold pr;rw[r l (by lia)]
     rw[el];have:=b3 l (by lia);unfold iW
     cases w:owner.getD ((bs mask h L).1+l) (some 0)with
     |none=>rw[w]at this;simp at this
     |some _=>rfl
  |none=>
   dsimp only;have b:=O6 q;have hocc:∀l,l<=runEnd mask (bs mask h L).1-(bs mask h L).1->iW owner ((bs mask h L).1+l):=by
    intro l hl;have:=b l (by lia);unfold iW
    cases w:owner.getD ((bs mask h L).1+l) (some 0)with
    |none=>rw[w]at this;simp at this
    |some _=>rfl
   have hne:L≠L':=by
    rintro rfl
    exact a3 (by simpa using hocc 0 (by lia))
   refine ih (L+1) _ (z1q e) (λk hk=>?_) ⟨L',by lia,by lia,a3⟩
   rcases jw k n with z|z
   ·exact hb k z
   ·obtain⟨l,rfl⟩:∃l,k=n+l:=⟨k-n,by lia⟩
    have el:pr mask h (n+l)=(bs mask h L).1+l:=by unfold pr;rw[r l (by lia)]
    rw[el];exact hocc l (by lia)
structure LOk(mask:Nat)(hs:y')(owner:Array (Option Nat))(k:Nat):Prop where
 size:owner.size=mask+1
 own:∀(j i:Nat),owner[j]?=some (some i)->i<k/\∃h,hs[i]?=some h/\Way mask (iW owner) h j
 all:∀(i:Nat),i<k->∃j:Nat,owner[j]?=some (some i)
 inj:∀(j j' i:Nat),owner[j]?=some (some i)->owner[j']?=some (some i)->j=j'
theorem wN{owner:Array (Option Nat)}{j:Nat}(hj:j<owner.size):iW owner j↔∃i,owner[j]?=some (some i):=by
 unfold iW;rw[gc hj];simp only[lj,hj,dif_pos,Array.getInternal_eq_getElem,yu]
 cases owner[j]<;>simp
theorem LOk.free{mask k:Nat}{hs:y'}{owner:Array (Option Nat)}(O:LOk mask hs owner k)(hk:k<=mask):∃j,j<=mask/\¬iW owner j:=by
 rcases rh (∃j,j<=mask/\¬iW owner j)with h|h
 ·exact h
 ·exfalso
  have h1:∀j,j<=mask->∃i,owner[j]?=some (some i):=λj hj=>by
   rcases rh (iW owner j)with q|q
   ·exact(wN (by rw[O.size];lia)).mp q
   ·exact absurd ⟨j,hj,q⟩ h
  let f:Nat->Nat:=λj=>match owner[j]? with|some (some i)=>i|_=>0
  have hf:∀j,j<=mask->owner[j]?=some (some (f j)):=λj hj=>by obtain⟨i,e⟩:=h1 j hj;show owner[j]?=some (some (match owner[j]? with|some (some i)=>i|_=>0));rw[e]
  have nd:((ak (mask+1)).map f).Nodup:=by rw[ye];rw[rj];refine vq ?_ (sj (n:=mask+1));intro a b ha hb Dy e;have ea:=hf a (by have:=bg.mp ha;lia);have eb:=hf b (by have:=bg.mp hb;lia);rw[e]at ea;exact Dy (O.inj _ _ _ ea eb)
  have sub:∀x,x∈(ak (mask+1)).map f->x∈ak k:=by intro x hx;obtain⟨j,hj,rfl⟩:=br.mp hx;exact bg.mpr (O.own j _ (hf j (by have:=bg.mp hj;lia))).1
  have:=nd.length_le_of_subset sub;simp at this
  lia
theorem LOk.step{mask k:Nat}{hs:y'}{owner:Array (Option Nat)}{h:Int}(g:lH mask)(O:LOk mask hs owner k)(hk:k<=mask)(hh:hs[k]?=some h):
  ∃j,layClean.free mask owner (turns mask) (bits h%(mask+1)) (bits h)=some j/\LOk mask hs (owner.setIfInBounds j (some k)) (k+1):=by
 obtain⟨j0,hj0,hn0⟩:=O.free hk;obtain⟨L,hL,eL⟩:=OW g h hj0;obtain⟨n,e,hn,hw⟩:=z1r (mask:=mask) (h:=h) (owner:=owner) (turns mask) 0 0 rfl (λk hk=>absurd hk (by lia)) ⟨L,by lia,by unfold turns;lia,by rw[eL];exact hn0⟩;refine⟨pr mask h n,e,?_⟩;have hjl:pr mask h n<owner.size:=by rw[O.size];have:=F2 (mask:=mask) h n;lia
 have hjn:owner[pr mask h n]?=some none:=by
  rw[gc hjl];have:¬∃i,owner[pr mask h n]?=some (some i):=λq=>hn ((wN hjl).mpr q)
  cases w:owner[pr mask h n]with
  |none=>rfl
  |some i=>exact absurd ⟨i,by rw[gc hjl,w]⟩ this
 have get:∀j,(owner.setIfInBounds (pr mask h n) (some k))[j]?=if pr mask h n=j then some (some k)else owner[j]?:=by
  intro j;rw[Array.getElem?_setIfInBounds]
  by_cases q:pr mask h n=j
  ·rw[if_pos q,if_pos q,if_pos hjl]
  ·rw[if_neg q,if_neg q]
 have Cf:(owner.setIfInBounds (pr mask h n) (some k)).size=mask+1:=by rw[Array.size_setIfInBounds];exact O.size
 have occm:∀x,iW owner x->iW (owner.setIfInBounds (pr mask h n) (some k)) x:=by
  intro x hx
  by_cases hl:x<owner.size
  ·obtain⟨i,e⟩:=(wN hl).mp hx;refine(wN (by rw[Cf,<-O.size];exact hl)).mpr ?_;rw[get]
   by_cases q:pr mask h n=x
   ·exact⟨k,if_pos q⟩
   ·exact⟨i,by rw[if_neg q];exact e⟩
  ·unfold iW;simp[lj,hl]
 refine⟨Cf,?_,?_,?_⟩
 ·intro j i e;rw[get]at e
  by_cases q:pr mask h n=j
  ·rw[if_pos q]at e;cases e;exact⟨by lia,h,hh,n,q,λm hm=>occm _ (hw m hm)⟩
  ·rw[if_neg q]at e;obtain⟨a,h',b,c⟩:=O.own j i e;exact⟨by lia,h',b,c.mono occm⟩
 ·intro i hi
  by_cases q:i=k
  ·subst q;exact⟨pr mask h n,by rw[get,if_pos rfl]⟩
  ·obtain⟨j,e⟩:=O.all i (by lia);refine⟨j,?_⟩;rw[get]
   by_cases z:pr mask h n=j
   ·rw[<-z,hjn]at e;cases e
   ·rw[if_neg z];exact e
 ·intro j j' i e e';rw[get]at e e'
  by_cases z:pr mask h n=j
  ·rw[if_pos z]at e;cases e
   by_cases z':pr mask h n=j'
   ·exact z.symm.trans z'
   ·rw[if_neg z']at e';have:=(O.own j' _ e').1
    lia
  ·rw[if_neg z]at e
   by_cases z':pr mask h n=j'
   ·rw[if_pos z']at e';cases e';have:=(O.own j _ e).1
    lia
   ·rw[if_neg z']at e';exact O.inj _ _ _ e e'
theorem O7{mask:Nat}{hs:y'}(g:lH mask)(hl:hs.length<=mask):∀(l pre:y')(owner:Array (Option Nat)),hs=pre++l->LOk mask hs owner pre.length->
  ∃owner',l.foldl (λ(acc:Option (Array (Option Nat)×Nat))h=>do
    let (owner,k) <-acc
    let j <-layClean.free mask owner (turns mask) (bits h%(mask+1)) (bits h)
    pure (owner.setIfInBounds j (some k),k+1)) (some (owner,pre.length))=some (owner',hs.length)/\LOk mask hs owner' hs.length
 |[],pre,owner,e,O=>by rw[tq]at e;subst e;exact⟨owner,rfl,O⟩
 |h::l,pre,owner,e,O=>by
  have hh:hs[pre.length]?=some h:=by rw[e];simp
  obtain⟨j,e1,O1⟩:=O.step g (by rw[e]at hl;simp at hl;lia) hh;have e2:hs=(pre++[h])++l:=by rw[e];simp
  have hlen:(pre++[h]).length=pre.length+1:=by simp
  obtain⟨o',a,b⟩:=O7 g hl l (pre++[h]) _ e2 (by rw[hlen];exact O1);refine⟨o',?_,b⟩;rw[List.foldl_cons];rw[<-a,hlen]
  congr 1
  show(do let j <-layClean.free mask owner (turns mask) (bits h%(mask+1)) (bits h);pure (owner.setIfInBounds j (some pre.length),pre.length+1))=_;rw[e1];rfl
theorem z1s{mask:Nat}{hs:Array Int}(g:lH mask)(hl:hs.size<=mask):∃owner,layClean mask hs=some owner/\LOk mask hs.toList owner hs.size:=by
 have O0:LOk mask hs.toList (Array.replicate (mask+1) none) 0:=by
  refine⟨by simp,?_,λi hi=>absurd hi (by lia),?_⟩
  ·intro j i e;rw[yr]at e
   split at e<;>simp at e
  ·intro j j' i e;rw[yr]at e
   split at e<;>simp at e
 obtain⟨o',a,b⟩:=O7 g (by simpa using hl) hs.toList [] _ rfl O0;refine⟨o',?_,by simpa using b⟩;unfold layClean;rw[<-Array.foldl_toList];simp only[qc]at a;rw[a];rfl
theorem Way.mono'{mask:Nat}{occ occ':Nat->Prop}{h:Int}{j:Nat}(w:Way mask occ h j)(k:∀x,x<=mask->occ x->occ' x):Way mask occ' h j:=let ⟨n,e,a⟩:=w;⟨n,e,λm hm=>k _ (F2 h m) (a m hm)⟩
theorem O8(g:Nat->Option Nat):∀(l:Aw),l.Pairwise (·<·)->((l.filterMap λj=>(g j).map ((j,·):Nat->Nat×Nat)).map da).Pairwise (·<·)
 |[],_=>by simp
 |j::l,h=>by
  rw[df]at h;have ih:=O8 g l h.2
  cases e:g j with
  |none=>simpa[cw,e]using ih
  |some i=>
   simp only[cw,e,Option.map_some,du,df];refine⟨?_,ih⟩;intro a ha;obtain⟨⟨x,y⟩,hp,rfl⟩:=br.mp ha;obtain⟨z,hz,ez⟩:=jt.mp hp
   cases q:g z with
   |none=>rw[q]at ez;simp at ez
   |some i'=>
    rw[q]at ez;simp at ez;have:=h.1 z hz
    lia
theorem O9{mask finger moves:Nat}{led:Bool}{hs:Array Int}(g:lH mask)(hl:hs.size<=mask):
  ∃t order,laid mask finger moves led true hs=some (t,order)/\t.mask=mask/\t.led=led/\order.toList.Perm (ak hs.size)/\Dc t (order.toList.filterMap (hs.toList[·]?)):=by
 obtain⟨owner,e,O⟩:=z1s g hl;generalize hlive:(ak (mask+1)).filterMap (λj=>(owner.getD j none).map ((j,·):Nat->Nat×Nat))=live;have Dp:∀j i,(j,i)∈live↔owner[j]?=some (some i):=by
  intro j i;rw[<-hlive,jt];constructor
  ·rintro ⟨x,hx,ex⟩
   have Ez:x<owner.size:=by rw[O.size];exact bg.mp hx
   have eg:owner.getD x none=owner[x]:=by simp[lj,Ez]
   rw[eg]at ex
   cases q:owner[x]with
   |none=>rw[q]at ex;simp at ex
   |some i'=>rw[q]at ex;simp at ex;obtain⟨rfl,rfl⟩:=ex;rw[gc Ez,q]
  ·intro h;obtain⟨Ez,q⟩:=ff.mp h;refine⟨j,bg.mpr (by rw[<-O.size];exact Ez),?_⟩;have eg:owner.getD j none=owner[j]:=by simp[lj,Ez]
   rw[eg,q];rfl
 have hrise:(live.map da).Pairwise (·<·):=by rw[<-hlive];exact O8 _ _ (zh)
 have Dn:(live.map gr).Perm (ak hs.size):=by
  refine(mr ?_ sj).mpr ?_
  ·rw[ye,rj];rw[rj]at hrise;refine vq ?_ hrise
   rintro ⟨a,i⟩ ⟨b,i'⟩ ha hb Dy e
   have e':i=i':=e;subst e';have:=O.inj a b i ((Dp _ _).mp ha) ((Dp _ _).mp hb);have hab':a<b:=Dy
   lia
  ·intro i;rw[bg];constructor
   ·intro h;obtain⟨⟨j,i'⟩,hp,rfl⟩:=br.mp h;exact(O.own j i' ((Dp _ _).mp hp)).1
   ·intro h;obtain⟨j,ej⟩:=O.all i h;exact br.mpr ⟨(j,i),(Dp _ _).mpr ej,rfl⟩
 have hlen:live.length=hs.size:=by simpa using Dn.length_eq
 have hget:∀(i:Nat),((live.map gr).filterMap (hs.toList[·]?))[i]?=(live[i]?).bind λp=>hs.toList[p.2]?:=by
  have gen:∀(l:List (Nat×Nat)),(∀p∈l,p.2<hs.toList.length)->∀(i:Nat),((l.map gr).filterMap (hs.toList[·]?))[i]?=(l[i]?).bind λp=>hs.toList[p.2]?:=by
   intro l
   induction l with
   |nil=>intro _ i;simp
   |cons p l ih=>
    intro hp i;have h1:=hp p (bf ..);have e1:hs.toList[p.2]?=some hs.toList[p.2]:=bz h1;rw[du,cw,e1]
    cases i with
    |zero=>simp[e1]
    |succ i=>simp only[zc];exact ih (λq hq=>hp q (av _ hq)) i
  intro i;refine gen live ?_ i
  rintro ⟨j,k⟩ hp
  have:=(O.own j k ((Dp _ _).mp hp)).1;simpa using this
 have hlen':((live.map gr).filterMap (hs.toList[·]?)).length=hs.size:=by
  have gen:∀(l:List (Nat×Nat)),(∀p∈l,p.2<hs.toList.length)->((l.map gr).filterMap (hs.toList[·]?)).length=l.length:=by
   intro l
   induction l with
   |nil=>intro _;rfl
   |cons p l ih=>intro hp;have h1:=hp p (bf ..);have e1:hs.toList[p.2]?=some hs.toList[p.2]:=bz h1;rw[du,cw,e1];show(_::_).length=_;rw[bu,bu,ih (λq hq=>hp q (av _ hq))]
  rw[gen live ?_,hlen]
  rintro ⟨j,k⟩ hp
  have:=(O.own j k ((Dp _ _).mp hp)).1;simpa using this
 refine⟨{mask,place:=(live.map da).toArray,dummies:=#[],finger,led,moves,plain:=true},(live.map gr).toArray,?_,rfl,rfl,Dn,?_⟩
 ·unfold laid;rw[e];show some _=some _;rw[hlive]
 ·refine⟨(by show(live.map da).toArray.size=((live.map gr).filterMap (hs.toList[·]?)).length;rw[hlen',ba,ax,hlen]),hrise,rfl,?_,by rw[hlen'];exact hl,g,?_,rfl⟩
  ·intro j hj;obtain⟨⟨x,y⟩,hp,rfl⟩:=br.mp (show j∈live.map da from hj);have:=(Dp _ _).mp hp;obtain⟨Ez,_⟩:=ff.mp this;have:=O.size;show x<=mask
   lia
  ·intro i h j e1 e2;have e1':((live.map gr).filterMap (hs.toList[·]?))[i]?=some h:=e1;rw[hget]at e1';have Fu:(live.map da)[i]?=some j:=e2;rw[fw]at Fu
   cases q:live[i]? with
   |none=>rw[q]at Fu;cases Fu
   |some p=>
    obtain⟨x,k⟩:=p;rw[q]at e1' Fu;simp at e1' Fu;subst Fu;have hp:=dw q;obtain⟨a,h',b,c⟩:=O.own x k ((Dp _ _).mp hp);have hh:h'=h:=by
     have:hs.toList[k]?=some h:=by simpa using e1'
     rw[b]at this;exact de this
    subst hh;refine c.mono' λy hy ho=>?_;obtain⟨i',ei⟩:=(wN (by rw[O.size];lia)).mp ho;exact br.mpr ⟨(y,i'),(Dp _ _).mpr ei,rfl⟩
end SM
namespace SR
variable{prog:bj}{w:cn}{A:cq}{E:af->ag->Prop}{s:ag}
open SM
section
variable{prog:bj}{w:cn}
def hk(prog:bj)(w:cn)(k:y'):Int:=tupleKeyHash (intKind prog w) k
abbrev KB:=List (y'×ai)
def iI(prog:bj)(w:cn)(kb:KB):List (Int×af):=kb.map λp=>(hk prog w p.1,iq p.2)
structure Bw(prog:bj)(w:cn)(h:cy)(a:ai)(kb:KB)(o:Obj)(es:Array (Int×af))(ep:Nat)(t:gh):Prop where
 obj:h.get? a=some o
 ex:o.ExactSet
 data:o.data=.set es ep t
 es:es.toList=iI prog w kb
 tab:Dc t (kb.map λp=>hk prog w p.1)
 nd:(kb.map da).Nodup
 nf:kb.length*5<t.mask*3
 led:t.led=!w.params.followText "set-order"
structure Bq(w:cn)(h:cy)(a:ai)(hs:y')(o:Obj)(es:Array (Int×af))(ep:Nat)(t:gh):Prop where
 obj:h.get? a=some o
 ex:o.ExactSet
 data:o.data=.set es ep t
 size:es.size=hs.length
 tab:Dc t hs
 led:t.led=!w.params.followText "set-order"
def mD(prog:bj)(w:cn)(h:cy)(a:ai)(kb:KB):Prop:=∃o es ep t,Bw prog w h a kb o es ep t
def AI(prog:bj)(w:cn)(h:cy)(kb:KB):Prop:=∀p∈kb,ie (intKind prog w) h p.1 p.2
variable{h:cy}{a:ai}{kb:KB}{o:Obj}{es:Array (Int×af)}{ep:Nat}{t:gh}
theorem Bw.size(P:Bw prog w h a kb o es ep t):es.size=kb.length:=by have:=congrArg nv P.es;simpa[iI]using this
theorem Bw.e(P:Bw prog w h a kb o es ep t):Bq w h a (kb.map λp=>hk prog w p.1) o es ep t:=⟨P.obj,P.ex,P.data,P.size.trans (by simp),P.tab,P.led⟩
theorem Bq.fits{hs:y'}(P:Bq w h a hs o es ep t):t.fits es.size=true:=by rw[P.size];exact P.tab.fits
theorem Bq.at'{h':cy}{hs:y'}(P:Bq w h a hs o es ep t)(k:h'.get? a=some o):Bq w h' a hs o es ep t:=⟨k,P.ex,P.data,P.size,P.tab,P.led⟩
theorem Bw.at'{h':cy}(P:Bw prog w h a kb o es ep t)(k:h'.get? a=some o):Bw prog w h' a kb o es ep t:=⟨k,P.ex,P.data,P.es,P.tab,P.nd,P.nf,P.led⟩
theorem Bw.fits(P:Bw prog w h a kb o es ep t):t.fits es.size=true:=by have:=P.tab.fits;rw[ax]at this;rw[P.size];exact this
theorem Bw.at_(P:Bw prog w h a kb o es ep t){i:Nat}{p:y'×ai}(e:kb[i]?=some p):es[i]?=some (hk prog w p.1,.ref p.2):=by
 have:es.toList[i]?=some (hk prog w p.1,iq p.2):=by rw[P.es];simp[iI,e]
 simpa using this
theorem Bw.hash_at(P:Bw prog w h a kb o es ep t){i:Nat}{p:y'×ai}(e:kb[i]?=some p):(es[i]?.map (·.1)).getD 0=hk prog w p.1:=by rw[P.at_ e];rfl
end
section
variable{a:ai}{kb:KB}{o:Obj}{es:Array (Int×af)}{ep:Nat}{t:gh}
theorem PB{ks:y'}{b:ai}{Q:Bool->ag->Prop}(hb:ie (intKind prog w) s.heap ks b)(h:Q false s):wpAny (model prog w) A (ofAClassStatement 8 (.ref b)) Q E s:=by
 obtain⟨o,items,n,ho,hc,hd,hi⟩:=hb;unfold ofAClassStatement;refine ae (rf (T:="tuple") ⟨o,ho,hc⟩ ?_);show wpAny _ _ ((if(("tuple":String)=="tuple")=true then(pure true:Sem Bool)else isSubtype (.type "tuple") (.type "tuple")) >>=_) _ _ s;rw[if_pos (by decide)];refine ae (aj ?_);simp only[ph,cp,if_false];refine ae (jc ho hd ?_);refine ae ?_;show wpAny _ _ (forIn items _ _) _ _ s;rw[<-Aq];refine qk _ (λrest r s'=>r.1=none/\s'=s/\∀v∈rest,carriedByValue v=true) _ ?_ ?_ _ _ ⟨rfl,rfl,hi.byValue⟩
 ·rintro v rest r s' ⟨hr,rfl,Dl⟩
  have hv:=Dl v bf;have e:ofAClassStatement 7 v=pure false:=by
   cases v with
   |ref a=>simp[carriedByValue]at hv
   |_=>rfl
  rw[e];refine ae (aj ?_);simp only[cp,if_false];exact aj ⟨rfl,rfl,λu Bs=>Dl u (av _ Bs)⟩
 ·rintro ⟨r1,r2⟩ s' ⟨hr,rfl,_⟩
  simp only at hr;subst hr;exact aj h
theorem z1t{k:y'}{b:ai}{Q:Bool->ag->Prop}(hb:ie (intKind prog w) s.heap k b):∀(l:List af),(∀y∈l,∃k' b',y=.ref b'/\ie (intKind prog w) s.heap k' b')->Q false s->
  wpAny (model prog w) A (searchCouldBeSeen (.ref b) l) Q E s:=by
 intro l hl h;unfold searchCouldBeSeen;refine ae ?_;refine qk _ (λrest r s'=>r.1=none/\s'=s/\∀y∈rest,∃k' b',y=.ref b'/\ie (intKind prog w) s.heap k' b') _ ?_ ?_ _ _ ⟨rfl,rfl,hl⟩
 ·rintro y rest r s' ⟨hr,rfl,Dl⟩
  obtain⟨k',b',rfl,hb'⟩:=Dl y bf;have fin:r.1=none/\s'=s'/\∀y∈rest,∃k' b',y=.ref b'/\ie (intKind prog w) s'.heap k' b':=⟨hr,rfl,λu hu=>Dl u (av _ hu)⟩
  dsimp only
  split
  ·exact aj ⟨rfl,rfl,fin.2.2⟩
  ·refine ae (wpAny_eqIsQuiet_tuple hb ?_);simp only[ph,cp,if_false];refine ae (wpAny_eqIsQuiet_tuple hb' ?_);simp only[ph,cp,if_false];refine ae (PB hb ?_);simp only[cp,if_false];refine ae (PB hb' ?_);simp only[cp,if_false];exact aj ⟨rfl,rfl,fin.2.2⟩
 ·rintro ⟨r1,r2⟩ s' ⟨hr,rfl,_⟩
  simp only at hr;subst hr;exact aj h
end
section
variable{a:ai}{kb:KB}{o:Obj}{es:Array (Int×af)}{ep:Nat}{t:gh}{k:y'}{b:ai}
theorem mem_keys{kb:KB}{k:y'}:k∈kb.map da↔∃(i:Nat)(b:ai),kb[i]?=some (k,b):=by
 constructor
 ·intro h;obtain⟨⟨k',b⟩,hp,rfl⟩:=br.mp h;obtain⟨i,hi,e⟩:=kg hp;exact⟨i,b,by rw[bz hi,e]⟩
 ·rintro ⟨i,b,e⟩
  exact br.mpr ⟨(k,b),dw e,rfl⟩
theorem z1u(P:Bw prog w s.heap a kb o es ep t)(T:AI prog w s.heap kb)(hb:ie (intKind prog w) s.heap k b)(hu:A.units<cLine){Q:SetFound->ag->Prop}(Cm:k∈kb.map da->Q (.there none) s)(Ck:k∉kb.map da->∀n,pr t.mask (hk prog w k) n∉t.place.toList->(∀m,m<n->pr t.mask (hk prog w k) m∈t.place.toList)->Q (.free (pr t.mask (hk prog w k) n) false) s)(N:Nat)(hN:N<10*qg t.mask)(hNe:pr t.mask (hk prog w k) N∉t.place.toList):
  ∀(fuel n:Nat)(stand:Option SetTable.Probe),stand.getD (t.probeStart (hk prog w k))=eF t.mask (hk prog w k) n->n<=N->N-n<fuel->
   (∀l,l<n->pr t.mask (hk prog w k) l∈t.place.toList/\∀(i:Nat)p,t.place.toList[i]?=some (pr t.mask (hk prog w k) l)->kb[i]?=some p->p.1≠k)->
   wpAny (model prog w) A (setSearchFrom a (.ref b) (hk prog w k) true fuel stand) Q E s:=by
 intro fuel
 induction fuel with
 |zero=>intro n stand _ _ h2;lia
 |succ f ih=>
  intro n stand hst h1 h2 hseen;have hlen:t.place.toList.length=kb.length:=by have:=P.tab.size;simpa using this
  have kbat:∀{i j:Nat},t.place.toList[i]?=some j->∃p,kb[i]?=some p:=λ{i j}e=>by obtain⟨hi,_⟩:=bw.mp e;exact⟨kb[i]'(by lia),bz (by lia)⟩
  unfold setSearchFrom;refine ae (jq P.obj P.data P.fits ?_);dsimp only;rw[P.tab.gave];simp only[cp,if_false];obtain⟨m,a1,a2,a3,a4⟩:=O2 P.tab (λi=>(es[i]?.map (·.1)).getD 0) (hk prog w k) (10*qg t.mask) n N h1 (by lia) hNe;have pass:∀l,l<m->pr t.mask (hk prog w k) l∈t.place.toList/\∀(i:Nat)p,t.place.toList[i]?=some (pr t.mask (hk prog w k) l)->kb[i]?=some p->p.1≠k:=by
   intro l hl
   rcases jw l n with q|q
   ·exact hseen l q
   ·obtain⟨b1,b2⟩:=a3 l q hl;refine⟨b1,λi p e1 e2 e3=>b2 i e1 ?_⟩;show(es[i]?.map (·.1)).getD 0=_;rw[P.hash_at e2,e3]
  rcases a4 with⟨b1,b2⟩|⟨i,b1,b2,b3⟩
  ·have e:∀g:Nat->Int,g=(λi=>(es[i]?.map (·.1)).getD 0)->t.probe g (hk prog w k) (stand.getD (t.probeStart (hk prog w k)))=some (.empty (pr t.mask (hk prog w k) m) none):=by rintro g rfl;rw[hst];exact b2
   rw[e]
   rotate_left
   ·rfl
   refine aj (Ck ?_ m b1 λl hl=>(pass l hl).1);intro Dp;obtain⟨i,b',ei⟩:=mem_keys.mp Dp;obtain⟨j,ej⟩:∃j,t.place.toList[i]?=some j:=by obtain⟨hi,_⟩:=bw.mp ei;exact⟨_,bz (by lia)⟩
   obtain⟨n',hn',e'⟩:=P.tab.before (i:=i) (h:=hk prog w k) (by rw[fw,ei];rfl) ej b1;exact(pass n' hn').2 i (k,b') (by rw[e'];exact ej) ei rfl
  ·have e:∀g:Nat->Int,g=(λi=>(es[i]?.map (·.1)).getD 0)->t.probe g (hk prog w k) (stand.getD (t.probeStart (hk prog w k)))=some (.candidate (pr t.mask (hk prog w k) m) i (eF t.mask (hk prog w k) (m+1))):=by rintro g rfl;rw[hst];exact b3
   rw[e]
   rotate_left
   ·rfl
   dsimp only;obtain⟨p,ep'⟩:=kbat b1;have hp:=T p (dw ep');have es1:t.sameMemory t.moves t.mask=some true:=by unfold SetTable.sameMemory;simp
   obtain⟨i2,e2,e3⟩:=P.tab.slot_live (dw b1);have hi2:i2=i:=F1 P.tab.rise e3 b1;subst hi2;have mJ:¬p.1=k->wpAny (model prog w) A (setSearchFrom a (.ref b) (hk prog w k) true f (some (eF t.mask (hk prog w k) (m+1)))) Q E s:=by
    intro hpk;have hmN:m≠N:=by rintro rfl;exact hNe (dw b1)
    refine ih (m+1) _ rfl (by lia) (by lia) ?_
    ·intro l hl
     rcases jw l m with q|q
     ·exact pass l q
     ·have:l=m:=by lia
      subst this;refine⟨dw b1,λi' p' z1 z2=>?_⟩;have:i'=i2:=F1 P.tab.rise z1 b1;subst this;rw[ep']at z2;cases z2;exact hpk
   cases hl:t.led
   case' true=>simp only[ph,cp,if_false]
   case' false=>
    simp only[yf,if_true];refine ae (z1t hb _ ?_ ?_)
    ·intro y hy;obtain⟨e1,he1,rfl⟩:=br.mp hy;have Eo:=(Array.mem_filter.mp (zw.mp he1)).1;have he3:e1∈iI prog w kb:=by rw[<-P.es];exact zw.mpr Eo
     obtain⟨q,hq,rfl⟩:=br.mp he3;exact⟨q.1,q.2,rfl,T q hq⟩
    simp only[cp,if_false]
   all_goals
    rw[P.at_ ep'];dsimp only;refine ae (fe (wpAny_eqBool_tuple hu hp hb ?_));refine ae (jq P.obj P.data P.fits ?_);dsimp only
    by_cases hpk:p.1=k
    ·rw[decide_eq_true hpk];simp only[yy,if_true];exact aj (Cm (mem_keys.mpr ⟨i2,p.2,by rw[ep',<-hpk]⟩))
    ·rw[decide_eq_false hpk];simp only[um,cp,if_false];rw[es1];dsimp only;simp only[if_true];rw[e2];dsimp only;rw[P.at_ ep'];dsimp only;refine ae (wpAny_isSame_ref_self ?_);refine ae (aj ?_);simp only[if_true];exact mJ hpk
theorem z1v(P:Bw prog w s.heap a kb o es ep t)(T:AI prog w s.heap kb)(hb:ie (intKind prog w) s.heap k b)(hu:A.units<cLine){Q:SetFound->ag->Prop}(Cm:k∈kb.map da->Q (.there none) s)(Ck:k∉kb.map da->∀n,pr t.mask (hk prog w k) n∉t.place.toList->(∀m,m<n->pr t.mask (hk prog w k) m∈t.place.toList)->Q (.free (pr t.mask (hk prog w k) n) false) s):
  wpAny (model prog w) A (setSearch a (.ref b) (hk prog w k) true) Q E s:=by
 obtain⟨N,hN,hNe⟩:=P.tab.stops (hk prog w k);have hm:10*qg t.mask<=1420:=by
  unfold qg
  rcases P.tab.msk with e|e|e<;>rw[e]<;>decide
 exact z1u P T hb hu Cm Ck N hN hNe 100000 0 none rfl (gz _) (by lia) λl hl=>absurd hl (by lia)
theorem z1w{Q:Bool->ag->Prop}(hb:ie (intKind prog w) s.heap k b)(h:Q true s):wpAny (model prog w) A (hashByValue 8 (.ref b)) Q E s:=by
 have hT:=hb.typeIs;obtain⟨o,items,n,ho,hc,hd,hi⟩:=hb;unfold hashByValue;refine ae (wpAny_specialOf hT F.slot_tuple_hash.lookup ?_);dsimp only;refine ae (jc ho hd ?_);refine ae ?_;show wpAny _ _ (forIn items _ _) _ _ s;rw[<-Aq];have hv:∀v∈items.toList,∃i t,v=.int i t:=by
  clear hd ho
  generalize items.toList=l at hi
  induction hi with
  |nil=>intro v h;cases h
  |cons h1 _ ih=>
   intro v hv
   rcases aw.mp hv with rfl|hv
   ·obtain⟨t,e⟩:=kq h1;exact⟨_,t,e⟩
   ·exact ih v hv
 refine qk _ (λrest r s'=>r.1=none/\s'=s/\∀v∈rest,∃i t,v=.int i t) _ ?_ ?_ _ _ ⟨rfl,rfl,hv⟩
 ·rintro v rest r s' ⟨hr,rfl,Dl⟩
  obtain⟨i,t,rfl⟩:=Dl v bf;refine ae (aj ?_);simp only[ph,cp,if_false];exact aj ⟨rfl,rfl,λu Bs=>Dl u (av _ Bs)⟩
 ·rintro ⟨r1,r2⟩ s' ⟨hr,rfl,_⟩
  simp only at hr;subst hr;exact aj h
end
section
variable{a:ai}{kb:KB}{o:Obj}{es:Array (Int×af)}{ep:Nat}{t:gh}{k:y'}{b:ai}
theorem z1x(p:Nat):(iI prog w kb).take p++(hk prog w k,iq b)::(iI prog w kb).drop p=iI prog w (kb.take p++(k,b)::kb.drop p):=by simp[iI,vh,pj]
theorem z1y(p:Nat):(kb.map λq=>hk prog w q.1).take p++hk prog w k::(kb.map λq=>hk prog w q.1).drop p=(kb.take p++(k,b)::kb.drop p).map λq=>hk prog w q.1:=by simp[vh,pj]
theorem ins_perm{α:Type}(l:List α)(x:α)(p:Nat):(l.take p++x::l.drop p).Perm (x::l):=by have h:(l.take p++x::l.drop p).Perm (x::(l.take p++l.drop p)):=List.perm_middle;rwa [zv]at h
theorem F3{p:Nat}(h:(kb.map da).Nodup)(hk:k∉kb.map da):((kb.take p++(k,b)::kb.drop p).map da).Nodup:=by have q:=(ins_perm kb (k,b) p).map da;exact q.nodup_iff.mpr (jm.mpr ⟨hk,h⟩)
theorem AJ{es':Array (Int×af)}{t':gh}(hd:o.data=.set es ep t)(ho:s.heap.get? a=some o):(s.heap.update a (ue es' t')).get? a=some {o with data:=.set es' (ep+1) t'}:=by have:=kl (ue es' t') ho (by rw[putSet_of es' t' hd];rfl);rw[putSet_of es' t' hd]at this;exact this
theorem F5{α:Type}:∀(l:List α),(ak l.length).filterMap (λi=>l[i]?)=l
 |[]=>rfl
 |x::l=>by
  rw[bu,zg,cw];simp only[List.getElem?_cons_zero,List.filterMap_map]
  congr 1
  exact F5 l
theorem PC{kb:KB}{mask' wanted:Nat}{Q:Unit->ag->Prop}(ho:s.heap.get? a=some o)(hex:o.ExactSet)(hd:o.data=.set es ep t)(Ej:es.toList=iI prog w kb)(hT:Dc t (kb.map λp=>hk prog w p.1))(nd:(kb.map da).Nodup)(hled:t.led=!w.params.followText "set-order")(hw:qi wanted-1=mask')(hg:lH mask')(hl:kb.length*5<mask'*3)(hz:qi wanted<=cg)(h:∀h' El,ja a s.heap h'->mD prog w h' a El->El.Perm kb->Q () {s with heap:=h'}):
  wpAny (model prog w) A (setRelay a wanted) Q E s:=by
 have Cf:es.size=kb.length:=by have:=congrArg nv Ej;simpa[iI]using this
 have hfit:t.fits es.size=true:=by have:=hT.fits;rw[ax]at this;rw[Cf];exact this
 have eh:(es.map (·.1)).toList=kb.map λp=>hk prog w p.1:=by rw[Array.toList_map,Ej];simp[iI]
 have Fc:(es.map (·.1)).size=kb.length:=by simp[Cf]
 unfold setRelay;refine ae (jq ho hd hfit ?_);dsimp only;rw[if_neg (by lia)];obtain⟨t',order,e1,e2,e3,e4,e5⟩:=O9 (mask:=mask') (finger:=t.finger) (moves:=t.movedTo mask') (led:=t.led) (hs:=es.map (·.1)) hg (by rw[Fc];lia);have er:t.relaid (es.map (·.1)) wanted=some (t',order):=by unfold As;rw[hw,hT.plain];exact e1
 rw[er];have hlt:∀i∈order.toList,i<kb.length:=λi hi=>by have:=bg.mp (e4.mem_iff.mp hi);lia
 have hfm:∀(l:Aw),(∀i∈l,i<kb.length)->l.filterMap (λi=>es[i]?)=iI prog w (l.filterMap λi=>kb[i]?):=by
  intro l hl
  induction l with
  |nil=>rfl
  |cons i l ih=>
   have hi:=hl i bf;have q1:kb[i]?=some kb[i]:=bz hi;have q2:es[i]?=some (hk prog w kb[i].1,iq kb[i].2):=by
    have:es.toList[i]?=some (hk prog w kb[i].1,iq kb[i].2):=by rw[Ej];simp[iI,q1]
    simpa using this
   rw[cw,cw,q1,q2];simp only;rw[ih λj hj=>hl j (av _ hj)];rfl
 have hkey:∀(l:Aw),(∀i∈l,i<kb.length)->l.filterMap (λi=>(es.map (·.1)).toList[i]?)=(l.filterMap λi=>kb[i]?).map λp=>hk prog w p.1:=by
  intro l hl
  induction l with
  |nil=>rfl
  |cons i l ih=>
   have hi:=hl i bf;have q1:kb[i]?=some kb[i]:=bz hi;have q2:(es.map (·.1)).toList[i]?=some (hk prog w kb[i].1):=by rw[eh];simp[q1]
   rw[cw,cw,q1,q2];simp only;rw[ih λj hj=>hl j (av _ hj)];rfl
 have Dn:(order.toList.filterMap λi=>kb[i]?).Perm kb:=by have q:=e4.filterMap (λi=>kb[i]?);rw[Fc]at q;exact q.trans (Ai (F5 kb))
 have hes2:(order.filterMap (es[·]?)).toList=iI prog w (order.toList.filterMap λi=>kb[i]?):=by rw[zd];exact hfm _ hlt
 have Er:(order.filterMap (es[·]?)).size=es.size:=by have:=congrArg nv hes2;rw[ku]at this;rw[this,Cf];simp[iI,Dn.length_eq]
 show wpAny _ _ ((if((order.filterMap (es[·]?)).size !=es.size)=true then(unsupported "internal:set-table-lost-an-element" >>=λ_=>pure (order.filterMap (es[·]?),t'))else pure (order.filterMap (es[·]?),t')) >>=_) _ _ s;rw[if_neg (by rw[Er];simp)];refine ae (aj ?_);dsimp only;refine tj ho hd ?_ (by rw[Er,Cf];rcases hg with q|q|q<;>(rw[q]at hl;rw[ic];lia));refine h _ (order.toList.filterMap λi=>kb[i]?) (kn ..) ⟨_,_,_,t',AJ hd ho,hex,rfl,hes2,?_,?_,?_,e3.trans hled⟩ Dn
 ·rw[<-hkey _ hlt];exact e5
 ·exact(Dn.map da).nodup_iff.mpr nd
 ·rw[Dn.length_eq,e2];exact hl
theorem z1z(P:Bw prog w s.heap a kb o es ep t)(T:AI prog w s.heap kb)(hb:ie (intKind prog w) s.heap k b)(hu:A.units<cLine)(h76:k∉kb.map da->kb.length+1<=76){Q:Bool->ag->Prop}(h:∀h' El r,ja a s.heap h'->mD prog w h' a El->(k∈kb.map da->El.Perm kb)->(k∉kb.map da->El.Perm ((k,b)::kb))->Q r {s with heap:=h'}):
  wpAny (model prog w) A (setAddHashed a (.ref b) (hk prog w k)) Q E s:=by
 unfold setAddHashed;refine fe ?_;unfold setAddHashedIn;refine ae (jq P.obj P.data P.fits ?_);dsimp only;have hbs:byScan (.ref b) es=false:=by simp[byScan,Value.scannable]
 rw[hbs];simp only[cp,if_false];refine ae (z1v P T hb hu (λCm=>?_) λCk n hn hw=>?_)
 ·dsimp only;refine aj ?_;have:=h s.heap kb false (nj ..) ⟨o,es,ep,t,P⟩ (λ_=>.refl _) λq=>absurd Cm q;exact this
 ·dsimp only;refine ae (jq P.obj P.data P.fits ?_);dsimp only;rw[O4 P.tab.nod];dsimp only;rw[if_pos P.tab.plain];refine ae (z1w hb ?_);simp only[if_true];have hlen:=P.nf;have Eb:=P.tab.msk;have hroom:(kb.map λp=>hk prog w p.1).length+1<=t.mask:=by
   rw[ax]
   rcases Eb with q|q|q<;>(rw[q]at hlen⊢;lia)
  have T2:=P.tab.put (h:=hk prog w k) (n:=n) hn hw hroom;have hbl:=(tO (j:=pr t.mask (hk prog w k) n) P.tab.rise).2.2;generalize hp:qj t.place (pr t.mask (hk prog w k) n)=p at T2 hbl⊢;rw[z1y (b:=b)]at T2;have Dw:(gv es p (hk prog w k,iq b)).toList=iI prog w (kb.take p++(k,b)::kb.drop p):=by rw[tP _ _ _ (by rw[P.size,<-show t.place.size=kb.length from by have:=P.tab.size;simpa using this];exact hbl),P.es,z1x]
  have Cf:(gv es p (hk prog w k,iq b)).size=kb.length+1:=by have:=congrArg nv Dw;simp only[iI,ax,ku]at this;rw[this,(ins_perm kb (k,b) p).length_eq];rfl
  refine ae (tj P.obj P.data ?_ (by rw[Cf,ic];have:=h76 Ck;lia));have Cd:(kb.take p++(k,b)::kb.drop p).length=kb.length+1:=(ins_perm kb (k,b) p).length_eq;have Em:=AJ (s:=s) (es':=gv es p (hk prog w k,iq b)) (t':={t with place:=gv t.place p (pr t.mask (hk prog w k) n)}) P.data P.obj;have fill:({t with place:=gv t.place p (pr t.mask (hk prog w k) n)}:gh).tooFull=decide ((kb.length+1)*5>=t.mask*3):=by unfold Aj xl;have e1:=T2.size;rw[ax,Cd]at e1;have e1':(gv t.place p (pr t.mask (hk prog w k) n)).size=kb.length+1:=e1;dsimp only;rw[P.tab.nod,e1'];rfl
  simp only[yf,yy];rw[fill];have fin:∀h' El,ja a (s.heap.update a (ue (gv es p (hk prog w k,iq b)) {t with place:=gv t.place p (pr t.mask (hk prog w k) n)})) h'->mD prog w h' a El->
    El.Perm (kb.take p++(k,b)::kb.drop p)->Q true {s with heap:=h'}:=λh' El sb st pm=>
   h h' El true ((kn ..).trans sb) st (λq=>absurd q Ck) λ_=>pm.trans (ins_perm kb (k,b) p)
  by_cases full:(kb.length+1)*5>=t.mask*3
  ·rw[decide_eq_true full,if_pos rfl];have h76':=h76 Ck;have hcase:(t.mask=7/\kb.length=4)∨(t.mask=31/\kb.length=18):=by
    rcases Eb with q|q|q
    ·left;rw[q]at hlen full;exact⟨q,by lia⟩
    ·right;rw[q]at hlen full;exact⟨q,by lia⟩
    ·rw[q]at full;lia
   have es0:es.size=kb.length:=P.size
   rcases hcase with⟨q1,q2⟩|⟨q1,q2⟩
   ·refine ae (PC (mask':=31) (kb:=kb.take p++(k,b)::kb.drop p) Em P.ex rfl Dw T2 (F3 P.nd Ck) P.led (by rw[es0,q2];decide) (.inr (.inl rfl)) (by rw[Cd,q2];decide) (by rw[es0,q2,ic];decide) λh' El sb st pm=>aj (fin h' El sb st pm))
   ·refine ae (PC (mask':=127) (kb:=kb.take p++(k,b)::kb.drop p) Em P.ex rfl Dw T2 (F3 P.nd Ck) P.led (by rw[es0,q2];decide) (.inr (.inr rfl)) (by rw[Cd,q2];decide) (by rw[es0,q2,ic];decide) λh' El sb st pm=>aj (fin h' El sb st pm))
  ·rw[decide_eq_false full,if_neg ig];refine aj (fin _ _ (nj ..) ⟨_,_,_,_,Em,P.ex,rfl,Dw,T2,F3 P.nd Ck,?_,P.led⟩ (.refl _));rw[Cd];exact Nat.lt_of_not_le full
end
theorem Bw.keep{prog:bj}{w:cn}{h h':cy}{a:ai}{kb:KB}(S:mD prog w h a kb)(k:∀o,h.get? a=some o->h'.get? a=some o):mD prog w h' a kb:=by obtain⟨o,es,ep,t,P⟩:=S;exact⟨o,es,ep,t,k o P.obj,P.ex,P.data,P.es,P.tab,P.nd,P.nf,P.led⟩
theorem AK{prog:bj}{w:cn}{h h':cy}{ks:y'}{a:ai}(x:ie (intKind prog w) h ks a)(k:∀o,h.get? a=some o->h'.get? a=some o):ie (intKind prog w) h' ks a:=by obtain⟨o,items,n,ho,r⟩:=x;exact⟨o,items,n,k o ho,r⟩
section
variable{prog:bj}{w:cn}{A:cq}{R:xa->ag->Prop}{I:ai}{fp wr:List ai}{n:Nat}{P:Nat->af->Prop}{St:Nat->cy->Prop}
structure Upto(ky:Nat->y')(ad:Nat->ai)(i:Nat)(kb:KB):Prop where
 from_:∀p∈kb,∃j,j<i/\p=(ky j,ad j)
 all:∀j,j<i->ky j∈kb.map da
theorem z20(W:Walks prog w A.in1 I fp wr n P St)(S:ai)(hSf:S∉fp)(ad:Nat->ai)(ky:Nat->y')(hval:∀i v,P i v->v=.ref (ad i))(hu:A.units+2<cLine)(U:wo)(hU:U.length<=76)(hky:∀i,i<n->ky i∈U)(hS:∀i,i<n->ad i≠S/\ad i∉wr):
  ∀(m i:Nat)(s:ag)(kb:KB),n-i=m->i<=n->St i s.heap->mD prog w s.heap S kb->Upto ky ad i kb->(∀j,j<n->ie (intKind prog w) s.heap (ky j) (ad j))->
   (∀h' tk El,(∀b o,b∉S::wr->s.heap.get? b=some o->h'.get? b=some o)->mD prog w h' S El->Upto ky ad n El->R (.ok (.ret .none)) {s with heap:=h',toks:=tk})->
   codeAny (model prog w) A (.builtin "set.update.loop" ⟨[.ref S,.ref I],[]⟩) R s:=by
 have hSw:S∉wr:=λh=>hSf (W.sub _ h);intro m
 induction m with
 |zero=>
  intro i s kb hk hi hst hT Du Es hR;have Cm:i=n:=by lia
  subst Cm;refine ki F.entry_set_update_loop ?_;rw[jb F.plain_set_update_loop _];show wpAny _ A.in1 (pyNext (.ref I) >>=_) _ _ s;refine ae (W.done s _ _ hst λh' tk hm=>?_);exact aj (hR h' tk kb (λb o hb e=>hm b o (λz=>hb (av _ z)) e) (Bw.keep hT λo e=>hm S o hSw e) Du)
 |succ m ih=>
  intro i s kb hk hi hst hT Du Es hR;have hlt:i<n:=by lia
  refine ki F.entry_set_update_loop ?_;rw[jb F.plain_set_update_loop _];show wpAny _ A.in1 (pyNext (.ref I) >>=_) _ _ s;refine ae (W.item i s _ _ hlt hst λv h' tk hP hst' hm=>?_);have ev:=hval i v hP;subst ev;have hT':mD prog w h' S kb:=Bw.keep hT λo e=>hm S o hSw e;have Ei:∀j,j<n->ie (intKind prog w) h' (ky j) (ad j):=λj hj=>AK (Es j hj) λo e=>hm _ o (hS j hj).2 e;show wpAny _ A.in1 (holding [iq (ad i)] (setAdd S (.ref (ad i))) >>=_) _ _ _;refine ae (fe ?_);unfold setAdd;refine fe ?_;refine ae (wpAny_pyHash_tuple (s:={s with heap:=h',toks:=tk}) (show A.in1.units<cLine by show A.units+1<cLine;lia) (Ei i hlt) ?_);obtain⟨o,es,ep,t,Pt⟩:=hT';have tups:AI prog w h' kb:=λp hp=>by obtain⟨j,hj,rfl⟩:=Du.from_ p hp;exact Ei j (by lia)
  have hsub:∀x∈kb.map da,x∈U:=λx hx=>by obtain⟨p,hp,rfl⟩:=br.mp hx;obtain⟨j,hj,rfl⟩:=Du.from_ p hp;exact hky j (by lia)
  refine z1z (s:={s with heap:=h',toks:=tk+((ky i).length+1)}) (a:=S) (k:=ky i) (b:=ad i) Pt tups (Ei i hlt) (by show A.units+1<cLine;lia) (λCk=>?_) λh2 kb2 r sb hT2 q1 q2=>?_
  ·have nd:(ky i::kb.map da).Nodup:=jm.mpr ⟨Ck,Pt.nd⟩;have:=nd.length_le_of_subset (l₂:=U) λx hx=>by
    rcases aw.mp hx with rfl|hx
    ·exact hky i hlt
    ·exact hsub x hx
   simp at this
   lia
  ·have hup2:Upto ky ad (i+1) kb2:=by
    by_cases Cm:ky i∈kb.map da
    ·have pm:=q1 Cm;refine⟨λp hp=>?_,λj hj=>?_⟩
     ·obtain⟨j,hj,e⟩:=Du.from_ p (pm.mem_iff.mp hp);exact⟨j,by lia,e⟩
     ·rw[(pm.map da).mem_iff]
      rcases jw j i with z|z
      ·exact Du.all j z
      ·have:j=i:=by lia
       subst this;exact Cm
    ·have pm:=q2 Cm;refine⟨λp hp=>?_,λj hj=>?_⟩
     ·rcases aw.mp (pm.mem_iff.mp hp)with z|z
      ·exact⟨i,by lia,z⟩
      ·obtain⟨j,hj,e⟩:=Du.from_ p z;exact⟨j,by lia,e⟩
     ·rw[(pm.map da).mem_iff,du,aw]
      rcases jw j i with z|z
      ·exact .inr (Du.all j z)
      ·have:j=i:=by lia
       subst this;exact .inl rfl
   refine aj ⟨uf F.plain_set_update_loop _,ih (i+1) _ kb2 (by lia) hlt (W.frame _ _ _ hst' λb hb o e=>?_) hT2 hup2 (λj hj=>?_) λh3 tk3 kb3 k3 hT3 hup3=>?_⟩
   ·rw[sb.2 b (λz:b=S=>hSf (by rw[<-z];exact hb))];exact e
   ·exact AK (Ei j hj) λo e=>(sb.2 _ (hS j hj).1).trans e
   ·refine hR h3 tk3 kb3 (λb o hb e=>k3 b o hb ?_) hT3 hup3;exact(sb.2 b λz=>hb (by rw[z];exact bf)).trans (hm b o (λz=>hb (av _ z)) e)
end
theorem walk_slots:Slot "set" "__iter__" "set.__iter__"/\Slot "set_iterator" "__next__" "set_iterator.__next__"/\Slot "set_iterator" "__iter__" "set_iterator.__iter__"/\Slot "set" "__len__" "set.__len__":=by
 refine⟨Slot.of (owner:="set") (n:="__iter__") ?_ ?_ ?_ ?_ ?_ ?_,Slot.of (owner:="set_iterator") (n:="__next__") ?_ ?_ ?_ ?_ ?_ ?_,Slot.of (owner:="set_iterator") (n:="__iter__") ?_ ?_ ?_ ?_ ?_ ?_,Slot.of (owner:="set") (n:="__len__") ?_ ?_ ?_ ?_ ?_ ?_⟩
 all_goals first
  |decide+kernel
  |(rw[typeLookup_type,builtinLookup_eq_fast];kernel_rfl)
  |(rw[isSubtype_type];kernel_rfl)
  |(left;decide+kernel)
  |(right;decide+kernel)
theorem AL(a:af):argsOk "set.__iter__" ⟨[a],[]⟩/\argsOk "set_iterator.__next__" ⟨[a],[]⟩/\argsOk "set_iterator.__iter__" ⟨[a],[]⟩:=by refine⟨?_,?_,?_⟩<;>unfold argsOk<;>kernel_rfl
theorem PD:entryFor table "set_iterator.__next__"=some my.«set_iterator.__next__»:=entryFor_of_fast (by kernel_rfl)
theorem z21:entryFor table "set.__iter__"=some my.«frozenset.__iter__»:=entryFor_alias (id':="frozenset.__iter__") (by kernel_rfl) rfl (by decide+kernel) (by kernel_rfl)
theorem z22:entryFor table "set_iterator.__iter__"=some my.«dict_keyiterator.__iter__»:=entryFor_alias (id':="dict_keyiterator.__iter__") (by kernel_rfl) rfl (by decide+kernel) (by kernel_rfl)
theorem erase_perm{α:Type}:∀(l:List α)(i:Nat)(h:i<l.length),(l[i]::l.eraseIdx i).Perm l
 |[],_,h=>absurd h (by simp)
 |x::r,0,_=>.refl _
 |x::r,i+1,h=>by have ih:=erase_perm r i (by simpa using h);show((r[i]'(by simpa using h))::x::r.eraseIdx i).Perm (x::r);exact(we _ _ _).trans (ih.cons x)
theorem PF{α:Type}(next:Nat->Nat):∀(fuel k:Nat)(l:List α)(out:Array α),l.length<=fuel->(ya next fuel k l out).toList.Perm (out.toList++l)
 |0,k,l,out,h=>by have:l=[]:=jy.mp (by lia);subst this;rw[ya];simp
 |fuel+1,k,l,out,h=>by
  rw[ya]
  cases l with
  |nil=>simp
  |cons x r=>have hlt:next k%(x::r).length<(x::r).length:=Nat.mod_lt _ (by simp);rw[bz hlt];dsimp only;refine(PF next fuel (k+1) _ _ (by rw[yg hlt];lia)).trans ?_;rw[Array.toList_push,vt];refine yh _ ?_;exact erase_perm _ _ hlt
theorem z23{α:Type}(next:Nat->Nat)(xs:Array α):(pickOrder next xs).toList.Perm xs.toList:=by unfold pickOrder;have:=PF next xs.size 0 xs.toList #[] (by simp);simpa using this
section
variable{prog:bj}{w:cn}
def iX(w:cn)(a:ai)(ep:Nat)(es:Array (Int×af)):Array (Int×af):=if w.params.followText "set-order" then pickOrder (w.params.setOrder a ep) es else es
theorem F6(w:cn)(a:ai)(ep:Nat)(es:Array (Int×af)):(iX w a ep es).toList.Perm es.toList:=by
 unfold iX
 split
 ·exact z23 _ _
 ·exact .refl _
theorem AM(w:cn)(a:ai)(ep:Nat)(es:Array (Int×af)):(iX w a ep es).size=es.size:=by simpa using(F6 w a ep es).length_eq
def iJ(w:cn)(t:gh)(i:Nat):Nat:=if w.params.followText "set-order" then 0 else match i with|0=>0|j+1=>t.place.getD j 0+1
def lJ(a:ai)(slot i n ep:Nat):Obj:={cls:=.type "set_iterator",data:=.fields #[rawInt slot,rawInt i,.ref a,rawInt n,rawInt ep]}
theorem z24{t:gh}{hs:y'}(T:Dc t hs)(hb:w.params.followText "set-order"=false){i:Nat}(hi:i<=t.place.size):qj t.place (iJ w t i)=i:=by
 obtain⟨h1,h2,h3⟩:=tO (j:=iJ w t i) T.rise;have mono:∀a b(ha:a<t.place.size)(hb:b<t.place.size),a<b->t.place[a]<t.place[b]:=by intro a b ha hb Dy;have:=ik.mp T.rise a b (by simpa using ha) (by simpa using hb) Dy;simpa using this
 unfold iJ at h1 h2 h3⊢;rw[hb]at h1 h2 h3⊢;simp only[cp,if_false]at h1 h2 h3⊢
 cases i with
 |zero=>
  dsimp only at h1 h2 h3⊢;generalize qj t.place 0=r at h1 h2 h3⊢
  cases r with
  |zero=>rfl
  |succ r=>have:=h1 r (by lia) (by lia);lia
 |succ j=>
  dsimp only at h1 h2 h3⊢;have hj:j<t.place.size:=by lia
  have ej:t.place.getD j 0=t.place[j]:=by simp[lj,hj]
  rw[ej]at h1 h2 h3⊢;generalize qj t.place (t.place[j]+1)=r at h1 h2 h3⊢
  rcases Nat.lt_trichotomy r (j+1)with q|q|q
  ·have:=h2 j hj (by lia);lia
  ·exact q
  ·have:=h1 (j+1) (by lia) q;have:=mono j (j+1) hj (by lia) (by lia)
   lia
end
section
variable{a it:ai}{hs:y'}{o:Obj}{es:Array (Int×af)}{ep:Nat}{t:gh}
theorem z25{Q:Bool->ag->Prop}(P:Bq w s.heap a hs o es ep t)(h:Q false s):wpAny (model prog w) A (setDrawn a) Q E s:=by
 unfold setDrawn setsByText;refine ae (jq P.obj P.data P.fits ?_);dsimp only;refine ae (ae (nu (aj ?_)));have e:(!(w.params.followText "set-order")&&((!t.plain)&&decide (es.size>1)))=false:=by rw[P.tab.plain];simp
 show wpAny _ _ (pure (!(w.params.followText "set-order")&&((!t.plain)&&decide (es.size>1)))) _ _ s;rw[e];exact aj h
theorem z26{Q:af->ag->Prop}(P:Bq w s.heap a hs o es ep t)(h:Q (.ref s.heap.objs.size) {s with heap:=s.heap.push (lJ a 0 0 es.size ep)}):
  wpAny (model prog w) A (pyIter (.ref a)) Q E s:=by
 have hT:s.TypeIs (.ref a) "set":=⟨o,P.obj,P.ex.1⟩;refine wpAny_pyIter_slot hT walk_slots.1 (fz walk_slots.1 hT z21 ?_ (AL _).1);unfold my.«frozenset.__iter__» Builtin.Frozenset.slot0;refine ae (m:=(do Builtin.Frozenset.addrOf (<-slotArgs "__iter__" 0 ⟨[.ref a],[]⟩).1:Sem ai)) (aj ?_);unfold Builtin.Frozenset.sizeOf;refine ae (ae (wg P.obj P.data P.fits (aj ?_)));refine ae (z25 P ?_);simp only[cp,if_false];refine ae (aj ?_);refine ae (wpAny_setEpoch_of P.obj P.data P.fits ?_);refine ae (fj ?_ (by size_fits));refine aj ⟨_,rfl,"set_iterator",_,⟨_,az _ rfl,rfl⟩,walk_slots.2.1.lookup,h⟩
end
section
variable{a it:ai}{hs:y'}{o:Obj}{es:Array (Int×af)}{ep:Nat}{t:gh}
theorem PH{i:Nat}{Q:Option (af×Nat)->ag->Prop}(P:Bq w s.heap a hs o es ep t)(hi:i<=es.size)(h:Q (((iX w a ep es)[i]?).map λe=>(e.2,iJ w t (i+1))) s):wpAny (model prog w) A (setNext a (iJ w t i) i ep) Q E s:=by
 unfold setNext setsByText;refine ae (jq P.obj P.data P.fits ?_);dsimp only;refine ae (ae (nu (aj ?_)));have hps:t.place.size=es.size:=by have:=P.tab.size;rw[P.size];simpa using this
 show wpAny _ _ (if w.params.followText "set-order"=true then _ else _) _ _ s
 by_cases hb:w.params.followText "set-order"=true
 ·rw[if_pos hb,if_neg (by simp)];refine ae ?_;unfold setWalk setsByText;refine ae (jq P.obj P.data P.fits ?_);dsimp only;refine ae (ae (nu (aj ?_)));show wpAny _ _ (if w.params.followText "set-order"=true then _ else _) _ _ s;rw[if_pos hb];refine ae (nu (aj (aj ?_)));unfold iX iJ at h;unfold iJ;rw[if_pos hb]at h⊢;rw[if_pos hb]at h;exact h
 ·have hb':w.params.followText "set-order"=false:=by simpa using hb
  rw[if_neg hb];have hl:t.led=true:=by rw[P.led,hb'];rfl
  have hd:((!t.plain)&&decide (es.size>1))=false:=by rw[P.tab.plain];rfl
  show wpAny _ _ (if((!t.plain)&&decide (es.size>1))=true then _ else _) _ _ s;rw[hd];simp only[cp,if_false];show wpAny _ _ ((if((!t.led)&&!es.isEmpty)=true then _ else _) >>=_) _ _ s;rw[hl];simp only[ph,Bool.false_and,cp,if_false];refine ae (aj ?_);have hbl:=z24 (w:=w) P.tab hb' (i:=i) (by lia);rw[hbl];unfold iX at h;rw[if_neg hb]at h;refine aj ?_
  by_cases hlt:i<es.size
  ·have e1:es[i]?=some es[i]:=gc hlt;have e2:t.place[i]?=some t.place[i]:=gc (by lia);rw[e1]at h;rw[e1,e2];have e3:iJ w t (i+1)=t.place[i]+1:=by unfold iJ;rw[if_neg hb];simp[lj,show i<t.place.size by lia]
   rw[e3]at h;exact h
  ·have e1:es[i]?=none:=oh (by lia);rw[e1]at h⊢;exact h
theorem z27{i:Nat}{x:Int×af}{Q:Option af->ag->Prop}(P:Bq w s.heap a hs o es ep t)(hit:s.heap.get? it=some (lJ a (iJ w t i) i es.size ep))(hx:(iX w a ep es)[i]?=some x)(hQ:∀h',h'.get? it=some (lJ a (iJ w t (i+1)) (i+1) es.size ep)->ja it s.heap h'->Q (some x.2) {s with heap:=h'}):wpAny (model prog w) A (pyNext (.ref it)) Q E s:=by
 have hT:s.TypeIs (.ref it) "set_iterator":=⟨_,hit,rfl⟩;have hlt:i<es.size:=by rw[<-AM w a ep es];exact(ff.mp hx).1
 unfold pyNext;refine ae (wk (ij (name:=nh "__next__") hT walk_slots.2.1 (fz walk_slots.2.1 hT PD ?_ (AL _).2.1)));unfold my.«set_iterator.__next__»;refine ae (m:=slotArgs "__next__" 0 ⟨[.ref it],[]⟩) (aj ?_);refine ae (wpAny_fieldsOf hit rfl ?_);dsimp only;show wpAny _ _ (setEntries a >>=_) _ _ s;refine ae (wg P.obj P.data P.fits ?_);rw[if_neg (by simp)];show wpAny _ _ (setNext a ((iJ w t i:Nat):Int).toNat ((i:Nat):Int).toNat ((ep:Nat):Int).toNat >>=_) _ _ s;rw[fh,fh,fh];refine ae (PH P (ji hlt) ?_);rw[hx];show wpAny _ _ (setField (.ref it) 0 (rawInt ((iJ w t (i+1):Nat):Int)) >>=_) _ _ s;refine ae (jx hit (by simp) λh1 g1 b1=>?_);refine ae (jx g1 (by simp) λh2 g2 b2=>?_);refine aj ⟨_,rfl,aj (hQ h2 ?_ (b1.trans b2))⟩;rw[g2];rfl
theorem z28{i:Nat}{Q:Option af->ag->Prop}(hh:A.handled=none)(P:Bq w s.heap a hs o es ep t)(hit:s.heap.get? it=some (lJ a (iJ w t i) i es.size ep))(hi:i=es.size)(hQ:∀h',Ah it s.heap h'->Q none {s with heap:=h'}):wpAny (model prog w) A (pyNext (.ref it)) Q E s:=by
 have hT:s.TypeIs (.ref it) "set_iterator":=⟨_,hit,rfl⟩;unfold pyNext;refine ae (wk (ij (name:=nh "__next__") hT walk_slots.2.1 (fz walk_slots.2.1 hT PD ?_ (AL _).2.1)));unfold my.«set_iterator.__next__»;refine ae (m:=slotArgs "__next__" 0 ⟨[.ref it],[]⟩) (aj ?_);refine ae (wpAny_fieldsOf hit rfl ?_);dsimp only;show wpAny _ _ (setEntries a >>=_) _ _ s;refine ae (wg P.obj P.data P.fits ?_);rw[if_neg (by simp)];show wpAny _ _ (setNext a ((iJ w t i:Nat):Int).toNat ((i:Nat):Int).toNat ((ep:Nat):Int).toNat >>=_) _ _ s;rw[fh,fh,fh];refine ae (PH P (qm hi) ?_);rw[oh (by rw[AM];lia)];show wpAny _ _ (setField (.ref it) 2 kj >>=_) _ _ s;refine ae (jx hit (by simp) λh1 g1 b1=>?_);show wpAny _ _ (newExc (.type "StopIteration") [] >>=_) _ _ _;refine ae ?_;simp only[newExc,newTuple];refine ae (fj ?_ (by size_fits));refine ae (m:=firstArgMember _ _) (sy (a:=kj) (by first|rfl|(simp only[firstArgMember];rfl)) ?_);refine fj ?_ (by size_fits);simp only[raiseNew];refine ae (wpAny_handled ?_);rw[show A.in1.handled=none from hh];refine ae (aj (wpAny_throw ?_));refine ae (yp (T:="StopIteration") (b:=true) ⟨_,az _ rfl,rfl⟩ isSubtype_stop ?_);exact aj (hQ _ ((b1.extBut.push _).push _))
end
section
variable{a:ai}{hs:y'}{o:Obj}{es:Array (Int×af)}{ep:Nat}{t:gh}
theorem z29(hh:A.handled=none)(I:ai)(hne:a≠I):
  Walks prog w A I [I,a] [I] es.size (λi v=>∃x,(iX w a ep es)[i]?=some x/\v=x.2) (λi h=>Bq w h a hs o es ep t/\h.get? I=some (lJ a (iJ w t i) i es.size ep)) where
 sub:=λb hb=>by rw[cc.mp hb];exact bf ..
 frame:=λi h h'⟨p,q⟩k=>⟨p.at' (k a (by simp) _ p.obj),k I (by simp) _ q⟩
 item:=λi s Q E hi⟨p,q⟩hQ=>by
  have hi':i<(iX w a ep es).size:=by rw[AM];exact hi
  have hx:(iX w a ep es)[i]?=some (iX w a ep es)[i]:=gc hi';refine z27 p q hx λh' q' sb=>hQ _ h' s.toks ⟨_,hx,rfl⟩ ⟨p.at' ((sb.2 a hne).trans p.obj),q'⟩ λb o hb e=>?_;exact(sb.2 b λz=>hb (by rw[z];exact bf ..)).trans e
 done:=λs Q E⟨p,q⟩hQ=>z28 hh p q rfl λh' x=>hQ h' s.toks λb o hb e=>x b o (λz=>hb (by rw[z];exact bf ..)) e
 self:=λi s Q E⟨_,q⟩hQ=>by have hT:s.TypeIs (.ref I) "set_iterator":=⟨_,q,rfl⟩;refine wpAny_pyIter_slot hT walk_slots.2.2.1 (fz walk_slots.2.2.1 hT z22 ?_ (AL _).2.2);exact aj ⟨_,rfl,"set_iterator",_,⟨_,q,rfl⟩,walk_slots.2.1.lookup,hQ⟩
theorem z2a{S:ai}{n:Nat}{Q:Unit->ag->Prop}(h:s.heap.get? S=some (seqObj "list" #[] n))(q:∀h' c,h'.get? S=some (seqObj "list" #[] c)->(∀b o,b≠S->s.heap.get? b=some o->h'.get? b=some o)->Q () {s with heap:=h'}):
  wpAny (model prog w) A (wm (.ref S)) Q E s:=by
 unfold wm;refine ae (wq h rfl ?_);have h1:=oj h (λx=>x.push kj);refine wq h1 rfl ?_;have h2:=oj h1 (λx=>x.pop);refine q _ _ h2 λb o hb e=>?_;rw[kh _ _ _ _ hb,kh _ _ _ _ hb];exact e
theorem PJ{Q:List af->ag->Prop}(hh:A.handled=none)(P:Bq w s.heap a hs o es ep t)(hn:es.size<=cg)(q:∀(h':cy)(tk:Nat),(∀b o,s.heap.get? b=some o->h'.get? b=some o)->s.heap.objs.size<=h'.objs.size->Q ((iX w a ep es).toList.map (·.2)) {s with heap:=h',toks:=tk}):wpAny (model prog w) A (collect (.ref a)) Q E s:=by
 have la:a<s.heap.objs.size:=ay P.obj;have up1:∀b o,s.heap.get? b=some o->(s.heap.push (seqObj "list" #[] 0)).get? b=some o:=λb o e=>ao _ e;have hS1:(s.heap.push (seqObj "list" #[] 0)).get? s.heap.objs.size=some (seqObj "list" #[] 0):=az _ rfl;have P1:Bq w (s.heap.push (seqObj "list" #[] 0)) a hs o es ep t:=P.at' (up1 a o P.obj);have hT1:uu {s with heap:=s.heap.push (seqObj "list" #[] 0)} (.ref a) "set":=⟨o,P1.obj,P1.ex.1⟩;unfold collect;refine ae (wpAny_runValue (ki entry_proto_collect' ?_));rw[jb F.plain_proto_collect _];refine ae (m:=newList []) (wu (aj ⟨Code.quiet_builtin _ (by decide+kernel),ki entry_list_iadd' ?_⟩));rw[jb F.plain_list_iadd _];show wpAny _ A.in1 (vj (.ref s.heap.objs.size) (.ref a) (.ref s.heap.objs.size)) _ _ {s with heap:=s.heap.push (seqObj "list" #[] 0)};unfold vj;refine ae (rf hT1 ?_);have ne:vz (.ref s.heap.objs.size) (.ref a)=false:=by simp[vz,jj la]
 rw[if_neg (by rw[ne];decide)];refine ae (z26 P1 ?_);have sz:(s.heap.push (seqObj "list" #[] 0)).objs.size=s.heap.objs.size+1:=uv _ _;rw[sz];have up2:∀b o,(s.heap.push (seqObj "list" #[] 0)).get? b=some o->((s.heap.push (seqObj "list" #[] 0)).push (lJ a 0 0 es.size ep)).get? b=some o:=λb o e=>ao _ e;have P2:Bq w ((s.heap.push (seqObj "list" #[] 0)).push (lJ a 0 0 es.size ep)) a hs o es ep t:=P1.at' (up2 a o P1.obj);have hT2:uu {s with heap:=(s.heap.push (seqObj "list" #[] 0)).push (lJ a 0 0 es.size ep)} (.ref a) "set":=⟨o,P2.obj,P2.ex.1⟩;have hI2:((s.heap.push (seqObj "list" #[] 0)).push (lJ a 0 0 es.size ep)).get? (s.heap.objs.size+1)=some (lJ a 0 0 es.size ep):=by rw[<-sz];exact az _ rfl
 refine ae (fe ?_);unfold Builtin.List.listLengthHint;refine ae (wpAny_specialOf hT2 walk_slots.2.2.2.lookup ?_);have spl:splitId "set.__len__"=some ("set","__len__"):=by decide+kernel
 dsimp only;rw[spl];dsimp only;refine ae (yp (b:=true) hT2 sub_set_self ?_);rw[if_neg (by decide),if_pos (by decide+kernel)];refine ae (rf hT2 (aj ?_));rw[if_pos (by decide+kernel)];refine ae (om ?_);refine ae (z2a (s:={s with heap:=(s.heap.push (seqObj "list" #[] 0)).push (lJ a 0 0 es.size ep)}) (up2 _ _ hS1) λh3 c hS3 up3=>?_);have neS:∀b o,s.heap.get? b=some o->b≠s.heap.objs.size:=λb o e=>bc (ay e);have P3:Bq w h3 a hs o es ep t:=P2.at' (up3 a o (bc la) P2.obj);have hI3:h3.get? (s.heap.objs.size+1)=some (lJ a 0 0 es.size ep):=up3 _ _ (lg _) hI2;have hz:iJ w t 0=0:=by unfold iJ;split<;>rfl
 have hh2:A.in1.handled=none:=by simp[hh]
 have nin:s.heap.objs.size∉[s.heap.objs.size+1,a]:=λm=>by
  rcases aw.mp m with e|m
  ·exact lg _ e.symm
  ·exact jj la (cc.mp m)
 refine aj ⟨uf F.plain_extend_loop _,codeAny_extend_loopS (A:=A) ((z29 (hs:=hs) (o:=o) (t:=t) (ep:=ep) (es:=es) hh2 (s.heap.objs.size+1) (a:=a) (bc (fi la))).toS) hn s.heap.objs.size nin _ es.size 0 {s with heap:=h3} #[] c rfl (gz _)
  ⟨P3,by rw[hz];exact hI3⟩ hS3 (ItemsOf.nil _) λs' acc c' mv hS' ia=>?_⟩
 have eacc:acc.toList=(iX w a ep es).toList.map (·.2):=by
  apply wa
  intro i;rw[ly,fw,ly]
  cases q:acc[i]? with
  |some v=>obtain⟨x,h1,h2⟩:=ia.2 i v q;rw[h1,h2];rfl
  |none=>have h1:acc.size<=i:=Array.getElem?_eq_none_iff.mp q;rw[oh (by rw[AM,<-ia.1];exact h1)];rfl
 obtain⟨hp,gs,dr,tk,os⟩:=s';have e1:gs=s.gens:=mv.gens;have e2:dr=s.drawn:=mv.drawn;have e3:os=s.os:=mv.os;subst e1;subst e2;subst e3;show wpAny _ A (load s.heap.objs.size >>=_) _ _ _;refine ae (wpAny_load hS' (aj ?_));rw[eacc];refine q hp tk (λb o e=>mv.heap b o (λm=>?_) (up3 b o (neS b o e) (up2 b o (up1 b o e)))) (ji (ay hS'))
 rcases aw.mp m with z|m
 ·exact neS b o e z
 ·exact bc (fi (ay e)) (cc.mp m)
end
open PySem.W SoM L2
section
theorem PK{fin:Bool}{Q:Bool->ag->Prop}:∀{kx ky:y'}{vx vy:List af}(i:Nat),ItemsAre (intKind prog w) kx vx->ItemsAre (intKind prog w) ky vy->fin=decide (vx.length<vy.length)->Q (dN kx ky) s->KatLex prog w A true fin Q (vx.zip vy) i s
 |_,_,_,_,i,.nil,.nil,hf,h=>by subst hf;exact kat_nil h
 |_,_,_,_,i,.nil,.cons _ _,hf,h=>by subst hf;refine kat_nil ?_;rw[decide_eq_true (by simp)];exact h
 |_,_,_,_,i,.cons _ _,.nil,hf,h=>by subst hf;refine kat_nil ?_;rw[decide_eq_false (by simp)];exact h
 |_,_,_,_,i,.cons (k:=a) hu hx,.cons (k:=b) hv hy,hf,h=>by
  obtain⟨t,rfl⟩:=kq hu;obtain⟨t',rfl⟩:=kq hv;refine kat_cons (yj (kat_go (λe=>?_) λe=>?_))
  ·refine kat_yes (PK (i+1) hx hy (hf.trans (by simp)) ?_);rw[dN,if_pos e]at h;exact h
  ·have h':Q (decide (a<b)) s:=by rw[dN,if_neg (by rw[e];simp)]at h;exact h
   refine kat_no ?_
   cases q:i==0 with
   |true=>exact oneLt_int h'
   |false=>exact kat_one _ _ (xr h')
theorem z2b{x y:ai}{kx ky:y'}{Q:Bool->ag->Prop}(hx:ie (intKind prog w) s.heap kx x)(hy:ie (intKind prog w) s.heap ky y)(h:Q (dN kx ky) s):wpAny (model prog w) A (keyLt' (tuples' true) (.ref x) (.ref y)) Q E s:=by obtain⟨ox,ix,nx,e1,_,d1,i1⟩:=hx;obtain⟨oy,iy,ny,e2,_,d2,i2⟩:=hy;exact kat_lt e1 d1 e2 d2 (PK 0 i1 i2 (by simp) h)
def Cn(prog:bj)(w:cn)(h:cy)(n:Nat)(ad:Nat->ai)(ky:Nat->y'):Prop:=∀i,i<n->ie (intKind prog w) h (ky i) (ad i)/\ky i≠[]
def cK(n:Nat)(ad:Nat->ai):List af:=(ak n).map λi=>.ref (ad i)
theorem lK(n:Nat)(ad:Nat->ai):(cK n ad).length=n:=by simp[cK]
theorem F7{n:Nat}{ad:Nat->ai}{i:Nat}(h:i<n):(cK n ad).getD i kj=.ref (ad i):=by simp[cK,h]
theorem PL:∀(l:Aw){ad:Nat->ai}{ky:Nat->y'},(∀i∈l,ie (intKind prog w) s.heap (ky i) (ad i)/\ky i≠[])->∃fs:List af,KatTups s.heap (l.map λi=>.ref (ad i)) fs/\fs.length=l.length/\∀v∈fs,∃a t,v=.int a t
 |[],_,_,_=>⟨[],trivial,rfl,by simp⟩
 |i::l,ad,ky,h=>by
  obtain⟨fs,t,hl,hv⟩:=PL l (ad:=ad) (ky:=ky) λj hj=>h j (av _ hj);obtain⟨⟨o,its,n,e,c,d,r⟩,ne⟩:=h i (bf ..)
  cases q:its.toList with
  |nil=>rw[q]at r;cases hk:ky i with
   |nil=>exact absurd hk ne
   |cons a b=>rw[hk]at r;cases r
  |cons v vs=>
   rw[q]at r
   cases hk:ky i with
   |nil=>exact absurd hk ne
   |cons a b=>
    rw[hk]at r
    cases r with
    |cons hu _=>
     obtain⟨tk,rfl⟩:=kq hu;refine⟨.int a tk::fs,KatTups.cons e c d (by rw[<-ly,q];rfl) t,by simp[hl],λv hv'=>?_⟩
     rcases aw.mp hv' with rfl|hv'
     ·exact⟨_,_,rfl⟩
     ·exact hv v hv'
theorem z2c{n:Nat}{ad:Nat->ai}{ky:Nat->y'}{G:Array Nat->ag->Prop}(h2:2<=n)(hk:Cn prog w s.heap n ad ky)(h:∀p,Ent n p->fZ dN (p.toList.map ky)->G p s):
  wpAny (model prog w) A (keyKind' (cK n ad).toArray) (λκ s'=>(kas_sort (cK n ad).length).kasWp (kas_ask prog w A κ (cK n ad)) G s') (λ_ _=>False) s:=by
 obtain⟨fs,t,hl,hv⟩:=PL (prog:=prog) (w:=w) (s:=s) (ak n) (ad:=ad) (ky:=ky) λi hi=>hk i (bg.mp hi);refine kat_kind (T:=.type "int") t (by rw[hl,dm];lia) (λv hv'=>?_) (by decide) ?_
 ·obtain⟨a,tk,rfl⟩:=hv v hv';exact .now
 ·rw[lK]
  let ks:=(ak n).map ky
  have mem:∀i,i<n->ky i∈ks:=λi hi=>br.mpr ⟨i,bg.mpr hi,rfl⟩;refine OD (n:=n) (f:=λi=>rk dN ks (ky i)) (I:=λs'=>s'=s) (λi j C s' hs hi hj hC=>?_) (kas_sort n) (λp=>Ent n p/\fZ dN (p.toList.map ky)) G s s (z19 (by lia) λp e inc=>⟨e,?_⟩) rfl λp s' hp hs=>by subst hs;exact h p hp.1 hp.2
  ·subst hs;show wpAny (model prog w) A (keyLt' (tuples' true) ((cK n ad).getD i kj) ((cK n ad).getD j kj)) C (λ_ _=>False) s';rw[F7 hi,F7 hj];refine z2b (hk i hi).1 (hk j hj).1 ?_;have:=hC s' rfl;rwa [OK Dg (mem i hi)]at this
  ·refine ik.mpr λi j hi hj Cw=>?_;have hj':j<p.size:=by simpa using hj
   have hi':i<p.size:=by lia
   have z:=inc i j (ji Cw) (by rw[<-e.1];exact hj');unfold SoM.F at z;have ei:p.getD i 0=p[i]:=by simp[lj,hi']
   have ej:p.getD j 0=p[j]:=by simp[lj,hj']
   rw[ei,ej]at z;have lt:∀k(hk:k<p.size),p[k]<n:=λk hk=>bg.mp (e.2.mem_iff.mp (by simp));have:=z1c Dg (mem _ (lt j hj')) z;simpa using this
end
section
abbrev wO(h h':cy):Prop:=∀b o,h.get? b=some o->h'.get? b=some o
def Dh(n:Nat)(ad:Nat->ai)(ky:Nat->y')(out:List af):Prop:=∃p:Aw,p.Perm (ak n)/\fZ dN (p.map ky)/\out=p.map λi=>.ref (ad i)
theorem Dh.len{n:Nat}{ad:Nat->ai}{ky:Nat->y'}{out:List af}(h:Dh n ad ky out):out.length=n:=by obtain⟨p,pp,_,e⟩:=h;rw[e,ax,pp.length_eq,dm]
theorem Cn.keep{h h':cy}{n:Nat}{ad:Nat->ai}{ky:Nat->y'}(k:Cn prog w h n ad ky)(g:∀i,i<n->∀o,h.get? (ad i)=some o->h'.get? (ad i)=some o):Cn prog w h' n ad ky:=λi hi=>⟨AK (k i hi).1 (g i hi),(k i hi).2⟩
theorem z2d{a:ai}{n c:Nat}{ad:Nat->ai}{ky:Nat->y'}{P:Fin->ag->Prop}(ho:s.heap.get? a=some (seqObj "list" (cK n ad).toArray c))(h64:n<64)(hk:Cn prog w s.heap n ad ky)(q:∀h' e out,Dh n ad ky out->h'.get? a=some (seqObj "list" out.toArray e)->(∀b o,b≠a->s.heap.get? b=some o->h'.get? b=some o)->P (.done (.ret .none)) {s with heap:=h'}):
  wpAny (model prog w) A (my.«list.sort» ⟨[.ref a],[]⟩) P E s:=by
 have la:a<s.heap.objs.size:=ay ho;obtain⟨e1,g1⟩:∃e1,(s.heap.update a (oa λ_=>(#[]:Array af))).get? a=some (seqObj "list" #[] e1):=⟨_,oj ho λ_=>#[]⟩
 have k1:∀b o,b≠a->s.heap.get? b=some o->(s.heap.update a (oa λ_=>(#[]:Array af))).get? b=some o:=λb o hb e=>by rw[kh _ _ _ _ hb];exact e
 generalize hH1:s.heap.update a (oa λ_=>(#[]:Array af))=H1 at g1 k1;have k3:wO H1 ((H1.push (seqObj "tuple" (cK n ad).toArray 0)).push (seqObj "list" #[] 0)):=λb o e=>ao _ (ao _ e);have ne:∀i,i<n->ad i≠a:=λi hi e=>by obtain⟨⟨o,its,m,e1,c1,_⟩,_⟩:=hk i hi;rw[e,ho]at e1;cases e1;exact absurd (Value.type.inj c1) (by decide)
 have K3:Cn prog w ((H1.push (seqObj "tuple" (cK n ad).toArray 0)).push (seqObj "list" #[] 0)) n ad ky:=hk.keep λi hi o e=>k3 _ o (k1 _ o (ne i hi) e);have g3:=k3 a _ g1;have kk:∀b o,b≠a->s.heap.get? b=some o->((H1.push (seqObj "tuple" (cK n ad).toArray 0)).push (seqObj "list" #[] 0)).get? b=some o:=λb o hb e=>k3 b o (k1 b o hb e);have sl:n<=cg:=by rw[ic];lia
 have fin:∀(out:List af),Dh n ad ky out->wpAny (model prog w) A (do
   let touched:=(<-seqEpoch a) !=e1
   Builtin.List.listUpdate (.ref a) λ_=>out.toArray
   if let some e:=(none:Option af)then rule "list.sort.comparison-raised"; throw e
   if touched then rule "list.sort.modified"; raiseError "ValueError" "list modified during sort"
   ret .none) P E {s with heap:=(H1.push (seqObj "tuple" (cK n ad).toArray 0)).push (seqObj "list" #[] 0)}:=λout En=>by
  refine ae (seqEpoch_at g3 rfl ?_);refine ae (wq g3 rfl ?_ (gz _) (by rw[ba,En.len];lia));simp only[bne_self_eq_false,cp,if_false];exact aj (q _ _ out En (oj g3 λ_=>out.toArray) λb o hb e=>by rw[kh _ _ _ _ hb];exact kk b o hb e)
 generalize hH3:(H1.push (seqObj "tuple" (cK n ad).toArray 0)).push (seqObj "list" #[] 0)=H3 at k3 K3 g3 kk fin;rw[list_sort_plain];refine ae (listItems_at ho rfl (ae (wq ho rfl ?_ (by rw[ba,lK];exact sl) (gz _))));rw[hH1];refine ae (seqEpoch_at g1 rfl (ae (wpAny_newTuple (ae (wu (fe ?_) (gz _))) (by show(cK n ad).length<=_;rw[lK];exact sl))));show wpAny (model prog w) A _ P E {s with heap:=(H1.push (seqObj "tuple" (cK n ad).toArray 0)).push (seqObj "list" #[] 0)};rw[hH3];have hz:(cK n ad).toArray.size=n:=by rw[ba,lK]
 dsimp only
 by_cases h2:n<2
 ·rw[if_pos (by rw[hz];exact h2),if_pos (by rw[hz];exact h2)];refine ae (aj ?_);rw[StateT.run_pure];refine ae (aj ?_);have e:(arrOf (SortSt.mk' general' ((cK n ad).toArray.zip (cK n ad).toArray) #[] 7 none)).map (·.2)=(cK n ad).toArray:=by show(((cK n ad).toArray.zip (cK n ad).toArray)).map (·.2)=_;rw[Array.map_snd_zip (aq _)]
  dsimp only;rw[e];refine fin _ ⟨ak n,.refl _,?_,rfl⟩;refine ik.mpr λi j hi hj Cw=>?_;rw[ax,dm]at hj
  lia
 ·have h2':2<=n:=by lia
  rw[if_neg (by rw[hz];exact h2),if_neg (by rw[hz];exact h2)];refine ae (rq (z2c (A:=A) (s:={s with heap:=H3}) (G:=λp s'=>s'={s with heap:=H3}/\Ent n p/\fZ dN (p.toList.map ky)) h2' K3 λp e r=>⟨rfl,e,r⟩) (λκ s0 hκ=>?_) λ_ _ x=>x.elim);refine ae (rq (kat_run (ks:=cK n ad) (vs:=cK n ad) (Q:=λDd s'=>∃p:Array Nat,p.size=(cK n ad).length/\arrOf Dd=p.map (kas_item ((cK n ad).toArray.zip (cK n ad).toArray))/\failedOf Dd=none/\s'={s with heap:=H3}/\Ent n p/\fZ dN (p.toList.map ky))
   rfl (by rw[lK];exact h2') (by rw[lK];exact h64) (λp Dd s' z1 z2 z3 z4=>⟨p,z1,z2,z3,z4⟩) hκ) ?_ λ_ _ e=>e)
  rintro ⟨⟨⟩,Dd⟩ s' ⟨p,_,z2,z3,rfl,z5,z6⟩
  dsimp only;rw[kat_snds rfl z2,z3];have e:(p.toList.map λi=>(cK n ad).getD i kj)=p.toList.map λi=>.ref (ad i):=Au λi hi=>F7 (bg.mp (z5.2.mem_iff.mp hi));rw[e];exact fin _ ⟨p.toList,z5.2,z6,rfl⟩
theorem PM{x:af}{n:Nat}{ad:Nat->ai}{ky:Nat->y'}{Q:af->ag->Prop}(h64:n<64)(hk:Cn prog w s.heap n ad ky)(hc:∀(Q':List af->ag->Prop)(E':af->ag->Prop),(∀h' tk,wO s.heap h'->s.heap.objs.size<=h'.objs.size->Q' (cK n ad) {s with heap:=h',toks:=tk})->wpAny (model prog w) A.in1 (collect x) Q' E' s)(q:∀h' tk D e out,Dh n ad ky out->s.heap.objs.size<=D->h'.get? D=some (seqObj "list" out.toArray e)->wO s.heap h'->Q (.ref D) {s with heap:=h',toks:=tk}):
  wpAny (model prog w) A (call (.builtin "sorted") [x]) Q E s:=by
 refine yi kind_sorted plain_sorted entry_sorted (args_sorted1 _) ?_;unfold my.«sorted»;refine ae (m:=checkCount "sorted" 1 1 _) (aj (ae (hc _ _ λh1 tk k1 sz=>ae (wu ?_ (by rw[lK,ic];lia)))));have g:(h1.push (seqObj "list" (cK n ad).toArray 0)).get? h1.objs.size=some (seqObj "list" (cK n ad).toArray 0):=az _ rfl;have k2:wO s.heap (h1.push (seqObj "list" (cK n ad).toArray 0)):=λb o e=>ao _ (k1 b o e);refine ae (fe (fz slot_list_sort ⟨_,g,rfl⟩ entry_list_sort (z2d (s:={s with heap:=h1.push (seqObj "list" (cK n ad).toArray 0),toks:=tk}) g h64 (hk.keep λi hi o e=>k2 _ o e) λh' e out so ho ke=>⟨_,rfl,?_⟩) (args_list_sort _)));exact aj ⟨_,rfl,q h' tk h1.objs.size e out so sz ho λb o e=>ke b o (bc (bo (ay e) sz)) (k2 b o e)⟩
end
def bare(w:cn):Obj:={cls:=.type "set",dict:=none,data:=.set #[] 0 (.fresh 0 0 (!w.params.followText "set-order"))}
section
theorem z2e{h:cy}{a:ai}(e:h.get? a=some (bare w)):mD prog w h a []:=by
 have tok:∀led:Bool,Dc (.fresh 0 0 led) []:=λled=>⟨rfl,.nil,rfl,(λj hj=>nomatch hj),gz _,.inl rfl,(λi h j e=>nomatch e),rfl⟩
 exact⟨bare w,#[],0,_,e,⟨rfl,rfl,rfl⟩,rfl,rfl,tok _,.nil,(by show 0*5<7*3;decide),rfl⟩
theorem z2f(a:af){Q:af->ag->Prop}(q:Q (.ref s.heap.objs.size) {s with heap:=s.heap.push (bare w)}):
  codeAny (model prog w) A (.call (.builtin "set.__new__") ⟨[.type "set",a],[]⟩) (wants Q E) s:=by
 refine qo F.plain_set_new F.entry_set_new (sy (F.newCall_set_1 a) ?_);have self:=sub_set_self;unfold my.«set.__new__» Builtin.Frozenset.newClass;cases s
 wp_walk
 exact nu (aj (ae (wpAny_alloc (aj (aj q)))))
theorem z2g{v:af}{Q N:af->ag->Prop}(hn:codeAny (model prog w) A.in1 (.call (.builtin "set.__new__") ⟨[.type "set",v],[]⟩) (wants N E) s)(hi:∀x s1,N x s1->s1.TypeIs x "set"/\codeAny (model prog w) A.in1 (.call (.builtin "set.__init__") ⟨[x,v],[]⟩) (wants (λr s2=>r=.none/\Q x s2) E) s1):wpAny (model prog w) A (call (.type "set") [v]) Q E s:=by
 have f:=F.called_set;obtain⟨_,_,fm⟩:=f.mro;have fd:=f.made;have fs:=f.sub;have ft:=f.notType;have fc:=f.canCreate;have fk:=F.typeCall_set_1 v;have fl:=f.init.lookup;have q:(Code.builtin "type.__call__" ⟨[.type "set",v],[]⟩).quiet=true:=Code.quiet_builtin _ (by decide+kernel);refine wpAny_call (codeAny_of_tree (aj ⟨q,ki F.entry_type_call ?_⟩));rw[Around.under_plain (weight_type_call_type "set" [v] []) rfl]
 repeat (any_goals (first|assumption|wp_step))
 refine ur hn ?_
 rintro (e|fl1) s1 h1
 ·exact h1
 ·cases fl1<;>try exact h1.elim
  rename_i x;obtain⟨hx,hr⟩:=hi x s1 h1;have fb:=f.init.bind x
  repeat (any_goals (first|assumption|wp_step))
  refine ur hr ?_
  rintro (e|fl2) s2 h2
  ·exact h2
  ·cases fl2<;>try exact h2.elim
   obtain⟨rfl,h3⟩:=h2
   repeat (any_goals (first|assumption|wp_step))
theorem PN{l:ai}{T:String}{it:Obj}{Q:af->ag->Prop}{N:ag->Prop}(hT:s.TypeIs (.ref l) T)(n1:isSubtype (.type T) (.type "set")=pure false)(n2:isSubtype (.type T) (.type "frozenset")=pure false)(n3:(vc T==vc "dict")=false)(hi:∀(B:cq)(Q':af->ag->Prop)(E':af->ag->Prop),Q' (.ref (s.heap.objs.size+1)) {s with heap:=(s.heap.push (bare w)).push it}->wpAny (model prog w) B (pyIter (.ref l)) Q' E' {s with heap:=s.heap.push (bare w)})(run:∀(R:xa->ag->Prop),(((s.heap.push (bare w)).push it).get? s.heap.objs.size=some (bare w))->(∀b o,s.heap.get? b=some o->((s.heap.push (bare w)).push it).get? b=some o)->(∀s',N s'->R (.ok (.ret .none)) s')->
   codeAny (model prog w) A.in1.in1 (.builtin "set.update.loop" ⟨[.ref s.heap.objs.size,.ref (s.heap.objs.size+1)],[]⟩) R {s with heap:=(s.heap.push (bare w)).push it})(q:∀s',N s'->Q (.ref s.heap.objs.size) s'):wpAny (model prog w) A (call (.type "set") [.ref l]) Q E s:=by
 refine z2g (N:=λx s1=>x=.ref s.heap.objs.size/\s1={s with heap:=s.heap.push (bare w)}) (z2f _ ⟨rfl,rfl⟩) ?_
 rintro x s1 ⟨rfl,rfl⟩
 have up:∀b o,s.heap.get? b=some o->(s.heap.push (bare w)).get? b=some o:=λb o e=>ao _ e;have hb:(s.heap.push (bare w)).get? s.heap.objs.size=some (bare w):=az _ rfl;have hS:uu {s with heap:=s.heap.push (bare w)} (.ref s.heap.objs.size) "set":=⟨_,hb,rfl⟩;refine⟨hS,qo F.called_set.init.plain F.entry_set_init (check_set_init_1 hS ?_)⟩;obtain⟨ol,el,cl⟩:=hT;have hl1:uu {s with heap:=s.heap.push (bare w)} (.ref l) T:=⟨ol,up l ol el,cl⟩
 have run:=λR=>run R (ao _ hb) λb o e=>ao _ (up b o e);unfold my.«set.__init__» noKeywords Builtin.Frozenset.updateFrom;generalize hPI:pyIter=PI;unfold bare at hb
 wp_walk
 subst hPI;refine hi _ _ _ ?_;refine ae (wpAny_runValue (run _ λs' n=>?_));exact aj (aj ⟨rfl,q s' n⟩)
theorem PQ{l:ai}{T:String}{it:Obj}{n:Nat}{P:Nat->af->Prop}{St:Nat->cy->Prop}{fp wr:List ai}(ad:Nat->ai)(ky:Nat->y')(U:wo){Q:af->ag->Prop}(hu:A.units+8<cLine)(hT:s.TypeIs (.ref l) T)(n1:isSubtype (.type T) (.type "set")=pure false)(n2:isSubtype (.type T) (.type "frozenset")=pure false)(n3:(vc T==vc "dict")=false)(hi:∀(B:cq)(Q':af->ag->Prop)(E':af->ag->Prop),Q' (.ref (s.heap.objs.size+1)) {s with heap:=(s.heap.push (bare w)).push it}->wpAny (model prog w) B (pyIter (.ref l)) Q' E' {s with heap:=s.heap.push (bare w)})(W:Walks prog w A.in1.in1.in1 (s.heap.objs.size+1) fp wr n P St)(hfp:s.heap.objs.size∉fp)(hwr:∀b∈wr,s.heap.objs.size<b)(h0:St 0 ((s.heap.push (bare w)).push it))(hval:∀i v,P i v->v=.ref (ad i))(hU:U.length<=76)(hky:∀i,i<n->ky i∈U)(Es:∀j,j<n->ie (intKind prog w) s.heap (ky j) (ad j))(q:∀(h':cy)(tk:Nat)kb,mD prog w h' s.heap.objs.size kb->Upto ky ad n kb->(∀b o,s.heap.get? b=some o->h'.get? b=some o)->Q (.ref s.heap.objs.size) {s with heap:=h',toks:=tk}):
  wpAny (model prog w) A (call (.type "set") [.ref l]) Q E s:=by
 have lt:∀j,j<n->ad j<s.heap.objs.size:=λj hj=>let ⟨_,_,_,e,_⟩:=Es j hj;ay e;refine PN (N:=λs'=>∃h' tk kb,s'={s with heap:=h',toks:=tk}/\mD prog w h' s.heap.objs.size kb/\Upto ky ad n kb/\∀b o,s.heap.get? b=some o->h'.get? b=some o) hT n1 n2 n3 hi (λR hb2 up hR=>?_) λs'⟨h',tk,kb,e,S,u,k⟩=>by rw[e];exact q h' tk kb S u k
 refine z20 W s.heap.objs.size hfp ad ky hval (by show A.units+1+1+2<cLine;lia) U hU hky (λj hj=>⟨bc (lt j hj),λm=>Nat.lt_asymm (lt j hj) (hwr _ m)⟩) n 0 _ [] rfl (gz _) h0 (z2e hb2)
  ⟨(λp hp=>nomatch hp),λj hj=>absurd hj (yb j)⟩ (λj hj=>AK (Es j hj) λo e=>up _ o e) λh' tk kb keep S u=>hR _ ⟨h',tk,kb,rfl,S,u,λb o e=>?_⟩
 have hlt:=ay e;exact keep b o (λm=>(aw.mp m).elim (bc hlt) λm=>Nat.lt_asymm hlt (hwr b m)) (up b o e)
end
end SR
namespace L2.Mr
open SR
def Bm(H:Hp):Gx->wo->Prop
 |[],[]=>True
 |v::vs,k::ks=>(∃b,v=.ref b/\H b=some (.tup (k.map Ga)))/\Bm H vs ks
 |_,_=>False
def vAd:V->ai
 |.ref b=>b
 |_=>0
def fW(vs:Gx)(i:Nat):ai:=vAd (vs.getD i .non)
section
variable{X:Cx}{pins:List (ai×Obj)}{σ:St}{H H':Hp}{s:ag}
theorem Bm.len:∀{vs:Gx}{ks:wo},Bm H vs ks->vs.length=ks.length
 |[],[],_=>rfl
 |[],_::_,h=>h.elim
 |_::_,[],h=>h.elim
 |v::vs,k::ks,h=>by rw[bu,bu,Bm.len h.2]
theorem Bm.at_:∀{vs:Gx}{ks:wo}{i:Nat},Bm H vs ks->i<ks.length->vs[i]?=some (.ref (fW vs i))/\H (fW vs i)=some (.tup ((ks.getD i []).map Ga))
 |[],[],_,_,h=>by simp at h
 |[],_::_,_,h,_=>h.elim
 |_::_,[],_,h,_=>h.elim
 |v::vs,k::ks,0,h,_=>by obtain⟨⟨b,rfl,e⟩,_⟩:=h;exact⟨rfl,e⟩
 |v::vs,k::ks,i+1,h,hi=>by
  obtain⟨e1,e2⟩:=Bm.at_ (i:=i) h.2 (by simpa using hi);have ea:fW (v::vs) (i+1)=fW vs i:=by simp[fW]
  exact⟨by rw[ea];simpa using e1,by rw[ea];simpa using e2⟩
theorem PR:∀{k:y'}{its:List af}{prog:bj}{w:cn},Bf (k.map Ga) its->ItemsAre (intKind prog w) k its
 |[],_,_,_,.nil=>.nil
 |n::k,_,_,_,.cons h1 h2=>by obtain⟨t,rfl⟩:=h1;exact .cons (zx _ _ _ _) (PR h2)
theorem AN(I:Inv X pins σ H s){b:ai}{k:y'}(e:H b=some (.tup (k.map Ga))):ie (intKind X.prog X.w) s.heap k b:=by obtain⟨_,its,r,o,e1,c,_,n,d⟩:=I.hok b _ e;exact⟨o,its.toArray,n,e1,c,d,PR r⟩
theorem z2h(I:Inv X pins σ H s){vs:Gx}{ks:wo}(h:Bm H vs ks)(ne:∀k∈ks,k≠[]):Cn X.prog X.w s.heap ks.length (fW vs) (λi=>ks.getD i []):=λi hi=>by refine⟨AN I (h.at_ hi).2,ne _ ?_⟩;simp[hi]
theorem F8{vs:Gx}{ks:wo}{its:List af}(h:Bm H vs ks)(r:Bf vs its):its=cK ks.length (fW vs):=by
 have hl:=r.length;have hl2:=h.len
 apply wa
 intro i
 by_cases hi:i<ks.length
 ·obtain⟨e1,_⟩:=h.at_ hi;obtain⟨u,e2,e3⟩:=r.get e1;cases e3;rw[e2];simp[cK,hi]
 ·rw[zy (by lia),zy (by rw[lK];lia)]
theorem PU{n:Nat}{ad:Nat->ai}{ky:Nat->y'}{out:List af}(so:Dh n ad ky out)(hH:∀i,i<n->H (ad i)=some (.tup ((ky i).map Ga))):
  ∃(p:Aw)(Ct:Gx),p.Perm (ak n)/\fZ dN (p.map ky)/\Bf Ct out/\Bm H Ct (p.map ky):=by
 obtain⟨p,pp,r,rfl⟩:=so;refine⟨p,p.map λi=>Gs (ad i),pp,r,?_,?_⟩
 ·clear pp r
  induction p with
  |nil=>exact .nil
  |cons i p ih=>exact .cons rfl ih
 ·have:∀q:Aw,(∀i∈q,i<n)->Bm H (q.map λi=>Gs (ad i)) (q.map ky):=λq=>by
   induction q with
   |nil=>intro _;trivial
   |cons i q ih=>exact λh=>⟨⟨_,rfl,hH i (h i (bf ..))⟩,ih λj hj=>h j (av _ hj)⟩
  exact this p λi hi=>bg.mp (pp.mem_iff.mp hi)
theorem PV{α:Type}{p:Aw}{n:Nat}{l:List α}{d:α}(h:p.Perm (ak n))(hl:l.length=n):(p.map λi=>l.getD i d).Perm l:=by
 refine(h.map _).trans ?_;have:(ak n).map (λi=>l.getD i d)=l:=by
  apply List.ext_getElem (by simp[hl])
  intro i h1 h2;simp[h2]
 rw[this]
abbrev AO:Gx->Hp->VK->Prop:=λxs H Q=>∃(p:ai)(vs:Gx)(ks:wo),xs=[.ref p]/\H p=some (.lst vs)/\Bm H vs ks/\(∀k∈ks,k≠[])/\ks.length<64/\∀l Ct,H l=none->Bm H Ct (rM dN ks)->Q (.ref l) (bI H l (.lst Ct))
theorem z2i:Bi X (.builtin "sorted") AO:=by
 intro pins s σ H xs us Q I rv ⟨p,vs,ks,e,hp,ht,ne,h64,q⟩;subst e;obtain⟨u,rfl,ru⟩:=gO rv;cases ru;obtain⟨its,rits,pl,hz⟩:=I.list (Gi hp);have hits:=F8 ht rits;refine PM h64 (z2h I ht ne) (λQ' E' hQ=>?_) λh' tk D e out so hD ho k=>?_
 ·refine collect_list (vs:=cK ks.length (fW vs)) (by rw[<-hits];exact pl.isList) ?_ (by rw[lK,ic];lia);refine hQ _ s.toks (λb o e=>?_) ?_
  ·have hlt:=ay e;rw[kh _ _ _ _ (bc hlt),Heap.get?_push_ne _ _ _ (bc hlt)];exact e
  ·rw[Heap.size_update,uv];exact xi _
 ·obtain⟨pp,Ct,h1,h2,h3,h4⟩:=PU (H:=H) so λi hi=>(ht.at_ hi).2;have e1:pp.map (λi=>ks.getD i [])=rM dN ks:=z1a Dg h2 (PV h1 rfl);rw[e1]at h4;have hl:=h4.len;refine⟨.ref D,_,I.laid (t':=tk) k hD (show Bk X.prog X.w _ _ _ (.lst Ct) from⟨?_,out,e,h3,ho⟩),rfl,q D Ct (I.hok.fresh hD) h4⟩;rw[hl,(FX ks).length_eq,ic];lia
def AQ(prog:bj)(w:cn)(l:ai)(o:Obj)(kb:KB):Prop:=∃es ep t,∀h:cy,h.get? l=some o->Bw prog w h l kb o es ep t
structure KbOk(H:Hp)(kb:KB)(ks:wo):Prop where
 tup:∀p∈kb,H p.2=some (.tup (p.1.map Ga))
 frm:∀p∈kb,p.1∈ks
 all:∀k∈ks,k∈kb.map da
abbrev PX(X:Cx):Gx->Hp->VK->Prop:=λxs H Q=>∃(p:ai)(vs:Gx)(ks:wo),xs=[.ref p]/\H p=some (.lst vs)/\Bm H vs ks/\(dC dN ks).length<=76/\∀l o kb,H l=none->AQ X.prog X.w l o kb->KbOk H kb ks->Q (.ref l) (bI H l (.frz o (.own 0)))
theorem sub_list:isSubtype (.type "list") (.type "set")=pure false/\isSubtype (.type "list") (.type "frozenset")=pure false:=⟨F.sub_list_set,F.sub_list_frozenset⟩
theorem z2j{k:Nat}(rm:Bx k X.A):Bi X (.type "set") (PX X):=by
 intro pins s σ H xs us Q I rv ⟨p,vs,ks,e,hp,ht,hU,q⟩;subst e;obtain⟨u,rfl,ru⟩:=gO rv;cases ru;obtain⟨its,rits,pl,hz⟩:=I.list (Gi hp);have hits:=F8 ht rits;have lp:=I.hok.lt hp;have hI:s.heap.IsList p (cK ks.length (fW vs)).toArray:=by rw[<-hits];exact pl.isList
 have Cf:(cK ks.length (fW vs)).toArray.size=ks.length:=by rw[ba,lK]
 have hh:X.A.in1.in1.in1.handled=none:=rm.hd;have hne:p≠s.heap.objs.size+1:=bc (fi lp);have hb:(s.heap.push (bare X.w)).IsList p (cK ks.length (fW vs)).toArray:=hI.push _;have hs1:(s.heap.push (bare X.w)).objs.size=s.heap.objs.size+1:=uv _ _;have W:=ow (prog:=X.prog) (w:=X.w) (A:=X.A.in1.in1.in1) hh (s.heap.objs.size+1) p hne (cK ks.length (fW vs)).toArray;rw[Cf]at W;refine PQ (T:="list") (it:={cls:=.type "list_iterator",data:=.fields #[.ref p,.int 0 0]}) (fW vs) (λi=>ks.getD i []) (dC dN ks) (by have:=rm.un;lia) hI.typeIs sub_list.1 sub_list.2 (by decide) (λB Q' E' hQ=>?_) W ?_ ?_ ?_ (λi v hv=>?_) hU (λi hi=>?_) (λj hj=>?_) λh' tk kb hS Du k=>?_
 ·refine jo hb ?_;rw[<-hs1]at hQ;exact hQ
 ·intro m
  rcases aw.mp m with z|m
  ·exact lg _ z.symm
  ·exact jj lp (cc.mp m)
 ·intro b hb;rw[cc.mp hb];exact jv _
 ·refine⟨⟨{cls:=.type "list_iterator",data:=.fields #[.ref p,.int 0 0]},?_,rfl,rfl⟩,hb.push _⟩;rw[<-hs1];exact az _ rfl
 ·have hi:i<ks.length:=by have:=(ff.mp hv).1;rwa [Cf]at this
  have:(cK ks.length (fW vs))[i]?=some (.ref (fW vs i)):=by simp[cK,hi]
  rw[Aa,this]at hv;exact(de hv).symm
 ·refine(oZ Dg _ _).mpr ?_;show ks.getD i []∈ks;simp[hi]
 ·exact AN I (ht.at_ hj).2
 ·obtain⟨o,es,ep,t,P⟩:=hS;refine⟨.ref s.heap.objs.size,_,I.laid (t':=tk) (o:=.frz o (.own 0)) k (aq _) ⟨P.obj,o,P.obj⟩,rfl,q _ o kb (I.hok.fresh (aq _)) ⟨es,ep,t,λh e=>P.at' e⟩ ⟨λz hz=>?_,λz hz=>?_,λz hz=>?_⟩⟩
  ·obtain⟨j,hj,rfl⟩:=Du.from_ z hz;exact(ht.at_ hj).2
  ·obtain⟨j,hj,rfl⟩:=Du.from_ z hz;show ks.getD j []∈ks;simp[hj]
  ·obtain⟨j,hj,rfl⟩:=kg hz;have:=Du.all j hj;simpa[hj]using this
abbrev PY(X:Cx):Gx->Hp->VK->Prop:=λxs H Q=>∃(l:ai)(o:Obj)(kb:KB)(ks:wo),xs=[.ref l]/\H l=some (.frz o (.own 0))/\AQ X.prog X.w l o kb/\KbOk H kb ks/\(∀k∈ks,k≠[])/\(dC dN ks).length<64/\∀D Ct,H D=none->Bm H Ct (dC dN ks)->Q (.ref D) (bI H D (.lst Ct))
theorem z2k{α β:Type}{f:α->β}:∀{l:List β}{l':List β},l.Perm l'->∀xs:List α,l'=xs.map f->∃ys:List α,ys.Perm xs/\l=ys.map f:=by
 intro l l' h
 induction h with
 |nil=>intro xs e;exact⟨xs,.refl _,e⟩
 |cons a _ ih=>
  intro xs e
  cases xs with
  |nil=>cases e
  |cons x xs=>simp only[du,Ak]at e;obtain⟨ys,p,e'⟩:=ih xs e.2;exact⟨x::ys,p.cons x,by simp[e.1,e']⟩
 |swap a b l=>
  intro xs e
  cases xs with
  |nil=>cases e
  |cons x xs=>
   cases xs with
   |nil=>simp at e
   |cons y xs=>simp only[du,Ak]at e;exact⟨y::x::xs,.swap ..,by simp[e.1,e.2.1,e.2.2]⟩
 |trans _ _ ih1 ih2=>intro xs e;obtain⟨ys,p,e'⟩:=ih2 xs e;obtain⟨zs,p',e''⟩:=ih1 ys e';exact⟨zs,p'.trans p,e''⟩
theorem z2l{k:Nat}(rm:Bx k X.A):Bi X (.builtin "sorted") (PY X):=by
 intro pins s σ H xs us Q I rv ⟨l,o,kb,ks,e,hl,⟨es,ep,t,hP⟩,kO,ne,h64,q⟩;subst e;obtain⟨u,rfl,ru⟩:=gO rv;cases ru;have P:=hP s.heap (I.hok l _ hl).1;have pe:(iX X.w l ep es).toList.Perm (iI X.prog X.w kb):=by rw[<-P.es];exact F6 _ _ _ _
 obtain⟨kc,pk,ek⟩:=z2k pe kb rfl;have mem:∀i,i<kc.length->kc.getD i ([],0)∈kb:=λi hi=>pk.mem_iff.mp (by simp[hi]);have hn:(kb.map da).length=(dC dN ks).length:=by refine List.Perm.length_eq ((mr P.nd (qA Dg (rN Dg ks))).mpr λz=>?_);rw[oZ Dg];refine⟨λh=>?_,λh=>kO.all z h⟩;obtain⟨p,hp,rfl⟩:=br.mp h;exact kO.frm p hp
 have hlen:kc.length<64:=by rw[pk.length_eq];rw[ax]at hn;lia
 have Ej:es.size=kc.length:=by rw[P.size,pk.length_eq]
 have KA:Cn X.prog X.w s.heap kc.length (λi=>(kc.getD i ([],0)).2) (λi=>(kc.getD i ([],0)).1):=λi hi=>⟨AN I (kO.tup _ (mem i hi)),ne _ (kO.frm _ (mem i hi))⟩
 have er:(iX X.w l ep es).toList.map (·.2)=cK kc.length (λi=>(kc.getD i ([],0)).2):=by
  rw[ek,ib]
  apply List.ext_getElem (by simp[lK])
  intro i h1 h2;have hi:i<kc.length:=by simpa using h1
  simp[cK,hi]
 refine PM hlen KA (λQ' E' hQ=>?_) λh' tk D e out so hD ho k=>?_
 ·refine PJ (show X.A.in1.handled=none from rm.hd) P.e (by rw[Ej,ic];lia) λh' tk kk sz=>?_;rw[er];exact hQ h' tk kk sz
 ·obtain⟨pp,Ct,h1,h2,h3,h4⟩:=PU (H:=H) so λi hi=>kO.tup _ (mem i hi);have pm:(pp.map λi=>(kc.getD i ([],0)).1).Perm (kb.map da):=by have:=((PV (d:=(([],0):y'×ai)) h1 rfl).trans pk).map da;rwa [ib]at this
  have nd:(pp.map λi=>(kc.getD i ([],0)).1).Nodup:=pm.nodup_iff.mpr P.nd;have rs:jG dN (pp.map λi=>(kc.getD i ([],0)).1):=by
   refine(h2.and nd).imp λ{a b}⟨x,y⟩=>?_
   cases q:dN a b with
   |true=>rfl
   |false=>exact absurd (Dg.tot a b q x) y
  have e1:(pp.map λi=>(kc.getD i ([],0)).1)=dC dN ks:=OI Dg rs λz=>by rw[pm.mem_iff];refine⟨λh=>?_,λh=>kO.all z h⟩;obtain⟨p,hp,rfl⟩:=br.mp h;exact kO.frm p hp
  rw[e1]at h4;refine⟨.ref D,_,I.laid (t':=tk) k hD (show Bk X.prog X.w _ _ _ (.lst Ct) from⟨?_,out,e,h3,ho⟩),rfl,q D Ct (I.hok.fresh hD) h4⟩;rw[h4.len,ic];lia
end
def qC:Dv->Option y' 
 |.tup xs=>bU eY xs
 |_=>none
def wQ(k:y'):Dv:=.tup (k.map Fx)
section
variable{X:Cx}{G:Cfg}{E:XK}{k:Nat}{e a b:bq}{es:List bq}{ma mb:M Dv}{aM:M Az}{p p2 pos Cu:Pos}
theorem AR{μ:Nat->ai}{n:Nat}{H:Hp}:∀{xs:Az}{vs:Gx}{ks:wo},RelDL G μ n H xs vs->bU qC xs=some ks->Bm H vs ks
 |[],_,ks,r,e=>by cases e;rw[RelDL]at r;subst r;trivial
 |x::xs,_,ks,r,e=>by
  rw[RelDL]at r;obtain⟨v,rr,rfl,r1,r2⟩:=r;unfold bU at e
  cases x with
  |tup ds=>
   dsimp only[qC]at e
   cases q:bU eY ds with
   |none=>rw[q]at e;cases e
   |some zs=>
    rw[q]at e;dsimp only at e
    cases q2:bU qC xs with
    |none=>rw[q2]at e;cases e
    |some ys=>rw[q2]at e;cases e;rw[Be]at r1;obtain⟨b,us,rfl,h1,h2⟩:=r1;rw[mZ h2 q]at h1;exact⟨⟨b,rfl,h1⟩,AR r2 q2⟩
  |_=>cases e
theorem F9{μ:Nat->ai}{n:Nat}{H:Hp}:∀{vs:Gx}{ks:wo},Bm H vs ks->RelDL G μ n H (ks.map wQ) vs
 |[],[],_=>Gj
 |[],_::_,h=>h.elim
 |_::_,[],h=>h.elim
 |v::vs,k::ks,h=>by obtain⟨⟨b,rfl,e⟩,h2⟩:=h;refine Gg ?_ (F9 h2);unfold wQ;rw[Be];exact⟨b,_,rfl,e,qS k⟩
def wR(ks:wo):Bool:=ks.all λk=>!k.isEmpty
theorem PZ{ks:wo}(h:wR ks=true):∀k∈ks,k≠[]:=λk hk e=>by have:=fg.mp h k hk;rw[e]at this;cases this
def GA(x:Dv)(h:Hs):Rs Dv:=match x with
 |.ref i=>match getL h i with
  |some xs=>match bU qC xs with
   |some ks=>if(wR ks&&decide (ks.length<64))=true then .ok (.ref h.length) (h++[.lst ((rM dN ks).map wQ)])else .bad
   |none=>.bad
  |none=>.bad
 |_=>.bad
theorem P0:jY G (λx H Q=>AO [x] H Q) GA:=by
 intro E μ h H x vx Q s r o
 cases x with
 |ref i=>
  dsimp only[GA]at o
  cases q:getL h i with
  |none=>rw[q]at o;exact o.elim
  |some xs=>
   rw[q]at o;dsimp only at o
   cases q2:bU qC xs with
   |none=>rw[q2]at o;exact o.elim
   |some ks=>
    rw[q2]at o;dsimp only at o
    split at o
    ·rename_i h0;rw[cu]at h0;obtain⟨vs,e1,r1⟩:=s.ob i _ (dW q);obtain⟨_,rfl⟩:=r;exact⟨_,vs,ks,rfl,e1,AR r1 q2,PZ h0.1,by simpa using h0.2,λl Ct hl ht=>mP s (F9 ht) hl o⟩
    ·exact o.elim
 |_=>exact o.elim
def tR(x:Dv)(h:Hs):Rs Dv:=match wD x h with
 |.ok d h1=>.ok d h1
 |_=>GA x h
abbrev P4:Gx->Hp->VK->Prop:=λxs H Q=>∃(p:ai)(ns:y'),xs=[.ref p]/\H p=some (.lst (ns.map Ga))/\ns.length<64/\∀l,H l=none->Q (.ref l) (bI H l (.lst ((iH ns).map Ga)))
theorem z2m:jY G (λx H Q=>P4 [x] H Q∨AO [x] H Q) tR:=by
 intro E μ h H x vx Q s r o;unfold tR at o
 cases q:wD x h with
 |ok d h1=>rw[q]at o;obtain⟨p,ns,e,r1⟩:=z10 E μ h H x vx Q s r (by rw[q];exact o);exact .inl ⟨p,ns,by rw[e],r1⟩
 |ex c h1=>rw[q]at o;exact .inr (P0 E μ h H x vx Q s r o)
 |bad=>rw[q]at o;exact .inr (P0 E μ h H x vx Q s r o)
theorem z2n:Bi X (.builtin "sorted") (λxs H Q=>P4 xs H Q∨AO xs H Q):=by
 intro pins s σ H xs us Q I rv h
 rcases h with h|h
 ·exact z0z pins s σ H xs us Q I rv h
 ·exact z2i pins s σ H xs us Q I rv h
theorem z2o(hg:Gl X "sorted")(hm:X.mg "sorted"=none)(ha:dP X G E [e] aM)(he:ar [e] X.env=[(false,eval e X.env)]:=by rfl):aI X G E (.Call (.Name "sorted" p) [e] [] pos) (aB (f1 tR) aM):=
 oP (Bi.imp z2n λxs H Q⟨v,h1,h2⟩=>by rw[h1];exact h2) (oQ z2m) hg hm FK ha (by decide) (by decide) he rfl
theorem P5:di "set"=some (.type "set"):=by decide+kernel
end
open PySem.SeqAt PySem.MeetsSeq PySem.MeetsSeq2 PySem.MeetsSeq3
section
variable{X:Cx}{G:Cfg}{E:XK}{k:Nat}{e a b o:bq}{es:List bq}{mo me ma mb:M Dv}{aM:M Az}{p p2 pos Cu apos cpos np:Pos}{y:Str}
theorem z2p{prog:bj}{w:cn}{A:cq}{Ee:af->ag->Prop}{s:ag}{t sl:ai}{items:Array af}{vl vu:af}{lo hi:Option Int}{Q:af->ag->Prop}(ht:zj s.heap t items)(hs:s.heap.IsSliceOf sl vl vu .none)(pl:vm vl lo)(pu:vm vu hi)(h0:HT.sIx items.size 0 lo=0)(h1:HT.sIx items.size items.size hi=items.size)(h:Q (.ref t) s):wpAny (model prog w) A (getItem (.ref t) (.ref sl)) Q Ee s:=by
 obtain⟨os,hos,hcs,hds⟩:=id hs;have hTs:s.TypeIs (.ref sl) "slice":=⟨os,hos,hcs⟩;have tt:=ht.typeIs;obtain⟨ot,et,ct,_⟩:=id ht;unfold getItem
 try with_reducible refine fe ?_
 first|refine ae (aj ?_)|skip
 refine ae (wpAny_sequenceKey tt (by decide) (ae (ij (name:=nh "__getitem__") tt gy (fz gy tt PySem.F.entry_tuple_getitem ?_ (PySem.F.args_tuple_getitem_2 _ _)))));refine ae (m:=slotArgs "__getitem__" 1 ⟨[.ref t,.ref sl],[]⟩) (aj (ae (An ht (ae (rf hTs ?_)))));rw[if_pos (by decide)];refine ae (HT.sliceApplied_gen hs pl pu ?_);rw[h0,h1];show wpAny _ _ (if(((0:Nat):Int)==0&&(1:Int)==1&&(items.size-0)==items.size)=true then _ else _) _ _ s;rw[if_pos (by simp)];unfold Builtin.Tuple.tupleIsExact;refine ae (ae (rf tt (aj ?_)));rw[if_pos (by decide)];refine ae (om (aj ⟨_,rfl,aj h⟩))
theorem z2q:SlR X (λx lo hi H Q=>∃a xs,x=.ref a/\Bu X.K H a xs/\HT.sIx xs.length 0 lo=0/\HT.sIx xs.length xs.length hi=xs.length/\Q (.ref a) H):=by
 intro pins s σ H x v vl vu lo hi sl Q I rx hs pl pu ⟨a,xs,ex,hx,h0,h1,q⟩;subst ex;cases rx;obtain⟨its,r,ht,hz⟩:=I.tuple hx;have hlen:its.toArray.size=xs.length:=by rw[ba];exact r.length.symm
 exact⟨"tuple",_,gy.lookup,ht.typeIs,z2p ht hs pl pu (by rw[hlen];exact h0) (by rw[hlen];exact h1) ⟨.ref a,H,I,rfl,q⟩⟩
def wU(x:Dv)(lo hi:Option Int)(h:Hs):Rs Dv:=match x with
 |.ref j=>match getL h j with
  |some xs=>.ok (.ref h.length) (h++[.lst (mX xs lo hi)])
  |none=>.bad
 |.tup xs=>.ok (.tup (mX xs lo hi)) h
 |_=>.bad
theorem z2r{xs:Az}{lo hi:Option Int}(h0:HT.sIx xs.length 0 lo=0)(h1:HT.sIx xs.length xs.length hi=xs.length):mX xs lo hi=xs:=by unfold mX;rw[h0,h1];simp
def qD(m:M Dv)(lo hi:MO):M Dv:=λρ h=>(m ρ h).bind λx h1=>(lo ρ h1).bind λl h2=>(hi ρ h2).bind λu h3=>wU x l u h3
theorem P6{lo hi:Option bq}{ml mh:MO}(ho:aI X G E o mo)(hl:zV X G E lo ml)(hh:zV X G E hi mh):aI X G E (.Subscript o (.Slice lo hi none p2) pos) (qD mo ml mh):=λhK=>
 Gh (YI (SlR.or (SlR.or YT YK) z2q) (ho hK) (hl hK) (hh hK)) λσ H Q⟨μ,ρ,h,rs,s,oo⟩=>gB rs s oo λμ1 x h1 vx H1 x1 Bv s1 r1 o1=>by
  refine⟨μ1,ρ,h1,Bv,s1,(o1.bind (R1:=λ_ _ _ a b=>b=a)).mono λl' H2⟨μ2,l,h2,x2,s2,el,o2⟩=>?_⟩;subst el;refine⟨μ2,ρ,h2,Bv.mono x2,s2,(o2.bind (R1:=λ_ _ _ a b=>b=a)).mono λu' H3⟨μ3,u,h3,x3,s3,eu,o3⟩=>?_⟩;subst eu;have r3:=Gk (x2.trans x3) _ _ r1
  cases x with
  |ref j=>
   dsimp only[wU]at o3
   cases q:getL h3 j with
   |none=>rw[q]at o3;exact o3.elim
   |some xs=>rw[q]at o3;obtain⟨vs,ea,ra⟩:=s3.ob j _ (dW q);obtain⟨_,rfl⟩:=r3;exact .inl (.inl ⟨_,vs,rfl,Gi ea,λp hp=>mP s3 (NI ra _ _) hp o3⟩)
  |tup xs=>
   dsimp only[wU]at o3;obtain⟨a,vs,rfl,ea,ra⟩:=r3
   by_cases hw:HT.sIx xs.length 0 l'=0/\HT.sIx xs.length xs.length u'=xs.length
   ·refine .inr ⟨a,vs,rfl,Gf ea,by rw[ra.length];exact hw.1,by rw[ra.length];exact hw.2,o3 μ3 _ _ Ge s3 ?_⟩;rw[z2r hw.1 hw.2];exact⟨a,vs,rfl,ea,ra⟩
   ·exact .inl (.inr ⟨a,vs,rfl,Gf ea,by rw[ra.length];exact hw,λp hp=>o3 μ3 _ _ (F' (dQ hp)) (s3.same (dQ hp)) ⟨p,_,rfl,eR,Gb (F' (dQ hp)) _ _ (NI ra _ _)⟩⟩)
  |_=>exact o3.elim
def fH(x y:Dv)(h:Hs):Rs Dv:=match x,y with
 |.int i,.int j=>.ok (.bl (decide (i<j))) h
 |.tup xs,.tup ys=>match bU eY xs,bU eY ys with
  |some ns,some ms=>.ok (.bl (HT.lexLt ns ms)) h
  |_,_=>.bad
 |_,_=>.bad
theorem P7:∀x y:y',HT.lexLt x y=dN x y
 |[],[]=>rfl
 |[],_::_=>rfl
 |_::_,[]=>rfl
 |a::x,b::y=>by
  rw[HT.lexLt_cons,dN,P7 x y]
  by_cases h:a=b<;>simp[h]
theorem P8:fU G (λx y H Q=>(kU λi j=>.bl (decide (i<j))) x y H Q∨KS G.K x y H Q) fH:=by
 intro E μ h H x y vx vy Q s rx ry o;unfold fH at o
 split at o
 ·rename_i i j;exact .inl (lW E μ h H (.int i) (.int j) vx vy Q s rx ry o)
 ·rename_i xs ys
  cases q1:bU eY xs with
  |none=>rw[q1]at o;exact o.elim
  |some ns=>
   cases q2:bU eY ys with
   |none=>rw[q1,q2]at o;exact o.elim
   |some ms=>rw[q1,q2]at o;obtain⟨a,us,rfl,ea,ra⟩:=rx;obtain⟨b,ws,rfl,eb,rb⟩:=ry;exact .inr ⟨a,b,ns,ms,rfl,rfl,Gf (by rw[ea,mZ ra q1]),Gf (by rw[eb,mZ rb q2]),o.val s rfl⟩
 ·exact o.elim
theorem GB(g:Good X G E k)(ha:aI X G E a ma)(hb:aI X G E b mb):aI X G E (.Compare a [.Lt] [b] pos) (m2 fH ma mb):=λhK=>sX (Ca.or DN (KU (by have:=g.room.un;lia))) (by rw[hK];exact P8) ha hb (lQ _) hK
theorem AS(g:Good X G E k)(ha:aI X G E a ma)(hb:aI X G E b mb):fS X G E (.Compare a [.Lt] [b] pos) (mB (m2 fH ma mb)):=λhK=>oM (Ca.or DN (KU (by have:=g.room.un;lia))) (by rw[hK];exact P8) ha hb (lQ _) hK
def bJ(j:Int):y':=(ak j.toNat).map λk:Nat=>(k:Int)
theorem z2s:Bi X (.type "range") (λxs H Q=>∃j:Int,xs=[.int j]/\∀l,H l=none->Q (.ref l) (bI H l (.rng 0 j))):=by intro pins s σ H xs us Q I rv ⟨j,e,q⟩;subst e;obtain⟨u,rfl,ru⟩:=gO rv;obtain⟨t,rfl⟩:=ru;refine call_range_1 ⟨.ref s.heap.objs.size,_,I.laid (t':=s.toks+1+1) (o:=.rng 0 j) (λb ob q=>ao _ q) (aq _) ⟨_,_,_,az _ rfl⟩,rfl,q _ (I.hok.fresh (aq _))⟩
theorem z2t(rm:Bx k X.A):Bi X (.type "list") (λxs H Q=>∃(l:ai)(j:Int),xs=[.ref l]/\H l=some (.rng 0 j)/\0<=j/\j<=1000/\∀D,H D=none->Q (.ref D) (bI H D (.lst ((bJ j).map Ga)))):=by
 intro pins s σ H xs us Q I rv ⟨l,j,e,hl,h0,h1,q⟩;subst e;obtain⟨u,rfl,ru⟩:=gO rv;cases ru;obtain⟨t,u,v,hr⟩:=I.hok l _ hl;refine call_list_range (n:=j.toNat) (a:=0) (b:=j) (c:=1) rm.hd hr (small_one (by lia) (by lia) (by lia) (by lia)) ?_ (by lia) λh' tk acc c ke ho ia=>?_
 ·rw[rangeSize_one]
  split<;>lia
 ·have hv:Bf ((bJ j).map Ga) acc.toList:=by
   have:∀(n:Nat)(as:List af),as.length=n->(∀(i:Nat)(v:af),as[i]?=some v->∃t,v=mw (0+(i:Int)*1) t)->Bf (((ak n).map λk:Nat=>(k:Int)).map Ga) as:=λn=>by
    induction n with
    |zero=>intro as hl _;rw[jy.mp hl];exact .nil
    |succ n ih=>
     intro as hl hi;have hne:as≠[]:=λz=>by rw[z]at hl;cases hl
     have e:=xm hne;rw[<-e,qf,fq,fq];have hlast:as[n]?=some (as.getLast hne):=by
      rw[List.getLast_eq_getElem,bz (by lia)]
      congr 2;lia
     obtain⟨t,ht⟩:=hi n _ hlast;refine Bf.append (ih as.dropLast (by simp[hl]) λi v hv=>hi i v ?_) ?_
     ·rw[List.getElem?_dropLast]at hv
      split at hv
      ·exact hv
      ·cases hv
     ·refine .cons ?_ .nil;show RelV (.int (n:Int)) _;rw[ht];exact⟨t,by simp⟩
   refine this j.toNat acc.toList (by simpa using ia.1) λi v hv=>?_;exact ia.2 i v (by simpa using hv)
  refine⟨.ref s.heap.objs.size,_,I.laid (t':=tk) ke (aq _) (show Bk X.prog X.w _ _ _ (.lst ((bJ j).map Ga)) from⟨?_,acc.toList,c,hv,?_⟩),rfl,q _ (I.hok.fresh (aq _))⟩
  ·rw[ax,bJ,ax,dm,ic];lia
  ·rw[ho]
def nE:Dv->Hs->Rs Dv
 |.int j,h=>if(decide (0<=j)&&decide (j<=1000))=true then .ok (.ref h.length) (h++[.lst ((bJ j).map Fx)])else .bad
 |_,_=>.bad
theorem P9(g:Good X G E k)(hg:Gl X "list")(hm:X.mg "list"=none)(hg2:Gl X "range")(hm2:X.mg "range"=none)(ha:dP X G E [e] aM)(he:ar [e] X.env=[(false,eval e X.env)]:=by rfl)(Eo:ar [Expr.Call (.Name "range" p2) [e] [] Cu] X.env=[(false,eval (.Call (.Name "range" p2) [e] [] Cu) X.env)]:=by rfl):
  aI X G E (.Call (.Name "list" p) [.Call (.Name "range" p2) [e] [] Cu] [] pos) (aB (f1 nE) aM):=λhK=>
 Gh (sR (z2t g.room) hg hm ER (kW (sR z2s hg2 hm2 zk (ha hK) (by decide) (by decide) he rfl) lS Eo) (by decide) (by decide) Eo rfl) λσ H Q⟨μ,ρ,h,rs,s,o⟩=>by
  refine kJ rs s o λμ1 ds h1 vs H1 x1 Bv s1 r1 o1=>?_;unfold f1 at o1
  split at o1
  ·rename_i d;obtain⟨v,rfl,rv⟩:=qU r1
   cases d with
   |int j=>
    dsimp only[nE]at o1
    split at o1
    ·rename_i h0;rw[cu]at h0;have j0:0<=j:=by simpa using h0.1
     have j1:j<=1000:=by simpa using h0.2
     rw[Be]at rv;subst rv;refine⟨j,rfl,λl hl=>?_⟩;have sm:=dQ (o:=.rng 0 j) hl;refine⟨l,j,rfl,eR,j0,j1,λD hD=>?_⟩;exact mP (E:=E) (s1.same sm) (qS _) hD (λμ' H' v x'=>o1 μ' H' v ((F' sm).trans x'))
    ·exact o1.elim
   |_=>exact o1.elim
  ·exact o1.elim
end
section
variable{X:Cx}{G:Cfg}{E:XK}{k:Nat}{e a b o:bq}{es:List bq}{mo me ma mb:M Dv}{aM:M Az}{p p2 pos Cu apos cpos np:Pos}{y:Str}
theorem sub_tuple:isSubtype (.type "tuple") (.type "set")=pure false/\isSubtype (.type "tuple") (.type "frozenset")=pure false:=by constructor<;>(rw[isSubtype_type];kernel_rfl)
abbrev QA(X:Cx):Gx->Hp->VK->Prop:=λxs H Q=>∃(p:ai)(vs:Gx)(ks:wo),xs=[.ref p]/\H p=some (.tup vs)/\Bm H vs ks/\(dC dN ks).length<=76/\∀l o kb,H l=none->AQ X.prog X.w l o kb->KbOk H kb ks->Q (.ref l) (bI H l (.frz o (.own 0)))
theorem z2u(rm:Bx k X.A):Bi X (.type "set") (QA X):=by
 intro pins s σ H xs us Q I rv ⟨p,vs,ks,e,hp,ht,hU,q⟩;subst e;obtain⟨u,rfl,ru⟩:=gO rv;cases ru;obtain⟨its,rits,pl,hz⟩:=I.tuple (Gf hp);have hits:=F8 ht rits;have lp:=I.hok.lt hp;have hI:s.heap.IsTuple p (cK ks.length (fW vs)).toArray:=by rw[<-hits];exact pl
 have Cf:(cK ks.length (fW vs)).toArray.size=ks.length:=by rw[ba,lK]
 have hne:p≠s.heap.objs.size+1:=bc (fi lp);have hb:(s.heap.push (bare X.w)).IsTuple p (cK ks.length (fW vs)).toArray:=IsTup.push (items:=(cK ks.length (fW vs)).toArray) hI _;have hs1:(s.heap.push (bare X.w)).objs.size=s.heap.objs.size+1:=uv _ _;have W:=Walks.tuple (prog:=X.prog) (w:=X.w) (A:=X.A.in1.in1.in1) (show X.A.in1.in1.in1.handled=none from rm.hd) (s.heap.objs.size+1) p hne (cK ks.length (fW vs)).toArray;rw[Cf]at W;refine PQ (T:="tuple") (it:={cls:=.type "tuple_iterator",data:=.fields #[.ref p,.int 0 0]}) (fW vs) (λi=>ks.getD i []) (dC dN ks) (by have:=rm.un;lia) hI.typeIs sub_tuple.1 sub_tuple.2 (by decide) (λB Q' E' hQ=>?_) W (λm=>?_) (λb hb=>?_) ⟨⟨{cls:=.type "tuple_iterator",data:=.fields #[.ref p,.int 0 0]},?_,rfl,rfl⟩,IsTup.push (items:=(cK ks.length (fW vs)).toArray) hb _⟩ (λi v hv=>?_) hU (λi hi=>?_) (λj hj=>AN I (ht.at_ hj).2) λh' tk kb hS Du k=>?_
 ·refine rz hb ?_;rw[<-hs1]at hQ;exact hQ
 ·rcases aw.mp m with z|m
  ·exact lg _ z.symm
  ·exact jj lp (cc.mp m)
 ·rw[cc.mp hb];exact jv _
 ·rw[<-hs1];exact az _ rfl
 ·have hi:i<ks.length:=by have:=(ff.mp hv).1;rwa [Cf]at this
  have:(cK ks.length (fW vs))[i]?=some (.ref (fW vs i)):=by simp[cK,hi]
  rw[Aa,this]at hv;exact(de hv).symm
 ·refine(oZ Dg _ _).mpr ?_;show ks.getD i []∈ks;simp[hi]
 ·obtain⟨o,es,ep,t,P⟩:=hS;refine⟨.ref s.heap.objs.size,_,I.laid (t':=tk) (o:=.frz o (.own 0)) k (aq _) ⟨P.obj,o,P.obj⟩,rfl,q _ o kb (I.hok.fresh (aq _)) ⟨es,ep,t,λh e=>P.at' e⟩ ⟨λz hz=>?_,λz hz=>?_,λz hz=>?_⟩⟩
  ·obtain⟨j,hj,rfl⟩:=Du.from_ z hz;exact(ht.at_ hj).2
  ·obtain⟨j,hj,rfl⟩:=Du.from_ z hz;show ks.getD j []∈ks;simp[hj]
  ·obtain⟨j,hj,rfl⟩:=kg hz;have:=Du.all j hj;simpa[hj]using this
theorem z2v(rm:Bx k X.A):Bi X (.type "set") (λxs H Q=>PX X xs H Q∨QA X xs H Q):=by
 intro pins s σ H xs us Q I rv h
 rcases h with h|h
 ·exact z2j rm pins s σ H xs us Q I rv h
 ·exact z2u rm pins s σ H xs us Q I rv h
def tS(x:Dv)(h:Hs):Option wo:=match x with
 |.ref i=>match getL h i with
  |some xs=>bU qC xs
  |none=>none
 |.tup xs=>bU qC xs
 |_=>none
def tT(x:Dv)(h:Hs):Rs Dv:=match tS x h with
 |some ks=>if(wR ks&&decide ((dC dN ks).length<64))=true then .ok (.ref h.length) (h++[.lst ((dC dN ks).map wQ)])else .bad
 |none=>.bad
theorem z2w(g:Good X G E k)(hg:Gl X "sorted")(hm:X.mg "sorted"=none)(hg2:Gl X "set")(hm2:X.mg "set"=none)(ha:dP X G E [e] aM)(he:ar [e] X.env=[(false,eval e X.env)]:=by rfl)(Eo:ar [Expr.Call (.Name "set" p2) [e] [] Cu] X.env=[(false,eval (.Call (.Name "set" p2) [e] [] Cu) X.env)]:=by rfl):
  aI X G E (.Call (.Name "sorted" p) [.Call (.Name "set" p2) [e] [] Cu] [] pos) (aB (f1 tT) aM):=λhK=>
 Gh (uV (z2l g.room) hg hm FK (kW (sR (z2v g.room) hg2 hm2 P5 (ha hK) (by decide) (by decide) he rfl) lS Eo) (by decide) (by decide) Eo rfl) λσ H Q⟨μ,ρ,h,rs,s,o⟩=>by
  refine kJ rs s o λμ1 ds h1 vs H1 x1 Bv s1 r1 o1=>?_;unfold f1 at o1
  split at o1
  ·rename_i d;obtain⟨v,rfl,rv⟩:=qU r1;unfold tT at o1
   cases q:tS d h1 with
   |none=>rw[q]at o1;exact o1.elim
   |some ks=>
    rw[q]at o1;dsimp only at o1
    split at o1
    ·rename_i h0;rw[cu]at h0;have h64:(dC dN ks).length<64:=by simpa using h0.2
     have fin:∀(l:ai)(o:Obj)(kb:KB),H1 l=none->AQ X.prog X.w l o kb->KbOk H1 kb ks->PY X [.ref l] (bI H1 l (.frz o (.own 0))) Q:=λl o kb hl so ko=>by have sm:=dQ (o:=.frz o (.own 0)) hl;refine⟨l,o,kb,ks,rfl,eR,so,⟨λp hp=>sm _ _ (ko.tup p hp),ko.frm,ko.all⟩,PZ h0.1,h64,λD Ct hD ht=>?_⟩;exact mP (E:=E) (s1.same sm) (F9 ht) hD (λμ' H' v x'=>o1 μ' H' v ((F' sm).trans x'))
     cases d with
     |ref i=>
      dsimp only[tS]at q
      cases q1:getL h1 i with
      |none=>rw[q1]at q;cases q
      |some xs=>rw[q1]at q;obtain⟨vs,e1,r2⟩:=s1.ob i _ (dW q1);obtain⟨_,rfl⟩:=rv;exact .inl ⟨_,vs,ks,rfl,e1,AR r2 q,by lia,fin⟩
     |tup xs=>obtain⟨a,vs,rfl,e1,r2⟩:=rv;exact .inr ⟨_,vs,ks,rfl,e1,AR r2 q,by lia,fin⟩
     |_=>cases q
    ·exact o1.elim
  ·exact o1.elim
end
theorem rP{α β:Type}{f g:α->Option β}:∀l:List α,(∀x∈l,f x=g x)->l.filterMap f=l.filterMap g
 |[],_=>rfl
 |x::l,h=>by rw[cw,cw,h x (by simp),rP l λy hy=>h y (by simp[hy])]
end L2.Mr
namespace L2.Mr.Com
def GC:MS:=(aL (dE (m1 (iG vY) (aA 0)) (m1 sY (m1 (iG vZ) (aA 0)))))
def qE:Ay:=aT 1 1 (GC)
def GD:MS:=(aL (dE (aB qE (aE (aA 0))) (kL gL gL (aA 1) (aA 0) (aA 2))))
def rQ:Ay:=aT 3 3 (GD)
def QB:MS:=(aL (mL kP (bA (aM tH (aJ (aA 0) (qD (aA 0) (pU (aF 1)) pT))) [none,none] (cV 2 (aW (aD 0) (aW (aD 1) cW))) bK (aU (m2 fH (aA 0) (aA 1))))))
def AU:Ay:=aT 1 1 (QB)
def QC:MS:=(aL (aB rQ (dD (aA 1) (aF 0) (m2 eX (aA 0) (aF 1)))))
def pB:Ay:=aT 2 2 (QC)
def QD:MS:=(aL (dE (m1 (iG rB) (aA 1)) (mL kP (bA (aY fP (aA 1)) [none,some 0] (aD 0) bK (aU (aB pB (aJ (aA 1) (aA 0))))))))
def wV:Ay:=aT 2 2 (QD)
def GF:MS:=(aL (dE (aB wV (aJ (aA 0) (aA 1))) (m2 cE (aB (f1 dU) (aE (aA 1))) (aF 2))))
def tU:Ay:=aT 2 2 (GF)
def QE:MS:=(aL (mL kP (bA (aY fP (aA 1)) [none,some 0] (aD 0) bK (aU (aB tU (aJ (aA 1) (aA 0)))))))
def AV:Ay:=aT 2 2 (QE)
def QF:MS:=(aL (mL vO (bA (aY fP (aA 0)) [none,none] (cV 2 (aW (aD 0) (aW (aD 1) cW))) bK (aU (m2 cE (aA 0) (aA 1))))))
def AW:Ay:=aT 1 1 (QF)
def QG:MS:=(aL (mL kP (bA (aY fP (aA 0)) [none,none,none,none,some 0] (cV 2 (aW (aD 0) (aW (aD 1) cW))) bK (dF (aY fP (aA 4)) (cV 2 (aW (aD 2) (aW (aD 3) cW))) (mB (m2 cE (aA 1) (aA 2))) (aU (m2 (cN false) (bH (aJ (aA 0) (aA 3))) (aA 4)))))))
def AX:Ay:=aT 1 1 (QG)
def QH:MS:=(aH (bP (gD (eN (cF (m1 (iG rB) (aA 0)))) (mB (m2 dR (aB (f1 dU) (aE (aA 0))) (aF 2)))) (aL (mC (.bl false))) cA) (aH (aK (aA 0) (cV 2 (aW (aD 1) (aW (aD 2) cW)))) (aH (bP (gD (eN (cF (aB rQ (dD (aA 1) (aF 1) (aF 6))))) (eN (cF (m1 (iG rB) (aA 2))))) (aL (mC (.bl false))) cA) (aH (bP (gD (eN (cF (aB AV (aJ (aA 1) (aA 2))))) (eN (cF (aB AU (aE (aA 2)))))) (aL (mC (.bl false))) cA) (aL (dE (m1 sY (aB AW (aE (aA 2)))) (aB AX (aE (aA 2)))))))))
def mE:Ay:=aT 1 3 (QH)
def AY(scr:y'):MS:=(aH (bP (mB (m2 fH (aA 1) (aB (f1 (iC scr)) (aE (aA 0))))) (aL (m2 (eO scr) (aA 0) (aA 1))) cA) (aL (aF 0)))
def wW(scr:y'):Ay:=aT 2 2 (AY scr)
def AZ(scr:y'):MS:=(aH (aK (aB (wW scr) (aJ (aA 0) (aA 1))) (aD 2)) (aH (bP (mB (m2 pW (aA 2) (m2 vW (aF 10) (aF 18)))) (aL (bY (aJ (m2 eX (aA 2) (m2 vW (aF 10) (aF 18))) (mC (.bl true))))) cA) (aL (bY (aJ (m2 jF (aA 2) (aF 2147483647)) (mC (.bl false)))))))
def rR(scr:y'):Ay:=aT 2 3 (AZ scr)
def GG:MS:=(aH (bP (cF (m2 aO (aA 0) (aF 1))) (aH (aK (m2 jF (m2 aO (aA 0) (aF 0)) (aA 1)) (aD 2)) (aH (vS (aA 0) (aF 0) (m2 rH (m2 aO (aA 0) (aF 0)) (aA 1))) (aL (aA 2)))) cA) (aH (vS (aA 0) (aF 0) (m2 jF (m2 cD (m2 pV (m2 aO (aA 0) (aF 0)) (aF 48271)) (aF 29)) (aF 2147483647))) (aH (aK (m2 jF (m2 cD (m2 cD (m2 pV (m2 aO (aA 0) (aF 0)) (m2 aO (aA 0) (aF 0))) (m2 pV (aF 39373) (m2 aO (aA 0) (aF 0)))) (aF 7)) (aF 2147483629)) (aD 3)) (aH (aK (m2 jF (m2 cD (m2 pV (aA 3) (aA 3)) (m2 pV (aF 16807) (aA 3))) (aF 2147483587)) (aD 3)) (aL (m2 jF (m2 rH (aA 3) (aF 8)) (aA 1)))))))
def dH:Ay:=aT 2 4 (GG)
end L2.Mr.Com
namespace L2
end L2
namespace L2.Mr
end L2.Mr
namespace L2.Mr.Cod
open L2.Mr.Com
def QI:MS:=(bP (eN (cF (aB rQ (dD (aA 0) (aA 1) (aA 2))))) (E3 1 [1,2]) cA)
def qF:Ay:=aT 3 3 (QI)
def mb_qx:MS:=(bP (eN (cF (aB mE (aE (aA 0))))) (vM 0 (aE (mC (.str "this is no order")))) cA)
def eJ:Ay:=aT 1 1 (mb_qx)
def nF:MS:=(aH (aK (m2 aO (aA 0) (aF 1)) (aD 3)) (aL (dE (m2 dR (aA 1) (aA 2)) (dE (m2 (cN true) (bH (aJ (aA 1) (aA 2))) (aA 3)) (m2 (cN true) (bH (aJ (aA 2) (aA 1))) (aA 3))))))
def eZ:Ay:=aT 3 4 (nF)
def GH:MS:=(aH (aK (aA 0) (cV 2 (aW (aD 2) (aW (aD 3) cW)))) (aH (aK (aX (bA (aY fP (aA 3)) [none,none] (cV 2 (aW (aD 0) (aW (aD 1) cW))) bK (aU (bH (dD (aA 0) (aA 1) (aF 1)))))) (aD 4)) (aH (aK (aX (bA (aM bT (aE (aA 2))) [none,none,some 1,some 0,some 2] (aD 0) bK (dF (aM bT (aE (aA 4))) (aD 1) (cF (aB eZ (dD (aA 3) (aA 0) (aA 1)))) (aU (bH (dD (aA 0) (aA 1) (m1 lF (aA 2)))))))) (aD 5)) (aL (m2 cD (aA 4) (aA 5))))))
def wX:Ay:=aT 2 6 (GH)
def GI:MS:=(aL (aX (bA (aM nB (aE (aA 0))) [none,none,some 1,some 0] (cV 2 (aW (aD 0) (aW (aD 1) cW))) bK (aU (aB (f1 (fV cY)) (aE (m2 cD (bY (aE (aA 1))) (aX (bA (aY bQ (aA 2)) [none,none,none,some 3,some 0] (cV 3 (aW (aD 0) (aW (aD 1) (aW (aD 2) cW)))) (mB (m2 cE (aA 1) (aA 4))) (aU (m2 cD (m2 aO (aA 3) (aA 0)) (aA 2))))))))))))
def wY:Ay:=aT 2 2 (GI)
def GJ:MS:=(aH (bV (aB eJ (aE (aA 0)))) (aH (bV (aB qF (dD (aA 1) (aF 0) (aF 5)))) (aH (aK (aB wX (aJ (aA 0) (aA 1))) (aD 2)) (aH (aK (m2 rF (bY (aE (aF 0))) (m2 aO (aA 0) (aF 0))) (aD 3)) (aH (jE (mB (m2 fH (aB (f1 (fV cY)) (aE (aA 3))) (m2 aO (aA 0) (aF 0)))) (aH (aK (aB wY (aJ (aA 3) (aA 2))) (aD 4)) (aH (bP (mB (m2 cE (aA 4) (aA 3))) (aL (aB (f1 lB) (aE (aA 3)))) cA) (aK (aA 4) (aD 3)))) 40) (aL (mC .non)))))))
def wZ:Ay:=aT 2 5 (GJ)
def GK:MS:=(aH (aK (aB (f1 nE) (aE (aA 1))) (aD 2)) (aH (aK (bY aQ) (aD 3)) (aH (jE (mB (m2 dR (aA 2) (bY aQ))) (bV (iU (aA 3) (vV (aA 2) (aB dH (aJ (aA 0) (aB (f1 dU) (aE (aA 2)))))))) 40) (aL (aB (f1 lB) (aE (aA 3)))))))
def A0:Ay:=aT 2 4 (GK)
def GL:MS:=(aH (aK (aB (f1 rD) (aE (aA 1))) (aD 2)) (aH (eW (aM bT (aE (aA 0))) (aD 3) (eW (aM bT (aE (aA 0))) (aD 4) (eW (aM bT (aE (aA 0))) (aD 5) (bP (iR (mB (m2 (cN false) (bH (aJ (aA 4) (aA 3))) (aA 2))) (iR (mB (m2 (cN false) (bH (aJ (aA 3) (aA 5))) (aA 2))) (mB (m2 (cN true) (bH (aJ (aA 4) (aA 5))) (aA 2))))) (bV (iU (aA 2) (bH (aJ (aA 4) (aA 5))))) cA)))) (aL (aB (f1 lB) (aE (aB (f1 tT) (aE (aA 2))))))))
def tV:Ay:=aT 2 6 (GL)
def GN:MS:=(aH (aK (m2 eX (aA 1) (m2 aO (bY (aR (aF 0) (aR (aF 0) (aR (aF 1) (aR (aF 0) (jX (aF 2) (aF 1) (aF 3) (m2 eX (aA 1) (aF 1)))))))) (aB dH (aJ (aA 0) (aF 8))))) (aD 2)) (aH (aK (aB oR (aJ (aF 1) (aA 2))) (aD 2)) (aH (aK (aB A0 (aJ (aA 0) (aA 2))) (aD 3)) (aH (aK (aB dH (aJ (aA 0) (aF 5))) (aD 4)) (aH (aK (aX (bA (aY fP (aA 3)) [none,some 0] (aD 0) bK (aU (aB dH (aJ (aA 1) (aF 3)))))) (aD 5)) (aH (aK (bY aQ) (aD 6)) (aH (eW (aM bT (aE (aA 2))) (aD 7) (eW (aM iE (aJ (m2 cD (aA 7) (aF 1)) (aA 2))) (aD 8) (aH (aK (m2 fH (aB dH (aJ (aA 0) (aF 4))) (m2 aO (bY (dD (aF 1) (aF 2) (aF 3))) (m2 jF (aA 4) (aF 3)))) (aD 9)) (aH (bP (mB (m2 cE (aA 4) (aF 3))) (aK (m2 cE (m2 aO (aA 5) (aA 7)) (m2 aO (aA 5) (aA 8))) (aD 9)) cA) (aH (bP (mB (m2 cE (aA 4) (aF 4))) (aK (m2 fH (m2 aO (aA 5) (aA 7)) (m2 aO (aA 5) (aA 8))) (aD 9)) cA) (bP (cF (aA 9)) (bV (iU (aA 6) (bH (aJ (m2 aO (aA 3) (aA 7)) (m2 aO (aA 3) (aA 8)))))) cA)))))) (aL (bH (aJ (aA 2) (aB tV (aJ (aA 2) (aA 6)))))))))))))
def tW:Ay:=aT 2 10 (GN)
end L2.Mr.Cod
namespace L2.Mr
def tX(i j:Nat)(ma:M Az ):MS:=λρ h=>(ma ρ h).thenS λds h1=>match ds with
 |[a,b]=>.nx ((ρ.set i (some a)).set j (some b)) h1
 |_=>.bad
section
variable{X:Cx}{G:Cfg}{E:XK}{pos:Pos}
theorem z2x{i j:Nat}{x y:Str}{a b:bq}{ma:M Az}{px py pt:Pos}{kt k2 pt2}(hc:X.calm=true)(hN:X.N.Nodup)(hi:X.N[i]?=some x)(hj:X.N[j]?=some y)(Cw:i≠j)(hx:X.env.scope.names.lookup x=some .local)(hy:X.env.scope.names.lookup y=some .local)(ha:dP X G E [a,b] ma)(hw:swappedStores [.Tuple [.Name x px,.Name y py] kt pt] (.Tuple [a,b] k2 pt2) X.env=pure (some [x,y]):=by rfl)(hs:swapsWithSole [.Tuple [.Name x px,.Name y py] kt pt] (.Tuple [a,b] k2 pt2) pos.line X.env=pure false:=by rfl):
  iD X G E (.Assign [.Tuple [.Name x px,.Name y py] kt pt] (.Tuple [a,b] k2 pt2) pos) (tX i j ma):=λhK=>PS.imp (WM hc hN hi hj Cw hx hy (ha hK) hw hs) λD σ H⟨μ,ρ,h,rs,s,o⟩=>
 ⟨μ,ρ,h,rs,s,(o.thenS (R:=RelDL G)).mono λvs H1⟨μ1,ds,h1,x1,s1,r1,o1⟩=>by
  match ds,r1,o1 with
  |[d1,d2],r1,o1=>obtain⟨v1,vs1,rfl,p,q⟩:=r1;obtain⟨v2,vs2,rfl,p',q'⟩:=q;rw[RelDL]at q';subst q';exact⟨_,_,rfl,o1 μ1 H1 _ Ge s1 (((rs.mono x1).set i p).set j p')⟩
  |[],_,o1=>exact o1.elim
  |[_],_,o1=>exact o1.elim
  |_::_::_::_,_,o1=>exact o1.elim⟩
end
def qG:M Dv:=λ_ _=>.bad
def A1(f:bq->M Dv):List bq->M Az 
 |[]=>aQ
 |e::es=>aR (f e) (A1 f es)
def rT(lk:Str->Option Nat):Nat->bq->M Dv
 |0,_=>qG
 |n+1,e=>match e with
  |.Constant c _ _=>match c with
   |.int i=>aF i
   |.bool b=>mC (.bl b)
   |.none=>mC .non
   |.str x=>mC (.str x)
   |_=>qG
  |.Tuple es _ _=>bH (A1 (rT lk n) es)
  |.List es _=>bY (A1 (rT lk n) es)
  |.Dict [] [] _=>mC .edc
  |.Name x _=>match lk x with
   |some i=>aA i
   |none=>qG
  |.UnaryOp .USub a _=>m1 lF (rT lk n a)
  |_=>qG
def QJ(e:bq):Prop:=∀es env,ar (e::es) env=(false,eval e env)::ar es env
section
variable{X:Cx}{G:Cfg}{E:XK}{lk:Str->Option Nat}
theorem A2{e:bq}:aI X G E e qG:=λ_ pins s σ H Q _⟨_,_,_,_,_,o⟩=>o.elim
theorem z2y{e:bq}{es:List bq}{ms:M Az}:dP X G E (e::es) (aR qG ms):=λ_ pos pins s σ H Q _⟨_,_,_,_,_,o⟩=>o.elim
theorem GO{f:bq->M Dv}(hf:∀e,aI X G E e (f e)/\(QJ e∨f e=qG)):∀es,dP X G E es (A1 f es)
 |[]=>lU
 |e::es=>by
  obtain⟨a,b|b⟩:=hf e
  ·exact jA a (GO hf es) (b es X.env)
  ·show dP X G E (e::es) (aR (f e) _);rw[b];exact z2y
theorem A3(hv:∀x i pos,lk x=some i->aI X G E (.Name x pos) (aA i)):∀n e,aI X G E e (rT lk n e)/\(QJ e∨rT lk n e=qG)
 |0,_=>⟨A2,.inr rfl⟩
 |n+1,e=>by
  unfold rT
  split
  ·split
   ·exact⟨aS,.inl λ_ _=>rfl⟩
   ·exact⟨kK,.inl λ_ _=>rfl⟩
   ·exact⟨EJ,.inl λ_ _=>rfl⟩
   ·exact⟨sW,.inl λ_ _=>rfl⟩
   ·exact⟨A2,.inr rfl⟩
  ·exact⟨eM (GO (A3 hv n) _),.inl λ_ _=>rfl⟩
  ·exact⟨jP (GO (A3 hv n) _),.inl λ_ _=>rfl⟩
  ·exact⟨v5,.inl λ_ _=>rfl⟩
  ·rename_i x pos
   split
   ·rename_i i q;exact⟨hv x i pos q,.inl λ_ _=>rfl⟩
   ·exact⟨A2,.inr rfl⟩
  ·exact⟨vX (A3 hv n _).1,.inl λ_ _=>rfl⟩
  ·exact⟨A2,.inr rfl⟩
theorem GP(n:Nat){e:bq}{m:M Dv}(h:rT (λ_=>none) n e=m:=by rfl):aI X G E e m:=h▸(A3 (λ_ _ _ h=>by cases h) n e).1
end
open SR
abbrev GQ(acc:List af)(c:Nat):Obj:={cls:=.type "list",dict:=none,data:=.seq acc.toArray c,slots:=#[]}
open PySem.SeqAt PySem.MeetsSeq PySem.MeetsSeq2 PySem.MeetsSeq3
end L2.Mr
namespace L2.Mr.K60
open L2.Mr.Cod
open L2.Mr.Com
def kC:MS:=(aL (m1 lF (m2 rH (m1 lF (aA 0)) (aA 1))))
def iK:Ay:=aT 2 2 (kC)
end L2.Mr.K60
namespace L2.Mr
theorem z2z(a d:af):argsOk "max" ⟨[a],[("default",d)]⟩:=by unfold argsOk;kernel_rfl
section
variable{prog:bj}{w:cn}{A:cq}{I S:ai}{fp wr:List ai}{n:Nat}{P:Nat->af->Prop}{St:Nat->cy->Prop}{R:xa->ag->Prop}{ky:Nat->Int}{d:af}
abbrev pC:Int->Int->Bool:=λa b=>decide (a>b)
def QK(P:Nat->af->Prop)(ky:Nat->Int)(k:Nat)(acc:List af):Prop:=match k with
 |0=>acc=[]
 |k+1=>∃i v,P i v/\ky i=gF pC ky k/\acc=[v,v]
theorem z30(W:Walks prog w A.in1 I fp wr n P St)(hc:CmpOf prog w A.in1 .Gt P (λi j=>pC (ky i) (ky j)))(hS:S∉fp):
  ∀(m k:Nat)(s:ag)(acc:List af)(c:Nat),k+m=n->St k s.heap->s.heap.get? S=some (GQ acc c)->QK P ky k acc->
   (∀v h' tk,(n=0/\v=d∨∃i p,P i v/\n=p+1/\ky i=gF pC ky p)->(∀b o,b∉wr->b≠S->s.heap.get? b=some o->h'.get? b=some o)->R (.ok (.ret v)) {s with heap:=h',toks:=tk})->
   codeAny (model prog w) A (.builtin "max.loop" ⟨[.ref I,.none,.ref S],[("default",d)]⟩) R s:=by
 have hw:S∉wr:=λh=>hS (W.sub _ h);have nm:(toString "max"++toString ".loop":String)="max.loop":=by decide
 have oth:∀(h:cy)(f:Array af->Array af)b o,b≠S->h.get? b=some o->(h.update S (oa f)).get? b=some o:=λh f b o hb q=>(ll _ _ (dk hb)).trans q;intro m
 induction m with
 |zero=>
  intro k s acc c e st eS b fin;obtain rfl:k=n:=by lia
  refine ki F.entry_max_loop ?_;rw[jb F.plain_max_loop _];refine ae (m:=seqItems? (.ref S)) (jc eS rfl (ae (Ab (W.done s _ _ st λh' tk kk=>?_))))
  cases k with
  |zero=>obtain rfl:acc=[]:=b;exact ae (om (aj (fin d h' tk (.inl ⟨rfl,rfl⟩) λb o hb _ q=>kk b o hb q)))
  |succ k=>obtain⟨i,v,pv,ev,rfl⟩:=b;have eS':=kk S _ hw eS;refine ae (m:=updateSeq S λ_=>#[]) (ze eS' rfl (ae (qp (aj ?_))) (by show 2<=cg;decide) (by show 0<=cg+1;lia));exact fin v _ tk (.inr ⟨i,k,pv,rfl,ev⟩) λb o hb hs q=>oth _ _ b o hs (kk b o hb q)
 |succ m ih=>
  intro k s acc c e st eS b fin;refine ki F.entry_max_loop ?_;rw[jb F.plain_max_loop _];refine ae (m:=seqItems? (.ref S)) (jc eS rfl (ae (Ab (W.item k s _ _ (by lia) st λx h' tk px Dd kk=>?_))));have eS':=kk S _ hw eS;have go:∀(g:cy)(t:Nat)(De:List af)(c':Nat),g.get? S=some (GQ De c')->QK P ky (k+1) De->(∀b o,b≠S->h'.get? b=some o->g.get? b=some o)->
    wpAny (model prog w) A.in1 (again (.builtin (toString "max"++toString ".loop") ⟨[.ref I,.none,.ref S],[("default",d)]⟩)) (λf s'=>match f with|.done f=>R (.ok f) s'|.again c'=>c'.quiet=true/\codeAny (model prog w) A c' R s') (λe s'=>R (.error e) s') {s with heap:=g,toks:=t}:=λg t De c' eg b' og=>by
   rw[nm];refine aj ⟨uf F.plain_max_loop _,ih (k+1) _ De c' (by lia) (W.frame _ _ _ Dd λb hb o q=>og b o (λz=>hS (z▸hb)) q) eg b' λv h'' tk'' hv k''=>?_⟩;exact fin v h'' tk'' hv λb o hb hs q=>k'' b o hb hs (og b o hs (kk b o hb q))
  cases k with
  |zero=>obtain rfl:acc=[]:=b;refine ae (m:=updateSeq S λ_=>#[x,x]) (ze eS' rfl ?_ (by show 0<=cg;lia) (by show 2<=cg+1;decide));exact go _ _ [x,x] _ (kl _ eS' rfl) ⟨0,x,px,rfl,rfl⟩ λb o hb q=>oth _ _ b o hb q
  |succ k=>
   obtain⟨i,v,pv,ev,rfl⟩:=b;refine ae (aj (ae (Ab (fe (ae (hc (k+1) i x v _ _ _ px pv (ae (fe (jn (ae (qp (aj ?_))))))))))));have best:gF pC ky (k+1)=if pC (ky (k+1)) (ky i)=true then ky (k+1)else ky i:=by rw[gF,<-ev]
   cases hb:pC (ky (k+1)) (ky i)with
   |true=>rw[hb,if_pos rfl]at best;rw[if_pos (show(λi j=>pC (ky i) (ky j)) (k+1) i=true from hb)];refine ae (m:=updateSeq S λ_=>#[x,x]) (ze eS' rfl (ae (qp ?_)) (by show 2<=cg;decide) (by show 2<=cg+1;decide));exact go _ _ [x,x] _ (kl _ eS' rfl) ⟨k+1,x,px,best.symm,rfl⟩ λb o hb q=>oth _ _ b o hb q
   |false=>rw[hb,if_neg (by decide)]at best;rw[if_neg (show ¬(λi j=>pC (ky i) (ky j)) (k+1) i=true from by rw[show(λi j=>pC (ky i) (ky j)) (k+1) i=false from hb];decide)];refine ae (qp ?_);exact go _ _ [v,v] _ eS' ⟨i,v,pv,best.symm,rfl⟩ λb o _ q=>q
end
section
variable{X:Cx}{G:Cfg}{E:XK}{e:bq}{ml:M Az}{p pos kpos:Pos}
theorem z31(hc:X.calm=true){pins:List (ai×Obj)}{s:ag}{σ:St}{H:Hp}{Q:VK}{q:ai}{ns:y'}{dv:Int}{t0:Tok}(I:Inv X pins σ H s)(hp:H q=some (.lst (ns.map Ga)))(k:Q (.int (if ns=[]then dv else cY ns)) H):
  wpAny (model X.prog X.w) X.A (call (.builtin "max") [.ref q] [("default",.int dv t0)]) (EP X pins σ Q) X.xe s:=by
 obtain⟨its,rits,pl,hz⟩:=I.list (Gi hp);have hn:its.toArray.size=ns.length:=by have:=rits.length;simp at this⊢;lia
 have lp:=I.hok.lt hp;have nm:(toString "max"++toString ".loop":String)="max.loop":=by decide
 have hh:X.A.in1.handled=none:=I.ok.hd hc;refine wpAny_call (qo F.plain_max F.entry_max ?_);have ck:checkBuiltinCall "max" ⟨[.ref q],[("default",.int dv t0)]⟩=pure ():=by
  have a:=z2z (.ref q) (.int dv t0);unfold argsOk at a;unfold checkBuiltinCall;rw[F.kind_max]
  revert a
  cases Manifest.signature? "max" with
  |none=>intro _;rfl
  |some sg=>intro a;exact a
 refine sy ck ?_;have bp:uj "max" ["key","default"] 0 ⟨[],[("default",.int dv t0)]⟩=pure [none,some (.int dv t0)]:=by kernel_rfl
 refine ae (m:=uj "max" ["key","default"] 0 ⟨[],[("default",.int dv t0)]⟩) (sy bp (ae (aj (ae (jo pl.isList (ae (fj ?_)))))));rw[nm];have ne1:q≠s.heap.objs.size:=bc lp;have W:=ow (prog:=X.prog) (w:=X.w) (A:=X.A.in1) hh s.heap.objs.size q ne1 its.toArray;rw[hn]at W;generalize hit:({cls:=.type "list_iterator",data:=.fields #[.ref q,.int 0 0]}:Obj)=it;have e1:(s.heap.push it).get? s.heap.objs.size=some it:=az _ (by rw[<-hit];rfl);have s1:(s.heap.push it).objs.size=s.heap.objs.size+1:=uv _ _;have eS:((s.heap.push it).push {cls:=.type "list",dict:=none,data:=.seq ([]:List af).toArray}).get? (s.heap.objs.size+1)=some (GQ [] 0):=by rw[<-s1];exact az _ rfl
 have l1:((s.heap.push it).push {cls:=.type "list",dict:=none,data:=.seq ([]:List af).toArray}).IsList q its.toArray:=(pl.isList.push _).push _;have st:((s.heap.push it).push {cls:=.type "list",dict:=none,data:=.seq ([]:List af).toArray}).get? s.heap.objs.size=some it:=ao _ e1;have kp:∀b o,s.heap.get? b=some o->((s.heap.push it).push {cls:=.type "list",dict:=none,data:=.seq ([]:List af).toArray}).get? b=some o:=λb o e=>ao _ (ao _ e);rw[s1];generalize ((s.heap.push it).push {cls:=.type "list",dict:=none,data:=.seq ([]:List af).toArray})=g at eS l1 st kp;refine aj ⟨uf F.plain_max_loop _,z30 (ky:=λi=>ns.getD i 0) W (CmpOf.ints_gt (λi=>ns.getD i 0) (λi v ev=>pY rits ev)) ?_ ns.length 0 {s with heap:=g} [] 0 (by lia) ⟨⟨it,st,by rw[<-hit],by rw[<-hit];rfl⟩,l1⟩ eS rfl λv h' tk hv kk=>?_⟩
 ·intro m
  rcases aw.mp m with z|z
  ·exact lg _ z
  ·exact jj (fi lp) (cc.mp z)
 ·have I':Inv X pins σ H {s with heap:=h',toks:=tk}:=I.kept (t':=tk) λb o e=>by have lt:=ay e;exact kk b o (λm=>bc lt (cc.mp m)) (bc (fi lt)) (kp b o e)
  rcases hv with⟨h0,rfl⟩|⟨i,p,pv,hp1,hb⟩
  ·have:ns=[]:=jy.mp h0;rw[if_pos this]at k;exact⟨.int dv,H,I',⟨t0,rfl⟩,k⟩
  ·have hne:ns≠[]:=λz=>by rw[z]at hp1;cases hp1
   rw[if_neg hne]at k;obtain⟨t',rfl⟩:=pY rits pv;refine⟨.int (cY ns),H,I',⟨t',?_⟩,k⟩;rw[hb,cY,hp1];rfl
def rV(dv:Int)(x:Dv)(h:Hs):Rs Dv:=match x with
 |.ref i=>match getL h i with
  |some xs=>match bU eY xs with
   |some ns=>.ok (.int (if ns=[]then dv else cY ns)) h
   |none=>.bad
  |none=>.bad
 |_=>.bad
theorem z32{me:M Dv}{dv:Int}{cj:Nat}{cpos:Pos}(hc:X.calm=true)(hg:Gl X "max")(hm:X.mg "max"=none)(he:aI X G E e me)(h1:backTo pos (ar [e] X.env)=(false,eval e X.env)::backTo pos (ar [] X.env):=by rfl)(h2:(backTo pos (ar [e] X.env)).any (·.1)=false:=by rfl):
  aI X G E (.Call (.Name "max" p) [e] [⟨some "default",.Constant (.int dv) cj cpos,kpos⟩] pos) (m1 (rV dv) me):=λhK pins s σ H Q I⟨μ,ρ,h,rs,sm,o⟩=>by
 refine sd (oH I hg hm ES (callWith_kw ?_ h1 h2));rw[h1];refine Al (bF (he hK pins s σ H _ I ⟨μ,ρ,h,rs,sm,Out.bind (R1:=Be G) o⟩) λu s1⟨v,H1,I1,r1,μ1,x,h1',x1,sm1,rx,o1⟩=>Calls.spliced_nil (kws_cons (bF (JW pins s1 σ H1 (λv H=>v=.int dv/\H=H1) I1 ⟨rfl,rfl⟩) λu2 s2⟨v2,H2,I2,r2,e2,e3⟩=>kws_nil ?_)));subst e2 e3;obtain⟨t0,rfl⟩:=r2
 cases x with
 |ref i=>
  dsimp only[rV]at o1
  cases q1:getL h1' i with
  |none=>rw[q1]at o1;exact o1.elim
  |some xs=>
   rw[q1]at o1;dsimp only at o1
   cases q2:bU eY xs with
   |none=>rw[q2]at o1;exact o1.elim
   |some ns=>rw[q2]at o1;obtain⟨vs,ea,ra⟩:=sm1.ob i _ (dW q1);obtain⟨_,rfl⟩:=rx;cases r1;exact z31 hc I2 (by rw[ea,mZ ra q2]) (o1.val sm1 rfl)
 |_=>exact o1.elim
end
open SR
open PySem.SeqAt PySem.MeetsSeq PySem.MeetsSeq2 PySem.MeetsSeq3
theorem z33{h:cy}{a:ai}{vs:List af}{out:Array af}{n:Nat}(ho:h.get? a=some (seqObj "list" vs.toArray n)):∃ep,(sortedHeap h a vs out).get? a=some (seqObj "list" out ep):=by have e1:=oj ho λ_=>#[];have e2:=ao (seqObj "list" #[] 0) (ao (seqObj "tuple" vs.toArray 0) e1);exact⟨_,oj e2 λ_=>out⟩
theorem z34{h:cy}{a b:ai}{vs:List af}{out:Array af}{o:Obj}(hb:b≠a)(e:h.get? b=some o):(sortedHeap h a vs out).get? b=some o:=by unfold sortedHeap;rw[kh _ _ _ _ hb];refine ao _ (ao _ ?_);rw[kh _ _ _ _ hb];exact e
end L2.Mr
namespace L2.Mr.K05
open L2.Mr.Com
def mb_qx:MS:=(bP (eN (cF (aB mE (aE (aA 0))))) (vM 0 (aE (mC (.str "this is no order")))) cA)
def eJ:Ay:=aT 1 1 (mb_qx)
def nF:MS:=(aH (aK (m2 aO (aA 0) (aF 1)) (aD 3)) (aL (dE (m2 dR (aA 1) (aA 2)) (dE (m2 (cN true) (bH (aJ (aA 1) (aA 2))) (aA 3)) (m2 (cN true) (bH (aJ (aA 2) (aA 1))) (aA 3))))))
def eZ:Ay:=aT 3 4 (nF)
def jU:MS:=(aH (bV (aB eJ (aE (aA 0)))) (aH (aK (m2 aO (aA 0) (aF 0)) (aD 1)) (aL (aX (bA (aM bT (aE (aA 1))) [none,none,some 0,some 1] (aD 0) bK (dF (aM iE (aJ (m2 cD (aA 0) (aF 1)) (aA 3))) (aD 1) (cF (aB eZ (dD (aA 2) (aA 0) (aA 1)))) (aU (bH (aJ (aA 0) (aA 1))))))))))
def iL:Ay:=aT 1 2 (jU)
def nG:MS:=(aL (aB (f1 pR) (aE (m2 eX (lZ (aA 0) (m2 aO (aA 1) (aF 0))) (lZ (aA 0) (m2 aO (aA 1) (aF 1)))))))
def mF:Ay:=aT 2 2 (nG)
def nI:MS:=(aL (m1 (rV 0) (aX (bA (aY bQ (aA 1)) [none,some 0] (aD 0) bK (aU (aB mF (aJ (aA 1) (aA 0))))))))
def mG:Ay:=aT 2 2 (nI)
end L2.Mr.K05
namespace L2.Mr
def rW:MS:=λ_ _=>.bad
theorem A4{X:Cx}{G:Cfg}{E:XK}{st:fv}:iD X G E st rW:=λ_ _ _ _ _ _ _⟨_,_,_,_,_,o⟩=>o.elim
end L2.Mr
namespace L2.Mr.K82
open L2.Mr.Com
def mb_qx:MS:=(bP (eN (cF (aB mE (aE (aA 0))))) (vM 0 (aE (mC (.str "this is no order")))) cA)
def eJ:Ay:=aT 1 1 (mb_qx)
def lL:MS:=(bP (mB (m2 qZ (aA 0) (aF 6))) rW cA)
def jH:Ay:=aT 1 1 (lL)
def nF:MS:=(aH (aK (m2 aO (aA 0) (aF 1)) (aD 3)) (aL (dE (m2 dR (aA 1) (aA 2)) (dE (m2 (cN true) (bH (aJ (aA 1) (aA 2))) (aA 3)) (m2 (cN true) (bH (aJ (aA 2) (aA 1))) (aA 3))))))
def eZ:Ay:=aT 3 4 (nF)
def jU:MS:=(aH (bV (aB eJ (aE (aA 0)))) (aH (aK (m2 aO (aA 0) (aF 0)) (aD 1)) (aL (aX (bA (aM bT (aE (aA 1))) [none,none,some 0,some 1] (aD 0) bK (dF (aM iE (aJ (m2 cD (aA 0) (aF 1)) (aA 3))) (aD 1) (cF (aB eZ (dD (aA 2) (aA 0) (aA 1)))) (aU (bH (aJ (aA 0) (aA 1))))))))))
def iL:Ay:=aT 1 2 (jU)
def nJ:MS:=(aH (aK (aA 0) (cV 2 (aW (aD 2) (aW (aD 3) cW)))) (aH (aK (aX (bA (aY fP (aA 3)) [none,none,some 1] (cV 2 (aW (aD 0) (aW (aD 1) cW))) (mB (m2 (cN true) (aA 0) (aA 2))) (aU (aA 1)))) (aD 4)) (aL (aX (bA (aM bT (aE (aA 2))) [none,some 1,some 4] (aD 0) (iR (mB (m2 (cN true) (aA 0) (aA 1))) (mB (m2 (cN true) (aA 0) (aA 2)))) (aU (aA 0)))))))
def lM:Ay:=aT 2 5 (nJ)
def nK:MS:=(aH (bV (aB eJ (aE (aA 0)))) (aH (aK (bY (aE (bH aQ))) (aD 1)) (aH (eW (aM bT (aE (m2 aO (aA 0) (aF 0)))) (aD 2) (aK (aX (bA (aY bQ (aA 1)) [none,none,some 0] (aD 0) bK (dF (aY bQ (aB lM (aJ (aA 2) (aA 0)))) (aD 1) bK (aU (m2 cD (aA 0) (bH (aE (aA 1)))))))) (aD 1))) (aL (aA 1)))))
def kS:Ay:=aT 1 3 (nK)
def nG:MS:=(aL (aB (f1 pR) (aE (m2 eX (lZ (aA 0) (m2 aO (aA 1) (aF 0))) (lZ (aA 0) (m2 aO (aA 1) (aF 1)))))))
def mF:Ay:=aT 2 2 (nG)
def nI:MS:=(aL (m1 (rV 0) (aX (bA (aY bQ (aA 1)) [none,some 0] (aD 0) bK (aU (aB mF (aJ (aA 1) (aA 0))))))))
def mG:Ay:=aT 2 2 (nI)
def qH:MS:=(aH (aK (aB iL (aE (aA 0))) (aD 1)) (aL (aX (bA (aY bQ (aB kS (aE (aA 0)))) [none,some 1] (aD 0) bK (aU (bH (aJ (aA 0) (aB mG (aJ (aA 0) (aA 1))))))))))
def nM:Ay:=aT 1 2 (qH)
def tY:MS:=(aL (aB (f1 (fV hJ)) (aE (aX (bA (aY bQ (aB nM (aE (aA 0)))) [none,none] (cV 2 (aW (aD 0) (aW (aD 1) cW))) bK (aU (aA 1)))))))
def jV:Ay:=aT 1 1 (tY)
end L2.Mr.K82
namespace L2.Mr
open PySem.Calls
end L2.Mr
namespace L2.Mr.Sam
open L2.Mr.Com
end L2.Mr.Sam
namespace L2.Mr
end L2.Mr
namespace L2.Mr.K04
open L2.Mr.Com
open L2.Mr.Sam
def mb_qx:MS:=L2.Mr.K05.mb_qx
def eJ:Ay:=aT 1 1 (mb_qx)
def nJ:MS:=(aH (aK (aA 0) (cV 2 (aW (aD 2) (aW (aD 3) cW)))) (aH (aK (aX (bA (aY fP (aA 3)) [none,none,some 1] (cV 2 (aW (aD 0) (aW (aD 1) cW))) (mB (m2 (cN true) (aA 0) (aA 2))) (aU (aA 1)))) (aD 4)) (aL (aX (bA (aM bT (aE (aA 2))) [none,some 1,some 4] (aD 0) (iR (mB (m2 (cN true) (aA 0) (aA 1))) (mB (m2 (cN true) (aA 0) (aA 2)))) (aU (aA 0)))))))
def lM:Ay:=aT 2 5 (nJ)
def nK:MS:=(aH (bV (aB eJ (aE (aA 0)))) (aH (aK (bY (aE (bH aQ))) (aD 1)) (aH (eW (aM bT (aE (m2 aO (aA 0) (aF 0)))) (aD 2) (aK (aX (bA (aY bQ (aA 1)) [none,none,some 0] (aD 0) bK (dF (aY bQ (aB lM (aJ (aA 2) (aA 0)))) (aD 1) bK (aU (m2 cD (aA 0) (bH (aE (aA 1)))))))) (aD 1))) (aL (aA 1)))))
def kS:Ay:=aT 1 3 (nK)
end L2.Mr.K04
namespace L2.Mr
end L2.Mr
namespace L2.Mr.K06
open L2.Mr.Com
open L2.Mr.Sam
def mb_qx:MS:=(bP (eN (cF (aB mE (aE (aA 0))))) (vM 0 (aE (mC (.str "this is no order")))) cA)
def eJ:Ay:=aT 1 1 (mb_qx)
def nF:MS:=(aH (aK (m2 aO (aA 0) (aF 1)) (aD 3)) (aL (dE (m2 dR (aA 1) (aA 2)) (dE (m2 (cN true) (bH (aJ (aA 1) (aA 2))) (aA 3)) (m2 (cN true) (bH (aJ (aA 2) (aA 1))) (aA 3))))))
def eZ:Ay:=aT 3 4 (nF)
def jU:MS:=(aH (bV (aB eJ (aE (aA 0)))) (aH (aK (m2 aO (aA 0) (aF 0)) (aD 1)) (aL (aX (bA (aM bT (aE (aA 1))) [none,none,some 0,some 1] (aD 0) bK (dF (aM iE (aJ (m2 cD (aA 0) (aF 1)) (aA 3))) (aD 1) (cF (aB eZ (dD (aA 2) (aA 0) (aA 1)))) (aU (bH (aJ (aA 0) (aA 1))))))))))
def iL:Ay:=aT 1 2 (jU)
def nJ:MS:=(aH (aK (aA 0) (cV 2 (aW (aD 2) (aW (aD 3) cW)))) (aH (aK (aX (bA (aY fP (aA 3)) [none,none,some 1] (cV 2 (aW (aD 0) (aW (aD 1) cW))) (mB (m2 (cN true) (aA 0) (aA 2))) (aU (aA 1)))) (aD 4)) (aL (aX (bA (aM bT (aE (aA 2))) [none,some 1,some 4] (aD 0) (iR (mB (m2 (cN true) (aA 0) (aA 1))) (mB (m2 (cN true) (aA 0) (aA 2)))) (aU (aA 0)))))))
def lM:Ay:=aT 2 5 (nJ)
def nK:MS:=(aH (bV (aB eJ (aE (aA 0)))) (aH (aK (bY (aE (bH aQ))) (aD 1)) (aH (eW (aM bT (aE (m2 aO (aA 0) (aF 0)))) (aD 2) (aK (aX (bA (aY bQ (aA 1)) [none,none,some 0] (aD 0) bK (dF (aY bQ (aB lM (aJ (aA 2) (aA 0)))) (aD 1) bK (aU (m2 cD (aA 0) (bH (aE (aA 1)))))))) (aD 1))) (aL (aA 1)))))
def kS:Ay:=aT 1 3 (nK)
def nG:MS:=(aL (aB (f1 pR) (aE (m2 eX (lZ (aA 0) (m2 aO (aA 1) (aF 0))) (lZ (aA 0) (m2 aO (aA 1) (aF 1)))))))
def mF:Ay:=aT 2 2 (nG)
def nI:MS:=(aL (m1 (rV 0) (aX (bA (aY bQ (aA 1)) [none,some 0] (aD 0) bK (aU (aB mF (aJ (aA 1) (aA 0))))))))
def mG:Ay:=aT 2 2 (nI)
def qH:MS:=(aH (aK (aB iL (aE (aA 0))) (aD 1)) (aL (aX (bA (aY bQ (aB kS (aE (aA 0)))) [none,some 1] (aD 0) bK (aU (bH (aJ (aA 0) (aB mG (aJ (aA 0) (aA 1))))))))))
def nM:Ay:=aT 1 2 (qH)
def tY:MS:=(aL (aB (f1 (fV hJ)) (aE (aX (bA (aY bQ (aB nM (aE (aA 0)))) [none,none] (cV 2 (aW (aD 0) (aW (aD 1) cW))) bK (aU (aA 1)))))))
def jV:Ay:=aT 1 1 (tY)
end L2.Mr.K06
namespace L2.Mr
end L2.Mr
namespace L2
end L2
namespace SR
open PySem PySem.Spec PySem.W PyProof.Rows SM
end SR
namespace L2.Mr
open SR
theorem z35(elt tg iter Bz Bh Di Bp:bq)(ifs Bn B':List bq)(sc:gf)(ps:Pos)(it:af)(D:ai)(env:Env):
  compTurn (.ListComp elt [⟨tg,iter,ifs,0⟩,⟨Bz,Bh,Bn,0⟩,⟨Di,Bp,B',0⟩] sc ps) 0 it (.ref D) env=
   jM iter.pos it tg ifs env (kX Bh (.ListComp elt [⟨tg,iter,ifs,0⟩,⟨Bz,Bh,Bn,0⟩,⟨Di,Bp,B',0⟩] sc ps) 1 D env) (.compLoop (.ListComp elt [⟨tg,iter,ifs,0⟩,⟨Bz,Bh,Bn,0⟩,⟨Di,Bp,B',0⟩] sc ps) 0 it (.ref D) env):=by
 unfold jM kX;simp only[bind_assoc,pure_bind];rfl
theorem z36(elt tg iter Bz Bh Di Bp:bq)(ifs Bn B':List bq)(sc:gf)(ps:Pos)(it:af)(D:ai)(env:Env):
  compTurn (.ListComp elt [⟨tg,iter,ifs,0⟩,⟨Bz,Bh,Bn,0⟩,⟨Di,Bp,B',0⟩] sc ps) 1 it (.ref D) env=
   jM Bh.pos it Bz Bn env (kX Bp (.ListComp elt [⟨tg,iter,ifs,0⟩,⟨Bz,Bh,Bn,0⟩,⟨Di,Bp,B',0⟩] sc ps) 2 D env) (.compLoop (.ListComp elt [⟨tg,iter,ifs,0⟩,⟨Bz,Bh,Bn,0⟩,⟨Di,Bp,B',0⟩] sc ps) 1 it (.ref D) env):=by
 unfold jM kX;simp only[bind_assoc,pure_bind];rfl
theorem z37(elt tg iter Bz Bh Di Bp:bq)(ifs Bn B':List bq)(sc:gf)(ps:Pos)(it:af)(D:ai)(env:Env):
  compTurn (.ListComp elt [⟨tg,iter,ifs,0⟩,⟨Bz,Bh,Bn,0⟩,⟨Di,Bp,B',0⟩] sc ps) 2 it (.ref D) env=
   jM Bp.pos it Di B' env (do let x <-eval elt env;let _ <-call (.builtin "list.append") [.ref D,x];pure ()) (.compLoop (.ListComp elt [⟨tg,iter,ifs,0⟩,⟨Bz,Bh,Bn,0⟩,⟨Di,Bp,B',0⟩] sc ps) 2 it (.ref D) env):=by rfl
section
variable{X:Cx}{G:Cfg}{E:XK}{elt tg iter Bz Bh Di Bp:bq}{ifs Bn B':List bq}{sc:gf}{ps px pos:Pos}{mi mi' mi2:M Src}{st Dd Ep:dS}{test Cr test2:M Bool}{me:M Dv}{N:Ax}{cap:List (Option Nat)}{i:Nat}{x:Str}
theorem z38(hc:X.calm=true)(hK:X.K=G.K)(hi':∀s H ex,hG (bW X sc N s H ex) G E0 Bz Bh mi')(Fs:∀s H ex,iS (bW X sc N s H ex) G Bz Dd)(Fo:∀s H ex,kN (bW X sc N s H ex) G Bn Cr)(hi2:∀s H ex,hG (bW X sc N s H ex) G E0 Di Bp mi2)(hg2:∀s H ex,iS (bW X sc N s H ex) G Di Ep)(htt2:∀s H ex,kN (bW X sc N s H ex) G B' test2)(Ds:∀s H ex,aI (bW X sc N s H ex) G E0 elt me)(Fc:∀s H ex x,foldedSetIterable Bh (bW X sc N s H ex).env x=pure x)(Fb:∀s H ex x,foldedSetIterable Bp (bW X sc N s H ex).env x=pure x)(s:ag)(H:Hp)(ex:List ai)(D:ai):
  Ed (bW X sc N s H ex) D (kX Bh (.ListComp elt [⟨tg,iter,ifs,0⟩,⟨Bz,Bh,Bn,0⟩,⟨Di,Bp,B',0⟩] sc ps) 1 D (bW X sc N s H ex).env) (tF G (dF mi' Dd Cr (dF mi2 Ep test2 (aU me)))):=
 Ed.imp (zB (X:=bW X sc N s H ex) (D:=D) (gens:=[⟨tg,iter,ifs,0⟩,⟨Bz,Bh,Bn,0⟩,⟨Di,Bp,B',0⟩]) (d:=1) rfl hc rfl (λit=>z36 elt tg iter Bz Bh Di Bp ifs Bn B' sc ps (.ref it) D _) (hi' s H ex hK) (Fs s H ex hK) (Fo s H ex hK)
  (Ed.imp (zB (X:=bW X sc N s H ex) (D:=D) (gens:=[⟨tg,iter,ifs,0⟩,⟨Bz,Bh,Bn,0⟩,⟨Di,Bp,B',0⟩]) (d:=2) rfl hc rfl (λit=>z37 elt tg iter Bz Bh Di Bp ifs Bn B' sc ps (.ref it) D _) (hi2 s H ex hK) (hg2 s H ex hK) (htt2 s H ex hK)
   (Ed.imp (uX (Ds s H ex hK)) λ_ _ _ _ t=>vJ t) (Fb s H ex)) λ_ _ _ _ t=>zJ t) (Fc s H ex)) λ_ _ _ _ t=>zJ t
theorem z39(hN:X.N.Nodup)(hi1:X.N[i]?=some x)(hc:X.calm=true)(C:Cc X sc N cap)(hi:hG X G E tg iter mi)(hg:∀s H ex,iS (bW X sc N s H ex) G tg st)(Eg:∀s H ex,kN (bW X sc N s H ex) G ifs test)(hi':∀s H ex,hG (bW X sc N s H ex) G E0 Bz Bh mi')(Fs:∀s H ex,iS (bW X sc N s H ex) G Bz Dd)(Fo:∀s H ex,kN (bW X sc N s H ex) G Bn Cr)(hi2:∀s H ex,hG (bW X sc N s H ex) G E0 Di Bp mi2)(hg2:∀s H ex,iS (bW X sc N s H ex) G Di Ep)(htt2:∀s H ex,kN (bW X sc N s H ex) G B' test2)(Ds:∀s H ex,aI (bW X sc N s H ex) G E0 elt me)(hx:X.env.scope.names.lookup x=some .local:=by rfl)(hsw:swapsWith (.ListComp elt [⟨tg,iter,ifs,0⟩,⟨Bz,Bh,Bn,0⟩,⟨Di,Bp,B',0⟩] sc ps) (some (.Name x px)) pos.line X.env=pure true:=by rfl)(hs:∀x,foldedSetIterable iter X.env x=pure x:=by intro _;rfl)(Fc:∀s H ex x,foldedSetIterable Bh (bW X sc N s H ex).env x=pure x:=by intro _ _ _ _;rfl)(Fb:∀s H ex x,foldedSetIterable Bp (bW X sc N s H ex).env x=pure x:=by intro _ _ _ _;rfl):
  iD X G E (.Assign [.Name x px] (.ListComp elt [⟨tg,iter,ifs,0⟩,⟨Bz,Bh,Bn,0⟩,⟨Di,Bp,B',0⟩] sc ps) pos) (aK (aX (bA mi cap st test (dF mi' Dd Cr (dF mi2 Ep test2 (aU me))))) (aD i)):=λhK=>
 PS.imp (EA hsw hN hi1 hx hc C rfl (inner:=λD env=>kX Bh (.ListComp elt [⟨tg,iter,ifs,0⟩,⟨Bz,Bh,Bn,0⟩,⟨Di,Bp,B',0⟩] sc ps) 1 D env) (λit D env=>z35 elt tg iter Bz Bh Di Bp ifs Bn B' sc ps (.ref it) D env) (hi hK) (λs H ex=>hg s H ex hK) (λs H ex=>Eg s H ex hK)
  (z38 hc hK hi' Fs Fo hi2 hg2 htt2 Ds Fc Fb) hs) λD σ H⟨μ,ρ,h,rs,s,o⟩=>
  vK (zL (mS rs s o λμ1 d h1 v H1 x1 Bv s1 r1 o1=>o1 μ1 H1 _ Ge s1 (Bv.set i r1)))
end
open PySem.SeqAt PySem.MeetsSeq PySem.MeetsSeq2 PySem.MeetsSeq3
end L2.Mr
namespace L2.Mr.K61
open L2.Mr.Cod
open L2.Mr.Com
open L2.Mr.K60 (iK kC)
end L2.Mr.K61
namespace L2.Mr
end L2.Mr
namespace L2.Mr.K63
open L2.Mr.Cod
open L2.Mr.Com
open L2.Mr.K60 (iK kC)
open L2.Mr.K05 (iL jU)
def tZ:MS:=(aL (aB (f1 (fV hJ)) (aE (aX (bA (aM bT (aE (m2 cD (aF 5) (aF 1)))) [none,some 0] (aD 0) (mB (m2 (lX true) (aB wZ (aJ (aA 1) (aA 0))) (mC .non))) (aU (aA 0)))))))
def gM:Ay:=aT 1 1 (tZ)
end L2.Mr.K63
namespace L2.Mr
open PySem PySem.Spec PySem.W PyProof.Rows SoM SR
end L2.Mr
namespace SR
open SM
theorem rP{α β:Type}{f g:α->Option β}:∀{l:List α},(∀x∈l,f x=g x)->l.filterMap f=l.filterMap g
 |[],_=>rfl
 |x::l,h=>by rw[cw,cw,h x (bf ..),rP λy hy=>h y (av _ hy)]
abbrev EL:=List (Int×af)
def kI:af->Int|.int k _=>k|_=>0
def hO(L:EL):y':=L.map λe=>kI e.2
def Dz(w:cn)(h:cy)(a:ai)(L:EL):Prop:=∃o es ep t,Bq w h a (L.map da) o es ep t/\es.toList=L/\L.length*5<t.mask*3
theorem Dz.keep{w:cn}{h h':cy}{a:ai}{L:EL}(S:Dz w h a L)(k:∀o,h.get? a=some o->h'.get? a=some o):Dz w h' a L:=by obtain⟨o,es,ep,t,P,r⟩:=S;exact⟨o,es,ep,t,P.at' (k o P.obj),r⟩
theorem z3a{t:gh}{hs:y'}(T:Dc t hs)(h:Int):∃n,pr t.mask h n∉t.place.toList/\(∀m,m<n->pr t.mask h m∈t.place.toList)/\t.freeSlot h=some (pr t.mask h n,false):=by
 obtain⟨N,hN,hNe⟩:=T.stops h;obtain⟨m,a1,a2,a3,a4⟩:=O2 T (λ_=>h+1) h (10*qg t.mask) 0 N (gz _) (by lia) hNe
 rcases a4 with⟨b1,b2⟩|⟨i,b1,b2,b3⟩
 ·refine⟨m,b1,λl hl=>(a3 l (gz _) hl).1,?_⟩;have e:t.probe (λ_=>h+1) h (t.probeStart h)=some (.empty (pr t.mask h m) none):=b2;unfold SetTable.freeSlot;rw[e];rfl
 ·lia
theorem z3b{t:gh}{es:Array (Int×af)}{L:EL}{wanted mask':Nat}(T:Dc t (L.map da))(Ej:es.toList=L)(hw:qi wanted-1=mask')(hg:lH mask')(hl:L.length*5<mask'*3):
  ∃es' t',relayAll t es wanted=(es',t',false)/\t'.led=t.led/\t'.mask=mask'/\es'.toList.Perm L/\Dc t' (es'.toList.map da):=by
 have Cf:es.size=L.length:=by rw[<-Ej];simp
 have Fc:(es.map (·.1)).size=L.length:=by simp[Cf]
 have eh:(es.map (·.1)).toList=L.map da:=by rw[Array.toList_map,Ej]
 obtain⟨t',order,e1,e2,e3,e4,e5⟩:=O9 (mask:=mask') (finger:=t.finger) (moves:=t.movedTo mask') (led:=t.led) (hs:=es.map (·.1)) hg (by rw[Fc];lia);have er:t.relaid (es.map (·.1)) wanted=some (t',order):=by unfold As;rw[hw,T.plain];exact e1
 rw[Fc]at e4;have ef:(order.filterMap (es[·]?)).toList=order.toList.filterMap λi=>L[i]?:=by rw[zd];exact rP λi _=>by rw[<-Ej,ly]
 have hp:(order.filterMap (es[·]?)).toList.Perm L:=by rw[ef];exact(e4.filterMap (λi=>L[i]?)).trans (Ai (F5 L))
 have hT:Dc t' ((order.filterMap (es[·]?)).toList.map da):=by
  have:(order.filterMap (es[·]?)).toList.map da=order.toList.filterMap ((es.map (·.1)).toList[·]?):=by rw[ef,lr,eh];exact rP λi _=>by rw[fw]
  rw[this];exact e5
 refine⟨_,t',?_,e3,e2,hp,hT⟩;unfold relayAll;rw[er];have hc:coversAll order es.size=true:=by unfold coversAll;rw[Cf];exact List.isPerm_iff.mpr e4
 have hf:t'.fits (order.filterMap (es[·]?)).size=true:=by have:=hT.fits;rw[ax,ku]at this;exact this
 dsimp only;rw[hc,hf];rfl
section
variable{prog:bj}{w:cn}{A:cq}{E:af->ag->Prop}{s:ag}{a:ai}{L:EL}{k:Int}{tg:Nat}
theorem QL{e:Int×af}(Ds:ElemsOf (intKind prog w) L)(he:e∈L)(k:Int):(intKind prog w).is k e.2=decide (kI e.2=k):=by obtain⟨⟨k',h,_⟩,_⟩:=Ds e he;obtain⟨t,q⟩:=kq h;rw[KeyKind.is_eq_decide h k,q];simp[kI,eq_comm]
theorem z3c{tg}(S:Dz w s.heap a L)(Ds:ElemsOf (intKind prog w) L)(h76:k∉hO L->L.length+1<=76){Q:Bool->ag->Prop}(h:∀h' L' r,ja a s.heap h'->Dz w h' a L'->(k∈hO L->L'.Perm L)->(k∉hO L->L'.Perm (((intKind prog w).hash k,.int k tg)::L))->Q r {s with heap:=h'}):
  wpAny (model prog w) A (setAddHashed a (.int k tg) ((intKind prog w).hash k)) Q E s:=by
 obtain⟨o,es,ep,t,P,Ej,nf⟩:=S;have Cf:es.size=L.length:=by rw[<-Ej];simp
 have Eb:=P.tab.msk;have h127:L.length<127:=by rcases Eb with q|q|q<;>(rw[q]at nf;lia)
 have hsb:es.size<scanBound:=by unfold scanBound;lia
 rw[<-Ej]at Ds;have hkey:(intKind prog w).is k (mw k tg)=true:=zx _ _ _ _;unfold setAddHashed setAddHashedIn;refine fe (ae (jq P.obj P.data P.fits ?_));dsimp only;rw[byScan_of rfl hsb Ds];simp only[↓reduceIte];unfold setAddByScan;refine ae ?_;refine ae (om ?_);refine ae (wpAny_setScan_of hkey P.obj P.data P.fits Ds ?_);rw[Ej]at Ds⊢
 cases hr:List.findIdx? (λe=>(intKind prog w).is k e.2) L with
 |some j=>
  dsimp only;obtain⟨hj,hpj,_⟩:=List.findIdx?_eq_some_iff_getElem.mp hr;have Cm:k∈hO L:=by rw[QL Ds (gu hj)]at hpj;exact br.mpr ⟨_,gu hj,of_decide_eq_true hpj⟩
  refine aj (aj ?_);exact h s.heap L false (nj ..) ⟨o,es,ep,t,P,Ej,nf⟩ (λ_=>.refl _) λq=>absurd Cm q
 |none=>
  have Ck:k∉hO L:=λCm=>by obtain⟨e,he,q⟩:=br.mp Cm;have:=List.findIdx?_eq_none_iff.mp hr e he;rw[QL Ds he,decide_eq_true q]at this;exact Bool.noConfusion this
  have h76':=h76 Ck;generalize hhk:(intKind prog w).hash k=hk at h⊢;obtain⟨n,hn,hw,hfr⟩:=z3a P.tab hk;have hroom:(L.map da).length+1<=t.mask:=by
   rw[ax]
   rcases Eb with q|q|q<;>(rw[q]at nf⊢;lia)
  have T2:=P.tab.put (h:=hk) (n:=n) hn hw hroom;have hbl:=(tO (j:=pr t.mask hk n) P.tab.rise).2.2;generalize hp:qj t.place (pr t.mask hk n)=p at T2 hbl;have eT:(L.map da).take p++hk::(L.map da).drop p=(L.take p++(hk,mw k tg)::L.drop p).map da:=by simp[vh,pj]
  rw[eT]at T2;have Dw:(gv es p (hk,mw k tg)).toList=L.take p++(hk,mw k tg)::L.drop p:=by rw[tP _ _ _ (by rw[Cf,<-show t.place.size=L.length from by have:=P.tab.size;simpa using this];exact hbl),Ej]
  have pm:=SR.ins_perm L (hk,mw k tg) p;generalize hL2:L.take p++(hk,mw k tg)::L.drop p=L2 at T2 Dw pm;have Cd:L2.length=L.length+1:=pm.length_eq;generalize hes2:gv es p (hk,mw k tg)=es2 at Dw;have Er:es2.size=L.length+1:=by rw[<-Cd,<-Dw];simp
  obtain⟨t2,eln,T2,hl2,hm2⟩:∃t2,layNew t es hk (.int k tg)=(es2,t2,false,false)/\Dc t2 (L2.map da)/\t2.led=t.led/\t2.mask=t.mask:=by
   refine⟨_,?_,T2,rfl,rfl⟩;unfold layNew;rw[hfr];dsimp only;rw[O4 P.tab.nod,hp];dsimp only;rw[hes2];have hf:({t with place:=gv t.place p (pr t.mask hk n)}:gh).fits es2.size=true:=by have:=T2.fits;rw[ax,Cd,<-Er]at this;exact this
   unfold SetTable.orStandIn;rw[hf];rfl
  dsimp only;rw[eln];dsimp only;refine ae (aj ?_);rw[if_pos T2.plain];refine ae (aj ?_);simp only[if_true];refine ae (tj P.obj P.data ?_ (by rw[Er,ic];lia));have Em:=AJ (s:=s) (es':=es2) (t':=t2) P.data P.obj;have fill:t2.tooFull=decide ((L.length+1)*5>=t.mask*3):=by unfold Aj xl;have e1:=T2.size;rw[ax,Cd]at e1;rw[T2.nod,e1,hm2];rfl
  simp only[yf,yy];rw[fill];have fin:∀h' L',ja a (s.heap.update a (ue es2 t2)) h'->Dz w h' a L'->L'.Perm L2->Q true {s with heap:=h'}:=λh' L' sb st p'=>h h' L' true ((kn ..).trans sb) st (λq=>absurd q Ck) λ_=>p'.trans pm
  by_cases full:(L.length+1)*5>=t.mask*3
  ·rw[decide_eq_true full,if_pos rfl];have hcase:(t.mask=7/\L.length=4)∨(t.mask=31/\L.length=18):=by
    rcases Eb with q|q|q
    ·left;rw[q]at nf full;exact⟨q,by lia⟩
    ·right;rw[q]at nf full;exact⟨q,by lia⟩
    ·rw[q]at full;lia
   have go:∀mask',qi (wx es2.size)-1=mask'->lH mask'->L2.length*5<mask'*3->
     ∃es' t',relayAll t2 es2 (wx es2.size)=(es',t',false)/\t'.led=t2.led/\es'.toList.Perm L2/\Dc t' (es'.toList.map da)/\es'.toList.length*5<t'.mask*3:=λmask' x1 x2 x3=>by
    obtain⟨es',t',z1,z2,z3,z4,z5⟩:=z3b T2 Dw x1 x2 x3;exact⟨es',t',z1,z2,z4,z5,by rw[z3,z4.length_eq];exact x3⟩
   have go':∃es' t',relayAll t2 es2 (wx es2.size)=(es',t',false)/\t'.led=t2.led/\es'.toList.Perm L2/\Dc t' (es'.toList.map da)/\es'.toList.length*5<t'.mask*3:=by
    rcases hcase with⟨q1,q2⟩|⟨q1,q2⟩
    ·exact go 31 (by rw[Er,q2];decide) (.inr (.inl rfl)) (by rw[Cd,q2];decide)
    ·exact go 127 (by rw[Er,q2];decide) (.inr (.inr rfl)) (by rw[Cd,q2];decide)
   obtain⟨es',t',z1,z2,z4,z5,z6⟩:=go';rw[z1];dsimp only;refine ae (aj ?_);have zs:es'.size=L.length+1:=by rw[<-Cd,<-z4.length_eq];simp
   refine ae (tj (s:={s with heap:=s.heap.update a (ue es2 t2)}) Em rfl ?_ (by rw[zs,ic];lia));refine aj (aj ?_);exact fin _ _ (kn ..) ⟨_,_,_,t',⟨AJ (s:={s with heap:=s.heap.update a (ue es2 t2)}) rfl Em,P.ex,rfl,by simp,z5,(z2.trans hl2).trans P.led⟩,rfl,z6⟩ z4
  ·rw[decide_eq_false full,if_neg ig];refine aj (aj (fin _ L2 (nj ..) ⟨_,_,_,_,⟨Em,P.ex,rfl,by rw[Er];simp[Cd],T2,hl2.trans P.led⟩,Dw,?_⟩ (.refl _)));rw[Cd,hm2];exact Nat.lt_of_not_le full
end
section
variable{prog:bj}{w:cn}{A:cq}{R:xa->ag->Prop}{I:ai}{fp wr:List ai}{n:Nat}{P:Nat->af->Prop}{St:Nat->cy->Prop}
structure Ec(prog:bj)(w:cn)(ky:Nat->Int)(i:Nat)(L:EL):Prop where
 el:ElemsOf (intKind prog w) L
 nd:(hO L).Nodup
 mem:∀k,k∈hO L↔∃j,j<i/\ky j=k
theorem Ec.step{ky:Nat->Int}{i:Nat}{L L':EL}{tg}(u:Ec prog w ky i L)(q1:ky i∈hO L->L'.Perm L)(q2:ky i∉hO L->L'.Perm (((intKind prog w).hash (ky i),.int (ky i) tg)::L)):Ec prog w ky (i+1) L':=by
 have jl:∀k,(∃j,j<i+1/\ky j=k)↔(ky i=k∨∃j,j<i/\ky j=k):=λk=>by
  constructor
  ·rintro ⟨j,hj,e⟩
   rcases jw j i with z|z
   ·exact .inr ⟨j,z,e⟩
   ·have:j=i:=by lia
    subst this;exact .inl e
  ·rintro (e|⟨j,hj,e⟩)
   ·exact⟨i,by lia,e⟩
   ·exact⟨j,by lia,e⟩
 by_cases Cm:ky i∈hO L
 ·have pm:=q1 Cm;have pk:(hO L').Perm (hO L):=pm.map _;refine⟨u.el.perm pm,pk.nodup_iff.mpr u.nd,λk=>?_⟩;rw[pk.mem_iff,jl,u.mem];exact⟨.inr,λz=>z.elim (λe=>by rw[<-e];exact(u.mem _).mp Cm) id⟩
 ·have pm:=q2 Cm;have pk:(hO L').Perm (ky i::hO L):=pm.map λe:Int×af=>kI e.2;refine⟨λe he=>?_,pk.nodup_iff.mpr (jm.mpr ⟨Cm,u.nd⟩),λk=>?_⟩
  ·rcases aw.mp (pm.mem_iff.mp he)with rfl|h
   ·exact⟨⟨ky i,zx _ _ _ _,rfl⟩,rfl⟩
   ·exact u.el e h
  ·rw[pk.mem_iff,jl,aw,u.mem,eq_comm]
theorem z3d(W:Walks prog w A.in1 I fp wr n P St)(S:ai)(hSf:S∉fp)(ky:Nat->Int)(hval:∀i v,P i v->∃t,v=.int (ky i) t)(h76:n<=76):
  ∀(m i:Nat)(s:ag)(L:EL),n-i=m->i<=n->L.length<=i->St i s.heap->Dz w s.heap S L->Ec prog w ky i L->
   (∀h' tk L',(∀b o,b∉S::wr->s.heap.get? b=some o->h'.get? b=some o)->Dz w h' S L'->Ec prog w ky n L'->R (.ok (.ret .none)) {s with heap:=h',toks:=tk})->
   codeAny (model prog w) A (.builtin "set.update.loop" ⟨[.ref S,.ref I],[]⟩) R s:=by
 have hSw:S∉wr:=λh=>hSf (W.sub _ h);intro m
 induction m with
 |zero=>
  intro i s L hk hi hl hst hT Du hR;have Cm:i=n:=by lia
  subst Cm;refine ki F.entry_set_update_loop ?_;rw[jb F.plain_set_update_loop _];show wpAny _ A.in1 (pyNext (.ref I) >>=_) _ _ s;refine ae (W.done s _ _ hst λh' tk hm=>?_);exact aj (hR h' tk L (λb o hb e=>hm b o (λz=>hb (av _ z)) e) (hT.keep λo e=>hm S o hSw e) Du)
 |succ m ih=>
  intro i s L hk hi hl hst hT Du hR;have hlt:i<n:=by lia
  refine ki F.entry_set_update_loop ?_;rw[jb F.plain_set_update_loop _];show wpAny _ A.in1 (pyNext (.ref I) >>=_) _ _ s;refine ae (W.item i s _ _ hlt hst λv h' tk hP hst' hm=>?_);obtain⟨tg,rfl⟩:=hval i v hP;show wpAny _ A.in1 (holding [mw (ky i) tg] (setAdd S (.int (ky i) tg)) >>=_) _ _ _;refine ae (fe ?_);unfold setAdd;refine fe ?_;refine ae ((intKind prog w).pyHash (s:={s with heap:=h',toks:=tk}) (k:=ky i) (zx _ _ _ _) ?_);refine z3c (s:={s with heap:=h',toks:=tk+1}) (hT.keep λo e=>hm S o hSw e) Du.el (λ_=>by lia) λh2 L2 r sb hT2 q1 q2=>?_;have hl2:L2.length<=i+1:=by
   by_cases Cm:ky i∈hO L
   ·rw[(q1 Cm).length_eq];lia
   ·rw[(q2 Cm).length_eq,bu];lia
  refine aj ⟨uf F.plain_set_update_loop _,ih (i+1) _ L2 (by lia) hlt hl2 (W.frame _ _ _ hst' λb hb o e=>?_) hT2 (Du.step q1 q2) λh3 tk3 L3 k3 hT3 hup3=>?_⟩
  ·rw[sb.2 b (λz:b=S=>hSf (by rw[<-z];exact hb))];exact e
  ·refine hR h3 tk3 L3 (λb o hb e=>k3 b o hb ?_) hT3 hup3;exact(sb.2 b λz=>hb (by rw[z];exact bf)).trans (hm b o (λz=>hb (av _ z)) e)
end
theorem z3e{w:cn}{h:cy}{a:ai}(e:h.get? a=some (bare w)):Dz w h a []:=⟨bare w,#[],0,_,⟨e,⟨rfl,rfl,rfl⟩,rfl,rfl,⟨rfl,.nil,rfl,(λj hj=>nomatch hj),gz _,.inl rfl,(λi h j e=>nomatch e),rfl⟩,rfl⟩,rfl,(by show 0*5<7*3;decide)⟩
end SR
namespace L2.Mr
open SR
def jI(a b:Int):Bool:=decide (a<b)
theorem nO:Dq jI:=by refine⟨λx=>?_,λx y z h1 h2=>?_,λx y h1 h2=>?_⟩<;>simp[jI]at*<;>lia
section
variable{X:Cx}{G:Cfg}{E:XK}{k:Nat}{e:bq}{aM:M Az}{p p2 pos Cu:Pos}
def QM(prog:bj)(w:cn)(l:ai)(o:Obj)(ns:y'):Prop:=∃es ep t L,(∀h:cy,h.get? l=some o->Bq w h l (L.map da) o es ep t)/\es.toList=L/\ElemsOf (intKind prog w) L/\(hO L).Perm (dC jI ns)
abbrev DV(X:Cx):Gx->Hp->VK->Prop:=λxs H Q=>∃(p:ai)(ns:y'),xs=[.ref p]/\H p=some (.lst (ns.map Ga))/\ns.length<64/\∀l o,H l=none->QM X.prog X.w l o ns->Q (.ref l) (bI H l (.frz o (.own 0)))
theorem z3f(rm:Bx k X.A):Bi X (.type "set") (DV X):=by
 intro pins s σ H xs us Q I rv ⟨p,ns,e,hp,h64,q⟩;subst e;obtain⟨u,rfl,ru⟩:=gO rv;cases ru;obtain⟨its,rits,pl,hz⟩:=I.list (Gi hp);have lp:=I.hok.lt hp;have hn:its.toArray.size=ns.length:=by have:=rits.length;simp at this⊢;lia
 have hI:s.heap.IsList p its.toArray:=pl.isList;have hne:p≠s.heap.objs.size+1:=bc (fi lp);have hb:(s.heap.push (bare X.w)).IsList p its.toArray:=hI.push _;have hs1:(s.heap.push (bare X.w)).objs.size=s.heap.objs.size+1:=uv _ _;have W:=ow (prog:=X.prog) (w:=X.w) (A:=X.A.in1.in1.in1) (show X.A.in1.in1.in1.handled=none from rm.hd) (s.heap.objs.size+1) p hne its.toArray;rw[hn]at W;refine PN (T:="list") (it:={cls:=.type "list_iterator",data:=.fields #[.ref p,.int 0 0]}) (N:=λs'=>∃h' tk L,s'={s with heap:=h',toks:=tk}/\Dz X.w h' s.heap.objs.size L/\Ec X.prog X.w (λi=>ns.getD i 0) ns.length L/\∀b o,s.heap.get? b=some o->h'.get? b=some o) hI.typeIs sub_list.1 sub_list.2 (by decide) (λB Q' E' hQ=>?_) (λR hb2 up hR=>?_) ?_
 ·refine jo hb ?_;rw[<-hs1]at hQ;exact hQ
 ·refine z3d W s.heap.objs.size (λm=>?_) (λi=>ns.getD i 0) (λi v hv=>pY rits hv) (by lia) ns.length 0 _ [] rfl (gz _) (gz _) ⟨⟨{cls:=.type "list_iterator",data:=.fields #[.ref p,.int 0 0]},?_,rfl,rfl⟩,hb.push _⟩ (z3e hb2)
   ⟨(λe he=>nomatch he),.nil,λk=>⟨λh=>(nomatch h),λ⟨j,hj,_⟩=>absurd hj (yb j)⟩⟩ λh' tk L keep S u=>hR _ ⟨h',tk,L,rfl,S,u,λb o e=>?_⟩
  ·rcases aw.mp m with z|m
   ·exact lg _ z.symm
   ·exact jj lp (cc.mp m)
  ·rw[<-hs1];exact az _ rfl
  ·have hlt:=ay e;refine keep b o (λm=>?_) (up b o e)
   rcases aw.mp m with z|m
   ·exact bc hlt z
   ·exact bc (fi hlt) (cc.mp m)
 ·rintro s' ⟨h',tk,L,rfl,⟨o,es,ep,t,P,Ej,_⟩,u,kk⟩
  refine⟨.ref s.heap.objs.size,_,I.laid (t':=tk) (o:=.frz o (.own 0)) kk (aq _) ⟨P.obj,o,P.obj⟩,rfl,q _ o (I.hok.fresh (aq _)) ⟨es,ep,t,L,λh e=>P.at' e,Ej,u.el,?_⟩⟩;refine(mr u.nd (qA nO (rN nO ns))).mpr λz=>?_;rw[oZ nO,u.mem];constructor
  ·rintro ⟨j,hj,rfl⟩
   show ns.getD j 0∈ns;simp[hj]
  ·intro hz;obtain⟨j,hj,rfl⟩:=kg hz;exact⟨j,hj,by simp[hj]⟩
theorem z3g{L:EL}{prog:bj}{w:cn}(h:ElemsOf (intKind prog w) L):kv (L.map (·.2)) (hO L):=by
 induction L with
 |nil=>exact .nil
 |cons e L ih=>obtain⟨k,hk,_⟩:=(h e (bf ..)).1;obtain⟨t,q⟩:=kq hk;have ih:=ih λx hx=>h x (av _ hx);unfold hO at ih⊢;rw[du,du,q];exact .cons _ _ ih
theorem z3h(rm:Bx k X.A):Bi X (.builtin "sorted") (λxs H Q=>∃(l:ai)(o:Obj)(ns:y'),xs=[.ref l]/\H l=some (.frz o (.own 0))/\QM X.prog X.w l o ns/\ns.length<64/\∀D,H D=none->Q (.ref D) (bI H D (.lst ((dC jI ns).map Ga)))):=by
 intro pins s σ H xs us Q I rv ⟨l,o,ns,e,hl,⟨es,ep,t,L,hP,Ej,Ds,hk⟩,h64,q⟩;subst e;obtain⟨u,rfl,ru⟩:=gO rv;cases ru;have P:=hP s.heap (I.hok l _ hl).1;have pe:(iX X.w l ep es).toList.Perm L:=by rw[<-Ej];exact F6 _ _ _ _
 have hlen:L.length<64:=by
  have:=hk.length_eq;have:=AF (lt:=jI) ns;unfold hO at *;rw[ax]at *
  lia
 generalize hLo:(iX X.w l ep es).toList=Lo at pe;have hlo:Lo.length<64:=by rw[pe.length_eq];exact hlen
 have hI:=z3g (Ds.perm pe);refine yi kind_sorted plain_sorted entry_sorted (args_sorted1 _) ?_;unfold my.«sorted»;refine ae (m:=checkCount "sorted" 1 1 _) (aj (ae (PJ (show X.A.in1.handled=none from rm.hd) P (by rw[P.size,ax,ic];lia) λh1 tk k1 sz=>?_)));rw[hLo];refine ae (wu ?_ (by rw[ax,ic];lia));have g:(h1.push (seqObj "list" (Lo.map (·.2)).toArray 0)).get? h1.objs.size=some (seqObj "list" (Lo.map (·.2)).toArray 0):=az _ rfl;have k2:wO s.heap (h1.push (seqObj "list" (Lo.map (·.2)).toArray 0)):=λb o e=>ao _ (k1 b o e);refine ae (fe (fz slot_list_sort ⟨_,g,rfl⟩ entry_list_sort (list_sort_tree (s:={s with heap:=h1.push (seqObj "list" (Lo.map (·.2)).toArray 0),toks:=tk}) g hI (by rw[ax];exact hlo) λout ns' a1 a2 a3=>⟨_,rfl,aj ⟨_,rfl,?_⟩⟩) (args_list_sort _)));obtain⟨ep',he⟩:=z33 (out:=out) g;have pk:ns'.Perm (dC jI ns):=a2.trans (((pe.map λe:Int×af=>kI e.2)).trans hk);have nd:ns'.Nodup:=pk.nodup_iff.mpr (qA nO (rN nO ns));have hu:ns'=dC jI ns:=OI nO ((a3.and nd).imp λ{a b}⟨x,y⟩=>by simp only[jI,decide_eq_true_eq];lia) λz=>by rw[pk.mem_iff,oZ nO]
 subst hu;refine⟨.ref h1.objs.size,_,I.laid (t':=tk) (λb o e=>z34 (bc (bo (ay e) sz)) (k2 b o e)) sz (show Bk X.prog X.w _ _ _ (.lst ((dC jI ns).map Ga)) from⟨?_,out.toList,ep',sT a1,?_⟩),rfl,q _ (I.hok.fresh sz)⟩
 ·have:=AF (lt:=jI) ns;rw[ax,ic];lia
 ·rw[he]
def rX(x:Dv)(h:Hs):Rs Dv:=match x with
 |.ref i=>match getL h i with
  |some xs=>match bU eY xs with
   |some ns=>if ns.length<64 then .ok (.ref h.length) (h++[.lst ((dC jI ns).map Fx)])else .bad
   |none=>.bad
  |none=>.bad
 |_=>.bad
theorem z3i(g:Good X G E k)(hg:Gl X "sorted")(hm:X.mg "sorted"=none)(hg2:Gl X "set")(hm2:X.mg "set"=none)(ha:dP X G E [e] aM)(he:ar [e] X.env=[(false,eval e X.env)]:=by rfl)(Eo:ar [Expr.Call (.Name "set" p2) [e] [] Cu] X.env=[(false,eval (.Call (.Name "set" p2) [e] [] Cu) X.env)]:=by rfl):
  aI X G E (.Call (.Name "sorted" p) [.Call (.Name "set" p2) [e] [] Cu] [] pos) (aB (f1 rX) aM):=λhK=>
 Gh (uV (z3h g.room) hg hm FK (kW (sR (z3f g.room) hg2 hm2 P5 (ha hK) (by decide) (by decide) he rfl) lS Eo) (by decide) (by decide) Eo rfl) λσ H Q⟨μ,ρ,h,rs,s,o⟩=>by
  refine kJ rs s o λμ1 ds h1 vs H1 x1 Bv s1 r1 o1=>?_;unfold f1 at o1
  split at o1
  ·rename_i d;obtain⟨v,rfl,rv⟩:=qU r1
   cases d with
   |ref i=>
    dsimp only[rX]at o1
    cases q1:getL h1 i with
    |none=>rw[q1]at o1;exact o1.elim
    |some xs=>
     rw[q1]at o1;dsimp only at o1
     cases q:bU eY xs with
     |none=>rw[q]at o1;exact o1.elim
     |some ns=>
      rw[q]at o1;dsimp only at o1
      split at o1
      ·rename_i h0;obtain⟨vs,e1,r2⟩:=s1.ob i _ (dW q1);obtain⟨_,rfl⟩:=rv;refine⟨_,ns,rfl,by rw[e1,mZ r2 q],h0,λl o hl so=>⟨l,o,ns,rfl,eR,so,h0,λD hD=>?_⟩⟩;have sm:=dQ (o:=.frz o (.own 0)) hl;exact mP (E:=E) (s1.same sm) (qS _) hD (λμ' H' v x'=>o1 μ' H' v ((F' sm).trans x'))
      ·exact o1.elim
   |_=>exact o1.elim
  ·exact o1.elim
end
end L2.Mr
namespace L2.Mr.K74
open L2.Mr.Cod
open L2.Mr.Com
open L2.Mr.K60 (iK kC)
open L2.Mr.K82 (jH lL lM nJ kS nK nM qH jV tY)
open L2.Mr.K05 (iL jU mF nG mG nI)
open L2.Mr.K63 (gM tZ)
def GR:MS:=(aH (bV (aB eJ (aE (aA 0)))) (bP (eN (cF (aB pB (aJ (m2 aO (aA 0) (aF 0)) (aA 1))))) rW cA))
def qI:Ay:=aT 2 2 (GR)
def GS:MS:=(aH (bV (aB qI (aJ (aA 0) (aA 1)))) (aL (aX (bA (aY fP (m2 aO (aA 0) (aF 1))) [none,none,some 1] (cV 2 (aW (aD 0) (aW (aD 1) cW))) (mB (m2 cE (aA 1) (aA 2))) (aU (aA 0))))))
def pD:Ay:=aT 2 2 (GS)
def GU:MS:=(aH (bV (aB qI (aJ (aA 0) (aA 1)))) (aL (aX (bA (aM bT (aE (m2 aO (aA 0) (aF 0)))) [none,some 0,some 1] (aD 0) (cF (aB eZ (dD (aA 1) (aA 2) (aA 0)))) (aU (aA 0))))))
def uA:Ay:=aT 2 2 (GU)
def GV:MS:=(aH (bP (gD (eN (cF (m1 (iG wC) (aA 0)))) (eN (mB (kL gL gL (aF 1) (aB (f1 dU) (aE (aA 0))) (aF 6))))) rW cA) (bP (eN (cF (mL kP (bA (aY bQ (aA 0)) [none] (aD 0) bK (aU (dE (aB qE (aE (aA 0))) (m2 pW (aA 0) (aF 1)))))))) rW cA))
def pE:Ay:=aT 1 1 (GV)
def GW:MS:=(aH (bV (aB pE (aE (aA 0)))) (aH (bV (aB jH (aE (aB (f1 iV) (aE (aA 0)))))) (aL (aX (bA (aM nB (aE (aA 0))) [none,none,none] (cV 2 (aW (aD 0) (aW (aD 1) cW))) bK (dF (aM bT (aE (aA 1))) (aD 2) bK (aU (aA 0))))))))
def qJ:Ay:=aT 1 1 (GW)
def z3j:MS:=(aH (aK (aB qJ (aE (aA 0))) (aD 1)) (aH (aK (aB (f1 dU) (aE (aA 1))) (aD 2)) (aL (bH (aJ (aA 2) (mL oU (bA (aM bT (aE (aA 2))) [none,none,some 1,some 2] (aD 0) bK (dF (aM bT (aE (aA 3))) (aD 1) (mB (m2 fH (m2 aO (aA 2) (aA 0)) (m2 aO (aA 2) (aA 1)))) (aU (bH (aJ (aA 0) (aA 1))))))))))))
def xA:Ay:=aT 1 3 (z3j)
def z3k:MS:=(aH (aK (aB qJ (aE (aA 0))) (aD 1)) (aH (aK (aB (f1 dU) (aE (aA 1))) (aD 2)) (aL (bH (aJ (aA 2) (mL oU (bA (aM bT (aE (aA 2))) [none,none,some 1,some 2] (aD 0) bK (dF (aM iE (aJ (m2 cD (aA 0) (aF 1)) (aA 3))) (aD 1) (mB (m2 cE (m2 aO (aA 2) (aA 0)) (m2 aO (aA 2) (aA 1)))) (aU (bH (aJ (aA 0) (aA 1))))))))))))
def xB:Ay:=aT 1 3 (z3k)
def QN:MS:=(aH (bV (aB pE (aE (aA 0)))) (aL (m2 eX (aB (f1 (fV cY)) (aE (aA 0))) (aF 1))))
def uB:Ay:=aT 1 1 (QN)
def GX:MS:=(aH (bV (aB pE (aE (aA 0)))) (aH (bP (mB (m2 cE (aB (f1 dU) (aE (aA 0))) (aF 1))) (aL (aF 0)) cA) (aL (aB iK (aJ (m2 eX (aB (f1 iV) (aE (qD (aB (f1 tR) (aE (aA 0))) (pU (m1 lF (aF 2))) pT))) (aF 2)) (aF 2))))))
def pF:Ay:=aT 1 1 (GX)
def z3l:MS:=(aL (dE (m2 (cN false) (bH (aJ (aA 1) (aA 3))) (m2 aO (aA 0) (aF 1))) (dE (aB eZ (dD (aA 0) (aA 1) (aA 2))) (aB eZ (dD (aA 0) (aA 2) (aA 3))))))
def rY:Ay:=aT 4 4 (z3l)
def GY:MS:=(aH (aK (aX (bA (aM bT (aE (m2 aO (aA 0) (aF 0)))) [none,some 0] (aD 0) bK (aU (aB (f1 dU) (aE (aB pD (aJ (aA 1) (aA 0)))))))) (aD 1)) (aL (aX (bA (aY bQ (aB (f1 rX) (aE (aA 1)))) [none,some 0,some 1] (aD 0) bK (aU (mL oU (bA (aM bT (aE (m2 aO (aA 1) (aF 0)))) [none,some 0,some 2] (aD 0) (mB (m2 cE (m2 aO (aA 2) (aA 0)) (aA 1))) (aU (aA 0)))))))))
def xC:Ay:=aT 1 2 (GY)
def GZ:MS:=(aH (bV (aB eJ (aE (aA 0)))) (aH (aK (aB (f1 nE) (aE (m2 aO (aA 0) (aF 0)))) (aD 1)) (aH (aK (aX (bA (aY bQ (aA 1)) [none,none,none,some 0,some 1] (aD 0) bK (dF (aY bQ (aA 4)) (aD 1) bK (dF (aY bQ (aA 4)) (aD 2) (cF (aB rY (jX (aA 3) (aA 0) (aA 1) (aA 2)))) (aU (bH (dD (aA 0) (aA 1) (aA 2)))))))) (aD 2)) (aH (bP (cF (aA 2)) (aL (bH (aJ (mC (.str "bar")) (m2 aO (aA 2) (aF 0))))) cA) (aL (bH (aJ (mC (.str "levels")) (aB xC (aE (aA 0))))))))))
def jJ:Ay:=aT 1 3 (GZ)
def z3m:MS:=(aH (bV (aB qF (dD (aA 0) (aF 1) (aF 6)))) (aL (bH (aJ (aA 0) (mL oU (bA (aM E8 (dD (aF 0) (aA 0) (aF 2))) [none,none,some 0] (aD 0) bK (dF (aY fP (bH (aJ (m2 eX (aA 0) (aF 1)) (m2 cD (aA 0) (aF 1))))) (aD 1) (mB (kL gL NM (aF 0) (aA 1) (aA 2))) (aU (bH (aJ (aA 0) (aA 1)))))))))))
def xD:Ay:=aT 1 1 (z3m)
def z3n:MS:=(aH (bV (aB qF (dD (aA 0) (aF 2) (aF 3)))) (aL (bH (aJ (m2 pV (aF 2) (aA 0)) (mL oU (bA (aM bT (aE (aA 0))) [none,none,some 0] (aD 0) bK (dF (aM bT (aE (aA 2))) (aD 1) (mB (m2 dR (aA 0) (aA 1))) (aU (bH (aJ (aA 0) (m2 cD (aA 2) (aA 1))))))))))))
def xE:Ay:=aT 1 1 (z3n)
def A5:MS:=(aH (aK (bY aQ) (aD 1)) (aH (eW (aM bT (aE (m2 cD (aF 1) (aB dH (aJ (aA 0) (aF 6)))))) (aD 2) (bV (iU (aA 1) (m2 cD (aF 1) (m2 aO (bY (jX (aF 0) (aF 0) (aB dH (aJ (aA 0) (aF 3))) (aB dH (aJ (aA 0) (aF 6))))) (aB dH (aJ (aA 0) (aF 4)))))))) (aH (aK (aF 6) (aD 3)) (aH (aK (bY aQ) (aD 4)) (aH (eW (aY bQ (aA 1)) (aD 5) (bP (gD (mB (m2 gL (aA 5) (aA 3))) (mB (m2 cE (aA 4) (bY aQ)))) (aH (bV (iU (aA 4) (aA 5))) (aK (m2 eX (aA 3) (aA 5)) (aD 3))) cA)) (aL (m2 aO (bY (jX (aA 4) (aA 4) (aA 4) (aA 1))) (aB dH (aJ (aA 0) (aF 4))))))))))
def uC:Ay:=aT 1 6 (A5)
def A6:MS:=(aH (aK (aB uC (aE (aA 0))) (aD 1)) (aH (bP (mB (m2 qZ (aB (f1 iV) (aE (aA 1))) (aF 6))) (aK (bY (aJ (m2 cD (aF 1) (aB dH (aJ (aA 0) (aF 3)))) (m2 cD (aF 1) (aB dH (aJ (aA 0) (aF 3)))))) (aD 1)) cA) (aL (aA 1))))
def xF:Ay:=aT 1 2 (A6)
def G0:MS:=(aH (aK (aB jJ (aE (aA 0))) (cV 2 (aW (aD 1) (aW (aD 2) cW)))) (aH (bP (mB (m2 dR (m2 cE (aA 1) (mC (.str "levels"))) (m2 cE (aB gM (aE (aA 0))) (aF 0)))) (aL (mC (.bl false))) cA) (aH (bP (mB (m2 cE (aA 1) (mC (.str "levels")))) (aL (m2 cE (aB (f1 iV) (aE (aX (bA (aY bQ (aA 2)) [none] (aD 0) bK (aU (aB (f1 dU) (aE (aA 0)))))))) (m2 aO (aA 0) (aF 0)))) cA) (aH (aK (aA 2) (cV 3 (aW (aD 3) (aW (aD 4) (aW (aD 5) cW))))) (aL (dE (m2 (cN false) (aA 3) (aB pD (aJ (aA 0) (aA 5)))) (dE (m2 (cN false) (aA 4) (aB uA (aJ (aA 0) (aA 3)))) (m2 (cN false) (aA 5) (aB uA (aJ (aA 0) (aA 4)))))))))))
def xG:Ay:=aT 1 6 (G0)
def A7(scr:y'):MS:=(aH (aK (aB (rR scr) (aJ (aA 0) (aA 1))) (aD 2)) (aH (aK (aB xF (aE (aA 2))) (aD 3)) (aH (tX 4 5 (aJ (aB xA (aE (aA 3))) (aB xB (aE (aA 3))))) (aH (aK (bY (aR (aA 4) (jX (aA 5) (aB xD (aE (m2 cD (aF 1) (aB dH (aJ (aA 2) (aF 6)))))) (aB xE (aE (m2 cD (aF 2) (aB dH (aJ (aA 2) (aF 2)))))) (aB tW (aJ (aA 2) (aF 6)))))) (aD 6)) (aH (eW (aY bQ (aA 6)) (aD 7) (bP (gD (mB (m2 (lX true) (aB mE (aE (aA 7))) (mC (.bl true)))) (eN (cF (aB xG (aE (aA 7)))))) (aL (mC (.bl false))) cA)) (aH (bP (mB (m2 dR (aX (bA (aY bQ (m2 aO (aB jJ (aE (aA 4))) (aF 1))) [none] (aD 0) bK (aU (aB (f1 dU) (aE (aA 0)))))) (aA 3))) (aL (mC (.bl false))) cA) (aH (bP (gD (mB (m2 dR (aB jV (aE (aA 4))) (aB uB (aE (aA 3))))) (mB (m2 dR (aB gM (aE (aA 4))) (aF 0)))) (aL (mC (.bl false))) cA) (bP (gD (mB (m2 dR (aB gM (aE (aA 5))) (aB pF (aE (aA 3))))) (mB (m2 fH (aB jV (aE (aA 5))) (aB pF (aE (aA 3)))))) (aL (mC (.bl false))) cA))))))))
def QO(scr:y'):MS:=(eW (aM bT (aE (aB oR (aJ (aF 1) (aB tE (aJ (aB (f1 (iC scr)) (aE (aA 0))) (aF 5))))))) (aD 1) (A7 scr))
def ml1:MS:=(aL (mC (.bl true)))
def A8(scr:y'):MS:=(aH (QO scr) (ml1))
def G1(scr:y'):Ay:=aT 1 8 (A8 scr)
end L2.Mr.K74
namespace L2.Mr
section
variable{X:Cx}{G:Cfg}{E:XK}{e:bq}{me:M Dv}{pos pos':Pos}{i:Nat}{x:Str}
theorem bM(hN:X.N.Nodup)(hi:X.N[i]?=some x:=by rfl)(hx:pM X.env.scope x:=by first|exact .inl rfl|exact .inr rfl)(hf:X.fn x=true∨X.env.scope.names.lookup x=some .local:=by first|exact .inl rfl|exact .inr rfl|assumption):iS X G (.Name x pos) (aD i):=Z2 hN hi hx hf
theorem dM(hN:X.N.Nodup)(he:aI X G E e me)(hi:X.N[i]?=some x:=by rfl)(hx:pM X.env.scope x:=by first|exact .inl rfl|exact .inr rfl)(hs:swapsWith e (some (.Name x pos')) pos.line X.env=pure false:=by rfl)(hf:X.fn x=true∨X.env.scope.names.lookup x=some .local:=by first|exact .inl rfl|exact .inr rfl|assumption):iD X G E (.Assign [.Name x pos'] e pos) (aK me (aD i)):=Z5 hN hi hx he hs hf
theorem eG{sc os:gf}{oN N:Ax}{cap:List (Option Nat)}(hs:X.env.scope.names=os.names:=by rfl)(hN:X.N=oN:=by rfl)(h1:sc.kind=.function:=by rfl)(h2:∀p∈sc.names,p.2=.local->sc.names.lookup p.1=some .local:=by decide+kernel)(h3:cap.length=N.length:=by rfl)(h4:∀p∈sc.names,p.2=.free->os.names.lookup p.1=some .cell∨os.names.lookup p.1=some .free:=by decide+kernel)(h5:∀p∈sc.names,p.2=.free->(p.1,dy)∉sc.names:=by decide+kernel)(h6:∀q∈cap.zip N,∀j∈q.1,oN[j]?=some q.2/\sc.names.lookup q.2=some .free:=by decide+kernel):Cc X sc N cap:=z00 hs hN h1 h2 h3 h4 h5 h6
end
theorem cP{N P:Ax}{sc:gf}(h1:sc.kind=.function:=by rfl)(h2:sc.isCoroutine=false:=by rfl)(h3:sc.isGenerator=false:=by rfl)(h4:N.Nodup:=by decide+kernel)(h5:N.take P.length=P:=by rfl)(h6:∀x∈P,sc.names.lookup x=some .local∨sc.names.lookup x=some .cell:=by decide+kernel)(h7:∀y∈sc.names,y.2≠.free:=by decide+kernel):Bd N P sc:=⟨h1,h2,h3,h4,h5,h6,h7⟩
open PySem.W in
theorem cQ{F:List (Frag->Bool)}{K:Frag}{l m:List (Option bh)}(hf:l=m)(hc:F.all (λf=>f K)=true)(f:ai)(st:fv)(n:Str)(c:ai)(ps:Ax)(i j k:Nat)(hb:∀(kV doc pm:af)(an:Option ai)(cdv ct:af)(us:List af),us.length=ps.length->bindArgs (fnOf n n (pO st) (mO st) (aZ st) .none kV doc pm an cdv ct) ⟨us,[]⟩=pure (ps.zip us))(h1:l[i]?=some (cJ K f):=by rfl)(h2:m[i]?=some (some (fnOf n n (pO st) (mO st) (aZ st) .none .none .none .none none (.ref c) .none)):=by rfl)(h3:F[j]?=some (codeIn · (.ref c) n):=by rfl)(h4:F[k]?=some (keepIn · (.ref f)):=by rfl):
  ∃fd:bh,Fun K n n st f fd/\Binds K fd ps []/\fd.code=.ref c/\∀us:List af,us.length=ps.length->bindArgs fd ⟨us,[]⟩=pure (ps.zip us):=y8 (UQ hf i h1 h2) (pL hc j h3) (pL hc k h4) hb
structure Fd(K:au)(mg:Str->Option af)(x:Str)(ps:Ax)(st:fv)(f:ai)(fd:bh):Prop where
 F:Fun K x x st f fd
 B:Binds K fd ps []
 m:mg x=some (.ref f)
theorem bD{k:Nat}{f:ai}{X:Cx}{G:Cfg}{E:XK}{F:Ay}{ps:Ax}{st:fv}{fd:bh}{x:Str}{p pos:Pos}{e:bq}{es:List bq}{ms:M Az}{j:Nat}(g:Good X G E k)(Fn:Bj X.prog X.w X.K X.mg X.base (cB X.prog X.w X.base) j f fd ps (cH G F))(D:Fd X.K X.mg x ps st f fd)(ha:dP X G E (e::es) ms)(hj:j<=k:=by decide)(hg:Gl X x:=by exact rfl)(Eu:(x==Gw)=false:=by decide)(he:ar (e::es) X.env=(false,eval e X.env)::ar es X.env:=by rfl)(Co:(backTo pos (ar es X.env)).any (·.1)=false:=by rfl):
  aI X G E (.Call (.Name x p) (e::es) [] pos) (aB F ms):=d8 g Fn hj hg D.m D.F.kp D.B ha Eu he Co
theorem sV{X:Cx}{G:Cfg}{E:XK}{x:Str}{pos:Pos}{i:Nat}(hi:X.N[i]?=some x:=by rfl)(hv:sN X.env.scope x:=by first|exact .inl rfl|exact .inr (.inl rfl)|exact .inr (.inr rfl))(hd1:(x==Gw)=false:=by decide)(hd2:(x==("__classdict__":Str))=false:=by decide):aI X G E (.Name x pos) (aA i):=fO i hi hv hd1 hd2
end L2.Mr
namespace L2.Mr.K74
open L2.Mr.Cod
open L2.Mr.Com
open L2.Mr.K60 (iK kC)
open L2.Mr.K82 (jH lL lM nJ kS nK nM qH jV tY)
open L2.Mr.K05 (iL jU mF nG mG nI)
open L2.Mr.K63 (gM tZ)
def cS(i:Nat):fv:=aa.main.body.getD i (.Pass ⟨0,0,0,0⟩)
abbrev G2:fv:=cS 8
abbrev G3:fv:=cS 9
abbrev G4:fv:=cS 10
abbrev A9:fv:=cS 11
abbrev G5:fv:=cS 12
abbrev G6:fv:=cS 16
abbrev BA:fv:=cS 17
abbrev G7:fv:=cS 18
abbrev BB:fv:=cS 19
abbrev BC:fv:=cS 20
abbrev BD:fv:=cS 21
abbrev G8:fv:=cS 22
abbrev G9:fv:=cS 23
abbrev HB:fv:=cS 24
abbrev HC:fv:=cS 25
abbrev BE:fv:=cS 26
abbrev HD:fv:=cS 27
abbrev BF:fv:=cS 28
abbrev BG:fv:=cS 29
abbrev BH:fv:=cS 32
abbrev BI:fv:=cS 33
abbrev BJ:fv:=cS 34
abbrev BK:fv:=cS 35
abbrev HE:fv:=cS 36
abbrev HF:fv:=cS 37
abbrev HG:fv:=cS 38
abbrev xH:fv:=cS 39
abbrev BL:fv:=cS 40
abbrev BM:fv:=cS 41
abbrev BN:fv:=cS 42
abbrev xI:fv:=cS 44
abbrev BO:fv:=cS 45
abbrev HH:fv:=cS 46
abbrev BP:fv:=cS 47
abbrev xJ:fv:=cS 49
abbrev BQ:fv:=cS 50
abbrev HI:fv:=cS 51
abbrev BR:fv:=cS 52
abbrev BS:fv:=cS 54
abbrev BU:fv:=cS 55
abbrev HJ:fv:=cS 57
abbrev HK:fv:=cS 58
abbrev HL:fv:=cS 59
abbrev HM:fv:=cS 60
abbrev HN:fv:=cS 61
abbrev HP:fv:=cS 62
abbrev BV:fv:=cS 63
abbrev HQ:fv:=cS 64
abbrev BW:fv:=cS 65
abbrev BX:fv:=cS 66
set_option genInjectivity false in
structure Ad where
 f_qC:ai
 fd_qC:bh
 f_qu:ai
 fd_qu:bh
 f_qj:ai
 fd_qj:bh
 f_q5:ai
 fd_q5:bh
 f_q0:ai
 fd_q0:bh
 f_qB:ai
 fd_qB:bh
 f_qt:ai
 fd_qt:bh
 f_qG:ai
 fd_qG:bh
 f_q3:ai
 fd_q3:bh
 f_q4:ai
 fd_q4:bh
 f_ql:ai
 fd_ql:bh
 f_qA:ai
 fd_qA:bh
 f_qx:ai
 fd_qx:bh
 f_qz:ai
 fd_qz:bh
 f_qE:ai
 fd_qE:bh
 f_q8:ai
 fd_q8:bh
 f_q2:ai
 fd_q2:bh
 f_qw:ai
 fd_qw:bh
 f_qo:ai
 fd_qo:bh
 f_qy:ai
 fd_qy:bh
 f_qd:ai
 fd_qd:bh
 f_qi:ai
 fd_qi:bh
 f_qg:ai
 fd_qg:bh
 f_qn:ai
 fd_qn:bh
 f_qh:ai
 fd_qh:bh
 f_qH:ai
 fd_qH:bh
 f_q6:ai
 fd_q6:bh
 f_qe:ai
 fd_qe:bh
 f_qM:ai
 fd_qM:bh
 f_qL:ai
 fd_qL:bh
 f_qF:ai
 fd_qF:bh
 f_qI:ai
 fd_qI:bh
 f_qJ:ai
 fd_qJ:bh
 f_qm:ai
 fd_qm:bh
 f_qD:ai
 fd_qD:bh
 f_q9:ai
 fd_q9:bh
 f_qK:ai
 fd_qK:bh
 f_qc:ai
 fd_qc:bh
 f_qb:ai
 fd_qb:bh
 f_qv:ai
 fd_qv:bh
 f_q1:ai
 fd_q1:bh
 f_qr:ai
 fd_qr:bh
 f_qf:ai
 fd_qf:bh
 f_qs:ai
 fd_qs:bh
 f_qp:ai
 fd_qp:bh
 f_qk:ai
 fd_qk:bh
 f_qq:ai
 fd_qq:bh
 f_q7:ai
 fd_q7:bh
 f_qa:ai
 fd_qa:bh
 f_qN:ai
 fd_qN:bh
 c_NoOrder:ai
 c_NoNumber:ai
 t_MOST_THINGS:Tok
 t_MOST_APART:Tok
 t_MOST_SIZES:Tok
 NE:ai
structure Tx(K:au)(mg:Str->Option af)(G:Cf0)(A:Ad):Prop where
 hK:K=G.K
 d_is_whole:Fd K mg "is_whole" ["thing"] G2 A.f_qC A.fd_qC
 d_is_between:Fd K mg "is_between" ["thing","low","high"] G3 A.f_qu A.fd_qu
 d_need_between:Fd K mg "need_between" ["thing","low","high"] G4 A.f_qj A.fd_qj
 d_is_rising:Fd K mg "is_rising" ["parts"] A9 A.f_q5 A.fd_q5
 d_rounded_up:Fd K mg "rounded_up" ["number","by"] G5 A.f_q0 A.fd_q0
 d_is_thing:Fd K mg "is_thing" ["many","thing"] G6 A.f_qB A.fd_qB
 d_are_things:Fd K mg "are_things" ["many","thing"] BA A.f_qt A.fd_qt
 d_is_pair:Fd K mg "is_pair" ["many","thing"] G7 A.f_qG A.fd_qG
 d_are_pairs:Fd K mg "are_pairs" ["many","things"] BB A.f_q3 A.fd_q3
 d_has_alike:Fd K mg "has_alike" ["pairs"] BC A.f_q4 A.fd_q4
 d_is_complete:Fd K mg "is_complete" ["pairs"] BD A.f_ql A.fd_ql
 d_is_order:Fd K mg "is_order" ["thing"] G8 A.f_qA A.fd_qA
 d_need_order:Fd K mg "need_order" ["order"] G9 A.f_qx A.fd_qx
 d_need_thing:Fd K mg "need_thing" ["order","thing"] HB A.f_qz A.fd_qz
 d_need_few:Fd K mg "need_few" ["many"] HC A.f_qE A.fd_qE
 d_ahead_of:Fd K mg "ahead_of" ["order","thing"] BE A.f_q8 A.fd_q8
 d_are_loose:Fd K mg "are_loose" ["order","one","other"] HD A.f_q2 A.fd_q2
 d_loose_from:Fd K mg "loose_from" ["order","thing"] BF A.f_qw A.fd_qw
 d_loose_pairs:Fd K mg "loose_pairs" ["order"] BG A.f_qo A.fd_qo
 d_need_sizes:Fd K mg "need_sizes" ["sizes"] BH A.f_qy A.fd_qy
 d_group_numbers:Fd K mg "group_numbers" ["sizes"] BI A.f_qd A.fd_qd
 d_levels_order:Fd K mg "levels_order" ["sizes"] BJ A.f_qi A.fd_qi
 d_chains_order:Fd K mg "chains_order" ["sizes"] BK A.f_qg A.fd_qg
 d_levels_span:Fd K mg "levels_span" ["sizes"] HE A.f_qn A.fd_qn
 d_chains_reach:Fd K mg "chains_reach" ["sizes"] HF A.f_qh A.fd_qh
 d_is_bar:Fd K mg "is_bar" ["order","a","b","c"] HG A.f_qH A.fd_qH
 d_levels_of:Fd K mg "levels_of" ["order"] xH A.f_q6 A.fd_q6
 d_levels_or_bar:Fd K mg "levels_or_bar" ["order"] BL A.f_qe A.fd_qe
 d_fence:Fd K mg "fence" ["many"] BM A.f_qM A.fd_qM
 d_crown:Fd K mg "crown" ["half"] BN A.f_qL A.fd_qL
 d_needs_of:Fd K mg "needs_of" ["order","reach"] xI A.f_qF A.fd_qF
 d_raised:Fd K mg "raised" ["places","needs"] BO A.f_qI A.fd_qI
 d_seated:Fd K mg "seated" ["order","reach"] HH A.f_qJ A.fd_qJ
 d_least_reach:Fd K mg "least_reach" ["order"] BP A.f_qm A.fd_qm
 d_may_come:Fd K mg "may_come" ["order","begun"] xJ A.f_qD A.fd_qD
 d_all_rows:Fd K mg "all_rows" ["order"] BQ A.f_q9 A.fd_q9
 d_apart:Fd K mg "apart" ["row","pair"] HI A.f_qK A.fd_qK
 d_greatest_apart:Fd K mg "greatest_apart" ["row","pairs"] BR A.f_qc A.fd_qc
 d_rows_with_spans:Fd K mg "rows_with_spans" ["order"] BS A.f_qb A.fd_qb
 d_least_span:Fd K mg "least_span" ["order"] BU A.f_qv A.fd_qv
 d__law_take:Fd K mg "_law_take" ["_law_state_here","_law_many"] HJ A.f_q1 A.fd_q1
 d__law_sizes:Fd K mg "_law_sizes" ["_law_state_here"] HK A.f_qr A.fd_qr
 d__law_cell_at:Fd K mg "_law_cell_at" ["_law_script","_law_k"] HL A.f_qf A.fd_qf
 d__law_state:Fd K mg "_law_state" ["_law_script","_law_k"] HM A.f_qs A.fd_qs
 d__law_mixed:Fd K mg "_law_mixed" ["_law_state_here","_law_many"] HN A.f_qp A.fd_qp
 d__law_closed:Fd K mg "_law_closed" ["_law_many","_law_pairs"] HP A.f_qk A.fd_qk
 d__law_order:Fd K mg "_law_order" ["_law_state_here","_law_most"] BV A.f_qq A.fd_qq
 d__law_few:Fd K mg "_law_few" ["_law_state_here"] HQ A.f_q7 A.fd_q7
 d__law_levels_right:Fd K mg "_law_levels_right" ["_law_order_here"] BW A.f_qa A.fd_qa
 d_law:Fd K mg "law" ["_law_script"] BX A.f_qN A.fd_qN
 z_abs:mg "abs"=none
 z_all:mg "all"=none
 z_any:mg "any"=none
 z_bool:mg "bool"=none
 z_enumerate:mg "enumerate"=none
 z_int:mg "int"=none
 z_isinstance:mg "isinstance"=none
 z_len:mg "len"=none
 z_list:mg "list"=none
 z_max:mg "max"=none
 z_min:mg "min"=none
 z_range:mg "range"=none
 z_set:mg "set"=none
 z_sorted:mg "sorted"=none
 z_sum:mg "sum"=none
 z_tuple:mg "tuple"=none
 z_zip:mg "zip"=none
 c_MOST_THINGS:mg "MOST_THINGS"=some (.int 6 A.t_MOST_THINGS)
 c_MOST_APART:mg "MOST_APART"=some (.int 5 A.t_MOST_APART)
 c_MOST_SIZES:mg "MOST_SIZES"=some (.int 6 A.t_MOST_SIZES)
 n_NoOrder:mg "NoOrder"=some (.ref A.c_NoOrder)
 n_NoNumber:mg "NoNumber"=some (.ref A.c_NoNumber)
 ns_NoOrder:sh K dz "NoOrder"=some (some (.ref A.c_NoOrder))
 x_NoOrder:qv K A.c_NoOrder vL "ValueError.__new__"=true
 ce_NoOrder:A.c_NoOrder=G.cl 0
 ns_NoNumber:sh K dz "NoNumber"=some (some (.ref A.c_NoNumber))
 x_NoNumber:qv K A.c_NoNumber vL "ValueError.__new__"=true
 ce_NoNumber:A.c_NoNumber=G.cl 1
theorem QP:(["one","other"]:Ax).Nodup:=by decide+kernel
theorem nd6:(["part","many"]:Ax).Nodup:=by decide+kernel
theorem nd8:(["thing","many"]:Ax).Nodup:=by decide+kernel
theorem BY:(["a","b"]:Ax).Nodup:=by decide+kernel
theorem BZ:(["a","b","middle","c","pairs"]:Ax).Nodup:=by decide+kernel
theorem QQ:(["thing","many","pairs"]:Ax).Nodup:=by decide+kernel
theorem QR:(["a","b","thing"]:Ax).Nodup:=by decide+kernel
theorem z3o:(["order","one","other","pairs"]:Ax).Nodup:=by decide+kernel
theorem z3p:(["other","order","thing"]:Ax).Nodup:=by decide+kernel
theorem z3q:(["order","many"]:Ax).Nodup:=by decide+kernel
theorem QS:(["a","b","order","many"]:Ax).Nodup:=by decide+kernel
theorem z3r:(["size"]:Ax).Nodup:=by decide+kernel
theorem HR:(["group","size","thing"]:Ax).Nodup:=by decide+kernel
theorem CA:(["sizes","groups","many"]:Ax).Nodup:=by decide+kernel
theorem CB:(["a","b","groups","many"]:Ax).Nodup:=by decide+kernel
theorem z3s:(["order","ahead"]:Ax).Nodup:=by decide+kernel
theorem z3t:(["thing","order"]:Ax).Nodup:=by decide+kernel
theorem z3u:(["many","order","ahead"]:Ax).Nodup:=by decide+kernel
theorem z3v:(["thing","many","ahead"]:Ax).Nodup:=by decide+kernel
theorem QT:(["order","things","bars"]:Ax).Nodup:=by decide+kernel
theorem HS:(["a","b","c","order","things"]:Ax).Nodup:=by decide+kernel
theorem QU:(["a","b","many"]:Ax).Nodup:=by decide+kernel
theorem QV:(["i","j","half"]:Ax).Nodup:=by decide+kernel
theorem CC:(["order","reach","many","pairs","up","aside"]:Ax).Nodup:=by decide+kernel
theorem QW:(["a","b","reach","order","many"]:Ax).Nodup:=by decide+kernel
theorem QX:(["thing","place","needs","places"]:Ax).Nodup:=by decide+kernel
theorem HU:(["a","b","by","places","thing"]:Ax).Nodup:=by decide+kernel
theorem CD:(["order","reach","needs","places","higher"]:Ax).Nodup:=by decide+kernel
theorem z3w:(["reach","order"]:Ax).Nodup:=by decide+kernel
theorem HV:(["order","begun","many","pairs","waiting"]:Ax).Nodup:=by decide+kernel
theorem QY:(["a","b","begun"]:Ax).Nodup:=by decide+kernel
theorem z3x:(["thing","begun","waiting"]:Ax).Nodup:=by decide+kernel
theorem HW:(["order","rows","place"]:Ax).Nodup:=by decide+kernel
theorem QZ:(["begun","thing","order"]:Ax).Nodup:=by decide+kernel
theorem z3y:(["row","pairs"]:Ax).Nodup:=by decide+kernel
theorem z3z:(["pair","row"]:Ax).Nodup:=by decide+kernel
theorem z40:(["order","pairs"]:Ax).Nodup:=by decide+kernel
theorem Q0:(["row","span"]:Ax).Nodup:=by decide+kernel
theorem HX:(["_law_state_here","_law_many","_law_found","_law_stirred"]:Ax).Nodup:=by decide+kernel
theorem uD:(["_law_state_here","_law_found","_law_turn","_law_left","_law_kept","_law_size"]:Ax).Nodup:=by decide+kernel
theorem z41:(["_law_script","_law_k","_law_cell"]:Ax).Nodup:=by decide+kernel
theorem Q2:(["_law_state_here","_law_many","_law_left","_law_found"]:Ax).Nodup:=by decide+kernel
theorem CF:(["_law_many","_law_pairs","_law_found","_law_middle","_law_a","_law_b"]:Ax).Nodup:=by decide+kernel
abbrev Bb:List PySem.Str:=["_law_state_here","_law_most","_law_many","_law_row","_law_way","_law_kind","_law_pairs","_law_at","_law_later","_law_linked"]
theorem mH:(Bb:Ax).Nodup:=by decide+kernel
theorem z42:(["_law_thing","_law_state_here"]:Ax).Nodup:=by decide+kernel
theorem Q3:(["_law_state_here","_law_sizes_here"]:Ax).Nodup:=by decide+kernel
abbrev Bc:List PySem.Str:=["_law_order_here","_law_word","_law_thing","_law_a","_law_b","_law_c"]
theorem xK:(Bc:Ax).Nodup:=by decide+kernel
theorem Q4:(["_law_level"]:Ax).Nodup:=by decide+kernel
abbrev Ba:List PySem.Str:=["_law_script","_law_k","_law_state_here","_law_sizes_here","_law_levels","_law_chains","_law_some","_law_order_here"]
theorem uE:(Ba:Ax).Nodup:=by decide+kernel
section
variable{P:bj}{w:cn}{K:au}{mg:Str->Option af}{base:cy}{G:Cfg}{A:Ad}
theorem z43:Bd ["thing"] ["thing"] (aZ G2):=cP
theorem Q5(T:Tx K mg G A):Bj P w K mg base (cB P w base) 1 A.f_qC A.fd_qC ["thing"] (cH G qE):=cT (k:=0) T.d_is_whole.F z43 T.hK λ_ _ _ _ _ _ _ g=>(bB (cC (kZ (z0e rfl T.z_isinstance rfl T.z_int sV) (oO (L5 (z0f rfl T.z_isinstance rfl T.z_bool sV))))))
theorem z44:Bd ["thing","low","high"] ["thing","low","high"] (aZ G3):=cP
theorem HY(T:Tx K mg G A):Bj P w K mg base (cB P w base) 2 A.f_qu A.fd_qu ["thing","low","high"] (cH G rQ):=cT (k:=1) T.d_is_between.F z44 T.hK λ_ _ _ _ _ _ _ g=>(bB (cC (kZ (bD g (Q5 T) T.d_is_whole (aV sV)) (oO (z05 sV sV sV)))))
theorem z45:Bd ["thing","low","high"] ["thing","low","high"] (aZ G4):=cP
theorem HZ(T:Tx K mg G A):Bj P w K mg base (cB P w base) 3 A.f_qj A.fd_qj ["thing","low","high"] (cH G qF):=cT (k:=2) T.d_need_between.F z45 T.hK λ_ _ _ _ _ _ _ g=>(bB (eV (kY (iA (bD g (HY T) T.d_is_between (jO sV sV sV)))) (bB (h9 (slots:=[1,2]) g rfl T.n_NoNumber T.ns_NoNumber T.x_NoNumber T.ce_NoNumber (Dr.cons (MY (by decide)) (Dr.cons (M0 (DF (i:=1) rfl (by first|exact Af rfl|exact Or.inr (Af rfl)))) (Dr.cons (MY (by decide)) (Dr.cons (M0 (DF (i:=2) rfl (by first|exact Af rfl|exact Or.inr (Af rfl)))) Dr.nil)))) (λσ hh=>⟨trivial,hh 1 (by decide),trivial,hh 2 (by decide),trivial⟩))) eU))
theorem z46:Bd ["parts"] ["parts"] (aZ A9):=cP
theorem z47(T:Tx K mg G A):Bj P w K mg base (cB P w base) 1 A.f_q5 A.fd_q5 ["parts"] (cH G AU):=cT (k:=0) T.d_is_rising.F z46 T.hK λ_ _ _ _ _ _ _ g=>(bB (cC (vP g.calm rfl T.z_all (gS g.calm (eG (N:=["one","other"]) (os:=(aZ A9)) (oN:=["parts"])) (p9 rfl T.z_zip (bO sV (P6 sV (NK aS) NJ))) (λ_ _ _=>(jC (cZ g).calm (dX (bM QP) (dX (bM QP) jB)))) (λ_ _ _=>eQ) (λ_ _ _=>(GB (cZ g) sV sV))))))
theorem z48:Bd ["number","by"] ["number","by"] (aZ G5):=cP
theorem z49(T:Tx K mg G A):Bj P w K mg base (cB P w base) 1 A.f_q0 A.fd_q0 ["number","by"] (cH G iK):=cT (k:=0) T.d_rounded_up.F z48 T.hK λ_ _ _ _ _ _ _ g=>(bB (cC (vX (FO (vX sV) sV))))
theorem z4a:Bd ["many","thing"] ["many","thing"] (aZ G6):=cP
theorem Q6(T:Tx K mg G A):Bj P w K mg base (cB P w base) 3 A.f_qB A.fd_qB ["many","thing"] (cH G pB):=cT (k:=2) T.d_is_thing.F z4a T.hK λ_ _ _ _ _ _ _ g=>(bB (cC (bD g (HY T) T.d_is_between (jO sV aS (oW sV aS)))))
theorem z4b:Bd ["many","thing"] ["many","thing"] (aZ BA):=cP
theorem z4c(T:Tx K mg G A):Bj P w K mg base (cB P w base) 4 A.f_qt A.fd_qt ["many","thing"] (cH G wV):=cT (k:=3) T.d_are_things.F z4b T.hK λ_ _ _ _ _ _ _ g=>(bB (cC (kZ (FD rfl T.z_isinstance rfl T.z_tuple sV) (oO (vP g.calm rfl T.z_all (gS g.calm (eG (N:=["part","many"]) (os:=(aZ BA)) (oN:=["many","thing"])) (mT sV) (λ_ _ _=>(bM nd6)) (λ_ _ _=>eQ) (λ_ _ _=>(bD (cZ g) (Q6 T) T.d_is_thing (bO sV sV)))))))))
theorem z4d:Bd ["many","thing"] ["many","thing"] (aZ G7):=cP
theorem z4e(T:Tx K mg G A):Bj P w K mg base (cB P w base) 5 A.f_qG A.fd_qG ["many","thing"] (cH G tU):=cT (k:=4) T.d_is_pair.F z4d T.hK λ_ _ _ _ _ _ _ g=>(bB (cC (kZ (bD g (z4c T) T.d_are_things (bO sV sV)) (oO (tM g (mY rfl T.z_len (aV sV)) aS)))))
theorem z4f:Bd ["many","things"] ["many","things"] (aZ BB):=cP
theorem z4g(T:Tx K mg G A):Bj P w K mg base (cB P w base) 6 A.f_q3 A.fd_q3 ["many","things"] (cH G AV):=cT (k:=5) T.d_are_pairs.F z4f T.hK λ_ _ _ _ _ _ _ g=>(bB (cC (vP g.calm rfl T.z_all (gS g.calm (eG (N:=["thing","many"]) (os:=(aZ BB)) (oN:=["many","things"])) (mT sV) (λ_ _ _=>(bM nd8)) (λ_ _ _=>eQ) (λ_ _ _=>(bD (cZ g) (z4e T) T.d_is_pair (bO sV sV)))))))
theorem z4h:Bd ["pairs"] ["pairs"] (aZ BC):=cP
theorem z4i(T:Tx K mg G A):Bj P w K mg base (cB P w base) 1 A.f_q4 A.fd_q4 ["pairs"] (cH G AW):=cT (k:=0) T.d_has_alike.F z4h T.hK λ_ _ _ _ _ _ _ g=>(bB (cC (l8 g.calm rfl T.z_any (gS g.calm (eG (N:=["a","b"]) (os:=(aZ BC)) (oN:=["pairs"])) (mT sV) (λ_ _ _=>(jC (cZ g).calm (dX (bM BY) (dX (bM BY) jB)))) (λ_ _ _=>eQ) (λ_ _ _=>(tM (cZ g) sV sV))))))
theorem z4j:Bd ["pairs"] ["pairs"] (aZ BD):=cP
theorem z4k(T:Tx K mg G A):Bj P w K mg base (cB P w base) 1 A.f_ql A.fd_ql ["pairs"] (cH G AX):=cT (k:=0) T.d_is_complete.F z4j T.hK λ_ _ _ _ _ _ _ g=>(bB (cC (vP g.calm rfl T.z_all (qV g.calm (eG (N:=["a","b","middle","c","pairs"]) (os:=(aZ BD)) (oN:=["pairs"])) (mT sV) (λ_ _ _=>(jC (cZ g).calm (dX (bM BZ) (dX (bM BZ) jB)))) (λ_ _ _=>eQ) (λ_ _ _=>(mT sV)) (λ_ _ _=>(jC (cZ g).calm (dX (bM BZ) (dX (bM BZ) jB)))) (λ_ _ _=>(jR (lY (cZ g) sV sV))) (λ_ _ _=>(wF (cZ g) (eM (bO sV sV)) sV))))))
theorem z4l:Bd ["thing","many","pairs"] ["thing"] (aZ G8):=cP
theorem Q7(T:Tx K mg G A):Bj P w K mg base (cB P w base) 7 A.f_qA A.fd_qA ["thing"] (cH G mE):=cT (k:=6) T.d_is_order.F z4l T.hK λ_ _ _ _ _ _ _ g=>(bG (eV (Gr (pQ (kY (iA (FD rfl T.z_isinstance rfl T.z_tuple sV))) (pP (pX g (mY rfl T.z_len (aV sV)) aS)))) (bB (cC kK)) eU) (bG (vH sV (jC g.calm (dX (bM QQ) (dX (bM QQ) jB)))) (bG (eV (Gr (pQ (kY (iA (bD g (HY T) T.d_is_between (jO sV aS (tJ rfl T.c_MOST_THINGS))))) (pP (kY (iA (FD rfl T.z_isinstance rfl T.z_tuple sV)))))) (bB (cC kK)) eU) (bG (eV (Gr (pQ (kY (iA (bD g (z4g T) T.d_are_pairs (bO sV sV)))) (pP (kY (iA (bD g (z47 T) T.d_is_rising (aV sV))))))) (bB (cC kK)) eU) (bB (cC (kZ (L5 (bD g (z4i T) T.d_has_alike (aV sV))) (oO (bD g (z4k T) T.d_is_complete (aV sV))))))))))
theorem z4m:Bd ["order"] ["order"] (aZ G9):=cP
theorem xM(T:Tx K mg G A):Bj P w K mg base (cB P w base) 8 A.f_qx A.fd_qx ["order"] (cH G eJ):=cT (k:=7) T.d_need_order.F z4m T.hK λ_ _ _ _ _ _ _ g=>(bB (eV (kY (iA (bD g (Q7 T) T.d_is_order (aV sV)))) (bB (e8 g rfl T.n_NoOrder T.ns_NoOrder T.x_NoOrder T.ce_NoOrder (aV sW))) eU))
theorem z4n:Bd ["order","thing"] ["order","thing"] (aZ HB):=cP
theorem Q8(T:Tx K mg G A):Bj P w K mg base (cB P w base) 9 A.f_qz A.fd_qz ["order","thing"] (cH G qI):=cT (k:=8) T.d_need_thing.F z4n T.hK λ_ _ _ _ _ _ _ g=>(bG (gZ (bD g (xM T) T.d_need_order (aV sV))) (bB (eV (kY (iA (bD g (Q6 T) T.d_is_thing (bO (dG sV aS) sV)))) (bB A4) eU)))
theorem z4o:Bd ["many"] ["many"] (aZ HC):=cP
theorem z4p(T:Tx K mg G A):Bj P w K mg base (cB P w base) 1 A.f_qE A.fd_qE ["many"] (cH G jH):=cT (k:=0) T.d_need_few.F z4o T.hK λ_ _ _ _ _ _ _ g=>(bB (eV (NO sV (tJ rfl T.c_MOST_THINGS)) (bB A4) eU))
theorem z4q:Bd ["order","thing"] ["order","thing"] (aZ BE):=cP
theorem Q9(T:Tx K mg G A):Bj P w K mg base (cB P w base) 10 A.f_q8 A.fd_q8 ["order","thing"] (cH G pD):=cT (k:=9) T.d_ahead_of.F z4q T.hK λ_ _ _ _ _ _ _ g=>(bG (gZ (bD g (Q8 T) T.d_need_thing (bO sV sV))) (bB (cC (jD (gS g.calm (eG (N:=["a","b","thing"]) (os:=(aZ BE)) (oN:=["order","thing"])) (mT (dG sV aS)) (λ_ _ _=>(jC (cZ g).calm (dX (bM QR) (dX (bM QR) jB)))) (λ_ _ _=>(jR (lY (cZ g) sV sV))) (λ_ _ _=>sV))))))
theorem z4r:Bd ["order","one","other","pairs"] ["order","one","other"] (aZ HD):=cP
theorem xN(T:Tx K mg G A):Bj P w K mg base (cB P w base) 1 A.f_q2 A.fd_q2 ["order","one","other"] (cH G eZ):=cT (k:=0) T.d_are_loose.F z4r T.hK λ_ _ _ _ _ _ _ g=>(bG (dM z3o (dG sV aS)) (bB (cC (kZ (z02 g sV sV) (kZ (N0 g (eM (bO sV sV)) sV) (oO (N0 g (eM (bO sV sV)) sV)))))))
theorem z4s:Bd ["order","thing"] ["order","thing"] (aZ BF):=cP
theorem RA(T:Tx K mg G A):Bj P w K mg base (cB P w base) 10 A.f_qw A.fd_qw ["order","thing"] (cH G uA):=cT (k:=9) T.d_loose_from.F z4s T.hK λ_ _ _ _ _ _ _ g=>(bG (gZ (bD g (Q8 T) T.d_need_thing (bO sV sV))) (bB (cC (jD (gS g.calm (eG (N:=["other","order","thing"]) (os:=(aZ BF)) (oN:=["order","thing"])) (gK rfl T.z_range (aV (dG sV aS))) (λ_ _ _=>(bM z3p)) (λ_ _ _=>(jR (iA (bD (cZ g) (xN T) T.d_are_loose (jO sV sV sV))))) (λ_ _ _=>sV))))))
theorem z4t:Bd ["order","many"] ["order"] (aZ BG):=cP
theorem z4u(T:Tx K mg G A):Bj P w K mg base (cB P w base) 9 A.f_qo A.fd_qo ["order"] (cH G iL):=cT (k:=8) T.d_loose_pairs.F z4t T.hK λ_ _ _ _ _ _ _ g=>(bG (gZ (bD g (xM T) T.d_need_order (aV sV))) (bG (dM z3q (dG sV aS)) (bB (cC (jD (qV g.calm (eG (N:=["a","b","order","many"]) (os:=(aZ BG)) (oN:=["order","many"])) (gK rfl T.z_range (aV sV)) (λ_ _ _=>(bM QS)) (λ_ _ _=>eQ) (λ_ _ _=>(EX rfl T.z_range (bO (gW sV aS) sV))) (λ_ _ _=>(bM QS)) (λ_ _ _=>(jR (iA (bD (cZ g) (xN T) T.d_are_loose (jO sV sV sV))))) (λ_ _ _=>(eM (bO sV sV)))))))))
theorem z4v:Bd ["sizes"] ["sizes"] (aZ BH):=cP
theorem IA(T:Tx K mg G A):Bj P w K mg base (cB P w base) 2 A.f_qy A.fd_qy ["sizes"] (cH G pE):=cT (k:=1) T.d_need_sizes.F z4v T.hK λ_ _ _ _ _ _ _ g=>(bG (eV (Gr (pQ (kY (iA (z0g rfl T.z_isinstance rfl T.z_list sV))) (pP (kY (z06 aS (mY rfl T.z_len (aV sV)) (tJ rfl T.c_MOST_SIZES)))))) (bB A4) eU) (bB (eV (kY (iA (vP g.calm rfl T.z_all (gS g.calm (eG (N:=["size"]) (os:=(aZ BH)) (oN:=["sizes"])) (jQ sV) (λ_ _ _=>(bM z3r)) (λ_ _ _=>eQ) (λ_ _ _=>(kZ (bD (cZ g) (Q5 T) T.d_is_whole (aV sV)) (oO (z01 sV aS)))))))) (bB A4) eU)))
theorem z4w:Bd ["sizes"] ["sizes"] (aZ BI):=cP
theorem RC(T:Tx K mg G A):Bj P w K mg base (cB P w base) 3 A.f_qd A.fd_qd ["sizes"] (cH G qJ):=cT (k:=2) T.d_group_numbers.F z4w T.hK λ_ _ _ _ _ _ _ g=>(bG (gZ (bD g (IA T) T.d_need_sizes (aV sV))) (bG (gZ (bD g (z4p T) T.d_need_few (aV (zX g.calm rfl T.z_sum (aV sV))))) (bB (cC (jD (qV g.calm (eG (N:=["group","size","thing"]) (os:=(aZ BI)) (oN:=["sizes"])) (NR rfl T.z_enumerate (aV sV)) (λ_ _ _=>(jC (cZ g).calm (dX (bM HR) (dX (bM HR) jB)))) (λ_ _ _=>eQ) (λ_ _ _=>(gK rfl T.z_range (aV sV))) (λ_ _ _=>(bM HR)) (λ_ _ _=>eQ) (λ_ _ _=>sV)))))))
theorem z4x:Bd ["sizes","groups","many"] ["sizes"] (aZ BJ):=cP
theorem z4y(T:Tx K mg G A):Bj P w K mg base (cB P w base) 4 A.f_qi A.fd_qi ["sizes"] (cH G xA):=cT (k:=3) T.d_levels_order.F z4x T.hK λ_ _ _ _ _ _ _ g=>(bG (dM CA (bD g (RC T) T.d_group_numbers (aV sV))) (bG (dM CA (mY rfl T.z_len (aV sV))) (bB (cC (eM (bO sV (vQ rfl T.z_tuple (qV g.calm (eG (N:=["a","b","groups","many"]) (os:=(aZ BJ)) (oN:=["sizes","groups","many"])) (gK rfl T.z_range (aV sV)) (λ_ _ _=>(bM CB)) (λ_ _ _=>eQ) (λ_ _ _=>(gK rfl T.z_range (aV sV))) (λ_ _ _=>(bM CB)) (λ_ _ _=>(jR (AS (cZ g) (dG sV sV) (dG sV sV)))) (λ_ _ _=>(eM (bO sV sV)))))))))))
theorem z4z:Bd ["sizes","groups","many"] ["sizes"] (aZ BK):=cP
theorem z50(T:Tx K mg G A):Bj P w K mg base (cB P w base) 4 A.f_qg A.fd_qg ["sizes"] (cH G xB):=cT (k:=3) T.d_chains_order.F z4z T.hK λ_ _ _ _ _ _ _ g=>(bG (dM CA (bD g (RC T) T.d_group_numbers (aV sV))) (bG (dM CA (mY rfl T.z_len (aV sV))) (bB (cC (eM (bO sV (vQ rfl T.z_tuple (qV g.calm (eG (N:=["a","b","groups","many"]) (os:=(aZ BK)) (oN:=["sizes","groups","many"])) (gK rfl T.z_range (aV sV)) (λ_ _ _=>(bM CB)) (λ_ _ _=>eQ) (λ_ _ _=>(EX rfl T.z_range (bO (gW sV aS) sV))) (λ_ _ _=>(bM CB)) (λ_ _ _=>(jR (lY (cZ g) (dG sV sV) (dG sV sV)))) (λ_ _ _=>(eM (bO sV sV)))))))))))
theorem z51:Bd ["sizes"] ["sizes"] (aZ HE):=cP
theorem z52(T:Tx K mg G A):Bj P w K mg base (cB P w base) 3 A.f_qn A.fd_qn ["sizes"] (cH G uB):=cT (k:=2) T.d_levels_span.F z51 T.hK λ_ _ _ _ _ _ _ g=>(bG (gZ (bD g (IA T) T.d_need_sizes (aV sV))) (bB (cC (oW (FL g.calm rfl T.z_max (aV sV)) aS))))
theorem z53:Bd ["sizes"] ["sizes"] (aZ HF):=cP
theorem RD(T:Tx K mg G A):Bj P w K mg base (cB P w base) 3 A.f_qh A.fd_qh ["sizes"] (cH G pF):=cT (k:=2) T.d_chains_reach.F z53 T.hK λ_ _ _ _ _ _ _ g=>(bG (gZ (bD g (IA T) T.d_need_sizes (aV sV))) (bG (eV (lY g (mY rfl T.z_len (aV sV)) aS) (bB (cC aS)) eU) (bB (cC (bD g (z49 T) T.d_rounded_up (bO (oW (zX g.calm rfl T.z_sum (aV (P6 (z2o rfl T.z_sorted (aV sV)) (NK (vX aS)) NJ))) aS) aS))))))
theorem z54:Bd ["order","a","b","c"] ["order","a","b","c"] (aZ HG):=cP
theorem z55(T:Tx K mg G A):Bj P w K mg base (cB P w base) 2 A.f_qH A.fd_qH ["order","a","b","c"] (cH G rY):=cT (k:=1) T.d_is_bar.F z54 T.hK λ_ _ _ _ _ _ _ g=>(bB (cC (kZ (wF g (eM (bO sV sV)) (dG sV aS)) (kZ (bD g (xN T) T.d_are_loose (jO sV sV sV)) (oO (bD g (xN T) T.d_are_loose (jO sV sV sV)))))))
theorem z56:Bd ["order","ahead"] ["order"] (aZ xH):=cP
theorem z57(T:Tx K mg G A):Bj P w K mg base (cB P w base) 11 A.f_q6 A.fd_q6 ["order"] (cH G xC):=cT (k:=10) T.d_levels_of.F z56 T.hK λ_ _ _ _ _ _ _ g=>(bG (dM z3s (jD (gS g.calm (eG (N:=["thing","order"]) (os:=(aZ xH)) (oN:=["order","ahead"])) (gK rfl T.z_range (aV (dG sV aS))) (λ_ _ _=>(bM z3t)) (λ_ _ _=>eQ) (λ_ _ _=>(mY rfl T.z_len (aV (bD (cZ g) (Q9 T) T.d_ahead_of (bO sV sV)))))))) (bB (cC (jD (gS g.calm (eG (N:=["many","order","ahead"]) (os:=(aZ xH)) (oN:=["order","ahead"])) (jQ (z3i g rfl T.z_sorted rfl T.z_set (aV sV))) (λ_ _ _=>(bM z3u)) (λ_ _ _=>eQ) (λ_ _ _=>(vQ rfl T.z_tuple (gS (cZ g).calm (eG (N:=["thing","many","ahead"]) (os:={kind:=.function,names:=[(".0",.local),("many",.cell),("tuple",.globalImplicit),("range",.globalImplicit),("ahead",.cell),("order",.cell)],isGenerator:=false,isCoroutine:=false}) (oN:=["many","order","ahead"])) (gK rfl T.z_range (aV (dG sV aS))) (λ_ _ _=>(bM z3v)) (λ_ _ _=>(jR (lY (cZ (cZ g)) (dG sV sV) sV))) (λ_ _ _=>sV)))))))))
theorem z58:Bd ["order","things","bars"] ["order"] (aZ BL):=cP
theorem RE(T:Tx K mg G A):Bj P w K mg base (cB P w base) 12 A.f_qe A.fd_qe ["order"] (cH G jJ):=cT (k:=11) T.d_levels_or_bar.F z58 T.hK λ_ _ _ _ _ _ _ g=>(bG (gZ (bD g (xM T) T.d_need_order (aV sV))) (bG (dM QT (P9 g rfl T.z_list rfl T.z_range (aV (dG sV aS)))) (bG (z39 (i:=2) QT rfl g.calm (eG (N:=["a","b","c","order","things"]) (os:=(aZ BL)) (oN:=["order","things","bars"])) (jQ sV) (λ_ _ _=>(bM HS)) (λ_ _ _=>eQ) (λ_ _ _=>(jQ sV)) (λ_ _ _=>(bM HS)) (λ_ _ _=>eQ) (λ_ _ _=>(jQ sV)) (λ_ _ _=>(bM HS)) (λ_ _ _=>(jR (iA (bD (cZ g) (z55 T) T.d_is_bar (vB sV sV sV sV))))) (λ_ _ _=>(eM (jO sV sV sV)))) (bG (eV (iA sV) (bB (cC (eM (bO sW (dG sV aS))))) eU) (bB (cC (eM (bO sW (bD g (z57 T) T.d_levels_of (aV sV))))))))))
theorem z59:Bd ["many"] ["many"] (aZ BM):=cP
theorem z5a(T:Tx K mg G A):Bj P w K mg base (cB P w base) 4 A.f_qM A.fd_qM ["many"] (cH G xD):=cT (k:=3) T.d_fence.F z59 T.hK λ_ _ _ _ _ _ _ g=>(bG (gZ (bD g (HZ T) T.d_need_between (jO sV aS (tJ rfl T.c_MOST_THINGS)))) (bB (cC (eM (bO sV (vQ rfl T.z_tuple (qV g.calm (eG (N:=["a","b","many"]) (os:=(aZ BM)) (oN:=["many"])) (y6 rfl T.z_range (jO aS sV aS)) (λ_ _ _=>(bM QU)) (λ_ _ _=>eQ) (λ_ _ _=>(mT (eM (bO (oW sV aS) (gW sV aS))))) (λ_ _ _=>(bM QU)) (λ_ _ _=>(jR (z07 aS sV sV))) (λ_ _ _=>(eM (bO sV sV))))))))))
theorem z5b:Bd ["half"] ["half"] (aZ BN):=cP
theorem z5d(T:Tx K mg G A):Bj P w K mg base (cB P w base) 4 A.f_qL A.fd_qL ["half"] (cH G xE):=cT (k:=3) T.d_crown.F z5b T.hK λ_ _ _ _ _ _ _ g=>(bG (gZ (bD g (HZ T) T.d_need_between (jO sV aS aS))) (bB (cC (eM (bO (tL aS sV) (vQ rfl T.z_tuple (qV g.calm (eG (N:=["i","j","half"]) (os:=(aZ BN)) (oN:=["half"])) (gK rfl T.z_range (aV sV)) (λ_ _ _=>(bM QV)) (λ_ _ _=>eQ) (λ_ _ _=>(gK rfl T.z_range (aV sV))) (λ_ _ _=>(bM QV)) (λ_ _ _=>(jR (pX (cZ g) sV sV))) (λ_ _ _=>(eM (bO sV (gW sV sV)))))))))))
theorem z5e:Bd ["order","reach","many","pairs","up","aside"] ["order","reach"] (aZ xI):=cP
theorem z5f(T:Tx K mg G A):Bj P w K mg base (cB P w base) 2 A.f_qF A.fd_qF ["order","reach"] (cH G wX):=cT (k:=1) T.d_needs_of.F z5e T.hK λ_ _ _ _ _ _ _ g=>(bG (vH sV (jC g.calm (dX (bM CC) (dX (bM CC) jB)))) (bG (N7 (i:=4) CC rfl g.calm (eG (N:=["a","b"]) (os:=(aZ xI)) (oN:=["order","reach","many","pairs","up","aside"])) (mT sV) (λ_ _ _=>(jC (cZ g).calm (dX (bM BY) (dX (bM BY) jB)))) (λ_ _ _=>eQ) (λ_ _ _=>(eM (jO sV sV aS)))) (bG (N8 (i:=5) CC rfl g.calm (eG (N:=["a","b","reach","order","many"]) (os:=(aZ xI)) (oN:=["order","reach","many","pairs","up","aside"])) (gK rfl T.z_range (aV sV)) (λ_ _ _=>(bM QW)) (λ_ _ _=>eQ) (λ_ _ _=>(gK rfl T.z_range (aV sV))) (λ_ _ _=>(bM QW)) (λ_ _ _=>(jR (iA (bD (cZ g) (xN T) T.d_are_loose (jO sV sV sV))))) (λ_ _ _=>(eM (jO sV sV (vX sV))))) (bB (cC (gW sV sV))))))
theorem z5g:Bd ["places","needs"] ["places","needs"] (aZ BO):=cP
theorem z5h(T:Tx K mg G A):Bj P w K mg base (cB P w base) 1 A.f_qI A.fd_qI ["places","needs"] (cH G wY):=cT (k:=0) T.d_raised.F z5g T.hK λ_ _ _ _ _ _ _ g=>(bB (cC (jD (gS g.calm (eG (N:=["thing","place","needs","places"]) (os:=(aZ BO)) (oN:=["places","needs"])) (NR rfl T.z_enumerate (aV sV)) (λ_ _ _=>(jC (cZ g).calm (dX (bM QX) (dX (bM QX) jB)))) (λ_ _ _=>eQ) (λ_ _ _=>(FL (cZ g).calm rfl T.z_max (aV (gW (jP (aV sV)) (jD (gS (cZ g).calm (eG (N:=["a","b","by","places","thing"]) (os:={kind:=.function,names:=[(".0",.local),("thing",.cell),("place",.local),("max",.globalImplicit),("needs",.cell),("places",.cell)],isGenerator:=false,isCoroutine:=false}) (oN:=["thing","place","needs","places"])) (jQ sV) (λ_ _ _=>(jC (cZ (cZ g)).calm (dX (bM HU) (dX (bM HU) (dX (bM HU) jB))))) (λ_ _ _=>(jR (lY (cZ (cZ g)) sV sV))) (λ_ _ _=>(gW (dG sV sV) sV))))))))))))
theorem z5i:Bd ["order","reach","needs","places","higher"] ["order","reach"] (aZ HH):=cP
theorem z5j(T:Tx K mg G A):Bj P w K mg base (cB P w base) 9 A.f_qJ A.fd_qJ ["order","reach"] (cH G wZ):=cT (k:=8) T.d_seated.F z5i T.hK λ_ _ _ _ _ _ _ g=>(bG (gZ (bD g (xM T) T.d_need_order (aV sV))) (bG (gZ (bD g (HZ T) T.d_need_between (jO sV aS (tJ rfl T.c_MOST_APART)))) (bG (dM CD (bD g (z5f T) T.d_needs_of (bO sV sV))) (bG (dM CD (z0s (GP 2) (dG sV aS))) (bG (NG 40 g.own (AS g (FL g.calm rfl T.z_max (aV sV)) (dG sV aS)) (bG (dM CD (bD g (z5h T) T.d_raised (bO sV sV))) (bG (eV (lY g sV sV) (bB (cC (EU rfl T.z_tuple (aV sV)))) eU) (bB (dM CD sV))))) (bB (cC EJ)))))))
theorem z5k:Bd ["order"] ["order"] (aZ BP):=cP
theorem IB(T:Tx K mg G A):Bj P w K mg base (cB P w base) 10 A.f_qm A.fd_qm ["order"] (cH G gM):=cT (k:=9) T.d_least_reach.F z5k T.hK λ_ _ _ _ _ _ _ g=>(bB (cC (NV g.calm rfl T.z_min (aV (jD (gS g.calm (eG (N:=["reach","order"]) (os:=(aZ BP)) (oN:=["order"])) (gK rfl T.z_range (aV (gW (tJ rfl T.c_MOST_APART) aS))) (λ_ _ _=>(bM z3w)) (λ_ _ _=>(jR (N2 (bD (cZ g) (z5j T) T.d_seated (bO sV sV)) EJ))) (λ_ _ _=>sV)))))))
theorem z5l:Bd ["order","begun","many","pairs","waiting"] ["order","begun"] (aZ xJ):=cP
theorem z5m(T:Tx K mg G A):Bj P w K mg base (cB P w base) 1 A.f_qD A.fd_qD ["order","begun"] (cH G lM):=cT (k:=0) T.d_may_come.F z5l T.hK λ_ _ _ _ _ _ _ g=>(bG (vH sV (jC g.calm (dX (bM HV) (dX (bM HV) jB)))) (bG (dM HV (jD (gS g.calm (eG (N:=["a","b","begun"]) (os:=(aZ xJ)) (oN:=["order","begun","many","pairs","waiting"])) (mT sV) (λ_ _ _=>(jC (cZ g).calm (dX (bM QY) (dX (bM QY) jB)))) (λ_ _ _=>(jR (zY (cZ g) sV sV))) (λ_ _ _=>sV)))) (bB (cC (jD (gS g.calm (eG (N:=["thing","begun","waiting"]) (os:=(aZ xJ)) (oN:=["order","begun","many","pairs","waiting"])) (gK rfl T.z_range (aV sV)) (λ_ _ _=>(bM z3x)) (λ_ _ _=>(jR (Gr (EK (zY (cZ g) sV sV) (L4 (zY (cZ g) sV sV)))))) (λ_ _ _=>sV)))))))
theorem z5n:Bd ["order","rows","place"] ["order"] (aZ BQ):=cP
theorem z5o(T:Tx K mg G A):Bj P w K mg base (cB P w base) 9 A.f_q9 A.fd_q9 ["order"] (cH G kS):=cT (k:=8) T.d_all_rows.F z5n T.hK λ_ _ _ _ _ _ _ g=>(bG (gZ (bD g (xM T) T.d_need_order (aV sV))) (bG (dM HW (GP 3)) (bG (mU g.own g.calm (gK rfl T.z_range (aV (dG sV aS))) (bM HW) (bB (N8 (i:=1) HW rfl g.calm (eG (N:=["begun","thing","order"]) (os:=(aZ BQ)) (oN:=["order","rows","place"])) (jQ sV) (λ_ _ _=>(bM QZ)) (λ_ _ _=>eQ) (λ_ _ _=>(jQ (bD (cZ g) (z5m T) T.d_may_come (bO sV sV)))) (λ_ _ _=>(bM QZ)) (λ_ _ _=>eQ) (λ_ _ _=>(gW sV (eM (aV sV))))))) (bB (cC sV)))))
theorem z5p:Bd ["row","pair"] ["row","pair"] (aZ HI):=cP
theorem z5q(T:Tx K mg G A):Bj P w K mg base (cB P w base) 1 A.f_qK A.fd_qK ["row","pair"] (cH G mF):=cT (k:=0) T.d_apart.F z5p T.hK λ_ _ _ _ _ _ _ g=>(bB (cC (ZV rfl T.z_abs (aV (oW (NZ sV (dG sV aS)) (NZ sV (dG sV aS)))))))
theorem z5r:Bd ["row","pairs"] ["row","pairs"] (aZ BR):=cP
theorem z5s(T:Tx K mg G A):Bj P w K mg base (cB P w base) 2 A.f_qc A.fd_qc ["row","pairs"] (cH G mG):=cT (k:=1) T.d_greatest_apart.F z5r T.hK λ_ _ _ _ _ _ _ g=>(bB (cC (z32 g.calm rfl T.z_max (jD (gS g.calm (eG (N:=["pair","row"]) (os:=(aZ BR)) (oN:=["row","pairs"])) (jQ sV) (λ_ _ _=>(bM z3z)) (λ_ _ _=>eQ) (λ_ _ _=>(bD (cZ g) (z5q T) T.d_apart (bO sV sV))))))))
theorem z5t:Bd ["order","pairs"] ["order"] (aZ BS):=cP
theorem z5u(T:Tx K mg G A):Bj P w K mg base (cB P w base) 10 A.f_qb A.fd_qb ["order"] (cH G nM):=cT (k:=9) T.d_rows_with_spans.F z5t T.hK λ_ _ _ _ _ _ _ g=>(bG (dM z40 (bD g (z4u T) T.d_loose_pairs (aV sV))) (bB (cC (jD (gS g.calm (eG (N:=["row","pairs"]) (os:=(aZ BS)) (oN:=["order","pairs"])) (jQ (bD g (z5o T) T.d_all_rows (aV sV))) (λ_ _ _=>(bM z3y)) (λ_ _ _=>eQ) (λ_ _ _=>(eM (bO sV (bD (cZ g) (z5s T) T.d_greatest_apart (bO sV sV))))))))))
theorem z5v:Bd ["order"] ["order"] (aZ BU):=cP
theorem RF(T:Tx K mg G A):Bj P w K mg base (cB P w base) 11 A.f_qv A.fd_qv ["order"] (cH G jV):=cT (k:=10) T.d_least_span.F z5v T.hK λ_ _ _ _ _ _ _ g=>(bB (cC (NV g.calm rfl T.z_min (aV (jD (gS g.calm (eG (N:=["row","span"]) (os:=(aZ BU)) (oN:=["order"])) (jQ (bD g (z5u T) T.d_rows_with_spans (aV sV))) (λ_ _ _=>(jC (cZ g).calm (dX (bM Q0) (dX (bM Q0) jB)))) (λ_ _ _=>eQ) (λ_ _ _=>sV)))))))
theorem z5w:Bd ["_law_state_here","_law_many","_law_found","_law_stirred"] ["_law_state_here","_law_many"] (aZ HJ):=cP
theorem kD(T:Tx K mg G A):Bj P w K mg base (cB P w base) 1 A.f_q1 A.fd_q1 ["_law_state_here","_law_many"] (cH G dH):=cT (k:=0) T.d__law_take.F z5w T.hK λ_ _ _ _ _ _ _ g=>(bG (eV (iA (dG sV aS)) (bG (dM HX (rA (dG sV aS) sV)) (bG (M7 sV aS (FO (dG sV aS) sV)) (bB (cC sV)))) eU) (bG (M7 sV aS (rA (gW (tL (dG sV aS) aS) aS) aS)) (bG (dM HX (rA (gW (gW (tL (dG sV aS) (dG sV aS)) (tL aS (dG sV aS))) aS) aS)) (bG (dM HX (rA (gW (tL sV sV) (tL aS sV)) aS)) (bB (cC (rA (FO sV aS) sV)))))))
theorem z5x:Bd ["_law_state_here","_law_found","_law_turn","_law_left","_law_kept","_law_size"] ["_law_state_here"] (aZ HK):=cP
theorem z5y(T:Tx K mg G A):Bj P w K mg base (cB P w base) 2 A.f_qr A.fd_qr ["_law_state_here"] (cH G uC):=cT (k:=1) T.d__law_sizes.F z5x T.hK λ_ _ _ _ _ _ _ g=>(bG (dM uD (jP lU)) (bG (mU g.own g.calm (gK rfl T.z_range (aV (gW aS (bD g (kD T) T.d__law_take (bO sV aS))))) (bM uD) (bB (gZ (vR sV (gW aS (dG (jP (vB aS aS (bD g (kD T) T.d__law_take (bO sV aS)) (bD g (kD T) T.d__law_take (bO sV aS)))) (bD g (kD T) T.d__law_take (bO sV aS)))))))) (bG (dM uD aS) (bG (dM uD (jP lU)) (bG (mU g.own g.calm (jQ sV) (bM uD) (bB (eV (Gr (pQ (z03 sV sV) (pP (lY g sV (jP lU))))) (bG (gZ (vR sV sV)) (bB (dM uD (oW sV sV)))) eU))) (bB (cC (dG (jP (vB sV sV sV sV)) (bD g (kD T) T.d__law_take (bO sV aS))))))))))
theorem z5z:Bd ["_law_script","_law_k"] ["_law_script","_law_k"] (aZ HL):=cP
theorem z60(T:Tx K mg G A):Bj P w K mg base (cB P w base) 1 A.f_qf A.fd_qf ["_law_script","_law_k"] (cH G (wW G.scr)):=cT (k:=0) (N:=["_law_script","_law_k"]) (mb:=(AY G.scr)) T.d__law_cell_at.F z5z T.hK λ_ _ _ _ _ _ _ g=>(bG (eV (AS g sV (MI rfl T.z_len (aV sV))) (bB (cC (ZS sV sV))) eU) (bB (cC aS)))
theorem z61:Bd ["_law_script","_law_k","_law_cell"] ["_law_script","_law_k"] (aZ HM):=cP
theorem z62(T:Tx K mg G A):Bj P w K mg base (cB P w base) 2 A.f_qs A.fd_qs ["_law_script","_law_k"] (cH G (rR G.scr)):=cT (k:=1) (N:=["_law_script","_law_k","_law_cell"]) (mb:=(AZ G.scr)) T.d__law_state.F z61 T.hK λ_ _ _ _ _ _ _ g=>(bG (dM z41 (bD g (z60 T) T.d__law_cell_at (bO sV sV))) (bG (eV (z04 sV (NN aS aS)) (bB (cC (jP (bO (oW sV (NN aS aS)) kK)))) eU) (bB (cC (jP (bO (rA sV aS) kK))))))
theorem z63:Bd ["_law_state_here","_law_many","_law_left","_law_found"] ["_law_state_here","_law_many"] (aZ HN):=cP
theorem z64(T:Tx K mg G A):Bj P w K mg base (cB P w base) 2 A.f_qp A.fd_qp ["_law_state_here","_law_many"] (cH G A0):=cT (k:=1) T.d__law_mixed.F z63 T.hK λ_ _ _ _ _ _ _ g=>(bG (dM Q2 (P9 g rfl T.z_list rfl T.z_range (aV sV))) (bG (dM Q2 (jP lU)) (bG (NG 40 g.own (pX g sV (jP lU)) (bB (gZ (vR sV (u7 sV (bD g (kD T) T.d__law_take (bO sV (mY rfl T.z_len (aV sV))))))))) (bB (cC (EU rfl T.z_tuple (aV sV)))))))
theorem z65:Bd ["_law_many","_law_pairs","_law_found","_law_middle","_law_a","_law_b"] ["_law_many","_law_pairs"] (aZ HP):=cP
theorem z66(T:Tx K mg G A):Bj P w K mg base (cB P w base) 1 A.f_qk A.fd_qk ["_law_many","_law_pairs"] (cH G tV):=cT (k:=0) T.d__law_closed.F z65 T.hK λ_ _ _ _ _ _ _ g=>(bG (dM CF (z0l rfl T.z_list (aV sV))) (bG (mU g.own g.calm (gK rfl T.z_range (aV sV)) (bM CF) (bB (mU g.own g.calm (gK rfl T.z_range (aV sV)) (bM CF) (bB (mU g.own g.calm (gK rfl T.z_range (aV sV)) (bM CF) (bB (eV (Gr (EK (N1 g (eM (bO sV sV)) sV) (EK (N1 g (eM (bO sV sV)) sV) (L4 (zY g (eM (bO sV sV)) sV))))) (bB (gZ (vR sV (eM (bO sV sV))))) eU))))))) (bB (cC (EU rfl T.z_tuple (aV (z2w g rfl T.z_sorted rfl T.z_set (aV sV))))))))
theorem z67:Bd Bb ["_law_state_here","_law_most"] (aZ BV):=cP
theorem z68(T:Tx K mg G A):Bj P w K mg base (cB P w base) 3 A.f_qq A.fd_qq ["_law_state_here","_law_most"] (cH G tW):=cT (k:=2) T.d__law_order.F z67 T.hK λ_ _ _ _ _ _ _ g=>(bG (dM mH (oW sV (dG (jP (jA aS (jA aS (jA aS (jA aS (vB aS aS aS (oW sV aS))))))) (bD g (kD T) T.d__law_take (bO sV aS))))) (bG (dM mH (MK g.calm rfl T.z_max (bO aS sV))) (bG (dM mH (bD g (z64 T) T.d__law_mixed (bO sV sV))) (bG (dM mH (bD g (kD T) T.d__law_take (bO sV aS))) (bG (N7 (i:=5) mH rfl g.calm (eG (N:=["_law_thing","_law_state_here"]) (os:=(aZ BV)) (oN:=Bb)) (mT sV) (λ_ _ _=>(bM z42)) (λ_ _ _=>eQ) (λ_ _ _=>(bD (cZ g) (kD T) T.d__law_take (bO sV aS)))) (bG (dM mH (jP lU)) (bG (mU g.own g.calm (gK rfl T.z_range (aV sV)) (bM mH) (bB (mU g.own g.calm (EX rfl T.z_range (bO (gW sV aS) sV)) (bM mH) (bG (dM mH (GB g (bD g (kD T) T.d__law_take (bO sV aS)) (dG (GP 2) (rA sV aS)))) (bG (eV (lY g sV aS) (bB (dM mH (tM g (dG sV sV) (dG sV sV)))) eU) (bG (eV (lY g sV aS) (bB (dM mH (GB g (dG sV sV) (dG sV sV)))) eU) (bB (eV (iA sV) (bB (gZ (vR sV (eM (bO (dG sV sV) (dG sV sV)))))) eU)))))))) (bB (cC (eM (bO sV (bD g (z66 T) T.d__law_closed (bO sV sV)))))))))))))
theorem z69:Bd ["_law_state_here","_law_sizes_here"] ["_law_state_here"] (aZ HQ):=cP
theorem z6a(T:Tx K mg G A):Bj P w K mg base (cB P w base) 3 A.f_q7 A.fd_q7 ["_law_state_here"] (cH G xF):=cT (k:=2) T.d__law_few.F z69 T.hK λ_ _ _ _ _ _ _ g=>(bG (dM Q3 (bD g (z5y T) T.d__law_sizes (aV sV))) (bG (eV (NO (zX g.calm rfl T.z_sum (aV sV)) aS) (bB (dM Q3 (jP (bO (gW aS (bD g (kD T) T.d__law_take (bO sV aS))) (gW aS (bD g (kD T) T.d__law_take (bO sV aS))))))) eU) (bB (cC sV))))
theorem z6b:Bd Bc ["_law_order_here"] (aZ BW):=cP
theorem z6c(T:Tx K mg G A):Bj P w K mg base (cB P w base) 13 A.f_qa A.fd_qa ["_law_order_here"] (cH G xG):=cT (k:=12) T.d__law_levels_right.F z6b T.hK λ_ _ _ _ _ _ _ g=>(bG (vH (bD g (RE T) T.d_levels_or_bar (aV sV)) (jC g.calm (dX (bM xK) (dX (bM xK) jB)))) (bG (eV (pX g (tM g sV sW) (tM g (bD g (IB T) T.d_least_reach (aV sV)) aS)) (bB (cC kK)) eU) (bG (eV (lY g sV sW) (bB (cC (tM g (zX g.calm rfl T.z_sum (aV (jD (gS g.calm (eG (N:=["_law_level"]) (os:=(aZ BW)) (oN:=Bc)) (jQ sV) (λ_ _ _=>(bM Q4)) (λ_ _ _=>eQ) (λ_ _ _=>(mY rfl T.z_len (aV sV))))))) (dG sV aS)))) eU) (bG (vH sV (jC g.calm (dX (bM xK) (dX (bM xK) (dX (bM xK) jB))))) (bB (cC (kZ (wF g sV (bD g (Q9 T) T.d_ahead_of (bO sV sV))) (kZ (wF g sV (bD g (RA T) T.d_loose_from (bO sV sV))) (oO (wF g sV (bD g (RA T) T.d_loose_from (bO sV sV))))))))))))
theorem z6d:Bd Ba ["_law_script"] (aZ BX):=cP
theorem z6e(T:Tx K mg G A)(hT:∀μ n H k t a,True->G.clo μ n H k t a):Bj P w K mg base (cB P w base) 17 A.f_qN A.fd_qN ["_law_script"] (cH G (G1 G.scr)):=z0h (k:=16) (N:=Ba) (mb:=A8 G.scr) T.d_law.F z6d T.hK λcdv Ar outer s H E₀ E hcd g=>(bG (mU g.own g.calm (gK rfl T.z_range (aV (MK g.calm rfl T.z_max (bO aS (Z1 g.calm rfl T.z_min (bO (MI rfl T.z_len (aV (fO 0))) aS)))))) (bM (i:=1) uE) (bG (dM (i:=2) uE (bD g (z62 T) T.d__law_state (bO (fO 0) (fO 1)))) (bG (dM (i:=3) uE (bD g (z6a T) T.d__law_few (aV (fO 2)))) (bG (z2x (i:=4) (j:=5) g.calm uE rfl rfl (by decide) rfl rfl (bO (bD g (z4y T) T.d_levels_order (aV (fO 3))) (bD g (z50 T) T.d_chains_order (aV (fO 3))))) (bG (dM (i:=6) uE (jP (jA (fO 4) (vB (fO 5) (bD g (z5a T) T.d_fence (aV (gW aS (bD g (kD T) T.d__law_take (bO (fO 2) aS))))) (bD g (z5d T) T.d_crown (aV (gW aS (bD g (kD T) T.d__law_take (bO (fO 2) aS))))) (bD g (z68 T) T.d__law_order (bO (fO 2) aS)))))) (bG (mU g.own g.calm (jQ (fO 6)) (bM (i:=7) uE) (bB (eV (Gr (pQ (N2 (bD g (Q7 T) T.d_is_order (aV (fO 7))) kK) (pP (kY (iA (bD g (z6c T) T.d__law_levels_right (aV (fO 7)))))))) (bB (cC kK)) eU))) (bG (eV (pX g (jD (gS g.calm (eG (N:=["_law_level"]) (cap:=[none]) (os:=(aZ BX)) (oN:=Ba)) (jQ (dG (bD g (RE T) T.d_levels_or_bar (aV (fO 4))) aS)) (λ_ _ _=>(bM (i:=0) Q4)) (λ_ _ _=>eQ) (λ_ _ _=>(mY rfl T.z_len (aV (fO 0)))))) (fO 3)) (bB (cC kK)) eU) (bG (eV (Gr (pQ (pX g (bD g (RF T) T.d_least_span (aV (fO 4))) (bD g (z52 T) T.d_levels_span (aV (fO 3)))) (pP (pX g (bD g (IB T) T.d_least_reach (aV (fO 4))) aS)))) (bB (cC kK)) eU) (bB (eV (Gr (pQ (pX g (bD g (IB T) T.d_least_reach (aV (fO 5))) (bD g (RD T) T.d_chains_reach (aV (fO 3)))) (pP (AS g (bD g (RF T) T.d_least_span (aV (fO 5))) (bD g (RD T) T.d_chains_reach (aV (fO 3))))))) (bB (cC kK)) eU)))))))))) (bB (cC kK)))
end
end L2.Mr.K74
namespace L2.Mr
theorem uF{α:Type}{src:Src}{sg:dS}{t:M Bool}{m:MC}(xs:List α)(out:α->Az)(S:Ev->Hs->Prop)(fin:∀ρ h,S ρ h->src.fin h=true)(step:∀k(hk:k<xs.length)ρ h,S ρ h->∃d ρ1,src.get k h=some d/\sg d ρ=some ρ1/\
   ((∃h2,t ρ1 h=.ok false h2/\out xs[k]=[]/\S ρ1 h2)∨∃h2,t ρ1 h=.ok true h2/\∀acc:Az,acc.length+(out xs[k]).length<=900000->∃ρ3 h3,m ρ1 h2 acc=.ok (ρ3,acc++out xs[k]) h3/\S ρ3 h3)):
  ∀(f k:Nat)(ρ:Ev)(h:Hs)(acc:Az),f+k=xs.length->S ρ h->acc.length+((xs.drop k).flatMap out).length<=900000->∃ρ' h',iF src sg t m f k ρ h acc=.ok (ρ',acc++(xs.drop k).flatMap out) h'/\S ρ' h'
 |0,k,ρ,h,acc,e,s,hl=>by have:xs.drop k=[]:=List.drop_eq_nil_of_le (by lia);exact⟨ρ,h,by simp[iF,fin ρ h s,this],s⟩
 |f+1,k,ρ,h,acc,e,s,hl=>by
  have hk:k<xs.length:=by lia
  obtain⟨d,ρ1,e1,e2,e3⟩:=step k hk ρ h s;rw[List.drop_eq_getElem_cons hk,dq]at hl⊢;rw[cf]at hl
  rcases e3 with⟨h2,e3,e4,s2⟩|⟨h2,e3,e4⟩
  ·obtain⟨ρ',h',e5,s5⟩:=uF xs out S fin step f (k+1) ρ1 h2 acc (by lia) s2 (by lia);exact⟨ρ',h',by simp[iF,e1,e2,e3,e4,e5],s5⟩
  ·obtain⟨ρ3,h3,e6,s3⟩:=e4 acc (by lia);obtain⟨ρ',h',e5,s5⟩:=uF xs out S fin step f (k+1) ρ3 h3 (acc++out xs[k]) (by lia) s3 (by rw[cf];lia);exact⟨ρ',h',by simp[iF,e1,e2,e3,e6,e5],s5⟩
theorem uG{α:Type}{mi:M Src}{cap:List (Option Nat)}{src:Src}{sg:dS}{t:M Bool}{m:MC}{ρ:Ev}{H H1:Hs}(xs:List α)(out:α->Az)(S:Ev->Hs->Prop)(hi:mi ρ H=.ok src H1)(hn:src.n=xs.length)(s0:S (kM cap ρ) H1)(fin:∀ρ h,S ρ h->src.fin h=true)(step:∀k(hk:k<xs.length)ρ h,S ρ h->∃d ρ1,src.get k h=some d/\sg d ρ=some ρ1/\
   ((∃h2,t ρ1 h=.ok false h2/\out xs[k]=[]/\S ρ1 h2)∨∃h2,t ρ1 h=.ok true h2/\∀acc:Az,acc.length+(out xs[k]).length<=900000->∃ρ3 h3,m ρ1 h2 acc=.ok (ρ3,acc++out xs[k]) h3/\S ρ3 h3))(hl:(xs.flatMap out).length<=900000):∃ρ' H',bA mi cap sg t m ρ H=.ok (xs.flatMap out) H'/\S ρ' H':=by
 obtain⟨ρ',h',e,s⟩:=uF xs out S fin step xs.length 0 (kM cap ρ) H1 [] (by lia) s0 (by simpa using hl);refine⟨ρ',h',?_,s⟩;unfold bA;rw[hi,Rs.bind_ok,hn,e];simp
theorem uH{e:M Dv}{ρ:Ev}{h h1:Hs}{d:Dv}{acc:Az}(he:e ρ h=.ok d h1)(hl:acc.length+[d].length<=900000):aU e ρ h acc=.ok (ρ,acc++[d]) h1:=by
 have:acc.length<1000000:=by simp at hl;lia
 simp[aU,he,this]
theorem jK{α:Type}{mi:M Src}{cap:List (Option Nat)}{src:Src}{sg:dS}{t:M Bool}{e:M Dv}{ρ:Ev}{H H1:Hs}(xs:List α)(g:α->A')(S:Ev->Prop)(hi:mi ρ H=.ok src H1)(hn:src.n=xs.length)(s0:S (kM cap ρ))(fin:src.fin H1=true)(step:∀k(hk:k<xs.length)ρ,S ρ->∃d ρ1,src.get k H1=some d/\sg d ρ=some ρ1/\S ρ1/\match g xs[k]with
   |none=>t ρ1 H1=.ok false H1
   |some v=>t ρ1 H1=.ok true H1/\e ρ1 H1=.ok v H1)(hl:xs.length<=900000):bA mi cap sg t (aU e) ρ H=.ok (xs.filterMap g) H1:=by
 have fm:∀l:List α,l.flatMap (λx=>(g x).toList)=l.filterMap g:=λl=>by
  induction l with
  |nil=>rfl
  |cons x l ih=>rw[dq,ih,cw];cases g x<;>rfl
 have len:(xs.filterMap g).length<=xs.length:=iw g xs;obtain⟨ρ',H',h,_,rfl⟩:=uG (mi:=mi) (cap:=cap) (src:=src) (sg:=sg) (t:=t) (m:=aU e) (ρ:=ρ) (H:=H) (H1:=H1) xs (λx=>(g x).toList) (λρ h=>S ρ/\h=H1) hi hn ⟨s0,rfl⟩ (λρ h s=>by rw[s.2];exact fin)
  (λk hk ρ h⟨s,e1⟩=>by
   subst e1;obtain⟨d,ρ1,e1,e2,s1,e3⟩:=step k hk ρ s;refine⟨d,ρ1,e1,e2,?_⟩
   cases q:g xs[k]with
   |none=>rw[q]at e3;exact .inl ⟨h,e3,rfl,s1,rfl⟩
   |some v=>rw[q]at e3;exact .inr ⟨h,e3.1,λacc hl=>⟨ρ1,h,uH e3.2 hl,s1,rfl⟩⟩) (by rw[fm];lia)
 rw[h,fm]
theorem uI{α β:Type}{mi mj:M Src}{cap:List (Option Nat)}{src:Src}{sg sg2:dS}{t2:M Bool}{e:M Dv}{ρ:Ev}{H H1:Hs}(xs:List α)(ys:α->List β)(g:α->β->A')(S:Ev->Prop)(hi:mi ρ H=.ok src H1)(hn:src.n=xs.length)(s0:S (kM cap ρ))(fin:src.fin H1=true)(step:∀k(hk:k<xs.length)ρ,S ρ->∃(d:Dv)(ρ1:Ev)(src2:Src)(S2:Ev->Prop),src.get k H1=some d/\sg d ρ=some ρ1/\S2 ρ1/\(∀ρ,S2 ρ->S ρ)/\mj ρ1 H1=.ok src2 H1/\src2.n=(ys xs[k]).length/\src2.fin H1=true/\
   ∀j(hj:j<(ys xs[k]).length)ρ,S2 ρ->∃d ρ2,src2.get j H1=some d/\sg2 d ρ=some ρ2/\S2 ρ2/\match g xs[k] (ys xs[k])[j]with
    |none=>t2 ρ2 H1=.ok false H1
    |some v=>t2 ρ2 H1=.ok true H1/\e ρ2 H1=.ok v H1)(hl:(xs.flatMap λx=>(ys x).filterMap (g x)).length<=900000):bA mi cap sg bK (dF mj sg2 t2 (aU e)) ρ H=.ok (xs.flatMap λx=>(ys x).filterMap (g x)) H1:=by
 have fm:∀(x:α)(l:List β),l.flatMap (λy=>(g x y).toList)=l.filterMap (g x):=λx l=>by
  induction l with
  |nil=>rfl
  |cons y l ih=>rw[dq,ih,cw];cases g x y<;>rfl
 obtain⟨ρ',H',h,_,rfl⟩:=uG (mi:=mi) (cap:=cap) (src:=src) (sg:=sg) (t:=bK) (m:=dF mj sg2 t2 (aU e)) (ρ:=ρ) (H:=H) (H1:=H1) xs (λx=>(ys x).filterMap (g x)) (λρ h=>S ρ/\h=H1) hi hn ⟨s0,rfl⟩ (λρ h s=>by rw[s.2];exact fin)
  (λk hk ρ h⟨s,e1⟩=>by
   subst e1;obtain⟨d,ρ1,src2,S2,e1,e2,s1,sS,e3,e4,e5,e6⟩:=step k hk ρ s;refine⟨d,ρ1,e1,e2,.inr ⟨h,rfl,λacc hl=>?_⟩⟩;obtain⟨ρ3,h3,r,s3,rfl⟩:=uF (src:=src2) (sg:=sg2) (t:=t2) (m:=aU e) (ys xs[k]) (λy=>(g xs[k] y).toList) (λρ hh=>S2 ρ/\hh=h) (λρ hh s=>by rw[s.2];exact e5)
    (λj hj ρ hh⟨s,e1⟩=>by
     subst e1;obtain⟨d,ρ2,z1,z2,z3,z4⟩:=e6 j hj ρ s;refine⟨d,ρ2,z1,z2,?_⟩
     cases q:g xs[k] (ys xs[k])[j]with
     |none=>rw[q]at z4;exact .inl ⟨hh,z4,rfl,z3,rfl⟩
     |some v=>rw[q]at z4;exact .inr ⟨hh,z4.1,λacc hl=>⟨ρ2,hh,uH z4.2 hl,z3,rfl⟩⟩) (ys xs[k]).length 0 ρ1 h acc (by lia) ⟨s1,rfl⟩ (by rw[uq,fm];exact hl)
   refine⟨ρ3,h3,?_,sS ρ3 s3,rfl⟩;unfold dF;rw[e3];dsimp only;rw[e4,r,uq,fm]) hl
 exact h
theorem RG{c:M Bool}{b:MS}{f:Nat}{ρ:Ev}{h h1:Hs}(e:c ρ h=.ok false h1):jE c b (f+1) ρ h=.nx ρ h1:=by show(c ρ h).thenS _=_;rw[e];rfl
theorem IC{c:M Bool}{b:MS}{f:Nat}{ρ ρ2:Ev}{h h1 h2:Hs}(e:c ρ h=.ok true h1)(q:b ρ h1=.nx ρ2 h2):jE c b (f+1) ρ h=jE c b f ρ2 h2:=by show(c ρ h).thenS _=_;rw[e];simp[Rs.thenS,q]
theorem z6f{c:M Bool}{b:MS}{f:Nat}{ρ:Ev}{d:Dv}{h h1 h2:Hs}(e:c ρ h=.ok true h1)(q:b ρ h1=.rt d h2):jE c b (f+1) ρ h=.rt d h2:=by show(c ρ h).thenS _=_;rw[e];simp[Rs.thenS,q]
theorem CG:∀bs:List Bool,bU mW (bs.map Gq)=some bs
 |[]=>rfl
 |b::bs=>by rw[du,bU,CG bs];rfl
end L2.Mr
namespace L2.Mr.Com
def aG(n:Nat)(ps:dn):Dv:=.tup [.int n,.tup (ps.map aN)]
theorem z6g{n:Nat}{ps:dn}(H:Hs):aO (aG n ps) (.int 0) H=.ok (.int n) H:=rfl
theorem z6h{n:Nat}{ps:dn}(H:Hs):aO (aG n ps) (.int 1) H=.ok (.tup (ps.map aN)) H:=rfl
theorem ID{α:Type}{ml:M Az}{ρ:Ev}{H H1:Hs}{xs:List α}{f:α->Bool}(h:ml ρ H=.ok (xs.filterMap λx=>some (.bl (f x))) H1):mL kP ml ρ H=.ok (.bl (xs.all f)) H1:=by
 have e:(xs.filterMap λx=>some (Gq (f x)))=(xs.map f).map Gq:=by simp
 unfold mL;rw[h,Rs.bind_ok,e];unfold kP;rw[CG];simp[List.all_map]
theorem z6i{α:Type}{ml:M Az}{ρ:Ev}{H H1:Hs}{xs:List α}{f:α->Bool}(h:ml ρ H=.ok (xs.filterMap λx=>some (.bl (f x))) H1):mL vO ml ρ H=.ok (.bl (xs.any f)) H1:=by
 have e:(xs.filterMap λx=>some (Gq (f x)))=(xs.map f).map Gq:=by simp
 unfold mL;rw[h,Rs.bind_ok,e];unfold vO;rw[CG];simp[td]
section
variable{H:Hs}{n x:Int}{ps:dn}
theorem RH:qE [.int x] H=.ok (.bl true) H:=by simp[qE,GC,aT,dJ,aL,dE,m1,aA,iG,mV,vY,vZ,sY,bN]
theorem IE{lo hi:Int}:rQ [.int x,.int lo,.int hi] H=.ok (.bl (decide (lo<=x)&&decide (x<=hi))) H:=by
 by_cases h:lo<=x
 ·simp[rQ,GD,aT,dJ,aL,dE,aB,aR,aA,aQ,RH,kL,gL,gQ,h,bN]
 ·simp[rQ,GD,aT,dJ,aL,dE,aB,aR,aA,aQ,RH,kL,gL,gQ,h,bN]
def isT(n x:Int):Bool:=decide (0<=x)&&decide (x<=n-1)
theorem RI:pB [.int n,.int x] H=.ok (.bl (isT n x)) H:=by simp[pB,QC,aT,dJ,aL,aB,aR,aA,aQ,mC,m2,eX,gQ,IE,bN,isT]
theorem z6j{xs:y'}(hl:xs.length<=1000):wV [.int n,.tup (xs.map Fx)] H=.ok (.bl (xs.all (isT n))) H:=by have h:bA (aY fP (aA 1)) [none,some 0] (aD 0) bK (aU (aB pB (aJ (aA 1) (aA 0)))) [some (.int n),some (.tup (xs.map Fx))] H=.ok (xs.filterMap λx=>some (.bl (isT n x))) H:=jK xs (λx=>some (.bl (isT n x))) (λρ=>∃a,ρ=[a,some (.int n)]) rfl (by simp[eC]) ⟨_,rfl⟩ rfl (λk hk ρ⟨a,e⟩=>by subst e;exact⟨.int xs[k],_,by simp[eC,hk],rfl,⟨_,rfl⟩,rfl,by simp[aB,aR,aA,aQ,RI]⟩) (by lia);simp[wV,QD,aT,dJ,aL,dE,m1,iG,aA,mV,rB,ID h,bN]
def nP(n:Int)(p:Int×Int):Bool:=isT n p.1&&isT n p.2
theorem z6k(p:Int×Int):tU [.int n,aN p] H=.ok (.bl (nP n p)) H:=by
 have h:wV [.int n,aN p] H=.ok (.bl (nP n p)) H:=by have:=z6j (H:=H) (n:=n) (xs:=[p.1,p.2]) (by simp);simpa[aN,nP]using this
 have hlen:f1 dU [aN p] H=.ok (.int 2) H:=rfl
 cases q:nP n p with
 |false=>simp[tU,GF,aT,dJ,aL,dE,aB,aR,aA,aQ,h,q,bN]
 |true=>simp[tU,GF,aT,dJ,aL,dE,aB,aR,aA,aQ,h,q,bN,m2,hlen,mC,cE,cX,cG,bX]
theorem z6l(hl:ps.length<=1000):AV [.int n,.tup (ps.map aN)] H=.ok (.bl (ps.all (nP n))) H:=by have h:bA (aY fP (aA 1)) [none,some 0] (aD 0) bK (aU (aB tU (aJ (aA 1) (aA 0)))) [some (.int n),some (.tup (ps.map aN))] H=.ok (ps.filterMap λp=>some (.bl (nP n p))) H:=jK ps (λp=>some (.bl (nP n p))) (λρ=>∃a,ρ=[a,some (.int n)]) rfl (by simp[eC]) ⟨_,rfl⟩ rfl (λk hk ρ⟨a,e⟩=>by subst e;exact⟨aN ps[k],_,by simp[eC,hk],rfl,⟨_,rfl⟩,rfl,by simp[aB,aR,aA,aQ,z6k]⟩) (by lia);simp[AV,QE,aT,dJ,aL,ID h,bN]
theorem z6m(hl:ps.length<=1000):AW [.tup (ps.map aN)] H=.ok (.bl (ps.any λp=>decide (p.1=p.2))) H:=by have h:bA (aY fP (aA 0)) [none,none] (cV 2 (aW (aD 0) (aW (aD 1) cW))) bK (aU (m2 cE (aA 0) (aA 1))) [some (.tup (ps.map aN))] H=.ok (ps.filterMap λp=>some (.bl (decide (p.1=p.2)))) H:=jK ps (λp=>some (.bl (decide (p.1=p.2)))) (λρ=>∃a b,ρ=[a,b]) rfl (by simp[eC]) ⟨_,_,rfl⟩ rfl (λk hk ρ⟨a,b,e⟩=>by subst e;refine⟨aN ps[k],[some (.int ps[k].1),some (.int ps[k].2)],by simp[eC,hk],rfl,⟨_,_,rfl⟩,rfl,?_⟩;simp[m2,aA,cE,cX,cG,bX];rw[gq];simp) (by lia);simp[AW,QF,aT,dJ,aL,z6i h,bN]
theorem z6n(p q:Int×Int):fH (aN p) (aN q) H=.ok (.bl (gG p q)) H:=by simp only[fH,aN,bU,eY,P7];rw[<-wK];rfl
def nQ(ps:dn):Bool:=(ps.zip (ps.drop 1)).all λq=>gG q.1 q.2
theorem Ea:∀{ps:dn},nQ ps=true↔jG gG ps
 |[]=>by simp[nQ,jG]
 |[p]=>by simp[nQ,jG]
 |p::q::r=>by
  have ih:=Ea (ps:=q::r);have e:nQ (p::q::r)=(gG p q&&nQ (q::r)):=by simp[nQ]
  rw[e,cu,ih];constructor
  ·rintro ⟨h1,h2⟩
   refine df.mpr ⟨λz hz=>?_,h2⟩
   rcases aw.mp hz with rfl|hz
   ·exact h1
   ·exact stoP.tr _ _ _ h1 ((df.mp h2).1 z hz)
  ·intro h;have:=df.mp h;exact⟨this.1 q (by simp),this.2⟩
theorem z6o(ds:Az):mX ds (some 1) none=ds.drop 1:=by
 unfold mX;rw[show HT.sIx ds.length 0 (some 1)=min 1 ds.length from HT.sIx_nat ds.length 0 1,HT.sIx_none]
 cases ds with
 |nil=>rfl
 |cons a r=>simp
theorem z6p(hl:ps.length<=1000):AU [.tup (ps.map aN)] H=.ok (.bl (nQ ps)) H:=by
 have hi:aM tH (aJ (aA 0) (qD (aA 0) (pU (aF 1)) pT)) [some (.tup (ps.map aN))] H=.ok (tG (ps.map aN) ((ps.drop 1).map aN)) H:=by simp[aM,aR,aA,qD,pU,mC,E7,pT,wU,aQ,tH,z6o,pj]
 have hz:((ps.map aN).zip ((ps.drop 1).map aN)).map (λq=>Gu [q.1,q.2])=(ps.zip (ps.drop 1)).map λq=>Gu [aN q.1,aN q.2]:=by rw[List.zip_map,ib];rfl
 have h:bA (aM tH (aJ (aA 0) (qD (aA 0) (pU (aF 1)) pT))) [none,none] (cV 2 (aW (aD 0) (aW (aD 1) cW))) bK (aU (m2 fH (aA 0) (aA 1))) [some (.tup (ps.map aN))] H=.ok ((ps.zip (ps.drop 1)).filterMap λq=>some (.bl (gG q.1 q.2))) H:=
  jK (ps.zip (ps.drop 1)) (λq=>some (.bl (gG q.1 q.2))) (λρ=>∃a b,ρ=[a,b]) hi (by simp[tG,eC]) ⟨_,_,rfl⟩ rfl (λk hk ρ⟨a,b,e⟩=>by
   subst e;refine⟨.tup [aN (ps.zip (ps.drop 1))[k].1,aN (ps.zip (ps.drop 1))[k].2],[some (aN (ps.zip (ps.drop 1))[k].1),some (aN (ps.zip (ps.drop 1))[k].2)],?_,rfl,⟨_,_,rfl⟩,rfl,?_⟩
   ·show(((ps.map aN).zip ((ps.drop 1).map aN)).map (λq=>Gu [q.1,q.2]))[k]?=_;rw[hz,fw,bz hk];rfl
   ·simp only[m2,aA];exact z6n _ _) (by rw[List.length_zip];lia)
 simp[AU,QB,aT,dJ,aL,ID h,bN,nQ]
def xO(ps:dn):Bool:=ps.all λp=>ps.all λq=>!decide (p.2=q.1)||decide ((p.1,q.2)∈ps)
theorem z6q(hl:ps.length<=900):AX [.tup (ps.map aN)] H=.ok (.bl (xO ps)) H:=by
 let g:Int×Int->Int×Int->A':=λp q=>if p.2=q.1 then some (.bl (decide ((p.1,q.2)∈ps)))else none
 have h:bA (aY fP (aA 0)) [none,none,none,none,some 0] (cV 2 (aW (aD 0) (aW (aD 1) cW))) bK (dF (aY fP (aA 4)) (cV 2 (aW (aD 2) (aW (aD 3) cW))) (mB (m2 cE (aA 1) (aA 2))) (aU (m2 (cN false) (bH (aJ (aA 0) (aA 3))) (aA 4)))) [some (.tup (ps.map aN))] H=.ok (ps.flatMap λp=>ps.filterMap (g p)) H:=
  uI ps (λ_=>ps) g (λρ=>∃a b c d,ρ=[a,b,c,d,some (.tup (ps.map aN))]) rfl (by simp[eC]) ⟨_,_,_,_,rfl⟩ rfl (λk hk ρ⟨a,b,c,d,e⟩=>by
   subst e;refine⟨aN ps[k],[some (.int ps[k].1),some (.int ps[k].2),c,d,some (.tup (ps.map aN))],eC (ps.map aN),λρ=>∃c d,ρ=[some (.int ps[k].1),some (.int ps[k].2),c,d,some (.tup (ps.map aN))],by simp[eC,hk],rfl,⟨_,_,rfl⟩,λρ⟨c,d,e⟩=>⟨_,_,_,_,e⟩,rfl,by simp[eC],rfl,λj hj ρ⟨c,d,e⟩=>?_⟩;subst e;refine⟨aN ps[j],[some (.int ps[k].1),some (.int ps[k].2),some (.int ps[j].1),some (.int ps[j].2),some (.tup (ps.map aN))],by simp[eC,hj],rfl,⟨_,_,rfl⟩,?_⟩;have te:mB (m2 cE (aA 1) (aA 2)) [some (.int ps[k].1),some (.int ps[k].2),some (.int ps[j].1),some (.int ps[j].2),some (.tup (ps.map aN))] H=.ok (decide (ps[k].2=ps[j].1)) H:=by simp[mB,m2,aA,cE,cX,cG,bX,dZ];rw[gq];simp
   by_cases c1:ps[k].2=ps[j].1
   ·rw[decide_eq_true c1]at te;have hg:g ps[k] ps[j]=some (.bl (decide ((ps[k].1,ps[j].2)∈ps))):=if_pos c1;rw[hg];refine⟨te,?_⟩;have hx:bH (aJ (aA 0) (aA 3)) [some (.int ps[k].1),some (.int ps[k].2),some (.int ps[j].1),some (.int ps[j].2),some (.tup (ps.map aN))] H=.ok (aN (ps[k].1,ps[j].2)) H:=rfl;unfold m2;rw[hx,Rs.bind_ok];show(Gp (Gu (ps.map aN)) H).bind _=_;rw[Rs.bind_ok,AD];rfl
   ·rw[decide_eq_false c1]at te;have hg:g ps[k] ps[j]=none:=if_neg c1;rw[hg];exact te) (by
   have:∀l:dn,(l.flatMap λp=>ps.filterMap (g p)).length<=l.length*ps.length:=λl=>by
    induction l with
    |nil=>simp
    |cons p l ih=>
     rw[dq,cf,bu,ua];have:=iw (g p) ps
     lia
   have h2:=this ps;have h3:ps.length*ps.length<=900*900:=oq hl hl
   lia)
 have hb:(ps.flatMap λp=>ps.filterMap (g p))=(ps.flatMap λp=>ps.filterMap λq=>if p.2=q.1 then some (decide ((p.1,q.2)∈ps))else none).map Gq:=by
  rw[List.map_flatMap]
  congr 1
  funext p
  rw[lr]
  congr 1
  funext q
  show(if p.2=q.1 then some (Gq (decide ((p.1,q.2)∈ps)))else none)=_
  split<;>rfl
 have Dl:mL kP (bA (aY fP (aA 0)) [none,none,none,none,some 0] (cV 2 (aW (aD 0) (aW (aD 1) cW))) bK (dF (aY fP (aA 4)) (cV 2 (aW (aD 2) (aW (aD 3) cW))) (mB (m2 cE (aA 1) (aA 2))) (aU (m2 (cN false) (bH (aJ (aA 0) (aA 3))) (aA 4))))) [some (.tup (ps.map aN))] H=.ok (.bl (xO ps)) H:=by
  unfold mL;rw[h,Rs.bind_ok,hb];unfold kP;rw[CG];dsimp only
  congr 2
  rw[gq];unfold xO;simp only[fg,jf,jt,id];constructor
  ·intro h p hp q hq
   by_cases c:p.2=q.1
   ·have:=h (decide ((p.1,q.2)∈ps)) ⟨p,hp,q,hq,if_pos c⟩;simp[c,this]
   ·simp[c]
  ·rintro h b ⟨p,hp,q,hq,e⟩
   have:=h p hp q hq
   by_cases c:p.2=q.1
   ·rw[if_pos c]at e;cases e;simpa[c]using this
   ·rw[if_neg c]at e;cases e
 simp[AX,QG,aT,dJ,aL,Dl,bN]
def CH(n:Int)(ps:dn):Bool:=decide (1<=n)&&decide (n<=6)&&ps.all (nP n)&&nQ ps&&!(ps.any λp=>decide (p.1=p.2))&&xO ps
theorem z6r{n:Int}(hl:ps.length<=900):mE [.tup [.int n,.tup (ps.map aN)]] H=.ok (.bl (CH n ps)) H:=by
 have b:=IE (H:=H) (x:=n) (lo:=1) (hi:=6);have p1:=z6l (H:=H) (n:=n) (ps:=ps) (by lia);have p2:=z6p (H:=H) (ps:=ps) (by lia);have p3:=z6m (H:=H) (ps:=ps) (by lia);have p4:=z6q (H:=H) (ps:=ps) hl;have hlen:f1 dU [.tup [.int n,.tup (ps.map aN)]] H=.ok (.int 2) H:=rfl;unfold CH;generalize (decide (1<=n)&&decide (n<=6))=c0 at b⊢;generalize ps.all (nP n)=c1 at p1⊢;generalize nQ ps=c2 at p2⊢;generalize (ps.any λp=>decide (p.1=p.2))=c3 at p3⊢;generalize xO ps=c4 at p4⊢
 cases c0<;>cases c1<;>cases c2<;>cases c3<;>cases c4<;>
  simp[mE,QH,aT,dJ,aH,bP,gD,eN,cF,m1,iG,aA,mV,rB,jZ,mB,m2,aB,aR,aQ,hlen,mC,dR,cX,cG,bX,dZ,cA,aK,cV,aW,aD,cW,b,p1,p2,p3,p4,aL,dE,sY,bN]
end
structure Bg(n:Nat)(ps:dn):Prop where
 n1:1<=n
 n6:n<=6
 rng:∀p∈ps,0<=p.1/\p.1<n/\0<=p.2/\p.2<n
 rise:jG gG ps
 irr:∀p∈ps,p.1≠p.2
 tr:∀p∈ps,∀q∈ps,p.2=q.1->(p.1,q.2)∈ps
section
variable{n:Nat}{ps:dn}{H:Hs}
def xP(n:Nat):dn:=(ak n).flatMap λa:Nat=>(ak n).map λb:Nat=>((a:Int),(b:Int))
theorem RJ(n:Nat):(xP n).length=n*n:=by
 unfold xP;have:∀l:Aw,(l.flatMap λa:Nat=>(ak n).map λb:Nat=>((a:Int),(b:Int))).length=l.length*n:=λl=>by
  induction l with
  |nil=>simp
  |cons a l ih=>rw[dq,cf,ih,bu,ua];simp;lia
 rw[this];simp
theorem z6s{p:Int×Int}(h:0<=p.1/\p.1<n/\0<=p.2/\p.2<n):p∈xP n:=by obtain⟨a,b⟩:=p;simp only at h;refine jf.mpr ⟨a.toNat,bg.mpr (by lia),br.mpr ⟨b.toNat,bg.mpr (by lia),?_⟩⟩;simp;lia
theorem z6t(hr:jG gG ps)(hp:∀p∈ps,0<=p.1/\p.1<n/\0<=p.2/\p.2<n):ps.length<=n*n:=by rw[<-RJ n];exact(qA stoP hr).length_le_of_subset λp h=>z6s (hp p h)
theorem Bg.len(o:Bg n ps):ps.length<=36:=by
 have h1:=z6t o.rise o.rng;have h2:n*n<=6*6:=oq o.n6 o.n6
 lia
theorem Bg.b(o:Bg n ps):CH n ps=true:=by
 have h1:=o.n1;have h6:=o.n6;unfold CH;simp only[cu,decide_eq_true_eq,wb];refine⟨⟨⟨⟨⟨by lia,by lia⟩,?_⟩,Ea.mpr o.rise⟩,?_⟩,?_⟩
 ·refine fg.mpr λp hp=>?_;have:=o.rng p hp;simp[nP,isT];lia
 ·refine List.any_eq_false.mpr λp hp=>?_;simpa using o.irr p hp
 ·refine fg.mpr λp hp=>fg.mpr λq hq=>?_
  by_cases c:p.2=q.1
  ·simp[c,o.tr p hp q hq c]
  ·simp[c]
theorem RK(o:Bg n ps):mE [aG n ps] H=.ok (.bl true) H:=by have:=z6r (H:=H) (n:=(n:Int)) (ps:=ps) (by have:=o.len;lia);rw[o.b]at this;exact this
end
theorem z6u(H:Hs)(n:Nat)(a:Int)(b:Bool)(m:Int)(h0:0<m)(h1:m<18446744073709551616)(e:getL H n=some [.int a,.bl b]):
  ∃r a',0<=r/\r<m/\dH [.ref n,.int m] H=.ok (.int r) (H.set n (.lst [.int a',.bl b])):=by
 cases b with
 |true=>refine⟨a%m,a/m,Int.emod_nonneg _ (by lia),Int.emod_lt_of_pos _ h0,?_⟩;simp[dH,GG,aT,dJ,aH,bP,cF,m2,aA,mC,aO,eE,eO,e,gJ,dY,eH,jZ,aK,jF,lV,tD,h0,aD,vS,rH,tN,h1,zP,aL,bN]
 |false=>
  have q1:∀ys,getL (H.set n (.lst ys)) n=some ys:=λys=>oX e;generalize hs:(a*48271+29)%2147483647=s;have s0:0<=s:=by lia
  have s1:s<2147483647:=by lia
  generalize ht:(s*s+39373*s+7)%2147483629=t;have t0:0<=t:=by lia
  have t1:t<2147483629:=by lia
  generalize hu:(t*t+16807*t)%2147483587=u;refine⟨u/8%m,s,Int.emod_nonneg _ (by lia),Int.emod_lt_of_pos _ h0,?_⟩;have w1:iB s=true:=by simp[iB];lia
  have w2:iB t=true:=by simp[iB];lia
  have w3:iB 48271=true:=by decide
  have w4:iB 39373=true:=by decide
  have w5:iB 16807=true:=by decide
  simp[dH,GG,aT,dJ,aH,bP,cF,m2,aA,mC,aO,eE,eO,e,gJ,dY,eH,jZ,aK,jF,lV,tD,h0,aD,vS,rH,tN,h1,zP,aL,bN,cA,cD,mQ,pV,zG,w1,w2,w3,w4,w5,q1,hs,ht,hu]
def St(n:Nat)(H:Hs):Prop:=∃a b,getL H n=some [.int a,.bl b]
theorem St.fr{n:Nat}{S:Aw}{H H':Hs}(s:St n H)(f:Fr S H H')(h:n∉S):St n H':=let ⟨a,b,e⟩:=s;⟨a,b,f.getL e h⟩
theorem uJ{H:Hs}{n:Nat}(m:Int)(s:St n H)(h0:0<m:=by decide)(h1:m<18446744073709551616:=by decide):
  ∃r H',0<=r/\r<m/\dH [.ref n,.int m] H=.ok (.int r) H'/\Fr [n] H H'/\St n H':=by
 obtain⟨a,b,e⟩:=s;obtain⟨r,a',r0,r1,ht⟩:=z6u H n a b m h0 h1 e;exact⟨r,_,r0,r1,ht,Gm,a',b,oX e⟩
theorem rZ{ρ:Ev}{i n:Nat}{H:Hs}(m:Int)(s:St n H)(hρ:ρ[i]?=some (some (.ref n)))(h0:0<m:=by decide)(h1:m<18446744073709551616:=by decide):
  ∃r H',0<=r/\r<m/\aB dH (aJ (aA i) (aF m)) ρ H=.ok (.int r) H'/\Fr [n] H H'/\St n H':=by
 obtain⟨r,H',r0,r1,ht,f,s'⟩:=uJ m s h0 h1;refine⟨r,H',r0,r1,?_,f,s'⟩;simp[aB,aR,aA,hρ,mC,aQ,ht]
theorem z6v(scr:y')(k:Nat)(h:Hs):∃H',rR scr [.scr,.int k] h=.ok (.ref h.length) H'/\Fr [] h H'/\St h.length H':=by
 have cell:∃c,wW scr [.scr,.int k] h=.ok (.int c) h:=by
  by_cases hk:k<scr.length
  ·refine⟨scr[k],?_⟩;have C':(k:Int)<scr.length:=by lia
   simp[wW,AY,aT,dJ,aH,bP,mB,m2,aA,mC,fH,aB,f1,iC,fX,aR,aQ,dZ,C',hk,eO,gJ,dY,eH,aL,bN]
  ·refine⟨0,?_⟩;have C':¬(k:Int)<scr.length:=by lia
   simp[wW,AY,aT,dJ,aH,bP,mB,m2,aA,mC,fH,aB,f1,iC,fX,aR,aQ,dZ,C',hk,eO,gJ,dY,eH,aL,bN,cA]
 obtain⟨c,hc⟩:=cell;have fin:∀a b,Fr [] h (h++[Fy [.int a,.bl b]])/\St h.length (h++[Fy [.int a,.bl b]]):=λa b=>⟨Fz,a,b,by rw[z0n];rfl⟩
 by_cases hg:c>=1000000000000000000
 ·refine⟨_,?_,fin (c-1000000000000000000) true⟩;simp[rR,AZ,aT,dJ,aH,aK,aB,aR,aA,aQ,hc,aD,bP,mB,m2,pW,gQ,vW,lV,vE,mC,dZ,hg,aL,bY,eX,lim,bN]
 ·refine⟨_,?_,fin (c%2147483647) false⟩;simp[rR,AZ,aT,dJ,aH,aK,aB,aR,aA,aQ,hc,aD,bP,mB,m2,pW,gQ,vW,lV,vE,mC,dZ,hg,aL,bY,eX,lim,bN,cA,jF,tD]
theorem St.lt{st:Nat}{H:Hs}(s:St st H):st<H.length:=let ⟨_,_,e⟩:=s;zZ e
theorem z6w{H:Hs}{q:Nat}{ks:y'}(e:getL H q=some (ks.map Fx)):dR (.ref q) (.ref H.length) (H++[.lst []])=.ok (.bl (!ks.isEmpty)) (H++[.lst []]):=by
 have p1:cG cX (H++[.lst []]) (.ref q)=some (.lst (ks.map Gn)):=by show cG (28+1+1) (H++[.lst []]) (.ref q)=_;rw[cG];simp only[jT (l:=[.lst []]) e,rJ]
 have p2:cG cX (H++[.lst []]) (.ref H.length)=some (.lst []):=by
  show cG (28+1+1) (H++[.lst []]) (.ref H.length)=_;rw[cG];have:getL (H++[.lst []]) H.length=some []:=by simp[getL]
  simp only[this];rfl
 unfold dR;rw[p1,p2]
 cases ks<;>simp[bX,iQ]
def CI:M Bool:=mB (m2 dR (aA 2) (bY aQ))
def CJ:MS:=bV (iU (aA 3) (vV (aA 2) (aB dH (aJ (aA 0) (aB (f1 dU) (aE (aA 2)))))))
section
variable{st a b:Nat}{d:Dv}
theorem RM(Dy:a≠b)(has:a≠st)(hbs:b≠st):∀(f:Nat)(ls fs:y')(H:Hs),ls.length<f->ls.length+fs.length<=100->getL H a=some (ls.map Fx)->getL H b=some (fs.map Fx)->St st H->
  ∃(H':Hs)(ys:y'),jE CI CJ f [some (.ref st),some d,some (.ref a),some (.ref b)] H=.nx [some (.ref st),some d,some (.ref a),some (.ref b)] H'/\getL H' b=some (ys.map Fx)/\ys.Perm (fs++ls)/\St st H'/\Fr [st,a,b] H H'
 |0,ls,fs,H,h,_,_,_,_=>by lia
 |f+1,ls,fs,H,h,hl,ea,eb,s=>by
  have tc:CI [some (.ref st),some d,some (.ref a),some (.ref b)] H=.ok (!ls.isEmpty) (H++[.lst []]):=by simp[CI,mB,m2,aA,bY,aQ,lim,z6w ea,dZ]
  have ea1:=jT (l:=[Fy []]) ea;have eb1:=jT (l:=[Fy []]) eb;have g1:Fr [st,a,b] H (H++[Fy []]):=Fz;have s1:=s.fr (Fz (S:=[]) (l:=[Fy []])) (by simp);generalize H++[Fy []]=H1 at tc ea1 eb1 g1 s1
  cases hls:ls with
  |nil=>subst hls;refine⟨H1,fs,?_,eb1,by simp,s1,g1⟩;exact RG tc
  |cons x r=>
   have hne:ls.isEmpty=false:=by rw[hls];rfl
   have hpos:(0:Int)<ls.length:=by rw[hls];simp
   obtain⟨k,H2,k0,k1,ht,f2,s2⟩:=uJ (ls.length:Int) s1 hpos (by lia);have ea2:=f2.getL ea1 (by simpa using has);have eb2:=f2.getL eb1 (by simpa using hbs);have hk:k.toNat<ls.length:=by lia
   have ixk:eH (ls.map Fx).length k=some k.toNat:=by unfold eH;rw[if_pos k0,ax,if_pos k1]
   have getk:(ls.map Fx)[k.toNat]?=some (.int ls[k.toNat]):=by simp[hk]
   have hlen:f1 dU [.ref a] H1=.ok (.int ls.length) H1:=by show(if eE (.ref a)=true then iC [] (.ref a) H1 else .bad)=_;simp[eE,iC,fX,ea1]
   have hz:(ls.map Fx).length<=1000000:=by rw[ax];lia
   have pop:zU (.ref a) (.int k) H2=.ok (.int ls[k.toNat]) (H2.set a (.lst ((ls.eraseIdx k.toNat).map Fx))):=by
    simp only[zU,ea2,ixk,getk,hz,if_true];have em:(ls.map Fx).eraseIdx k.toNat=(ls.eraseIdx k.toNat).map Fx:=by rw[wj,wj,fq,vh,pj]
    rw[em]
   have eb3:getL (H2.set a (.lst ((ls.eraseIdx k.toNat).map Fx))) b=some (fs.map Fx):=by rw[N3 Dy];exact eb2
   have ea3:getL (H2.set a (.lst ((ls.eraseIdx k.toNat).map Fx))) a=some ((ls.eraseIdx k.toNat).map Fx):=oX ea2;have f3:Fr [st,a,b] H2 (H2.set a (.lst ((ls.eraseIdx k.toNat).map Fx))):=Gm.mono (by simp);have s3:St st (H2.set a (.lst ((ls.eraseIdx k.toNat).map Fx))):=s2.fr Gm (by simpa using dk has);generalize hH3:H2.set a (.lst ((ls.eraseIdx k.toNat).map Fx))=H3 at pop eb3 ea3 f3 s3;have hfl:(fs.map Fx).length<1000000:=by rw[ax];lia
   have body:CJ [some (.ref st),some d,some (.ref a),some (.ref b)] H1=.nx [some (.ref st),some d,some (.ref a),some (.ref b)] (H3.set b (.lst ((fs++[ls[k.toNat]]).map Fx))):=by
    have isA:lD (.ref a) H1=true:=by simp[lD,ea1]
    have isB:lD (.ref b) H1=true:=by simp[lD,eb1]
    have hpop:vV (aA 2) (aB dH (aJ (aA 0) (aB (f1 dU) (aE (aA 2))))) [some (.ref st),some d,some (.ref a),some (.ref b)] H1=.ok (.int ls[k.toNat]) H3:=by simp[vV,aA,isA,aB,aR,aQ,hlen,ht,pop]
    have happ:oV (.ref b) (.int ls[k.toNat]) H3=.ok .non (H3.set b (.lst ((fs++[ls[k.toNat]]).map Fx))):=by simp only[oV,eb3,hfl,if_true,fq];rfl
    simp[CJ,bV,iU,aA,isB,hpop,happ]
   have Cd:(ls.eraseIdx k.toNat).length=ls.length-1:=yg hk;obtain⟨H',ys,w,e',pm,s',f'⟩:=RM Dy has hbs f (ls.eraseIdx k.toNat) (fs++[ls[k.toNat]]) (H3.set b (.lst ((fs++[ls[k.toNat]]).map Fx))) (by lia) (by rw[cf];simp;lia) (by rw[N3 (dk Dy)];exact ea3) (oX eb3) (s3.fr Gm (by simpa using dk hbs));refine⟨H',ys,?_,e',?_,s',?_⟩
   ·rw[hne]at tc;rw[IC tc body];exact w
   ·rw[<-hls];refine pm.trans ?_;rw[vt];refine yh fs ?_;have:=SR.erase_perm ls k.toNat hk;simpa using this
   ·exact(((g1.trans f2 (by simp)).trans f3 (by simp)).trans (T:=[b]) Gm (by simp)).trans f' (by simp)
end
def InP(n:Nat)(ps:dn):Prop:=∀p∈ps,0<=p.1/\p.1<n/\0<=p.2/\p.2<n
theorem RN:∀ps:dn,bU qC (ps.map aN)=some (ps.map lG)
 |[]=>rfl
 |p::ps=>by rw[du,bU,RN ps];rfl
theorem z6x(ps:dn):wR (ps.map lG)=true:=by simp[wR,lG]
theorem z6y(ps:dn):(ps.map lG).map wQ=ps.map aN:=by rw[ib];rfl
section
variable{H:Hs}{ps:dn}{d:Dv}
theorem z6z(h:tS d H=some (ps.map lG))(hl:(dC gG ps).length<64):tT d H=.ok (.ref H.length) (H++[.lst ((dC gG ps).map aN)]):=by unfold tT;rw[h];dsimp only;rw[OM wK,ax,if_pos (by rw[z6x];simpa using hl),z6y]
end
section
variable{H:Hs}{ps:dn}
theorem z70{i:Nat}(e:getL H i=some (ps.map aN)):tS (.ref i) H=some (ps.map lG):=by simp only[tS,e,RN]
end
theorem IF{H:Hs}{i k:Nat}{xs:y'}(e:getL H i=some (xs.map Fx))(hk:k<xs.length):aO (.ref i) (.int (k:Int)) H=.ok (.int xs[k]) H:=by
 have h1:eH (xs.map Fx).length (k:Int)=some k:=by unfold eH;rw[ax,if_pos (by lia),if_pos (by lia)];simp
 have h2:dY (xs.map Fx) (k:Int)=some (.int xs[k]):=by unfold dY;rw[h1];simp[hk]
 simp only[aO,eE,eO,e,gJ,h2,if_true]
theorem eq_int(x y:Int)(H:Hs):cE (.int x) (.int y) H=.ok (.bl (x==y)) H:=by simp[cE,cX,cG,bX]
theorem IG:∀{ys:y'},ys.Nodup->∀i(h:i<ys.length),fY ys[i] ys=some i
 |[],_,i,h=>by simp at h
 |y::ys,nd,0,h=>by simp[fY]
 |y::ys,nd,i+1,h=>by
  have h1:=jm.mp nd;have hi:i<ys.length:=by simpa using h
  have ne:y≠ys[i]:=λz=>h1.1 (by rw[z];exact gu hi);simp[fY,ne,IG h1.2 i hi]
def RO(n:Nat)(ps:dn):Prop:=InP n ps/\∃f:Int->Int,∀p∈ps,f p.1<f p.2
theorem IH{m:Int}(h0:0<=m)(h:m<=100):gE m=true:=by
 have h1:(-4611686018427387904:Int)<=m:=by lia
 have h2:m<4611686018427387904:=by lia
 unfold gE;rw[decide_eq_true h1,decide_eq_true h2];rfl
theorem II{H:Hs}{j:Int}(h0:0<=j)(h1:j<=100):bT [.int j] H=.ok (bZ 0 j) H:=by simp only[bT,IH h0 h1,if_true]
theorem z71{H:Hs}{i j:Int}(h0:0<=i)(h1:i<=100)(h2:0<=j)(h3:j<=100):iE [.int i,.int j] H=.ok (bZ i j) H:=by simp only[iE,IH h0 h1,IH h2 h3,and_self,if_true]
def uK(ys:y')(n:Nat)(ps:dn):Prop:=∀p∈ps,∃i j,i<j/\j<n/\p=(ys.getD i 0,ys.getD j 0)
section
variable{st ir ip im n:Nat}{ys ms:y'}{w:Int}{d1:Dv}
theorem z72(pm:ys.Perm (bJ n)){ps:dn}(h:uK ys n ps):RO n ps:=by
 have hl:ys.length=n:=by rw[pm.length_eq];simp[bJ]
 have nd:ys.Nodup:=by refine pm.nodup_iff.mpr ?_;unfold bJ;simp only[fh];refine List.Pairwise.map _ ?_ (sj (n:=n));intro a b h e;exact h (by lia)
 have mem:∀i,i<n->0<=ys.getD i 0/\ys.getD i 0<n:=λi hi=>by
  have hm:ys.getD i 0∈bJ n:=pm.mem_iff.mp (by simp[show i<ys.length by lia]);simp only[bJ,br,bg,fh]at hm;obtain⟨k,hk,e⟩:=hm
  lia
 refine⟨λp hp=>?_,λa=>((fY a ys).getD 0:Nat),λp hp=>?_⟩
 ·obtain⟨i,j,Cw,hj,rfl⟩:=h p hp;exact⟨(mem i (by lia)).1,(mem i (by lia)).2,(mem j hj).1,(mem j hj).2⟩
 ·obtain⟨i,j,Cw,hj,rfl⟩:=h p hp;have hi':i<ys.length:=by lia
  have hj':j<ys.length:=by lia
  have e1:ys.getD i 0=ys[i]:=by simp[hi']
  have e2:ys.getD j 0=ys[j]:=by simp[hj']
  simp only[e1,e2,IG nd i hi',IG nd j hj',Option.getD_some]
  lia
end
end L2.Mr.Com
namespace L2.Mr.Cod
open L2.Mr.Com
section
variable{st n:Nat}
theorem RP{H:Hs}(hn:n<=6):nE (.int n) H=.ok (.ref H.length) (H++[.lst ((bJ n).map Fx)]):=by
 have c:(decide (0<=(n:Int))&&decide ((n:Int)<=1000))=true:=by simp;lia
 simp only[nE,c,if_true]
theorem z73:GK=aH (aK (aB (f1 nE) (aE (aA 1))) (aD 2)) (aH (aK (bY aQ) (aD 3)) (aH (jE CI CJ 40) (aL (aB (f1 lB) (aE (aA 3)))))):=rfl
theorem z74{H:Hs}(s:Com.St st H)(hn:n<=6):∃(ys:y')(H':Hs),A0 [.ref st,.int n] H=.ok (.tup (ys.map Fx)) H'/\ys.Perm (bJ n)/\Com.St st H'/\Fr [st] H H':=by
 have lt:=s.lt;have hL:=RP (H:=H) hn;have hlen:(bJ n).length<=6:=by simp[bJ];lia
 generalize bJ n=xs at hL hlen;have w0:aK (aB (f1 nE) (aE (aA 1))) (aD 2) [some (.ref st),some (.int n),none,none] H=.nx [some (.ref st),some (.int n),some (.ref H.length),none] (H++[.lst (xs.map Fx)]):=by generalize (n:Int)=z at hL;simp[aK,aB,L2.Mr.f1,aR,aA,aQ,hL,aD]
 have w1:aK (bY aQ) (aD 3) [some (.ref st),some (.int n),some (.ref H.length),none] (H++[.lst (xs.map Fx)])=.nx [some (.ref st),some (.int n),some (.ref H.length),some (.ref (H.length+1))] (H++[.lst (xs.map Fx)]++[.lst []]):=by simp[aK,bY,aQ,lim,aD]
 have ea:getL (H++[.lst (xs.map Fx)]++[.lst []]) H.length=some (xs.map Fx):=jT (by simp[getL]);have eb:getL (H++[.lst (xs.map Fx)]++[.lst []]) (H.length+1)=some (([]:y').map Fx):=by simp[getL]
 have f0:Fr [st] H (H++[.lst (xs.map Fx)]++[.lst []]):=Fr.trans (T:=[]) Fz Fz (by simp);have s0:Com.St st (H++[.lst (xs.map Fx)]++[.lst []]):=(s.fr (Fz (S:=[]) (l:=[.lst (xs.map Fx)])) (by simp)).fr (Fz (S:=[])) (by simp);obtain⟨H',ys,w2,e2,pm,s2,f2⟩:=RM (st:=st) (a:=H.length) (b:=H.length+1) (d:=.int n) (by lia) (by lia) (by lia) 40 xs [] _ (by lia) (by simp;lia) ea eb s0;refine⟨ys,H',?_,by simpa using pm,s2,f0.trans f2 (by simp)⟩;show bN (GK [some (.ref st),some (.int n),none,none] H)=_;rw[z73,bR w0,bR w1,bR w2];simp[aL,aB,L2.Mr.f1,lB,aR,aA,aQ,e2,bN]
def wS(m:Int)(S:dn)(a b:Int):dn:=if(a,m)∈S/\(m,b)∈S/\(a,b)∉S then S++[(a,b)]else S
def wB(m a:Int)(bs:y')(S:dn):dn:=bs.foldl (λS b=>wS m S a b) S
def wA(m:Int)(as bs:y')(S:dn):dn:=as.foldl (λS a=>wB m a bs S) S
def wM(ms xs:y')(S:dn):dn:=ms.foldl (λS m=>wA m xs xs S) S
theorem xQ{m a b:Int}{S:dn}{p:Int×Int}(h:p∈S):p∈wS m S a b:=by unfold wS;split<;>simp[h]
theorem IJ{m a b:Int}{S:dn}{p:Int×Int}(h:p∈wS m S a b):p∈S∨(p=(a,b)/\(a,m)∈S/\(m,b)∈S):=by
 unfold wS at h
 split at h
 ·rename_i c
  rcases cz.mp h with h|h
  ·exact .inl h
  ·exact .inr ⟨cc.mp h,c.1,c.2.1⟩
 ·exact .inl h
theorem wS_in{m a b x:Int}{S:dn}:(x,m)∈wS m S a b↔(x,m)∈S:=by
 refine⟨λh=>?_,xQ⟩
 rcases IJ h with h|⟨e,h1,_⟩
 ·exact h
 ·cases e;exact h1
theorem wS_out{m a b x:Int}{S:dn}:(m,x)∈wS m S a b↔(m,x)∈S:=by
 refine⟨λh=>?_,xQ⟩
 rcases IJ h with h|⟨e,_,h1⟩
 ·exact h
 ·cases e;exact h1
theorem xR{m a:Int}{p:Int×Int}:∀{bs:y'}{S:dn},p∈S->p∈wB m a bs S
 |[],_,h=>h
 |b::bs,S,h=>xR (bs:=bs) (xQ (b:=b) h)
theorem wB_in{m a x:Int}:∀{bs:y'}{S:dn},(x,m)∈wB m a bs S↔(x,m)∈S
 |[],_=>Iff.rfl
 |b::bs,S=>(wB_in (bs:=bs) (S:=wS m S a b)).trans wS_in
theorem Fg{m a x:Int}:∀{bs:y'}{S:dn},(m,x)∈wB m a bs S↔(m,x)∈S
 |[],_=>Iff.rfl
 |b::bs,S=>(Fg (bs:=bs) (S:=wS m S a b)).trans wS_out
theorem RQ{m a:Int}{p:Int×Int}:∀{bs:y'}{S:dn},p∈wB m a bs S->p∈S∨(p.1,m)∈S/\(m,p.2)∈S
 |[],_,h=>.inl h
 |b::bs,S,h=>by
  rcases RQ (bs:=bs) (S:=wS m S a b) h with h|⟨h1,h2⟩
  ·rcases IJ h with h|⟨e,h1,h2⟩
   ·exact .inl h
   ·subst e;exact .inr ⟨h1,h2⟩
  ·exact .inr ⟨wS_in.mp h1,wS_out.mp h2⟩
theorem RS{m a b:Int}:∀{bs:y'}{S:dn},b∈bs->(a,m)∈S->(m,b)∈S->(a,b)∈wB m a bs S
 |c::bs,S,hb,h1,h2=>by
  rcases aw.mp hb with rfl|hb
  ·refine xR (bs:=bs) ?_;show(a,b)∈wS m S a b;unfold wS
   by_cases q:(a,b)∈S
   ·rw[if_neg (λz=>z.2.2 q)];exact q
   ·rw[if_pos ⟨h1,h2,q⟩];simp
  ·exact RS (bs:=bs) hb (xQ h1) (xQ h2)
theorem CK{m:Int}{bs:y'}{p:Int×Int}:∀{as:y'}{S:dn},p∈S->p∈wA m as bs S
 |[],_,h=>h
 |a::as,S,h=>CK (as:=as) (xR h)
theorem wA_in{m x:Int}{bs:y'}:∀{as:y'}{S:dn},(x,m)∈wA m as bs S↔(x,m)∈S
 |[],_=>Iff.rfl
 |a::as,S=>(wA_in (as:=as) (S:=wB m a bs S)).trans wB_in
theorem Fh{m x:Int}{bs:y'}:∀{as:y'}{S:dn},(m,x)∈wA m as bs S↔(m,x)∈S
 |[],_=>Iff.rfl
 |a::as,S=>(Fh (as:=as) (S:=wB m a bs S)).trans Fg
theorem xS{m:Int}{bs:y'}{p:Int×Int}:∀{as:y'}{S:dn},p∈wA m as bs S->p∈S∨(p.1,m)∈S/\(m,p.2)∈S
 |[],_,h=>.inl h
 |a::as,S,h=>by
  rcases xS (as:=as) (S:=wB m a bs S) h with h|⟨h1,h2⟩
  ·exact RQ h
  ·exact .inr ⟨wB_in.mp h1,Fg.mp h2⟩
theorem xT{m a b:Int}{bs:y'}(hb:b∈bs):∀{as:y'}{S:dn},a∈as->(a,m)∈S->(m,b)∈S->(a,b)∈wA m as bs S
 |c::as,S,ha,h1,h2=>by
  rcases aw.mp ha with rfl|ha
  ·exact CK (as:=as) (RS hb h1 h2)
  ·exact xT hb (as:=as) ha (xR h1) (xR h2)
def uL(xs:y')(S:dn):Prop:=∀p∈S,p.1∈xs/\p.2∈xs
theorem z75{m:Int}{xs as bs:y'}{S:dn}(h:uL xs S):uL xs (wA m as bs S):=λp hp=>by
 rcases xS hp with hp|⟨h1,h2⟩
 ·exact h p hp
 ·exact⟨(h _ h1).1,(h _ h2).2⟩
theorem z76{m k:Int}{xs:y'}{S:dn}(hX:uL xs S)(hk:∀a b,(a,k)∈S->(k,b)∈S->(a,b)∈S):∀a b,(a,k)∈wA m xs xs S->(k,b)∈wA m xs xs S->(a,b)∈wA m xs xs S:=λa b h1 h2=>by
 rcases xS h1 with h1|⟨h1,h1'⟩<;>rcases xS h2 with h2|⟨h2,h2'⟩
 ·exact CK (hk a b h1 h2)
 ·exact xT (hX _ h2').2 (hX _ h1).1 (hk _ _ h1 h2) h2'
 ·exact xT (hX _ h2).2 (hX _ h1).1 h1 (hk _ _ h1' h2)
 ·exact xT (hX _ h2').2 (hX _ h1).1 h1 h2'
theorem RT{xs:y'}:∀{ms:y'}{S:dn}(D:Int->Prop),uL xs S->(∀k,D k->∀a b,(a,k)∈S->(k,b)∈S->(a,b)∈S)->
  uL xs (wM ms xs S)/\(∀p∈S,p∈wM ms xs S)/\∀k,D k∨k∈ms->∀a b,(a,k)∈wM ms xs S->(k,b)∈wM ms xs S->(a,b)∈wM ms xs S
 |[],S,D,hX,h=>⟨hX,λ_ hp=>hp,λk hk=>h k (hk.resolve_right (by simp))⟩
 |m::ms,S,D,hX,h=>by
  obtain⟨h1,h2,h3⟩:=RT (ms:=ms) (S:=wA m xs xs S) (λk=>D k∨k=m) (z75 hX) (λk hk=>by
   rcases hk with hk|rfl
   ·exact z76 hX (h k hk)
   ·exact λa b q1 q2=>xT (hX _ (Fh.mp q2)).2 (hX _ (wA_in.mp q1)).1 (wA_in.mp q1) (Fh.mp q2))
  refine⟨h1,λp hp=>h2 p (CK hp),λk hk=>h3 k ?_⟩
  rcases hk with hk|hk
  ·exact .inl (.inl hk)
  ·rcases aw.mp hk with hk|hk
   ·exact .inl (.inr hk)
   ·exact .inr hk
theorem RU{xs:y'}{f:Int->Int}:∀{ms:y'}{S:dn},(∀p∈S,f p.1<f p.2)->∀p∈wM ms xs S,f p.1<f p.2
 |[],_,h=>h
 |m::ms,S,h=>RU (ms:=ms) (S:=wA m xs xs S) λp hp=>by
  rcases xS hp with hp|⟨h1,h2⟩
  ·exact h p hp
  ·have:=h _ h1;have:=h _ h2;simp only at *;lia
end
section
variable{n i:Nat}{H:Hs}{S:dn}{m a b:Int}{x0 x1 x3 x4 x5:A'}
theorem IK(neg:Bool)(p:Int×Int)(e:getL H i=some (S.map aN)):cN neg (aN p) (.ref i) H=.ok (.bl (if neg then !decide (p∈S)else decide (p∈S))) H:=by
 have e':(S.map kR).any (λt=>bX t (kR p))=decide (p∈S):=by
  rw[gq];simp only[td,mz,ui,N5,decide_eq_true_eq];constructor
  ·rintro ⟨q,hq,rfl⟩;exact hq
  ·intro h;exact⟨p,h,rfl⟩
 have h1:bU (cG cX H) (S.map aN)=some (S.map kR):=FT 28 H S;have h2:cG cX H (aN p)=some (kR p):=FR 28 H p;show lE [] neg (aN p) (.ref i) H=_;simp only[lE,fX,e,h1,h2,e']
def sD:MS:=bP (iR (mB (m2 (cN false) (bH (aJ (aA 4) (aA 3))) (aA 2))) (iR (mB (m2 (cN false) (bH (aJ (aA 3) (aA 5))) (aA 2))) (mB (m2 (cN true) (bH (aJ (aA 4) (aA 5))) (aA 2))))) (bV (iU (aA 2) (bH (aJ (aA 4) (aA 5))))) cA
def IL:MS:=eW (aM bT (aE (aA 0))) (aD 5) sD
def xU:MS:=eW (aM bT (aE (aA 0))) (aD 4) IL
theorem z77:GL=aH (aK (aB (f1 rD) (aE (aA 1))) (aD 2)) (aH (eW (aM bT (aE (aA 0))) (aD 3) xU) (aL (aB (f1 lB) (aE (aB (f1 tT) (aE (aA 2))))))):=rfl
theorem z78(e:getL H i=some (S.map aN))(hl:S.length<=500):
  ∃H',sD [x0,x1,some (.ref i),some (.int m),some (.int a),some (.int b)] H=.nx [x0,x1,some (.ref i),some (.int m),some (.int a),some (.int b)] H'/\getL H' i=some ((wS m S a b).map aN)/\Fr [i] H H':=by
 have t1:=IK false (a,m) e;have t2:=IK false (m,b) e;have t3:=IK true (a,b) e;simp only[aN,cp,if_false,if_true]at t1 t2 t3;have hz:S.length<1000000:=by lia
 by_cases c1:(a,m)∈S
 ·by_cases c2:(m,b)∈S
  ·by_cases c3:(a,b)∈S
   ·refine⟨H,?_,by unfold wS;rw[if_neg (λz=>z.2.2 c3)];exact e,Gd⟩;simp[sD,bP,iR,mB,m2,bH,aR,aA,aQ,lim,t1,t2,t3,c1,c2,c3,dZ,cA]
   ·refine⟨H.set i (.lst (S.map aN++[aN (a,b)])),?_,?_,Gm⟩
    ·simp[sD,bP,iR,mB,m2,bH,aR,aA,aQ,lim,t1,t2,t3,c1,c2,c3,dZ,bV,iU,lD,e,oV,hz,aN]
    ·unfold wS;rw[if_pos ⟨c1,c2,c3⟩,fq];exact oX e
  ·refine⟨H,?_,by unfold wS;rw[if_neg (λz=>c2 z.2.1)];exact e,Gd⟩;simp[sD,bP,iR,mB,m2,bH,aR,aA,aQ,lim,t1,t2,c1,c2,dZ,cA]
 ·refine⟨H,?_,by unfold wS;rw[if_neg (λz=>c1 z.1)];exact e,Gd⟩;simp[sD,bP,iR,mB,m2,bH,aR,aA,aQ,lim,t1,c1,dZ,cA]
theorem IM{bd:MS}{k:Nat}{ρ:Ev}(h0:∀H,aM bT (aE (aA 0)) ρ H=.ok (bZ 0 n) H)(P:Nat->dn->Ev->Hs->Prop)(g:dn->Int->dn)(step:∀(j:Nat)S ρ H,j<n->P j S ρ H->∃ρ1 ρ2 H',aD k (.int j) ρ=some ρ1/\bd ρ1 H=.nx ρ2 H'/\P (j+1) (g S j) ρ2 H')(hP:P 0 S ρ H):
  ∃ρ' H',eW (aM bT (aE (aA 0))) (aD k) bd ρ H=.nx ρ' H'/\P n ((bJ n).foldl g S) ρ' H':=by
 obtain⟨ρ',H',w,h⟩:=wG (sg:=aD k) (b:=bd) (h0 H) (λj ρ H=>P j (((bJ n).take j).foldl g S) ρ H)
  (λj ρ H hj h=>by
   have hj':j<n:=by simpa[bZ]using hj
   obtain⟨ρ1,ρ2,H',e1,e2,e3⟩:=step j _ ρ H hj' h;refine⟨.int j,ρ1,ρ2,H',by simp[bZ],e1,e2,?_⟩;have hq:(bJ n).take (j+1)=(bJ n).take j++[(j:Int)]:=by
    have hl:j<(bJ n).length:=by simp[bJ];lia
    rw[List.take_add_one];have:(bJ n)[j]?=some (j:Int):=by rw[bz hl];simp[bJ]
    rw[this];rfl
   rw[hq,List.foldl_append];exact e3) (λ_ _ _=>rfl) (by simpa using hP)
 refine⟨ρ',H',w,?_⟩;have:(bZ 0 (n:Int)).n=n:=by simp[bZ]
 rw[this,oi (by simp[bJ])]at h;exact h
theorem IP(hn:n<=6){ρ:Ev}:∀H,aM bT (aE (aA 0)) (some (.int n)::ρ) H=.ok (bZ 0 n) H:=λH=>by have q:aE (aA 0) (some (.int (n:Int))::ρ) H=.ok [.int n] H:=rfl;unfold aM;rw[q,Rs.bind_ok];exact II (by lia) (by lia)
theorem z79:(wS m S a b).length<=S.length+1:=by unfold wS;split<;>simp
theorem z7a(hn:n<=6)(e:getL H i=some (S.map aN))(hl:S.length<=400):
  ∃y5 H',IL [some (.int n),x1,some (.ref i),some (.int m),some (.int a),x5] H=.nx [some (.int n),x1,some (.ref i),some (.int m),some (.int a),y5] H'/\getL H' i=some ((wB m a (bJ n) S).map aN)/\(wB m a (bJ n) S).length<=S.length+n/\Fr [i] H H':=by
 obtain⟨ρ',H',w,y5,e1,e2,e3,e4⟩:=IM (S:=S) (H:=H) (bd:=sD) (k:=5) (ρ:=[some (.int n),x1,some (.ref i),some (.int m),some (.int a),x5]) (IP hn) (λj S' ρ H'=>∃y5,ρ=[some (.int n),x1,some (.ref i),some (.int m),some (.int a),y5]/\getL H' i=some (S'.map aN)/\S'.length<=S.length+j/\Fr [i] H H') (λS b=>wS m S a b)
  (λj S' ρ H' hj⟨y5,e1,e2,e3,e4⟩=>by subst e1;obtain⟨H2,w2,e5,f5⟩:=z78 (x0:=some (.int n)) (x1:=x1) (m:=m) (a:=a) (b:=(j:Int)) e2 (by lia);have:=z79 (m:=m) (a:=a) (b:=(j:Int)) (S:=S');exact⟨_,_,H2,rfl,w2,_,rfl,e5,by lia,e4.trans f5 (by simp)⟩) ⟨x5,rfl,e,by lia,Gd⟩
 subst e1;exact⟨y5,H',w,e2,e3,e4⟩
theorem z7b(hn:n<=6)(e:getL H i=some (S.map aN))(hl:S.length<=300):
  ∃y4 y5 H',xU [some (.int n),x1,some (.ref i),some (.int m),x4,x5] H=.nx [some (.int n),x1,some (.ref i),some (.int m),y4,y5] H'/\getL H' i=some ((wA m (bJ n) (bJ n) S).map aN)/\(wA m (bJ n) (bJ n) S).length<=S.length+6*n/\Fr [i] H H':=by
 obtain⟨ρ',H',w,y4,y5,e1,e2,e3,e4⟩:=IM (S:=S) (H:=H) (bd:=IL) (k:=4) (ρ:=[some (.int n),x1,some (.ref i),some (.int m),x4,x5]) (IP hn) (λj S' ρ H'=>∃y4 y5,ρ=[some (.int n),x1,some (.ref i),some (.int m),y4,y5]/\getL H' i=some (S'.map aN)/\S'.length<=S.length+6*j/\Fr [i] H H') (λS a=>wB m a (bJ n) S)
  (λj S' ρ H' hj⟨y4,y5,e1,e2,e3,e4⟩=>by subst e1;obtain⟨z5,H2,w2,e5,l5,f5⟩:=z7a (x1:=x1) (x5:=y5) (m:=m) (a:=(j:Int)) hn e2 (by lia);exact⟨_,_,H2,rfl,w2,_,_,rfl,e5,by lia,e4.trans f5 (by simp)⟩) ⟨x4,x5,rfl,e,by lia,Gd⟩
 subst e1;exact⟨y4,y5,H',w,e2,e3,e4⟩
theorem z7c{j:Nat}{ps:dn}(n1:1<=n)(hn:n<=6)(e:getL H j=some (ps.map aN))(hl:ps.length<=40)(g:RO n ps):
  ∃(cs:dn)(H':Hs),tV [.int n,.ref j] H=.ok (.tup (cs.map aN)) H'/\Bg n cs/\Fr [] H H':=by
 have w0:aK (aB (f1 rD) (aE (aA 1))) (aD 2) [some (.int n),some (.ref j),none,none,none,none] H=.nx [some (.int n),some (.ref j),some (.ref H.length),none,none,none] (H++[.lst (ps.map aN)]):=by simp[aK,aB,f1,rD,eE,vF,fX,aR,aA,aQ,e,aD]
 have g0:getL (H++[Fy (ps.map aN)]) H.length=some (ps.map aN):=by simp[getL]
 have f0:Fr [] H (H++[Fy (ps.map aN)]):=Fz;obtain⟨q,hq⟩:∃q,q=H.length:=⟨_,rfl⟩
 rw[<-hq]at w0 g0;obtain⟨H0,hH0⟩:∃H0,H0=H++[Fy (ps.map aN)]:=⟨_,rfl⟩
 rw[<-hH0]at w0 g0 f0;obtain⟨ρ',H1,w1,y3,y4,y5,e1,e2,e3,e4⟩:=IM (S:=ps) (H:=H0) (bd:=xU) (k:=3) (ρ:=[some (.int n),some (.ref j),some (.ref q),none,none,none]) (IP hn) (λk S' ρ H'=>∃y3 y4 y5,ρ=[some (.int n),some (.ref j),some (.ref q),y3,y4,y5]/\getL H' q=some (S'.map aN)/\S'.length<=ps.length+36*k/\Fr [q] H0 H') (λS m=>wA m (bJ n) (bJ n) S)
  (λk S' ρ H' hj⟨y3,y4,y5,e1,e2,e3,e4⟩=>by subst e1;obtain⟨z4,z5,H2,w2,e5,l5,f5⟩:=z7b (x1:=some (.ref j)) (x4:=y4) (x5:=y5) (m:=(k:Int)) hn e2 (by lia);exact⟨_,_,H2,rfl,w2,_,_,_,rfl,e5,by lia,e4.trans f5 (by simp)⟩) ⟨none,none,none,rfl,g0,by lia,Gd⟩
 subst e1;have hX:uL (bJ n) ps:=λp hp=>by have:=g.1 p hp;simp only[bJ,br,bg,fh];exact⟨⟨p.1.toNat,by lia,by lia⟩,p.2.toNat,by lia,by lia⟩
 obtain⟨k1,k2,k3⟩:=RT (xs:=bJ n) (ms:=bJ n) (S:=ps) (λ_=>False) hX (λ_ h=>h.elim);obtain⟨f,hf⟩:=g.2;have k4:=RU (xs:=bJ n) (ms:=bJ n) (f:=f) hf;change getL H1 q=some ((wM (bJ n) (bJ n) ps).map aN)at e2;generalize wM (bJ n) (bJ n) ps=W at e2 k1 k2 k3 k4;have hr:=rN stoP W;have hm:∀p,p∈dC gG W↔p∈W:=λp=>oZ stoP p W;have o:Bg n (dC gG W):=by
  refine⟨n1,hn,λp hp=>?_,hr,λp hp e=>?_,λp hp r hr' e=>?_⟩
  ·have:=k1 p ((hm p).mp hp);simp only[bJ,br,bg,fh]at this;obtain⟨⟨k,hk,e⟩,k',C',e'⟩:=this
   lia
  ·have:=k4 p ((hm p).mp hp);rw[e]at this;lia
  ·refine(hm _).mpr (k3 p.2 (.inr (k1 p ((hm p).mp hp)).2) p.1 r.2 ((hm p).mp hp) ?_);rw[e];exact(hm r).mp hr'
 have hs:=z6z (z70 e2) (by have:=o.len;lia);have f1':Fr [] H1 (H1++[Fy ((dC gG W).map aN)]):=Fz;have g2:getL (H1++[Fy ((dC gG W).map aN)]) H1.length=some ((dC gG W).map aN):=by simp[getL]
 refine⟨dC gG W,H1++[Fy ((dC gG W).map aN)],?_,o,(f0.trans e4 (λx hx=>.inr (by rw[cc.mp hx,hq];exact aq _))).trans f1' (by simp)⟩;show bN (GL [some (.int n),some (.ref j),none,none,none,none] H)=_;rw[z77,bR w0,bR w1];generalize H1++[Fy ((dC gG W).map aN)]=H2 at hs g2;simp[aL,aB,f1,lB,aR,aA,aQ,hs,g2,bN]
end
open L2.Mr.Com
theorem RV{H:Hs}{ys:y'}{k:Nat}(hk:k<ys.length):aO (.tup (ys.map Fx)) (.int k) H=.ok (.int (ys.getD k 0)) H:=by
 have h1:eH (ys.map Fx).length (k:Int)=some k:=by
  unfold eH;have hl:(ys.map Fx).length=ys.length:=by simp
  rw[hl,if_pos (by lia),if_pos (by lia)];simp
 have h2:dY (ys.map Fx) (k:Int)=some (.int (ys.getD k 0)):=by unfold dY;rw[h1];simp[hk]
 simp only[aO,eE,eO,gJ,h2,if_true]
section
variable{st ip im n:Nat}{ys ms:y'}{w:Int}{d1:Dv}
abbrev ev(st ip im n:Nat)(w:Int)(d1:Dv)(ys:y')(x7 x8 x9:A'):Ev:=[some (.ref st),some d1,some (.int n),some (.tup (ys.map Fx)),some (.int w),some (.ref im),some (.ref ip),x7,x8,x9]
def q1:MS:=aK (m2 fH (aB dH (aJ (aA 0) (aF 4))) (m2 aO (bY (dD (aF 1) (aF 2) (aF 3))) (m2 jF (aA 4) (aF 3)))) (aD 9)
def q2:MS:=bP (mB (m2 cE (aA 4) (aF 3))) (aK (m2 cE (m2 aO (aA 5) (aA 7)) (m2 aO (aA 5) (aA 8))) (aD 9)) cA
def q3:MS:=bP (mB (m2 cE (aA 4) (aF 4))) (aK (m2 fH (m2 aO (aA 5) (aA 7)) (m2 aO (aA 5) (aA 8))) (aD 9)) cA
def q4:MS:=bP (cF (aA 9)) (bV (iU (aA 6) (bH (aJ (m2 aO (aA 3) (aA 7)) (m2 aO (aA 3) (aA 8)))))) cA
def oB:MS:=aH q1 (aH q2 (aH q3 q4))
structure Sd(st im:Nat)(ms:y')(H:Hs):Prop where
 s:Com.St st H
 m:getL H im=some (ms.map Fx)
theorem Sd.fr{H H':Hs}{S:Aw}(h:Sd st im ms H)(f:Fr S H H')(s':Com.St st H')(h2:im∉S):Sd st im ms H':=⟨s',f.getL h.m h2⟩
theorem z7d{H:Hs}{x9:A'}{ps:dn}{i j:Nat}(D:Sd st im ms H)(ep:getL H ip=some (ps.map aN))(hw:0<=w/\w<5)(hi:i<n)(hj:j<n)(hy:ys.length=n)(hm:ms.length=n)(hl:ps.length<=1000)(h2:im≠st)(h3:ip≠st)(h5:im≠ip):
  ∃(Ef:A')(H':Hs)(Dj:dn),oB (ev st ip im n w d1 ys (some (.int i)) (some (.int j)) x9) H=.nx (ev st ip im n w d1 ys (some (.int i)) (some (.int j)) Ef) H'/\getL H' ip=some (Dj.map aN)/\(Dj=ps∨Dj=ps++[(ys.getD i 0,ys.getD j 0)])/\Sd st im ms H'/\Fr [st,ip] H H':=by
 obtain⟨r0,H0,_,_,t0,f0,s0⟩:=uJ 4 D.s;have D0:=D.fr f0 s0 (by simpa using h2);have ep0:=f0.getL ep (by simpa using h3);have fA:Fr [] H0 (H0++[Fy [.int 1,.int 2,.int 3]]):=Fz;have eA:getL (H0++[Fy [.int 1,.int 2,.int 3]]) H0.length=some [.int 1,.int 2,.int 3]:=by simp[getL]
 have near:∃c,aO (.ref H0.length) (.int (w%3)) (H0++[Fy [.int 1,.int 2,.int 3]])=.ok (.int c) (H0++[Fy [.int 1,.int 2,.int 3]]):=by
  have hw':w=0∨w=1∨w=2∨w=3∨w=4:=by lia
  rcases hw' with rfl|rfl|rfl|rfl|rfl
  ·exact⟨1,by simp only[aO,eE,eO,eA];rfl⟩
  ·exact⟨2,by simp only[aO,eE,eO,eA];rfl⟩
  ·exact⟨3,by simp only[aO,eE,eO,eA];rfl⟩
  ·exact⟨1,by simp only[aO,eE,eO,eA];rfl⟩
  ·exact⟨2,by simp only[aO,eE,eO,eA];rfl⟩
 obtain⟨c,hc⟩:=near;have hmod:jF (.int w) (.int 3) (H0++[Fy [.int 1,.int 2,.int 3]])=.ok (.int (w%3)) (H0++[Fy [.int 1,.int 2,.int 3]]):=by
  have hw':w=0∨w=1∨w=2∨w=3∨w=4:=by lia
  rcases hw' with rfl|rfl|rfl|rfl|rfl<;>rfl
 have hlst:bY (dD (aF 1) (aF 2) (aF 3)) (ev st ip im n w d1 ys (some (.int i)) (some (.int j)) x9) H0=.ok (.ref H0.length) (H0++[Fy [.int 1,.int 2,.int 3]]):=rfl;have DA:=D0.fr fA (s0.fr fA (by simp)) (by simp);have epA:=fA.getL ep0 (by simp);have fHA:Fr [st] H (H0++[Fy [.int 1,.int 2,.int 3]]):=f0.trans fA (by simp);generalize H0++[Fy [.int 1,.int 2,.int 3]]=HA at hc hmod hlst DA epA fHA;have w1:q1 (ev st ip im n w d1 ys (some (.int i)) (some (.int j)) x9) H=.nx (ev st ip im n w d1 ys (some (.int i)) (some (.int j)) (some (.bl (decide (r0<c))))) HA:=by
  have a1:aB dH (aJ (aA 0) (aF 4)) (ev st ip im n w d1 ys (some (.int i)) (some (.int j)) x9) H=.ok (.int r0) H0:=by simp[aB,aR,aA,mC,aQ,t0]
  have a2:m2 jF (aA 4) (aF 3) (ev st ip im n w d1 ys (some (.int i)) (some (.int j)) x9) HA=.ok (.int (w%3)) HA:=by simp[m2,aA,mC,hmod]
  have a3:m2 aO (bY (dD (aF 1) (aF 2) (aF 3))) (m2 jF (aA 4) (aF 3)) (ev st ip im n w d1 ys (some (.int i)) (some (.int j)) x9) H0=.ok (.int c) HA:=by show(bY _ _ H0).bind _=_;rw[hlst,Rs.bind_ok,a2,Rs.bind_ok,hc]
  unfold q1 aK;have a4:m2 fH (aB dH (aJ (aA 0) (aF 4))) (m2 aO (bY (dD (aF 1) (aF 2) (aF 3))) (m2 jF (aA 4) (aF 3))) (ev st ip im n w d1 ys (some (.int i)) (some (.int j)) x9) H=.ok (.bl (decide (r0<c))) HA:=by show(aB _ _ _ H).bind _=_;rw[a1,Rs.bind_ok,a3,Rs.bind_ok];rfl
  rw[a4];rfl
 have hmi:=IF DA.m (k:=i) (by lia);have hmj:=IF DA.m (k:=j) (by lia);generalize ms[i]=va at hmi;generalize ms[j]=vb at hmj;have w2:∀b,∃b',q2 (ev st ip im n w d1 ys (some (.int i)) (some (.int j)) (some (.bl b))) HA=.nx (ev st ip im n w d1 ys (some (.int i)) (some (.int j)) (some (.bl b'))) HA:=λb=>by
  by_cases q:w=3
  ·subst q;refine⟨va==vb,?_⟩;simp[q2,bP,mB,m2,aA,mC,Com.eq_int,dZ,aK,hmi,hmj,aD]
  ·refine⟨b,?_⟩;have q':(w==3)=false:=by simpa using q
   simp[q2,bP,mB,m2,aA,mC,Com.eq_int,q',dZ,cA]
 have w3:∀b,∃b',q3 (ev st ip im n w d1 ys (some (.int i)) (some (.int j)) (some (.bl b))) HA=.nx (ev st ip im n w d1 ys (some (.int i)) (some (.int j)) (some (.bl b'))) HA:=λb=>by
  by_cases q:w=4
  ·subst q;refine⟨decide (va<vb),?_⟩;simp[q3,bP,mB,m2,aA,mC,Com.eq_int,dZ,aK,hmi,hmj,fH,aD]
  ·refine⟨b,?_⟩;have q':(w==4)=false:=by simpa using q
   simp[q3,bP,mB,m2,aA,mC,Com.eq_int,q',dZ,cA]
 obtain⟨b2,w2⟩:=w2 (decide (r0<c));obtain⟨b,w3⟩:=w3 b2;have t:cF (aA 9) (ev st ip im n w d1 ys (some (.int i)) (some (.int j)) (some (.bl b))) HA=.ok b HA:=rfl;unfold oB;rw[bR w1,bR w2,bR w3];unfold q4
 cases b with
 |false=>refine⟨some (.bl false),HA,ps,?_,epA,.inl rfl,DA,fHA.mono (by simp)⟩;rw[kQ t];rfl
 |true=>
  have hyi:=RV (H:=HA) (ys:=ys) (k:=i) (by lia);have hyj:=RV (H:=HA) (ys:=ys) (k:=j) (by lia);generalize ys.getD i 0=va at hyi⊢;generalize ys.getD j 0=vb at hyj⊢;have hz:(ps.map aN).length<1000000:=by rw[ax];lia
  have fC:Fr [ip] HA (HA.set ip (.lst ((ps++[(va,vb)]).map aN))):=Gm;refine⟨some (.bl true),HA.set ip (.lst ((ps++[(va,vb)]).map aN)),ps++[(va,vb)],?_,oX epA,.inr rfl,DA.fr fC (DA.s.fr fC (by simpa using dk h3)) (by simpa using h5),(fHA.mono (T:=[st,ip]) (by simp)).trans fC (by simp)⟩;rw[pZ t];have isP':lD (.ref ip) HA=true:=by simp[lD,epA]
  have happ:oV (.ref ip) (.tup [.int (va),.int (vb)]) HA=.ok .non (HA.set ip (.lst ((ps++[(va,vb)]).map aN))):=by simp only[oV,epA,hz,if_true,fq];rfl
  simp[bV,iU,aA,isP',bH,aR,m2,hyi,hyj,aQ,lim,happ]
def CL:MS:=eW (aM iE (aJ (m2 cD (aA 7) (aF 1)) (aA 2))) (aD 8) oB
theorem z7e{H:Hs}{x8 x9:A'}{ps:dn}{i:Nat}(D:Sd st im ms H)(ep:getL H ip=some (ps.map aN))(hw:0<=w/\w<5)(hi:i<n)(hn:n<=6)(hy:ys.length=n)(hm:ms.length=n)(hl:ps.length<=500)(hb:uK ys n ps)(h2:im≠st)(h3:ip≠st)(h5:im≠ip):
  ∃(Ff Ef:A')(H':Hs)(Dj:dn),CL (ev st ip im n w d1 ys (some (.int i)) x8 x9) H=.nx (ev st ip im n w d1 ys (some (.int i)) Ff Ef) H'/\getL H' ip=some (Dj.map aN)/\uK ys n Dj/\Dj.length<=ps.length+6/\Sd st im ms H'/\Fr [st,ip] H H':=by
 have hi0:aM iE (aJ (m2 cD (aA 7) (aF 1)) (aA 2)) (ev st ip im n w d1 ys (some (.int i)) x8 x9) H=.ok (bZ ((i:Int)+1) n) H:=by have q:aJ (m2 cD (aA 7) (aF 1)) (aA 2) (ev st ip im n w d1 ys (some (.int i)) x8 x9) H=.ok [.int ((i:Int)+1),.int n] H:=rfl;unfold aM;rw[q,Rs.bind_ok];exact z71 (by lia) (by lia) (by lia) (by lia)
 have hN:(bZ ((i:Int)+1) (n:Int)).n=n-(i+1):=by
  show((n:Int)-((i:Int)+1)).toNat=_
  lia
 obtain⟨ρ',H',r1,Ff,Ef,Dj,e1,e2,e3,e4,e5,e6⟩:=wG (b:=oB) (sg:=aD 8) hi0 (λk ρ H'=>∃(Ff Ef:A')(Dj:dn),ρ=ev st ip im n w d1 ys (some (.int i)) Ff Ef/\getL H' ip=some (Dj.map aN)/\uK ys n Dj/\Dj.length<=ps.length+k/\Sd st im ms H'/\Fr [st,ip] H H')
  (λk ρ H' hk⟨Ff,Ef,Dj,e1,e2,e3,e4,e5,e6⟩=>by
   subst e1;rw[hN]at hk;have hj:i+1+k<n:=by lia
   obtain⟨x9n,H2,ps2,b1,b2,b3,b4,b5⟩:=z7d (x9:=Ef) (w:=w) (d1:=d1) (ip:=ip) (n:=n) (i:=i) (j:=i+1+k) (ys:=ys) e5 e2 hw hi hj hy hm (by lia) h2 h3 h5;have ej:(((i+1+k:Nat)):Int)=(i:Int)+1+(k:Int):=by lia
   rw[ej]at b1;refine⟨.int ((i:Int)+1+(k:Int)),ev st ip im n w d1 ys (some (.int i)) (some (.int ((i:Int)+1+(k:Int)))) Ef,_,H2,rfl,rfl,b1,_,_,ps2,rfl,b2,?_,?_,b4,e6.trans b5 λj hj=>.inl hj⟩
   ·rcases b3 with rfl|rfl
    ·exact e3
    ·intro p hp
     rcases cz.mp hp with hp|hp
     ·exact e3 p hp
     ·rw[cc.mp hp];exact⟨i,i+1+k,by lia,hj,rfl⟩
   ·rcases b3 with rfl|rfl
    ·lia
    ·rw[cf];simp;lia) (λ_ _ _=>rfl) ⟨x8,x9,ps,rfl,ep,hb,by lia,D,Gd⟩
 rw[hN]at e4;exact⟨Ff,Ef,H',Dj,by unfold CL;rw[r1,e1],e2,e3,by lia,e5,e6⟩
def IQ:MS:=eW (aM bT (aE (aA 2))) (aD 7) CL
theorem z7f{H:Hs}{x7 x8 x9:A'}(D:Sd st im ms H)(ep:getL H ip=some (([]:dn).map aN))(hw:0<=w/\w<5)(hn:n<=6)(hy:ys.length=n)(hm:ms.length=n)(h2:im≠st)(h3:ip≠st)(h5:im≠ip):
  ∃(x7' Ff Ef:A')(H':Hs)(Dj:dn),IQ (ev st ip im n w d1 ys x7 x8 x9) H=.nx (ev st ip im n w d1 ys x7' Ff Ef) H'/\getL H' ip=some (Dj.map aN)/\uK ys n Dj/\Dj.length<=36/\Sd st im ms H'/\Fr [st,ip] H H':=by
 have hi0:aM bT (aE (aA 2)) (ev st ip im n w d1 ys x7 x8 x9) H=.ok (bZ 0 n) H:=by have q:aE (aA 2) (ev st ip im n w d1 ys x7 x8 x9) H=.ok [.int n] H:=rfl;unfold aM;rw[q,Rs.bind_ok];exact II (by lia) (by lia)
 have hN:(bZ 0 (n:Int)).n=n:=by simp[bZ]
 obtain⟨ρ',H',r1,x7',Ff,Ef,Dj,e1,e2,e3,e4,e5,e6⟩:=wG (b:=CL) (sg:=aD 7) hi0 (λk ρ H'=>∃(x7' Ff Ef:A')(Dj:dn),ρ=ev st ip im n w d1 ys x7' Ff Ef/\getL H' ip=some (Dj.map aN)/\uK ys n Dj/\Dj.length<=6*k/\Sd st im ms H'/\Fr [st,ip] H H')
  (λk ρ H' hk⟨x7',Ff,Ef,Dj,e1,e2,e3,e4,e5,e6⟩=>by
   subst e1;rw[hN]at hk;obtain⟨x8n,x9n,H2,ps2,b1,b2,b3,b4,b5,b6⟩:=z7e (x8:=Ff) (x9:=Ef) (w:=w) (d1:=d1) (ip:=ip) (n:=n) (i:=k) (ys:=ys) e5 e2 hw hk hn hy hm (by lia) e3 h2 h3 h5;have ek:(0:Int)+(k:Int)=(k:Int):=by lia
   refine⟨.int (0+(k:Int)),ev st ip im n w d1 ys (some (.int k)) Ff Ef,_,H2,rfl,by rw[ek];rfl,b1,_,_,_,ps2,rfl,b2,b3,by lia,b5,e6.trans b6 λj hj=>.inl hj⟩) (λ_ _ _=>rfl) ⟨x7,x8,x9,[],rfl,ep,λp hp=>by simp at hp,by simp,D,Gd⟩
 rw[hN]at e4;exact⟨x7',Ff,Ef,H',Dj,by unfold IQ;rw[r1,e1],e2,e3,by lia,e5,e6⟩
end
def RW:M Az:=(aR (aF 0) (aR (aF 0) (aR (aF 1) (aR (aF 0) (jX (aF 2) (aF 1) (aF 3) (m2 eX (aA 1) (aF 1)))))))
def z1:MS:=aK (m2 eX (aA 1) (m2 aO (bY RW) (aB dH (aJ (aA 0) (aF 8))))) (aD 2)
def z2:MS:=aK (aB oR (aJ (aF 1) (aA 2))) (aD 2)
def z3:MS:=aK (aB A0 (aJ (aA 0) (aA 2))) (aD 3)
def z4:MS:=aK (aB dH (aJ (aA 0) (aF 5))) (aD 4)
def IS:M Az:=bA (aY fP (aA 3)) [none,some 0] (aD 0) bK (aU (aB dH (aJ (aA 1) (aF 3))))
def z5:MS:=aK (aX IS) (aD 5)
def z6:MS:=aK (bY aQ) (aD 6)
def z9:MS:=aL (bH (aJ (aA 2) (aB tV (aJ (aA 2) (aA 6)))))
theorem z7g:GN=aH z1 (aH z2 (aH z3 (aH z4 (aH z5 (aH z6 (aH IQ z9)))))):=rfl
section
variable{st:Nat}
theorem z7h{H:Hs}{x2 x3 x4 x5 x6 x7 x8 x9:A'}(s:Com.St st H):∃(v:Int)(H':Hs),0<=v/\v<=5/\z1 [some (.ref st),some (.int 6),x2,x3,x4,x5,x6,x7,x8,x9] H=.nx [some (.ref st),some (.int 6),some (.int (6-v)),x3,x4,x5,x6,x7,x8,x9] H'/\Com.St st H'/\Fr [st] H H':=by
 have fA:Fr [] H (H++[Fy [.int 0,.int 0,.int 1,.int 0,.int 2,.int 1,.int 3,.int 5]]):=Fz;have eA:getL (H++[Fy [.int 0,.int 0,.int 1,.int 0,.int 2,.int 1,.int 3,.int 5]]) H.length=some (([0,0,1,0,2,1,3,5]:y').map Fx):=by simp[getL]
 have sA:=s.fr fA (by simp);have lt:=s.lt;have hd:bY RW [some (.ref st),some (.int 6),x2,x3,x4,x5,x6,x7,x8,x9] H=.ok (.ref H.length) (H++[Fy [.int 0,.int 0,.int 1,.int 0,.int 2,.int 1,.int 3,.int 5]]):=rfl;generalize H++[Fy [.int 0,.int 0,.int 1,.int 0,.int 2,.int 1,.int 3,.int 5]]=HA at fA eA sA hd;obtain⟨r,H1,r0,r1,t1,f1,s1⟩:=uJ 8 sA;have e1:=f1.getL eA (by simp;lia);obtain⟨k,rfl⟩:∃k:Nat,r=k:=⟨r.toNat,by lia⟩
 have hk:k<8:=by lia
 have hx:=IF e1 (k:=k) (by simpa using hk);have hv:0<=([0,0,1,0,2,1,3,5]:y')[k]/\([0,0,1,0,2,1,3,5]:y')[k]<=5:=by
  match k,hk with
  |0,_=>simp
  |1,_=>simp
  |2,_=>simp
  |3,_=>simp
  |4,_=>simp
  |5,_=>simp
  |6,_=>simp
  |7,_=>simp
 generalize ([0,0,1,0,2,1,3,5]:y')[k]=v at hx hv;refine⟨v,H1,hv.1,hv.2,?_,s1,fA.mono (T:=[st]) (by simp)|>.trans f1 (by simp)⟩;have ht:aB dH (aJ (aA 0) (aF 8)) [some (.ref st),some (.int 6),x2,x3,x4,x5,x6,x7,x8,x9] HA=.ok (.int k) H1:=by simp[aB,aR,aA,mC,aQ,t1]
 unfold z1 aK m2;show((Gp (Fx 6) H).bind _).thenS _=_;rw[Rs.bind_ok,hd,Rs.bind_ok,ht,Rs.bind_ok,hx,Rs.bind_ok];rfl
theorem z7i{H:Hs}{ys:y'}{x1 x2 x4 x5 x6 x7 x8 x9:A'}(s:Com.St st H)(hl:ys.length<=100):∃(ms:y')(H':Hs),ms.length=ys.length/\z5 [some (.ref st),x1,x2,some (.tup (ys.map Fx)),x4,x5,x6,x7,x8,x9] H=.nx [some (.ref st),x1,x2,some (.tup (ys.map Fx)),x4,some (.ref H'.length),x6,x7,x8,x9] (H'++[.lst (ms.map Fx)])/\Com.St st H'/\Fr [st] H H':=by
 have hi:aY fP (aA 3) [some (.ref st),x1,x2,some (.tup (ys.map Fx)),x4,x5,x6,x7,x8,x9] H=.ok (eC (ys.map Fx)) H:=rfl;obtain⟨ρ',H',De,h1,a,ms,h2,h3,h4,h5,h6⟩:=wH (src:=eC (ys.map Fx)) (sg:=aD 0) (t:=bK) (m:=aU (aB dH (aJ (aA 1) (aF 3))))
  (λk ρ H' acc=>∃(a:A')(ms:y'),ρ=[a,some (.ref st)]/\acc=ms.map Fx/\ms.length=k/\Com.St st H'/\Fr [st] H H')
  (λk ρ H' acc hk⟨a,ms,e1,e2,e3,e4,e5⟩=>by
   subst e1;subst e2;have C':k<ys.length:=by simpa[eC]using hk
   obtain⟨r,H1,r0,r1,t1,f1,s1⟩:=uJ 3 e4;refine⟨.int ys[k],[some (.int ys[k]),some (.ref st)],by simp[eC,C'],rfl,.inr ⟨H',[some (.int ys[k]),some (.ref st)],(ms++[r]).map Fx,H1,rfl,?_,_,ms++[r],rfl,rfl,by simp[e3],s1,e5.trans f1 (by simp)⟩⟩;have hz:ms.length<1000000:=by lia
   simp[aU,aB,aR,aA,mC,aQ,t1,hz]) (λρ H' acc _=>rfl) ys.length 0 [none,some (.ref st)] H [] (by simp[eC]) ⟨none,[],rfl,rfl,rfl,s,Gd⟩
 refine⟨ms,H',by simpa[eC]using h4,?_,h5,h6⟩;have hc:IS [some (.ref st),x1,x2,some (.tup (ys.map Fx)),x4,x5,x6,x7,x8,x9] H=.ok (ms.map Fx) H':=by unfold IS bA;rw[hi,Rs.bind_ok];have Dx:kM [none,some 0] [some (.ref st),x1,x2,some (.tup (ys.map Fx)),x4,x5,x6,x7,x8,x9]=[none,some (.ref st)]:=rfl;rw[Dx,show(eC (ys.map Fx)).n=ys.length by simp[eC],h1];dsimp only;rw[h3]
 unfold z5 aK aX;rw[hc];rfl
theorem z7j{H:Hs}(s:Com.St st H):∃(n:Nat)(cs:dn)(H':Hs),tW [.ref st,.int 6] H=.ok (aG n cs) H'/\Bg n cs/\Com.St st H'/\Fr [st] H H':=by
 have lt:=s.lt;obtain⟨v,H1,v0,v1,w1,s1,f1'⟩:=z7h (x2:=none) (x3:=none) (x4:=none) (x5:=none) (x6:=none) (x7:=none) (x8:=none) (x9:=none) s;obtain⟨n,hn⟩:∃n:Nat,(6:Int)-v=n:=⟨(6-v).toNat,by lia⟩
 have n1:1<=n:=by lia
 have n6:n<=6:=by lia
 rw[hn]at w1;have w2:z2 [some (.ref st),some (.int 6),some (.int n),none,none,none,none,none,none,none] H1=.nx [some (.ref st),some (.int 6),some (.int n),none,none,none,none,none,none,none] H1:=by
  have hm:oR [.int 1,.int (n:Int)] H1=.ok (.int n) H1:=by
   show Gp (Fx (if(n:Int)>1 then(n:Int)else 1)) H1=_
   split
   ·rfl
   ·rw[show(1:Int)=n by lia]
  simp[z2,aK,aB,aR,mC,aA,aQ,hm,aD]
 obtain⟨ys,H2,t2,pm,s2,f2⟩:=z74 s1 n6;have hy:ys.length=n:=by rw[pm.length_eq];simp[bJ]
 have w3:z3 [some (.ref st),some (.int 6),some (.int n),none,none,none,none,none,none,none] H1=.nx [some (.ref st),some (.int 6),some (.int n),some (.tup (ys.map Fx)),none,none,none,none,none,none] H2:=by generalize ys.map Fx=Y at t2;simp[z3,aK,aB,aR,aA,aQ,t2,aD]
 obtain⟨w,H3,w0,w5,t3,f3,s3⟩:=uJ 5 s2;have w4:z4 [some (.ref st),some (.int 6),some (.int n),some (.tup (ys.map Fx)),none,none,none,none,none,none] H2=.nx [some (.ref st),some (.int 6),some (.int n),some (.tup (ys.map Fx)),some (.int w),none,none,none,none,none] H3:=by simp[z4,aK,aB,aR,aA,mC,aQ,t3,aD]
 obtain⟨ms,H4,hm,w6,s4,f4⟩:=z7i (ys:=ys) (x1:=some (.int 6)) (x2:=some (.int n)) (x4:=some (.int w)) (x5:=none) (x6:=none) (x7:=none) (x8:=none) (x9:=none) s3 (by lia);have fN:Fr [] H4 (H4++[Fy (ms.map Fx)]):=Fz;have gN:getL (H4++[Fy (ms.map Fx)]) H4.length=some (ms.map Fx):=by simp[getL]
 have l4:=s4.lt;obtain⟨im,him⟩:∃im,im=H4.length:=⟨_,rfl⟩
 rw[<-him]at w6 gN;have s5:=s4.fr fN (by simp);have hle5:(H4++[Fy (ms.map Fx)]).length=im+1:=by simp[him]
 generalize H4++[Fy (ms.map Fx)]=H5 at w6 gN s5 fN hle5;have w7:z6 [some (.ref st),some (.int 6),some (.int n),some (.tup (ys.map Fx)),some (.int w),some (.ref im),none,none,none,none] H5=.nx [some (.ref st),some (.int 6),some (.int n),some (.tup (ys.map Fx)),some (.int w),some (.ref im),some (.ref H5.length),none,none,none] (H5++[.lst []]):=rfl;have fM:Fr [] H5 (H5++[Fy []]):=Fz;have eP:getL (H5++[Fy []]) H5.length=some (([]:dn).map aN):=by simp[getL]
 have D:Sd st im ms (H5++[Fy []]):=⟨s5.fr fM (by simp),fM.getL gN (by simp)⟩
 obtain⟨x7,x8,x9,H6,ps,w8,eP6,hb,hlp,D6,f6⟩:=z7f (d1:=.int 6) (w:=w) (ip:=H5.length) (n:=n) (ys:=ys) (x7:=none) (x8:=none) (x9:=none) D eP ⟨w0,w5⟩ n6 hy (by lia) (by lia) (by lia) (by lia);obtain⟨cs,H7,t7,o,f7⟩:=z7c n1 n6 eP6 (by lia) (z72 pm hb);have hfall:Fr [st] H H7:=by
  have g1:Fr [st] H H3:=(f1'.trans f2 (by simp)).trans f3 (by simp);have g2:Fr [st] H (H5++[Fy []]):=((g1.trans f4 (by simp)).trans fN (by simp)).trans fM (by simp);refine(g2.trans f6 λj hj=>?_).trans f7 (by simp)
  rcases aw.mp hj with rfl|hj
  ·exact .inl (by simp)
  ·rw[cc.mp hj];have:=g1.le;have:=f4.le;right;lia
 refine⟨n,cs,H7,?_,o,D6.s.fr f7 (by simp),hfall⟩;show bN (GN [some (.ref st),some (.int 6),none,none,none,none,none,none,none,none] H)=_;rw[z7g,bR w1,bR w2,bR w3,bR w4,bR w6,bR w7,bR w8];have w9:z9 (ev st H5.length im n w (.int 6) ys x7 x8 x9) H6=.rt (aG n cs) H7:=by
  have h1:aB tV (aJ (aA 2) (aA 6)) (ev st H5.length im n w (.int 6) ys x7 x8 x9) H6=.ok (.tup (cs.map aN)) H7:=by show(aJ (aA 2) (aA 6) (ev st H5.length im n w (.int 6) ys x7 x8 x9) H6).bind _=_;have:aJ (aA 2) (aA 6) (ev st H5.length im n w (.int 6) ys x7 x8 x9) H6=.ok [.int n,.ref H5.length] H6:=rfl;rw[this,Rs.bind_ok,t7]
  unfold z9 aL bH;show((((Gp (Fx n) H6).bind _).bind _).thenS _)=_;rw[Rs.bind_ok];show(((((aB tV (aJ (aA 2) (aA 6)) (ev st H5.length im n w (.int 6) ys x7 x8 x9) H6).bind _).bind _).bind _).thenS _)=_;rw[h1];rfl
 rw[w9];rfl
end
end L2.Mr.Cod
namespace L2.Mr
theorem z7k{α β:Type}(f:α->β)(xs:List α)(i:Int):dY (xs.map f) i=(dY xs i).map f:=by
 unfold dY;rw[ax]
 cases eH xs.length i with
 |none=>rfl
 |some k=>simp
section
variable{d:Dv}{r:Int}{i j:Nat}{fs:y'}
theorem z7l{H:Hs}{a f:Int}(e:getL H i=some (fs.map Fx))(h:dY fs a=some f):aO (.ref i) (.int a) H=.ok (.int f) H:=by
 have:dY (fs.map Fx) a=some (.int f):=by rw[z7k,h];rfl
 simp only[aO,eE,eO,e,gJ,this,if_true]
end
theorem IT:∀xs ys:y',iQ (xs.map Gn) (ys.map Gn)=decide (xs=ys)
 |[],[]=>by simp[iQ]
 |[],y::ys=>by simp[iQ]
 |x::xs,[]=>by simp[iQ]
 |x::xs,y::ys=>by simp only[du,iQ,IT xs ys,bX];rw[gq];simp
theorem z7m{H:Hs}{i j:Nat}{xs ys:y'}(ei:getL H i=some (xs.map Fx))(ej:getL H j=some (ys.map Fx)):cE (.ref i) (.ref j) H=.ok (.bl (decide (xs=ys))) H:=by
 have p:∀(i:Nat)(xs:y'),getL H i=some (xs.map Fx)->cG cX H (.ref i)=some (.lst (xs.map Gn)):=λi xs e=>by show cG (28+1+1) H (.ref i)=_;rw[cG];simp only[e,rJ]
 unfold cE;rw[p i xs ei,p j ys ej];simp only[bX,IT]
def IU:Option y' ->Dv
 |none=>.non
 |some fs=>.tup (fs.map Fx)
theorem RX:∀ns:y',bU eY (ns.map Fx)=some ns
 |[]=>rfl
 |n::ns=>by simp[bU,eY,RX ns]
end L2.Mr
namespace L2.Mr.K01
open L2.Mr.Com
end L2.Mr.K01
namespace L2.Mr.Com
end L2.Mr.Com
namespace L2.Mr.Cod
open L2.Mr.Com
section
variable{H:Hs}
theorem pG{i j:Nat}{xs ys:Az}(e1:getL H i=some xs)(e2:getL H j=some ys)(hl:xs.length+ys.length<=500):cD (.ref i) (.ref j) H=.ok (.ref H.length) (H++[.lst (xs++ys)]):=by simp[cD,mQ,e1,e2,lim];lia
theorem last_get{x:Az}:getL (H++[.lst x]) H.length=some x:=by simp[getL]
end
end L2.Mr.Cod
namespace L2.Mr
def RY(x:Int)(P:Int->Prop):Prop:=P x/\∀y,P y->y<=x
theorem RZ{f:Nat->Int}:∀k,(∃i,i<=k/\gF (λa b=>decide (a>b)) f k=f i)/\∀i,i<=k->f i<=gF (λa b=>decide (a>b)) f k
 |0=>⟨⟨0,aq _,rfl⟩,λi hi=>by
  have:i=0:=by lia
  subst this;exact xn _⟩
 |k+1=>by
  obtain⟨⟨i,hi,e⟩,h⟩:=RZ (f:=f) k;have he:gF (λa b=>decide (a>b)) f (k+1)=if decide (f (k+1)>gF (λa b=>decide (a>b)) f k)then f (k+1)else gF (λa b=>decide (a>b)) f k:=rfl
  generalize gF (λa b=>decide (a>b)) f k=z at e h he;rw[he]
  by_cases c:f (k+1)>z
  ·rw[if_pos (decide_eq_true c)];refine⟨⟨k+1,aq _,rfl⟩,λj hj=>?_⟩
   by_cases q:j=k+1
   ·subst q;exact xn _
   ·have:=h j (by lia);lia
  ·rw[if_neg (by simpa using c)];refine⟨⟨i,by lia,e⟩,λj hj=>?_⟩
   by_cases q:j=k+1
   ·subst q;lia
   ·exact h j (by lia)
theorem R0{f:Nat->Int}:∀k,(∃i,i<=k/\gF (λa b=>decide (a<b)) f k=f i)/\∀i,i<=k->gF (λa b=>decide (a<b)) f k<=f i
 |0=>⟨⟨0,aq _,rfl⟩,λi hi=>by
  have:i=0:=by lia
  subst this;exact xn _⟩
 |k+1=>by
  obtain⟨⟨i,hi,e⟩,h⟩:=R0 (f:=f) k;have he:gF (λa b=>decide (a<b)) f (k+1)=if decide (f (k+1)<gF (λa b=>decide (a<b)) f k)then f (k+1)else gF (λa b=>decide (a<b)) f k:=rfl
  generalize gF (λa b=>decide (a<b)) f k=z at e h he;rw[he]
  by_cases c:f (k+1)<z
  ·rw[if_pos (decide_eq_true c)];refine⟨⟨k+1,aq _,rfl⟩,λj hj=>?_⟩
   by_cases q:j=k+1
   ·subst q;exact xn _
   ·have:=h j (by lia);lia
  ·rw[if_neg (by simpa using c)];refine⟨⟨i,by lia,e⟩,λj hj=>?_⟩
   by_cases q:j=k+1
   ·subst q;lia
   ·exact h j (by lia)
theorem maxI_is{ns:y'}(h:ns≠[]):RY (cY ns) (·∈ns):=by
 have hl:0<ns.length:=nq.mpr h;obtain⟨⟨i,hi,e⟩,hx⟩:=RZ (f:=λi=>ns.getD i 0) (ns.length-1);refine⟨?_,λy hy=>?_⟩
 ·show cY ns∈ns;unfold cY;rw[e];have:i<ns.length:=by lia
  simp[this]
 ·obtain⟨k,hk,rfl⟩:=je.mp hy;have:=hx k (by lia);have e2:ns.getD k 0=ns[k]:=by simp[hk]
  rw[e2]at this;exact this
theorem minI_is{ns:y'}(h:ns≠[]):hJ ns∈ns/\∀y∈ns,hJ ns<=y:=by
 have hl:0<ns.length:=nq.mpr h;obtain⟨⟨i,hi,e⟩,hx⟩:=R0 (f:=λi=>ns.getD i 0) (ns.length-1);refine⟨?_,λy hy=>?_⟩
 ·unfold hJ;rw[e];have:i<ns.length:=by lia
  simp[this]
 ·obtain⟨k,hk,rfl⟩:=je.mp hy;have:=hx k (by lia);have e2:ns.getD k 0=ns[k]:=by simp[hk]
  rw[e2]at this;exact this
def Up(fs:y')(L:dn)(up:y'):Prop:=up.length=fs.length/\∀t,t<fs.length->RY (up.getD t 0) (λy=>y=fs.getD t 0∨((t:Int),y)∈L)
theorem z7n{fs:y'}{a:Int}(h0:0<=a)(h1:a<fs.length):dY fs a=some (fs.getD a.toNat 0):=by
 obtain⟨k,rfl⟩:∃k:Nat,a=k:=⟨a.toNat,by lia⟩
 have hk:k<fs.length:=by lia
 unfold dY eH;rw[if_pos (by lia),if_pos (by lia)];simp[hk]
end L2.Mr
namespace L2.Mr.Cod
open L2.Mr.Com
def jW(ps:dn)(a:Nat):Nat->dn
 |0=>[]
 |k+1=>jW ps a k++if((a:Int),(a:Int)+1+(k:Int))∈ps∨((a:Int)+1+(k:Int),(a:Int))∈ps then[]else[((a:Int),(a:Int)+1+(k:Int))]
def kE(n:Nat)(ps:dn):Nat->dn
 |0=>[]
 |k+1=>kE n ps k++jW ps k (n-(k+1))
def cO(n:Nat)(ps:dn):dn:=kE n ps n
theorem looseB_len(ps:dn)(a:Nat):∀k,(jW ps a k).length<=k
 |0=>aq _
 |k+1=>by
  have:=looseB_len ps a k;unfold jW
  split<;>simp<;>lia
def Lse(ps:dn)(a b:Int):Prop:=a≠b/\(a,b)∉ps/\(b,a)∉ps
instance (ps:dn) (a b:Int):Decidable (Lse ps a b):=by unfold Lse;infer_instance
theorem Cz{ps:dn}{a:Nat}{q:Int×Int}:∀{k:Nat},q∈jW ps a k↔∃j,j<k/\q=((a:Int),(a:Int)+1+(j:Int))/\q∉ps/\(q.2,q.1)∉ps
 |0=>by simp[jW]
 |k+1=>by
  unfold jW;rw[cz,Cz (k:=k)];constructor
  ·rintro (⟨j,hj,h⟩|h)
   ·exact⟨j,by lia,h⟩
   ·split at h
    ·simp at h
    ·rename_i c;rw[cc]at h;subst h;exact⟨k,by lia,rfl,λz=>c (.inl z),λz=>c (.inr z)⟩
  ·rintro ⟨j,hj,h,h1,h2⟩
   by_cases q:j=k
   ·subst q;right;subst h;rw[if_neg (λz=>z.elim h1 h2)];simp
   ·exact .inl ⟨j,by lia,h,h1,h2⟩
theorem R3{n:Nat}{ps:dn}{q:Int×Int}:∀{k:Nat},q∈kE n ps k↔∃a,a<k/\q∈jW ps a (n-(a+1))
 |0=>by simp[kE]
 |k+1=>by
  unfold kE;rw[cz,R3 (k:=k)];constructor
  ·rintro (⟨a,ha,h⟩|h)
   ·exact⟨a,by lia,h⟩
   ·exact⟨k,by lia,h⟩
  ·rintro ⟨a,ha,h⟩
   by_cases q:a=k
   ·subst q;exact .inr h
   ·exact .inl ⟨a,by lia,h⟩
theorem Br{n:Nat}{ps:dn}{q:Int×Int}:q∈cO n ps↔0<=q.1/\q.1<q.2/\q.2<n/\Lse ps q.1 q.2:=by
 unfold cO;rw[R3];constructor
 ·rintro ⟨a,ha,h⟩
  obtain⟨j,hj,rfl,h1,h2⟩:=Cz.mp h;exact⟨by lia,by simp only;lia,by simp only;lia,by simp only[ne_eq];lia,h1,h2⟩
 ·rintro ⟨h0,h1,h2,_,h3,h4⟩
  refine⟨q.1.toNat,by lia,Cz.mpr ⟨(q.2-q.1-1).toNat,by lia,?_,h3,h4⟩⟩
  apply yc<;>simp only<;>lia
def kF(n:Nat)(ps:dn)(r:Int):List (Int×Int×Int):=(ak n).flatMap λa:Nat=>(ak n).filterMap λb:Nat=>if Lse ps a b then some ((a:Int),(b:Int),-r)else none
def fB(n:Nat)(ps:dn)(r:Int):List (Int×Int×Int):=ps.map (λp=>(p.1,p.2,1))++kF n ps r
def fF(fs:y')(nd:List (Int×Int×Int))(t:Int):y':=nd.filterMap λq=>if q.2.1=t then some (fs.getD q.1.toNat 0+q.2.2)else none
def RR(fs:y')(nd:List (Int×Int×Int)):y':=(ak fs.length).map λt:Nat=>cY (fs.getD t 0::fF fs nd t)
theorem Dm{n:Nat}{ps:dn}{r:Int}{q:Int×Int×Int}:q∈kF n ps r↔(0<=q.1/\q.1<n/\0<=q.2.1/\q.2.1<n)/\Lse ps q.1 q.2.1/\q.2.2=-r:=by
 unfold kF;simp only[jf,bg,jt];constructor
 ·rintro ⟨a,ha,b,hb,h⟩
  split at h
  ·rename_i c;cases h;exact⟨by simp only;lia,c,rfl⟩
  ·cases h
 ·rintro ⟨⟨h0,h1,h2,h3⟩,h4,h5⟩
  refine⟨q.1.toNat,by lia,q.2.1.toNat,by lia,?_⟩;have e1:((q.1.toNat:Nat):Int)=q.1:=by lia
  have e2:((q.2.1.toNat:Nat):Int)=q.2.1:=by lia
  rw[e1,e2,if_pos h4,<-h5]
theorem kG{fs:y'}{nd:List (Int×Int×Int)}:(RR fs nd).length=fs.length:=by simp[RR]
theorem xV{fs:y'}{nd:List (Int×Int×Int)}:Up fs (nd.map λq=>(q.2.1,fs.getD q.1.toNat 0+q.2.2)) (RR fs nd):=by
 refine⟨kG,λt ht=>?_⟩;have e:(RR fs nd).getD t 0=cY (fs.getD t 0::fF fs nd t):=by simp[RR,ht]
 rw[e];have h:=maxI_is (ns:=fs.getD t 0::fF fs nd t) (by simp);have hm:∀y,y∈fs.getD t 0::fF fs nd t↔(y=fs.getD t 0∨((t:Int),y)∈nd.map λq=>(q.2.1,fs.getD q.1.toNat 0+q.2.2)):=λy=>by
  rw[aw];refine or_congr_right ?_;unfold fF;simp only[jt,br];constructor
  ·rintro ⟨q,hq,h⟩
   split at h
   ·rename_i c;cases h;exact⟨q,hq,by rw[c]⟩
   ·cases h
  ·rintro ⟨q,hq,h⟩
   obtain⟨h1,h2⟩:=zf h;exact⟨q,hq,by rw[if_pos h1,h2]⟩
 exact⟨(hm _).mp h.1,λy hy=>h.2 y ((hm y).mpr hy)⟩
section
variable{n:Nat}{ps:dn}{r:Int}{fs:y'}
def hV(n:Int)(nd:List (Int×Int×Int)):Nat->y'->Option (Option y')
 |0,_=>none
 |f+1,fs=>if RR fs nd=fs then some (some fs)else if cY (RR fs nd)>=n then some none else hV n nd f (RR fs nd)
theorem R4{m:Int}{nd:List (Int×Int×Int)}{res:Option y'}:∀{f:Nat}{fs:y'}(k:Nat),hV m nd f fs=some res->hV m nd (f+k) fs=some res
 |0,_,_,h=>by cases h
 |f+1,fs,k,h=>by
  rw[Nat.add_right_comm];unfold hV at h⊢
  split at h
  ·rename_i c;rw[if_pos c];exact h
  ·rename_i c;rw[if_neg c]
   split at h
   ·rename_i c2;rw[if_pos c2];exact h
   ·rename_i c2;rw[if_neg c2];exact R4 k h
theorem R5:∀{xs ys:y'},xs.length=ys.length->(∀t,t<xs.length->xs.getD t 0<=ys.getD t 0)->xs.sum<=ys.sum/\(xs≠ys->xs.sum<ys.sum)
 |[],[],_,_=>by simp
 |x::xs,y::ys,hl,h=>by
  have h0:=h 0 (by simp);simp only[List.getD_cons_zero]at h0;obtain⟨h1,h2⟩:=R5 (xs:=xs) (ys:=ys) (by simpa using hl) λt ht=>by have:=h (t+1) (by simp;lia);simpa using this
  rw[vk,vk];refine⟨by lia,λne=>?_⟩
  by_cases q:xs=ys
  ·subst q;have:x≠y:=λz=>ne (by rw[z])
   lia
  ·have:=h2 q;lia
theorem R6:∀{xs:y'}{b:Int},(∀x∈xs,x<=b)->xs.sum<=xs.length*b
 |[],_,_=>by simp
 |x::xs,b,h=>by
  have h0:=h x (by simp);have h1:=R6 (xs:=xs) (b:=b) λy hy=>h y (by simp[hy]);rw[vk,bu];have e:((xs.length+1:Nat):Int)*b=xs.length*b+b:=by rw[Int.natCast_add,Int.add_mul];simp
  lia
theorem R7{nd:List (Int×Int×Int)}(n1:1<=n):∀(f:Nat)(fs:y'),fs.length=n->(∀x∈fs,x<n)->(n:Int)*(n-1)-fs.sum<f->∃res,hV n nd f fs=some res
 |0,fs,hl,hx,h=>by
  have:=R6 (xs:=fs) (b:=(n:Int)-1) λx Ez=>by have:=hx x Ez;lia
  rw[hl]at this
  lia
 |f+1,fs,hl,hx,h=>by
  unfold hV
  by_cases c:RR fs nd=fs
  ·exact⟨_,by rw[if_pos c]⟩
  ·rw[if_neg c]
   by_cases c2:cY (RR fs nd)>=n
   ·exact⟨_,by rw[if_pos c2]⟩
   ·rw[if_neg c2];have up:=xV (fs:=fs) (nd:=nd);have hs:=(R5 (xs:=fs) (ys:=RR fs nd) (by rw[kG]) λt ht=>(up.2 t ht).2 _ (.inl rfl)).2 (dk c);refine R7 n1 f (RR fs nd) (by rw[kG];exact hl) (λx Ez=>?_) (by lia);have:=(maxI_is (ns:=RR fs nd) (λz=>by rw[z]at Ez;cases Ez)).2 x Ez
    lia
end
theorem IV{α:Type}{p q:α->Bool}:∀{l:List α},(∀x∈l,p x=true->q x=true)->(l.filter p).length<=(l.filter q).length/\((∃x∈l,q x=true/\p x=false)->(l.filter p).length<(l.filter q).length)
 |[],_=>by simp
 |a::l,h=>by
  obtain⟨h1,h2⟩:=IV (l:=l) λx hx=>h x (by simp[hx]);have ha:=h a (by simp);rw[gw,gw]
  cases hp:p a with
  |true=>
   rw[ha hp];simp only[if_true,bu];refine⟨by lia,λ⟨x,hx,e1,e2⟩=>?_⟩
   rcases aw.mp hx with rfl|hx
   ·rw[hp]at e2;cases e2
   ·have:=h2 ⟨x,hx,e1,e2⟩;lia
  |false=>
   cases hq:q a with
   |true=>simp only[if_true,bu,cp,if_false];exact⟨by lia,λ_=>by lia⟩
   |false=>
    simp only[cp,if_false];refine⟨h1,λ⟨x,hx,e1,e2⟩=>?_⟩
    rcases aw.mp hx with rfl|hx
    ·rw[hq]at e1;cases e1
    ·exact h2 ⟨x,hx,e1,e2⟩
section
variable{n:Nat}{ps:dn}{r:Int}{fs:y'}
def nS(n:Nat)(ps:dn)(t:Int):Nat:=((ak n).filter λc:Nat=>decide (((c:Int),t)∈ps)).length
theorem R8(o:Bg n ps){a t:Int}(h:(a,t)∈ps):nS n ps a<nS n ps t:=by
 have hr:=o.rng _ h;refine(IV λc hc e=>?_).2 ⟨a.toNat,by simp;lia,?_,?_⟩
 ·exact decide_eq_true (o.tr _ (of_decide_eq_true e) _ h rfl)
 ·have:((a.toNat:Nat):Int)=a:=by lia
  rw[this];exact decide_eq_true h
 ·have:((a.toNat:Nat):Int)=a:=by lia
  rw[this];exact decide_eq_false λz=>o.irr _ z rfl
theorem IW(o:Bg n ps){t:Nat}(ht:t<n):nS n ps t<n:=by
 have:=(IV (l:=ak n) (p:=λc:Nat=>decide (((c:Int),(t:Int))∈ps)) (q:=λ_=>true) λ_ _ _=>rfl).2 ⟨t,by simpa using ht,rfl,decide_eq_false λz=>o.irr _ z rfl⟩;have e:((ak n).filter λ_=>true).length=n:=by rw[Av.mpr (λ_ _=>rfl),dm]
 rw[e]at this;exact this
def IX(n:Nat)(ps:dn)(fs:y'):Prop:=fs.length=n/\∀t,t<n->fs.getD t 0<=nS n ps t
theorem R9(o:Bg n ps)(h:IX n ps fs):IX n ps (RR fs (fB n ps 5)):=by
 refine⟨by rw[kG];exact h.1,λt ht=>?_⟩;have up:=xV (fs:=fs) (nd:=fB n ps 5)
 rcases(up.2 t (by rw[h.1];exact ht)).1 with e|e
 ·rw[e];exact h.2 t ht
 ·obtain⟨q,hq,e⟩:=br.mp e;obtain⟨e1,e2⟩:=zf e;rw[<-e2]
  rcases cz.mp hq with hq|hq
  ·obtain⟨p,hp,rfl⟩:=br.mp hq;have hr:=o.rng p hp;have h1:=h.2 p.1.toNat (by lia);have hp':(p.1,p.2)∈ps:=hp;have h2:=R8 o hp';have e3:((p.1.toNat:Nat):Int)=p.1:=by lia
   rw[e3]at h1;simp only at e1;rw[e1]at h2;simp only
   lia
  ·obtain⟨⟨h0,h1,_,_⟩,_,h7⟩:=Dm.mp hq;have hb:=h.2 q.1.toNat (by lia);have hn:=IW o (t:=q.1.toNat) (by lia);have n6:=o.n6
   lia
theorem SA(o:Bg n ps):∀(f:Nat)(fs:y'),IX n ps fs->hV n (fB n ps 5) f fs≠some none
 |0,_,_,h=>by cases h
 |f+1,fs,hb,h=>by
  unfold hV at h
  split at h
  ·cases h
  ·split at h
   ·rename_i c;have hb':=R9 o hb;have n1:=o.n1;have hne:RR fs (fB n ps 5)≠[]:=λz=>by have:=hb'.1;rw[z]at this;simp at this;lia
    obtain⟨t,ht,e⟩:=je.mp (maxI_is hne).1;have Fp:t<n:=by rw[<-hb'.1];exact ht
    have h1:=hb'.2 t Fp;have h2:=IW o Fp;have e2:(RR fs (fB n ps 5)).getD t 0=(RR fs (fB n ps 5))[t]:=by simp[ht]
    rw[e2,e]at h1
    lia
   ·exact SA o f _ (R9 o hb) h
theorem z7o(o:Bg n ps)(r:Int):∃res,hV n (fB n ps r) (n*n+1) (bx n 0)=some res:=by
 have n1:=o.n1;refine R7 n1 _ _ (by simp) (λx hx=>?_) ?_
 ·rw[rp hx];lia
 ·have e:(bx n (0:Int)).sum=0:=by simp
  rw[e];have e2:(n:Int)*(n-1)=n*n-n:=by rw[Int.mul_sub,Int.mul_one]
  rw[e2,Int.natCast_add,Int.natCast_mul]
  lia
def dO(n:Nat)(ps:dn)(r:Int):Option y':=(hV n (fB n ps r) (n*n+1) (bx n 0)).getD none
theorem xW(o:Bg n ps)(r:Int):hV n (fB n ps r) (n*n+1) (bx n 0)=some (dO n ps r):=by obtain⟨res,e⟩:=z7o o r;unfold dO;rw[e];rfl
theorem z7p(o:Bg n ps):dO n ps 5≠none:=λz=>by have e:=xW o 5;rw[z]at e;exact SA o _ _ ⟨by simp,λt ht=>by simp[ht]⟩ e
theorem z7q{P:Nat->Prop}(k:Nat)(h:P k):∃v,v<=k/\P v/\∀u,u<v->¬P u:=by
 induction k using Nat.strongRecOn with
 |ind k ih=>
  by_cases c:∃u,u<k/\P u
  ·obtain⟨u,hu,pu⟩:=c;obtain⟨v,hv,pv,hm⟩:=ih u hu pu;exact⟨v,by lia,pv,hm⟩
  ·exact⟨k,aq _,h,λu hu pu=>c ⟨u,hu,pu⟩⟩
theorem z7r(o:Bg n ps):∃v:Nat,v<=5/\(∃fs,dO n ps v=some fs)/\∀u:Nat,u<v->dO n ps u=none:=by obtain⟨v,hv,h1,h2⟩:=z7q (P:=λv:Nat=>dO n ps v≠none) 5 (z7p o);refine⟨v,hv,Option.ne_none_iff_exists'.mp h1,λu hu=>?_⟩;have:=h2 u hu;exact wy this
end
section
variable{n:Nat}{ps:dn}{r:Int}{H:Hs}
theorem loose_is{a b:Int}:eZ [aG n ps,.int a,.int b] H=.ok (.bl (decide (Lse ps a b))) H:=by
 have h1:=z6h (n:=n) (ps:=ps) H;have t1:=AD true H (a,b) ps;have t2:=AD true H (b,a) ps;simp only[aN,if_true]at t1 t2;have hne:dR (.int a) (.int b) H=.ok (.bl (!(a==b))) H:=by simp[dR,cX,cG,bX]
 generalize aG n ps=d at h1;simp only[Lse]
 by_cases c0:a=b
 ·subst c0;simp[eZ,nF,aT,dJ,aH,aK,m2,aA,mC,h1,aD,aL,dE,hne,bN]
 ·have c0':(a==b)=false:=by simpa using c0
  by_cases c1:(a,b)∈ps
  ·simp[eZ,nF,aT,dJ,aH,aK,m2,aA,mC,h1,aD,aL,dE,hne,c0',bH,aR,aQ,lim,t1,c1,bN]
  ·simp[eZ,nF,aT,dJ,aH,aK,m2,aA,mC,h1,aD,aL,dE,hne,c0',c0,bH,aR,aQ,lim,t1,c1,t2,bN]
def eI(q:Int×Int×Int):Dv:=.tup [.int q.1,.int q.2.1,.int q.2.2]
def nU:M Az:=bA (aY fP (aA 3)) [none,none] (cV 2 (aW (aD 0) (aW (aD 1) cW))) bK (aU (bH (dD (aA 0) (aA 1) (aF 1))))
def nA:M Az:=bA (aM bT (aE (aA 2))) [none,none,some 1,some 0,some 2] (aD 0) bK (dF (aM bT (aE (aA 4))) (aD 1) (cF (aB eZ (dD (aA 3) (aA 0) (aA 1)))) (aU (bH (dD (aA 0) (aA 1) (m1 lF (aA 2))))))
theorem z7s:GH=aH (aK (aA 0) (cV 2 (aW (aD 2) (aW (aD 3) cW)))) (aH (aK (aX nU) (aD 4)) (aH (aK (aX nA) (aD 5)) (aL (m2 cD (aA 4) (aA 5))))):=rfl
theorem z7t{x0 x1 x2 x4 x5:A'}(hl:ps.length<=1000):nU [x0,x1,x2,some (.tup (ps.map aN)),x4,x5] H=.ok ((ps.map λp=>(p.1,p.2,(1:Int))).map eI) H:=by have h:nU [x0,x1,x2,some (.tup (ps.map aN)),x4,x5] H=.ok (ps.filterMap λp=>some (eI (p.1,p.2,1))) H:=jK ps (λp=>some (eI (p.1,p.2,1))) (λρ=>∃a b,ρ=[a,b]) rfl (by simp[eC]) ⟨_,_,rfl⟩ rfl (λk hk ρ⟨a,b,e⟩=>by subst e;exact⟨aN ps[k],[some (.int ps[k].1),some (.int ps[k].2)],by simp[eC,hk],rfl,⟨_,_,rfl⟩,rfl,rfl⟩) (by lia);rw[h];simp
theorem z7u{x3 x4 x5:A'}(hn:n<=6):nA [some (aG n ps),some (.int r),some (.int n),x3,x4,x5] H=.ok ((kF n ps r).map eI) H:=by
 have hr:∀{ρ:Ev}{m:M Az},m ρ H=.ok [.int n] H->aM bT m ρ H=.ok (bZ 0 n) H:=λ{ρ m}e=>by unfold aM;rw[e,Rs.bind_ok];exact II (by lia) (by lia)
 have Dx:kM [none,none,some 1,some 0,some 2] [some (aG n ps),some (.int r),some (.int n),x3,x4,x5]=[none,none,some (.int r),some (aG n ps),some (.int n)]:=rfl;have h0:aM bT (aE (aA 2)) [some (aG n ps),some (.int r),some (.int n),x3,x4,x5] H=.ok (bZ 0 n) H:=hr rfl;have hL:=λa b=>loose_is (n:=n) (ps:=ps) (H:=H) (a:=a) (b:=b);unfold nA;generalize aG n ps=d at Dx h0 hL;have h:=uI (mi:=aM bT (aE (aA 2))) (mj:=aM bT (aE (aA 4))) (cap:=[none,none,some 1,some 0,some 2]) (sg:=aD 0) (sg2:=aD 1) (t2:=cF (aB eZ (dD (aA 3) (aA 0) (aA 1)))) (e:=bH (dD (aA 0) (aA 1) (m1 lF (aA 2)))) (ρ:=[some d,some (.int r),some (.int n),x3,x4,x5]) (H:=H) (H1:=H)
  (ak n) (λ_=>ak n) (λa b:Nat=>if Lse ps a b then some (eI ((a:Int),(b:Int),-r))else none) (λρ=>∃a b,ρ=[a,b,some (.int r),some d,some (.int n)]) h0 (by simp[bZ]) (by rw[Dx];exact⟨_,_,rfl⟩) rfl
  (λk hk ρ⟨a,b,e⟩=>by
   subst e;refine⟨.int (0+(k:Int)),[some (.int (0+(k:Int))),b,some (.int r),some d,some (.int n)],bZ 0 n,λρ=>∃b,ρ=[some (.int (0+(k:Int))),b,some (.int r),some d,some (.int n)],rfl,rfl,⟨_,rfl⟩,λρ⟨b,e⟩=>⟨_,_,e⟩,hr rfl,by simp[bZ],rfl,λj hj ρ⟨b,e⟩=>?_⟩;subst e;refine⟨.int (0+(j:Int)),[some (.int (0+(k:Int))),some (.int (0+(j:Int))),some (.int r),some d,some (.int n)],rfl,rfl,⟨_,rfl⟩,?_⟩;have e1:(0+(k:Int))=(k:Int):=by lia
   have e2:(0+(j:Int))=(j:Int):=by lia
   rw[e1,e2,qr,qr];have ht:cF (aB eZ (dD (aA 3) (aA 0) (aA 1))) [some (.int (k:Int)),some (.int (j:Int)),some (.int r),some d,some (.int n)] H=.ok (decide (Lse ps k j)) H:=by simp[cF,aB,aR,aA,aQ,hL,jZ]
   by_cases c:Lse ps k j
   ·rw[if_pos c];exact⟨by rw[ht,decide_eq_true c],rfl⟩
   ·rw[if_neg c];show _=_;rw[ht,decide_eq_false c]) (by
   have:((ak n).flatMap λa:Nat=>(ak n).filterMap λb:Nat=>if Lse ps a b then some (eI ((a:Int),(b:Int),-r))else none).length<=n*n:=by
    have hb:∀l:Aw,(l.flatMap λa:Nat=>(ak n).filterMap λb:Nat=>if Lse ps a b then some (eI ((a:Int),(b:Int),-r))else none).length<=l.length*n:=λl=>by
     induction l with
     |nil=>simp
     |cons a l ih=>
      rw[dq,cf,bu,ua];have:=iw (λb:Nat=>if Lse ps a b then some (eI ((a:Int),(b:Int),-r))else none) (ak n);simp only[dm]at this
      lia
    simpa using hb (ak n)
   have:n*n<=6*6:=oq hn hn
   lia)
 have e:((ak n).flatMap λa:Nat=>(ak n).filterMap λb:Nat=>if Lse ps a b then some (eI ((a:Int),(b:Int),-r))else none)=(kF n ps r).map eI:=by
  have e1:∀a:Nat,((ak n).filterMap λb:Nat=>if Lse ps a b then some ((a:Int),(b:Int),-r)else none).map eI=(ak n).filterMap λb:Nat=>if Lse ps a b then some (eI ((a:Int),(b:Int),-r))else none:=λa=>by
   rw[lr];refine rP _ λb _=>?_
   split<;>rfl
  unfold kF;rw[List.map_flatMap];simp only[e1]
 rw[h,e]
theorem SD(hn:n<=6):(kF n ps r).length<=36:=by
 have hb:∀l:Aw,(l.flatMap λa:Nat=>(ak n).filterMap λb:Nat=>if Lse ps a b then some ((a:Int),(b:Int),-r)else none).length<=l.length*n:=λl=>by
  induction l with
  |nil=>simp
  |cons a l ih=>
   rw[dq,cf,bu,ua];have:=iw (λb:Nat=>if Lse ps a b then some ((a:Int),(b:Int),-r)else none) (ak n);simp only[dm]at this
   lia
 have h1:=hb (ak n);have:n*n<=6*6:=oq hn hn;simp only[dm]at h1;unfold kF
 lia
theorem z7v(o:Bg n ps):∃i H',wX [aG n ps,.int r] H=.ok (.ref i) H'/\getL H' i=some ((fB n ps r).map eI)/\Fr [] H H':=by
 have w0:aK (aA 0) (cV 2 (aW (aD 2) (aW (aD 3) cW))) [some (aG n ps),some (.int r),none,none,none,none] H=.nx [some (aG n ps),some (.int r),some (.int n),some (.tup (ps.map aN)),none,none] H:=rfl;have l0:=o.len;have c1:=z7t (H:=H) (x0:=some (aG n ps)) (x1:=some (.int r)) (x2:=some (.int n)) (x4:=none) (x5:=none) (ps:=ps) (by lia);have w1:aK (aX nU) (aD 4) [some (aG n ps),some (.int r),some (.int n),some (.tup (ps.map aN)),none,none] H=.nx [some (aG n ps),some (.int r),some (.int n),some (.tup (ps.map aN)),some (.ref H.length),none] (H++[.lst ((ps.map λp=>(p.1,p.2,(1:Int))).map eI)]):=by unfold aK aX;rw[c1];rfl
 have g1:getL (H++[Fy ((ps.map λp=>(p.1,p.2,(1:Int))).map eI)]) H.length=some ((ps.map λp=>(p.1,p.2,(1:Int))).map eI):=last_get;have f1':Fr [] H (H++[Fy ((ps.map λp=>(p.1,p.2,(1:Int))).map eI)]):=Fz;obtain⟨i,hi⟩:∃i,i=H.length:=⟨_,rfl⟩
 rw[<-hi]at w1 g1;generalize H++[Fy ((ps.map λp=>(p.1,p.2,(1:Int))).map eI)]=H1 at w1 g1 f1';have c2:=z7u (H:=H1) (x3:=some (.tup (ps.map aN))) (x4:=some (.ref i)) (x5:=none) (ps:=ps) (r:=r) o.n6;have w2:aK (aX nA) (aD 5) [some (aG n ps),some (.int r),some (.int n),some (.tup (ps.map aN)),some (.ref i),none] H1=.nx [some (aG n ps),some (.int r),some (.int n),some (.tup (ps.map aN)),some (.ref i),some (.ref H1.length)] (H1++[.lst ((kF n ps r).map eI)]):=by unfold aK aX;rw[c2];rfl
 have g2:getL (H1++[Fy ((kF n ps r).map eI)]) H1.length=some ((kF n ps r).map eI):=last_get;have g1':=jT (l:=[Fy ((kF n ps r).map eI)]) g1;have f2:Fr [] H1 (H1++[Fy ((kF n ps r).map eI)]):=Fz;obtain⟨j,hj⟩:∃j,j=H1.length:=⟨_,rfl⟩
 rw[<-hj]at w2 g2;generalize H1++[Fy ((kF n ps r).map eI)]=H2 at w2 g2 g1' f2;have la:=SD (ps:=ps) (r:=r) o.n6;have a:=pG g1' g2 (by simp only[ax];lia);refine⟨H2.length,H2++[.lst ((fB n ps r).map eI)],?_,last_get,(f1'.trans f2 (by simp)).trans (T:=[]) Fz (by simp)⟩;show bN (GH [some (aG n ps),some (.int r),none,none,none,none] H)=_;rw[z7s,bR w0,bR w1,bR w2];rw[<-fq]at a;have a':m2 cD (aA 4) (aA 5) [some (aG n ps),some (.int r),some (.int n),some (.tup (ps.map aN)),some (.ref i),some (.ref j)] H2=.ok (.ref H2.length) (H2++[.lst ((fB n ps r).map eI)]):=a;unfold aL;rw[a'];rfl
end
section
variable{n:Nat}{ps:dn}{r:Int}{H:Hs}{i j:Nat}{fs:y'}{nd:List (Int×Int×Int)}
def rI:M Az:=bA (aY bQ (aA 2)) [none,none,none,some 3,some 0] (cV 3 (aW (aD 0) (aW (aD 1) (aW (aD 2) cW)))) (mB (m2 cE (aA 1) (aA 4))) (aU (m2 cD (m2 aO (aA 3) (aA 0)) (aA 2)))
def rE:M Dv:=aB (f1 (fV cY)) (aE (m2 cD (bY (aE (aA 1))) (aX rI)))
def rC:M Az:=bA (aM nB (aE (aA 0))) [none,none,some 1,some 0] (cV 2 (aW (aD 0) (aW (aD 1) cW))) bK (aU rE)
theorem z7w:GI=aL (aX rC):=rfl
def xX(N:Nat)(nd:List (Int×Int×Int)):Prop:=∀q∈nd,0<=q.1/\q.1<N
theorem SE{k:Int}(e:getL H j=some (fs.map Fx))(h0:0<=k)(h1:k<fs.length):aO (.ref j) (.int k) H=.ok (.int (fs.getD k.toNat 0)) H:=z7l e (z7n h0 h1)
theorem CM{t:Int}{x1:A'}(ei:getL H i=some (nd.map eI))(ej:getL H j=some (fs.map Fx))(hN:xX fs.length nd)(hl:nd.length<=1000):rI [some (.int t),x1,some (.ref i),some (.ref j)] H=.ok ((fF fs nd t).map Fx) H:=by
 have hi:aY bQ (aA 2) [some (.int t),x1,some (.ref i),some (.ref j)] H=.ok (cI i nd.length) H:=by simp[aY,aA,bQ,ei]
 have h:rI [some (.int t),x1,some (.ref i),some (.ref j)] H=.ok (nd.filterMap λq=>if q.2.1=t then some (Fx (fs.getD q.1.toNat 0+q.2.2))else none) H:=
  jK nd (λq=>if q.2.1=t then some (Fx (fs.getD q.1.toNat 0+q.2.2))else none) (λρ=>∃a b c,ρ=[a,b,c,some (.ref j),some (.int t)]) hi rfl ⟨_,_,_,rfl⟩ (by simp[cI,ei]) (λk hk ρ⟨a,b,c,e⟩=>by
   subst e;have hq:=hN nd[k] (gu hk);refine⟨eI nd[k],[some (.int nd[k].1),some (.int nd[k].2.1),some (.int nd[k].2.2),some (.ref j),some (.int t)],by simp[cI,ei,hk],rfl,⟨_,_,_,rfl⟩,?_⟩;generalize nd[k]=q at hq;have hx:=SE ej hq.1 hq.2
   by_cases c:q.2.1=t
   ·rw[if_pos c];have c':(q.2.1==t)=true:=by simpa using c
    exact⟨by simp[mB,m2,aA,Com.eq_int,c',dZ],by simp[m2,aA,hx,cD,mQ]⟩
   ·rw[if_neg c];have c':(q.2.1==t)=false:=by simpa using c
    simp[mB,m2,aA,Com.eq_int,c',dZ]) (by lia)
 rw[h];have e:(nd.filterMap λq=>if q.2.1=t then some (Fx (fs.getD q.1.toNat 0+q.2.2))else none)=(fF fs nd t).map Fx:=by
  unfold fF;rw[lr];refine rP _ λq _=>?_
  split<;>rfl
 rw[e]
theorem IY:∀ns:y',bU eY (ns.map Fx)=some ns:=RX
theorem z7x{t:Int}:(fF fs nd t).length<=nd.length:=iw _ _
theorem z7y{t x:Int}(ei:getL H i=some (nd.map eI))(ej:getL H j=some (fs.map Fx))(hN:xX fs.length nd)(hl:nd.length<=400):∃H',rE [some (.int t),some (.int x),some (.ref i),some (.ref j)] H=.ok (.int (cY (x::fF fs nd t))) H'/\Fr [] H H':=by
 have f1':Fr [] H (H++[Fy [.int x]]):=Fz;have g1:getL (H++[Fy [.int x]]) H.length=some [.int x]:=last_get;have w1:bY (aE (aA 1)) [some (.int t),some (.int x),some (.ref i),some (.ref j)] H=.ok (.ref H.length) (H++[Fy [.int x]]):=rfl;have ei1:=f1'.getL ei (by simp);have ej1:=f1'.getL ej (by simp);obtain⟨p,hp⟩:∃p,p=H.length:=⟨_,rfl⟩
 rw[<-hp]at g1 w1;generalize H++[Fy [.int x]]=H1 at f1' g1 w1 ei1 ej1;have c2:=CM (t:=t) (x1:=some (.int x)) ei1 ej1 hN (by lia);have w2:aX rI [some (.int t),some (.int x),some (.ref i),some (.ref j)] H1=.ok (.ref H1.length) (H1++[Fy ((fF fs nd t).map Fx)]):=by unfold aX;rw[c2];rfl
 have f2:Fr [] H1 (H1++[Fy ((fF fs nd t).map Fx)]):=Fz;have g2:getL (H1++[Fy ((fF fs nd t).map Fx)]) H1.length=some ((fF fs nd t).map Fx):=last_get;have g1':=f2.getL g1 (by simp);obtain⟨p2,hp2⟩:∃p2,p2=H1.length:=⟨_,rfl⟩
 rw[<-hp2]at g2 w2;generalize H1++[Fy ((fF fs nd t).map Fx)]=H2 at f2 g2 g1' w2;have hv:=z7x (fs:=fs) (nd:=nd) (t:=t);have a:=pG g1' g2 (by simp;lia);have ec:[Fx x]++(fF fs nd t).map Fx=(x::fF fs nd t).map Fx:=rfl;rw[ec]at a;have g3:getL (H2++[Fy ((x::fF fs nd t).map Fx)]) H2.length=some ((x::fF fs nd t).map Fx):=last_get;refine⟨H2++[Fy ((x::fF fs nd t).map Fx)],?_,(f1'.trans f2 (by simp)).trans (T:=[]) Fz (by simp)⟩;obtain⟨p3,hp3⟩:∃p3,p3=H2.length:=⟨_,rfl⟩
 rw[<-hp3]at a g3;generalize H2++[Fy ((x::fF fs nd t).map Fx)]=H3 at a g3;have w3:m2 cD (bY (aE (aA 1))) (aX rI) [some (.int t),some (.int x),some (.ref i),some (.ref j)] H=.ok (.ref p3) H3:=by unfold m2;rw[w1,Rs.bind_ok,w2,Rs.bind_ok,a]
 have hm:fV cY (.ref p3) H3=.ok (.int (cY (x::fF fs nd t))) H3:=by simp only[fV,g3,IY];rw[if_pos (by simp)]
 unfold rE;generalize m2 cD (bY (aE (aA 1))) (aX rI)=M at w3;simp[aB,aR,aQ,w3,f1,hm]
theorem z7z(ei:getL H i=some (nd.map eI))(ej:getL H j=some (fs.map Fx))(hN:xX fs.length nd)(hl:nd.length<=400)(hf:fs.length<=100):∃k H',wY [.ref j,.ref i] H=.ok (.ref k) H'/\getL H' k=some ((RR fs nd).map Fx)/\Fr [] H H':=by
 have hi:aM nB (aE (aA 0)) [some (.ref j),some (.ref i)] H=.ok (jS j fs.length) H:=by simp[aM,aR,aA,aQ,nB,ej]
 obtain⟨ρ',H',De,h1,a,b,h2,h3,h4⟩:=wH (src:=jS j fs.length) (sg:=cV 2 (aW (aD 0) (aW (aD 1) cW))) (t:=bK) (m:=aU rE)
  (λk ρ H' acc=>∃(a b:A'),ρ=[a,b,some (.ref i),some (.ref j)]/\acc=((RR fs nd).take k).map Fx/\Fr [] H H')
  (λk ρ H' acc hk⟨a,b,e1,e2,e3⟩=>by
   subst e1;subst e2;have C':k<fs.length:=hk;have ei':=e3.getL ei (by simp);have ej':=e3.getL ej (by simp);obtain⟨H2,w,f⟩:=z7y (t:=(k:Int)) (x:=fs.getD k 0) ei' ej' hN hl;have hg:(jS j fs.length).get k H'=some (.tup [.int k,.int (fs.getD k 0)]):=by simp[jS,ej',C']
   refine⟨.tup [.int k,.int (fs.getD k 0)],[some (.int k),some (.int (fs.getD k 0)),some (.ref i),some (.ref j)],hg,rfl,.inr ⟨H',[some (.int k),some (.int (fs.getD k 0)),some (.ref i),some (.ref j)],((RR fs nd).take (k+1)).map Fx,H2,rfl,?_,_,_,rfl,rfl,e3.trans f (by simp)⟩⟩;have hq:(RR fs nd).take (k+1)=(RR fs nd).take k++[cY (fs.getD k 0::fF fs nd k)]:=by
    have hl:k<(RR fs nd).length:=by rw[kG];exact C'
    rw[List.take_add_one,bz hl];simp[RR]
   have hz:(((RR fs nd).take k).map Fx).length<1000000:=by simp[kG];lia
   rw[hq,fq];generalize ((RR fs nd).take k).map Fx=A at hz⊢;generalize fs.getD k 0=xx at w⊢;simp[aU,w,hz]) (λρ H' acc⟨_,_,_,_,e5⟩=>by simp[jS,e5.getL ej (by simp)]) fs.length 0 [none,none,some (.ref i),some (.ref j)] H [] (by simp[jS]) ⟨none,none,rfl,by simp,Gd⟩
 have ht:(RR fs nd).take (jS j fs.length).n=RR fs nd:=oi (by rw[kG];exact aq _);rw[ht]at h3;have hc:rC [some (.ref j),some (.ref i)] H=.ok ((RR fs nd).map Fx) H':=by unfold rC bA;rw[hi,Rs.bind_ok];have Dx:kM [none,none,some 1,some 0] [some (.ref j),some (.ref i)]=[none,none,some (.ref i),some (.ref j)]:=rfl;rw[Dx,show(jS j fs.length).n=fs.length from rfl,h1];dsimp only;rw[h3]
 refine⟨H'.length,H'++[.lst ((RR fs nd).map Fx)],?_,last_get,h4.trans (T:=[]) Fz (by simp)⟩;show bN (GI [some (.ref j),some (.ref i)] H)=_;rw[z7w];unfold aL aX;rw[hc];rfl
end
section
variable{n:Nat}{ps:dn}{r:Int}{H:Hs}{i j:Nat}{fs:y'}{nd:List (Int×Int×Int)}{d:Dv}
theorem need_ok(o:Bg n ps):eJ [aG n ps] H=.ok .non H:=by simp[eJ,mb_qx,aT,dJ,bP,eN,cF,aB,aR,aA,aQ,RK o,jZ,cA,bN]
theorem z80{lo hi:Int}(h0:lo<=r)(h1:r<=hi):qF [.int r,.int lo,.int hi] H=.ok .non H:=by have e:=IE (H:=H) (x:=r) (lo:=lo) (hi:=hi);rw[decide_eq_true h0,decide_eq_true h1]at e;simp[qF,QI,aT,dJ,bP,eN,cF,aB,aR,aA,aQ,e,jZ,cA,bN]
def sC:M Bool:=mB (m2 fH (aB (f1 (fV cY)) (aE (aA 3))) (m2 aO (aA 0) (aF 0)))
def sB:MS:=aH (aK (aB wY (aJ (aA 3) (aA 2))) (aD 4)) (aH (bP (mB (m2 cE (aA 4) (aA 3))) (aL (aB (f1 lB) (aE (aA 3)))) cA) (aK (aA 4) (aD 3)))
theorem z81:GJ=aH (bV (aB eJ (aE (aA 0)))) (aH (bV (aB qF (dD (aA 1) (aF 0) (aF 5)))) (aH (aK (aB wX (aJ (aA 0) (aA 1))) (aD 2)) (aH (aK (m2 rF (bY (aE (aF 0))) (m2 aO (aA 0) (aF 0))) (aD 3)) (aH (jE sC sB 40) (aL (mC .non)))))):=rfl
theorem SF{x1 x2 x4:A'}(hx:∀H,aO d (.int 0) H=.ok (.int n) H)(ej:getL H j=some (fs.map Fx))(hl:fs≠[]):sC [some d,x1,x2,some (.ref j),x4] H=.ok (decide (cY fs<n)) H:=by
 have hm:fV cY (.ref j) H=.ok (.int (cY fs)) H:=by simp only[fV,ej,IY];rw[if_pos (nq.mpr hl)]
 have q:=hx H;generalize (n:Int)=z at q;simp[sC,mB,m2,aB,aR,aA,aQ,L2.Mr.f1,hm,mC,q,fH,dZ]
theorem SG(n1:1<=n)(hx:∀H,aO d (.int 0) H=.ok (.int n) H)(hN:xX n nd)(hl:nd.length<=400)(h6:n<=6){x1:A'}{res:Option y'}:∀(f:Nat)(fs:y')(H:Hs)(j:Nat)(x4:A'),fs.length=n->cY fs<n->hV n nd f fs=some res->getL H i=some (nd.map eI)->getL H j=some (fs.map Fx)->
  ∃H',Fr [] H H'/\((∃gs,res=some gs/\jE sC sB (f+1) [some d,x1,some (.ref i),some (.ref j),x4] H=.rt (.tup (gs.map Fx)) H')∨(res=none/\∃ρ',jE sC sB (f+1) [some d,x1,some (.ref i),some (.ref j),x4] H=.nx ρ' H'))
 |0,fs,H,j,x4,_,_,h,_,_=>by cases h
 |f+1,fs,H,j,x4,hf,hm,h,ei,ej=>by
  have hne:fs≠[]:=λz=>by rw[z]at hf;simp at hf;lia
  have tc:=SF (x1:=x1) (x2:=some (.ref i)) (x4:=x4) hx ej hne;rw[decide_eq_true hm]at tc;obtain⟨k,H1,w1,ek,f1'⟩:=z7z ei ej (by rw[hf];exact hN) hl (by lia);have ej1:=f1'.getL ej (by simp);have ei1:=f1'.getL ei (by simp);have a1:aK (aB wY (aJ (aA 3) (aA 2))) (aD 4) [some d,x1,some (.ref i),some (.ref j),x4] H=.nx [some d,x1,some (.ref i),some (.ref j),some (.ref k)] H1:=by simp[aK,aB,aR,aA,aQ,w1,aD]
  have te:mB (m2 cE (aA 4) (aA 3)) [some d,x1,some (.ref i),some (.ref j),some (.ref k)] H1=.ok (decide (RR fs nd=fs)) H1:=by have:=z7m ek ej1;simp[mB,m2,aA,this,dZ]
  unfold hV at h
  by_cases c:RR fs nd=fs
  ·rw[if_pos c]at h;cases h;refine⟨H1,f1',.inl ⟨fs,rfl,?_⟩⟩;refine z6f tc ?_;unfold sB;rw[bR a1];unfold aH;rw[pZ (te.trans (by rw[decide_eq_true c]))];simp[aL,aB,aR,aA,aQ,L2.Mr.f1,lB,ej1]
  ·rw[if_neg c]at h;have hb:sB [some d,x1,some (.ref i),some (.ref j),x4] H=.nx [some d,x1,some (.ref i),some (.ref k),some (.ref k)] H1:=by unfold sB;rw[bR a1,bR (ρ1:=[some d,x1,some (.ref i),some (.ref j),some (.ref k)]) (h1:=H1) (by rw[kQ (te.trans (by rw[decide_eq_false c]))];rfl)];rfl
   have hne':RR fs nd≠[]:=λz=>by have:=kG (fs:=fs) (nd:=nd);rw[z,hf]at this;simp at this;lia
   by_cases c2:cY (RR fs nd)>=n
   ·rw[if_pos c2]at h;cases h;refine⟨H1,f1',.inr ⟨rfl,[some d,x1,some (.ref i),some (.ref k),some (.ref k)],?_⟩⟩;rw[IC tc hb];have t2:=SF (x1:=x1) (x2:=some (.ref i)) (x4:=some (.ref k)) hx ek hne';rw[decide_eq_false (by lia)]at t2;exact RG t2
   ·rw[if_neg c2]at h;obtain⟨H2,f2,h2⟩:=SG n1 hx hN hl h6 f (RR fs nd) H1 k (some (.ref k)) (by rw[kG];exact hf) (by lia) h ei1 ek;refine⟨H2,f1'.trans f2 (by simp),?_⟩;rw[IC tc hb];exact h2
theorem z82(o:Bg n ps):xX n (fB n ps r):=λq hq=>by
 rcases cz.mp hq with hq|hq
 ·obtain⟨p,hp,rfl⟩:=br.mp hq;have:=o.rng p hp;exact⟨this.1,this.2.1⟩
 ·obtain⟨⟨h0,h1,_,_⟩,_⟩:=Dm.mp hq;exact⟨h0,h1⟩
theorem max0(n1:1<=n):cY (bx n (0:Int))<n:=by have:=(maxI_is (ns:=bx n (0:Int)) (by intro z;have:=congrArg nv z;simp at this;lia)).1;rw[rp this];lia
theorem z83(o:Bg n ps)(r0:0<=r)(r5:r<=5):∃H',wZ [aG n ps,.int r] H=.ok (IU (dO n ps r)) H'/\Fr [] H H':=by
 have n1:=o.n1;have n6:=o.n6;have hx0:=λH=>z6g (n:=n) (ps:=ps) H;have hn:=λH=>need_ok (H:=H) o;obtain⟨i,H1,w3,ei,f1'⟩:=z7v (H:=H) (r:=r) o;generalize aG n ps=d at hx0 hn w3;have a1:bV (aB eJ (aE (aA 0))) [some d,some (.int r),none,none,none] H=.nx [some d,some (.int r),none,none,none] H:=by simp[bV,aB,aR,aA,aQ,hn]
 have a2:bV (aB qF (dD (aA 1) (aF 0) (aF 5))) [some d,some (.int r),none,none,none] H=.nx [some d,some (.int r),none,none,none] H:=by simp[bV,aB,aR,aA,mC,aQ,z80 r0 r5]
 have a3:aK (aB wX (aJ (aA 0) (aA 1))) (aD 2) [some d,some (.int r),none,none,none] H=.nx [some d,some (.int r),some (.ref i),none,none] H1:=by simp[aK,aB,aR,aA,aQ,w3,aD]
 have a4:aK (m2 rF (bY (aE (aF 0))) (m2 aO (aA 0) (aF 0))) (aD 3) [some d,some (.int r),some (.ref i),none,none] H1=.nx [some d,some (.int r),some (.ref i),some (.ref (H1.length+1)),none] (H1++[Fy [.int 0]]++[Fy ((bx n (0:Int)).map Fx)]):=by
  have e0:getL (H1++[Fy [.int 0]]) H1.length=some [.int 0]:=by simp[getL]
  have q:=hx0 (H1++[Fy [.int 0]]);have c0:iB (n:Int)=true:=by simp[iB];lia
  have c1:(n:Int)<9223372036854775808:=by lia
  have c2:-9223372036854775808<=(n:Int):=by lia
  have c4:n<=1000000:=by lia
  simp[aK,m2,bY,aR,mC,aQ,lim,aA,q,rF,e0,c0,c1,c2,c4,aD]
 have f2:Fr [] H1 (H1++[Fy [.int 0]]++[Fy ((bx n (0:Int)).map Fx)]):=Fr.trans (T:=[]) Fz Fz (by simp);have e2:getL (H1++[Fy [.int 0]]++[Fy ((bx n (0:Int)).map Fx)]) (H1.length+1)=some ((bx n (0:Int)).map Fx):=by simp[getL]
 have ei2:=f2.getL ei (by simp);generalize H1++[Fy [.int 0]]++[Fy ((bx n (0:Int)).map Fx)]=H2 at a4 f2 e2 ei2;have hit:hV n (fB n ps r) 39 (bx n 0)=some (dO n ps r):=by
  have h:=xW o r;have:n*n<=6*6:=oq n6 n6;have e:39=n*n+1+(38-n*n):=by lia
  rw[e];exact R4 _ h
 have hlen:(fB n ps r).length<=400:=by have:=SD (ps:=ps) (r:=r) n6;have:=o.len;unfold fB;rw[cf,ax];lia
 obtain⟨H3,f3,h3⟩:=SG (d:=d) (i:=i) (x1:=some (.int r)) n1 hx0 (z82 o) hlen n6 39 (bx n 0) H2 (H1.length+1) none (by simp) (max0 n1) hit ei2 e2;refine⟨H3,?_,(f1'.trans f2 (by simp)).trans f3 (by simp)⟩;show bN (GJ [some d,some (.int r),none,none,none] H)=_;rw[z81,bR a1,bR a2,bR a3,bR a4]
 rcases h3 with⟨gs,e,w⟩|⟨e,ρ',w⟩
 ·rw[e];unfold aH;rw[w];rfl
 ·rw[e,bR w];rfl
def lC:M Az:=bA (aM bT (aE (m2 cD (aF 5) (aF 1)))) [none,some 0] (aD 0) (mB (m2 (lX true) (aB wZ (aJ (aA 1) (aA 0))) (mC .non))) (aU (aA 0))
def iM(n:Nat)(ps:dn)(k:Nat):y':=((ak k).filter λr:Nat=>(dO n ps r).isSome).map λr:Nat=>(r:Int)
theorem z84(o:Bg n ps):∃H',lC [some (aG n ps)] H=.ok ((iM n ps 6).map Fx) H'/\Fr [] H H':=by
 have hi:aM bT (aE (m2 cD (aF 5) (aF 1))) [some (aG n ps)] H=.ok (bZ 0 6) H:=rfl;have hs:=λ(k:Nat)(hk:k<6)(H:Hs)=>z83 (H:=H) (r:=(k:Int)) o (by lia) (by lia);unfold lC;generalize aG n ps=d at hi hs;obtain⟨ρ',H',De,h1,a,h2,h3,h4⟩:=wH (src:=bZ 0 6) (sg:=aD 0) (t:=mB (m2 (lX true) (aB wZ (aJ (aA 1) (aA 0))) (mC .non))) (m:=aU (aA 0))
  (λk ρ H' acc=>∃(a:A'),ρ=[a,some d]/\acc=(iM n ps k).map Fx/\Fr [] H H')
  (λk ρ H' acc hk⟨a,e1,e2,e3⟩=>by
   subst e1;subst e2;have C':k<6:=hk;obtain⟨H2,w,f⟩:=hs k C' H';have e0:(0+(k:Int))=(k:Int):=by lia
   refine⟨.int (0+(k:Int)),[some (.int (k:Int)),some d],rfl,by rw[e0];rfl,?_⟩;have hq:iM n ps (k+1)=iM n ps k++if(dO n ps k).isSome then[(k:Int)]else[]:=by
    unfold iM;rw[qf,List.filter_append,fq]
    congr 1
    rw[gw]
    split<;>rfl
   cases q:dO n ps k with
   |none=>rw[q]at w hq;refine .inl ⟨H2,?_,_,rfl,by rw[hq];simp,e3.trans f (by simp)⟩;simp[mB,m2,aB,aR,aA,aQ,w,IU,mC,lX,tI,dZ]
   |some gs=>
    rw[q]at w hq;have hz:((iM n ps k).map Fx).length<1000000:=by
     have:(iM n ps k).length<=k:=by unfold iM;rw[ax];have:=ug (λr:Nat=>(dO n ps r).isSome) (ak k);simpa using this
     rw[ax];lia
    refine .inr ⟨H2,[some (.int (k:Int)),some d],(iM n ps (k+1)).map Fx,H2,?_,?_,_,rfl,rfl,e3.trans f (by simp)⟩
    ·simp[mB,m2,aB,aR,aA,aQ,w,IU,mC,lX,tI,dZ]
    ·rw[hq];simp only[Ae,if_true,fq];generalize (iM n ps k).map Fx=A at hz⊢;simp[aU,aA,hz]) (λρ H' acc _=>rfl) 6 0 [none,some d] H [] rfl ⟨none,rfl,rfl,Gd⟩
 refine⟨H',?_,h4⟩;unfold bA;rw[hi,Rs.bind_ok];have Dx:kM [none,some 0] [some d]=[none,some d]:=rfl;rw[Dx,show(bZ 0 6).n=6 from rfl,h1];dsimp only;rw[h3];rfl
end
end L2.Mr.Cod
namespace L2.Mr.Com
end L2.Mr.Com
namespace L2.Mr.Gen
open L2.Mr.Com
theorem IZ{t u:M Bool}{ρ:Ev}{h h1:Hs}(e:t ρ h=.ok false h1):gD t u ρ h=u ρ h1:=by unfold gD;rw[e];rfl
theorem z85{t:M Bool}{ρ:Ev}{h h1:Hs}{b:Bool}(e:t ρ h=.ok b h1):eN t ρ h=.ok (!b) h1:=by unfold eN;rw[e];rfl
theorem z86(xs ys:Az)(hl:xs.length+ys.length<=1000){H:Hs}:cD (.tup xs) (.tup ys) H=.ok (.tup (xs++ys)) H:=by
 cases xs with
 |nil=>rfl
 |cons x xs=>
  have:(x::xs).length+ys.length<=1000000:=by lia
  have:xs.length+1+ys.length<=1000000:=by simp at this;lia
  simp[cD,mQ,lim,this]
section
variable{H:Hs}{xs:y'}
theorem sE(ns:y'):bU eY (ns.map Fx)=some ns:=by
 induction ns with
 |nil=>rfl
 |cons x xs ih=>simp[bU,eY,ih]
theorem qK{m:M Dv}{ρ:Ev}{H:Hs}{L:Int}(e:m ρ H=.ok (.int L) H)(h0:0<=L)(h1:L<=1000):aM bT (aE m) ρ H=.ok (bZ 0 L) H:=by
 have hr:gE L=true:=by simp[gE];lia
 simp[aM,aR,e,aQ,bT,hr]
theorem z87{ds:Az}{i:Nat}{ρ:Ev}(e:aA i ρ H=.ok (.tup ds) H):aB (f1 dU) (aE (aA i)) ρ H=.ok (.int ds.length) H:=by simp[aB,aR,e,aQ,f1,dU,eE,iC,fX]
theorem xY{α:Type}(p:α->Bool)(f:α->Dv)(l:List α):(l.filterMap λq=>if p q then some (f q)else none)=(l.filter p).map f:=by
 induction l with
 |nil=>rfl
 |cons k l ih=>
  rw[cw,gw]
  cases c:p k with
  |true=>simp only[if_true,du];rw[ih]
  |false=>simp only[cp,if_false];exact ih
theorem SH(neg:Bool)(x:Int){i:Nat}(e:getL H i=some (xs.map Fx)):cN neg (.int x) (.ref i) H=.ok (.bl (if neg then !decide (x∈xs)else decide (x∈xs))) H:=by
 have e':(xs.map Gn).any (λt=>bX t (.int x))=decide (x∈xs):=by
  rw[gq];simp only[td,mz,ui,decide_eq_true_eq];constructor
  ·rintro ⟨q,hq,h⟩
   have:q=x:=by simpa[bX]using h
   rw[<-this];exact hq
  ·intro h;exact⟨x,h,by simp[bX]⟩
 have h1:bU (cG cX H) (xs.map Fx)=some (xs.map Gn):=rJ 29 H xs;have h2:cG cX H (.int x)=some (.int x):=rfl;show lE [] neg (.int x) (.ref i) H=_;simp only[lE,fX,e,h1,h2,e']
theorem xZ{m:M Dv}{ρ ρ1:Ev}{i:Nat}{H H':Hs}{v:Dv}(e:m ρ H=.ok v H')(hs:aD i v ρ=some ρ1):aK m (aD i) ρ H=.nx ρ1 H':=by simp[aK,e,hs]
theorem CN{m:M Az}{ρ:Ev}{i:Nat}{H H':Hs}{ds:Az}{ρ1:Ev}(e:m ρ H=.ok ds H')(hs:aD i (.ref H'.length) ρ=some ρ1):aK (aX m) (aD i) ρ H=.nx ρ1 (H'++[.lst ds]):=by
 have ea:aX m ρ H=.ok (.ref H'.length) (H'++[.lst ds]):=by unfold aX;rw[e];rfl
 exact xZ ea hs
theorem eK{f:Dv->Dv->Hs->Rs Dv}{ma mb:M Dv}{ρ:Ev}{H H1 H2 H3:Hs}{x y z:Dv}(ha:ma ρ H=.ok x H1)(hb:mb ρ H1=.ok y H2)(hf:f x y H2=.ok z H3):m2 f ma mb ρ H=.ok z H3:=by unfold m2;rw[ha,Rs.bind_ok,hb,Rs.bind_ok,hf]
end
abbrev At(ρ:Ev)(i:Nat)(d:Dv):Prop:=ρ[i]?=some (some d)
section
variable{ρ:Ev}{i j:Nat}{d:Dv}{H H':Hs}
theorem At.v(h:At ρ i d):aA i ρ=λH=>.ok d H:=by funext H;unfold aA;rw[h]
theorem At.new(h:i<ρ.length):At (ρ.set i (some d)) i d:=by simp[At,h]
theorem At.o(h:At ρ j d){x:A'}(hn:i≠j:=by decide):At (ρ.set i x) j d:=(jd hn).trans h
theorem I0{m:M Dv}{v:Dv}(e:m ρ H=.ok v H'):aK m (aD i) ρ H=.nx (ρ.set i (some v)) H':=xZ e rfl
end
end L2.Mr.Gen
namespace L2.Mr.K74
open L2.Mr.Gen
open L2.Mr.Cod
open L2.Mr.Com
theorem z88{m:Int}{H:Hs}(hr:gE m=true):bT [.int m] H=.ok (bZ 0 m) H:=by simp[bT,hr]
structure Ex(ns:y'):Prop where
 l1:1<=ns.length
 l6:ns.length<=6
 pos:∀n∈ns,1<=n
theorem z89{H:Hs}{q:Nat}{ks:y'}(e:getL H q=some (ks.map Fx)):cE (.ref q) (.ref H.length) (H++[.lst []])=.ok (.bl ks.isEmpty) (H++[.lst []]):=by
 have p1:cG cX (H++[.lst []]) (.ref q)=some (.lst (ks.map Gn)):=by show cG (28+1+1) (H++[.lst []]) (.ref q)=_;rw[cG];simp only[jT (l:=[.lst []]) e,rJ]
 have p2:cG cX (H++[.lst []]) (.ref H.length)=some (.lst []):=by
  show cG (28+1+1) (H++[.lst []]) (.ref H.length)=_;rw[cG];have:getL (H++[.lst []]) H.length=some []:=by simp[getL]
  simp only[this];rfl
 unfold cE;rw[p1,p2]
 cases ks<;>simp[bX,iQ]
def CO:MS:=bV (iU (aA 1) (m2 cD (aF 1) (m2 aO (bY (jX (aF 0) (aF 0) (aB dH (aJ (aA 0) (aF 3))) (aB dH (aJ (aA 0) (aF 6))))) (aB dH (aJ (aA 0) (aF 4))))))
def uM:MS:=bP (gD (mB (m2 gL (aA 5) (aA 3))) (mB (m2 cE (aA 4) (bY aQ)))) (aH (bV (iU (aA 4) (aA 5))) (aK (m2 eX (aA 3) (aA 5)) (aD 3))) cA
section
variable{H:Hs}{st p q:Nat}{xs:Az}
theorem z8a{ρ:Ev}(h0:ρ[0]?=some (some (.ref st)))(h1:ρ[1]?=some (some (.ref p)))(s:Com.St st H)(e:getL H p=some xs)(hp:p≠st)(hl:xs.length<1000000):
  ∃(n:Int)(H':Hs),1<=n/\CO ρ H=.nx ρ H'/\getL H' p=some (xs++[.int n])/\Fr [st,p] H H'/\Com.St st H':=by
 obtain⟨r3,H1,a0,a1,t1,f1,s1⟩:=rZ 3 s h0;obtain⟨r6,H2,b0,b1,t2,f2,s2⟩:=rZ 6 s1 h0;have f3:Fr [] H2 (H2++[.lst [.int 0,.int 0,.int r3,.int r6]]):=Fz;have s3:=s2.fr f3 (by simp);obtain⟨r4,H4,c0,c1,t4,f4,s4⟩:=rZ 4 s3 h0;have hlt:=s2.lt;have hps:p∉[st]:=by simpa using hp
 have g:getL H4 H2.length=some [.int 0,.int 0,.int r3,.int r6]:=f4.getL (by simp[getL]) (by simp;lia);have gp:getL H4 p=some xs:=f4.getL (jT (f2.getL (f1.getL e hps) hps)) hps;have⟨v,v0,hv⟩:∃v,0<=v/\aO (.ref H2.length) (.int r4) H4=.ok (.int v) H4:=by
  have:r4=0∨r4=1∨r4=2∨r4=3:=by lia
  rcases this with rfl|rfl|rfl|rfl
  ·exact⟨0,by lia,by simp[aO,eE,eO,g,gJ,dY,eH]⟩
  ·exact⟨0,by lia,by simp[aO,eE,eO,g,gJ,dY,eH]⟩
  ·exact⟨r3,by lia,by simp[aO,eE,eO,g,gJ,dY,eH]⟩
  ·exact⟨r6,by lia,by simp[aO,eE,eO,g,gJ,dY,eH]⟩
 have fr:Fr [st,p] H H4:=((f1.trans f2 (λj hj=>.inl hj)).trans f3 (by simp)).trans f4 (λj hj=>.inl hj)|>.mono (by simp)
 refine⟨1+v,H4.set p (.lst (xs++[.int (1+v)])),by lia,?_,oX gp,fr.trans Gm (by simp),s4.fr Gm (by simpa using dk hp)⟩;simp[CO,bV,iU,aA,h1,lD,e,m2,mC,bY,aR,aQ,lim,t1,t2,t4,hv,cD,mQ,oV,gp,hl]
theorem SI{m:Int}:∀(f k:Nat)(H:Hs)(ns:y')(x2:A'),Com.St st H->getL H p=some (ns.map Fx)->p≠st->ns.length+f<=1000->(∀n∈ns,1<=n)->
  ∃(ms:y')(H':Hs)(y2:A'),gR (bZ 0 m) (aD 2) CO f k [some (.ref st),some (.ref p),x2,none,none,none] H=.nx [some (.ref st),some (.ref p),y2,none,none,none] H'/\getL H' p=some (ms.map Fx)/\ms.length=ns.length+f/\(∀n∈ms,1<=n)/\Fr [st,p] H H'/\Com.St st H'
 |0,k,H,ns,x2,s,e,hp,hl,h1=>⟨ns,H,x2,by simp[gR,bZ],e,rfl,h1,Gd,s⟩
 |f+1,k,H,ns,x2,s,e,hp,hl,h1=>by
  obtain⟨n,H1,n1,hb,e1,f1,s1⟩:=z8a (ρ:=[some (.ref st),some (.ref p),some (.int (0+(k:Int))),none,none,none]) rfl rfl s e hp (by simp;lia);obtain⟨ms,H2,y2,hf,e2,l2,p2,f2,s2⟩:=SI (m:=m) f (k+1) H1 (ns++[n]) (some (.int (0+(k:Int)))) s1 (by rw[e1];simp) hp (by simp;lia) (λa ha=>by
   simp at ha
   rcases ha with ha|rfl
   ·exact h1 a ha
   ·exact n1)
  refine⟨ms,H2,y2,?_,e2,by rw[l2];simp;lia,p2,f1.trans f2 (λj hj=>.inl hj),s2⟩;rw[<-hf];have hg:(bZ 0 m).get k H=some (.int (0+(k:Int))):=rfl;have hs:aD 2 (.int (0+(k:Int))) [some (.ref st),some (.ref p),x2,none,none,none]=some [some (.ref st),some (.ref p),some (.int (0+(k:Int))),none,none,none]:=rfl;exact AB hg hs hb
theorem z8b{ρ:Ev}{left n:Int}{ks:y'}(hl:6<=ρ.length)(h3:ρ[3]?=some (some (.int left)))(h4:ρ[4]?=some (some (.ref q)))(h5:ρ[5]?=some (some (.int n)))(e:getL H q=some (ks.map Fx))(hk:ks.length<1000):
  ∃(ks':y')(left':Int)(H':Hs),uM ρ H=.nx (ρ.set 3 (some (.int left'))) H'/\getL H' q=some (ks'.map Fx)/\(ks'=ks++[n]∨ks'=ks/\ks≠[])/\Fr [q] H H':=by
 have self:ρ.set 3 (some (.int left))=ρ:=by
  apply wa
  intro i
  by_cases hi:3=i
  ·subst hi;rw[jg (by lia),h3]
  ·rw[jd hi]
 have go:∀H1,getL H1 q=some (ks.map Fx)->aH (bV (iU (aA 4) (aA 5))) (aK (m2 eX (aA 3) (aA 5)) (aD 3)) ρ H1=.nx (ρ.set 3 (some (.int (left-n)))) (H1.set q (.lst ((ks++[n]).map Fx))):=λH1 e1=>by
  have C':ks.length<1000000:=by lia
  simp[aH,bV,iU,aA,h3,h4,h5,lD,e1,oV,C',aK,m2,eX,gQ,aD]
 by_cases hle:n<=left
 ·refine⟨ks++[n],left-n,_,?_,oX e,.inl rfl,Gm⟩;unfold uM;rw[pZ (h1:=H) (by simp[gD,mB,m2,aA,h5,h3,gL,gQ,hle,dZ])];exact go H e
 ·have ea:gD (mB (m2 gL (aA 5) (aA 3))) (mB (m2 cE (aA 4) (bY aQ))) ρ H=.ok ks.isEmpty (H++[.lst []]):=by simp[gD,mB,m2,aA,h5,h3,h4,gL,gQ,hle,dZ,bY,aQ,lim,z89 e]
  cases ks with
  |nil=>refine⟨[]++[n],left-n,_,?_,oX (jT (l:=[.lst []]) e),.inl rfl,(Fz (S:=[q]) (l:=[.lst []])).trans Gm (by simp)⟩;unfold uM;rw[pZ ea];exact go _ (jT e)
  |cons a t=>refine⟨a::t,left,_,?_,jT (l:=[.lst []]) e,.inr ⟨rfl,by simp⟩,Fz⟩;unfold uM;rw[kQ ea,self];rfl
theorem SJ{ns:y'}{x2:A'}(hp:∀n∈ns,1<=n)(h6:ns.length<=6)(hpq:p≠q):∀(f k:Nat)(H:Hs)(left:Int)(ks:y')(x5:A'),f+k=ns.length->getL H p=some (ns.map Fx)->getL H q=some (ks.map Fx)->ks.length<=k->(∀n∈ks,1<=n)->(ks=[]->k=0)->
  ∃(ms:y')(H':Hs)(l':Int)(y5:A'),gR (cI p ns.length) (aD 5) uM f k [some (.ref st),some (.ref p),x2,some (.int left),some (.ref q),x5] H=.nx [some (.ref st),some (.ref p),x2,some (.int l'),some (.ref q),y5] H'/\getL H' q=some (ms.map Fx)/\ms.length<=ns.length/\(∀n∈ms,1<=n)/\(ms=[]->ns=[])/\Fr [q] H H'
 |0,k,H,left,ks,x5,h,ep,eq,hk,h1,hz=>⟨ks,H,left,x5,by simp[gR,cI,ep],eq,by lia,h1,λz=>jy.mp (by have:=hz z;lia),Gd⟩
 |f+1,k,H,left,ks,x5,h,ep,eq,hk,h1,hz=>by
  have hlt:k<ns.length:=by lia
  have hn:=hp ns[k] (gu hlt);obtain⟨ks',l',H1,hb,e1,hks,f1⟩:=z8b (ρ:=[some (.ref st),some (.ref p),x2,some (.int left),some (.ref q),some (.int ns[k])]) (by simp) rfl rfl rfl eq (by lia);have ep1:getL H1 p=some (ns.map Fx):=f1.getL ep (by simpa using hpq);have c1:ks'.length<=k+1:=by
   rcases hks with rfl|⟨rfl,_⟩
   ·simp;lia
   ·lia
  have c2:∀n∈ks',1<=n:=by
   rcases hks with rfl|⟨rfl,_⟩
   ·intro n hn';simp at hn'
    rcases hn' with hn'|rfl
    ·exact h1 n hn'
    ·exact hn
   ·exact h1
  have c3:ks'=[]->k+1=0:=by
   rcases hks with rfl|⟨rfl,z⟩
   ·simp
   ·exact λw=>absurd w z
  obtain⟨ms,H2,l2,y5,hf,e2,lm,pm,zm,f2⟩:=SJ hp h6 hpq f (k+1) H1 l' ks' (some (.int ns[k])) (by lia) ep1 e1 c1 c2 c3;refine⟨ms,H2,l2,y5,?_,e2,lm,pm,zm,f1.trans f2 (λj hj=>.inl hj)⟩;rw[<-hf];have hg:(cI p ns.length).get k H=some (.int ns[k]):=by simp[cI,ep,hlt]
  have hs:aD 5 (.int ns[k]) [some (.ref st),some (.ref p),x2,some (.int left),some (.ref q),x5]=some [some (.ref st),some (.ref p),x2,some (.int left),some (.ref q),some (.int ns[k])]:=rfl;exact AB hg hs hb
theorem z8c:A5=(aH (aK (bY aQ) (aD 1)) (aH (eW (aM bT (aE (m2 cD (aF 1) (aB dH (aJ (aA 0) (aF 6)))))) (aD 2) CO) (aH (aK (aF 6) (aD 3)) (aH (aK (bY aQ) (aD 4)) (aH (eW (aY bQ (aA 1)) (aD 5) uM) (aL (m2 aO (bY (jX (aA 4) (aA 4) (aA 4) (aA 1))) (aB dH (aJ (aA 0) (aF 4)))))))))):=rfl
theorem z8d(s:Com.St st H):∃(i:Nat)(ns:y')(H':Hs),uC [.ref st] H=.ok (.ref i) H'/\getL H' i=some (ns.map Fx)/\Ex ns/\Fr [st] H H'/\Com.St st H'/\H.length<=i:=by
 have lt0:=s.lt;have f0:Fr [] H (H++[.lst []]):=Fz;have s0:=s.fr f0 (by simp);have e0:getL (H++[.lst []]) H.length=some (([]:y').map Fx):=by simp[getL]
 have w0:aK (bY aQ) (aD 1) [some (.ref st),none,none,none,none,none] H=.nx [some (.ref st),some (.ref H.length),none,none,none,none] (H++[.lst []]):=rfl;obtain⟨r,H1,r0,r1,t1,f1,s1⟩:=rZ (ρ:=[some (.ref st),some (.ref H.length),none,none,none,none]) (i:=0) 6 s0 rfl;have e1:getL H1 H.length=some (([]:y').map Fx):=f1.getL e0 (by simp;lia);have hr:gE (1+r)=true:=by simp[gE];lia
 have w1:aM bT (aE (m2 cD (aF 1) (aB dH (aJ (aA 0) (aF 6))))) [some (.ref st),some (.ref H.length),none,none,none,none] (H++[.lst []])=.ok (bZ 0 (1+r)) H1:=by simp[aM,aR,m2,mC,t1,cD,mQ,aQ,z88 hr]
 obtain⟨ns,H2,y2,w2,e2,l2,p2,f2,s2⟩:=SI (m:=1+r) (p:=H.length) (bZ 0 (1+r)).n 0 H1 [] none s1 e1 (by lia) (by simp[bZ];lia) (by simp);have l2':1<=ns.length/\ns.length<=6:=by rw[l2];simp[bZ];lia
 have w3:aK (aF 6) (aD 3) [some (.ref st),some (.ref H.length),y2,none,none,none] H2=.nx [some (.ref st),some (.ref H.length),y2,some (.int 6),none,none] H2:=rfl;have w4:aK (bY aQ) (aD 4) [some (.ref st),some (.ref H.length),y2,some (.int 6),none,none] H2=.nx [some (.ref st),some (.ref H.length),y2,some (.int 6),some (.ref H2.length),none] (H2++[.lst []]):=rfl;have f4:Fr [] H2 (H2++[.lst []]):=Fz;have e4:getL (H2++[.lst []]) H.length=some (ns.map Fx):=jT e2;have q4:getL (H2++[.lst []]) H2.length=some (([]:y').map Fx):=by simp[getL]
 have lt2:=zZ e2;have w5:aY bQ (aA 1) [some (.ref st),some (.ref H.length),y2,some (.int 6),some (.ref H2.length),none] (H2++[.lst []])=.ok (cI H.length ns.length) (H2++[.lst []]):=by simp[aY,aA,bQ,e4]
 obtain⟨ms,H3,lf,y5,w6,e6,l6,p6,z6,f6⟩:=SJ (st:=st) (x2:=y2) p2 l2'.2 (show H.length≠H2.length by lia) ns.length 0 (H2++[.lst []]) 6 [] none (by lia) e4 q4 (by simp) (by simp) (by simp);have st3:=(s2.fr f4 (by simp)).fr f6 (by have:=s2.lt;simp;lia);have e7:getL H3 H.length=some (ns.map Fx):=f6.getL e4 (by simp;lia);have f8:Fr [] H3 (H3++[.lst [.ref H2.length,.ref H2.length,.ref H2.length,.ref H.length]]):=Fz;have st8:=st3.fr f8 (by simp);obtain⟨v,H4,v0,v1,t8,f9,s9⟩:=rZ (ρ:=[some (.ref st),some (.ref H.length),y2,some (.int lf),some (.ref H2.length),y5]) (i:=0) 4 st8 rfl;have g9:getL H4 H3.length=some [.ref H2.length,.ref H2.length,.ref H2.length,.ref H.length]:=f9.getL (by simp[getL]) (by have:=st3.lt;simp;lia);have okn:Ex ns:=⟨l2'.1,l2'.2,p2⟩
 have okm:Ex ms:=⟨by
  cases ms with
  |nil=>have:=z6 rfl;rw[this]at l2';simp at l2'
  |cons a t=>simp,by lia,p6⟩
 have fr:Fr [st] H H4:=by have a1:=f0.mono (T:=[st]) (by simp);have a2:=a1.trans f1 (λj hj=>.inl hj);have a3:=a2.trans f2 (λj hj=>by simp at hj;rcases hj with rfl|rfl<;>simp);have a4:=a3.trans f4 (by simp);have a5:=a4.trans f6 (λj hj=>by simp at hj;subst hj;right;lia);have a6:=a5.trans f8 (by simp);exact a6.trans f9 (λj hj=>.inl hj)
 have gn:getL H4 H.length=some (ns.map Fx):=f9.getL (jT e7) (by simp;lia);have gm:getL H4 H2.length=some (ms.map Fx):=f9.getL (jT e6) (by have:=s2.lt;simp;lia);have run:∀d,aO (.ref H3.length) (.int v) H4=.ok d H4->uC [.ref st] H=.ok d H4:=λd hd=>by
  show bN (A5 [some (.ref st),none,none,none,none,none] H)=_;have z:A5 [some (.ref st),none,none,none,none,none] H=.rt d H4:=by rw[z8c,bR w0,bR ((AA w1).trans w2),bR w3,bR w4,bR ((AA w5).trans w6)];simp[aL,m2,bY,aR,aA,aQ,lim,t8,hd]
  rw[z];rfl
 have:v=0∨v=1∨v=2∨v=3:=by lia
 rcases this with rfl|rfl|rfl|rfl
 ·exact⟨H2.length,ms,H4,run _ (by simp[aO,eE,eO,g9,gJ,dY,eH]),gm,okm,fr,s9,by lia⟩
 ·exact⟨H2.length,ms,H4,run _ (by simp[aO,eE,eO,g9,gJ,dY,eH]),gm,okm,fr,s9,by lia⟩
 ·exact⟨H2.length,ms,H4,run _ (by simp[aO,eE,eO,g9,gJ,dY,eH]),gm,okm,fr,s9,by lia⟩
 ·exact⟨H.length,ns,H4,run _ (by simp[aO,eE,eO,g9,gJ,dY,eH]),gn,okn,fr,s9,by lia⟩
end
section
variable{ns:y'}{H:Hs}{j st:Nat}
theorem SK:∀f:Nat,bU mW (bx f (Gq true))=some (bx f true)
 |0=>rfl
 |f+1=>by simp[jk,bU,mW,SK f]
theorem z8e(n:Int):qE [.int n] H=.ok (.bl true) H:=by simp[qE,GC,aT,dJ,aL,dE,m1,aA,iG,mV,vY,vZ,sY,bN]
abbrev nC:M Az:=bA (aY bQ (aA 0)) [none] (aD 0) bK (aU (dE (aB qE (aE (aA 0))) (m2 pW (aA 0) (aF 1))))
theorem z8f(o:Ex ns)(e:getL H j=some (ns.map Fx)):nC [some (.ref j)] H=.ok (bx ns.length (.bl true)) H:=by
 have l6:=o.l6;have hi:aY bQ (aA 0) [some (.ref j)] H=.ok (cI j ns.length) H:=by simp[aY,aA,bQ,e]
 have w:nC [some (.ref j)] H=.ok (ns.filterMap λ_=>some (.bl true)) H:=jK ns (λ_=>some (.bl true)) (λρ=>∃a,ρ=[a]) hi rfl ⟨none,rfl⟩ (by simp[cI,e]) (λk hk ρ⟨a,q⟩=>by subst q;have hn:=o.pos _ (gu hk);refine⟨.int ns[k],[some (.int ns[k])],by simp[cI,e,hk],rfl,⟨_,rfl⟩,rfl,?_⟩;simp[dE,aB,aR,aQ,aA,z8e,m2,pW,gQ,mC,hn]) (by lia);rw[w];simp[km,List.map_const']
theorem need_ok(o:Ex ns)(e:getL H j=some (ns.map Fx)):pE [.ref j] H=.ok .non H:=by
 have hy:=z8f o e;have h1:(1:Int)<=ns.length:=by have:=o.l1;lia
 have h6:(ns.length:Int)<=6:=by have:=o.l6;lia
 generalize hm:nC=m at hy;have e0:GV=aH (bP (gD (eN (cF (m1 (iG wC) (aA 0)))) (eN (mB (kL gL gL (aF 1) (aB (f1 dU) (aE (aA 0))) (aF 6))))) rW cA) (bP (eN (cF (mL kP m))) rW cA):=by rw[<-hm];rfl
 show bN (GV [some (.ref j)] H)=_;rw[e0];simp[aH,bP,gD,eN,cF,m1,iG,aA,mV,e,wC,jZ,mB,kL,mC,aB,f1,dU,eE,iC,fX,aR,aQ,gL,gQ,h1,h6,dZ,cA,mL,hy,kP,SK,bN]
theorem CP(e:getL H j=some (ns.map Fx)):iV (.ref j) H=.ok (.int ns.sum) H:=by simp[iV,e,sE]
abbrev fT:M Dv:=m2 cD (aF 1) (aB dH (aJ (aA 0) (aF 3)))
abbrev fI:MS:=bP (mB (m2 qZ (aB (f1 iV) (aE (aA 1))) (aF 6))) (aK (bY (aJ fT fT)) (aD 1)) cA
theorem SN:A6=aH (aK (aB uC (aE (aA 0))) (aD 1)) (aH fI (aL (aA 1))):=rfl
theorem SO{ρ:Ev}(s:Com.St st H)(h0:ρ[0]?=some (some (.ref st))):∃(r:Int)(H':Hs),1<=r/\r<=3/\fT ρ H=.ok (.int r) H'/\Fr [st] H H'/\Com.St st H':=by obtain⟨r,H1,a0,a1,t1,f1,s1⟩:=rZ 3 s h0;exact⟨1+r,H1,by lia,by lia,eK (ma:=aF 1) rfl t1 rfl,f1,s1⟩
theorem few_ok(s:Com.St st H):∃(i:Nat)(ns:y')(H':Hs),xF [.ref st] H=.ok (.ref i) H'/\getL H' i=some (ns.map Fx)/\Ex ns/\ns.sum<=6/\Com.St st H':=by
 obtain⟨i,ns,H1,e1,g1,o,f1',s1,_⟩:=z8d s;have w1:aK (aB uC (aE (aA 0))) (aD 1) [some (.ref st),none] H=.nx [some (.ref st),some (.ref i)] H1:=by simp[aK,aB,aR,aA,aQ,e1,aD]
 have t:mB (m2 qZ (aB (f1 iV) (aE (aA 1))) (aF 6)) [some (.ref st),some (.ref i)] H1=.ok (decide (ns.sum>6)) H1:=by simp[mB,m2,aB,aR,aA,aQ,f1,CP g1,mC,qZ,gQ,dZ]
 by_cases c:ns.sum>6
 ·obtain⟨a,H2,a1,a3,ea,fa,sa⟩:=SO (ρ:=[some (.ref st),some (.ref i)]) s1 rfl;obtain⟨b,H3,b1,b3,eb,fb,sb⟩:=SO (ρ:=[some (.ref st),some (.ref i)]) sa rfl;refine⟨H3.length,[a,b],H3++[.lst [.int a,.int b]],?_,by simp[getL],⟨by simp,by simp,λn hn=>by simp at hn;lia⟩,by show a+(b+0)<=6;lia,sb.fr (Fz (S:=[])) (by simp)⟩;have w2:bY (aJ fT fT) [some (.ref st),some (.ref i)] H1=.ok (.ref H3.length) (H3++[.lst [.int a,.int b]]):=by generalize fT=m at ea eb;simp[bY,aR,aQ,ea,eb,lim]
  show bN (A6 [some (.ref st),none] H)=_;rw[SN,bR w1];have w3:fI [some (.ref st),some (.ref i)] H1=.nx [some (.ref st),some (.ref H3.length)] (H3++[.lst [.int a,.int b]]):=by unfold fI;rw[pZ (t.trans (by rw[decide_eq_true c])),xZ w2 rfl];rfl
  rw[bR w3];rfl
 ·refine⟨i,ns,H1,?_,g1,o,by lia,s1⟩;show bN (A6 [some (.ref st),none] H)=_;rw[SN,bR w1];have w3:fI [some (.ref st),some (.ref i)] H1=.nx [some (.ref st),some (.ref i)] H1:=by unfold fI;rw[kQ (t.trans (by rw[decide_eq_false c]))];rfl
  rw[bR w3];rfl
end
end L2.Mr.K74
namespace L2.Mr.K05
open L2.Mr.Com L2.Mr.Gen
theorem need_ok{n:Nat}{ps:dn}{H:Hs}(o:Bg n ps):eJ [aG n ps] H=.ok .non H:=Cod.need_ok o
theorem loose_is{n:Nat}{ps:dn}{H:Hs}{a b:Int}:eZ [aG n ps,.int a,.int b] H=.ok (.bl (decide (Cod.Lse ps a b))) H:=Cod.loose_is
def ix(ns:y')(k:Int):Nat:=(fY k ns).getD 0
theorem I9{k:Int}:∀{ns:y'},k∈ns->fY k ns=some (ix ns k)
 |[],h=>nomatch h
 |n::ns,h=>by
  unfold ix fY
  by_cases c:n=k
  ·rw[if_pos c];rfl
  ·rw[if_neg c];have hm:k∈ns:=(aw.mp h).elim (λz=>absurd z.symm c) id;rw[I9 hm];rfl
theorem mI{k:Int}{ns:y'}(h:k∈ns):ix ns k<ns.length:=(bw.mp (FP (I9 h)).1).1
theorem nV{ns ms:y'}{k:Int}(h:k∈ns):ix (ns++ms) k=ix ns k:=by
 have key:∀{ns:y'},k∈ns->fY k (ns++ms)=fY k ns:=by
  intro ns
  induction ns with
  |nil=>intro h;cases h
  |cons x xs ih=>
   intro h;show fY k (x::(xs++ms))=_;unfold fY
   by_cases c:x=k
   ·rw[if_pos c,if_pos c]
   ·rw[if_neg c,if_neg c,ih ((aw.mp h).elim (λz=>absurd z.symm c) id)]
 unfold ix;rw[key h]
theorem yA{ns:y'}{k:Int}(h:k∉ns):ix (ns++[k]) k=ns.length:=by
 have key:∀{ns:y'},k∉ns->fY k (ns++[k])=some ns.length:=by
  intro ns
  induction ns with
  |nil=>intro _;show fY k [k]=some 0;unfold fY;rw[if_pos rfl]
  |cons x xs ih=>intro h;show fY k (x::(xs++[k]))=_;unfold fY;rw[if_neg (λz=>h (by rw[z];exact bf ..)),ih (λz=>h (av _ z))];rfl
 unfold ix;rw[key h];rfl
section
variable{n:Nat}{ps:dn}{H:Hs}{ns:y'}{ρ:Ev}
theorem yB{a:Nat}{me:M Dv}{k:Int}(h1:aA a ρ=λH=>.ok (.tup (ns.map Fx)) H)(h2:me ρ H=.ok (.int k) H)(hk:k∈ns):lZ (aA a) me ρ H=.ok (.int (ix ns k)) H:=by simp[lZ,h1,NY,h2,FQ,sE,I9 hk]
theorem Cj{x:Int}:x∈bJ n↔0<=x/\x<n:=by
 unfold bJ;rw[br];constructor
 ·rintro ⟨k,hk,rfl⟩
  have:=bg.mp hk
  lia
 ·intro h;exact⟨x.toNat,bg.mpr (by lia),by lia⟩
theorem rng_up:(bJ n).Pairwise (·<·):=by unfold bJ;exact rj.mpr ((zh).imp λh=>by lia)
theorem uN:(bJ n).Nodup:=rng_up.imp λh=>by lia
theorem qL(hr:∀x∈ns,0<=x/\x<n)(nd:ns.Nodup)(hl:ns.length=n){x:Int}(h0:0<=x)(h1:x<n):x∈ns:=by
 by_cases c:x∈ns
 ·exact c
 ·exfalso
  have nd':(x::ns).Nodup:=jm.mpr ⟨c,nd⟩;have:=nd'.length_le_of_subset (l₂:=bJ n) λy hy=>by
   rcases aw.mp hy with rfl|hy
   ·exact Cj.mpr ⟨h0,h1⟩
   ·exact Cj.mpr (hr y hy)
  simp[bJ]at this
  lia
end
open L2.Mr.Cod (cO kE jW Br Lse)
section
variable{n:Nat}{ps:dn}{H:Hs}{ns:y'}
def nW(ps:dn)(a j:Nat):A':=if decide (Lse ps a ((a:Int)+1+j))then some (aN ((a:Int),(a:Int)+1+j))else none
theorem SQ(a:Nat):∀k,(ak k).filterMap (nW ps a)=(jW ps a k).map aN
 |0=>rfl
 |k+1=>by
  rw[qf,List.filterMap_append,SQ a k,jW,fq]
  congr 1
  show(uk (nW ps a) [k])=_;have ne:(a:Int)≠(a:Int)+1+k:=by lia
  by_cases c1:((a:Int),(a:Int)+1+(k:Int))∈ps
  ·simp[nW,Lse,c1]
  ·by_cases c2:((a:Int)+1+(k:Int),(a:Int))∈ps
   ·simp[nW,Lse,c1,c2]
   ·have:Lse ps a ((a:Int)+1+k):=⟨ne,c1,c2⟩
    simp[nW,this,c1,c2]
theorem SS:∀k,(ak k).flatMap (λa=>(ak (n-(a+1))).filterMap (nW ps a))=(kE n ps k).map aN
 |0=>rfl
 |k+1=>by rw[qf,List.flatMap_append,SS k,kE,fq];simp[SQ]
theorem JA(hn:n<=6):(cO n ps).length<=36:=by
 have hB:∀k,(kE n ps k).length<=k*6:=by
  intro k
  induction k with
  |zero=>exact aq _
  |succ k ih=>
   rw[kE,cf];have:=Cod.looseB_len ps k (n-(k+1))
   lia
 have:=hB n;unfold cO
 lia
def JB:M Az:=bA (aM bT (aE (aA 1))) [none,none,some 0,some 1] (aD 0) bK (dF (aM iE (aJ (m2 cD (aA 0) (aF 1)) (aA 3))) (aD 1) (cF (aB eZ (dD (aA 2) (aA 0) (aA 1)))) (aU (bH (aJ (aA 0) (aA 1)))))
theorem z8g:jU=aH (bV (aB eJ (aE (aA 0)))) (aH (aK (m2 aO (aA 0) (aF 0)) (aD 1)) (aL (aX JB))):=rfl
theorem z8h{F:Ay}{a b c:Dv}{ρ:Ev}{v:Bool}(ha:aA 2 ρ=λH=>.ok a H)(hb:aA 0 ρ=λH=>.ok b H)(hc:aA 1 ρ=λH=>.ok c H)(e:F [a,b,c] H=.ok (.bl v) H):cF (aB F (dD (aA 2) (aA 0) (aA 1))) ρ H=.ok v H:=by simp[cF,aB,aR,ha,hb,hc,aQ,e,jZ]
theorem z8i{ma mb:M Dv}{ρ:Ev}{A B:Int}(ea:ma ρ H=.ok (.int A) H)(eb:mb ρ H=.ok (.int B) H)(a0:0<=A)(a1:A<=1000)(b0:0<=B)(b1:B<=1000):aM iE (aJ ma mb) ρ H=.ok (bZ A B) H:=by
 have h1:gE A=true:=by simp[gE];lia
 have h2:gE B=true:=by simp[gE];lia
 simp[aM,aR,ea,eb,aQ,iE,h1,h2]
theorem z8j(hn:n<=6):JB [some (aG n ps),some (.int n)] H=.ok ((cO n ps).map aN) H:=by
 have hr:=SS (n:=n) (ps:=ps) n;have hlen:((ak n).flatMap (λa=>(ak (n-(a+1))).filterMap (nW ps a))).length<=900000:=by
  rw[hr,ax];have:=JA (ps:=ps) hn;unfold cO at this
  lia
 have w:JB [some (aG n ps),some (.int n)] H=.ok ((ak n).flatMap (λa=>(ak (n-(a+1))).filterMap (nW ps a))) H:=
  uI (ak n) (λa=>ak (n-(a+1))) (nW ps) (λρ=>∃x y,ρ=[x,y,some (aG n ps),some (.int n)]) (src:=bZ 0 n) (qK rfl (by lia) (by lia)) (by simp[bZ]) ⟨_,_,rfl⟩ rfl (λk hk ρ⟨x,y,e⟩=>by
   subst e;have C':k<n:=by simpa using hk
   have gk:(ak n)[k]=k:=qr ..;have h00:(0+(k:Int))=(k:Int):=by lia
   refine⟨.int (0+k),[some (.int (0+k)),y,some (aG n ps),some (.int n)],bZ ((k:Int)+1) n,λρ=>∃y,ρ=[some (.int (k:Int)),y,some (aG n ps),some (.int n)],rfl,rfl,⟨y,by rw[h00]⟩,λρ⟨y,e⟩=>⟨_,y,e⟩,?_,?_,rfl,?_⟩
   ·rw[h00];exact z8i (A:=(k:Int)+1) (B:=(n:Int)) rfl rfl (by lia) (by lia) (by lia) (by lia)
   ·rw[gk];simp[bZ];lia
   ·intro j hj ρ ⟨y,e⟩;subst e;have gj:(ak (n-((ak n)[k]+1)))[j]=j:=qr ..;refine⟨.int ((k:Int)+1+j),[some (.int (k:Int)),some (.int ((k:Int)+1+j)),some (aG n ps),some (.int n)],rfl,rfl,⟨_,rfl⟩,?_⟩;have t:=z8h (ρ:=[some (.int (k:Int)),some (.int ((k:Int)+1+j)),some (aG n ps),some (.int n)]) rfl rfl rfl (loose_is (n:=n) (ps:=ps) (H:=H) (a:=(k:Int)) (b:=(k:Int)+1+j));rw[gj,gk];unfold nW
    cases c:decide (Lse ps (k:Int) ((k:Int)+1+j))with
    |true=>rw[c]at t;exact⟨t,rfl⟩
    |false=>rw[c]at t;exact t) hlen
 rw[hr]at w;exact w
theorem lpairs_ok(o:Bg n ps):iL [aG n ps] H=.ok (.ref H.length) (H++[.lst ((cO n ps).map aN)]):=by
 have hn:=need_ok (H:=H) o;have w1:bV (aB eJ (aE (aA 0))) [some (aG n ps),none] H=.nx [some (aG n ps),none] H:=by generalize aG n ps=z at hn;simp[bV,aB,aR,aA,aQ,hn]
 have w2:aK (m2 aO (aA 0) (aF 0)) (aD 1) [some (aG n ps),none] H=.nx [some (aG n ps),some (.int n)] H:=rfl;show bN (jU [some (aG n ps),none] H)=_;rw[z8g,bR w1,bR w2];unfold aL aX;rw[z8j o.n6];rfl
def gX(ns:y')(q:Int×Int):Int:=if(ix ns q.1:Int)-ix ns q.2<0 then -((ix ns q.1:Int)-ix ns q.2)else(ix ns q.1:Int)-ix ns q.2
theorem apI_0(q:Int×Int):0<=gX ns q:=by unfold gX;split<;>lia
theorem z8k{ma mb:M Dv}{ρ:Ev}{A B:Int}(ea:ma ρ H=.ok (.int A) H)(eb:mb ρ H=.ok (.int B) H):aB (f1 pR) (aE (m2 eX ma mb)) ρ H=.ok (.int (if A-B<0 then -(A-B)else A-B)) H:=by have hs:eX (.int A) (.int B) H=.ok (.int (A-B)) H:=rfl;have e:=eK ea eb hs;generalize A-B=C at e;generalize m2 eX ma mb=M at e;simp[aB,aR,e,aQ,f1,pR]
theorem z8l{a:Nat}{m0 m1:M Dv}{ρ:Ev}{q:Int×Int}(h1:aA a ρ=λH=>.ok (.tup (ns.map Fx)) H)(e0:m0 ρ H=.ok (.int q.1) H)(e1:m1 ρ H=.ok (.int q.2) H)(k0:q.1∈ns)(k1:q.2∈ns):aB (f1 pR) (aE (m2 eX (lZ (aA a) m0) (lZ (aA a) m1))) ρ H=.ok (.int (gX ns q)) H:=z8k (yB h1 e0 k0) (yB h1 e1 k1)
theorem z8m{q:Int×Int}(k0:q.1∈ns)(k1:q.2∈ns):mF [.tup (ns.map Fx),aN q] H=.ok (.int (gX ns q)) H:=by have e:=z8l (H:=H) (ns:=ns) (a:=0) (m0:=m2 aO (aA 1) (aF 0)) (m1:=m2 aO (aA 1) (aF 1)) (ρ:=[some (.tup (ns.map Fx)),some (aN q)]) (q:=q) rfl rfl rfl k0 k1;show bN (nG [some (.tup (ns.map Fx)),some (aN q)] H)=_;unfold nG aL;rw[e];rfl
def iN(n:Nat)(ps:dn)(ns:y'):Int:=if(cO n ps).map (gX ns)=[]then 0 else cY ((cO n ps).map (gX ns))
def yC:M Az:=bA (aY bQ (aA 1)) [none,some 0] (aD 0) bK (aU (aB mF (aJ (aA 1) (aA 0))))
theorem z8n:nI=aL (m1 (rV 0) (aX yC)):=rfl
theorem z8o{F:Ay}{a b v:Dv}{x y:Nat}{ρ:Ev}(ha:aA x ρ=λH=>.ok a H)(hb:aA y ρ=λH=>.ok b H)(e:F [a,b] H=.ok v H):aB F (aJ (aA x) (aA y)) ρ H=.ok v H:=by simp[aB,aR,ha,hb,aQ,e]
theorem z8p{i:Nat}(g:getL H i=some ((cO n ps).map aN))(hn:n<=6)(hm:∀x:Int,0<=x->x<n->x∈ns):yC [some (.tup (ns.map Fx)),some (.ref i)] H=.ok (((cO n ps).map (gX ns)).map Fx) H:=by have w:yC [some (.tup (ns.map Fx)),some (.ref i)] H=.ok ((cO n ps).filterMap λq=>some (.int (gX ns q))) H:=jK (cO n ps) (λq=>some (.int (gX ns q))) (λρ=>∃a,ρ=[a,some (.tup (ns.map Fx))]) (src:=cI i ((cO n ps).map aN).length) (by simp[aY,aA,bQ,g]) (by simp[cI]) ⟨_,rfl⟩ (by simp[cI,g]) (λk hk ρ⟨a,e⟩=>by subst e;refine⟨aN (cO n ps)[k],[some (aN (cO n ps)[k]),some (.tup (ns.map Fx))],by simp[cI,g,hk],rfl,⟨_,rfl⟩,rfl,?_⟩;have r:=Br.mp (gu hk);exact z8o rfl rfl (z8m (hm _ r.1 (by lia)) (hm _ (by lia) (by lia)))) (by have:=JA (ps:=ps) hn;lia);rw[w,ib];simp[km]
theorem ga_ok{i:Nat}(g:getL H i=some ((cO n ps).map aN))(hn:n<=6)(hm:∀x:Int,0<=x->x<n->x∈ns):∃H',mG [.tup (ns.map Fx),.ref i] H=.ok (.int (iN n ps ns)) H'/\Fr [] H H':=by
 have e:=z8p (H:=H) g hn hm;have ea:aX yC [some (.tup (ns.map Fx)),some (.ref i)] H=.ok (.ref H.length) (H++[.lst (((cO n ps).map (gX ns)).map Fx)]):=by unfold aX;rw[e];rfl
 have g2:getL (H++[Fy (((cO n ps).map (gX ns)).map Fx)]) H.length=some (((cO n ps).map (gX ns)).map Fx):=Cod.last_get;have f:Fr [] H (H++[Fy (((cO n ps).map (gX ns)).map Fx)]):=Fz;unfold iN;generalize (cO n ps).map (gX ns)=L at ea g2 f;generalize H++[Fy (L.map Fx)]=H1 at ea g2 f;refine⟨H1,?_,f⟩;show bN (nI [some (.tup (ns.map Fx)),some (.ref i)] H)=_;rw[z8n];generalize aX yC=M at ea;generalize ns.map Fx=ys at ea;simp[aL,m1,ea,rV,g2,sE,bN]
end
section
variable{n:Nat}{ps:dn}{H:Hs}{ns:y'}
theorem max0{L:y'}(h:∀x∈L,0<=x):cY (0::L)=if L=[]then 0 else cY L:=by
 have m1:=L2.Mr.maxI_is (ns:=0::L) (by simp)
 by_cases c:L=[]
 ·subst c;rfl
 ·rw[if_neg c];have m2:=L2.Mr.maxI_is c;have a:cY L<=cY (0::L):=m1.2 _ (av _ m2.1);have b:cY (0::L)<=cY L:=by
   rcases aw.mp m1.1 with z|z
   ·rw[z];exact h _ m2.1
   ·exact m2.2 _ z
  lia
end
theorem SU{α:Type}{p q:α->Bool}:∀{l:List α},(∀x∈l,p x=true->q x=true)->(∃a∈l,q a=true/\p a=false)->(l.filter p).length<(l.filter q).length
 |[],_,⟨_,h,_⟩=>nomatch h
 |x::l,h,⟨a,ha,hq,hp⟩=>by
  have le:(l.filter p).length<=(l.filter q).length:=by
   clear hq hp ha
   have h':∀x∈l,p x=true->q x=true:=λy hy=>h y (av _ hy)
   clear h
   induction l with
   |nil=>exact aq _
   |cons y l ih=>
    have i:=ih λz hz=>h' z (av _ hz);have hy:=h' y (bf ..);rw[gw,gw]
    cases c:p y with
    |true=>rw[hy c];simpa using i
    |false=>
     cases c2:q y with
     |true=>simp;lia
     |false=>simpa using i
  rw[gw,gw]
  rcases aw.mp ha with rfl|ha
  ·rw[hq,hp];simp;lia
  ·have i:=SU (l:=l) (λy hy=>h y (av _ hy)) ⟨a,ha,hq,hp⟩;have hx:=h x (bf ..)
   cases c:p x with
   |true=>rw[hx c];simpa using i
   |false=>
    cases c2:q x with
    |true=>simp;lia
    |false=>simpa using i
section
variable{n st:Nat}{ps:dn}{H:Hs}{xs:y'}
theorem JC(o:Bg n ps){left:y'}:∀(m:Nat)(x:Int),x∈left->(left.filter λa=>decide ((a,x)∈ps)).length<=m->∃z∈left,∀a∈left,(a,z)∉ps
 |m,x,hx,hm=>by
  by_cases c:∃a∈left,(a,x)∈ps
  ·obtain⟨a,ha,hp⟩:=c;have lt:=SU (l:=left) (p:=λb=>decide ((b,a)∈ps)) (q:=λb=>decide ((b,x)∈ps)) (λb _ hb=>by simp only[decide_eq_true_eq]at hb⊢;exact o.tr _ hb _ hp rfl) ⟨a,ha,by simpa using hp,by simp;exact λz=>o.irr _ z rfl⟩
   match m,hm with
   |0,hm=>lia
   |m+1,hm=>exact JC o m a ha (by lia)
  ·exact⟨x,hx,λa ha hp=>c ⟨a,ha,hp⟩⟩
def iY(n:Nat)(xs:y'):y':=(bJ n).filter λx=>!decide (x∈xs)
end
open L2.Mr.Cod (last_get pG)
end L2.Mr.K05
namespace L2.Mr.Sam
open L2.Mr.Gen
open L2.Mr.Com
end L2.Mr.Sam
namespace L2.Mr.K04
open L2.Mr.Gen
open L2.Mr.Com
open L2.Mr.Sam
open L2.Mr.Cod (last_get pG)
open L2.Mr.K05 (ix iY nV yA mI Cj uN qL yB)
abbrev bS(r:y'):Dv:=.tup (r.map Fx)
def ext(n:Nat)(rs:wo):wo:=rs.flatMap λr=>(iY n r).map λx=>r++[x]
def jL(n:Nat):Nat->wo
 |0=>[[]]
 |k+1=>ext n (jL n k)
def wt(ps:dn)(r:y'):y':=(ps.filter λq=>!decide (q.1∈r)).map λq=>q.2
def iO(n:Nat)(ps:dn)(r:y'):y':=(bJ n).filter λx=>!decide (x∈r)&&!decide (x∈wt ps r)
def mJ(n:Nat)(ps:dn)(rs:wo):wo:=rs.flatMap λr=>(iO n ps r).map λx=>r++[x]
def gA(n:Nat)(ps:dn):Nat->wo
 |0=>[[]]
 |k+1=>mJ n ps (gA n ps k)
def kH(ps:dn)(r:y'):Bool:=ps.all λq=>!decide (q.2∈r)||(decide (q.1∈r)&&decide (ix r q.1<ix r q.2))
section
variable{n:Nat}{ps:dn}{r:y'}
theorem Cs:kH ps r=true↔∀q∈ps,q.2∈r->q.1∈r/\ix r q.1<ix r q.2:=by
 unfold kH;rw[fg];refine forall_congr' λq=>forall_congr' λ_=>?_
 by_cases h:q.2∈r<;>simp[h]
theorem Fj{x:Int}:x∈wt ps r↔∃q∈ps,q.1∉r/\q.2=x:=by simp only[wt,br,gi,wb,decide_eq_false_iff_not,and_assoc]
theorem SV(o:Bg n ps){x:Int}(hx:x∉r):kH ps (r++[x])=(kH ps r&&!decide (x∈wt ps r)):=by
 rw[gq,cu,Cs,Cs,wb,decide_eq_false_iff_not,Fj];constructor
 ·intro h;refine⟨λq hq h2=>?_,?_⟩
  ·obtain⟨a,b⟩:=h q hq (gb _ h2);rw[nV h2]at b;have l2:=mI h2
   rcases cz.mp a with a|a
   ·rw[nV a]at b;exact⟨a,b⟩
   ·simp only[cc]at a;rw[a,yA hx]at b;lia
  ·rintro ⟨q,hq,h1,h2⟩
   obtain⟨a,_⟩:=h q hq (by rw[h2];simp)
   rcases cz.mp a with a|a
   ·exact h1 a
   ·simp only[cc]at a;exact o.irr q hq (a.trans h2.symm)
 ·rintro ⟨h,hw⟩ q hq h2
  rcases cz.mp h2 with h2|h2
  ·obtain⟨a,b⟩:=h q hq h2;exact⟨gb _ a,by rw[nV a,nV h2];exact b⟩
  ·simp only[cc]at h2;have a:q.1∈r:=wy λh1=>hw ⟨q,hq,h1,h2⟩;exact⟨gb _ a,by rw[nV a,h2,yA hx];exact mI a⟩
theorem z8q(o:Bg n ps):((iY n r).map λx=>r++[x]).filter (kH ps)=if kH ps r then(iO n ps r).map λx=>r++[x]else[]:=by
 rw[List.filter_map];unfold iY iO;rw[List.filter_filter]
 cases c:kH ps r with
 |true=>
  rw[if_pos rfl]
  congr 1
  refine List.filter_congr λx _=>?_
  by_cases hx:x∈r
  ·simp[hx]
  ·simp[hx,SV o hx,c]
 |false=>
  rw[if_neg (by decide)];have:((bJ n).filter λx=>(kH ps∘λx=>r++[x]) x&&!decide (x∈r))=[]:=zi.mpr λx _=>by
   by_cases hx:x∈r
   ·simp[hx]
   ·simp[hx,SV o hx,c]
  rw[this];rfl
theorem z8r(o:Bg n ps)(rs:wo):(ext n rs).filter (kH ps)=mJ n ps (rs.filter (kH ps)):=by
 induction rs with
 |nil=>rfl
 |cons r rs ih=>
  have h1:ext n (r::rs)=((iY n r).map λx=>r++[x])++ext n rs:=rfl;rw[h1,List.filter_append,ih,z8q o,gw]
  cases kH ps r with
  |true=>rfl
  |false=>rfl
theorem sF(o:Bg n ps):∀k,gA n ps k=(jL n k).filter (kH ps)
 |0=>by
  have:kH ps []=true:=Cs.mpr λq _ h=>by simp at h
  simp[gA,jL,this]
 |k+1=>by show mJ n ps (gA n ps k)=(ext n (jL n k)).filter (kH ps);rw[sF o k,z8r o]
theorem Ci{x:Int}:x∈iY n r↔(0<=x/\x<n)/\x∉r:=by unfold iY;rw[gi,Cj];simp
theorem uO:∀k,∀r∈jL n k,r.length=k/\r.Nodup/\∀x∈r,0<=x/\x<n
 |0,r,h=>by simp[jL]at h;subst h;simp
 |k+1,r,h=>by
  simp only[jL,ext,jf,br]at h;obtain⟨s,hs,x,hx,rfl⟩:=h;obtain⟨a,b,c⟩:=uO k s hs;rw[Ci]at hx;refine⟨by simp[a],?_,λy hy=>?_⟩
  ·rw[List.nodup_append];exact⟨b,by simp,λu hu v hv=>by simp only[cc]at hv;subst hv;intro e;exact hx.2 (e▸hu)⟩
  ·rcases cz.mp hy with hy|hy
   ·exact c y hy
   ·simp only[cc]at hy;subst hy;exact hx.1
theorem z8s(hn:n<=6):(iY n r).length<=6:=by
 have:=ug (λx=>!decide (x∈r)) (bJ n);simp[bJ]at this;unfold iY;simp[bJ]
 lia
theorem z8t(hn:n<=6)(rs:wo):(ext n rs).length<=rs.length*6:=by
 induction rs with
 |nil=>simp[ext]
 |cons r rs ih=>
  have h1:ext n (r::rs)=((iY n r).map λx=>r++[x])++ext n rs:=rfl;have:=z8s (n:=n) (r:=r) hn;rw[h1,cf,ax,bu]
  lia
theorem SW(hn:n<=6):∀k,(jL n k).length<=6^k
 |0=>by simp[jL]
 |k+1=>by have h1:=z8t hn (jL n k);have h2:=SW hn k;show(ext n (jL n k)).length<=_;rw[Nat.pow_succ];lia
theorem z8u(hn:n<=6){k:Nat}(hk:k<=n):(jL n k).length<=46656:=dh (SW hn k) (show 6^k<=6^6 from Ap (by decide) (by lia))
theorem yD(o:Bg n ps){k:Nat}(hk:k<=n):(gA n ps k).length<=46656:=by rw[sF o];exact dh (ug _ _) (z8u o.n6 hk)
theorem JD(o:Bg n ps){k:Nat}(h:r∈gA n ps k):r.length=k:=by rw[sF o]at h;exact(uO k r (gi.mp h).1).1
end
abbrev CQ:M Az:=bA (aY fP (aA 3)) [none,none,some 1] (cV 2 (aW (aD 0) (aW (aD 1) cW))) (mB (m2 (cN true) (aA 0) (aA 2))) (aU (aA 1))
abbrev JE:M Az:=bA (aM bT (aE (aA 2))) [none,some 1,some 4] (aD 0) (iR (mB (m2 (cN true) (aA 0) (aA 1))) (mB (m2 (cN true) (aA 0) (aA 2)))) (aU (aA 0))
theorem z8v:nJ=aH (aK (aA 0) (cV 2 (aW (aD 2) (aW (aD 3) cW)))) (aH (aK (aX CQ) (aD 4)) (aL (aX JE))):=rfl
section
variable{n st:Nat}{ps:dn}{H:Hs}{ρ:Ev}{r:y'}
theorem z8w(o:Bg n ps){x0 x2 x4:A'}:CQ [x0,some (bS r),x2,some (.tup (ps.map aN)),x4] H=.ok ((wt ps r).map Fx) H:=by
 have w:CQ [x0,some (bS r),x2,some (.tup (ps.map aN)),x4] H=.ok (ps.filterMap λq=>if !decide (q.1∈r)then some ((λq:Int×Int=>Fx q.2) q)else none) H:=
  jK ps _ (λρ=>∃a b,ρ=[a,b,some (bS r)]) (src:=eC (ps.map aN)) rfl (by simp[eC]) ⟨_,_,rfl⟩ rfl (λk hk ρ⟨a,b,e⟩=>by
   subst e;refine⟨aN ps[k],[some (.int ps[k].1),some (.int ps[k].2),some (bS r)],by simp[eC,hk],rfl,⟨_,_,rfl⟩,?_⟩;have t2:cN true (.int ps[k].1) (bS r) H=.ok (.bl (!decide (ps[k].1∈r))) H:=N6 true H ps[k].1 r;generalize bS r=ys at t2⊢
   cases c2:!decide (ps[k].1∈r)with
   |true=>rw[c2]at t2;simp[mB,m2,aA,t2,dZ]
   |false=>rw[c2]at t2;simp[mB,m2,aA,t2,dZ]) (by have:=o.len;lia)
 have:=w.trans (congrArg (λl=>Gp l _) (xY _ _ _));unfold wt;rw[ib];exact this
theorem z8x(hn:n<=6){x0 x3:A'}{i:Nat}{ws:y'}(g:getL H i=some (ws.map Fx)):JE [x0,some (bS r),some (.int n),x3,some (.ref i)] H=.ok (((bJ n).filter λx=>!decide (x∈r)&&!decide (x∈ws)).map Fx) H:=by
 have w:JE [x0,some (bS r),some (.int n),x3,some (.ref i)] H=.ok ((bJ n).filterMap λx=>if(!decide (x∈r)&&!decide (x∈ws))then some (Fx x)else none) H:=
  jK (bJ n) _ (λρ=>∃a,ρ=[a,some (bS r),some (.ref i)]) (src:=bZ 0 n) (qK (m:=aA 2) rfl (by lia) (by lia)) (by simp[bZ,bJ]) ⟨_,rfl⟩ rfl (λk hk ρ⟨a,e1⟩=>by
   subst e1;have gk:(bJ n)[k]=(k:Int):=by simp[bJ]
   refine⟨.int (0+k),[some (.int (0+k)),some (bS r),some (.ref i)],rfl,rfl,⟨_,rfl⟩,?_⟩;have h00:(0+(k:Int))=(k:Int):=by lia
   rw[gk,h00];have t1:cN true (.int k) (bS r) H=.ok (.bl (!decide ((k:Int)∈r))) H:=N6 true H (k:Int) r;have t2:cN true (.int k) (.ref i) H=.ok (.bl (!decide ((k:Int)∈ws))) H:=SH true (k:Int) g;generalize bS r=ys at t1⊢
   cases c1:!decide ((k:Int)∈r)with
   |false=>rw[c1]at t1;simp[iR,mB,m2,aA,t1,dZ]
   |true=>
    rw[c1]at t1
    cases c2:!decide ((k:Int)∈ws)with
    |true=>rw[c2]at t2;simp[iR,mB,m2,aA,t1,t2,dZ]
    |false=>rw[c2]at t2;simp[iR,mB,m2,aA,t1,t2,dZ]) (by simp[bJ];lia)
 exact w.trans (congrArg (λl=>Gp l _) (xY _ _ _))
theorem yE{C:M Az}{xs:Az}{H1:Hs}(e:C ρ H=.ok xs H1):aX C ρ H=.ok (.ref H1.length) (H1++[.lst xs]):=by unfold aX;rw[e];rfl
theorem yF{C:M Az}{xs:Az}{H1:Hs}(e:C ρ H=.ok xs H1):bN (aL (aX C) ρ H)=.ok (.ref H1.length) (H1++[.lst xs]):=by unfold aL;rw[yE e];rfl
theorem z8y(o:Bg n ps):∃i H',lM [aG n ps,bS r] H=.ok (.ref i) H'/\getL H' i=some ((iO n ps r).map Fx)/\Fr [] H H':=by
 have e1:=z8w (H:=H) (r:=r) (x0:=some (aG n ps)) (x2:=some (.int n)) (x4:=none) o;obtain⟨H1,hH1⟩:∃H1,H1=H++[Fy ((wt ps r).map Fx)]:=⟨_,rfl⟩
 have g1:getL H1 H.length=some ((wt ps r).map Fx):=by rw[hH1];exact last_get
 have f1:Fr [] H H1:=by rw[hH1];exact Fz
 have e2:=z8x (n:=n) (r:=r) (x0:=some (aG n ps)) (x3:=some (.tup (ps.map aN))) o.n6 g1;rw[show((bJ n).filter λx=>!decide (x∈r)&&!decide (x∈wt ps r))=iO n ps r from rfl]at e2;refine⟨H1.length,H1++[Fy ((iO n ps r).map Fx)],?_,last_get,f1.trans (T:=[]) Fz (by simp)⟩;have w1:aK (aA 0) (cV 2 (aW (aD 2) (aW (aD 3) cW))) [some (aG n ps),some (bS r),none,none,none] H=.nx [some (aG n ps),some (bS r),some (.int n),some (.tup (ps.map aN)),none] H:=rfl;have w2:aK (aX CQ) (aD 4) [some (aG n ps),some (bS r),some (.int n),some (.tup (ps.map aN)),none] H=.nx [some (aG n ps),some (bS r),some (.int n),some (.tup (ps.map aN)),some (.ref H.length)] H1:=by rw[hH1];exact CN e1 rfl
 show bN (nJ [some (aG n ps),some (bS r),none,none,none] H)=_;rw[z8v,bR w1,bR w2];exact yF e2
abbrev CS:MC:=dF (aY bQ (aB lM (aJ (aA 2) (aA 0)))) (aD 1) bK (aU (m2 cD (aA 0) (bH (aE (aA 1)))))
abbrev JF:M Az:=bA (aY bQ (aA 1)) [none,none,some 0] (aD 0) bK CS
theorem z8z:nK=aH (bV (aB eJ (aE (aA 0)))) (aH (aK (bY (aE (bH aQ))) (aD 1)) (aH (eW (aM bT (aE (m2 aO (aA 0) (aF 0)))) (aD 2) (aK (aX JF) (aD 1))) (aL (aA 1)))):=rfl
theorem z90{i j:Nat}{x:Int}(hr:r.length<=100)(h0:aA i ρ=λH=>.ok (bS r) H)(h1:aA j ρ=λH=>.ok (.int x) H):m2 cD (aA i) (bH (aE (aA j))) ρ H=.ok (bS (r++[x])) H:=by
 have e2:bH (aE (aA j)) ρ H=.ok (.tup [.int x]) H:=by simp[bH,aR,h1,aQ,lim]
 have a:=z86 (r.map Fx) [.int x] (by simp;lia) (H:=H);have e3:=eK (ma:=aA i) (H1:=H) (x:=bS r) (by rw[h0]) e2 a;have hc:r.map Fx++[.int x]=(r++[x]).map Fx:=by simp
 rw[hc]at e3;exact e3
theorem z91{F:Ay}{a b:Dv}{x y i:Nat}{H1:Hs}{xs:Az}(ha:aA x ρ=λH=>.ok a H)(hb:aA y ρ=λH=>.ok b H)(e:F [a,b] H=.ok (.ref i) H1)(g:getL H1 i=some xs):aY bQ (aB F (aJ (aA x) (aA y))) ρ H=.ok (cI i xs.length) H1:=by simp[aY,aB,aR,ha,hb,aQ,e,bQ,g]
theorem z92(o:Bg n ps)(hr:r.length<=100){b:A'}{acc:Az}(hl:acc.length+((iO n ps r).map λx=>bS (r++[x])).length<=900000):∃b' H',CS [some (bS r),b,some (aG n ps)] H acc=.ok ([some (bS r),b',some (aG n ps)],acc++(iO n ps r).map λx=>bS (r++[x])) H'/\Fr [] H H':=by
 obtain⟨i,H1,e1,g1,f1⟩:=z8y (H:=H) (r:=r) o;have fm:∀l:y',(l.flatMap λx=>[bS (r++[x])])=l.map λx=>bS (r++[x]):=λl=>by
  induction l with
  |nil=>rfl
  |cons x l ih=>rw[dq,ih];rfl
 have es:=z91 (F:=lM) (ρ:=[some (bS r),b,some (aG n ps)]) (x:=2) (y:=0) rfl rfl e1 g1;obtain⟨ρ',H',e,⟨b',eb⟩,eh⟩:=uF (src:=cI i ((iO n ps r).map Fx).length) (sg:=aD 1) (t:=bK) (m:=aU (m2 cD (aA 0) (bH (aE (aA 1))))) (iO n ps r) (λx=>[bS (r++[x])]) (λρ h=>(∃b,ρ=[some (bS r),b,some (aG n ps)])/\h=H1)
  (λρ h s=>by rw[s.2];simp[cI,g1])
  (λk hk ρ h⟨⟨b,e⟩,eh⟩=>by subst e;subst eh;refine⟨.int (iO n ps r)[k],[some (bS r),some (.int (iO n ps r)[k]),some (aG n ps)],by simp[cI,g1,hk],rfl,.inr ⟨_,rfl,λacc hl=>⟨_,_,uH (z90 (i:=0) (j:=1) hr rfl rfl) hl,⟨_,rfl⟩,rfl⟩⟩⟩)
  (iO n ps r).length 0 [some (bS r),b,some (aG n ps)] H1 acc (by lia) ⟨⟨_,rfl⟩,rfl⟩ (by rw[uq,fm];exact hl)
 subst eb;subst eh;rw[uq,fm]at e;refine⟨b',H',?_,f1⟩;unfold CS dF;rw[es];dsimp only;rw[ax]at e⊢;exact e
theorem SX(rs:wo):(rs.flatMap λr=>(iO n ps r).map λx=>bS (r++[x]))=(mJ n ps rs).map bS:=by
 induction rs with
 |nil=>rfl
 |cons r rs ih=>have h1:mJ n ps (r::rs)=((iO n ps r).map λx=>r++[x])++mJ n ps rs:=rfl;rw[dq,ih,h1,fq,ib];rfl
theorem z93(o:Bg n ps){x2:A'}{i:Nat}{rs:wo}(g:getL H i=some (rs.map bS))(hr:∀r∈rs,r.length<=100)(hl:(mJ n ps rs).length<=900000):∃H',JF [some (aG n ps),some (.ref i),x2] H=.ok ((mJ n ps rs).map bS) H'/\Fr [] H H':=by
 obtain⟨ρ',H',h,_,f⟩:=uG (mi:=aY bQ (aA 1)) (cap:=[none,none,some 0]) (src:=cI i (rs.map bS).length) (sg:=aD 0) (t:=bK) (m:=CS) (ρ:=[some (aG n ps),some (.ref i),x2]) (H:=H) (H1:=H) rs (λr=>(iO n ps r).map λx=>bS (r++[x])) (λρ Hx=>(∃a b,ρ=[a,b,some (aG n ps)])/\Fr [] H Hx) (by simp[aY,aA,bQ,g]) (by simp[cI]) ⟨⟨_,_,rfl⟩,Gd⟩ (λρ Hx s=>by have gx:=s.2.getL g (by simp);simp[cI,gx])
  (λk hk ρ Hx⟨⟨a,b,e⟩,f⟩=>by subst e;have gx:=f.getL g (by simp);refine⟨bS rs[k],[some (bS rs[k]),b,some (aG n ps)],by simp[cI,gx,hk],rfl,.inr ⟨Hx,rfl,λacc hl=>?_⟩⟩;obtain⟨b',Hy,ea,fa⟩:=z92 (H:=Hx) (b:=b) o (hr _ (gu hk)) hl;exact⟨_,Hy,ea,⟨_,_,rfl⟩,f.trans fa (by simp)⟩) (by rw[SX,ax];exact hl)
 exact⟨H',by rw[<-SX];exact h,f⟩
theorem all_ok(o:Bg n ps):∃i H',kS [aG n ps] H=.ok (.ref i) H'/\getL H' i=some ((gA n ps n).map bS)/\Fr [] H H'/\H.length<=i:=by
 have n6:=o.n6;have w0:bV (aB eJ (aE (aA 0))) [some (aG n ps),none,none] H=.nx [some (aG n ps),none,none] H:=by have e:eJ [aG n ps] H=.ok .non H:=Cod.need_ok o;generalize eJ=F at e;generalize aG n ps=z at e;simp[bV,aB,aR,aA,aQ,e]
 have w1:aK (bY (aE (bH aQ))) (aD 1) [some (aG n ps),none,none] H=.nx [some (aG n ps),some (.ref H.length),none] (H++[.lst [bS []]]):=rfl;have hi:aM bT (aE (m2 aO (aA 0) (aF 0))) [some (aG n ps),some (.ref H.length),none] (H++[.lst [bS []]])=.ok (bZ 0 n) (H++[.lst [bS []]]):=qK (L:=n) rfl (by lia) (by lia);have hN:(bZ 0 (n:Int)).n=n:=by simp[bZ]
 obtain⟨ρ',H',h1,i,y2,h2,h3,h4,h5⟩:=wG (b:=aK (aX JF) (aD 1)) (sg:=aD 2) hi
  (λk ρ H'=>∃(i:Nat)(y2:A'),ρ=[some (aG n ps),some (.ref i),y2]/\getL H' i=some ((gA n ps k).map bS)/\Fr [] H H'/\H.length<=i)
  (λk ρ H' hk⟨i,y2,e1,e2,e3,e4⟩=>by subst e1;rw[hN]at hk;have hl:(gA n ps (k+1)).length<=46656:=yD o (by lia);obtain⟨H2,b1,b2⟩:=z93 (H:=H') (x2:=some (.int (0+(k:Int)))) o e2 (λr hr=>by rw[JD o hr];lia) (show(gA n ps (k+1)).length<=900000 by lia);have f:=e3.trans b2 (T:=[]) (by simp);exact⟨.int (0+(k:Int)),[some (aG n ps),some (.ref i),some (.int (0+(k:Int)))],_,_,rfl,rfl,CN b1 rfl,H2.length,_,rfl,last_get,f.trans (T:=[]) Fz (by simp),f.le⟩) (λ_ _ _=>rfl) ⟨H.length,none,rfl,last_get,Fz,aq _⟩
 rw[hN]at h3;refine⟨i,H',?_,h3,h4,h5⟩;show bN (nK [some (aG n ps),none,none] H)=_;rw[z8z,bR w0,bR w1,bR h1,h2];rfl
end
open L2.Mr.Cod (last_get)
end L2.Mr.K04
namespace L2.Mr.K06
open L2.Mr.Gen
open L2.Mr.Com
open L2.Mr.Sam
open L2.Mr.Cod (last_get cO Br)
open L2.Mr.K04 (bS gA jL sF JD yD uO iO wt mJ Fj Ci yE yF)
open L2.Mr.K05 (ix mI iY Cj uN qL iN gX apI_0 JC JA)
section
variable{n:Nat}{ps:dn}{r:y'}
theorem z94(o:Bg n ps){k:Nat}(hr:r∈gA n ps k)(hk:k<n):iO n ps r≠[]:=by
 have hl:=JD o hr;have ex:∃x,x∈iY n r:=by
  by_cases c:∃x,x∈iY n r
  ·exact c
  ·exfalso
   have sub:∀x∈bJ n,x∈r:=λx hx=>by
    by_cases d:x∈r
    ·exact d
    ·exact absurd ⟨x,gi.mpr ⟨hx,by simpa using d⟩⟩ c
   have:=(uN (n:=n)).length_le_of_subset sub;simp[bJ]at this
   lia
 obtain⟨x0,hx0⟩:=ex;obtain⟨z,hz,hmin⟩:=JC o (left:=iY n r) _ x0 hx0 (aq _);have hz':=Ci.mp hz;refine List.ne_nil_of_mem (a:=z) (gi.mpr ⟨Cj.mpr hz'.1,?_⟩);have hw:z∉wt ps r:=λh=>by obtain⟨q,hq,h1,h2⟩:=Fj.mp h;have rg:=o.rng q hq;exact hmin q.1 (Ci.mpr ⟨⟨rg.1,rg.2.1⟩,h1⟩) (by rw[<-h2];exact hq)
 simp[hz'.2,hw]
theorem SY(o:Bg n ps):∀k,k<=n->gA n ps k≠[]
 |0,_=>by simp[gA]
 |k+1,h=>by obtain⟨r,hr⟩:=yt _ (SY o k (by lia));obtain⟨x,hx⟩:=yt _ (z94 o hr (by lia));exact List.ne_nil_of_mem (jf.mpr ⟨r,hr,br.mpr ⟨x,hx,rfl⟩⟩)
theorem S0(o:Bg n ps)(hr:r∈gA n ps n):∀x:Int,0<=x->x<n->x∈r:=λx h0 h1=>by rw[sF o]at hr;obtain⟨a,b,c⟩:=uO n r (gi.mp hr).1;exact qL c b a h0 h1
def pH(n:Nat)(ps:dn):y':=(gA n ps n).map (iN n ps)
theorem CT(o:Bg n ps):pH n ps≠[]:=by have:=SY o n (aq n);simpa[pH]using this
end
end L2.Mr.K06
namespace L2.Mr.Sp
open L2.Mr.Com
open L2.Mr.Cod (cO Br Lse)
open L2.Mr.K04 (gA jL ext sF uO Cs Ci)
open L2.Mr.K05 (ix mI nV iY Cj uN qL iN gX apI_0)
open L2.Mr.K06 (pH CT S0)
section
variable{n m:Nat}{ps qs:dn}{r l:y'}
theorem S1:∀(k:Nat)(r:y'),r.length=k->(∀x∈r,0<=x/\x<n)->r.Nodup->r∈jL n k
 |0,r,h,_,_=>by rw[jy.mp h];simp[jL]
 |k+1,r,h,hr,nd=>by
  have hne:r≠[]:=by rintro rfl;simp at h
  have e:=xm hne;have nd':=nd;rw[<-e]at nd';have nd2:=List.nodup_append.mp nd';have hl:r.dropLast.length=k:=by simp[h]
  have:=S1 k r.dropLast hl (λx hx=>hr x (by rw[<-e];exact gb _ hx)) nd2.1;rw[<-e];refine jf.mpr ⟨r.dropLast,this,br.mpr ⟨r.getLast hne,Ci.mpr ⟨hr _ (List.getLast_mem hne),λz=>?_⟩,rfl⟩⟩;exact nd2.2.2 _ z _ (by simp) rfl
structure Fv(n:Nat)(ps:dn)(r:y'):Prop where
 rng:∀x∈r,0<=x/\x<n
 nd:r.Nodup
 len:r.length=n
 up:∀q∈ps,ix r q.1<ix r q.2
theorem Fv.mem(h:Fv n ps r){x:Int}(h0:0<=x)(h1:x<n):x∈r:=qL h.rng h.nd h.len h0 h1
theorem z95(o:Bg n ps):r∈gA n ps n↔Fv n ps r:=by
 rw[sF o,gi];constructor
 ·rintro ⟨h,k⟩
  obtain⟨a,b,c⟩:=uO n r h;refine⟨c,b,a,λq hq=>?_⟩;have g:=o.rng q hq;exact(Cs.mp k q hq (qL c b a g.2.2.1 g.2.2.2)).2
 ·intro h;refine⟨S1 n r h.len h.rng h.nd,Cs.mpr λq hq _=>?_⟩;have g:=o.rng q hq;exact⟨h.mem g.1 g.2.1,h.up q hq⟩
abbrev pI(n:Nat)(ps:dn):Int:=hJ (pH n ps)
theorem least_at(o:Bg n ps):∃r,Fv n ps r/\iN n ps r=pI n ps:=by obtain⟨r,hr,e⟩:=br.mp (L2.Mr.minI_is (CT o)).1;exact⟨r,(z95 o).mp hr,e⟩
end
end L2.Mr.Sp
namespace L2.Mr.K03
open L2.Mr.Com
open L2.Mr.Sam
open L2.Mr.Gen
open L2.Mr.Cod (cO kE jW Br Lse last_get pG)
end L2.Mr.K03
namespace L2.Mr.K81
open L2.Mr.Com
end L2.Mr.K81
namespace L2.Mr.Sp
open L2.Mr.Com
open L2.Mr.Cod (cO Br Lse)
open L2.Mr.K05 (ix mI nV iN gX apI_0)
open L2.Mr.K06 (pH CT)
end L2.Mr.Sp
namespace L2.Mr.K06
open L2.Mr.Gen
open L2.Mr.Com
open L2.Mr.Sam
open L2.Mr.Cod (last_get cO)
open L2.Mr.K04 (bS gA yD yE yF)
open L2.Mr.K05 (iN)
section
variable{n:Nat}{ps:dn}{r:y'}{H:Hs}{ρ:Ev}
theorem call1{F:Ay}{a v:Dv}{x:Nat}{H':Hs}(ha:aA x ρ=λH=>.ok a H)(e:F [a] H=.ok v H'):aB F (aE (aA x)) ρ H=.ok v H':=by simp[aB,aR,ha,aQ,e]
theorem S3{F:Ay}{m:M Dv}{a v:Dv}{H1 H':Hs}(ha:m ρ H=.ok a H1)(e:F [a] H1=.ok v H'):aB F (aE m) ρ H=.ok v H':=by simp[aB,aR,ha,aQ,e]
theorem S4{F:Ay}{a:Dv}{x i:Nat}{H1:Hs}{xs:Az}(ha:aA x ρ=λH=>.ok a H)(e:F [a] H=.ok (.ref i) H1)(g:getL H1 i=some xs):aY bQ (aB F (aE (aA x))) ρ H=.ok (cI i xs.length) H1:=by simp[aY,aB,aR,ha,aQ,e,bQ,g]
theorem all_ok(o:Bg n ps):∃i H',kS [aG n ps] H=.ok (.ref i) H'/\getL H' i=some ((gA n ps n).map bS)/\Fr [] H H'/\H.length<=i:=K04.all_ok o
theorem lpairs_ok(o:Bg n ps):iL [aG n ps] H=.ok (.ref H.length) (H++[.lst ((cO n ps).map aN)]):=K05.lpairs_ok o
theorem ga_ok{i:Nat}(g:getL H i=some ((cO n ps).map aN))(hn:n<=6)(hm:∀x:Int,0<=x->x<n->x∈r):∃H',mG [bS r,.ref i] H=.ok (.int (iN n ps r)) H'/\Fr [] H H':=K05.ga_ok g hn hm
abbrev uP(n:Nat)(ps:dn)(r:y'):Dv:=.tup [bS r,.int (iN n ps r)]
abbrev JG:M Dv:=bH (aJ (aA 0) (aB mG (aJ (aA 0) (aA 1))))
abbrev rwC:M Az:=bA (aY bQ (aB kS (aE (aA 0)))) [none,some 1] (aD 0) bK (aU JG)
theorem z96:qH=aH (aK (aB iL (aE (aA 0))) (aD 1)) (aL (aX rwC)):=rfl
theorem S5{α:Type}(f:α->Dv)(l:List α):(l.flatMap λx=>[f x])=l.map f:=by
 induction l with
 |nil=>rfl
 |cons x l ih=>rw[dq,ih];rfl
theorem z97(o:Bg n ps):∃i H',nM [aG n ps] H=.ok (.ref i) H'/\getL H' i=some ((gA n ps n).map (uP n ps))/\Fr [] H H'/\H.length<=i:=by
 have e1:=lpairs_ok (H:=H) o;obtain⟨H1,hH1⟩:∃H1,H1=H++[Fy ((cO n ps).map aN)]:=⟨_,rfl⟩
 have f1':Fr [] H H1:=by rw[hH1];exact Fz
 have g1:getL H1 H.length=some ((cO n ps).map aN):=by rw[hH1];exact last_get
 rw[<-hH1]at e1;have w1:aK (aB iL (aE (aA 0))) (aD 1) [some (aG n ps),none] H=.nx [some (aG n ps),some (.ref H.length)] H1:=xZ (call1 (F:=iL) rfl e1) rfl;obtain⟨i,H2,e2,g2,f2,l2⟩:=all_ok (H:=H1) o;have hl:=yD o (aq n);have hf:=λr(h:r∈gA n ps n)=>S0 o h;have es:=S4 (F:=kS) (ρ:=[some (aG n ps),some (.ref H.length)]) (x:=0) rfl e2 g2;have gp:=f2.getL g1 (by simp);obtain⟨p,hp⟩:∃p,p=H.length:=⟨_,rfl⟩
 rw[<-hp]at w1 gp es;generalize gA n ps n=R at g2 hl hf es;obtain⟨ρ',H3,h,_,f3⟩:=uG (mi:=aY bQ (aB kS (aE (aA 0)))) (cap:=[none,some 1]) (src:=cI i (R.map bS).length) (sg:=aD 0) (t:=bK) (m:=aU JG) (ρ:=[some (aG n ps),some (.ref p)]) (H:=H1) (H1:=H2) R (λr=>[uP n ps r]) (λρ Hx=>(∃a,ρ=[a,some (.ref p)])/\Fr [] H2 Hx) es (by simp[cI]) ⟨⟨_,rfl⟩,Gd⟩ (λρ Hx s=>by have gx:=s.2.getL g2 (by simp);simp[cI,gx])
  (λk hk ρ Hx⟨⟨a,e⟩,f⟩=>by subst e;have gx:=f.getL g2 (by simp);obtain⟨Hy,ey,fy⟩:=ga_ok (r:=R[k]) (f.getL gp (by simp)) o.n6 (hf _ (gu hk));refine⟨bS R[k],[some (bS R[k]),some (.ref p)],by simp[cI,gx,hk],rfl,.inr ⟨Hx,rfl,λacc hl=>⟨_,Hy,uH ?_ hl,⟨_,rfl⟩,f.trans fy (by simp)⟩⟩⟩;simp[JG,bH,aR,aA,aB,aQ,ey,lim]) (by rw[S5,ax];lia)
 rw[S5]at h;refine⟨H3.length,H3++[.lst (R.map (uP n ps))],?_,last_get,((f1'.trans f2 (by simp)).trans f3 (by simp)).trans (T:=[]) Fz (by simp),((f1'.trans f2 (by simp)).trans (T:=[]) f3 (by simp)).le⟩;show bN (qH [some (aG n ps),none] H)=_;rw[z96,bR w1];exact yF h
abbrev JH(mi:M Src):M Az:=bA mi [none,none] (cV 2 (aW (aD 0) (aW (aD 1) cW))) bK (aU (aA 1))
theorem z98{mi:M Src}{i:Nat}{R:wo}{H1:Hs}(hi:mi ρ H=.ok (cI i (R.map (uP n ps)).length) H1)(g:getL H1 i=some (R.map (uP n ps)))(hl:R.length<=46656):JH mi ρ H=.ok ((R.map (iN n ps)).map Fx) H1:=by have w:JH mi ρ H=.ok (R.filterMap λr=>some (.int (iN n ps r))) H1:=jK R (λr=>some (.int (iN n ps r))) (λρ=>∃a b,ρ=[a,b]) hi (by simp[cI]) ⟨_,_,rfl⟩ (by simp[cI,g]) (λk hk ρ⟨a,b,e⟩=>by subst e;exact⟨uP n ps R[k],[some (bS R[k]),some (.int (iN n ps R[k]))],by simp[cI,g,hk],rfl,⟨_,_,rfl⟩,rfl,rfl⟩) (by lia);rw[w,ib];simp[km]
theorem z99{f:y'->Int}{i:Nat}{L:y'}(g:getL H i=some (L.map Fx))(h:L≠[]):f1 (fV f) [.ref i] H=.ok (.int (f L)) H:=by have hp:=nq.mpr h;simp[f1,fV,g,sE,hp]
theorem least_ok(o:Bg n ps):∃H',jV [aG n ps] H=.ok (.int (hJ (pH n ps))) H'/\Fr [] H H':=by obtain⟨i,H1,e1,g1,f1',_⟩:=z97 (H:=H) o;have hs:=yE (z98 (S4 (F:=nM) (ρ:=[some (aG n ps)]) (x:=0) rfl e1 g1) g1 (yD o (aq n)));have gl:=last_get (H:=H1) (x:=(pH n ps).map Fx);refine⟨H1++[.lst ((pH n ps).map Fx)],?_,f1'.trans (T:=[]) Fz (by simp)⟩;show bN (aL (aB (f1 (fV hJ)) (aE (aX (JH (aY bQ (aB nM (aE (aA 0)))))))) [some (aG n ps)] H)=_;unfold aL;rw[S3 hs (z99 gl (CT o))];rfl
end
end L2.Mr.K06
namespace L2.Mr.Com
end L2.Mr.Com
namespace L2.Mr.K82
open L2.Mr.Gen
open L2.Mr.Com
open L2.Mr.Cod (last_get cO)
open L2.Mr.K04 (bS yE yF)
open L2.Mr.K05 (iN)
open L2.Mr.K06 (pH call1 S3)
open L2.Mr.Sp
section
variable{n m:Nat}{ps qs:dn}{r:y'}{H:Hs}{ρ:Ev}{x:Int}
theorem need_ok(o:Bg n ps):eJ [aG n ps] H=.ok .non H:=K05.need_ok o
theorem least_ok(o:Bg n ps):∃H',jV [aG n ps] H=.ok (.int (pI n ps)) H'/\Fr [] H H':=K06.least_ok o
theorem few_ok{k:Int}(h:k<=6):jH [.int k] H=.ok .non H:=by
 have:¬(k>6):=by lia
 simp[jH,lL,aT,dJ,bP,mB,m2,aA,mC,qZ,gQ,this,dZ,cA,bN]
theorem ex1{F:Ay}{a v:Dv}{x:Nat}(ha:aA x ρ=λH=>.ok a H)(e:F [a] H=.ok v H):bV (aB F (aE (aA x))) ρ H=.nx ρ H:=by simp[bV,aB,aR,ha,aQ,e]
theorem exM{F:Ay}{m:M Dv}{a v:Dv}(ha:m ρ H=.ok a H)(e:F [a] H=.ok v H):bV (aB F (aE m)) ρ H=.nx ρ H:=by simp[bV,aB,aR,ha,aQ,e]
theorem ex2{F:Ay}{a b v:Dv}{x y:Nat}(ha:aA x ρ=λH=>.ok a H)(hb:aA y ρ=λH=>.ok b H)(e:F [a,b] H=.ok v H):bV (aB F (aJ (aA x) (aA y))) ρ H=.nx ρ H:=by simp[bV,aB,aR,ha,hb,aQ,e]
end
end L2.Mr.K82
namespace L2.Mr.K74
open L2.Mr.Gen
open L2.Mr.Cod
open L2.Mr.Com
open L2.Mr.K60 (iK kC)
open L2.Mr.K82 (jH lL)
def dI(ns:y'):y':=(ak ns.length).flatMap λi:Nat=>(ak (ns.getD i 0).toNat).map λ_=>(i:Int)
def lN(gs:y'):dn:=(ak gs.length).flatMap λa:Nat=>(ak gs.length).filterMap λb:Nat=>if gs.getD a 0<gs.getD b 0 then some ((a:Int),(b:Int))else none
def sG(gs:y'):dn:=(ak gs.length).flatMap λa:Nat=>(ak (gs.length-(a+1))).filterMap λb:Nat=>if gs.getD a 0=gs.getD (a+1+b) 0 then some ((a:Int),(a:Int)+1+b)else none
section
variable{ns gs:y'}{H:Hs}{j:Nat}
theorem JI:∀(ns:y'),(∀n∈ns,1<=n)->0<=ns.sum
 |[],h=>by simp
 |n::ns,h=>by have h1:=h n (by simp);have h2:=JI ns λm hm=>h m (by simp[hm]);simp;lia
theorem S6:∀(ns:y'),(∀n∈ns,1<=n)->∀n∈ns,n<=ns.sum
 |[],h,n,hn=>by simp at hn
 |a::ns,h,n,hn=>by
  have h1:=h a (by simp);have h2:=JI ns λm hm=>h m (by simp[hm]);have h3:=S6 ns λm hm=>h m (by simp[hm]);simp at hn⊢
  rcases hn with rfl|hn
  ·lia
  ·have:=h3 n hn;lia
theorem S7{z:Int}(h0:0<=z)(h1:z<=1000):gE z=true:=by simp[gE];lia
theorem z9a{ma mb:M Dv}{ρ:Ev}{a b:Int}(h0:ma ρ H=.ok (.int a) H)(h1:mb ρ H=.ok (.int b) H)(r1:gE a=true)(r2:gE b=true):aM iE (aJ ma mb) ρ H=.ok (bZ a b) H:=by simp[aM,aR,h0,h1,aQ,iE,r1,r2]
theorem z9b(a b:Int):(bZ a b).n=(b-a).toNat:=rfl
abbrev gC:M Az:=bA (aM nB (aE (aA 0))) [none,none,none] (cV 2 (aW (aD 0) (aW (aD 1) cW))) bK (dF (aM bT (aE (aA 1))) (aD 2) bK (aU (aA 0)))
theorem sH{α β γ:Type}{f:β->γ}{g:α->List β}:∀l:List α,l.flatMap (λx=>(g x).map f)=(l.flatMap g).map f
 |[]=>rfl
 |x::l=>by rw[dq,dq,fq,sH l]
theorem z9c(o:Ex ns)(hs:ns.sum<=6)(e:getL H j=some (ns.map Fx)):gC [some (.ref j)] H=.ok ((dI ns).map Fx) H:=by
 have l6:=o.l6;have h6:∀i,i<ns.length->1<=ns.getD i 0/\ns.getD i 0<=6:=λi hi=>by
  have hm:ns.getD i 0∈ns:=by simp[hi]
  exact⟨o.pos _ hm,Int.le_trans (S6 ns o.pos _ hm) hs⟩
 have hi:aM nB (aE (aA 0)) [some (.ref j)] H=.ok (jS j ns.length) H:=by simp[aM,aR,aA,aQ,nB,e]
 have w:gC [some (.ref j)] H=.ok ((ak ns.length).flatMap λi:Nat=>(ak (ns.getD i 0).toNat).filterMap λ_=>some (.int (i:Int))) H:=
  uI (ak ns.length) (λi:Nat=>ak (ns.getD i 0).toNat) (λi _=>some (.int (i:Int))) (λρ=>∃a b c,ρ=[a,b,c]) hi (by simp[jS]) ⟨none,none,none,rfl⟩ (by simp[jS,e]) (λk hk ρ⟨a,b,c,q⟩=>by
   subst q;have C':k<ns.length:=by simpa using hk
   have hb:=h6 k C';have en:(ak ns.length)[k]=k:=by simp
   rw[en];refine⟨.tup [.int k,.int (ns.getD k 0)],[some (.int k),some (.int (ns.getD k 0)),c],bZ 0 (ns.getD k 0),λρ=>∃z,ρ=[some (.int (k:Int)),some (.int (ns.getD k 0)),z],?_,rfl,⟨c,rfl⟩,λρ⟨z,e⟩=>⟨_,_,_,e⟩,qK rfl (by lia) (by lia),by simp[bZ],rfl,λi hi ρ⟨z,e⟩=>?_⟩
   ·simp[jS,e,C']
   ·subst e;exact⟨.int (0+i),[some (.int (k:Int)),some (.int (ns.getD k 0)),some (.int (0+i))],rfl,rfl,⟨_,rfl⟩,rfl,rfl⟩) (by
   have:∀(l:Aw),(∀i∈l,i<ns.length)->(l.flatMap λi:Nat=>(ak (ns.getD i 0).toNat).filterMap λ_=>some (Fx (i:Int))).length<=l.length*6:=λl hl=>by
    induction l with
    |nil=>simp
    |cons x l ih=>
     have h1:=ih λi hi=>hl i (by simp[hi]);have h2:=h6 x (hl x (by simp));rw[dq,cf,bu];have h3:((ak (ns.getD x 0).toNat).filterMap λ_=>some (Fx (x:Int))).length<=6:=dh (iw _ _) (by rw[dm];lia)
     lia
   have:=this (ak ns.length) λi hi=>bg.mp hi;rw[dm]at this
   lia)
 rw[w];unfold dI;rw[<-sH];simp[km,ib,qq]
theorem z9d:GW=aH (bV (aB pE (aE (aA 0)))) (aH (bV (aB jH (aE (aB (f1 iV) (aE (aA 0)))))) (aL (aX gC))):=rfl
theorem S8(o:Ex ns)(hs:ns.sum<=6)(e:getL H j=some (ns.map Fx)):qJ [.ref j] H=.ok (.ref H.length) (H++[.lst ((dI ns).map Fx)]):=by
 have w1:bV (aB pE (aE (aA 0))) [some (.ref j)] H=.nx [some (.ref j)] H:=K82.ex1 (x:=0) (ρ:=[some (.ref j)]) rfl (need_ok o e);have w2:bV (aB jH (aE (aB (f1 iV) (aE (aA 0))))) [some (.ref j)] H=.nx [some (.ref j)] H:=by refine K82.exM (a:=.int ns.sum) ?_ (K82.few_ok hs);simp[aB,aR,aA,aQ,f1,CP e]
 have w3:=z9c o hs e;show bN (GW [some (.ref j)] H)=_;rw[z9d,bR w1,bR w2];generalize gC=m at w3;simp[aL,aX,w3,bN]
abbrev S9:M Az:=bA (aM bT (aE (aA 2))) [none,none,some 1,some 2] (aD 0) bK (dF (aM bT (aE (aA 3))) (aD 1) (mB (m2 fH (m2 aO (aA 2) (aA 0)) (m2 aO (aA 2) (aA 1)))) (aU (bH (aJ (aA 0) (aA 1)))))
abbrev TB:M Az:=bA (aM bT (aE (aA 2))) [none,none,some 1,some 2] (aD 0) bK (dF (aM iE (aJ (m2 cD (aA 0) (aF 1)) (aA 3))) (aD 1) (mB (m2 cE (m2 aO (aA 2) (aA 0)) (m2 aO (aA 2) (aA 1)))) (aU (bH (aJ (aA 0) (aA 1)))))
theorem TF{f:Nat->Nat->A'}{g:Nat->Nat}{N:Nat}(hN:N<=6)(hg:∀a,g a<=6):((ak N).flatMap λa:Nat=>(ak (g a)).filterMap (f a)).length<=900000:=by
 have:∀l:Aw,(l.flatMap λa:Nat=>(ak (g a)).filterMap (f a)).length<=l.length*6:=λl=>by
  induction l with
  |nil=>simp
  |cons x l ih=>
   rw[dq,cf,bu];have h1:=iw (f x) (ak (g x));rw[dm]at h1;have:=hg x
   lia
 have:=this (ak N);rw[dm]at this
 lia
theorem yG{ρ:Ev}{i x:Nat}{k:Nat}(e:getL H j=some (gs.map Fx))(h0:At ρ i (.ref j))(h1:At ρ x (.int k))(hk:k<gs.length):m2 aO (aA i) (aA x) ρ H=.ok (.int (gs.getD k 0)) H:=eK (by rw[h0.v]) (by rw[h1.v]) (by have:=SE (k:=(k:Int)) e (by lia) (by lia);simpa using this)
theorem uQ(a b:Int):cE (.int a) (.int b) H=.ok (.bl (decide (a=b))) H:=by simp[cE,cX,cG,bX];rfl
theorem z9e(h6:gs.length<=6)(e:getL H j=some (gs.map Fx)){x0:A'}:S9 [x0,some (.ref j),some (.int gs.length)] H=.ok ((lN gs).map aN) H:=by
 have w:S9 [x0,some (.ref j),some (.int gs.length)] H=.ok ((ak gs.length).flatMap λa:Nat=>(ak gs.length).filterMap λb:Nat=>if gs.getD a 0<gs.getD b 0 then some (aN ((a:Int),(b:Int)))else none) H:=
  uI (ak gs.length) (λ_=>ak gs.length) (λa b:Nat=>if gs.getD a 0<gs.getD b 0 then some (aN ((a:Int),(b:Int)))else none) (λρ=>∃a b,ρ=[a,b,some (.ref j),some (.int gs.length)]) (qK (ρ:=[x0,some (.ref j),some (.int gs.length)]) (m:=aA 2) (L:=(gs.length:Int)) rfl (by lia) (by lia)) (by simp[bZ]) ⟨none,none,rfl⟩ rfl (λk hk ρ⟨a,b,q⟩=>by
   subst q;have C':k<gs.length:=by simpa using hk
   have en:(ak gs.length)[k]=k:=by simp
   rw[en];refine⟨.int (0+k),[some (.int (0+k)),b,some (.ref j),some (.int gs.length)],bZ 0 gs.length,λρ=>∃z,ρ=[some (.int (0+k)),z,some (.ref j),some (.int gs.length)],rfl,rfl,⟨b,rfl⟩,λρ⟨z,e⟩=>⟨_,_,e⟩,qK rfl (by lia) (by lia),by simp[bZ],rfl,λi hi ρ⟨z,e'⟩=>?_⟩;subst e';have hi':i<gs.length:=by simpa using hi
   have en2:(ak gs.length)[i]=i:=by simp
   rw[en2];refine⟨.int (0+i),[some (.int (0+k)),some (.int (0+i)),some (.ref j),some (.int gs.length)],rfl,rfl,⟨_,rfl⟩,?_⟩;rw[ou,ou];have e1:=yG (ρ:=[some (.int (k:Int)),some (.int (i:Int)),some (.ref j),some (.int gs.length)]) (i:=2) (x:=0) e rfl rfl C';have e2:=yG (ρ:=[some (.int (k:Int)),some (.int (i:Int)),some (.ref j),some (.int gs.length)]) (i:=2) (x:=1) e rfl rfl hi';have t:mB (m2 fH (m2 aO (aA 2) (aA 0)) (m2 aO (aA 2) (aA 1))) [some (.int (k:Int)),some (.int (i:Int)),some (.ref j),some (.int gs.length)] H=.ok (decide (gs.getD k 0<gs.getD i 0)) H:=by unfold mB;rw[eK e1 e2 (z:=.bl (decide (gs.getD k 0<gs.getD i 0))) (H3:=H) rfl];rfl
   by_cases c:gs.getD k 0<gs.getD i 0
   ·rw[if_pos c];rw[decide_eq_true c]at t;exact⟨t,rfl⟩
   ·rw[if_neg c];rw[decide_eq_false c]at t;exact t) (TF h6 λ_=>h6)
 rw[w];unfold lN;rw[<-sH];refine congrArg (λf=>Gp (tm f (ak gs.length)) H) (funext λa=>?_);rw[lr];refine congrArg (λf=>uk f _) (funext λb=>?_)
 split<;>rfl
theorem z9f(h6:gs.length<=6)(e:getL H j=some (gs.map Fx)){x0:A'}:TB [x0,some (.ref j),some (.int gs.length)] H=.ok ((sG gs).map aN) H:=by
 have w:TB [x0,some (.ref j),some (.int gs.length)] H=.ok ((ak gs.length).flatMap λa:Nat=>(ak (gs.length-(a+1))).filterMap λb:Nat=>if gs.getD a 0=gs.getD (a+1+b) 0 then some (aN ((a:Int),(a:Int)+1+b))else none) H:=
  uI (ak gs.length) (λa=>ak (gs.length-(a+1))) (λa b:Nat=>if gs.getD a 0=gs.getD (a+1+b) 0 then some (aN ((a:Int),(a:Int)+1+b))else none) (λρ=>∃a b,ρ=[a,b,some (.ref j),some (.int gs.length)]) (qK (ρ:=[x0,some (.ref j),some (.int gs.length)]) (m:=aA 2) (L:=(gs.length:Int)) rfl (by lia) (by lia)) (by simp[bZ]) ⟨none,none,rfl⟩ rfl (λk hk ρ⟨a,b,q⟩=>by
   subst q;have C':k<gs.length:=by simpa using hk
   have en:(ak gs.length)[k]=k:=by simp
   rw[en];have hr:aM iE (aJ (m2 cD (aA 0) (aF 1)) (aA 3)) [some (.int (0+k)),b,some (.ref j),some (.int gs.length)] H=.ok (bZ ((k:Int)+1) gs.length) H:=by refine z9a (a:=(k:Int)+1) (b:=(gs.length:Int)) ?_ rfl (S7 (by lia) (by lia)) (S7 (by lia) (by lia));rw[ou];exact eK (ma:=aA 0) (mb:=aF 1) rfl rfl rfl
   refine⟨.int (0+k),[some (.int (0+k)),b,some (.ref j),some (.int gs.length)],bZ ((k:Int)+1) gs.length,λρ=>∃z,ρ=[some (.int (0+k)),z,some (.ref j),some (.int gs.length)],rfl,rfl,⟨b,rfl⟩,λρ⟨z,e⟩=>⟨_,_,e⟩,hr,by rw[z9b,dm];lia,rfl,λi hi ρ⟨z,e'⟩=>?_⟩;subst e';have hi':k+1+i<gs.length:=by simp at hi;lia
   have en2:(ak (gs.length-(k+1)))[i]=i:=by simp
   rw[en2];refine⟨.int ((k:Int)+1+i),[some (.int (0+k)),some (.int ((k:Int)+1+i)),some (.ref j),some (.int gs.length)],rfl,rfl,⟨_,rfl⟩,?_⟩;rw[ou];have e1:=yG (ρ:=[some (.int (k:Int)),some (.int ((k:Int)+1+i)),some (.ref j),some (.int gs.length)]) (i:=2) (x:=0) e rfl rfl C';have e2:=yG (ρ:=[some (.int (k:Int)),some (.int ((k:Int)+1+i)),some (.ref j),some (.int gs.length)]) (i:=2) (x:=1) (k:=k+1+i) e rfl (by rw[show((k+1+i:Nat):Int)=(k:Int)+1+i by lia];rfl) hi';have t:mB (m2 cE (m2 aO (aA 2) (aA 0)) (m2 aO (aA 2) (aA 1))) [some (.int (k:Int)),some (.int ((k:Int)+1+i)),some (.ref j),some (.int gs.length)] H=.ok (decide (gs.getD k 0=gs.getD (k+1+i) 0)) H:=by unfold mB;rw[eK e1 e2 (z:=.bl (decide (gs.getD k 0=gs.getD (k+1+i) 0))) (H3:=H) (uQ _ _)];rfl
   by_cases c:gs.getD k 0=gs.getD (k+1+i) 0
   ·rw[if_pos c];rw[decide_eq_true c]at t;exact⟨t,rfl⟩
   ·rw[if_neg c];rw[decide_eq_false c]at t;exact t) (TF h6 λ_=>by lia)
 rw[w];unfold sG;rw[<-sH];refine congrArg (λf=>Gp (tm f (ak gs.length)) H) (funext λa=>?_);rw[lr];refine congrArg (λf=>uk f _) (funext λb=>?_)
 split<;>rfl
theorem TH{M:M Az}{ps:dn}{N:Nat}(g:qJ [.ref j] H=.ok (.ref H.length) (H++[.lst (gs.map Fx)]))(hM:M [some (.ref j),some (.ref H.length),some (.int gs.length)] (H++[.lst (gs.map Fx)])=.ok (ps.map aN) (H++[.lst (gs.map Fx)])):
  aT 1 3 (aH (aK (aB qJ (aE (aA 0))) (aD 1)) (aH (aK (aB (f1 dU) (aE (aA 1))) (aD 2)) (aL (bH (aJ (aA 2) (mL oU M)))))) [.ref j] H=.ok (aG gs.length ps) (H++[.lst (gs.map Fx)]):=by
 have w1:aK (aB qJ (aE (aA 0))) (aD 1) [some (.ref j),none,none] H=.nx [some (.ref j),some (.ref H.length),none] (H++[.lst (gs.map Fx)]):=by generalize qJ=F at g;simp[aK,aB,aR,aA,aQ,g,aD]
 have g1:getL (H++[Fy (gs.map Fx)]) H.length=some (gs.map Fx):=by simp[getL]
 generalize H++[Fy (gs.map Fx)]=H1 at *;have w2:aK (aB (f1 dU) (aE (aA 1))) (aD 2) [some (.ref j),some (.ref H.length),none] H1=.nx [some (.ref j),some (.ref H.length),some (.int gs.length)] H1:=by simp[aK,aB,aR,aA,aQ,f1,dU,eE,iC,fX,g1,aD]
 show bN (aH _ _ [some (.ref j),none,none] H)=_;rw[bR w1,bR w2];simp[aL,bH,aR,aA,aQ,mL,hM,oU,lim,bN,aG]
theorem z9g(o:Ex ns)(hs:ns.sum<=6)(h6:(dI ns).length<=6)(e:getL H j=some (ns.map Fx)):xA [.ref j] H=.ok (aG (dI ns).length (lN (dI ns))) (H++[.lst ((dI ns).map Fx)]):=TH (N:=0) (S8 o hs e) (z9e h6 (by simp[getL]))
theorem z9h(o:Ex ns)(hs:ns.sum<=6)(h6:(dI ns).length<=6)(e:getL H j=some (ns.map Fx)):xB [.ref j] H=.ok (aG (dI ns).length (sG (dI ns))) (H++[.lst ((dI ns).map Fx)]):=TH (N:=0) (S8 o hs e) (z9f h6 (by simp[getL]))
end
end L2.Mr.K74
namespace L2.Mr.Cod
open L2.Mr.Com
section
variable{n:Nat}{ps:dn}{r:Int}{fs gs s:y'}{nd:List (Int×Int×Int)}
abbrev pl(s:y')(a:Int):Int:=s.getD a.toNat 0
structure Ey(n:Nat)(ps:dn)(r:Int)(s:y'):Prop where
 len:s.length=n
 bd:∀x∈s,0<=x/\x<n
 up:∀p∈ps,pl s p.1<pl s p.2
 near:∀a b:Int,0<=a->a<n->0<=b->b<n->Lse ps a b->pl s a-r<=pl s b
def sJ(n:Nat)(fs s:y'):Prop:=∀t,t<n->fs.getD t 0<=s.getD t 0
theorem z9i(o:Bg n ps)(F:Ey n ps r s)(hl:fs.length=n)(h:sJ n fs s):sJ n (RR fs (fB n ps r)) s:=λt ht=>by
 have up:=xV (fs:=fs) (nd:=fB n ps r)
 rcases(up.2 t (by rw[hl];exact ht)).1 with e|e
 ·rw[e];exact h t ht
 ·obtain⟨q,hq,e⟩:=br.mp e;obtain⟨e1,e2⟩:=zf e;rw[<-e2]
  rcases cz.mp hq with hq|hq
  ·obtain⟨p,hp,rfl⟩:=br.mp hq;have hr:=o.rng p hp;have h1:=h p.1.toNat (by lia);have h2:=F.up p hp;simp only at e1;have e3:p.2.toNat=t:=by lia
   unfold pl at h2;rw[e3]at h2;simp only
   lia
  ·obtain⟨⟨h0,h1,h2,h3⟩,hL,h7⟩:=Dm.mp hq;have hb:=h q.1.toNat (by lia);have h4:=F.near q.1 q.2.1 h0 h1 h2 h3 hL;have e3:q.2.1.toNat=t:=by lia
   unfold pl at h4;rw[e3]at h4
   lia
theorem JJ{t:Nat}(ht:t<s.length):s.getD t 0∈s:=by simp[ht]
theorem JK(o:Bg n ps)(F:Ey n ps r s):∀(f:Nat)(fs:y'),fs.length=n->sJ n fs s->hV n (fB n ps r) f fs≠some none/\∀gs,hV n (fB n ps r) f fs=some (some gs)->sJ n gs s
 |0,fs,_,_=>⟨λh=>(by cases h),λ_ h=>(by cases h)⟩
 |f+1,fs,hl,h=>by
  have h':=z9i o F hl h;unfold hV
  by_cases c:RR fs (fB n ps r)=fs
  ·rw[if_pos c];exact⟨λz=>(by cases z),λgs z=>by cases z;exact h⟩
  ·rw[if_neg c];have n1:=o.n1;have c2:¬cY (RR fs (fB n ps r))>=n:=λz=>by
    have hne:RR fs (fB n ps r)≠[]:=λq=>by have:=kG (fs:=fs) (nd:=fB n ps r);rw[q,hl]at this;simp at this;lia
    obtain⟨t,ht,e⟩:=je.mp (maxI_is hne).1;have Fp:t<n:=by rw[kG,hl]at ht;exact ht
    have h1:=h' t Fp;have e2:(RR fs (fB n ps r)).getD t 0=(RR fs (fB n ps r))[t]:=by simp[ht]
    rw[e2,e]at h1;have:=(F.bd _ (JJ (s:=s) (t:=t) (by rw[F.len];exact Fp))).2
    lia
   rw[if_neg c2];exact JK o F f _ (by rw[kG];exact hl) h'
theorem TJ(n1:1<=n):∀(f:Nat)(fs:y'),fs.length=n->(∀x∈fs,0<=x/\x<n)->hV n nd f fs=some (some gs)->gs.length=n/\(∀x∈gs,0<=x/\x<n)/\RR gs nd=gs
 |0,fs,_,_,h=>by cases h
 |f+1,fs,hl,hb,h=>by
  unfold hV at h
  by_cases c:RR fs nd=fs
  ·rw[if_pos c]at h;cases h;exact⟨hl,hb,c⟩
  ·rw[if_neg c]at h
   by_cases c2:cY (RR fs nd)>=n
   ·rw[if_pos c2]at h;cases h
   ·rw[if_neg c2]at h;refine TJ n1 f (RR fs nd) (by rw[kG];exact hl) (λx hx=>?_) h;have h1:=(maxI_is (ns:=RR fs nd) (λz=>by rw[z]at hx;cases hx)).2 x hx;refine⟨?_,by lia⟩;obtain⟨t,ht,e⟩:=je.mp hx;have Fp:t<fs.length:=by rw[kG]at ht;exact ht
    have h2:=(xV (fs:=fs) (nd:=nd)).2 t Fp|>.2 _ (.inl rfl)
    have e2:(RR fs nd).getD t 0=(RR fs nd)[t]:=by simp[ht]
    rw[e2,e]at h2;have:=(hb _ (JJ Fp)).1
    lia
theorem z9j(n1:1<=n):∀x∈bx n (0:Int),0<=x/\x<n:=λx hx=>by rw[rp hx];lia
theorem z9k(o:Bg n ps)(h:dO n ps r=some gs):Ey n ps r gs:=by
 have e:=xW o r;rw[h]at e;obtain⟨h1,h2,h3⟩:=TJ o.n1 _ _ (by simp) (z9j o.n1) e;have up:=xV (fs:=gs) (nd:=fB n ps r);rw[h3]at up;refine⟨h1,h2,λp hp=>?_,λa b a0 a1 b0 b1 hL=>?_⟩
 ·have hr:=o.rng p hp;have:=(up.2 p.2.toNat (by lia)).2 (pl gs p.1+1) (.inr (br.mpr ⟨(p.1,p.2,1),cz.mpr (.inl (br.mpr ⟨p,hp,rfl⟩)),by
   apply yc
   ·simp only;lia
   ·rfl⟩))
  unfold pl at this⊢
  lia
 ·have:=(up.2 b.toNat (by lia)).2 (pl gs a + -r) (.inr (br.mpr ⟨(a,b,-r),cz.mpr (.inr (Dm.mpr ⟨⟨a0,a1,b0,b1⟩,hL,rfl⟩)),by
   apply yc
   ·simp only;lia
   ·rfl⟩))
  unfold pl at this⊢
  lia
theorem zero_le(F:Ey n ps r s):sJ n (bx n 0) s:=λt ht=>by have:=(F.bd _ (JJ (s:=s) (t:=t) (by rw[F.len];exact ht))).1;simpa[ht]using this
theorem z9l(o:Bg n ps)(h:dO n ps r=some gs)(F:Ey n ps r s):sJ n gs s:=by have e:=xW o r;rw[h]at e;exact(JK o F _ _ (by simp) (zero_le F)).2 gs e
theorem TK(o:Bg n ps)(h:dO n ps r=none)(F:Ey n ps r s):False:=by have e:=xW o r;rw[h]at e;exact(JK o F _ _ (by simp) (zero_le F)).1 e
def lO(n:Nat)(ps:dn)(s:y'):Int:=cY (0::(cO n ps).map λq=>if pl s q.1-pl s q.2<0 then -(pl s q.1-pl s q.2)else pl s q.1-pl s q.2)
end
end L2.Mr.Cod
namespace L2.Mr.K63
open L2.Mr.Gen
open L2.Mr.Cod
open L2.Mr.Com
structure Seat(n:Nat)(ps:dn)(s:y'):Prop where
 len:s.length=n
 bd:∀x∈s,0<=x/\x<n
 up:∀p∈ps,pl s p.1<pl s p.2
end L2.Mr.K63
namespace L2.Mr.K60
open L2.Mr.Cod
open L2.Mr.Com
end L2.Mr.K60
namespace L2.Mr.K63
open L2.Mr.Gen
open L2.Mr.Cod
open L2.Mr.Com
open L2.Mr.K05 (iL jU)
section
variable{n st:Nat}{ps:dn}{H:Hs}{ρ:Ev}{d:Dv}
def sL(z:Int):Int:=if z<0 then -z else z
end
end L2.Mr.K63
namespace L2.Mr.Rg
open L2.Mr.Com (Bg)
open L2.Mr.Cod (Lse Ey pl)
end L2.Mr.Rg
namespace L2.Mr.K61
open L2.Mr.Gen
open L2.Mr.Cod
open L2.Mr.Com
open L2.Mr.Rg
section
variable{n st:Nat}{ps:dn}{H:Hs}{ρ:Ev}{d:Dv}
theorem call1{F:Ay}{a v:Dv}{x:Nat}{H':Hs}(ha:At ρ x a)(e:F [a] H=.ok v H'):aB F (aE (aA x)) ρ H=.ok v H':=by simp[aB,aR,ha.v,aQ,e]
theorem call2{F:Ay}{a b v:Dv}{x y:Nat}{H':Hs}(ha:At ρ x a)(hb:At ρ y b)(e:F [a,b] H=.ok v H'):aB F (aJ (aA x) (aA y)) ρ H=.ok v H':=by simp[aB,aR,ha.v,hb.v,aQ,e]
end
end L2.Mr.K61
namespace L2.Mr.K63
open L2.Mr.Gen
open L2.Mr.Cod
open L2.Mr.Com
open L2.Mr.K05 (iL jU)
open L2.Mr.Rg
section
variable{n st:Nat}{ps qs:dn}{H:Hs}{ρ:Ev}{d:Dv}
theorem TL(n:Nat)(ps:dn)(s:y'):0<=lO n ps s:=(maxI_is (ns:=0::_) (by simp)).2 0 (by simp)
theorem CU(s:y'):lO n ps s=cY (0::(cO n ps).map λq=>sL (pl s q.1-pl s q.2)):=rfl
theorem TM{x y R:Int}(h:sL (x-y)<=R):x-R<=y/\y-R<=x:=by
 unfold sL at h
 split at h<;>lia
theorem TN{s:y'}:∀q∈cO n ps,sL (pl s q.1-pl s q.2)<=lO n ps s:=λq hq=>by rw[CU];exact(maxI_is (by simp)).2 _ (av _ (br.mpr ⟨q,hq,rfl⟩))
theorem TQ{s:y'}(h:Seat n ps s):Ey n ps (lO n ps s) s:=by
 refine⟨h.len,h.bd,h.up,λa b a0 a1 b0 b1 hl=>?_⟩
 rcases Int.lt_or_gt_of_ne hl.1 with h1|h1
 ·exact(TM (TN (a,b) (Br.mpr ⟨a0,h1,b1,hl⟩))).1
 ·exact(TM (TN (b,a) (Br.mpr ⟨b0,h1,a1,λe=>hl.1 e.symm,hl.2.2,hl.2.1⟩))).2
end
section
variable{n st:Nat}{ps qs:dn}{H:Hs}{ρ:Ev}{d:Dv}
theorem pJ{F:Ay}{a b v:Dv}{x y:Nat}{H':Hs}(ha:At ρ x a)(hb:At ρ y b)(e:F [a,b] H=.ok v H'):aB F (aJ (aA x) (aA y)) ρ H=.ok v H':=K61.call2 ha hb e
theorem nX{m:M Dv}{b:Bool}{H':Hs}(e:m ρ H=.ok (.bl b) H'):cF m ρ H=.ok b H':=by simp[cF,e,jZ]
theorem mK{m:M Dv}{v:Dv}{H':Hs}(e:m ρ H=.ok v H'):bN (aL m ρ H)=.ok v H':=by simp[aL,e,bN]
theorem nY{m u:M Dv}{H':Hs}(e:m ρ H=.ok (.bl true) H'):dE m u ρ H=u ρ H':=by simp[dE,e]
theorem qM{m u:M Dv}{H':Hs}(e:m ρ H=.ok (.bl false) H'):dE m u ρ H=.ok (.bl false) H':=by simp[dE,e]
end
section
variable{n:Nat}{ps:dn}{H:Hs}
theorem z9m:tZ=aL (aB (f1 (fV hJ)) (aE (aX lC))):=rfl
theorem z9n{m:M Az}{ρ:Ev}{Z:y'}{H1:Hs}(em:m ρ H=.ok (Z.map Fx) H1)(hne:Z≠[]):bN (aL (aB (f1 (fV hJ)) (aE (aX m))) ρ H)=.ok (.int (hJ Z)) (H1++[.lst (Z.map Fx)]):=by
 have w:aX m ρ H=.ok (.ref H1.length) (H1++[.lst (Z.map Fx)]):=by unfold aX;rw[em];rfl
 have g:getL (H1++[Fy (Z.map Fx)]) H1.length=some (Z.map Fx):=last_get;have hd:fV hJ (.ref H1.length) (H1++[Fy (Z.map Fx)])=.ok (.int (hJ Z)) (H1++[Fy (Z.map Fx)]):=by simp only[fV,g,IY];rw[if_pos (nq.mpr hne)]
 generalize H1++[Fy (Z.map Fx)]=H2 at hd w;generalize aX m=M at w;simp[aL,aB,aR,aQ,w,L2.Mr.f1,hd,bN]
theorem z9o{v:Nat}(hv:v<=5)(h1:∃fs,dO n ps v=some fs)(h2:∀u:Nat,u<v->dO n ps u=none):iM n ps 6≠[]/\hJ (iM n ps 6)=v:=by
 have hm:(v:Int)∈iM n ps 6:=by obtain⟨fs,e⟩:=h1;unfold iM;simp only[br,gi,bg];exact⟨v,⟨by lia,by rw[e];rfl⟩,rfl⟩
 have hne:iM n ps 6≠[]:=λz=>by rw[z]at hm;cases hm
 obtain⟨k1,k2⟩:=minI_is hne;have h3:=k2 _ hm;unfold iM at k1;simp only[br,gi,bg]at k1;obtain⟨u,⟨hu,hs⟩,e⟩:=k1;have e':hJ (iM n ps 6)=u:=e.symm;refine⟨hne,?_⟩
 by_cases c:u<v
 ·rw[h2 u c]at hs;cases hs
 ·lia
theorem reach_ok(o:Bg n ps){v:Nat}(hv:v<=5)(h1:∃fs,dO n ps v=some fs)(h2:∀u:Nat,u<v->dO n ps u=none):∃H',gM [aG n ps] H=.ok (.int v) H'/\Fr [] H H':=by obtain⟨H1,c1,f1'⟩:=z84 (H:=H) o;obtain⟨hne,hmin⟩:=z9o hv h1 h2;refine⟨H1++[Fy ((iM n ps 6).map Fx)],?_,f1'.trans (T:=[]) Fz (by simp)⟩;show bN (tZ [some (aG n ps)] H)=_;rw[z9m,z9n c1 hne,hmin]
end
end L2.Mr.K63
namespace L2.Mr.K61
open L2.Mr.Gen
open L2.Mr.Cod
open L2.Mr.Com
open L2.Mr.Rg
section
variable{n st:Nat}{ps:dn}{H:Hs}{ρ:Ev}{d:Dv}
theorem ntT{m:M Dv}{H':Hs}(e:m ρ H=.ok (.bl true) H'):eN (cF m) ρ H=.ok false H':=by simp[eN,cF,e,jZ]
end
end L2.Mr.K61
namespace L2.Mr.K60
open L2.Mr.Cod
open L2.Mr.Com
end L2.Mr.K60
namespace L2.Mr.K63
open L2.Mr.Gen
open L2.Mr.Cod
open L2.Mr.Com
open L2.Mr.K05 (iL jU)
open L2.Mr.Rg
section
variable{n st:Nat}{ps qs:dn}{H:Hs}{ρ:Ev}{d:Dv}
theorem nZ{ma mb:M Dv}{a:Int}{H1 H2:Hs}(h1:ma ρ H=.ok (.int a) H1)(h2:mb ρ H1=.ok (.int a) H2):mB (m2 dR ma mb) ρ H=.ok false H2:=by
 have e:dR (.int a) (.int a) H2=.ok (.bl false) H2:=by simp[dR,cX,cG,bX]
 unfold mB;rw[eK h1 h2 e];rfl
theorem qN{m:M Dv}{H1:Hs}(h1:m ρ H=.ok (.bl true) H1):mB (m2 (lX true) m (mC (.bl true))) ρ H=.ok false H1:=by unfold mB;rw[eK h1 (mb:=mC (.bl true)) rfl (z:=.bl false) (H3:=H1) rfl];rfl
theorem oA{F:Ay}{ma mb:M Dv}{a b v:Dv}{H1 H2 H':Hs}(ha:ma ρ H=.ok a H1)(hb:mb ρ H1=.ok b H2)(e:F [a,b] H2=.ok v H'):aB F (aJ ma mb) ρ H=.ok v H':=by simp[aB,aR,ha,hb,aQ,e]
theorem hW{ma mb:M Dv}{a b:Dv}{H1 H2:Hs}(ha:ma ρ H=.ok a H1)(hb:mb ρ H1=.ok b H2):bH (aJ ma mb) ρ H=.ok (.tup [a,b]) H2:=by simp[bH,aR,ha,hb,aQ,lim]
theorem vv{i:Nat}(h:At ρ i d):aA i ρ H=.ok d H:=by rw[h.v]
theorem qO{F:Ay}{x:Nat}{mb:M Dv}{a b v:Dv}{H2 H':Hs}(ha:At ρ x a)(hb:mb ρ H=.ok b H2)(e:F [a,b] H2=.ok v H'):aB F (aJ (aA x) mb) ρ H=.ok v H':=oA (vv ha) hb e
theorem parV{i j:Nat}{ma mb:M Dv}{a b:Dv}{H1 H2:Hs}(h1:ma ρ H=.ok a H1)(h2:mb ρ H1=.ok b H2):tX i j (aJ ma mb) ρ H=.nx ((ρ.set i (some a)).set j (some b)) H2:=by simp[tX,aR,h1,h2,aQ]
end
end L2.Mr.K63
namespace L2.Mr.K74
open L2.Mr.Gen
open L2.Mr.Cod
open L2.Mr.Com
open L2.Mr.K60 (iK kC)
open L2.Mr.K82 (jH lL)
open L2.Mr.K63 (pJ oA qO nX mK vv nZ qN hW nY qM)
theorem TR{α:Type}{mj:M Src}{sg:dS}{t:M Bool}{m:MC}{ρ:Ev}{H:Hs}{src:Src}(xs:List α)(out:α->Az)(S:Ev->Prop)(hi:mj ρ H=.ok src H)(hn:src.n=xs.length)(s0:S ρ)(fin:src.fin H=true)(step:∀k(hk:k<xs.length)ρ,S ρ->∃d ρ1,src.get k H=some d/\sg d ρ=some ρ1/\((t ρ1 H=.ok false H/\out xs[k]=[]/\S ρ1)∨(t ρ1 H=.ok true H/\∀acc:Az,acc.length+(out xs[k]).length<=900000->∃ρ3,m ρ1 H acc=.ok (ρ3,acc++out xs[k]) H/\S ρ3)))(acc:Az)(hl:acc.length+(xs.flatMap out).length<=900000):∃ρ',dF mj sg t m ρ H acc=.ok (ρ',acc++xs.flatMap out) H/\S ρ':=by
 obtain⟨ρ3,h3,r,s3,rfl⟩:=uF (src:=src) (sg:=sg) (t:=t) (m:=m) xs out (λρ h=>S ρ/\h=H) (λρ h s=>by rw[s.2];exact fin) (λk hk ρ h⟨s,e⟩=>by
  subst e;obtain⟨d,ρ1,e1,e2,e3⟩:=step k hk ρ s;refine⟨d,ρ1,e1,e2,?_⟩
  rcases e3 with⟨z1,z2,z3⟩|⟨z1,z2⟩
  ·exact .inl ⟨h,z1,z2,z3,rfl⟩
  ·refine .inr ⟨h,z1,λacc hl=>?_⟩;obtain⟨ρ3,y1,y2⟩:=z2 acc hl;exact⟨ρ3,h,y1,y2,rfl⟩) xs.length 0 ρ H acc (by lia) ⟨s0,rfl⟩ (by simpa using hl)
 refine⟨ρ3,?_,s3⟩;unfold dF;rw[hi];dsimp only;rw[hn,r];simp
abbrev hY(ps:dn)(a b c:Int):Prop:=(a,c)∈ps/\Lse ps a b/\Lse ps b c
def fQ(q:Int×Int×Int):Dv:=.tup [.int q.1,.int q.2.1,.int q.2.2]
def hZ(n:Nat)(ps:dn):List (Int×Int×Int):=(ak n).flatMap λa:Nat=>(ak n).flatMap λb:Nat=>(ak n).flatMap λc:Nat=>if hY ps a b c then[((a:Int),(b:Int),(c:Int))]else[]
section
variable{n:Nat}{ps:dn}{H:Hs}{j:Nat}{ρ:Ev}
theorem TU{q:Int×Int×Int}(h:q∈hZ n ps):∃a b c:Nat,a<n/\b<n/\c<n/\q=((a:Int),(b:Int),(c:Int))/\hY ps a b c:=by
 unfold hZ at h;simp only[jf,bg]at h;obtain⟨a,ha,b,hb,c,hc,h⟩:=h
 split at h
 ·rename_i z;exact⟨a,b,c,ha,hb,hc,cc.mp h,z⟩
 ·cases h
theorem z9p{a b c:Nat}(ha:a<n)(hb:b<n)(hc:c<n)(h:hY ps a b c):((a:Int),(b:Int),(c:Int))∈hZ n ps:=by unfold hZ;simp only[jf,bg];exact⟨a,ha,b,hb,c,hc,by rw[if_pos h];exact cc.mpr rfl⟩
theorem z9q{a b c:Int}:rY [aG n ps,.int a,.int b,.int c] H=.ok (.bl (decide (hY ps a b c))) H:=by
 have e1:m2 (cN false) (bH (aJ (aA 1) (aA 3))) (m2 aO (aA 0) (aF 1)) [some (aG n ps),some (.int a),some (.int b),some (.int c)] H=.ok (.bl (decide ((a,c)∈ps))) H:=eK (x:=aN (a,c)) (y:=.tup (ps.map aN)) rfl rfl (AD false H (a,c) ps);have e2:∀x y z:Nat,∀{p q:Int},At [some (aG n ps),some (.int a),some (.int b),some (.int c)] x (aG n ps)->At [some (aG n ps),some (.int a),some (.int b),some (.int c)] y (.int p)->At [some (aG n ps),some (.int a),some (.int b),some (.int c)] z (.int q)->
   aB eZ (dD (aA x) (aA y) (aA z)) [some (aG n ps),some (.int a),some (.int b),some (.int c)] H=.ok (.bl (decide (Lse ps p q))) H:=λx y z p q hx hy hz=>by
  have l:=loose_is (n:=n) (ps:=ps) (H:=H) (a:=p) (b:=q);generalize eZ=F at l;simp[aB,aR,hx.v,hy.v,hz.v,aQ,l]
 show bN (aL (dE (m2 (cN false) (bH (aJ (aA 1) (aA 3))) (m2 aO (aA 0) (aF 1))) (dE (aB eZ (dD (aA 0) (aA 1) (aA 2))) (aB eZ (dD (aA 0) (aA 2) (aA 3))))) [some (aG n ps),some (.int a),some (.int b),some (.int c)] H)=_;refine mK ?_
 by_cases c1:(a,c)∈ps
 ·rw[nY (e1.trans (by rw[decide_eq_true c1]))]
  by_cases c2:Lse ps a b
  ·rw[nY ((e2 0 1 2 rfl rfl rfl).trans (by rw[decide_eq_true c2])),e2 0 2 3 rfl rfl rfl];simp[hY,c1,c2]
  ·rw[qM ((e2 0 1 2 rfl rfl rfl).trans (by rw[decide_eq_false c2]))];simp[hY,c2]
 ·rw[qM (e1.trans (by rw[decide_eq_false c1]))];simp[hY,c1]
abbrev bE:MC:=dF (aY bQ (aA 4)) (aD 2) (cF (aB rY (jX (aA 3) (aA 0) (aA 1) (aA 2)))) (aU (bH (dD (aA 0) (aA 1) (aA 2))))
abbrev bC:M Az:=bA (aY bQ (aA 1)) [none,none,none,some 0,some 1] (aD 0) bK (dF (aY bQ (aA 4)) (aD 1) bK bE)
abbrev V5(n:Nat)(ps:dn)(j:Nat)(x y z:A'):Ev:=[x,y,z,some (aG n ps),some (.ref j)]
theorem z9r(e:getL H j=some ((bJ n).map Fx)){a b:Nat}{z0:A'}(acc:Az)(hl:acc.length+((ak n).flatMap λc:Nat=>if hY ps a b c then[fQ ((a:Int),(b:Int),(c:Int))]else[]).length<=900000):
  ∃z,bE (V5 n ps j (some (.int a)) (some (.int b)) z0) H acc=.ok (V5 n ps j (some (.int a)) (some (.int b)) z,acc++(ak n).flatMap λc:Nat=>if hY ps a b c then[fQ ((a:Int),(b:Int),(c:Int))]else[]) H:=by
 have hr:(bJ n).length=n:=by simp[bJ]
 obtain⟨ρ',w,z,rfl⟩:=TR (m:=aU (bH (dD (aA 0) (aA 1) (aA 2)))) (sg:=aD 2) (t:=cF (aB rY (jX (aA 3) (aA 0) (aA 1) (aA 2)))) (ρ:=V5 n ps j (some (.int a)) (some (.int b)) z0) (H:=H) (mj:=aY bQ (aA 4)) (src:=cI j n) (ak n) (λc:Nat=>if hY ps a b c then[fQ ((a:Int),(b:Int),(c:Int))]else[]) (λρ=>∃z,ρ=V5 n ps j (some (.int a)) (some (.int b)) z) (by simp[aY,aA,bQ,e,hr]) (by simp[cI]) ⟨_,rfl⟩ (by simp[cI,e,hr]) (λk hk ρ⟨z,q⟩=>by
  subst q;have C':k<n:=by simpa using hk
  have en:(ak n)[k]=k:=by simp
  rw[en];refine⟨.int k,V5 n ps j (some (.int a)) (some (.int b)) (some (.int k)),by simp[cI,e,hr,C',bJ],rfl,?_⟩;have t:cF (aB rY (jX (aA 3) (aA 0) (aA 1) (aA 2))) (V5 n ps j (some (.int a)) (some (.int b)) (some (.int k))) H=.ok (decide (hY ps a b k)) H:=by refine nX ?_;have l:=z9q (n:=n) (ps:=ps) (H:=H) (a:=a) (b:=b) (c:=k);generalize rY=F at l;simp[aB,aR,aA,aQ,l]
  by_cases c:hY ps a b k
  ·rw[if_pos c];exact .inr ⟨t.trans (by rw[decide_eq_true c]),λacc hl=>⟨_,uH rfl hl,_,rfl⟩⟩
  ·rw[if_neg c];exact .inl ⟨t.trans (by rw[decide_eq_false c]),rfl,_,rfl⟩) acc hl
 exact⟨z,w⟩
theorem CV{f:Nat->Az}{N B:Nat}(h:∀a,(f a).length<=B):((ak N).flatMap f).length<=N*B:=by
 have:∀l:Aw,(l.flatMap f).length<=l.length*B:=λl=>by
  induction l with
  |nil=>simp
  |cons x l ih=>
   rw[dq,cf,bu,Nat.add_mul];have:=h x
   lia
 have:=this (ak N);rwa [dm]at this
theorem z9s(hn:n<=6)(e:getL H j=some ((bJ n).map Fx)){x2:A'}:bC [some (aG n ps),some (.ref j),x2] H=.ok ((hZ n ps).map fQ) H:=by
 have hr:(bJ n).length=n:=by simp[bJ]
 have b1:∀a b:Nat,((ak n).flatMap λc:Nat=>if hY ps a b c then[fQ ((a:Int),(b:Int),(c:Int))]else[]).length<=6:=λa b=>by
  have:=CV (N:=n) (B:=1) (f:=λc:Nat=>if hY ps a b c then[fQ ((a:Int),(b:Int),(c:Int))]else[]) (λc=>by split<;>simp)
  lia
 have b2:∀a:Nat,((ak n).flatMap λb:Nat=>(ak n).flatMap λc:Nat=>if hY ps a b c then[fQ ((a:Int),(b:Int),(c:Int))]else[]).length<=36:=λa=>by
  have:=CV (N:=n) (B:=6) (f:=λb:Nat=>(ak n).flatMap λc:Nat=>if hY ps a b c then[fQ ((a:Int),(b:Int),(c:Int))]else[]) (b1 a)
  lia
 obtain⟨ρ',H',w,_,rfl⟩:=uG (mi:=aY bQ (aA 1)) (cap:=[none,none,none,some 0,some 1]) (src:=cI j n) (sg:=aD 0) (t:=bK) (m:=dF (aY bQ (aA 4)) (aD 1) bK bE) (ρ:=[some (aG n ps),some (.ref j),x2]) (H:=H) (H1:=H) (ak n) (λa:Nat=>(ak n).flatMap λb:Nat=>(ak n).flatMap λc:Nat=>if hY ps a b c then[fQ ((a:Int),(b:Int),(c:Int))]else[]) (λρ h=>(∃x y z,ρ=V5 n ps j x y z)/\h=H)
  (by simp[aY,aA,bQ,e,hr]) (by simp[cI]) ⟨⟨_,_,_,rfl⟩,rfl⟩ (λρ h s=>by rw[s.2];simp[cI,e,hr]) (λk hk ρ h⟨⟨x,y,z,q⟩,qh⟩=>by
   subst q;subst qh;have C':k<n:=by simpa using hk
   have en:(ak n)[k]=k:=by simp
   rw[en];refine⟨.int k,V5 n ps j (some (.int k)) y z,by simp[cI,e,hr,C',bJ],rfl,.inr ⟨h,rfl,λacc hl=>?_⟩⟩;obtain⟨ρ3,w3,z',z'',rfl⟩:=TR (m:=bE) (sg:=aD 1) (t:=bK) (ρ:=V5 n ps j (some (.int k)) y z) (H:=h) (mj:=aY bQ (aA 4)) (src:=cI j n) (ak n) (λb:Nat=>(ak n).flatMap λc:Nat=>if hY ps k b c then[fQ ((k:Int),(b:Int),(c:Int))]else[]) (λρ=>∃y z,ρ=V5 n ps j (some (.int k)) y z) (by simp[aY,aA,bQ,e,hr]) (by simp[cI]) ⟨_,_,rfl⟩ (by simp[cI,e,hr]) (λi hi ρ⟨y,z,q⟩=>by
    subst q;have hi':i<n:=by simpa using hi
    have en:(ak n)[i]=i:=by simp
    rw[en];refine⟨.int i,V5 n ps j (some (.int k)) (some (.int i)) z,by simp[cI,e,hr,hi',bJ],rfl,.inr ⟨rfl,λacc hl=>?_⟩⟩;obtain⟨z',w⟩:=z9r (ps:=ps) e (a:=k) (b:=i) (z0:=z) acc hl;exact⟨_,w,_,_,rfl⟩) acc hl
   exact⟨_,h,w3,⟨_,_,_,rfl⟩,rfl⟩) (by
   have:=CV (N:=n) (B:=36) (f:=λa:Nat=>(ak n).flatMap λb:Nat=>(ak n).flatMap λc:Nat=>if hY ps a b c then[fQ ((a:Int),(b:Int),(c:Int))]else[]) b2
   lia)
 rw[show bC [some (aG n ps),some (.ref j),x2] H'=_ from w];unfold hZ;rw[<-sH];refine congrArg (λf=>Gp (tm f (ak n)) H') (funext λa=>?_);rw[<-sH];refine congrArg (λf=>tm f (ak n)) (funext λb=>?_);rw[<-sH];refine congrArg (λf=>tm f (ak n)) (funext λc=>?_)
 split<;>rfl
end
def ah(ps:dn)(t:Int):y':=(ps.filter λp=>decide (p.2=t)).map λp=>p.1
def lf(n:Nat)(ps:dn)(t:Int):y':=((ak n).filter λx:Nat=>decide (Lse ps t x)).map λx:Nat=>(x:Int)
def fJ(n:Nat)(ps:dn):y':=(ak n).map λt:Nat=>((ah ps t).length:Int)
def qP(n:Nat)(ps:dn)(m:Int):y':=((ak n).filter λt:Nat=>decide ((fJ n ps).getD t 0=m)).map λt:Nat=>(t:Int)
def gY(n:Nat)(ps:dn):wo:=(dC jI (fJ n ps)).map (qP n ps)
abbrev bS(r:y'):Dv:=.tup (r.map Fx)
section
variable{n:Nat}{ps:dn}{H:Hs}{t:Int}
theorem JL{m:M Az}{ρ:Ev}{xs:Az}{H1:Hs}(e:m ρ H=.ok xs H1):bN (aL (aX m) ρ H)=.ok (.ref H1.length) (H1++[.lst xs]):=by simp[aL,aX,e,bN]
theorem xU{F:Ay}{a b c v:Dv}{x y z:Nat}{ρ:Ev}{H':Hs}(ha:At ρ x a)(hb:At ρ y b)(hc:At ρ z c)(e:F [a,b,c] H=.ok v H'):aB F (dD (aA x) (aA y) (aA z)) ρ H=.ok v H':=by simp[aB,aR,ha.v,hb.v,hc.v,aQ,e]
theorem TV(o:Bg n ps)(t0:0<=t)(t1:t<n):qI [aG n ps,.int t] H=.ok .non H:=by
 have w1:bV (aB eJ (aE (aA 0))) [some (aG n ps),some (.int t)] H=.nx [some (aG n ps),some (.int t)] H:=K82.ex1 (x:=0) (ρ:=[some (aG n ps),some (.int t)]) rfl (K82.need_ok o);have e:pB [.int n,.int t] H=.ok (.bl true) H:=by
  rw[RI];have:Com.isT n t=true:=by simp[Com.isT];lia
  rw[this]
 have w2:cF (aB pB (aJ (m2 aO (aA 0) (aF 0)) (aA 1))) [some (aG n ps),some (.int t)] H=.ok true H:=nX (oA (F:=pB) (eK (ma:=aA 0) (mb:=aF 0) rfl rfl rfl) rfl e);show bN (GR [some (aG n ps),some (.int t)] H)=_;unfold GR;rw[bR w1,kQ (z85 w2)];rfl
abbrev aC:M Az:=bA (aY fP (m2 aO (aA 0) (aF 1))) [none,none,some 1] (cV 2 (aW (aD 0) (aW (aD 1) cW))) (mB (m2 cE (aA 1) (aA 2))) (aU (aA 0))
theorem z9t(hl:ps.length<=900):aC [some (aG n ps),some (.int t)] H=.ok ((ah ps t).map Fx) H:=by
 have w:aC [some (aG n ps),some (.int t)] H=.ok (ps.filterMap λp=>if decide (p.2=t)=true then some (Fx p.1)else none) H:=
  jK ps (λp=>if decide (p.2=t)=true then some (Fx p.1)else none) (λρ=>∃a b,ρ=[a,b,some (.int t)]) (src:=eC (ps.map aN)) rfl (by simp[eC]) ⟨none,none,rfl⟩ rfl (λk hk ρ⟨a,b,q⟩=>by
   subst q;refine⟨aN ps[k],[some (.int ps[k].1),some (.int ps[k].2),some (.int t)],by simp[eC,hk],rfl,⟨_,_,rfl⟩,?_⟩;have e:mB (m2 cE (aA 1) (aA 2)) [some (.int ps[k].1),some (.int ps[k].2),some (.int t)] H=.ok (decide (ps[k].2=t)) H:=by unfold mB;rw[eK (ma:=aA 1) (mb:=aA 2) rfl rfl (z:=.bl (decide (ps[k].2=t))) (H3:=H) (uQ _ _)];rfl
   by_cases c:ps[k].2=t
   ·rw[decide_eq_true c]at e⊢;exact⟨e,rfl⟩
   ·rw[decide_eq_false c]at e⊢;exact e) (by lia)
 rw[w,xY];simp[ah,ib,qq]
theorem z9u(o:Bg n ps):ps.length<=36:=by
 have h:ps.Nodup:=qA stoP o.rise;have:=h.length_le_of_subset (l₂:=xP n) λp hp=>by have:=o.rng p hp;unfold xP;simp only[jf,bg,br];exact⟨p.1.toNat,by lia,p.2.toNat,by lia,by ext<;>simp<;>lia⟩
 rw[RJ]at this;have:=oq o.n6 o.n6
 lia
theorem z9v:GS=aH (bV (aB qI (aJ (aA 0) (aA 1)))) (aL (aX aC)):=rfl
theorem TX(o:Bg n ps)(t0:0<=t)(t1:t<n):pD [aG n ps,.int t] H=.ok (.ref H.length) (H++[.lst ((ah ps t).map Fx)]):=by have hl:=z9u o;have w3:=z9t (n:=n) (ps:=ps) (t:=t) (H:=H) (by lia);have w1:bV (aB qI (aJ (aA 0) (aA 1))) [some (aG n ps),some (.int t)] H=.nx [some (aG n ps),some (.int t)] H:=K82.ex2 (x:=0) (y:=1) (ρ:=[some (aG n ps),some (.int t)]) rfl rfl (TV o t0 t1);show bN (GS [some (aG n ps),some (.int t)] H)=_;rw[z9v,bR w1];exact JL w3
abbrev fC:M Az:=bA (aM bT (aE (m2 aO (aA 0) (aF 0)))) [none,some 0,some 1] (aD 0) (cF (aB eZ (dD (aA 1) (aA 2) (aA 0)))) (aU (aA 0))
theorem JM(o:Bg n ps){ρ:Ev}{x:Nat}(h:At ρ x (aG n ps)):aM bT (aE (m2 aO (aA x) (aF 0))) ρ H=.ok (bZ 0 n) H:=by have:=o.n6;exact qK (eK (vv h) (mb:=aF 0) rfl rfl) (by lia) (by lia)
theorem z9w(o:Bg n ps):fC [some (aG n ps),some (.int t)] H=.ok ((lf n ps t).map Fx) H:=by
 have n6:=o.n6;have w:fC [some (aG n ps),some (.int t)] H=.ok ((ak n).filterMap λx:Nat=>if decide (Lse ps t x)=true then some (Fx (x:Int))else none) H:=
  jK (ak n) (λx:Nat=>if decide (Lse ps t x)=true then some (Fx (x:Int))else none) (λρ=>∃a,ρ=[a,some (aG n ps),some (.int t)]) (JM o rfl) (by simp[bZ]) ⟨none,rfl⟩ rfl (λk hk ρ⟨a,q⟩=>by
   subst q;have en:(ak n)[k]=k:=by simp
   rw[en];refine⟨.int (0+k),[some (.int (0+k)),some (aG n ps),some (.int t)],rfl,rfl,⟨_,rfl⟩,?_⟩;rw[ou];have e:cF (aB eZ (dD (aA 1) (aA 2) (aA 0))) [some (.int (k:Int)),some (aG n ps),some (.int t)] H=.ok (decide (Lse ps t k)) H:=by exact nX (xU (F:=eZ) rfl rfl rfl loose_is)
   by_cases c:Lse ps t k
   ·rw[decide_eq_true c]at e⊢;exact⟨e,rfl⟩
   ·rw[decide_eq_false c]at e⊢;exact e) (by simp;lia)
 rw[w,xY];simp[lf,ib,qq]
theorem z9x:GU=aH (bV (aB qI (aJ (aA 0) (aA 1)))) (aL (aX fC)):=rfl
theorem TY(o:Bg n ps)(t0:0<=t)(t1:t<n):uA [aG n ps,.int t] H=.ok (.ref H.length) (H++[.lst ((lf n ps t).map Fx)]):=by have w3:=z9w (t:=t) (H:=H) o;have w1:bV (aB qI (aJ (aA 0) (aA 1))) [some (aG n ps),some (.int t)] H=.nx [some (aG n ps),some (.int t)] H:=K82.ex2 (x:=0) (y:=1) (ρ:=[some (aG n ps),some (.int t)]) rfl rfl (TV o t0 t1);show bN (GU [some (aG n ps),some (.int t)] H)=_;rw[z9x,bR w1];exact JL w3
abbrev hC:M Az:=bA (aM bT (aE (m2 aO (aA 0) (aF 0)))) [none,some 0] (aD 0) bK (aU (aB (f1 dU) (aE (aB pD (aJ (aA 1) (aA 0))))))
abbrev vI:M Az:=bA (aM bT (aE (m2 aO (aA 1) (aF 0)))) [none,some 0,some 2] (aD 0) (mB (m2 cE (m2 aO (aA 2) (aA 0)) (aA 1))) (aU (aA 0))
abbrev vC:M Az:=bA (aY bQ (aB (f1 rX) (aE (aA 1)))) [none,some 0,some 1] (aD 0) bK (aU (mL oU vI))
theorem z9y:GY=aH (aK (aX hC) (aD 1)) (aL (aX vC)):=rfl
theorem TZ{f:Nat->Dv}:∀l:Aw,(l.flatMap λt=>[f t])=l.map f
 |[]=>rfl
 |x::l=>by rw[dq,TZ l];rfl
theorem z9z(o:Bg n ps):∃H',hC [some (aG n ps),none] H=.ok ((fJ n ps).map Fx) H'/\Fr [] H H':=by
 have n6:=o.n6;obtain⟨ρ',H',w,_,f⟩:=uG (mi:=aM bT (aE (m2 aO (aA 0) (aF 0)))) (cap:=[none,some 0]) (src:=bZ 0 n) (sg:=aD 0) (t:=bK) (m:=aU (aB (f1 dU) (aE (aB pD (aJ (aA 1) (aA 0)))))) (ρ:=[some (aG n ps),none]) (H:=H) (H1:=H) (ak n) (λt:Nat=>[Fx ((ah ps t).length:Int)]) (λρ h=>(∃a,ρ=[a,some (aG n ps)])/\Fr [] H h)
  (JM o rfl) (by simp[bZ]) ⟨⟨none,rfl⟩,Gd⟩ (λ_ _ _=>rfl) (λk hk ρ h⟨⟨a,q⟩,f⟩=>by
   subst q;have C':k<n:=by simpa using hk
   have en:(ak n)[k]=k:=by simp
   rw[en];refine⟨.int (0+k),[some (.int (0+k)),some (aG n ps)],rfl,rfl,.inr ⟨h,rfl,λacc hl=>?_⟩⟩;rw[ou];have e:=TX (H:=h) (t:=(k:Int)) o (by lia) (by lia);have c:=pJ (F:=pD) (ρ:=[some (.int (k:Int)),some (aG n ps)]) (x:=1) (y:=0) rfl rfl e;have f2:Fr [] h (h++[Fy ((ah ps k).map Fx)]):=Fz;have g:getL (h++[Fy ((ah ps k).map Fx)]) h.length=some ((ah ps k).map Fx):=by simp[getL]
   generalize h++[Fy ((ah ps k).map Fx)]=h2 at c f2 g;refine⟨_,h2,uH (h1:=h2) ?_ hl,⟨_,rfl⟩,f.trans f2 (by simp)⟩;generalize aB pD (aJ (aA 1) (aA 0))=m at c;simp[aB,aR,c,aQ,f1,dU,eE,iC,fX,g]) (by
   have:=CV (N:=n) (B:=1) (f:=λt:Nat=>[Fx ((ah ps t).length:Int)]) (λ_=>by simp)
   lia)
 refine⟨H',?_,f⟩;rw[show hC [some (aG n ps),none] H=_ from w];unfold fJ;rw[ib];exact congrArg (λl=>Gp l H') (TZ _)
theorem yH:(fJ n ps).length=n:=by simp[fJ]
theorem za0(o:Bg n ps){j:Nat}(g:getL H j=some ((fJ n ps).map Fx)){m:Int}:vI [some (.int m),some (aG n ps),some (.ref j)] H=.ok ((qP n ps m).map Fx) H:=by
 have n6:=o.n6;have w:vI [some (.int m),some (aG n ps),some (.ref j)] H=.ok ((ak n).filterMap λt:Nat=>if decide ((fJ n ps).getD t 0=m)=true then some (Fx (t:Int))else none) H:=
  jK (ak n) (λt:Nat=>if decide ((fJ n ps).getD t 0=m)=true then some (Fx (t:Int))else none) (λρ=>∃a,ρ=[a,some (.int m),some (.ref j)]) (JM o rfl) (by simp[bZ]) ⟨none,rfl⟩ rfl (λk hk ρ⟨a,q⟩=>by
   subst q;have C':k<n:=by simpa using hk
   have en:(ak n)[k]=k:=by simp
   rw[en];refine⟨.int (0+k),[some (.int (0+k)),some (.int m),some (.ref j)],rfl,rfl,⟨_,rfl⟩,?_⟩;rw[ou];have e1:=yG (ρ:=[some (.int (k:Int)),some (.int m),some (.ref j)]) (i:=2) (x:=0) g rfl rfl (by rw[yH];exact C');have e:mB (m2 cE (m2 aO (aA 2) (aA 0)) (aA 1)) [some (.int (k:Int)),some (.int m),some (.ref j)] H=.ok (decide ((fJ n ps).getD k 0=m)) H:=by unfold mB;rw[eK e1 (mb:=aA 1) rfl (z:=.bl (decide ((fJ n ps).getD k 0=m))) (H3:=H) (uQ _ _)];rfl
   by_cases c:(fJ n ps).getD k 0=m
   ·rw[decide_eq_true c]at e⊢;exact⟨e,rfl⟩
   ·rw[decide_eq_false c]at e⊢;exact e) (by simp;lia)
 rw[w,xY];simp[qP,ib,qq]
theorem za1(o:Bg n ps):∃i H',xC [aG n ps] H=.ok (.ref i) H'/\getL H' i=some ((gY n ps).map bS)/\Fr [] H H':=by
 have n6:=o.n6;obtain⟨H1,w1,f1'⟩:=z9z (H:=H) o;have w2:aK (aX hC) (aD 1) [some (aG n ps),none] H=.nx [some (aG n ps),some (.ref H1.length)] (H1++[.lst ((fJ n ps).map Fx)]):=CN w1 rfl;have g2:getL (H1++[Fy ((fJ n ps).map Fx)]) H1.length=some ((fJ n ps).map Fx):=by simp[getL]
 have f2:Fr [] H1 (H1++[Fy ((fJ n ps).map Fx)]):=Fz;generalize H1++[Fy ((fJ n ps).map Fx)]=H2 at w2 g2 f2;generalize H1.length=j at w2 g2;generalize hK:dC jI (fJ n ps)=ks;have lk:ks.length<=6:=by rw[<-hK];have:=AF (lt:=jI) (fJ n ps);rw[yH]at this;lia
 have w3:aY bQ (aB (f1 rX) (aE (aA 1))) [some (aG n ps),some (.ref j)] H2=.ok (cI H2.length ks.length) (H2++[.lst (ks.map Fx)]):=by
  have h64:(fJ n ps).length<64:=by rw[yH];lia
  have g3:getL (H2++[Fy (ks.map Fx)]) H2.length=some (ks.map Fx):=by simp[getL]
  have hs:rX (.ref j) H2=.ok (.ref H2.length) (H2++[.lst (ks.map Fx)]):=by simp only[rX,g2,sE,h64,if_true,hK]
  simp[aY,aB,aR,aA,aQ,f1,hs,bQ,g3]
 have g3:getL (H2++[Fy (ks.map Fx)]) H2.length=some (ks.map Fx):=by simp[getL]
 have g4:getL (H2++[Fy (ks.map Fx)]) j=some ((fJ n ps).map Fx):=jT g2;have f3:Fr [] H2 (H2++[Fy (ks.map Fx)]):=Fz;generalize H2++[Fy (ks.map Fx)]=H3 at w3 g3 g4 f3;generalize H2.length=i3 at w3 g3;have w4:vC [some (aG n ps),some (.ref j)] H2=.ok (ks.filterMap λm=>some (bS (qP n ps m))) H3:=jK ks (λm=>some (bS (qP n ps m))) (λρ=>∃a,ρ=[a,some (aG n ps),some (.ref j)]) w3 rfl ⟨none,rfl⟩ (by simp[cI,g3]) (λk hk ρ⟨a,q⟩=>by subst q;refine⟨.int ks[k],[some (.int ks[k]),some (aG n ps),some (.ref j)],by simp[cI,g3,hk],rfl,⟨_,rfl⟩,rfl,?_⟩;unfold mL;rw[za0 o g4];rfl) (by lia);refine⟨H3.length,H3++[.lst ((gY n ps).map bS)],?_,by simp[getL],((f1'.trans f2 (by simp)).trans f3 (by simp)).trans (T:=[]) Fz (by simp)⟩;show bN (GY [some (aG n ps),none] H)=_;rw[z9y,bR w2];have e:(ks.filterMap λm=>some (bS (qP n ps m)))=(gY n ps).map bS:=by unfold gY;rw[hK,ib,<-km];rfl
 rw[e]at w4;exact(JL w4)
end
end L2.Mr.K74
namespace L2.Mr.K53
open L2.Mr.Cod
open L2.Mr.Com
open L2.Mr.K05 (iL jU mF nG mG nI)
open L2.Mr.K82 (lM nJ kS nK nM qH jV tY)
open L2.Mr.K63 (gM tZ)
open L2.Mr.Gen
open L2.Mr.Com
open L2.Mr.K05 (ix mI iN gX)
open L2.Mr.K63 (Seat sL CU)
open L2.Mr.Sp (Fv)
section
variable{n st:Nat}{ps:dn}{H:Hs}{ρ:Ev}{s r:y'}
def sM(n:Nat)(r:y'):y':=(ak n).map λt:Nat=>(ix r (t:Int):Int)
theorem CW{a:Int}(h0:0<=a)(h1:a<n):pl (sM n r) a=ix r a:=by
 have h:a.toNat<n:=by lia
 have e:((a.toNat:Nat):Int)=a:=by lia
 simp[pl,sM,h,e]
theorem pls_seat(o:Bg n ps)(h:Fv n ps r):Seat n ps (sM n r):=by
 refine⟨by simp[sM],λx hx=>?_,λq hq=>?_⟩
 ·obtain⟨t,ht,rfl⟩:=br.mp hx;have Fp:=bg.mp ht;have:=mI (h.mem (x:=(t:Int)) (by lia) (by lia));rw[h.len]at this
  lia
 ·have hr:=o.rng q hq;rw[CW hr.1 hr.2.1,CW hr.2.2.1 hr.2.2.2];have:=h.up q hq
  lia
theorem pls_reach(o:Bg n ps)(h:Fv n ps r):lO n ps (sM n r)=iN n ps r:=by
 have e:((cO n ps).map λq=>sL (pl (sM n r) q.1-pl (sM n r) q.2))=(cO n ps).map (gX r):=by refine Au λq hq=>?_;have hm:=Br.mp hq;rw[CW hm.1 (by lia),CW (by lia) hm.2.2.1];rfl
 rw[CU,e,K05.max0 λx hx=>by obtain⟨q,_,rfl⟩:=br.mp hx;exact K05.apI_0 q];rfl
end
open L2.Mr.K05 (ix mI iN gX)
open L2.Mr.K63 (Seat sL CU gM TQ TL pJ oA qO nX mK vv nZ qN hW)
section
variable{n st:Nat}{ps:dn}{H:Hs}{ρ:Ev}{s r:y'}
theorem za2(o:Bg n ps)(S:Seat n ps s):∃gs,dO n ps (lO n ps s)=some gs/\sJ n gs s:=by
 have F:=TQ S
 cases c:dO n ps (lO n ps s)with
 |none=>exact(TK o c F).elim
 |some gs=>exact⟨gs,rfl,z9l o c F⟩
theorem least_le(o:Bg n ps)(S:Seat n ps s){v:Nat}(hy:∀u:Nat,u<v->dO n ps u=none):(v:Int)<=lO n ps s:=by
 obtain⟨gs,e,_⟩:=za2 o S;have r0:=TL n ps s
 by_cases c:lO n ps s<v
 ·have:=hy (lO n ps s).toNat (by lia);rw[show(((lO n ps s).toNat:Nat):Int)=lO n ps s by lia,e]at this;cases this
 ·lia
end
end L2.Mr.K53
namespace L2.Mr.K74
open L2.Mr.Gen
open L2.Mr.Cod
open L2.Mr.Com
open L2.Mr.K60 (iK kC)
open L2.Mr.K82 (jH lL)
open L2.Mr.Sp (pI)
def gen:Nat->Nat->wo
 |0,_=>[[]]
 |f+1,s=>[]::(ak s).flatMap λi=>(gen f (s-(i+1))).map λt=>((i:Int)+1)::t
theorem T1:∀(f s:Nat)(ns:y'),ns.length<=f->(∀n∈ns,1<=n)->ns.sum<=s->ns∈gen f s
 |0,s,ns,hl,hp,hs=>by have:ns=[]:=jy.mp (by lia);subst this;simp[gen]
 |f+1,s,[],hl,hp,hs=>by simp[gen]
 |f+1,s,n::ns,hl,hp,hs=>by have h1:=hp n (by simp);have hp':∀m∈ns,1<=m:=λm hm=>hp m (by simp[hm]);have h2:=JI ns hp';simp at hs hl;have:=T1 f (s-((n-1).toNat+1)) ns hl hp' (by lia);simp only[gen,aw,jf,bg,br];exact .inr ⟨(n-1).toNat,by lia,ns,this,by simp;lia⟩
theorem CY{P:y'->Bool}(h:((gen 6 6).all λns=>ns.isEmpty||P ns)=true){ns:y'}(o:Ex ns)(hs:ns.sum<=6):P ns=true:=by
 have h:=fg.mp h ns (T1 6 6 ns o.l6 o.pos (by simpa using hs));have hl:=o.l1
 cases ns with
 |nil=>simp at hl
 |cons n t=>simpa using h
def CZ(n:Nat)(ps:dn):Bool:=decide (1<=n)&&decide (n<=6)&&decide (∀p∈ps,0<=p.1/\p.1<n/\0<=p.2/\p.2<n)&&decide (jG gG ps)&&decide (∀p∈ps,p.1≠p.2)&&decide (∀p∈ps,∀q∈ps,p.2=q.1->(p.1,q.2)∈ps)
theorem oD{n:Nat}{ps:dn}(h:CZ n ps=true):Bg n ps:=by simp only[CZ,cu,decide_eq_true_eq]at h;exact⟨h.1.1.1.1.1,h.1.1.1.1.2,h.1.1.1.2,h.1.1.2,h.1.2,h.2⟩
def qQ(ns:y'):y':=(iH ns).drop (ns.length-2)
def oE(ns:y'):Int:=if ns.length=1 then 0 else -(-((qQ ns).sum-2)/2)
def T3(ns:y'):Bool:=CZ (dI ns).length (lN (dI ns))&&CZ (dI ns).length (sG (dI ns))
theorem za3:((gen 6 6).all λns=>ns.isEmpty||T3 ns)=true:=by decide+kernel
def T4(ns:y'):Bool:=(dO (dI ns).length (lN (dI ns)) 0).isSome&&decide (0<=oE ns)&&decide (oE ns<=5)&&(dO (dI ns).length (sG (dI ns)) (oE ns)).isSome&&(ak (oE ns).toNat).all λu:Nat=>(dO (dI ns).length (sG (dI ns)) u).isNone
theorem za4:((gen 6 6).all λns=>ns.isEmpty||T4 ns)=true:=by decide+kernel
def T5(ns:y'):Bool:=pI (dI ns).length (lN (dI ns))==cY ns-1
theorem za5:((gen 6 6).all λns=>ns.isEmpty||T5 ns)=true:=by decide+kernel
def za6(ns:y'):Bool:=decide (((gY (dI ns).length (lN (dI ns))).map λl=>(l.length:Int))=ns)
theorem za7:((gen 6 6).all λns=>ns.isEmpty||za6 ns)=true:=by decide+kernel
open L2.Mr.K63 (pJ oA qO nX mK vv nZ qN hW nY qM)
open L2.Mr.K63 (gM)
section
variable{n:Nat}{ps:dn}{H:Hs}{t:Int}
theorem za8(o:Bg n ps)(hb:hZ n ps=[]){a b:Nat}(ha:a<n)(hb':b<n)(hl:Lse ps a b):nS n ps a=nS n ps b:=by
 have key:∀a b:Nat,a<n->b<n->Lse ps a b->∀c:Nat,c<n->((c:Int),(a:Int))∈ps->((c:Int),(b:Int))∈ps:=λa b ha hb' hl c hc h=>by
  by_cases h1:((c:Int),(b:Int))∈ps
  ·exact h1
  ·exfalso
   have h2:((b:Int),(c:Int))∉ps:=λz=>hl.2.2 (o.tr _ z _ h rfl);have h3:(c:Int)≠b:=λz=>hl.2.2 (by rw[<-z];exact h);have:=z9p (n:=n) (ps:=ps) hc hb' ha ⟨h,⟨h3,h1,h2⟩,⟨hl.1.symm,hl.2.2,hl.2.1⟩⟩;rw[hb]at this;cases this
 unfold nS;refine congrArg nv (List.filter_congr λc hc=>?_);have hc':=bg.mp hc;have e:((c:Int),(a:Int))∈ps↔((c:Int),(b:Int))∈ps:=⟨key a b ha hb' hl c hc',key b a hb' ha ⟨hl.1.symm,hl.2.2,hl.2.1⟩ c hc'⟩
 simp only[e]
theorem za9(o:Bg n ps)(hb:hZ n ps=[]):dO n ps 0≠none:=λz=>by
 have at_:∀{a:Int},0<=a->a<n->pl ((ak n).map λt:Nat=>(nS n ps t:Int)) a=nS n ps a:=λ{a}h0 h1=>by
  have h:a.toNat<n:=by lia
  have e:((a.toNat:Nat):Int)=a:=by lia
  simp[pl,h,e]
 refine TK o z (s:=(ak n).map λt:Nat=>(nS n ps t:Int)) ⟨by simp,λx hx=>?_,λp hp=>?_,λa b a0 a1 b0 b1 hl=>?_⟩
 ·obtain⟨t,ht,rfl⟩:=br.mp hx;have:=IW o (bg.mp ht)
  lia
 ·have r:=o.rng p hp;rw[at_ r.1 r.2.1,at_ r.2.2.1 r.2.2.2];have:=R8 o (show(p.1,p.2)∈ps from hp)
  lia
 ·rw[at_ a0 a1,at_ b0 b1];have:=za8 o hb (a:=a.toNat) (b:=b.toNat) (by lia) (by lia) (by rw[show((a.toNat:Nat):Int)=a by lia,show((b.toNat:Nat):Int)=b by lia];exact hl);rw[show((a.toNat:Nat):Int)=a by lia,show((b.toNat:Nat):Int)=b by lia]at this
  lia
theorem T6(o:Bg n ps){q:Int×Int×Int}(hq:q∈hZ n ps):dO n ps 0=none:=by
 cases e:dO n ps 0 with
 |none=>rfl
 |some gs=>
  exfalso
  have F:=z9k o e;obtain⟨a,b,c,ha,hb,hc,_,h1,h2,h3⟩:=TU hq;have u:=F.up _ h1;have n1:=F.near b a (by lia) (by lia) (by lia) (by lia) ⟨h2.1.symm,h2.2.2,h2.2.1⟩;have n2:=F.near c b (by lia) (by lia) (by lia) (by lia) ⟨h3.1.symm,h3.2.2,h3.2.1⟩
  lia
theorem T7{f:Nat->Int}{xs:Aw}:∀{ks:y'},ks.Nodup->(ks.map λm=>((xs.filter λt=>decide (f t=m)).length:Int)).sum=(xs.filter λt=>decide (f t∈ks)).length
 |[],_=>by rw[zi.mpr (by simp)];rfl
 |k::ks,h=>by
  obtain⟨h1,h2⟩:=jm.mp h;rw[du,vk,T7 h2];have:∀l:Aw,(l.filter λt=>decide (f t∈k::ks)).length=(l.filter λt=>decide (f t=k)).length+(l.filter λt=>decide (f t∈ks)).length:=λl=>by
   induction l with
   |nil=>rfl
   |cons x l ih=>
    rw[gw,gw,gw]
    by_cases c:f x=k
    ·rw[if_pos (by simp[c]),if_pos (by simp[c]),if_neg (by simp[c];exact h1)];simp only[bu]
     lia
    ·by_cases c':f x∈ks
     ·rw[if_pos (by simp[c']),if_neg (by simp[c]),if_pos (by simp[c'])];simp only[bu]
      lia
     ·rw[if_neg (by simp[c,c']),if_neg (by simp[c]),if_neg (by simp[c'])];exact ih
  rw[this]
  lia
theorem zaa:((gY n ps).map λl=>(l.length:Int)).sum=n:=by
 unfold gY;rw[ib];have e:((λl:y'=>(l.length:Int))∘qP n ps)=λm=>(((ak n).filter λt:Nat=>decide ((fJ n ps).getD t 0=m)).length:Int):=by
  funext m
  simp[qP]
 rw[e,T7 (qA nO (rN nO _))];have:((ak n).filter λt:Nat=>decide ((fJ n ps).getD t 0∈dC jI (fJ n ps)))=ak n:=by
  refine Av.mpr λt ht=>?_;have Fp:t<(fJ n ps).length:=by rw[yH];exact bg.mp ht
  rw[decide_eq_true_eq,oZ nO];simp[Fp]
 rw[this,dm]
abbrev lI:MS:=bP (cF (aA 2)) (aL (bH (aJ (mC (.str "bar")) (m2 aO (aA 2) (aF 0))))) cA
abbrev lR:MS:=aL (bH (aJ (mC (.str "levels")) (aB xC (aE (aA 0)))))
theorem zab:GZ=aH (bV (aB eJ (aE (aA 0)))) (aH (aK (aB (f1 nE) (aE (m2 aO (aA 0) (aF 0)))) (aD 1)) (aH (aK (aX bC) (aD 2)) (aH lI lR))):=rfl
theorem T9(o:Bg n ps):∃i H',jJ [aG n ps] H=bN (aH lI lR [some (aG n ps),some (.ref H.length),some (.ref i)] H')/\getL H' i=some ((hZ n ps).map fQ)/\Fr [] H H':=by
 have n6:=o.n6;have w1:bV (aB eJ (aE (aA 0))) [some (aG n ps),none,none] H=.nx [some (aG n ps),none,none] H:=K82.ex1 (x:=0) (ρ:=[some (aG n ps),none,none]) rfl (K82.need_ok o);have w2:aK (aB (f1 nE) (aE (m2 aO (aA 0) (aF 0)))) (aD 1) [some (aG n ps),none,none] H=.nx [some (aG n ps),some (.ref H.length),none] (H++[.lst ((bJ n).map Fx)]):=by refine xZ (v:=.ref H.length) ?_ rfl;have e:m2 aO (aA 0) (aF 0) [some (aG n ps),none,none] H=.ok (.int n) H:=eK (ma:=aA 0) (mb:=aF 0) rfl rfl rfl;generalize m2 aO (aA 0) (aF 0)=m at e;simp[aB,aR,e,aQ,f1,RP n6]
 have g2:getL (H++[Fy ((bJ n).map Fx)]) H.length=some ((bJ n).map Fx):=by simp[getL]
 have f2:Fr [] H (H++[Fy ((bJ n).map Fx)]):=Fz;generalize H++[Fy ((bJ n).map Fx)]=H2 at w2 g2 f2;have w3:aK (aX bC) (aD 2) [some (aG n ps),some (.ref H.length),none] H2=.nx [some (aG n ps),some (.ref H.length),some (.ref H2.length)] (H2++[.lst ((hZ n ps).map fQ)]):=CN (z9s n6 g2) rfl;refine⟨H2.length,H2++[.lst ((hZ n ps).map fQ)],?_,by simp[getL],f2.trans (T:=[]) Fz (by simp)⟩;show bN (GZ [some (aG n ps),none,none] H)=_;rw[zab,bR w1,bR w2,bR w3]
theorem UA(o:Bg n ps)(hb:hZ n ps=[]):∃i H',jJ [aG n ps] H=.ok (.tup [.str "levels",.ref i]) H'/\getL H' i=some ((gY n ps).map bS)/\Fr [] H H':=by
 obtain⟨j,H1,e1,g1,f1⟩:=T9 (H:=H) o;rw[hb]at g1;obtain⟨i,H2,e2,g2,f2⟩:=za1 (H:=H1) o;refine⟨i,H2,?_,g2,f1.trans f2 (by simp)⟩;have t:cF (aA 2) [some (aG n ps),some (.ref H.length),some (.ref j)] H1=.ok false H1:=by simp[cF,aA,jZ,g1]
 rw[e1,bR (m:=lI) (kQ t)];exact mK (hW (ma:=mC (.str "levels")) rfl (K61.call1 (F:=xC) (x:=0) rfl e2))
theorem zac(o:Bg n ps){q:Int×Int×Int}{qs:List (Int×Int×Int)}(hb:hZ n ps=q::qs):∃H',jJ [aG n ps] H=.ok (.tup [.str "bar",fQ q]) H'/\Fr [] H H':=by
 obtain⟨j,H1,e1,g1,f1⟩:=T9 (H:=H) o;rw[hb]at g1;refine⟨H1,?_,f1⟩;have t:cF (aA 2) [some (aG n ps),some (.ref H.length),some (.ref j)] H1=.ok true H1:=by simp[cF,aA,jZ,g1]
 have ei:aO (.ref j) (.int 0) H1=.ok (fQ q) H1:=by simp[aO,eE,eO,g1,gJ,dY,eH]
 have e2:lI [some (aG n ps),some (.ref H.length),some (.ref j)] H1=.rt (.tup [.str "bar",fQ q]) H1:=by unfold lI;rw[pZ t];have:=hW (ma:=mC (.str "bar")) (ρ:=[some (aG n ps),some (.ref H.length),some (.ref j)]) (H:=H1) rfl (eK (ma:=aA 2) (mb:=aF 0) rfl rfl ei);unfold aL;rw[this];rfl
 rw[e1];unfold aH;rw[e2];rfl
end
open L2.Mr.K63 (pJ oA qO nX mK vv nZ qN hW nY qM gM)
section
variable{n:Nat}{ps:dn}{H:Hs}{t:Int}{ρ:Ev}
theorem UB(a b:Str):cE (.str a) (.str b) H=.ok (.bl (a==b)) H:=by simp[cE,cX,cG,bX]
theorem zad(a b:Bool):dR (.bl a) (.bl b) H=.ok (.bl (a !=b)) H:=by cases a<;>cases b<;>simp[dR,cX,cG,bX]<;>rfl
abbrev rL:M Dv:=m2 cE (aA 1) (mC (.str "levels"))
abbrev rI:MS:=bP (mB (m2 dR rL (m2 cE (aB gM (aE (aA 0))) (aF 0)))) (aL (mC (.bl false))) cA
abbrev nL(i:Nat):M Az:=bA (aY bQ (aA i)) [none] (aD 0) bK (aU (aB (f1 dU) (aE (aA 0))))
abbrev rS:MS:=bP (mB rL) (aL (m2 cE (aB (f1 iV) (aE (aX (nL 2)))) (m2 aO (aA 0) (aF 0)))) cA
abbrev rE:MS:=aL (dE (m2 (cN false) (aA 3) (aB pD (aJ (aA 0) (aA 5)))) (dE (m2 (cN false) (aA 4) (aB uA (aJ (aA 0) (aA 3)))) (m2 (cN false) (aA 5) (aB uA (aJ (aA 0) (aA 4))))))
theorem zae:G0=aH (aK (aB jJ (aE (aA 0))) (cV 2 (aW (aD 1) (aW (aD 2) cW)))) (aH rI (aH rS (aH (aK (aA 2) (cV 3 (aW (aD 3) (aW (aD 4) (aW (aD 5) cW))))) rE))):=rfl
theorem UC{mi:M Src}{H1:Hs}{i:Nat}{ls:wo}(hl:ls.length<=100)(hi:mi ρ H=.ok (cI i ls.length) H1)(g:getL H1 i=some (ls.map bS)):bA mi [none] (aD 0) bK (aU (aB (f1 dU) (aE (aA 0)))) ρ H=.ok ((ls.map λl=>(l.length:Int)).map Fx) H1:=by rw[jK ls (λl=>some (.int (l.length:Int))) (λρ=>∃a,ρ=[a]) hi rfl ⟨none,rfl⟩ (by simp[cI,g]) (λk hk ρ⟨a,q⟩=>by subst q;refine⟨bS ls[k],[some (bS ls[k])],by simp[cI,g,hk],rfl,⟨_,rfl⟩,rfl,?_⟩;rw[z87 (i:=0) (ds:=ls[k].map Fx) rfl,ax]) (by lia)];rw[ib,<-km];rfl
theorem UD(o:Bg n ps):(gY n ps).length<=6:=by
 have:=AF (lt:=jI) (fJ n ps);rw[yH]at this;have:=o.n6;unfold gY;rw[ax]
 lia
theorem zaf(o:Bg n ps):∃H',m2 cE (aB gM (aE (aA 0))) (aF 0) (some (aG n ps)::ρ) H=.ok (.bl (dO n ps 0).isSome) H'/\Fr [] H H':=by
 obtain⟨v,hv,hx,hy⟩:=z7r o;obtain⟨H1,e1,f1⟩:=K63.reach_ok (H:=H) o hv hx hy;refine⟨H1,?_,f1⟩;rw[eK (K61.call1 (F:=gM) (ρ:=some (aG n ps)::ρ) (x:=0) rfl e1) (mb:=aF 0) rfl (uQ _ _)]
 by_cases c:v=0
 ·subst c;obtain⟨fs,hx⟩:=hx;rw[show dO n ps 0=some fs from hx];rfl
 ·have:=hy 0 (by lia);rw[show dO n ps 0=none from this,decide_eq_false (by lia)];rfl
theorem UE{w:Str}{x0:A'}{r4:Ev}{b:Bool}(h:(w=="levels")=b):mB rL (x0::some (.str w)::r4) H=.ok b H:=by subst h;have e0:rL (x0::some (.str w)::r4) H=.ok (.bl (w=="levels")) H:=eK (ma:=aA 1) (mb:=mC (.str "levels")) rfl rfl (UB _ _);unfold mB;rw[e0];rfl
theorem CM(o:Bg n ps){w:Str}{d:Dv}(hw:(w=="levels")=(dO n ps 0).isSome){r4:Ev}:∃H',rI (some (aG n ps)::some (.str w)::some d::r4) H=.nx (some (aG n ps)::some (.str w)::some d::r4) H'/\Fr [] H H':=by
 obtain⟨H1,e1,f1⟩:=zaf (H:=H) (ρ:=some (.str w)::some d::r4) o;refine⟨H1,?_,f1⟩;have e0:rL (some (aG n ps)::some (.str w)::some d::r4) H=.ok (.bl (w=="levels")) H:=eK (ma:=aA 1) (mb:=mC (.str "levels")) rfl rfl (UB _ _);have t:mB (m2 dR rL (m2 cE (aB gM (aE (aA 0))) (aF 0))) (some (aG n ps)::some (.str w)::some d::r4) H=.ok false H1:=by unfold mB;rw[eK e0 e1 (zad _ _),hw];simp[dZ]
 exact(kQ t).trans rfl
theorem zag(h:((a:Int),t)∈ps):a∈ah ps t:=br.mpr ⟨(a,t),gi.mpr ⟨h,by simp⟩,rfl⟩
theorem UG{b:Nat}(hb:b<n)(h:Lse ps t b):(b:Int)∈lf n ps t:=br.mpr ⟨b,gi.mpr ⟨bg.mpr hb,by simpa using h⟩,rfl⟩
theorem JN{F:Ay}{d:Dv}{x:Int}{xs:y'}{i j k:Nat}{y:Dv}(e:F [d,y] H=.ok (.ref H.length) (H++[.lst (xs.map Fx)]))(hi:At ρ i (.int x))(hj:At ρ j d)(hk:At ρ k y)(hx:x∈xs):m2 (cN false) (aA i) (aB F (aJ (aA j) (aA k))) ρ H=.ok (.bl true) (H++[.lst (xs.map Fx)]):=by refine eK (vv hi) (pJ hj hk e) ?_;rw[SH false x (xs:=xs) (by simp[getL])];simp[hx]
theorem zah(o:Bg n ps):∃H',xG [aG n ps] H=.ok (.bl true) H'/\Fr [] H H':=by
 show ∃H',bN (G0 [some (aG n ps),none,none,none,none,none] H)=.ok (.bl true) H'/\Fr [] H H';rw[zae]
 cases hb:hZ n ps with
 |nil=>
  obtain⟨i,H1,e1,g1,f1'⟩:=UA (H:=H) o hb;have w1:aK (aB jJ (aE (aA 0))) (cV 2 (aW (aD 1) (aW (aD 2) cW))) [some (aG n ps),none,none,none,none,none] H=.nx [some (aG n ps),some (.str "levels"),some (.ref i),none,none,none] H1:=by unfold aK;rw[K61.call1 (F:=jJ) (x:=0) rfl e1];rfl
  have hs:(dO n ps 0).isSome=true:=by
   cases c:dO n ps 0 with
   |none=>exact absurd c (za9 o hb)
   |some _=>rfl
  obtain⟨H2,w2,f2⟩:=CM (H:=H1) o (w:="levels") (d:=.ref i) (r4:=[none,none,none]) (by rw[hs];rfl);have g2:=f2.getL g1 (by simp);have t:mB rL [some (aG n ps),some (.str "levels"),some (.ref i),none,none,none] H2=.ok true H2:=UE rfl;have hl:=UD o;have c1:=UC (mi:=aY bQ (aA 2)) (ρ:=[some (aG n ps),some (.str "levels"),some (.ref i),none,none,none]) (H:=H2) (ls:=gY n ps) (by lia) (by simp[aY,aA,bQ,g2]) g2;have c2:aB (f1 iV) (aE (aX (nL 2))) [some (aG n ps),some (.str "levels"),some (.ref i),none,none,none] H2=.ok (.int n) (H2++[.lst (((gY n ps).map λl=>(l.length:Int)).map Fx)]):=by
   have s:=CP (ns:=(gY n ps).map λl=>(l.length:Int)) (H:=H2++[.lst (((gY n ps).map λl=>(l.length:Int)).map Fx)]) (j:=H2.length) (by simp[getL]);rw[zaa]at s;generalize ((gY n ps).map λl=>(l.length:Int)).map Fx=xs at c1 s;have ea:aX (nL 2) [some (aG n ps),some (.str "levels"),some (.ref i),none,none,none] H2=.ok (.ref H2.length) (H2++[.lst xs]):=by unfold aX;rw[show nL 2 [some (aG n ps),some (.str "levels"),some (.ref i),none,none,none] H2=_ from c1];rfl
   generalize aX (nL 2)=m at ea;simp[aB,aR,ea,aQ,f1,s]
  have f3:Fr [] H2 (H2++[Fy (((gY n ps).map λl=>(l.length:Int)).map Fx)]):=Fz;generalize H2++[Fy (((gY n ps).map λl=>(l.length:Int)).map Fx)]=H3 at c2 f3;refine⟨H3,?_,(f1'.trans f2 (by simp)).trans f3 (by simp)⟩;have w3:rS [some (aG n ps),some (.str "levels"),some (.ref i),none,none,none] H2=.rt (.bl true) H3:=by unfold rS;rw[pZ t];unfold aL;rw[eK c2 (eK (ma:=aA 0) (mb:=aF 0) rfl rfl (z:=.int n) (H3:=H3) rfl) (uQ _ _)];simp
  rw[bR w1,bR w2];unfold aH;rw[w3];rfl
 |cons q qs=>
  have hq:q∈hZ n ps:=by rw[hb];exact bf ..
  obtain⟨H1,e1,f1'⟩:=zac (H:=H) o hb;obtain⟨a,b,c,ha,hb',hc,rfl,h1,h2,h3⟩:=TU hq;have w1:aK (aB jJ (aE (aA 0))) (cV 2 (aW (aD 1) (aW (aD 2) cW))) [some (aG n ps),none,none,none,none,none] H=.nx [some (aG n ps),some (.str "bar"),some (fQ ((a:Int),(b:Int),(c:Int))),none,none,none] H1:=by unfold aK;rw[K61.call1 (F:=jJ) (x:=0) rfl e1];rfl
  obtain⟨H2,w2,f2⟩:=CM (H:=H1) o (w:="bar") (d:=fQ ((a:Int),(b:Int),(c:Int))) (r4:=[none,none,none]) (by rw[T6 o hq];rfl);have t:mB rL [some (aG n ps),some (.str "bar"),some (fQ ((a:Int),(b:Int),(c:Int))),none,none,none] H2=.ok false H2:=UE rfl;have w3:rS [some (aG n ps),some (.str "bar"),some (fQ ((a:Int),(b:Int),(c:Int))),none,none,none] H2=.nx [some (aG n ps),some (.str "bar"),some (fQ ((a:Int),(b:Int),(c:Int))),none,none,none] H2:=(kQ t).trans rfl;have w4:aK (aA 2) (cV 3 (aW (aD 3) (aW (aD 4) (aW (aD 5) cW)))) [some (aG n ps),some (.str "bar"),some (fQ ((a:Int),(b:Int),(c:Int))),none,none,none] H2=.nx [some (aG n ps),some (.str "bar"),some (fQ ((a:Int),(b:Int),(c:Int))),some (.int a),some (.int b),some (.int c)] H2:=rfl;rw[bR w1,bR w2,bR w3,bR w4];generalize hρ:[some (aG n ps),some (.str "bar"),some (fQ ((a:Int),(b:Int),(c:Int))),some (.int a),some (.int b),some (.int c)]=ρ;have a0:At ρ 0 (aG n ps):=by rw[<-hρ];rfl
  have a3:At ρ 3 (.int a):=by rw[<-hρ];rfl
  have a4:At ρ 4 (.int b):=by rw[<-hρ];rfl
  have a5:At ρ 5 (.int c):=by rw[<-hρ];rfl
  have x1:=JN (TX (H:=H2) (t:=(c:Int)) o (by lia) (by lia)) a3 a0 a5 (zag h1);have f3:Fr [] H2 (H2++[Fy ((ah ps c).map Fx)]):=Fz;generalize H2++[Fy ((ah ps c).map Fx)]=H3 at x1 f3;have x2:=JN (TY (H:=H3) (t:=(a:Int)) o (by lia) (by lia)) a4 a0 a3 (UG hb' h2);have f4:Fr [] H3 (H3++[Fy ((lf n ps a).map Fx)]):=Fz;generalize H3++[Fy ((lf n ps a).map Fx)]=H4 at x2 f4;have x3:=JN (TY (H:=H4) (t:=(b:Int)) o (by lia) (by lia)) a5 a0 a4 (UG hc h3);have f5:Fr [] H4 (H4++[Fy ((lf n ps b).map Fx)]):=Fz;refine⟨_,mK ((nY x1).trans ((nY x2).trans x3)),(((f1'.trans f2 (by simp)).trans f3 (by simp)).trans f4 (by simp)).trans f5 (by simp)⟩
end
section
variable{ns:y'}{H:Hs}{i j:Nat}
theorem zai(ej:getL H j=some (ns.map Fx))(ei:getL H i=some (ns.map Fx)):dR (.ref j) (.ref i) H=.ok (.bl false) H:=by
 have p:∀k,getL H k=some (ns.map Fx)->cG cX H (.ref k)=some (.lst (ns.map Gn)):=λk e=>by show cG (28+1+1) H (.ref k)=_;rw[cG];simp only[e,rJ]
 unfold dR;rw[p j ej,p i ei];simp[bX,IT]
theorem zaj(o:Ex ns)(e:getL H j=some (ns.map Fx)):uB [.ref j] H=.ok (.int (cY ns-1)) H:=by have h:=need_ok o e;have h0:0<ns.length:=o.l1;simp[uB,QN,aT,dJ,aH,bV,aB,aR,aQ,aA,h,f1,fV,e,sE,h0,aL,m2,eX,gQ,mC,bN]
theorem zak(o:Ex ns)(h2:ns.length≠1):mX ((iH ns).map Fx) (some (-2)) none=(qQ ns).map Fx:=by
 have hl:=o.l1;have hs:((iH ns).map Fx).length=ns.length:=by simp[FH]
 have e:HT.sIx ((iH ns).map Fx).length 0 (some (-2))=ns.length-2:=by rw[hs];unfold HT.sIx;dsimp only;rw[if_pos (by decide)];lia
 unfold mX qQ;rw[e,HT.sIx_none,hs,pj]
 apply oi
 simp[FH]
abbrev yI:M Dv:=qD (aB (f1 tR) (aE (aA 0))) (pU (m1 lF (aF 2))) pT
theorem zal(o:Ex ns)(h2:ns.length≠1)(e:getL H j=some (ns.map Fx)){ρ:Ev}(hρ:ρ[0]?=some (some (.ref j))):∃H',yI ρ H=.ok (.ref (H.length+1)) H'/\getL H' (H.length+1)=some ((qQ ns).map Fx)/\Fr [] H H':=by
 have h64:ns.length<64:=by have:=o.l6;lia
 have e1:getL (H++[.lst ((iH ns).map Fx)]) H.length=some ((iH ns).map Fx):=by simp[getL]
 refine⟨H++[.lst ((iH ns).map Fx)]++[.lst ((qQ ns).map Fx)],?_,by simp[getL],Fr.trans (T:=[]) Fz Fz (by simp)⟩;have hc:=zak o h2;simp only[yI,qD,aB,aR,aA,hρ,aQ,Rs.bind_ok,f1,tR,wD,e,sE,h64,if_true,pU,m1,mC,lF,E7,pT,wU,e1,hc];simp
abbrev JO:M Bool:=mB (m2 cE (aB (f1 dU) (aE (aA 0))) (aF 1))
theorem zam(e:getL H j=some (ns.map Fx)):JO [some (.ref j)] H=.ok (decide (ns.length=1)) H:=by
 have c:aB (f1 dU) (aE (aA 0)) [some (.ref j)] H=.ok (.int (ns.length:Int)) H:=by simp[aB,aR,aA,aQ,f1,dU,eE,iC,fX,e]
 unfold JO mB;rw[eK c (mb:=aF 1) rfl (uQ _ _)];have:decide ((ns.length:Int)=1)=decide (ns.length=1):=by rw[gq];simp;lia
 rw[this];rfl
abbrev cR:MS:=aL (aB iK (aJ (m2 eX (aB (f1 iV) (aE yI)) (aF 2)) (aF 2)))
theorem zan:GX=aH (bV (aB pE (aE (aA 0)))) (aH (bP JO (aL (aF 0)) cA) cR):=rfl
theorem zao(s:Int):iK [.int s,.int 2] H=.ok (.int (-(-s/2))) H:=by simp[iK,kC,aT,dJ,aL,m1,lF,m2,aA,rH,lV,tN,bN]
theorem UH(o:Ex ns)(e:getL H j=some (ns.map Fx)):∃H',pF [.ref j] H=.ok (.int (oE ns)) H'/\Fr [] H H':=by
 have w0:bV (aB pE (aE (aA 0))) [some (.ref j)] H=.nx [some (.ref j)] H:=K82.ex1 (x:=0) (ρ:=[some (.ref j)]) rfl (need_ok o e);have t:=zam e;show ∃H',bN (GX [some (.ref j)] H)=_/\_;rw[zan,bR w0]
 by_cases h1:ns.length=1
 ·refine⟨H,?_,Gd⟩;unfold aH;rw[pZ (t.trans (by rw[decide_eq_true h1]))];simp[aL,mC,bN,oE,h1]
 ·obtain⟨H',hs,es,fs⟩:=zal o h1 e (ρ:=[some (.ref j)]) rfl;refine⟨H',?_,fs⟩;rw[bR (ρ1:=[some (.ref j)]) (h1:=H) (by rw[kQ (t.trans (by rw[decide_eq_false h1]))];rfl)];have c:aB (f1 iV) (aE yI) [some (.ref j)] H=.ok (.int (qQ ns).sum) H':=by generalize yI=m at hs;simp[aB,aR,hs,aQ,f1,CP es]
  have c2:=eK (f:=eX) c (mb:=aF 2) rfl (z:=.int ((qQ ns).sum-2)) (H3:=H') rfl;refine(mK (oA (F:=iK) c2 (mb:=aF 2) rfl (zao _))).trans ?_;simp[oE,h1]
theorem zap{k:Int}(h0:1<=k)(h1:k<=6):∃n ps,xD [.int k] H=.ok (aG n ps) H/\Bg n ps:=by
 have:k=1∨k=2∨k=3∨k=4∨k=5∨k=6:=by lia
 rcases this with rfl|rfl|rfl|rfl|rfl|rfl
 ·exact⟨1,[],rfl,oD (by decide+kernel)⟩
 ·exact⟨2,[(0,1)],rfl,oD (by decide+kernel)⟩
 ·exact⟨3,[(0,1),(2,1)],rfl,oD (by decide+kernel)⟩
 ·exact⟨4,[(0,1),(2,1),(2,3)],rfl,oD (by decide+kernel)⟩
 ·exact⟨5,[(0,1),(2,1),(2,3),(4,3)],rfl,oD (by decide+kernel)⟩
 ·exact⟨6,[(0,1),(2,1),(2,3),(4,3),(4,5)],rfl,oD (by decide+kernel)⟩
theorem zaq{k:Int}(h0:2<=k)(h1:k<=3):∃n ps,xE [.int k] H=.ok (aG n ps) H/\Bg n ps:=by
 have:k=2∨k=3:=by lia
 rcases this with rfl|rfl
 ·exact⟨4,[(0,3),(1,2)],rfl,oD (by decide+kernel)⟩
 ·exact⟨6,[(0,4),(0,5),(1,3),(1,5),(2,3),(2,4)],rfl,oD (by decide+kernel)⟩
end
open L2.Mr.K82 (jV)
abbrev tFe:M Dv:=(aB xD (aE (m2 cD (aF 1) (aB dH (aJ (aA 2) (aF 6))))))
abbrev tCr:M Dv:=(aB xE (aE (m2 cD (aF 2) (aB dH (aJ (aA 2) (aF 2))))))
abbrev tB:MS:=(bP (gD (mB (m2 (lX true) (aB mE (aE (aA 7))) (mC (.bl true)))) (eN (cF (aB xG (aE (aA 7)))))) (aL (mC (.bl false))) cA)
abbrev UI:MS:=(bP (mB (m2 dR (aX (bA (aY bQ (m2 aO (aB jJ (aE (aA 4))) (aF 1))) [none] (aD 0) bK (aU (aB (f1 dU) (aE (aA 0)))))) (aA 3))) (aL (mC (.bl false))) cA)
abbrev UJ:MS:=(bP (gD (mB (m2 dR (aB jV (aE (aA 4))) (aB uB (aE (aA 3))))) (mB (m2 dR (aB gM (aE (aA 4))) (aF 0)))) (aL (mC (.bl false))) cA)
abbrev UK:MS:=(bP (gD (mB (m2 dR (aB gM (aE (aA 5))) (aB pF (aE (aA 3))))) (mB (m2 fH (aB jV (aE (aA 5))) (aB pF (aE (aA 3)))))) (aL (mC (.bl false))) cA)
theorem zar(scr:y'):A7 scr=(aH (aK (aB (rR scr) (aJ (aA 0) (aA 1))) (aD 2)) (aH (aK (aB xF (aE (aA 2))) (aD 3)) (aH (tX 4 5 (aJ (aB xA (aE (aA 3))) (aB xB (aE (aA 3))))) (aH (aK (bY (aR (aA 4) (jX (aA 5) tFe tCr (aB tW (aJ (aA 2) (aF 6)))))) (aD 6)) (aH (eW (aY bQ (aA 6)) (aD 7) tB) (aH UI (aH UJ UK))))))):=rfl
def UL(xs:Az):Prop:=∀x∈xs,∃n ps,x=aG n ps/\Bg n ps
section
variable{ns:y'}{H:Hs}{ρ:Ev}{i j st N:Nat}{lv ch:dn}
theorem zas(s:Com.St st H)(e:getL H j=some (ns.map Fx)):j≠st:=λz=>by
 obtain⟨a,b,q⟩:=s;rw[<-z,e]at q
 match ns,q with
 |[],q=>simp at q
 |[_],q=>simp at q
 |_::_::_,q=>simp at q
structure Fm(j i N:Nat)(lv ch:dn)(ρ:Ev):Prop where
 l:ρ.length=8
 a0:At ρ 0 .scr
 a3:At ρ 3 (.ref j)
 a4:At ρ 4 (aG N lv)
 a5:At ρ 5 (aG N ch)
 a6:At ρ 6 (.ref i)
theorem Fm.set(m:Fm j i N lv ch ρ){x:A'}:Fm j i N lv ch (ρ.set 7 x):=⟨by simp[m.l],m.a0.o,m.a3.o,m.a4.o,m.a5.o,m.a6.o⟩
theorem zat{xs:Az}(hx:UL xs)(m:Fm j i N lv ch ρ)(g:getL H i=some xs):∃ρ' H',eW (aY bQ (aA 6)) (aD 7) tB ρ H=.nx ρ' H'/\Fm j i N lv ch ρ'/\Fr [] H H':=by
 have hi:aY bQ (aA 6) ρ H=.ok (cI i xs.length) H:=by unfold aY;rw[vv m.a6,Rs.bind_ok];simp[bQ,g]
 obtain⟨ρ',H',e,m',f'⟩:=wG (b:=tB) (sg:=aD 7) hi (λk ρ H'=>Fm j i N lv ch ρ/\Fr [] H H')
  (λk ρ H' hk⟨m,f⟩=>by
   have C':k<xs.length:=hk;have g':=f.getL g (by simp);obtain⟨n,ps,er,o⟩:=hx xs[k] (gu C');have a7:At (ρ.set 7 (some xs[k])) 7 (aG n ps):=by rw[er];exact .new (by rw[m.l];lia)
   have m':Fm j i N lv ch (ρ.set 7 (some xs[k])):=m.set;obtain⟨H2,e2,f2⟩:=zah (H:=H') o;refine⟨xs[k],_,ρ.set 7 (some xs[k]),H2,by simp[cI,g',C'],rfl,?_,m',f.trans f2 (by simp)⟩;exact(kQ ((IZ (qN (K61.call1 (F:=mE) a7 (RK o)))).trans (K61.ntT (K61.call1 (F:=xG) a7 e2)))).trans rfl) (λρ H'⟨m,f⟩=>by simp[cI,f.getL g (by simp)]) ⟨m,Gd⟩
 exact⟨ρ',H',e,m',f'⟩
theorem zau(o:Bg N lv)(hb:hZ N lv=[])(hl:((gY N lv).map λl=>(l.length:Int))=ns)(m:Fm j i N lv ch ρ)(g:getL H j=some (ns.map Fx)):∃H',UI ρ H=.nx ρ H'/\Fr [] H H':=by
 obtain⟨p,H1,e1,g1,fa⟩:=UA (H:=H) o hb;have c1:m2 aO (aB jJ (aE (aA 4))) (aF 1) ρ H=.ok (.ref p) H1:=eK (K61.call1 (F:=jJ) m.a4 e1) (mb:=aF 1) rfl rfl;have l6:=UD o;have c2:=UC (mi:=aY bQ (m2 aO (aB jJ (aE (aA 4))) (aF 1))) (ρ:=ρ) (H:=H) (H1:=H1) (ls:=gY N lv) (by lia) (by unfold aY;rw[c1,Rs.bind_ok];simp[bQ,g1]) g1;rw[hl]at c2;have c3:aX (bA (aY bQ (m2 aO (aB jJ (aE (aA 4))) (aF 1))) [none] (aD 0) bK (aU (aB (f1 dU) (aE (aA 0))))) ρ H=.ok (.ref H1.length) (H1++[.lst (ns.map Fx)]):=by unfold aX;rw[c2];rfl
 have f2:Fr [] H1 (H1++[Fy (ns.map Fx)]):=Fz;have g2:getL (H1++[Fy (ns.map Fx)]) H1.length=some (ns.map Fx):=by simp[getL]
 generalize H1++[Fy (ns.map Fx)]=H2 at c3 f2 g2;have g3:=(fa.trans f2 (by simp)).getL g (by simp);refine⟨H2,(kQ ?_).trans rfl,fa.trans f2 (by simp)⟩;unfold mB;rw[eK c3 (vv m.a3) (zai g2 g3)];rfl
theorem zav(w:Ex ns)(o:Bg N lv)(hs:pI N lv=cY ns-1)(hx:∃fs,dO N lv ((0:Nat):Int)=some fs)(m:Fm j i N lv ch ρ)(g:getL H j=some (ns.map Fx)):∃H',UJ ρ H=.nx ρ H'/\Fr [] H H':=by obtain⟨H1,e1,f1⟩:=K82.least_ok (H:=H) o;rw[hs]at e1;have g1:=f1.getL g (by simp);obtain⟨H2,e2,f2⟩:=K63.reach_ok (H:=H1) (v:=0) o (by lia) hx (λu hu=>absurd hu (yb u));exact⟨H2,(kQ ((IZ (nZ (K61.call1 (F:=jV) m.a4 e1) (K61.call1 (F:=uB) m.a3 (zaj w g1)))).trans (nZ (K61.call1 (F:=gM) m.a4 e2) (mb:=aF 0) rfl))).trans rfl,f1.trans f2 (by simp)⟩
theorem zaw(w:Ex ns)(o:Bg N ch){v:Nat}(hv:v<=5)(ev:oE ns=v)(hx:∃fs,dO N ch v=some fs)(hy:∀u:Nat,u<v->dO N ch u=none)(m:Fm j i N lv ch ρ)(g:getL H j=some (ns.map Fx)):∃H',UK ρ H=.nx ρ H'/\Fr [] H H':=by
 obtain⟨H1,e1,f1⟩:=K63.reach_ok (H:=H) o hv hx hy;have g1:=f1.getL g (by simp);obtain⟨H2,e2,f2⟩:=UH (H:=H1) w g1;have g2:=f2.getL g1 (by simp);obtain⟨H3,e3,f3⟩:=K82.least_ok (H:=H2) o;have g3:=f3.getL g2 (by simp);obtain⟨H4,e4,f4⟩:=UH (H:=H3) w g3;rw[ev]at e2 e4;have hle:(v:Int)<=pI N ch:=by obtain⟨r,hr,er⟩:=Sp.least_at o;rw[<-er,<-K53.pls_reach o hr];exact K53.least_le o (K53.pls_seat o hr) hy
 have t:mB (m2 fH (aB jV (aE (aA 5))) (aB pF (aE (aA 3)))) ρ H2=.ok false H4:=by unfold mB;rw[eK (K61.call1 (F:=jV) m.a5 e3) (K61.call1 (F:=pF) m.a3 e4) (z:=.bl (decide (pI N ch<(v:Int)))) (H3:=H4) rfl,decide_eq_false (by lia)];rfl
 exact⟨H4,(kQ ((IZ (nZ (K61.call1 (F:=gM) m.a5 e1) (K61.call1 (F:=pF) m.a3 e2))).trans t)).trans rfl,((f1.trans f2 (by simp)).trans f3 (by simp)).trans f4 (by simp)⟩
theorem UM{k c:Int}(s:Com.St st H)(a2:At ρ 2 (.ref st))(h0:0<k)(h1:k<100):∃(r:Int)(H':Hs),c<=r/\r<c+k/\m2 cD (aF c) (aB dH (aJ (aA 2) (aF k))) ρ H=.ok (.int r) H'/\Fr [st] H H'/\Com.St st H':=by obtain⟨r,H1,r0,r1,t1,f1,s1⟩:=rZ k s a2 h0 (by lia);exact⟨c+r,H1,by lia,by lia,eK (ma:=aF c) rfl t1 rfl,f1,s1⟩
theorem UN{F:Ay}{m:M Dv}{a v:Dv}{H1 H':Hs}(ha:m ρ H=.ok a H1)(e:F [a] H1=.ok v H'):aB F (aE m) ρ H=.ok v H':=by simp[aB,aR,ha,aQ,e]
theorem zax{m1 m2' m3 m4 m5:M Dv}{d1 d2 d3 d4 d5:Dv}{H1 H2 H3 H4 H5:Hs}(e1:m1 ρ H=.ok d1 H1)(e2:m2' ρ H1=.ok d2 H2)(e3:m3 ρ H2=.ok d3 H3)(e4:m4 ρ H3=.ok d4 H4)(e5:m5 ρ H4=.ok d5 H5):bY (aR m1 (jX m2' m3 m4 m5)) ρ H=.ok (.ref H5.length) (H5++[.lst [d1,d2,d3,d4,d5]]):=by simp[bY,aR,aQ,e1,e2,e3,e4,e5,lim]
theorem zay(scr:y')(k:Nat)(hL:ρ.length=8)(a0:At ρ 0 .scr)(a1:At ρ 1 (.int k)):∃ρ' H',A7 scr ρ H=.nx ρ' H'/\ρ'.length=8/\At ρ' 0 .scr:=by
 obtain⟨H1,h1,f1',s1⟩:=z6v scr k H;have w1:=I0 (i:=2) (K61.call2 (F:=rR scr) a0 a1 h1);generalize H.length=st at s1 w1;obtain⟨j,ns,H2,e2,g2,w,hs,s2⟩:=few_ok s1;have b0:At (ρ.set 2 (some (.ref st))) 0 .scr:=a0.o;have b2:At (ρ.set 2 (some (.ref st))) 2 (.ref st):=.new (by lia);have bL:(ρ.set 2 (some (.ref st))).length=8:=by simp[hL]
 rw[zar,bR w1];generalize ρ.set 2 (some (.ref st))=ρ1 at b0 b2 bL;have w2:=I0 (i:=3) (K61.call1 (F:=xF) b2 e2);have c0:At (ρ1.set 3 (some (.ref j))) 0 .scr:=b0.o;have c2:At (ρ1.set 3 (some (.ref j))) 2 (.ref st):=b2.o;have c3:At (ρ1.set 3 (some (.ref j))) 3 (.ref j):=.new (by lia);have cL:(ρ1.set 3 (some (.ref j))).length=8:=by simp[bL]
 rw[bR w2];generalize ρ1.set 3 (some (.ref j))=ρ2 at c0 c2 c3 cL;have hj:j∉[st]:=by have:=zas s2 g2;simpa using this
 have k1:=CY za3 w hs;have k2:=CY za4 w hs;have k3:=CY za5 w hs;have k4:=CY za7 w hs;simp only[T3,cu]at k1;have oL:=oD k1.1;have oC:=oD k1.2;simp only[T4,cu,decide_eq_true_eq]at k2;obtain⟨⟨⟨⟨q1,q2⟩,q3⟩,q4⟩,q5⟩:=k2;have k3':pI (dI ns).length (lN (dI ns))=cY ns-1:=by simpa[T5]using k3
 have k4':((gY (dI ns).length (lN (dI ns))).map λl=>(l.length:Int))=ns:=of_decide_eq_true k4;have e3:=z9g w hs oL.n6 g2;have f3:Fr [] H2 (H2++[Fy ((dI ns).map Fx)]):=Fz;generalize H2++[Fy ((dI ns).map Fx)]=H3 at e3 f3;have g3:=f3.getL g2 (by simp);have e4:=z9h w hs oL.n6 g3;have f4:Fr [] H3 (H3++[Fy ((dI ns).map Fx)]):=Fz;generalize H3++[Fy ((dI ns).map Fx)]=H4 at e4 f4;have g4:=f4.getL g3 (by simp);have hb:hZ (dI ns).length (lN (dI ns))=[]:=by
  cases c:hZ (dI ns).length (lN (dI ns))with
  |nil=>rfl
  |cons q qs=>have:=T6 oL (q:=q) (by rw[c];exact bf ..);rw[this]at q1;cases q1
 generalize (dI ns).length=N at *;generalize lN (dI ns)=lv at *;generalize sG (dI ns)=ch at *;have w3:=K63.parV (i:=4) (j:=5) (K61.call1 (F:=xA) c3 e3) (K61.call1 (F:=xB) c3 e4);have d0:At ((ρ2.set 4 (some (aG N lv))).set 5 (some (aG N ch))) 0 .scr:=c0.o.o;have d2:At ((ρ2.set 4 (some (aG N lv))).set 5 (some (aG N ch))) 2 (.ref st):=c2.o.o;have d3:At ((ρ2.set 4 (some (aG N lv))).set 5 (some (aG N ch))) 3 (.ref j):=c3.o.o;have d4:At ((ρ2.set 4 (some (aG N lv))).set 5 (some (aG N ch))) 4 (aG N lv):=(At.new (by lia)).o;have d5:At ((ρ2.set 4 (some (aG N lv))).set 5 (some (aG N ch))) 5 (aG N ch):=.new (by simp;lia);have dL:((ρ2.set 4 (some (aG N lv))).set 5 (some (aG N ch))).length=8:=by simp[cL]
 rw[bR (show tX 4 5 _ ρ2 H2=.nx ((ρ2.set 4 (some (aG N lv))).set 5 (some (aG N ch))) H4 from w3)];generalize (ρ2.set 4 (some (aG N lv))).set 5 (some (aG N ch))=ρ3 at d0 d2 d3 d4 d5 dL;have s4:=(s2.fr f3 (by simp)).fr f4 (by simp);obtain⟨r5,H5,r0,r1,e5,f5,s5⟩:=UM (k:=6) (c:=1) s4 d2 (by decide) (by decide);obtain⟨nf,pf,ef,of⟩:=zap (H:=H5) (k:=r5) r0 (by lia);obtain⟨r6,H6,u0,u1,e6,f6,s6⟩:=UM (k:=2) (c:=2) s5 d2 (by decide) (by decide);obtain⟨nc,pc,ec,oc⟩:=zaq (H:=H6) (k:=r6) u0 (by lia);obtain⟨nr,pr,H7,e7,or',s7,f7⟩:=z7j s6;have c7:aB tW (aJ (aA 2) (aF 6)) ρ3 H6=.ok (aG nr pr) H7:=qO (F:=tW) d2 (mb:=aF 6) rfl e7;have w4:=I0 (i:=6) (zax (vv d4) (vv d5) (UN (F:=xD) e5 ef) (UN (F:=xE) e6 ec) c7);have g7:=f7.getL (f6.getL (f5.getL g4 hj) hj) hj;have g8:getL (H7++[Fy [aG N lv,aG N ch,aG nf pf,aG nc pc,aG nr pr]]) j=some (ns.map Fx):=jT g7;have x8:getL (H7++[Fy [aG N lv,aG N ch,aG nf pf,aG nc pc,aG nr pr]]) H7.length=some [aG N lv,aG N ch,aG nf pf,aG nc pc,aG nr pr]:=by simp[getL]
 have hx:UL [aG N lv,aG N ch,aG nf pf,aG nc pc,aG nr pr]:=λx hx=>by
  simp only[aw,List.not_mem_nil,or_false]at hx
  rcases hx with rfl|rfl|rfl|rfl|rfl
  ·exact⟨_,_,rfl,oL⟩
  ·exact⟨_,_,rfl,oC⟩
  ·exact⟨_,_,rfl,of⟩
  ·exact⟨_,_,rfl,oc⟩
  ·exact⟨_,_,rfl,or'⟩
 generalize [aG N lv,aG N ch,aG nf pf,aG nc pc,aG nr pr]=xs at *;generalize H7++[Fy xs]=H8 at *;generalize H7.length=i8 at *;have m:Fm j i8 N lv ch (ρ3.set 6 (some (.ref i8))):=⟨by simp[dL],d0.o,d3.o,d4.o,d5.o,.new (by lia)⟩
 rw[bR w4];generalize ρ3.set 6 (some (.ref i8))=ρ4 at m;obtain⟨ρ5,H9,w5,m5,f9⟩:=zat hx m x8;have g9:=f9.getL g8 (by simp);obtain⟨H10,w6,f10⟩:=zau (H:=H9) oL hb k4' m5 g9;have g10:=f10.getL g9 (by simp);obtain⟨H11,w7,f11⟩:=zav (H:=H10) w oL k3' (ni.mp q1) m5 g10;have g11:=f11.getL g10 (by simp);obtain⟨v,ev⟩:∃v:Nat,oE ns=v:=⟨(oE ns).toNat,by lia⟩
 rw[ev]at q3 q4;have hy:∀u:Nat,u<v->dO N ch u=none:=λu hu=>by have:=fg.mp q5 u (bg.mpr (by rw[ev];simpa using hu));simpa using this
 obtain⟨H12,w8,f12⟩:=zaw (H:=H11) w oC (by lia) ev (ni.mp q4) hy m5 g11;rw[bR w5,bR w6,bR w7];exact⟨ρ5,H12,w8,m5.l,m5.a0⟩
end
theorem loop(scr:y')(m:Int):∀(f k:Nat)(ρ:Ev)(H:Hs),ρ.length=8->At ρ 0 .scr->∃ρ' H',gR (bZ 0 m) (aD 1) (A7 scr) f k ρ H=.nx ρ' H'
 |0,k,ρ,H,_,_=>⟨_,H,rfl⟩
 |f+1,k,ρ,H,hL,a0=>by obtain⟨ρ1,H1,h,l1,b0⟩:=zay (H:=H) (ρ:=ρ.set 1 (some (.int k))) scr k (by simp[hL]) a0.o (.new (by lia));obtain⟨ρ',H2,h2⟩:=loop scr m f (k+1) ρ1 H1 l1 b0;refine⟨ρ',H2,?_⟩;rw[<-h2];exact AB (d:=.int k) (by simp[bZ]) rfl h
theorem zaz(scr:y'):∃hh,G1 scr [.scr] []=.ok (.bl true) hh:=by
 have hi:∃m:Int,aM bT (aE (aB oR (aJ (aF 1) (aB tE (aJ (aB (f1 (iC scr)) (aE (aA 0))) (aF 5)))))) [some .scr,none,none,none,none,none,none,none] []=.ok (bZ 0 m) []:=by
  generalize hz:(if(5:Int)<scr.length then(5:Int)else scr.length)=z;have z0:0<=z:=by split at hz<;>lia
  have z1:z<=5:=by split at hz<;>lia
  generalize hm:(if z>(1:Int)then z else 1)=m;have m0:1<=m:=by split at hm<;>lia
  have m1':m<=5:=by split at hm<;>lia
  have hr:gE m=true:=by simp[gE];lia
  refine⟨m,?_⟩;have e1:tE [.int scr.length,.int 5] []=.ok (.int z) []:=by rw[<-hz];rfl
  have e2:oR [.int 1,.int z] []=.ok (.int m) []:=by rw[<-hm];rfl
  simp[aM,aR,aB,mC,aA,aQ,f1,iC,fX,e1,e2,bT,hr]
 obtain⟨m,hi⟩:=hi;obtain⟨ρ',H',h⟩:=loop scr m (bZ 0 m).n 0 [some .scr,none,none,none,none,none,none,none] [] rfl rfl;refine⟨H',?_⟩;show bN (A8 scr [some .scr,none,none,none,none,none,none,none] [])=_;unfold A8 QO;rw[bR ((AA hi).trans h)];rfl
open PySem.Calls PySem.W
theorem mk_of{l:OpenLaw}{w:cn}{K:Frag}{h:cy}{mg:Str->Option af}{fa:ai}(hob:ob K=obE)(hnt:noTabs K=true)(X:K.In h)(G:h.Ns dz mg)(hfa:mg "law"=some (.ref fa)):
  ∃(fd:bh)(c P:ai),(∀(s:ag)(u:af),xq s fd ⟨[u],[]⟩ [("_law_script",u)])/\tabIn K "law"=some (c,P)/\noTabs K=true/\
   ∀(base:cy)(a:ai)(ns:y'),ns.length<=63->K.In base->base.Ns dz mg->CodeHd base c P->qX mg base->Lawful l.prog w K mg base 17 fa fd "_law_script" [P] a ns:=by
 have hc:obF.all (λf=>f K)=true:=congrArg da hob;have hf:DC K=DD:=congrArg gr hob;have e:=hfa.symm.trans (mg_of X G (v:=.ref 383) (dB hc 49));cases e;refine(λ(z:∀R:Prop,(_->R)->R)=>z _ id) λR hR=>?_;obtain⟨g0,U0,B0,C0,D0⟩:=cQ hf hc 94 G2 "is_whole" 93 ["thing"] 0 69 119 λ_ _ _ _ _ _=>fG λ_=>rfl;obtain⟨g1,U1,B1,C1,D1⟩:=cQ hf hc 101 G3 "is_between" 100 ["thing","low","high"] 1 70 120 λ_ _ _ _ _ _=>FA λ_ _ _=>rfl;obtain⟨g2,U2,B2,C2,D2⟩:=cQ hf hc 108 G4 "need_between" 107 ["thing","low","high"] 2 71 121 λ_ _ _ _ _ _=>FA λ_ _ _=>rfl;obtain⟨g3,U3,B3,C3,D3⟩:=cQ hf hc 113 A9 "is_rising" 112 ["parts"] 3 72 122 λ_ _ _ _ _ _=>fG λ_=>rfl;obtain⟨g4,U4,B4,C4,D4⟩:=cQ hf hc 120 G5 "rounded_up" 119 ["number","by"] 4 73 123 λ_ _ _ _ _ _=>gU λ_ _=>rfl;obtain⟨g5,U5,B5,C5,D5⟩:=cQ hf hc 127 G6 "is_thing" 126 ["many","thing"] 5 74 124 λ_ _ _ _ _ _=>gU λ_ _=>rfl;obtain⟨g6,U6,B6,C6,D6⟩:=cQ hf hc 132 BA "are_things" 131 ["many","thing"] 6 75 125 λ_ _ _ _ _ _=>gU λ_ _=>rfl;obtain⟨g7,U7,B7,C7,D7⟩:=cQ hf hc 139 G7 "is_pair" 138 ["many","thing"] 7 76 126 λ_ _ _ _ _ _=>gU λ_ _=>rfl;obtain⟨g8,U8,B8,C8,D8⟩:=cQ hf hc 144 BB "are_pairs" 143 ["many","things"] 8 77 127 λ_ _ _ _ _ _=>gU λ_ _=>rfl;obtain⟨g9,U9,B9,C9,D9⟩:=cQ hf hc 149 BC "has_alike" 148 ["pairs"] 9 78 128 λ_ _ _ _ _ _=>fG λ_=>rfl;obtain⟨g10,U10,B10,C10,D10⟩:=cQ hf hc 154 BD "is_complete" 153 ["pairs"] 10 79 129 λ_ _ _ _ _ _=>fG λ_=>rfl;obtain⟨g11,U11,B11,C11,D11⟩:=cQ hf hc 161 G8 "is_order" 160 ["thing"] 11 80 130 λ_ _ _ _ _ _=>fG λ_=>rfl;obtain⟨g12,U12,B12,C12,D12⟩:=cQ hf hc 168 G9 "need_order" 167 ["order"] 12 81 131 λ_ _ _ _ _ _=>fG λ_=>rfl;obtain⟨g13,U13,B13,C13,D13⟩:=cQ hf hc 175 HB "need_thing" 174 ["order","thing"] 13 82 132 λ_ _ _ _ _ _=>gU λ_ _=>rfl;obtain⟨g14,U14,B14,C14,D14⟩:=cQ hf hc 182 HC "need_few" 181 ["many"] 14 83 133 λ_ _ _ _ _ _=>fG λ_=>rfl;obtain⟨g15,U15,B15,C15,D15⟩:=cQ hf hc 187 BE "ahead_of" 186 ["order","thing"] 15 84 134 λ_ _ _ _ _ _=>gU λ_ _=>rfl;obtain⟨g16,U16,B16,C16,D16⟩:=cQ hf hc 194 HD "are_loose" 193 ["order","one","other"] 16 85 135 λ_ _ _ _ _ _=>FA λ_ _ _=>rfl;obtain⟨g17,U17,B17,C17,D17⟩:=cQ hf hc 199 BF "loose_from" 198 ["order","thing"] 17 86 136 λ_ _ _ _ _ _=>gU λ_ _=>rfl;obtain⟨g18,U18,B18,C18,D18⟩:=cQ hf hc 204 BG "loose_pairs" 203 ["order"] 18 87 137 λ_ _ _ _ _ _=>fG λ_=>rfl;obtain⟨g19,U19,B19,C19,D19⟩:=cQ hf hc 209 BH "need_sizes" 208 ["sizes"] 19 88 138 λ_ _ _ _ _ _=>fG λ_=>rfl;obtain⟨g20,U20,B20,C20,D20⟩:=cQ hf hc 214 BI "group_numbers" 213 ["sizes"] 20 89 139 λ_ _ _ _ _ _=>fG λ_=>rfl;obtain⟨g21,U21,B21,C21,D21⟩:=cQ hf hc 219 BJ "levels_order" 218 ["sizes"] 21 90 140 λ_ _ _ _ _ _=>fG λ_=>rfl;obtain⟨g22,U22,B22,C22,D22⟩:=cQ hf hc 224 BK "chains_order" 223 ["sizes"] 22 91 141 λ_ _ _ _ _ _=>fG λ_=>rfl;obtain⟨g23,U23,B23,C23,D23⟩:=cQ hf hc 231 HE "levels_span" 230 ["sizes"] 23 92 142 λ_ _ _ _ _ _=>fG λ_=>rfl;obtain⟨g24,U24,B24,C24,D24⟩:=cQ hf hc 238 HF "chains_reach" 237 ["sizes"] 24 93 143 λ_ _ _ _ _ _=>fG λ_=>rfl;obtain⟨g25,U25,B25,C25,D25⟩:=cQ hf hc 245 HG "is_bar" 244 ["order","a","b","c"] 25 94 144 λ_ _ _ _ _ _=>y7 λ_ _ _ _=>rfl;obtain⟨g26,U26,B26,C26,D26⟩:=cQ hf hc 250 xH "levels_of" 249 ["order"] 26 95 145 λ_ _ _ _ _ _=>fG λ_=>rfl;obtain⟨g27,U27,B27,C27,D27⟩:=cQ hf hc 255 BL "levels_or_bar" 254 ["order"] 27 96 146 λ_ _ _ _ _ _=>fG λ_=>rfl;obtain⟨g28,U28,B28,C28,D28⟩:=cQ hf hc 260 BM "fence" 259 ["many"] 28 97 147 λ_ _ _ _ _ _=>fG λ_=>rfl;obtain⟨g29,U29,B29,C29,D29⟩:=cQ hf hc 265 BN "crown" 264 ["half"] 29 98 148 λ_ _ _ _ _ _=>fG λ_=>rfl;obtain⟨g30,U30,B30,C30,D30⟩:=cQ hf hc 270 xI "needs_of" 269 ["order","reach"] 30 99 149 λ_ _ _ _ _ _=>gU λ_ _=>rfl;obtain⟨g31,U31,B31,C31,D31⟩:=cQ hf hc 275 BO "raised" 274 ["places","needs"] 31 100 150 λ_ _ _ _ _ _=>gU λ_ _=>rfl;obtain⟨g32,U32,B32,C32,D32⟩:=cQ hf hc 282 HH "seated" 281 ["order","reach"] 32 101 151 λ_ _ _ _ _ _=>gU λ_ _=>rfl;obtain⟨g33,U33,B33,C33,D33⟩:=cQ hf hc 287 BP "least_reach" 286 ["order"] 33 102 152 λ_ _ _ _ _ _=>fG λ_=>rfl;obtain⟨g34,U34,B34,C34,D34⟩:=cQ hf hc 292 xJ "may_come" 291 ["order","begun"] 34 103 153 λ_ _ _ _ _ _=>gU λ_ _=>rfl;obtain⟨g35,U35,B35,C35,D35⟩:=cQ hf hc 297 BQ "all_rows" 296 ["order"] 35 104 154 λ_ _ _ _ _ _=>fG λ_=>rfl;obtain⟨g36,U36,B36,C36,D36⟩:=cQ hf hc 304 HI "apart" 303 ["row","pair"] 36 105 155 λ_ _ _ _ _ _=>gU λ_ _=>rfl;obtain⟨g37,U37,B37,C37,D37⟩:=cQ hf hc 309 BR "greatest_apart" 308 ["row","pairs"] 37 106 156 λ_ _ _ _ _ _=>gU λ_ _=>rfl;obtain⟨g38,U38,B38,C38,D38⟩:=cQ hf hc 314 BS "rows_with_spans" 313 ["order"] 38 107 157 λ_ _ _ _ _ _=>fG λ_=>rfl;obtain⟨g39,U39,B39,C39,D39⟩:=cQ hf hc 319 BU "least_span" 318 ["order"] 39 108 158 λ_ _ _ _ _ _=>fG λ_=>rfl;obtain⟨g40,U40,B40,C40,D40⟩:=cQ hf hc 326 HJ "_law_take" 325 ["_law_state_here","_law_many"] 40 109 159 λ_ _ _ _ _ _=>gU λ_ _=>rfl;obtain⟨g41,U41,B41,C41,D41⟩:=cQ hf hc 333 HK "_law_sizes" 332 ["_law_state_here"] 41 110 160 λ_ _ _ _ _ _=>fG λ_=>rfl;obtain⟨g42,U42,B42,C42,D42⟩:=cQ hf hc 340 HL "_law_cell_at" 339 ["_law_script","_law_k"] 42 111 161 λ_ _ _ _ _ _=>gU λ_ _=>rfl;obtain⟨g43,U43,B43,C43,D43⟩:=cQ hf hc 347 HM "_law_state" 346 ["_law_script","_law_k"] 43 112 162 λ_ _ _ _ _ _=>gU λ_ _=>rfl;obtain⟨g44,U44,B44,C44,D44⟩:=cQ hf hc 354 HN "_law_mixed" 353 ["_law_state_here","_law_many"] 44 113 163 λ_ _ _ _ _ _=>gU λ_ _=>rfl;obtain⟨g45,U45,B45,C45,D45⟩:=cQ hf hc 361 HP "_law_closed" 360 ["_law_many","_law_pairs"] 45 114 164 λ_ _ _ _ _ _=>gU λ_ _=>rfl;obtain⟨g46,U46,B46,C46,D46⟩:=cQ hf hc 366 BV "_law_order" 365 ["_law_state_here","_law_most"] 46 115 165 λ_ _ _ _ _ _=>gU λ_ _=>rfl;obtain⟨g47,U47,B47,C47,D47⟩:=cQ hf hc 373 HQ "_law_few" 372 ["_law_state_here"] 47 116 166 λ_ _ _ _ _ _=>fG λ_=>rfl;obtain⟨g48,U48,B48,C48,D48⟩:=cQ hf hc 378 BW "_law_levels_right" 377 ["_law_order_here"] 48 117 167 λ_ _ _ _ _ _=>fG λ_=>rfl;obtain⟨g49,U49,B49,C49,D49⟩:=cQ hf hc 383 BX "law" 382 ["_law_script"] 49 118 168 λ_ _ _ _ _ _=>fG λ_=>rfl;obtain⟨t_MOST_THINGS,c_MOST_THINGS⟩:=DB (n:="MOST_THINGS") (v:=6) (pL hc 169 rfl);obtain⟨t_MOST_APART,c_MOST_APART⟩:=DB (n:="MOST_APART") (v:=5) (pL hc 170 rfl);obtain⟨t_MOST_SIZES,c_MOST_SIZES⟩:=DB (n:="MOST_SIZES") (v:=6) (pL hc 171 rfl);refine hR ⟨g49,382,380,λs v=>.of_eq (D49 [v] rfl),dB hc 172,hnt,λbase a ns hlen _ _ hC hB=>⟨?_⟩⟩;obtain⟨hh,hl⟩:=zaz ns;refine⟨{K:=K,cl:=λc=>match c with|0=>37|1=>49|_=>0,scr:=ns,sa:=a,tabs:=λb=>if b=380 then some ((("law":Str)++".<locals>.")++"<lambda>")else none,lq:=(("law":Str)++".<locals>.")++"<lambda>"},G1 ns,hh,rfl,rfl,rfl,y9,hl,?_⟩;refine z6e (A:=⟨94,g0,101,g1,108,g2,113,g3,120,g4,127,g5,132,g6,139,g7,144,g8,149,g9,154,g10,161,g11,168,g12,175,g13,182,g14,187,g15,194,g16,199,g17,204,g18,209,g19,214,g20,219,g21,224,g22,231,g23,238,g24,245,g25,250,g26,255,g27,260,g28,265,g29,270,g30,275,g31,282,g32,287,g33,292,g34,297,g35,304,g36,309,g37,314,g38,319,g39,326,g40,333,g41,340,g42,347,g43,354,g44,361,g45,366,g46,373,g47,378,g48,383,g49,37,49,t_MOST_THINGS,t_MOST_APART,t_MOST_SIZES,(0:Nat)⟩) ?_ (λ_ _ _ _ _ _ _=>trivial);exact⟨rfl,⟨U0,B0,cM X G hc 0⟩,⟨U1,B1,cM X G hc 1⟩,⟨U2,B2,cM X G hc 2⟩,⟨U3,B3,cM X G hc 3⟩,⟨U4,B4,cM X G hc 4⟩,⟨U5,B5,cM X G hc 5⟩,⟨U6,B6,cM X G hc 6⟩,⟨U7,B7,cM X G hc 7⟩,⟨U8,B8,cM X G hc 8⟩,⟨U9,B9,cM X G hc 9⟩,⟨U10,B10,cM X G hc 10⟩,⟨U11,B11,cM X G hc 11⟩,⟨U12,B12,cM X G hc 12⟩,⟨U13,B13,cM X G hc 13⟩,⟨U14,B14,cM X G hc 14⟩,⟨U15,B15,cM X G hc 15⟩,⟨U16,B16,cM X G hc 16⟩,⟨U17,B17,cM X G hc 17⟩,⟨U18,B18,cM X G hc 18⟩,⟨U19,B19,cM X G hc 19⟩,⟨U20,B20,cM X G hc 20⟩,⟨U21,B21,cM X G hc 21⟩,⟨U22,B22,cM X G hc 22⟩,⟨U23,B23,cM X G hc 23⟩,⟨U24,B24,cM X G hc 24⟩,⟨U25,B25,cM X G hc 25⟩,⟨U26,B26,cM X G hc 26⟩,⟨U27,B27,cM X G hc 27⟩,⟨U28,B28,cM X G hc 28⟩,⟨U29,B29,cM X G hc 29⟩,⟨U30,B30,cM X G hc 30⟩,⟨U31,B31,cM X G hc 31⟩,⟨U32,B32,cM X G hc 32⟩,⟨U33,B33,cM X G hc 33⟩,⟨U34,B34,cM X G hc 34⟩,⟨U35,B35,cM X G hc 35⟩,⟨U36,B36,cM X G hc 36⟩,⟨U37,B37,cM X G hc 37⟩,⟨U38,B38,cM X G hc 38⟩,⟨U39,B39,cM X G hc 39⟩,⟨U40,B40,cM X G hc 40⟩,⟨U41,B41,cM X G hc 41⟩,⟨U42,B42,cM X G hc 42⟩,⟨U43,B43,cM X G hc 43⟩,⟨U44,B44,cM X G hc 44⟩,⟨U45,B45,cM X G hc 45⟩,⟨U46,B46,cM X G hc 46⟩,⟨U47,B47,cM X G hc 47⟩,⟨U48,B48,cM X G hc 48⟩,⟨U49,B49,cM X G hc 49⟩,mg_none_of X G (dB hc 52),mg_none_of X G (dB hc 53),mg_none_of X G (dB hc 54),mg_none_of X G (dB hc 55),mg_none_of X G (dB hc 56),mg_none_of X G (dB hc 57),mg_none_of X G (dB hc 58),mg_none_of X G (dB hc 59),mg_none_of X G (dB hc 60),mg_none_of X G (dB hc 61),mg_none_of X G (dB hc 62),mg_none_of X G (dB hc 63),mg_none_of X G (dB hc 64),mg_none_of X G (dB hc 65),mg_none_of X G (dB hc 66),mg_none_of X G (dB hc 67),mg_none_of X G (dB hc 68),mg_of X G c_MOST_THINGS,mg_of X G c_MOST_APART,mg_of X G c_MOST_SIZES,cM X G hc 50,cM X G hc 51,dB hc 50,pL hc 173 rfl,rfl,dB hc 51,pL hc 174 rfl,rfl⟩
end L2.Mr.K74
open PySem PySem.W PyProof.Rows
set_option maxRecDepth 100000 in
set_option maxHeartbeats 0 in
theorem PySem.Challenge.cw_nearorders_k74_whole_kinds_holds : PySem.Challenge.rw_nearorders_k74_whole_kinds.Holds := by
  w_on
  refine holds_law L2.Mr.K74.ws fun said=> ?_
  refine holds_open (XP:=XL L2.Mr.K74.vw []) (YP:=L2.Mr.Ys L2.Mr.K74.ob L2.Mr.K74.obE) L2.Mr.K74.left L2.Mr.ys_of L2.Mr.ys_keeps (fun s e=> xl_of s (Bool.and_eq_true_iff.mp e).1) XL.keeps (by rfl) (by rfl) (by rfl) (fun s e=> recFacts_of (Bool.and_eq_true_iff.mp e).2) (by rfl) (by first| assumption| decide+kernel) (by decide+kernel) ⟨rfl,rfl,rfl,rfl,rfl,by decide+kernel⟩ ?hw ?hc
  case hw=> w_witness2
  case hc=> exact L2.Mr.walkK2 (l:=PySem.Challenge.rw_nearorders_k74_whole_kinds) (n:=63) (k:=17) (x:="_law_script") "law" rfl (by decide) rfl ⟨rfl,by decide,by decide⟩ ⟨_,rfl,rfl⟩ (fun K w mg fa h hob hnt X G hmg=> L2.Mr.K74.mk_of hob hnt X G hmg)