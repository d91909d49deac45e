import PyProof.Rows.All
import Wide.All
import OpenK.AllK
import Wide.FinOn
import Lean
import PyProof.EqAt
import PyProof.EqKinds
import PyProof.TupleCall
import PyProof.NeKinds
import PyProof.StationsW
import PyProof.ExcClass3
import PyProof.ExcBaseAll.ValueError
import PyProof.ExcArgsOwn
import KE.KIsAll
import PyProof.ZipIter
import PyProof.RulesAs
import KE.KLam
import PyProof.NsDelKeeps
import PyProof.Rows.Range3
import PyProof.SumWalkG
import PyProof.EnumMake
import PyProof.EnumFor
import PyProof.WalkInts
import PyProof.Rows.SortWalk
import KE.KSortAsk
import PySem.SetOps
import KE.KSortTup
import PySem.Challenge.RW_nearorders_k51_seated_so_near
open Array renaming getElem?_eq_some_iff->dh,getElem?_eq_getElem->fi,getElem?_setIfInBounds_self_of_lt->ig,getD->jv,length_toList->kz,getElem?_eq_none->lx,getElem?_toList->mw,perm_iff_toList_perm->wd,getElem?_replicate->yv,mem_toList_iff->Ag,forIn_toList->Ax
open Bool renaming false_eq_true->cn,and_eq_true->dj,false_ne_true->fz,eq_iff_iff->gg,not_true->nv,and_false->pb
open Classical renaming em->qi
open False renaming elim->gk
open ForInStep renaming yield->qk
open Function renaming comp->vp
open Int renaming toNat_natCast->fe,le_refl->tu
open List renaming size_toArray->ar,getElem?_eq_getElem->aw,mem_cons_of_mem->ax,range->ay,getElem?_eq_some_iff->az,replicate->ba,mem_cons->bg,mem_cons_self->bh,length_map->bj,length_append->bq,mem_map->bu,mem_range->bw,mem_append->bx,mem_of_getElem?->bz,length_cons->cg,filterMap_cons->ck,mem_append_right->cm,mem_singleton->cp,getElem?_set_self->de,map_cons->dg,getElem?_set_ne->di,getElem?_map->dk,getElem_mem->dm,getElem?_append_left->dz,all_eq_true->ed,forall_mem_cons->ey,flatMap_cons->fh,pairwise_cons->fj,getElem?_append_right->gb,pairwise_iff_getElem->gj,lookup_cons->gw,length_range->ib,map_append->ic,mem_filterMap->ie,length_filterMap_le->ij,mem_iff_getElem->iu,mem_filter->iz,replicate_succ->jc,getElem_range->jk,mem_append_left->jm,getElem_of_mem->jo,length_take->jq,getElem?_cons_succ->jr,take_of_length_le->jw,append_nil->jy,nodup_cons->jz,length_set->kd,flatten_cons->ki,getD->kv,ext_getElem?->mn,length_filter_le->mz,length_drop->nc,mem_flatMap->ni,length_nil->oh,forIn_cons->oi,forall_mem_nil->ou,length_pos_iff->ow,perm_ext_iff_of_nodup->pd,getElem?_zip_eq_some->pw,drop_eq_getElem_cons->pz,length->qc,append_assoc->qf,take_add_one->qj,eq_of_mem_replicate->qo,getElem?_replicate->qu,any_eq_true->qv,countP_cons->qw,nodup_range->qz,getElem?_cons_zero->rf,ext_getElem->rg,map_map->rz,map_drop->uf,map_filterMap->uh,pairwise_map->uv,set_set->ux,eraseIdx_eq_take_drop_succ->ve,of_mem_zip->vn,dropLast_concat_getLast->vq,nodup_iff_pairwise_ne->xj,length_eraseIdx_of_lt->xk,getElem?_take_of_lt->yx,map_take->zh,sum_cons->zi,length_eq_zero_iff->zl,range_succ_eq_map->zq,any_map->zt,length_singleton->Ac,take_append_drop->Af,getElem?_eq_none->Ah,getElem?_toArray->Ai
open List.Pairwise renaming imp_of_mem->uq,nil->wk
open List.Perm renaming append_left->xl
open List.cons renaming injEq->Ao
open Nat renaming le_refl->aj,lt_of_lt_of_le->av,ne_of_lt->bf,le_trans->cq,lt_irrefl->gh,le_of_lt->gu,lt_succ_of_lt->ja,ne_of_gt->je,lt_or_ge->jf,zero_le->jg,lt_succ_self->ji,mul_le_mul->jt,succ_mul->lg,succ_ne_self->nu,le_of_eq->oz,le_add_right->rh,pow_le_pow_right->Aw
open Ne renaming symm->da
open Option renaming isSome_iff_exists->wj,isSome_some->Ak
open Option.some renaming inj->cy,injEq->yw
open Or renaming inl->Al
open Prod renaming fst->dy,snd->pf,ext->Aj
open Prod.mk renaming inj->si,injEq->wg
open PyProof.Rows renaming slot_tuple_getitem->fv,callWith_type1->iq,IntsAre->md,AllBare->rj,get?_update_seq->ua,listUpdate_at->vh,lt_int->vv
open PySem renaming wpAny_bind->aa,Value->af,Shared->ag,Addr->ah,wpAny_pure->ai,starEach->au,Program->bo,Expr->bp,FuncData->br,sizeLine->cj,World->cw,Around->cx,Heap->cz,bootBuiltins->df,mainGlobals->du,mem_of_lookup->fg,wpAny_field->fq,IsTupleKey->fw,wpAny_newObj_type->fy,wpAny_callSpecial?_slot->gi,wpAny_call_entry->gm,Stmt->gp,SetTable->gr,wpAny_holding->gv,Scope->gy,wpAny_setField_rec->iw,wpAny_seqItems->jb,wpAny_setState_of->jd,sizeLine_eq->jn,Comprehension->js,NameKind->jx,wpAny_mono->kg,wpAny_passesOwn->kn,Arguments->kq,wpAny_truthy_bool->kr,wpAny_pyIter_list->ku,wpAny_askSetting->lh,wpAny_execs_nil->ly,Builtin->mf,wpAny_Call_Name_kw->mq,codeAny_mono->nj,IsPair->nt,wpAny_execs_cons->oj,pushCells_keeps->ph,codeAny_builtin->pv,wpAny_typeOf->qe,wpAny_pyIter_tuple->qp,wpAny_standAt->sd,wpAny_onRaise->sf,wpAny_forIn_list->sy,call_meets->tj,wpAny_rule->tm,IsPart->ui,codeAny_call_builtin->uk,wpAny_updateSeq_pair->um,TriplesOk->ur,wpAny_setEntries_of->vc,wpAny_attempt->vf,PassesOwn->xm,noFill_tuple_add->xr,wpAny_isInstance->yu,wpAny_of_eq->yy,IsZip->zg,Result->zw,wpAny_call->zx,wpAny_setField->Ae,seq_tuple_add->As,wpAny_comprehension_free->Au,wpAny_newList->Ay
open PySem.Around renaming under_plainId->nh,frames_deeper->zo
open PySem.Builtin.List renaming listTooLong->km,listExtendWith->ug,listSameRef->uw,listTouch->vg
open PySem.Builtin.Slice renaming slicePlaces->ka,sliceAdjust->nq,sliceApplied->ud
open PySem.Builtin.SmallTypes renaming nextOf->ff,ownedTupleIsFree->pq,stopIteration->ql
open PySem.Builtin.Tuple renaming tupleExact->kh
open PySem.Calls renaming Name_function_global->vt,evalArgs_plain->Aa
open PySem.Challenge renaming pw_nearorders_k51_seated_so_near->ae
open PySem.EntryCells renaming newEntry->yt
open PySem.F renaming args_tuple_add_2->pg,entry_tuple_add->qd,plainAttrs_list->qh,slot_tuple_add->qr,excBase_ValueError->vk
open PySem.Heap renaming get?_push_of_some->ak,lt_size->aq,get?_push_size->bc,size_push->dw,SameBut->gz,get?_update_other->mm,get?_update_self->my,get?_update_ne->oq,ExtBut->An
open PySem.Heap.SameBut renaming update->mr,refl->sv
open PySem.IsL renaming update->Ab
open PySem.NameKind renaming free->cf,cell->dv
open PySem.Obj renaming mapSeq->nr,data_mapFields->uj,isFreed_of_fields->Am
open PySem.PassesOwn renaming leaving->zr
open PySem.SeqAt renaming EqAt->uc,RcAt->Av
open PySem.SeqAt.EqAt renaming same->qg,int_str->sj,str_int->sk,int_int->sr,none_tuple->wa,bool_tuple->wc,none_bool->wq,none_list->wu,bool_none->wy,bool_bool->xa,bool_list->xc,int_tuple->xg,str_tuple->xi,none_int->xv,none_str->ya,bool_int->yc,bool_str->ye,int_none->yg,int_bool->yi,int_list->yk,str_none->yn,str_bool->yp,str_list->yr,str_str->ze,of_refs->zf
open PySem.SeqAt.RcAt renaming none_tuple->vz,bool_tuple->wb,none_none->wm,none_bool->wo,none_list->wt,bool_none->wx,bool_bool->wz,bool_list->xb,int_tuple->xf,str_tuple->xh,none_int->xu,none_str->xw,bool_int->yb,bool_str->yd,int_none->yf,int_bool->yh,int_list->yj,str_none->ym,str_bool->yo,str_list->yq,int_int->yz,int_str->zb,str_int->zc,str_str->zd
open PySem.SetTable renaming insertAt->ik,turns->rn,below->rp,sizeAbove->zu
open PySem.Shared renaming TypeIs->tq
open PySem.Str renaming ofString->lb
open PySem.Value renaming ref->gn,none->jh,isInt_shape->lr,builtin->tw,bool->Ap,type->Aq
open PySem.W renaming Frag->ao,kitOne->cu,subIn->jl,kla_obj->ju,CodeHd->kj,keepIn->lj,envX->ll,fnOf->og,kla_fn->om,excIn->pj,nsIn->qt,tabObj->sh,methodObj->ub,codeIn->vj,kitCls->vm,cellsFrom_some->xq,hideAll_size->zj,hideAll_none->zk,hideAll_get->zm,of_hideAll->zv,callWith_K->zy
open PySem.Walks renaming list->ue
open PySem.pickOrder renaming go->we
open Sum renaming inl->uy,inr->uz
set_option Elab.async false
set_option linter.all false
set_option maxRecDepth 100000
set_option maxHeartbeats 4000000
namespace L2.Mr
open PySem PySem.Spec PySem.Calls PyProof.Rows PySem.W
def NP (o:Obj):Bool:=match o.cls,o.data with
 | .none,.fields _=>false
 |_,_=>true
def mD (h:cz):List ah->Frag
 | []=>[]
 |a::as=>match h.get? a with
  |some o=>match NP o with
   |true=>(a,o)::mD h as
   |false=>mD h as
  |none=>mD h as
def qK (h:cz):Frag:=mD h (ay h.objs.size)
theorem uD (h:cz):∀as,(mD h as).In h
 | [],_,_,e=>nomatch e
 |a::as,b,o,e=>by
  unfold mD at e
  split at e
  ·rename_i o' q
   split at e
   ·rw[gw]at e
    cases z:b==a with
    |true=>rw[z]at e;cases e;rw[eq_of_beq z];exact q
    |false=>rw[z]at e;exact uD h as b o e
   ·exact uD h as b o e
  ·exact uD h as b o e
theorem uE (h:cz):∀as,noTabs (mD h as)=true
 | []=>rfl
 |a::as=>by
  unfold mD
  split
  ·split
   ·rename_i q;show(_&&_)=true;rw[dj];refine⟨?_,uE h as⟩;exact q
   ·exact uE h as
  ·exact uE h as
def bK (K:Frag) (f:ah):Option br:=match K.lookup f with
 |some o=>match o.data with
  | .func fd=>some { fd with kwdefaults:=.none,doc:=.none,pyModule:=.none,annotations:=none,closureTuple:=.none }
  |_=>none
 |none=>none
theorem NQ {K:Frag}{f:ah}{n q:Str}{A:kq}{B:List gp}{S:gy}{dV cd:af}(h:bK K f=some (fnOf n q A B S dV .none .none .none none cd .none)):
  ∃(oc:af) (od:Option ah) (kV dc pm:af) (an:Option ah) (ct:af) (sl:Array (Option af)),K.lookup f=some ⟨oc,od,.func (fnOf n q A B S dV kV dc pm an cd ct),sl⟩:=by
 unfold bK at h
 split at h
 ·rename_i o e
  split at h
  ·rename_i fd q;obtain⟨oc,od,dt,sl⟩:=o;cases fd;simp only[yw,FuncData.mk.injEq]at h;obtain⟨rfl,rfl,rfl,rfl,rfl,rfl,rfl,rfl,_,_,_,_,rfl,_,rfl⟩:=h;simp only at q;subst q;exact⟨_,_,_,_,_,_,_,_,e⟩
  ·cases h
 ·cases h
theorem bI {F:List (Frag->Bool)}{K:Frag}(h:F.all (λf=>f K)=true) (i:Nat) {f:Frag->Bool}(e:F[i]?=some f):f K=true:=ed.mp h f (bz e)
theorem dB {l m:List (Option br)}(h:l=m) (i:Nat) {a b:Option br}(e:l[i]?=some a) (e':m[i]?=some b):a=b:=by subst h;rw[e]at e';exact cy e'
def uF (K:Frag) (q:ah):Bool:=match K.lookup q with
 |some ⟨_,_,.cls _,_⟩=>true
 |_=>false
theorem E5 {K:Frag}{q:ah}(h:uF K q=true):∃lo ld lc ls,K.lookup q=some ⟨lo,ld,.cls lc,ls⟩:=by
 unfold uF at h
 split at h
 ·exact⟨_,_,_,_,by assumption⟩
 ·cases h
def uG (K:Frag) (n:Str) (v:Int):Bool:=match nsIn K du n with
 |some (some (.int i _))=>i==v
 |_=>false
theorem E6 {K:Frag}{n:Str}{v:Int}(h:uG K n v=true):∃t,nsIn K du n=some (some (.int v t)):=by
 unfold uG at h
 split at h
 ·rename_i i t e;rw[eq_of_beq h]at e;exact⟨t,e⟩
 ·cases h
theorem zC (p:bo) (w:cw) (N:Nat) {α:Type}(f:ag->α):(openEnds treeTable p w N).map f=(((Fast.tw10274390034422433532 Fast.tw14364793385576792824 (opening p) w N (PySem.start (opening p)).1 (PySem.start (opening p)).2).bind (Fast.tw14289696077712309145 p)).bind λs₀=>match s₀.heap.isNs du&&s₀.gens.size==0 with
 |true=>(Fast.tw14082659384304107361 Fast.tw14364793385576792824 p w s₀.heap.objs.size (s₀.heap.nsMap du "__annotations__") N s₀ (topStub p)).bind λs₁=>match staticsOk (importedModules p.main.body) s₀.heap s₁.heap&&namesBound p s₁.heap&&gensDone s₁&&laidKept s₀.heap s₁.heap with
   |true=>some s₁
   |false=>none
 |false=>none).map f:=by
 rw[<-Fast.te10274390034422433532,<-Fast.te14364793385576792824,<-Fast.te14289696077712309145,<-Fast.te14082659384304107361];rfl
abbrev E7:List af:=[.type "ValueError",.type "Exception",.type "BaseException",.type "object"]
def NR (s:gp) (cd:ah):Option br:=match s with
 | .FunctionDef n a b _ _ _ sc _ _ _=>some (fnOf n n a b sc .none .none .none .none none (.ref cd) .none)
 |_=>none
def fE (p:bo) (i:Nat) (cd:ah):Option br:=NR (p.main.body.getD i (.Pass ⟨0,0,0,0⟩)) cd
def nR (K:Frag) (n:Str) (a:ah):Bool:=decide (nsIn K du n=some (some (.ref a)))
def nN (K:Frag) (n:Str):Bool:=decide (nsIn K du n=some none)
def sI (K:Frag) (a b:af) (v:Bool):Bool:=decide (subIn K a b=some v)
def kI (K:Frag) (a b:ah) (v:Bool):Bool:=decide (kitOne K (.ref a) (.ref b)=some v)
theorem dA {F:List (Frag->Bool)}{K:Frag}(h:F.all (λf=>f K)=true) (i:Nat) {g:Frag->Prop}[∀K,Decidable (g K)] (e:F[i]?=some (λK=>decide (g K))):g K:=of_decide_eq_true (bI h i e)
end L2.Mr
namespace L2.Mr.K51
open PySem PySem.Spec PySem.Calls PySem.W PyProof.Rows L2.Mr
def vw:bo:={ ae with main:={ ae.main with body:=List.filterMap (λi=>ae.main.body[i]?) [1,2,3,4,5,6,7,8,9,10,11,12,13,14,15,17,18,19,20,22,23,24,25,26,27,28,29,30,31,32,34,35,36,38,39,40,41,42,43,44,45,46,47,48,49,50,51,52,53,54] } }
def Xw:ag->Bool:=λs=>xlAt vw [] s&&recOk (RowW.records (OpenRow.toRowW PySem.Challenge.rw_nearorders_k51_seated_so_near.row)) s
def obF:List (Frag->Bool):=[(nR · "is_whole" 202),(nR · "is_between" 209),(nR · "need_between" 216),(nR · "is_rising" 221),(nR · "is_thing" 228),(nR · "are_things" 233),(nR · "is_pair" 240),(nR · "are_pairs" 245),(nR · "has_alike" 250),(nR · "is_complete" 255),(nR · "is_order" 262),(nR · "need_order" 269),(nR · "are_loose" 276),(nR · "needs_of" 281),(nR · "raised" 286),(nR · "seated" 293),(nR · "_law_whole" 300),(nR · "_law_is_seating" 305),(nR · "_law_loose" 312),(nR · "_law_least_with" 319),(nR · "_law_reach" 326),(nR · "_law_cell_at" 333),(nR · "_law_state" 340),(nR · "_law_take" 347),(nR · "_law_mixed" 354),(nR · "_law_closed" 361),(nR · "_law_order" 366),(nR · "_law_same" 371),(nR · "_law_bad_order" 378),(nR · "_law_refused" 383),(nR · "_law_all" 388),(nR · "_law_due" 393),(nR · "law" 400),(nR · "NoOrder" 37),(nR · "NoNumber" 49),(nR · "NoPairs" 61),(nR · "Round" 73),(nR · "NoThing" 85),(nR · "NoRow" 97),(nR · "TooMany" 145),(nR · "TooFew" 157),(nR · "NoText" 169),(nR · "NoLine" 181),(nR · "NoDeed" 193),(nR · "NoSeating" 109),(nR · "NoRing" 121),(nR · "NoSizes" 133),(nR · "NearError" 24),(nN · "ValueError"),(nN · "abs"),(nN · "all"),(nN · "any"),(nN · "bool"),(nN · "enumerate"),(nN · "int"),(nN · "isinstance"),(nN · "len"),(nN · "list"),(nN · "max"),(nN · "min"),(nN · "range"),(nN · "set"),(nN · "sorted"),(nN · "tuple"),(nN · "zip"),(codeIn · (.ref 201) "is_whole"),(codeIn · (.ref 208) "is_between"),(codeIn · (.ref 215) "need_between"),(codeIn · (.ref 220) "is_rising"),(codeIn · (.ref 227) "is_thing"),(codeIn · (.ref 232) "are_things"),(codeIn · (.ref 239) "is_pair"),(codeIn · (.ref 244) "are_pairs"),(codeIn · (.ref 249) "has_alike"),(codeIn · (.ref 254) "is_complete"),(codeIn · (.ref 261) "is_order"),(codeIn · (.ref 268) "need_order"),(codeIn · (.ref 275) "are_loose"),(codeIn · (.ref 280) "needs_of"),(codeIn · (.ref 285) "raised"),(codeIn · (.ref 292) "seated"),(codeIn · (.ref 299) "_law_whole"),(codeIn · (.ref 304) "_law_is_seating"),(codeIn · (.ref 311) "_law_loose"),(codeIn · (.ref 318) "_law_least_with"),(codeIn · (.ref 325) "_law_reach"),(codeIn · (.ref 332) "_law_cell_at"),(codeIn · (.ref 339) "_law_state"),(codeIn · (.ref 346) "_law_take"),(codeIn · (.ref 353) "_law_mixed"),(codeIn · (.ref 360) "_law_closed"),(codeIn · (.ref 365) "_law_order"),(codeIn · (.ref 370) "_law_same"),(codeIn · (.ref 377) "_law_bad_order"),(codeIn · (.ref 382) "_law_refused"),(codeIn · (.ref 387) "_law_all"),(codeIn · (.ref 392) "_law_due"),(codeIn · (.ref 399) "law"),(keepIn · (.ref 202)),(keepIn · (.ref 209)),(keepIn · (.ref 216)),(keepIn · (.ref 221)),(keepIn · (.ref 228)),(keepIn · (.ref 233)),(keepIn · (.ref 240)),(keepIn · (.ref 245)),(keepIn · (.ref 250)),(keepIn · (.ref 255)),(keepIn · (.ref 262)),(keepIn · (.ref 269)),(keepIn · (.ref 276)),(keepIn · (.ref 281)),(keepIn · (.ref 286)),(keepIn · (.ref 293)),(keepIn · (.ref 300)),(keepIn · (.ref 305)),(keepIn · (.ref 312)),(keepIn · (.ref 319)),(keepIn · (.ref 326)),(keepIn · (.ref 333)),(keepIn · (.ref 340)),(keepIn · (.ref 347)),(keepIn · (.ref 354)),(keepIn · (.ref 361)),(keepIn · (.ref 366)),(keepIn · (.ref 371)),(keepIn · (.ref 378)),(keepIn · (.ref 383)),(keepIn · (.ref 388)),(keepIn · (.ref 393)),(keepIn · (.ref 400)),(uG · "MOST_THINGS" 6),(uG · "MOST_APART" 5),λK=>decide (tabIn K "law" = some (399,395)),(sI · (.ref 37) (.ref 24) true),(sI · (.ref 49) (.ref 24) true),(sI · (.ref 61) (.ref 24) true),(sI · (.ref 73) (.ref 24) true),(sI · (.ref 85) (.ref 24) true),(sI · (.ref 97) (.ref 24) true),(sI · (.ref 145) (.ref 24) true),(sI · (.ref 157) (.ref 24) true),(sI · (.ref 169) (.ref 24) true),(sI · (.ref 181) (.ref 24) true),(sI · (.ref 193) (.ref 24) true),(sI · (.ref 109) (.ref 24) true),(sI · (.ref 121) (.ref 24) true),(sI · (.ref 133) (.ref 24) true),(kI · 37 37 true),(kI · 37 49 false),(kI · 37 61 false),(kI · 37 73 false),(kI · 37 85 false),(kI · 37 97 false),(kI · 37 145 false),(kI · 37 157 false),(kI · 37 169 false),(kI · 37 181 false),(kI · 37 193 false),(kI · 37 109 false),(kI · 37 121 false),(kI · 37 133 false),(kI · 49 37 false),(kI · 49 49 true),(kI · 49 61 false),(kI · 49 73 false),(kI · 49 85 false),(kI · 49 97 false),(kI · 49 145 false),(kI · 49 157 false),(kI · 49 169 false),(kI · 49 181 false),(kI · 49 193 false),(kI · 49 109 false),(kI · 49 121 false),(kI · 49 133 false),λK=>decide (findIn K (.ref 37) "__getattribute__" = some (some (.builtin "BaseException.__getattribute__"))),λK=>decide (findIn K (.ref 37) "__getattr__" = some none),λK=>decide (findIn K (.ref 37) "__class__" = some (some (.builtin "object.__class__"))),λK=>decide (mroIn K 37 (.type "object")=some true),(sI · (.ref 37) (.type "BaseException") true),λK=>decide (kitCls K (.ref 37) (.ref 37)=some true),(uF · 37),λK=>decide (findIn K (.ref 49) "__getattribute__" = some (some (.builtin "BaseException.__getattribute__"))),λK=>decide (findIn K (.ref 49) "__getattr__" = some none),λK=>decide (findIn K (.ref 49) "__class__" = some (some (.builtin "object.__class__"))),λK=>decide (mroIn K 49 (.type "object")=some true),(sI · (.ref 49) (.type "BaseException") true),λK=>decide (kitCls K (.ref 49) (.ref 49)=some true),(uF · 49),(excIn · 37 E7 "ValueError.__new__"),(excIn · 49 E7 "ValueError.__new__"),λK=>decide (kitOne K (.ref 37) (.type "ValueError")=some true),λK=>decide (kitOne K (.ref 49) (.type "ValueError")=some true),(sI · (.ref 24) (.type "BaseException") true),(sI · (.type "type") (.type "tuple") false),λK=>decide (kitCls K (.ref 24) (.ref 24)=some true)]
def zD (K:Frag):List (Option br):=[bK K 202,bK K 209,bK K 216,bK K 221,bK K 228,bK K 233,bK K 240,bK K 245,bK K 250,bK K 255,bK K 262,bK K 269,bK K 276,bK K 281,bK K 286,bK K 293,bK K 300,bK K 305,bK K 312,bK K 319,bK K 326,bK K 333,bK K 340,bK K 347,bK K 354,bK K 361,bK K 366,bK K 371,bK K 378,bK K 383,bK K 388,bK K 393,bK K 400]
def zE:List (Option br):=[fE ae 17 201,fE ae 18 208,fE ae 19 215,fE ae 20 220,fE ae 24 227,fE ae 25 232,fE ae 26 239,fE ae 27 244,fE ae 28 249,fE ae 29 254,fE ae 30 261,fE ae 31 268,fE ae 32 275,fE ae 34 280,fE ae 35 285,fE ae 36 292,fE ae 38 299,fE ae 39 304,fE ae 40 311,fE ae 41 318,fE ae 42 325,fE ae 43 332,fE ae 44 339,fE ae 45 346,fE ae 46 353,fE ae 47 360,fE ae 48 365,fE ae 49 370,fE ae 50 377,fE ae 51 382,fE ae 52 387,fE ae 53 392,fE ae 54 399]
def ob (K:Frag):Bool×List (Option br):=(obF.all (λf=>f K),zD K)
abbrev obE:Bool×List (Option br):=(true,zE)
theorem E8 {α β γ:Type}{o:Option α}{f:α->β}{g:α->γ}{a:β}{b:γ}(h1:o.map f=some a) (h2:o.map g=some b):o.map (λs=>(f s,g s))=some (a,b):=by
 cases o with
 |none=>cases h1
 |some s=>cases h1;cases h2;rfl
theorem NS (w:cw):(openEnds treeTable ae w 8000).map (λs=>openSeen vw [] (importedModules (ae).main.body) Xw true s)=some (openGood vw []):=by rw[zC,Fast.te4187177175401517315];kernel_rfl
theorem NT (w:cw):(openEnds treeTable ae w 8000).map (λs=>obF.all (λf=>f (qK s.heap)))=some true:=by rw[zC];kernel_rfl
theorem NU (w:cw):(openEnds treeTable ae w 8000).map (λs=>zD (qK s.heap))=some zE:=by rw[zC];kernel_rfl
theorem left:LeftO ae vw [] Xw (λs=>ob (qK s.heap)) (λ_=>obE) 8000:=λw=>E8 (NS w) (E8 (NT w) (NU w))
end L2.Mr.K51
namespace L2
open PySem PySem.Spec PyProof.Rows
abbrev gU:=Sum Int Str
def E9:gU->af->Bool
 | .inl k,v=>Value.isInt k v
 | .inr x,v=>Value.isStrOf x v
def NV (w:cw):gU->Int
 | .inl k=>hashInt k
 | .inr x=>hashStr w x
theorem lJ:∀{k:gU}{v:af},E9 k v=true->(∃i t,k=uy i/\v=Value.int i t)∨(∃x t,k=uz x/\v=Value.str x t)
 | .inl i,v,h=>by obtain⟨t,e⟩:=lr (k:=i) (v:=v) h;exact .inl ⟨i,t,rfl,e⟩
 | .inr x,v,h=>by obtain⟨t,e⟩:=Value.isStrOf_shape (x:=x) (v:=v) h;exact .inr ⟨x,t,rfl,e⟩
theorem NW (a b:Int):decide ((uy a:gU)=uy b)=(a==b):=by
 by_cases e:a=b
 ·subst e;simp
 ·have h:¬ (uy a:gU)=uy b:=λq=>e (Sum.inl.inj q);rw[decide_eq_false h];exact(beq_eq_false_iff_ne.mpr e).symm
theorem NX (a b:Str):decide ((uz a:gU)=uz b)=decide (a=b):=by
 by_cases e:a=b
 ·subst e;simp
 ·have h:¬ (uz a:gU)=uz b:=λq=>e (Sum.inr.inj q);rw[decide_eq_false h,decide_eq_false e]
theorem NY (a:Int) (b:Str):decide ((uy a:gU)=uz b)=false:=decide_eq_false (λq=>nomatch q)
theorem NZ (a:Str) (b:Int):decide ((uz a:gU)=uy b)=false:=decide_eq_false (λq=>nomatch q)
def zF (prog:bo) (w:cw):PySem.KeyKind prog w gU where
 is:=E9
 hash:=NV w
 inj:=λv a b ha hb=>by
  rcases lJ ha with⟨i,t,rfl,rfl⟩|⟨x,t,rfl,rfl⟩
  ·rcases lJ hb with⟨j,u,rfl,e⟩|⟨y,u,rfl,e⟩
   ·injection e with e1 _;rw[e1]
   ·exact nomatch e
  ·rcases lJ hb with⟨j,u,rfl,e⟩|⟨y,u,rfl,e⟩
   ·exact nomatch e
   ·injection e with e1 _;rw[e1]
 byValue:=λk v h=>by rcases lJ h with⟨i,t,rfl,rfl⟩|⟨x,t,rfl,rfl⟩ <;> rfl
 pyHash:=λhv h=>by
  rcases lJ hv with⟨i,t,rfl,rfl⟩|⟨x,t,rfl,rfl⟩
  ·exact wpAny_pyHash_int h
  ·exact wpAny_pyHash_str h
 eqBool:=λhu hv h=>by
  rcases lJ hu with⟨i,t,rfl,rfl⟩|⟨x,t,rfl,rfl⟩
  ·rcases lJ hv with⟨j,u,rfl,rfl⟩|⟨y,u,rfl,rfl⟩
   ·rw[NW]at h;exact wpAny_eqBool_int h
   ·rw[NY]at h;exact sj i t y u _ _ _ _ h
  ·rcases lJ hv with⟨j,u,rfl,rfl⟩|⟨y,u,rfl,rfl⟩
   ·rw[NZ]at h;exact sk x t j u _ _ _ _ h
   ·rw[NX]at h;exact wpAny_eqBool_str h
 «strs»:=λk x t v h=>by
  rcases lJ h with⟨i,u,rfl,e⟩|⟨y,u,rfl,e⟩
  ·exact nomatch e
  ·injection e with e1 _;subst e1
   cases v <;> rfl
inductive V where
 |non|bl (b:Bool)|int (i:Int)|str (x:Str)|byt (b:Array UInt8)|flt (b:UInt64)|ref (a:ah)|ty (n:String)
 deriving DecidableEq
def RelV:V->af->Prop
 | .non,u=>u=jh
 | .bl b,u=>u=Ap b
 | .int i,u=>∃t,u=Value.int i t
 | .str x,u=>∃t,u=Value.str x t
 | .byt b,u=>∃t,u=Value.bytes b t
 | .flt b,u=>∃t,u=Value.float b t
 | .ref a,u=>u=gn a
 | .ty n,u=>u=Aq n
abbrev Vals:List V->List af->Prop:=Paired RelV
theorem Vals.length {xs:List V}{us:List af}(r:Vals xs us):xs.length=us.length:=Paired.length r
theorem Vals.get:∀{xs:List V}{us:List af}{i:Nat}{x:V},Vals xs us->xs[i]?=some x->∃u,us[i]?=some u/\RelV x u
 |_,_,_,_,.nil,e=>by simp at e
 |_,_,0,_,.cons r _,e=>by simp at e;subst e;exact⟨_,rfl,r⟩
 |_,_,i+1,x,.cons _ t,e=>by obtain⟨u,h1,h2⟩:=Vals.get (i:=i) (x:=x) t (by simpa using e);exact⟨u,by simpa using h1,h2⟩
theorem Vals.set {x:V}{u:af}(r:RelV x u):∀{xs:List V}{us:List af}(i:Nat),Vals xs us->Vals (xs.set i x) (us.set i u)
 |_,_,_,.nil=>.nil
 |_,_,0,.cons _ t=>.cons r t
 |_,_,i+1,.cons q t=>.cons q (Vals.set r i t)
theorem Vals.append:∀{xs ys:List V}{us ws:List af},Vals xs us->Vals ys ws->Vals (xs++ys) (us++ws)
 |_,_,_,_,.nil,s=>s
 |_,_,_,_,.cons r t,s=>.cons r (Vals.append t s)
theorem Vals.take:∀{xs:List V}{us:List af}(n:Nat),Vals xs us->Vals (xs.take n) (us.take n)
 |_,_,0,_=>.nil
 |_,_,_+1,.nil=>.nil
 |_,_,n+1,.cons r t=>.cons r (Vals.take n t)
theorem Vals.drop:∀{xs:List V}{us:List af}(n:Nat),Vals xs us->Vals (xs.drop n) (us.drop n)
 |_,_,0,r=>r
 |_,_,_+1,.nil=>.nil
 |_,_,n+1,.cons _ t=>Vals.drop n t
def FA:Option V->Option af->Prop
 |some v,some u=>RelV v u
 |none,none=>True
 |_,_=>False
def KV {κ:Type}:List (κ×V)->List (κ×af)->Prop:=Paired λ(p:κ×V) (q:κ×af)=>p.1=q.1/\RelV p.2 q.2
def kV:gU->V
 | .inl i=>.int i
 | .inr x=>.str x
inductive HO where
 |lst (xs:List V)
 |tup (xs:List V)
 |dK (kvs:List (gU×V))|dT (kvs:List (List gU×V))
 |set (S:Int->Bool) (n:Nat)
 |ins (C dx:ah) (fs:List (Str×V))
 |own (x:ah)
 |xd (fs:List (Str×V))
 |met (f x:ah)
 |rng (lo hi:Int)
 |frz (o:Obj) (u:HO)
 |tbl (ps:Array af)
 |ext (φ:cz->Prop)
abbrev Hp:=ah->Option HO
def aW (H:Hp) (a:ah) (o:HO):Hp:=λb=>if b=a then some o else H b
theorem cU {H:Hp}{a:ah}{o:HO}:aW H a o a=some o:=by unfold aW;rw[if_pos rfl]
theorem bT {H:Hp}{a b:ah}{o:HO}(h:b≠a):aW H a o b=H b:=by unfold aW;rw[if_neg h]
theorem mE {H:Hp}{a b:ah}{o u:HO}(h:H a=some o) (h':H b=some u) (d:o≠u):a≠b:=by intro e;subst e;rw[h]at h';exact d (cy h')
theorem fF {H:Hp}{a b:ah}{o:HO}(h:H a=some o) (h':H b=none):a≠b:=by intro e;subst e;rw[h]at h';cases h'
def IsTupX (h:cz) (a:ah) (items:Array af):Prop:=∃o,h.get? a=some o/\o.cls=.type "tuple"/\o.dict=none/\∃n,o.data=.seq items n
theorem IsTupX.tup {h:cz}{a:ah}{items:Array af}(x:IsTupX h a items):IsTup h a items:=let ⟨o,e,c,_,d⟩:=x;⟨o,e,c,d⟩
theorem IsTupX.lt {h:cz}{a:ah}{items:Array af}(x:IsTupX h a items):a<h.objs.size:=let ⟨_,e,_⟩:=x;aq e
theorem IsTupX.new (h:cz) (items:Array af):IsTupX (h.push { cls:=.type "tuple",data:=.seq items }) h.objs.size items:=⟨_,bc _ rfl,rfl,rfl,_,rfl⟩
section
variable(P:bo) (w:cw)
def ObjOk (H:Hp) (h:cz) (a:ah):HO->Prop
 | .lst xs=>xs.length<=cj/\∃(its:List af) (n:Nat),Vals xs its/\h.get? a=some { cls:=.type "list",data:=.seq its.toArray n }
 | .tup xs=>xs.length<=cj/\∃its:List af,Vals xs its/\IsTupX h a its.toArray
 | .dK kvs=>kvs.length<=cj/\(a==sysModules)=false/\∃vs,KV kvs vs/\h.DictOf (zF P w) a vs
 | .dT kvs=>kvs.length<=cj/\(a==sysModules)=false/\∃xs:List (List gU×ah×af),
   Paired (λ(p:List gU×V) (q:List gU×ah×af)=>p.1=q.1/\H q.2.1=some (.tup (p.1.map kV))/\RelV p.2 q.2.2) kvs xs /\
   ∃o es ep,h.get? a=some o/\o.ExactDict/\o.data=.dict es ep/\es.toList=xs.map (entryOfKey (tupleKind (zF P w)))/\(xs.map (·.1)).Nodup
 | .set S n=>h.SetOf (intKind P w) a S n
 | .ins C dx fs=>H dx=some (.own a)/\fs.length<=1000/\dx≠a/\h.get? a=some (PySem.W.instObj C dx) /\
   ∃mA,h.Ns1 dx mA/\(∀f,FA (fs.lookup f) (mA f))/\PySem.Within mA (fs.map (·.1))
 | .own _=>∃o,h.get? a=some o
 | .xd fs=>∃mA,h.Ns1 a mA/\∀f,FA (fs.lookup f) (mA f)
 | .rng lo hi=>∃t u v,h.get? a=some { cls:=.type "range",data:=.fields #[.int lo t,.int hi u,.int 1 v] }
 | .frz o u=>h.get? a=some o/\ObjOk H h a u
 | .tbl ps=>h.get? a=some { cls:=.none,data:=.fields ps }
 | .met f x=>h.get? a=some (ub (.ref f) (.ref x))
 | .ext φ=>φ h/\(∃o,h.get? a=some o)/\∀h1 h2:cz,φ h1->(∀o,h1.get? a=some o->h2.get? a=some o)->φ h2
def HOk (H:Hp) (h:cz):Prop:=∀a o,H a=some o->ObjOk P w H h a o
end
section
variable{P:bo}{w:cw}{H H':Hp}{h h':cz}{a:ah}{o:HO}
theorem ObjOk.lt (x:ObjOk P w H h a o):a<h.objs.size:=by
 cases o with
 |lst xs=>obtain⟨_,_,_,_,e⟩:=x;exact aq e
 |tup xs=>obtain⟨_,_,_,p⟩:=x;exact p.lt
 |dK kvs=>obtain⟨_,_,_,_,o,_,_,e,_⟩:=x;exact aq e
 |dT kvs=>obtain⟨_,_,_,_,o,_,_,e,_⟩:=x;exact aq e
 |set S n=>obtain⟨o,_,_,_,e,_⟩:=x;exact aq e
 |ins C dx fs=>obtain⟨_,_,_,e,_⟩:=x;exact aq e
 |own y=>obtain⟨_,e⟩:=x;exact aq e
 |xd fs=>obtain⟨_,⟨_,_,_,e,_⟩,_⟩:=x;exact aq e
 |rng lo hi=>obtain⟨_,_,_,e⟩:=x;exact aq e
 |frz ob u=>obtain⟨e,_⟩:=x;exact aq e
 |tbl ps=>exact aq (show h.get? a=some _ from x)
 |met f y=>exact aq (show h.get? a=some _ from x)
 |ext φ=>obtain⟨_,⟨_,e⟩,_⟩:=x;exact aq e
theorem Paired.mapP {α β:Type}{F G:α->β->Prop}:∀{l₁:List α}{l₂:List β},Paired F l₁ l₂->(∀a b,F a b->G a b)->Paired G l₁ l₂
 |_,_,.nil,_=>.nil
 |_,_,.cons r t,f=>.cons (f _ _ r) (Paired.mapP t f)
theorem ObjOk.stay (x:ObjOk P w H h a o) (k:∀b u,(b=a∨H b=some (.own a))->h.get? b=some u->h'.get? b=some u)
  (ho:∀b,H b=some (.own a)->H' b=some (.own a)) (ht:∀b xs,H b=some (.tup xs)->H' b=some (.tup xs)):ObjOk P w H' h' a o:=by
 induction o with
 |lst xs=>obtain⟨z,its,n,r,e⟩:=x;exact⟨z,its,n,r,k _ _ (.inl rfl) e⟩
 |tup xs=>obtain⟨z,its,r,ob,e,c⟩:=x;exact⟨z,its,r,ob,k _ _ (.inl rfl) e,c⟩
 |dK kvs=>obtain⟨z,y,vs,r,ob,es,ep,e,c⟩:=x;exact⟨z,y,vs,r,ob,es,ep,k _ _ (.inl rfl) e,c⟩
 |dT kvs=>obtain⟨z,y,xs,r,ob,es,ep,e,c⟩:=x;exact⟨z,y,xs,Paired.mapP r λp q z=>⟨z.1,ht _ _ z.2.1,z.2.2⟩,ob,es,ep,k _ _ (.inl rfl) e,c⟩
 |set S n=>obtain⟨ob,es,ep,t,e,c⟩:=x;exact⟨ob,es,ep,t,k _ _ (.inl rfl) e,c⟩
 |ins C dx fs=>obtain⟨d,z,ne,e,mA,⟨od,es,ep,e2,c⟩,r⟩:=x;exact⟨ho _ d,z,ne,k _ _ (.inl rfl) e,mA,⟨od,es,ep,k _ _ (.inr d) e2,c⟩,r⟩
 |own y=>obtain⟨ob,e⟩:=x;exact⟨ob,k _ _ (.inl rfl) e⟩
 |xd fs=>obtain⟨mA,⟨od,es,ep,e,c⟩,r⟩:=x;exact⟨mA,⟨od,es,ep,k _ _ (.inl rfl) e,c⟩,r⟩
 |rng lo hi=>obtain⟨t,u,v,e⟩:=x;exact⟨t,u,v,k _ _ (.inl rfl) e⟩
 |frz ob u ih=>obtain⟨e,q⟩:=x;exact⟨k _ _ (.inl rfl) e,ih q⟩
 |tbl ps=>have e:h.get? a=some { cls:=.none,data:=.fields ps }:=x;show h'.get? a=some { cls:=.none,data:=.fields ps };exact k a _ (.inl rfl) e
 |met f y=>have e:h.get? a=some (ub (.ref f) (.ref y)):=x;show h'.get? a=some (ub (.ref f) (.ref y));exact k a _ (.inl rfl) e
 |ext φ=>obtain⟨p,⟨o,e⟩,st⟩:=x;exact⟨st _ _ p λo q=>k _ _ (.inl rfl) q,⟨o,k _ _ (.inl rfl) e⟩,st⟩
theorem HOk.lt (x:HOk P w H h) (e:H a=some o):a<h.objs.size:=(x a o e).lt
theorem HOk.fresh (x:HOk P w H h) (e:h.objs.size<=a):H a=none:=by
 cases q:H a with
 |none=>rfl
 |some u=>exact absurd (av (x.lt q) e) (gh _)
theorem HOk.kept (x:HOk P w H h) (k:∀b u,h.get? b=some u->h'.get? b=some u):HOk P w H h':=λa o e=>(x a o e).stay (λb u _ q=>k b u q) (λ_ q=>q) λ_ _ q=>q
theorem HOk.laid (x:HOk P w H h) (k:∀b u,h.get? b=some u->h'.get? b=some u) (hp:h.objs.size<=a) (new:ObjOk P w (aW H a o) h' a o):HOk P w (aW H a o) h':=λb u e=>by
 have hn:=x.fresh hp
 by_cases hb:b=a
 ·subst hb;rw[cU]at e;cases e;exact new
 ·rw[bT hb]at e;exact(x b u e).stay (λc v _ q=>k c v q) (λc q=>by rw[bT (fF q hn)];exact q) λc xs q=>by rw[bT (fF q hn)];exact q
end
def Rd (H:Hp) (a:ah) (u:HO):Prop:=H a=some u∨∃o,H a=some (.frz o u)
theorem Rd.ok {P:bo}{w:cw}{H:Hp}{h:cz}{a:ah}{u:HO}(r:Rd H a u) (x:HOk P w H h):ObjOk P w H h a u:=by
 rcases r with r|⟨o,r⟩
 ·exact x a u r
 ·obtain⟨_,q⟩:=x a _ r;exact q
def uH:Option HO->Prop
 |some (.lst _)=>True
 |some (.dK _)=>True
 |some (.dT _)=>True
 |some (.set _ _)=>True
 |some (.ins _ _ _)=>True
 |some (.ext _)=>True
 |_=>False
section
variable{P:bo}{w:cw}{H:Hp}{h h':cz}{x e:ah}{o':HO}
theorem HOk.write (ok:HOk P w H h) (mu:uH (H x)) (he:e=x∨H e=some (.own x)) (k:∀b u,b≠e->h.get? b=some u->h'.get? b=some u) (heo:∃u,h'.get? e=some u)
  (new:ObjOk P w (aW H x o') h' x o'):HOk P w (aW H x o') h':=λb u q=>by
 have nown:∀c y,H c=some (.own y)->c≠x:=λc y r z=>by subst z;rw[r]at mu;exact mu
 have ntup:∀c xs,H c=some (.tup xs)->c≠x:=λc xs r z=>by subst z;rw[r]at mu;exact mu
 by_cases hb:b=x
 ·subst hb;rw[cU]at q;cases q;exact new
 ·rw[bT hb]at q
  by_cases hbe:b=e
  ·have q':H b=some (.own x):=by
    rcases he with z|z
    ·exact absurd (hbe.trans z) hb
    ·rw[hbe];exact z
   rw[q]at q';cases q';obtain⟨v,hv⟩:=heo;exact⟨v,by rw[hbe];exact hv⟩
  ·refine(ok b u q).stay (λc v hc r=>k c v ?_ r) (λc r=>by rw[bT (nown c b r)];exact r) λc xs r=>by rw[bT (ntup c xs r)];exact r
   rcases hc with rfl|hc
   ·exact hbe
   ·rintro rfl
    rcases he with z|z
    ·exact nown c b hc z
    ·rw[hc]at z;cases z;exact hb rfl
end
structure Un (fs ex:List ah) (H H':Hp) (h h':cz):Prop where
 keep:∀b o,h.get? b=some o->H b=none->b∉fs->b∉ex->h'.get? b=some o
 slot:∀b o,h.get? b=some o->H b=none->b∈fs->b∉ex->∃sl,h'.get? b=some { o with slots:=sl }
 free:∀b o,h.get? b=some o->H b=none->b∉ex->H' b=none
 there:∀b o,h.get? b=some o->b∉ex->∃o',h'.get? b=some o'
 tups:∀b xs,H b=some (.tup xs)->H' b=some (.tup xs)
 frzs:∀b o u,H b=some (.frz o u)->H' b=some (.frz o u)
 tbls:∀b ps,H b=some (.tbl ps)->∃more,H' b=some (.tbl (ps++more))
section
variable{fs fs' ex ex':List ah}{H H1 H2:Hp}{h h1 h2 h':cz}{a x e:ah}{o:HO}
theorem Un.any (u:Un fs ex H H1 h h1) {b:ah}{ob:Obj}(q:h.get? b=some ob) (n:H b=none) (hx:b∉ex):∃sl,h1.get? b=some { ob with slots:=sl }:=by
 by_cases hb:b∈fs
 ·exact u.slot b ob q n hb hx
 ·exact⟨ob.slots,u.keep b ob q n hb hx⟩
theorem Un.kept (k:∀b u,h.get? b=some u->h'.get? b=some u):Un fs ex H H h h':=⟨λb ob q _ _ _=>k b ob q,λb ob q _ _ _=>⟨ob.slots,k b ob q⟩,λ_ _ _ n _=>n,λb ob q _=>⟨ob,k b ob q⟩,λ_ _ q=>q,λ_ _ _ q=>q,λ_ ps q=>⟨#[],by rw[q];simp⟩⟩
theorem Un.refl:Un fs ex H H h h:=Un.kept λ_ _ q=>q
theorem Un.laid (k:∀b u,h.get? b=some u->h'.get? b=some u) (hp:h.objs.size<=a) (hn:H a=none):Un fs ex H (aW H a o) h h' where
 keep:=λb u q _ _ _=>k b u q
 slot:=λb u q _ _ _=>⟨u.slots,k b u q⟩
 free:=λb u q n _=>by rw[bT (bf (av (aq q) hp))];exact n
 there:=λb u q _=>⟨u,k b u q⟩
 tups:=λb xs q=>by rw[bT (fF q hn)];exact q
 frzs:=λb u xs q=>by rw[bT (fF q hn)];exact q
 tbls:=λb ps q=>⟨#[],by rw[bT (fF q hn),q];simp⟩
theorem Un.write (mu:uH (H x)) (he:e=x∨H e=some (.own x)) (k:∀b u,b≠e->h.get? b=some u->h'.get? b=some u) (heo:∃u,h'.get? e=some u):Un fs ex H (aW H x o) h h':=by
 have hx:∀b,H b=none->b≠x:=λb n z=>by subst z;rw[n]at mu;exact mu
 have hb:∀b,H b=none->b≠e:=λb n z=>by
  subst z
  rcases he with r|r
  ·exact hx b n r
  ·rw[n]at r;cases r
 have hm:∀b u,H b=some u->¬ uH (some u)->b≠x:=λb u q nm z=>by subst z;rw[q]at mu;exact nm mu
 refine⟨λb u q n _ _=>k b u (hb b n) q,λb u q n _ _=>⟨u.slots,k b u (hb b n) q⟩,λb u q n _=>by rw[bT (hx b n)];exact n,λb u q _=>?_,
  λb xs q=>by rw[bT (hm b _ q λz=>z)];exact q,λb u xs q=>by rw[bT (hm b _ q λz=>z)];exact q,λb ps q=>⟨#[],by rw[bT (hm b _ q λz=>z),q];simp⟩⟩
 by_cases hbe:b=e
 ·subst hbe;exact heo
 ·exact⟨u,k b u hbe q⟩
end
def uI (h:cz) (H:Hp):List ah:=(ay h.objs.size).filter λa=>(H a).isSome
def jY (h:cz) (H:Hp):cz:=PySem.W.hideAll h (uI h H)
theorem N0 (h:cz) (H:Hp):(jY h H).objs.size=h.objs.size:=zj _ _
theorem N1 {h:cz}{H:Hp}{b:ah}{o:Obj}(e:h.get? b=some o) (n:H b=none):(jY h H).get? b=some o:=zm _ e λhm=>by have q:(H b).isSome=true:=(iz.mp hm).2;rw[n]at q;simp at q
theorem N2 {h:cz}{H:Hp}{b:ah}{o:Obj}(e:(jY h H).get? b=some o):h.get? b=some o/\H b=none:=by
 have e':h.get? b=some o:=zv (uI h H) e;refine⟨e', ?_⟩
 cases q:H b with
 |none=>rfl
 |some x=>have hm:b∈uI h H:=iz.mpr ⟨bw.mpr (aq e'),by simp[q]⟩;have z:(jY h H).get? b=none:=zk (uI h H) hm;rw[z]at e;cases e
structure Mod (K:ao) (mg:Str->Option af) (base:cz):Prop where
 kin:K.In base
 glob:base.Ns du mg
 blt:∃mb,base.Ns builtinsNs mb/\∀x:Str,x ≠ "__name__"->mb x=df x
 nolimit:base.NoLimit
structure Cx where
 prog:bo
 w:cw
 K:ao
 mg:Str->Option af
 base:cz
 A:cx
 N:List Str
 s₀:ag
 H₀:Hp
 env:Env
 outer:List Env
 stack:List Env
 ex:List ah
 fn:Str->Bool
 calm:Bool
 pn:List (ah×Obj)
 xe:af->ag->Prop
def dS (l:List Env):List ah:=l.filterMap (·.frame)
abbrev Cx.fs (X:Cx):List ah:=dS X.outer
def oX (sc:gy) (x:Str):Prop:=sc.names.lookup x=some .local∨sc.names.lookup x=some .cell∨sc.names.lookup x=some .free
def mF (sc:gy) (x:Str):Prop:=sc.names.lookup x=some .local∨sc.names.lookup x=some .cell
def FC (env:Env) (h:cz) (m:Str->Option af) (x:Str) (u:af):Prop:=(env.kindOf x=some .local/\m x=some u)∨((env.kindOf x=some .cell∨env.kindOf x=some .free)/\∃c,env.cells.lookup x=some c/\h.IsCell c (some u))
structure Cx.Ok (X:Cx):Prop where
 mod:Mod X.K X.mg X.base
 kind:X.env.scope.kind=.function
 glob:X.env.globals=du
 blt:X.env.builtins=builtinsNs
 above:X.s₀.heap.objs.size<=X.env.locals
 inj:∀x y c,X.env.cells.lookup x=some c->X.env.cells.lookup y=some c->x=y
 has:∀x,(X.env.kindOf x=some .cell∨X.env.kindOf x=some .free)->∃c,X.env.cells.lookup x=some c
 cab:∀x c,X.fn x=true->X.env.cells.lookup x=some c->X.s₀.heap.objs.size<=c
 hd:X.calm=true->X.A.handled=none
 frames:X.A.frames=some X.stack
 stk:X.stack=X.outer∨(X.stack=X.env::X.outer/\X.env.frame=some X.env.locals)
 exf:∀b∈X.ex,b≠X.env.locals/\∀x c,X.env.cells.lookup x=some c->c≠b
 bs:∀b o,X.base.get? b=some o->X.s₀.heap.get? b=some o/\X.H₀ b=none
 bsz:X.base.objs.size<=X.s₀.heap.objs.size
 noex:∀b o,X.base.get? b=some o->b∉X.ex
 exfs:∀b∈X.ex,b∉X.fs
 funs:X.s₀.heap.FunFrames X.base X.outer
 frf:∀b∈X.fs,X.H₀ b=none
structure Inv (X:Cx) (pins:List (ah×Obj)) (σ:List (Option V)) (H:Hp) (s:ag):Prop where
 ok:X.Ok
 os:s.os=X.s₀.os
 bare:rj s.gens
 base:Un X.fs X.ex X.H₀ H X.s₀.heap s.heap
 loc:∃m,s.heap.Ns X.env.locals m/\∀(i:Nat) (x:Str) (v:V),X.N[i]?=some x->σ[i]?=some (some v)->oX X.env.scope x->∃u,RelV v u/\FC X.env s.heap m x u
 cell:∀x c,X.env.cells.lookup x=some c->∃v,s.heap.IsCell c v
 free:H X.env.locals=none
 freeC:∀x c,X.env.cells.lookup x=some c->H c=none
 pin:∀p∈X.pn++pins,s.heap.get? p.1=some p.2/\H p.1=none/\p.1≠X.env.locals/\p.1∉X.fs/\∀v,p.2.data≠.cell v
 hok:HOk X.prog X.w H s.heap
 len:σ.length=X.N.length
section
variable{X:Cx}{pins:List (ah×Obj)}{σ:List (Option V)}{H H':Hp}{s:ag}{h':cz}
theorem Cx.Ok.nofr (ok:X.Ok) {b:ah}{o:Obj}(e:X.base.get? b=some o):b∉X.fs:=λhb=>by have:=(ok.funs.mem hb).1;rw[e]at this;cases this
theorem Inv.bs (I:Inv X pins σ H s):∀b o,X.base.get? b=some o->s.heap.get? b=some o/\H b=none:=λb o e=>⟨I.base.keep b o (I.ok.bs b o e).1 (I.ok.bs b o e).2 (I.ok.nofr e) (I.ok.noex b o e),I.base.free b o (I.ok.bs b o e).1 (I.ok.bs b o e).2 (I.ok.noex b o e)⟩
theorem Inv.bk (I:Inv X pins σ H s):∀b o,X.base.get? b=some o->s.heap.get? b=some o:=λb o e=>(I.bs b o e).1
theorem Inv.mod (I:Inv X pins σ H s):Mod X.K X.mg X.base:=I.ok.mod
theorem Inv.kIn (I:Inv X pins σ H s):X.K.In s.heap:=I.ok.mod.kin.keeps I.bk
theorem Inv.lt (I:Inv X pins σ H s):X.env.locals<s.heap.objs.size:=let ⟨_,hn,_⟩:=I.loc;hn.lt
theorem Inv.sz (I:Inv X pins σ H s):X.s₀.heap.objs.size<=s.heap.objs.size:=cq I.ok.above (gu I.lt)
theorem Inv.nofs (I:Inv X pins σ H s) {a:ah}(h:s.heap.objs.size<=a):a∉X.fs:=λhb=>by obtain⟨_,o,ho,_⟩:=I.ok.funs.mem hb;exact absurd (av (aq ho) (cq I.sz h)) (gh _)
theorem Inv.cne (I:Inv X pins σ H s):∀x c,X.env.cells.lookup x=some c->c≠X.env.locals:=λx c e z=>by obtain⟨v,o,ho,hd⟩:=I.cell x c e;obtain⟨m,⟨o',es,ep,ho',hd',_⟩,_⟩:=I.loc;rw[z,ho']at ho;cases ho;rw[hd']at hd;cases hd
theorem Inv.funs (I:Inv X pins σ H s):s.heap.FunFrames X.base X.outer:=by
 have all:∀(l:List Env),(∀b∈dS l,b∈X.fs)->X.s₀.heap.FunFrames X.base l->s.heap.FunFrames X.base l:=by
  intro l
  induction l with
  |nil=>intro _ _;trivial
  |cons env r ih=>intro hs hl;obtain⟨hk,⟨L,o,hf,hn,ho,hd⟩,hr⟩:=hl;have hL:L∈X.fs:=hs L (by unfold dS;rw[ck,hf];exact bh);obtain⟨sl,e⟩:=I.base.slot L o ho (I.ok.frf L hL) hL λz=>I.ok.exfs L z hL;exact⟨hk,⟨L,_,hf,hn,e,hd⟩,ih (λb hb=>hs b (by unfold dS;rw[ck,hf];exact ax _ hb)) hr⟩
 exact all X.outer (λ_ hb=>hb) I.ok.funs
theorem Inv.stack (I:Inv X pins σ H s):s.heap.FunFrames X.base X.stack:=by
 rcases I.ok.stk with e|⟨e,hf⟩
 ·rw[e];exact I.funs
 ·rw[e];obtain⟨m,hn,_⟩:=I.loc;refine .cons (by rw[I.ok.kind];decide) hf hn ?_ I.funs;exact Heap.get?_none_of_le (cq I.ok.bsz I.ok.above)
theorem Inv.stkSub (I:Inv X pins σ H s):∀b∈dS X.stack,b∈X.env.locals::X.fs:=λb hb=>by
 rcases I.ok.stk with e|⟨e,hf⟩
 ·rw[e]at hb;exact ax _ hb
 ·rw[e]at hb;unfold dS at hb;rw[ck,hf]at hb;exact hb
theorem Inv.stkFree (I:Inv X pins σ H s):∀b∈dS X.stack,H b=none:=λb hb=>by
 rcases bg.mp (I.stkSub b hb)with e|hb
 ·rw[e];exact I.free
 ·obtain⟨_,o,ho,_⟩:=I.ok.funs.mem hb;exact I.base.free b o ho (I.ok.frf b hb) λz=>I.ok.exfs b z hb
theorem Inv.step {g':Array GenState}{t':Nat}{d':Drawn}{ch:List ah}(I:Inv X pins σ H s)
  (hch:∀b∈ch,(b∈X.ex∨X.s₀.heap.objs.size<=b)/\b≠X.env.locals/\(∀x c,X.env.cells.lookup x=some c->c≠b)/\∀p∈X.pn++pins,p.1≠b)
  (keep:∀b o,b≠X.env.locals->b∉X.fs->b∉ch->s.heap.get? b=some o->H b=none->h'.get? b=some o)
  (slot:∀b o,b≠X.env.locals->b∈X.fs->b∉ch->s.heap.get? b=some o->H b=none->∃sl,h'.get? b=some { o with slots:=sl }) (free:∀b o,b∉ch->s.heap.get? b=some o->H b=none->H' b=none)
  (there:∀b o,b∉ch->s.heap.get? b=some o->∃o',h'.get? b=some o')
  (tups:∀b xs,H b=some (.tup xs)->H' b=some (.tup xs)) (frzs:∀b o u,H b=some (.frz o u)->H' b=some (.frz o u)) (tbls:∀b ps,H b=some (.tbl ps)->∃more,H' b=some (.tbl (ps++more)))
  (ns:∀m,s.heap.Ns X.env.locals m->h'.Ns X.env.locals m) (hok:HOk X.prog X.w H' h') (hg:rj g'):
  Inv X pins σ H' { s with heap:=h',gens:=g',drawn:=d',toks:=t' }:=by
 have neL:∀b o,X.s₀.heap.get? b=some o->b≠X.env.locals:=λb o e=>bf (av (aq e) I.ok.above);have neC:∀b o,X.s₀.heap.get? b=some o->b∉X.ex->b∉ch:=λb o e hx hb=>by
  rcases(hch b hb).1 with z|z
  ·exact hx z
  ·exact absurd (av (aq e) z) (gh _)
 have cellK:∀x c,X.env.cells.lookup x=some c->∀v,s.heap.IsCell c v->h'.IsCell c v:=λx c e v ⟨o,ho,hd⟩=>by
  have nch:c∉ch:=λz=>(hch c z).2.2.1 x c e rfl
  by_cases hc:c∈X.fs
  ·obtain⟨sl,q⟩:=slot c o (I.cne x c e) hc nch ho (I.freeC x c e);exact⟨_,q,hd⟩
  ·exact⟨o,keep c o (I.cne x c e) hc nch ho (I.freeC x c e),hd⟩
 refine⟨I.ok,I.os,hg,⟨λb o e n hb hx=>?_,λb o e n hb hx=>?_,λb o e n hx=>?_,λb o e hx=>?_,λb xs e=>tups b xs (I.base.tups b xs e),λb o xs e=>frzs b o xs (I.base.frzs b o xs e),λb ps e=>?_⟩, ?_,λx c e=>?_, ?_,λx c e=>?_,λp hp=>?_,hok,I.len⟩
 ·exact keep b o (neL b o e) hb (neC b o e hx) (I.base.keep b o e n hb hx) (I.base.free b o e n hx)
 ·obtain⟨sl,e1⟩:=I.base.slot b o e n hb hx;obtain⟨sl',e2⟩:=slot b _ (neL b o e) hb (neC b o e hx) e1 (I.base.free b o e n hx);exact⟨sl',e2⟩
 ·obtain⟨o',e1⟩:=I.base.there b o e hx;exact free b o' (neC b o e hx) e1 (I.base.free b o e n hx)
 ·obtain⟨o',e1⟩:=I.base.there b o e hx;exact there b o' (neC b o e hx) e1
 ·obtain⟨m1,e1⟩:=I.base.tbls b ps e;obtain⟨m2,e2⟩:=tbls b _ e1;exact⟨m1++m2,by rw[e2,Array.append_assoc]⟩
 ·obtain⟨m,hn,hl⟩:=I.loc;refine⟨m,ns m hn,λi x v e1 e2 e3=>?_⟩;obtain⟨u,r,l⟩:=hl i x v e1 e2 e3;refine⟨u,r, ?_⟩
  rcases l with l|⟨k,c,e,z⟩
  ·exact .inl l
  ·exact .inr ⟨k,c,e,cellK x c e _ z⟩
 ·obtain⟨v,z⟩:=I.cell x c e;exact⟨v,cellK x c e v z⟩
 ·obtain⟨m,⟨o,_,_,ho,_⟩,_⟩:=I.loc;exact free _ o (λz=>(hch _ z).2.1 rfl) ho I.free
 ·obtain⟨v,o,ho,hd⟩:=I.cell x c e;exact free c o (λz=>(hch c z).2.2.1 x c e rfl) ho (I.freeC x c e)
 ·obtain⟨e,n,ne,nf,d⟩:=I.pin p hp;have nch:p.1∉ch:=λz=>(hch p.1 z).2.2.2 p hp rfl;exact⟨keep p.1 p.2 ne nf nch e n,free p.1 p.2 nch e n,ne,nf,d⟩
theorem Inv.un {t':Nat}(I:Inv X pins σ H s) (u:Un X.fs [] H H' s.heap h') (hok:HOk X.prog X.w H' h'):Inv X pins σ H' { s with heap:=h',toks:=t' }:=by obtain⟨m,⟨o,es,ep,ho,r⟩,_⟩:=id I.loc;obtain⟨sl,hL⟩:=u.any ho I.free (by simp);exact I.step (g':=s.gens) (d':=s.drawn) (ch:=[]) (λ_ z=>nomatch z) (λb o _ hb _ e n=>u.keep b o e n hb (by simp)) (λb o _ hb _ e n=>u.slot b o e n hb (by simp)) (λb o _ e n=>u.free b o e n (by simp)) (λb o _ e=>u.there b o e (by simp)) u.tups u.frzs u.tbls (λm' hm=>by obtain⟨o',es',ep',ho',r'⟩:=hm;rw[ho]at ho';cases ho';exact⟨_,es',ep',hL,r'⟩) hok I.bare
theorem Inv.call {g':Array GenState}{t':Nat}{d':Drawn}{ch:List ah}(I:Inv X pins σ H s) (u:Un (dS X.stack) ch H H' s.heap h') (hok:HOk X.prog X.w H' h') (hg:rj g')
  (hch:∀b∈ch,(b∈X.ex∨X.s₀.heap.objs.size<=b)/\b≠X.env.locals/\(∀x c,X.env.cells.lookup x=some c->c≠b)/\∀p∈X.pn++pins,p.1≠b):
  Inv X pins σ H' { s with heap:=h',gens:=g',drawn:=d',toks:=t' }:=by
 obtain⟨m,⟨o,es,ep,ho,r⟩,_⟩:=id I.loc;obtain⟨sl,hL⟩:=u.any ho I.free λz=>(hch _ z).2.1 rfl;exact I.step (ch:=ch) hch (λb o hL hb hc e n=>u.keep b o e n (λz=>(bg.mp (I.stkSub b z)).elim hL hb) hc) (λb o _ _ hc e n=>u.any e n hc) (λb o hc e n=>u.free b o e n hc) (λb o hc e=>u.there b o e hc) u.tups u.frzs u.tbls (λm' hm=>by obtain⟨o',es',ep',ho',r'⟩:=hm;rw[ho]at ho';cases ho';exact⟨_,es',ep',hL,r'⟩) hok hg
theorem Inv.turned {t':Nat}{it:ah}(I:Inv X pins σ H s) (k:∀b o,b≠it->s.heap.get? b=some o->h'.get? b=some o) (hn:H it=none) (hL:it≠X.env.locals)
  (h1:it∈X.ex∨X.s₀.heap.objs.size<=it) (h2:∀x c,X.env.cells.lookup x=some c->c≠it) (h3:∀p∈X.pn++pins,p.1≠it):Inv X pins σ H { s with heap:=h',toks:=t' }:=by
 have nit:∀b u,H b=some u->b≠it:=λb u e z=>by rw[z,hn]at e;cases e
 refine I.step (g':=s.gens) (d':=s.drawn) (ch:=[it]) (λb hb=>?_) (λb o _ _ hc e _=>k b o (λz=>hc (by simp[z])) e) (λb o _ _ hc e _=>⟨o.slots,k b o (λz=>hc (by simp[z])) e⟩) (λ_ _ _ _ n=>n)
  (λb o hc e=>⟨o,k b o (λz=>hc (by simp[z])) e⟩) (λ_ _ e=>e) (λ_ _ _ e=>e) (λb ps e=>⟨#[],by rw[e];simp⟩) (λm hm=>?_) (λb u e=>?_) I.bare
 ·have e:b=it:=by simpa using hb
  subst e;exact⟨h1,hL,h2,h3⟩
 ·obtain⟨o,es,ep,ho,r⟩:=hm;exact⟨o,es,ep,k _ o (da hL) ho,r⟩
 ·refine(I.hok b u e).stay (λc v hc q=>k c v ?_ q) (λ_ q=>q) λ_ _ q=>q
  rcases hc with z|z
  ·rw[z];exact nit b u e
  ·exact nit c _ z
theorem Inv.tok (I:Inv X pins σ H s) (t:Nat):Inv X pins σ H { s with toks:=t }:=I.un (h':=s.heap) (t':=t) Un.refl I.hok
theorem Inv.kept {t':Nat}(I:Inv X pins σ H s) (k:∀b u,s.heap.get? b=some u->h'.get? b=some u):Inv X pins σ H { s with heap:=h',toks:=t' }:=I.un (Un.kept k) (I.hok.kept k)
theorem Inv.laid {a:ah}{o:HO}{t':Nat}(I:Inv X pins σ H s) (k:∀b u,s.heap.get? b=some u->h'.get? b=some u) (hp:s.heap.objs.size<=a) (new:ObjOk X.prog X.w (aW H a o) h' a o):
  Inv X pins σ (aW H a o) { s with heap:=h',toks:=t' }:=I.un (Un.laid k hp (I.hok.fresh hp)) (I.hok.laid k hp new)
theorem Inv.write {x e:ah}{o:HO}{t':Nat}(I:Inv X pins σ H s) (mu:uH (H x)) (he:e=x∨H e=some (.own x)) (k:∀b u,b≠e->s.heap.get? b=some u->h'.get? b=some u) (heo:∃u,h'.get? e=some u)
  (new:ObjOk X.prog X.w (aW H x o) h' x o):Inv X pins σ (aW H x o) { s with heap:=h',toks:=t' }:=I.un (Un.write mu he k heo) (I.hok.write mu he k heo new)
theorem Inv.pins_of {pins':List (ah×Obj)}(I:Inv X pins σ H s) (h:∀p∈pins',s.heap.get? p.1=some p.2/\H p.1=none/\p.1≠X.env.locals/\p.1∉X.fs/\∀v,p.2.data≠.cell v):Inv X pins' σ H s:=⟨I.ok,I.os,I.bare,I.base,I.loc,I.cell,I.free,I.freeC,λp hp=>(bx.mp hp).elim (λz=>I.pin p (jm _ z)) (h p),I.hok,I.len⟩
theorem zG {N:List Str}(hN:N.Nodup) {i j:Nat}{x:Str}(a:N[i]?=some x) (b:N[j]?=some x):i=j:=by obtain⟨h1,e1⟩:=az.mp a;obtain⟨h2,e2⟩:=az.mp b;exact(List.getElem_inj hN).mp (e1.trans e2.symm)
theorem FD {M:Model}{A:cx}{E:af->ag->Prop}{i:Nat}{x:Str}{v:V}{u:af}{Q:Unit->ag->Prop}(I:Inv X pins σ H s) (hN:X.N.Nodup) (hi:X.N[i]?=some x) (hx:mF X.env.scope x) (r:RelV v u)
  (h:∀s',Inv X pins (σ.set i (some v)) H s'->(∃a,gz a s.heap s'.heap/\(a=X.env.locals∨X.env.cells.lookup x=some a))->Q () s') (hf:X.fn x=true∨X.env.scope.names.lookup x=some .local:=by first|exact .inl rfl|exact .inr rfl|assumption):wpAny M A (storeName X.env x u) Q E s:=by
 obtain⟨m,hn,hl⟩:=id I.loc;have hcls:(X.env.scope.kind==.class||(X.env.scope.kind==.module&&X.env.locals != X.env.globals))=false:=by rw[I.ok.kind];rfl
 have hiσ:i<σ.length:=by rw[I.len];exact(az.mp hi).1
 have cne:=I.cne;have tracked:∀{a:ah}{h':cz},(∃o,s.heap.get? a=some o/\H a=none)->gz a s.heap h'->HOk X.prog X.w H h':=λ{a h'} ha hs b ob e=>by
  obtain⟨_,_,hfree⟩:=ha;refine(I.hok b ob e).stay (λc w' hc q=>(hs.2 c ?_).trans q) (λ_ q=>q) λ_ _ q=>q
  rintro rfl
  rcases hc with rfl|hc
  ·rw[hfree]at e;cases e
  ·rw[hfree]at hc;cases hc
 rcases hx with hk|hk
 ·refine wpAny_storeName_local hk hn (λh' hn' hs=>?_) hcls;obtain⟨oL,_,_,hoL,_⟩:=id hn;refine h _ ⟨I.ok,I.os,I.bare,⟨λb o e n hb hx=>?_,λb o e n hb hx=>?_,I.base.free,λb o e hx=>?_,I.base.tups,I.base.frzs,I.base.tbls⟩,⟨_,hn',λj y v' e1 e2 e3=>?_⟩,λy c e=>?_,I.free,I.freeC,λp hp=>?_,tracked ⟨oL,hoL,I.free⟩ hs,by simpa using I.len⟩ ⟨_,hs,.inl rfl⟩
  ·exact(hs.2 b (bf (av (aq e) I.ok.above))).trans (I.base.keep b o e n hb hx)
  ·obtain⟨sl,e1⟩:=I.base.slot b o e n hb hx;exact⟨sl,(hs.2 b (bf (av (aq e) I.ok.above))).trans e1⟩
  ·obtain⟨o',e1⟩:=I.base.there b o e hx;exact⟨o',(hs.2 b (bf (av (aq e) I.ok.above))).trans e1⟩
  ·by_cases hj:j=i
   ·subst hj;rw[hi]at e1;cases e1;rw[de hiσ]at e2;cases e2;exact⟨u,r,.inl ⟨hk,by simp⟩⟩
   ·rw[di (da hj)]at e2;obtain⟨u',r',q⟩:=hl j y v' e1 e2 e3;refine⟨u',r', ?_⟩
    rcases q with⟨k,e⟩|⟨k,c,e,z⟩
    ·refine .inl ⟨k, ?_⟩;have:y≠x:=λe=>hj (zG hN e1 (e▸hi));simp[this,e]
    ·exact .inr ⟨k,c,e,z.sameBut hs (cne y c e)⟩
  ·obtain⟨w',z⟩:=I.cell y c e;exact⟨w',z.sameBut hs (cne y c e)⟩
  ·obtain⟨e,n,ne,nf,d⟩:=I.pin p hp;exact⟨(hs.2 p.1 ne).trans e,n,ne,nf,d⟩
 ·have hfn:X.fn x=true:=by
   rcases hf with z|z
   ·exact z
   ·rw[z]at hk;cases hk
  obtain⟨c,hc⟩:=I.ok.has x (.inl hk);obtain⟨w',z⟩:=I.cell x c hc;refine wpAny_storeName_cell I.ok.kind hk hc z (λh' hc' hs=>?_);obtain⟨oc,hoc,hocd⟩:=id z;refine h { s with heap:=h' } ⟨I.ok,I.os,I.bare,⟨λb o e n hb hx=>?_,λb o e n hb hx=>?_,I.base.free,λb o e hx=>?_,I.base.tups,I.base.frzs,I.base.tbls⟩,⟨m,hn.sameBut hs (da (cne x c hc)),λj y v' e1 e2 e3=>?_⟩,λy c' e=>?_,I.free,I.freeC,λp hp=>?_,tracked ⟨oc,hoc,I.freeC x c hc⟩ hs,by simpa using I.len⟩ ⟨c,hs,.inr hc⟩
  ·exact(hs.2 b (bf (av (aq e) (I.ok.cab x c hfn hc)))).trans (I.base.keep b o e n hb hx)
  ·obtain⟨sl,e1⟩:=I.base.slot b o e n hb hx;exact⟨sl,(hs.2 b (bf (av (aq e) (I.ok.cab x c hfn hc)))).trans e1⟩
  ·obtain⟨o',e1⟩:=I.base.there b o e hx;exact⟨o',(hs.2 b (bf (av (aq e) (I.ok.cab x c hfn hc)))).trans e1⟩
  ·by_cases hj:j=i
   ·subst hj;rw[hi]at e1;cases e1;rw[de hiσ]at e2;cases e2;exact⟨u,r,.inr ⟨.inl hk,c,hc,hc'⟩⟩
   ·rw[di (da hj)]at e2;obtain⟨u',r',q⟩:=hl j y v' e1 e2 e3;refine⟨u',r', ?_⟩
    rcases q with q|⟨k,c',e,z'⟩
    ·exact .inl q
    ·refine .inr ⟨k,c',e,z'.sameBut hs ?_⟩
     rintro rfl
     exact hj (zG hN e1 (I.ok.inj _ _ _ e hc▸hi))
  ·by_cases hcc:c'=c
   ·subst hcc;exact⟨_,hc'⟩
   ·obtain⟨w2,z2⟩:=I.cell y c' e;exact⟨w2,z2.sameBut hs hcc⟩
  ·obtain⟨e,n,ne,nf,d⟩:=I.pin p hp;refine⟨(hs.2 p.1 ?_).trans e,n,ne,nf,d⟩;intro q;rw[q,hoc]at e;have q':oc=p.2:=cy e;exact d w' (by rw[<-q'];exact hocd)
theorem zH {M:Model}{A:cx}{E:af->ag->Prop}{i:Nat}{x:Str}{v:V}{u:af}{Q:Unit->ag->Prop}(I:Inv X pins σ H s) (hN:X.N.Nodup) (hi:X.N[i]?=some x) (hx:mF X.env.scope x) (r:RelV v u)
  (h:∀s',Inv X pins (σ.set i (some v)) H s'->Q () s') (hf:X.fn x=true∨X.env.scope.names.lookup x=some .local:=by first|exact .inl rfl|exact .inr rfl|assumption):wpAny M A (storeName X.env x u) Q E s:=
 FD I hN hi hx r (λs' I' _=>h s' I') hf
theorem Inv.call' {s':ag}{ch:List ah}(I:Inv X pins σ H s) (ho:s'.os=s.os) (u:Un (dS X.stack) ch H H' s.heap s'.heap) (hok:HOk X.prog X.w H' s'.heap) (hg:rj s'.gens)
  (hch:∀b∈ch,(b∈X.ex∨X.s₀.heap.objs.size<=b)/\b≠X.env.locals/\(∀x c,X.env.cells.lookup x=some c->c≠b)/\∀p∈X.pn++pins,p.1≠b):Inv X pins σ H' s':=by
 obtain⟨h',g',d',t',o'⟩:=s';have e:o'=s.os:=ho;subst e;exact I.call (g':=g') (t':=t') (d':=d') u hok hg hch
end
abbrev XK:=af->Option ah->Hp->Prop
abbrev St:=List (Option V)
abbrev VK:=V->Hp->Prop
abbrev TE:=St->Hp->VK->Prop
abbrev TT:=St->Hp->(Bool->Hp->Prop)->Prop
abbrev TA:=St->Hp->(List V->Hp->Prop)->Prop
structure Ends where
 nx:St->Hp->Prop
 rt:VK
 bk:St->Hp->Prop:=λ_ _=>False
 ct:St->Hp->Prop:=λ_ _=>False
abbrev TS:=Ends->St->Hp->Prop
def EP (X:Cx) (pins:List (ah×Obj)) (σ:St) (Q:VK) (u:af) (s':ag):Prop:=∃v H',Inv X pins σ H' s'/\RelV v u/\Q v H'
def TP (X:Cx) (pins:List (ah×Obj)) (σ:St) (Q:Bool->Hp->Prop) (b:Bool) (s':ag):Prop:=∃H',Inv X pins σ H' s'/\Q b H'
def AP (X:Cx) (pins:List (ah×Obj)) (σ:St) (Q:List V->Hp->Prop) (us:List af) (s':ag):Prop:=∃vs H',Inv X pins σ H' s'/\Vals vs us/\Q vs H'
def SP (X:Cx) (pins:List (ah×Obj)) (D:Ends) (f:Flow) (s':ag):Prop:=
 match f with
 | .next=>∃σ' H',Inv X pins σ' H' s'/\D.nx σ' H'
 | .brk=>∃σ' H',Inv X pins σ' H' s'/\D.bk σ' H'
 | .cont=>∃σ' H',Inv X pins σ' H' s'/\D.ct σ' H'
 | .ret u=>∃v σ' H',Inv X pins σ' H' s'/\RelV v u/\D.rt v H'
def PE (X:Cx) (e:bp) (t:TE):Prop:=∀(pins:List (ah×Obj)) (s:ag) (σ:St) (H:Hp) (Q:VK),Inv X pins σ H s->t σ H Q->wpAny (model X.prog X.w) X.A (eval e X.env) (EP X pins σ Q) X.xe s
def PT (X:Cx) (e:bp) (t:TT):Prop:=∀(pins:List (ah×Obj)) (s:ag) (σ:St) (H:Hp) (Q:Bool->Hp->Prop),Inv X pins σ H s->t σ H Q->wpAny (model X.prog X.w) X.A (isTrue e X.env (eval e X.env)) (TP X pins σ Q) X.xe s
def PW (X:Cx) (e:bp) (t:TT):Prop:=∀(whole:Sem af) (pins:List (ah×Obj)) (s:ag) (σ:St) (H:Hp) (Q:Bool->Hp->Prop),Inv X pins σ H s->t σ H Q->wpAny (model X.prog X.w) X.A (isTrue e X.env whole) (TP X pins σ Q) X.xe s
theorem PW.pt {X:Cx}{e:bp}{t:TT}(h:PW X e t):PT X e t:=h _
def PA (X:Cx) (es:List bp) (t:TA):Prop:=∀(pos:Pos) (pins:List (ah×Obj)) (s:ag) (σ:St) (H:Hp) (Q:List V->Hp->Prop),Inv X pins σ H s->t σ H Q->wpAny (model X.prog X.w) X.A (spliced (backTo pos (au es X.env))) (AP X pins σ Q) X.xe s
def PS (X:Cx) (st:gp) (t:TS):Prop:=∀(pins:List (ah×Obj)) (s:ag) (σ:St) (H:Hp) (D:Ends),Inv X pins σ H s->t D σ H->wpAny (model X.prog X.w) X.A (exec st X.env) (SP X pins D) X.xe s
def PSs (X:Cx) (st:List gp) (t:TS):Prop:=∀(pins:List (ah×Obj)) (s:ag) (σ:St) (H:Hp) (D:Ends),Inv X pins σ H s->t D σ H->wpAny (model X.prog X.w) X.A (execs st X.env) (SP X pins D) X.xe s
theorem bD {α:Type}{t:Sem α}{Q Q':α->ag->Prop}{M:Model}{A:cx}{E:af->ag->Prop}{s:ag}(h:wpAny M A t Q E s) (hQ:∀a s,Q a s->Q' a s):wpAny M A t Q' E s:=kg h hQ λ_ _ x=>x
section
variable{X:Cx}
def FE (i:Nat):TE:=λσ H Q=>∃v,σ[i]?=some (some v)/\Q v H
def tC (v:V):TE:=λ_ H Q=>Q v H
theorem qL {i:Nat}{x:Str}{pos:Pos}(hN:X.N[i]?=some x) (hv:oX X.env.scope x) (hd:(x==("__debug__" : Str))=false:=by decide) (hcd:(x==("__classdict__" : Str))=false:=by decide):PE X (.Name x pos) (FE i):=by
 intro pins s σ H Q I h;obtain⟨v,e,h⟩:=h;obtain⟨m,hn,hl⟩:=I.loc;obtain⟨u,r,l⟩:=hl i x v hN e hv;have fin:EP X pins σ Q u s:=⟨v,H,I,r,h⟩
 rcases l with⟨hk,hm⟩|⟨hk,c,hc,hcell⟩
 ·exact wpAny_Name (wpAny_loadName_local I.ok.kind hk hn hm fin) hd
 ·rcases hk with hk|hk
  ·exact wpAny_Name (wpAny_loadName_cell I.ok.kind hk hc hcell fin) hd
  ·exact wpAny_Name (wpAny_loadName_free I.ok.kind hk hc hcell fin hcd) hd
theorem N3 {i j pos}:PE X (.Constant (.int i) j pos) (tC (.int i)):=λ_ _ _ H _ I h=>wpAny_Constant_int ⟨.int i,H,I.tok _,⟨_,rfl⟩,h⟩
theorem N4 {b j pos}:PE X (.Constant (.bool b) j pos) (tC (.bl b)):=λ_ _ _ H _ I h=>Constant_bool ⟨.bl b,H,I,rfl,h⟩
theorem FF {j pos}:PE X (.Constant .none j pos) (tC .non):=λ_ _ _ H _ I h=>Constant_none ⟨.non,H,I,rfl,h⟩
theorem FG {x j pos}:PE X (.Constant (.str x) j pos) (tC (.str x)):=λ_ _ _ H _ I h=>Calls.Constant_str ⟨.str x,H,I.tok _,⟨_,rfl⟩,h⟩
def Gl (X:Cx) (x:Str):Prop:=X.env.kindOf x=some .globalImplicit
theorem qM {E:af->ag->Prop}{pins:List (ah×Obj)}{s:ag}{σ:St}{H:Hp}{x:Str}{u:af}{pos:Pos}{Q:af->ag->Prop}(I:Inv X pins σ H s) (hg:Gl X x) (hm:X.mg x=some u) (h:Q u s)
  (hd:(x==("__debug__" : Str))=false:=by decide):wpAny (model X.prog X.w) X.A (eval (.Name x pos) X.env) Q E s:=
 vt I.ok.kind hg (Calls.loadGlobal_global (by rw[I.ok.glob];exact I.mod.glob.keeps I.bk) hm h) hd
theorem nL {E:af->ag->Prop}{pins:List (ah×Obj)}{s:ag}{σ:St}{H:Hp}{x:Str}{u:af}{pos:Pos}{Q:af->ag->Prop}(I:Inv X pins σ H s) (hg:Gl X x) (hm:X.mg x=none) (hv:df x=some u) (h:Q u s)
  (hn:x ≠ "__name__" := by decide) (hd:(x==("__debug__" : Str))=false:=by decide):wpAny (model X.prog X.w) X.A (eval (.Name x pos) X.env) Q E s:=by
 obtain⟨mb,h1,h2⟩:=I.mod.blt;exact vt I.ok.kind hg (Calls.loadGlobal_builtin (by rw[I.ok.glob];exact I.mod.glob.keeps I.bk) hm (by rw[I.ok.blt];exact h1.keeps I.bk) ((h2 x hn).trans hv) h) hd
theorem FH {x:Str}{v:V}{u:af}{pos:Pos}(hg:Gl X x) (hm:X.mg x=some u) (r:RelV v u) (hd:(x==("__debug__" : Str))=false:=by decide):PE X (.Name x pos) (tC v):=λ_ _ _ H _ I h=>qM I hg hm ⟨v,H,I,r,h⟩ hd
variable{a b:bp}{ta tb:TE}{pos:Pos}
def tB (t:TE):TT:=λσ H Q=>t σ H λx H1=>∃c,x=.bl c/\Q c H1
variable{tA tB':TT}{rest:List bp}
def FI (t u:TT):TT:=λσ H Q=>t σ H λc H1=>if c=true then u σ H1 Q else Q false H1
def FJ (t u:TT):TT:=λσ H Q=>t σ H λc H1=>if c=true then Q true H1 else u σ H1 Q
def N5 (t:TT):TT:=λσ H Q=>t σ H λc H1=>Q (!c) H1
theorem N6 (ha:PT X a tA):PW X (.BoolOp .And [a] pos) tA:=by
 intro wh pins s σ H Q I h;refine isTrue_and (bD (ha pins s σ H Q I h) λc s1 e=>?_)
 cases c with
 |true=>exact isTrue_and_nil e
 |false=>exact e
theorem N7 (ha:PT X a tA):PW X (.BoolOp .Or [a] pos) tA:=by
 intro wh pins s σ H Q I h;refine isTrue_or (bD (ha pins s σ H Q I h) λc s1 e=>?_)
 cases c with
 |false=>exact isTrue_or_nil e
 |true=>exact e
theorem N8 (ha:PT X a tA) (hb:PW X (.BoolOp .And (b::rest) pos) tB'):PW X (.BoolOp .And (a::b::rest) pos) (FI tA tB'):=by
 intro wh pins s σ H Q I h;refine isTrue_and (bD (ha pins s σ H _ I h) λc s1 ⟨H1,I1,q1⟩=>?_)
 cases c with
 |true=>exact hb wh pins s1 σ H1 Q I1 q1
 |false=>exact⟨H1,I1,q1⟩
theorem N9 (ha:PT X a tA) (hb:PW X (.BoolOp .Or (b::rest) pos) tB'):PW X (.BoolOp .Or (a::b::rest) pos) (FJ tA tB'):=by
 intro wh pins s σ H Q I h;refine isTrue_or (bD (ha pins s σ H _ I h) λc s1 ⟨H1,I1,q1⟩=>?_)
 cases c with
 |true=>exact⟨H1,I1,q1⟩
 |false=>exact hb wh pins s1 σ H1 Q I1 q1
theorem OA (ha:PT X a tA):PT X (.UnaryOp .Not a pos) (N5 tA):=by intro pins s σ H Q I h;exact isTrue_not (ha pins s σ H (λc H1=>Q (!c) H1) I h)
def OB (ta tb:TE):TE:=λσ H Q=>ta σ H λx H1=>∃c,x=.bl c/\if c=true then tb σ H1 Q else Q (.bl false) H1
def OC (ta:TE):TE:=λσ H Q=>ta σ H λx H1=>∃c,x=.bl c/\Q (.bl (!c)) H1
theorem OD {op} {t:TE}(h:PE X a t):PE X (.BoolOp op [a] pos) t:=λpins s σ H Q I hw=>BoolOp_one (h pins s σ H Q I hw)
theorem OE (ha:PE X a ta) (hb:PE X (.BoolOp .And (b::rest) pos) tb):PE X (.BoolOp .And (a::b::rest) pos) (OB ta tb):=by
 intro pins s σ H Q I h;refine BoolOp_and (bD (ha pins s σ H _ I h) λv s1 ⟨x,H1,I1,r1,q1⟩=>?_);obtain⟨c,rfl,q1⟩:=q1;cases r1;refine kr ?_
 cases c with
 |true=>exact hb pins s1 σ H1 Q I1 q1
 |false=>exact⟨.bl false,H1,I1,rfl,q1⟩
theorem OF (ha:PE X a ta):PE X (.UnaryOp .Not a pos) (OC ta):=by intro pins s σ H Q I h;refine UnaryOp_ (bD (ha pins s σ H _ I h) λv s1 ⟨x,H1,I1,r1,q1⟩=>?_);obtain⟨c,rfl,q1⟩:=q1;cases r1;exact not_of (kr ⟨.bl (!c),H1,I1,rfl,q1⟩)
end
def SqL (K:ao) (H:Hp) (a:ah) (xs:List V):Prop:=
 Rd H a (.lst xs) ∨
  ∃(o:Obj) (its:Array af) (n:Nat),K.lookup a=some o/\o.cls=.type "list"/\o.dict=none/\o.data=.seq its n/\its.size<=cj/\Vals xs its.toList
def SqT (K:ao) (H:Hp) (a:ah) (xs:List V):Prop:=
 Rd H a (.tup xs) ∨
  ∃(o:Obj) (its:Array af) (n:Nat),K.lookup a=some o/\o.cls=.type "tuple"/\o.data=.seq its n/\its.size<=cj/\Vals xs its.toList
def OG:af->Option V
 | .none=>some .non
 | .bool b=>some (.bl b)
 | .int i _=>some (.int i)
 | .str x _=>some (.str x)
 | .bytes b _=>some (.byt b)
 | .float b _=>some (.flt b)
 | .ref a=>some (.ref a)
 | .type n=>some (.ty n)
 |_=>none
theorem RelV.abs {x:V}{u:af}(r:RelV x u):OG u=some x:=by
 cases x with
 |non=>cases r;rfl
 |bl _=>cases r;rfl
 |int _=>obtain⟨t,rfl⟩:=r;rfl
 |str _=>obtain⟨t,rfl⟩:=r;rfl
 |byt _=>obtain⟨t,rfl⟩:=r;rfl
 |flt _=>obtain⟨t,rfl⟩:=r;rfl
 |ref _=>cases r;rfl
 |ty _=>cases r;rfl
theorem RelV.inj {x y:V}{u:af}(r:RelV x u) (q:RelV y u):x=y:=cy (r.abs.symm.trans q.abs)
theorem Vals.inj:∀{xs ys:List V}{us:List af},Vals xs us->Vals ys us->xs=ys
 |_,_,_,.nil,.nil=>rfl
 |_,_,_,.cons r t,.cons r' t'=>by rw[r.inj r',Vals.inj t t']
section
variable{X:Cx}{pins:List (ah×Obj)}{σ:St}{H:Hp}{s:ag}{a:ah}{xs ys:List V}
theorem SqL.of {K:ao}(h:H a=some (.lst xs)):SqL K H a xs:=.inl (.inl h)
theorem SqT.of {K:ao}(h:H a=some (.tup xs)):SqT K H a xs:=.inl (.inl h)
theorem Inv.list (I:Inv X pins σ H s) (h:SqL X.K H a xs):∃its:List af,Vals xs its/\PlainL s.heap a its.toArray/\xs.length<=cj:=by
 rcases h with h|⟨o,its,n,hk,hc,hd,hs,hz,r⟩
 ·obtain⟨z,its,n,r,e⟩:=h.ok I.hok;exact⟨its,r,⟨_,n,e,rfl,rfl,rfl⟩,z⟩
 ·refine⟨its.toList,r,⟨o,n,I.kIn a o hk,hc,hd,by simpa using hs⟩, ?_⟩;have e:=r.length;simp only[kz]at e;omega
theorem Inv.tuple (I:Inv X pins σ H s) (h:SqT X.K H a xs):∃its:List af,Vals xs its/\IsTup s.heap a its.toArray/\xs.length<=cj:=by
 rcases h with h|⟨o,its,n,hk,hc,hs,hz,r⟩
 ·obtain⟨z,its,r,p⟩:=h.ok I.hok;exact⟨its,r,p.tup,z⟩
 ·refine⟨its.toList,r,⟨o,I.kIn a o hk,hc,n,by simpa using hs⟩, ?_⟩;have e:=r.length;simp only[kz]at e;omega
theorem Inv.list_inj (I:Inv X pins σ H s) (h:SqL X.K H a xs) (h':SqL X.K H a ys):xs=ys:=by
 obtain⟨its,r,⟨o,n,e,_,_,d⟩,_⟩:=I.list h;obtain⟨its',r',⟨o',n',e',_,_,d'⟩,_⟩:=I.list h';rw[e]at e';cases e';rw[d]at d';injection d' with d1 _;have:its=its':=by simpa using congrArg Array.toList d1
 subst this;exact r.inj r'
theorem Inv.tuple_inj (I:Inv X pins σ H s) (h:SqT X.K H a xs) (h':SqT X.K H a ys):xs=ys:=by
 obtain⟨its,r,⟨o,e,_,n,d⟩,_⟩:=I.tuple h;obtain⟨its',r',⟨o',e',_,n',d'⟩,_⟩:=I.tuple h';rw[e]at e';cases e';rw[d]at d';injection d' with d1 _;have:its=its':=by simpa using congrArg Array.toList d1
 subst this;exact r.inj r'
end
abbrev Cx.wish (X:Cx) (E:af->ag->Prop):Cx:={ X with xe:=E }
abbrev Cx.nox (X:Cx):Cx:=X.wish λ_ _=>False
theorem Cx.Ok.wish {X:Cx}(ok:X.Ok) (E:af->ag->Prop):(X.wish E).Ok:=⟨ok.mod,ok.kind,ok.glob,ok.blt,ok.above,ok.inj,ok.has,ok.cab,ok.hd,ok.frames,ok.stk,ok.exf,ok.bs,ok.bsz,ok.noex,ok.exfs,ok.funs,ok.frf⟩
theorem Cx.Ok.unwish {X:Cx}{E:af->ag->Prop}(ok:(X.wish E).Ok):X.Ok:=⟨ok.mod,ok.kind,ok.glob,ok.blt,ok.above,ok.inj,ok.has,ok.cab,ok.hd,ok.frames,ok.stk,ok.exf,ok.bs,ok.bsz,ok.noex,ok.exfs,ok.funs,ok.frf⟩
section
variable{X:Cx}{pins:List (ah×Obj)}{σ:St}{H:Hp}{s:ag}{E:af->ag->Prop}
theorem Inv.wish (I:Inv X pins σ H s) (E:af->ag->Prop):Inv (X.wish E) pins σ H s:=⟨I.ok.wish E,I.os,I.bare,I.base,I.loc,I.cell,I.free,I.freeC,I.pin,I.hok,I.len⟩
theorem Inv.unwish (I:Inv (X.wish E) pins σ H s):Inv X pins σ H s:=⟨I.ok.unwish,I.os,I.bare,I.base,I.loc,I.cell,I.free,I.freeC,I.pin,I.hok,I.len⟩
end
section
variable{X:Cx}{st:gp}{rest:List gp}{t u:TS}{e:bp}{te:TE}{pos:Pos}
def OH:TS:=λD σ H=>D.nx σ H
def OI (t u:TS):TS:=λD σ H=>t { D with nx:=u D } σ H
theorem OJ:PSs X [] OH:=λ_ _ σ H _ I h=>ly ⟨σ,H,I,h⟩
theorem OK (h1:PS X st t) (h2:PSs X rest u):PSs X (st::rest) (OI t u):=by
 intro pins s σ H D I h;refine oj (bD (h1 pins s σ H { D with nx:=u D } I h) λf s1 q=>?_)
 cases f with
 |next=>obtain⟨σ',H',I',q⟩:=q;exact h2 pins s1 σ' H' D I' q
 |ret v=>exact q
 |brk=>exact q
 |cont=>exact q
theorem FK (h1:PS X st t):PSs X [st] t:=by
 intro pins s σ H D I h;refine oj (bD (h1 pins s σ H D I h) λf s1 q=>?_)
 cases f with
 |next=>exact ly q
 |ret v=>exact q
 |brk=>exact q
 |cont=>exact q
theorem Inv.quiet {pins:List (ah×Obj)}{σ:St}{H:Hp}{s:ag}(I:Inv X pins σ H s):interactive X.env=false:=by simp[interactive,I.ok.kind]
def OL (te:TE):TS:=λD σ H=>te σ H λ_ H1=>D.nx σ H1
theorem OM (he:PE X e te) (hs:swapsWith e none pos.line X.env=pure false:=by rfl):PS X (.Expr e pos) (OL te):=by intro pins s σ H D I h;exact wpAny_Expr_any (bD (he pins s σ H _ I h) λv s1 ⟨x,H1,I1,r1,q1⟩=>⟨σ,H1,I1,q1⟩) I.quiet hs
def ON (te:TE):TS:=λD σ H=>te σ H D.rt
theorem OO (he:PE X e te):PS X (.Return (some e) pos) (ON te):=by intro pins s σ H D I h;exact wpAny_Return_some (bD (he pins s σ H _ I h) λv s1 ⟨x,H1,I1,r1,q1⟩=>⟨x,σ,H1,I1,r1,q1⟩)
def OP (c:TT) (t u:TS):TS:=λD σ H=>c σ H λb H1=>if b=true then t D σ H1 else u D σ H1
theorem OQ {c:bp}{a b:List gp}{tc:TT}(hc:PT X c tc) (ha:PSs X a t) (hb:PSs X b u):PS X (.If c a b pos) (OP tc t u):=by
 intro pins s σ H D I h;refine wpAny_If (bD (hc pins s σ H _ I h) λd s1 ⟨H1,I1,q1⟩=>?_)
 cases d with
 |true=>exact ha pins s1 σ H1 D I1 q1
 |false=>exact hb pins s1 σ H1 D I1 q1
end
abbrev TG:=V->St->Hp->(St->Hp->Prop)->Prop
abbrev lK:=List V->St->Hp->(St->Hp->Prop)->Prop
def PG (X:Cx) (target:bp) (t:TG):Prop:=
 ∀(pins:List (ah×Obj)) (s:ag) (σ:St) (H:Hp) (v:V) (u:af) (Q:St->Hp->Prop),Inv X pins σ H s->RelV v u->t v σ H Q->
  wpAny (model X.prog X.w) X.A (assign target X.env u) (λ_ s'=>∃σ' H',Inv X pins σ' H' s'/\Q σ' H') X.xe s
def PGs (X:Cx) (ts:List bp) (t:lK):Prop:=
 ∀(pins:List (ah×Obj)) (s:ag) (σ:St) (H:Hp) (vs:List V) (us:List af) (Q:St->Hp->Prop),Inv X pins σ H s->Vals vs us->t vs σ H Q->
  wpAny (model X.prog X.w) X.A (assignInOrder ((assignEach ts X.env).map (·.2)) us) (λ_ s'=>∃σ' H',Inv X pins σ' H' s'/\Q σ' H') X.xe s
abbrev zI:=V->V->V->Hp->(Hp->Prop)->Prop
def FL (X:Cx) (t:zI):Prop:=
 ∀(pins:List (ah×Obj)) (s:ag) (σ:St) (H:Hp) (o i v:V) (ov iv u:af) (Q:Hp->Prop),Inv X pins σ H s->RelV o ov->RelV i iv->RelV v u->t o i v H Q->
  wpAny (model X.prog X.w) X.A (setItem ov iv u) (λ_ s'=>∃H',Inv X pins σ H' s'/\Q H') X.xe s
section
variable{X:Cx}{pos:Pos}
def zJ (i:Nat):TG:=λv σ H Q=>Q (σ.set i (some v)) H
theorem OR {i:Nat}{x:Str}(hN:X.N.Nodup) (hi:X.N[i]?=some x) (hx:mF X.env.scope x) (hf:X.fn x=true∨X.env.scope.names.lookup x=some .local:=by first|exact .inl rfl|exact .inr rfl|assumption):PG X (.Name x pos) (zJ i):=by intro pins s σ H v u Q I r h;exact wpAny_assign_Name (zH I hN hi hx r (λs' I'=>⟨_,H,I',h⟩) hf)
def OS:lK:=λvs σ H Q=>vs=[]/\Q σ H
def OT (t:TG) (u:lK):lK:=λvs σ H Q=>∃v r,vs=v::r/\t v σ H λσ' H'=>u r σ' H' Q
theorem OU:PGs X [] OS:=by intro pins s σ H vs us Q I r h;obtain⟨e,h⟩:=h;subst e;cases r;exact assignInOrder_nil ⟨σ,H,I,h⟩
theorem OV {e:bp}{es:List bp}{t:TG}{u:lK}(h1:PG X e t) (h2:PGs X es u)
  (hs:(assignEach (e::es) X.env).map (·.2)=assign e X.env::(assignEach es X.env).map (·.2):=by rfl):PGs X (e::es) (OT t u):=by
 intro pins s σ H vs us Q I r h;obtain⟨v,vr,e1,h⟩:=h;subst e1
 cases r with
 |cons r rr=>rw[hs];refine assignInOrder_cons (bD (h1 pins s σ H _ _ _ I r h) λ_ s1 ⟨σ1,H1,I1,q1⟩=>?_);exact h2 pins s1 σ1 H1 _ _ Q I1 rr q1
def OW (K:ao) (n:Nat) (t:lK):TG:=λv σ H Q=>∃a xs,v=.ref a/\SqT K H a xs/\xs.length=n/\t xs σ H Q
theorem OX {es:List bp}{k:Nat}{t:lK}{n:Nat}(hc:X.calm=true) (h:PGs X es t)
  (hn:(assignEach es X.env).length=n:=by rfl) (hst:(assignEach es X.env).findIdx? (·.1)=none:=by rfl):PG X (.Tuple es k pos) (OW X.K n t):=by
 intro pins s σ H v u Q I r hw;obtain⟨a,xs,e1,hq,hl,hw⟩:=hw;subst e1;cases r;obtain⟨its,rv,ht,hz⟩:=I.tuple hq;refine assign_Tuple_tuple (I.ok.hd hc) ht (by simp[hn,<-hl,rv.length]) hst λh' hx=>?_;have I1:Inv X pins σ H { s with heap:=h' }:=I.kept (t':=s.toks) λb o e=>hx b o (bf (aq e)) e;exact h pins _ σ H xs _ Q I1 (by simpa using rv) hw
def OY (to ti:TE) (t:zI):TG:=λv σ H Q=>to σ H λo H1=>ti σ H1 λi H2=>t o i v H2 λH3=>Q σ H3
theorem OZ {o i:bp}{to ti:TE}{t:zI}(ho:PE X o to) (hi:PE X i ti) (hs:FL X t)
  (ha:∀v,assign (.Subscript o i pos) X.env v=(do
   let ov <-holding [v] (eval o X.env)
   let iv <-holding [v,ov] (eval i X.env)
   standAt pos
   holding [v,ov,iv] (setItem ov iv v)
   release [v,ov,iv] []):=by intro _;rfl):PG X (.Subscript o i pos) (OY to ti t):=by
 intro pins s σ H v u Q I r h;rw[ha];refine aa (gv (bD (ho pins s σ H _ I h) λov s1 ⟨x,H1,I1,r1,q1⟩=>?_));refine aa (gv (bD (hi pins s1 σ H1 _ I1 q1) λiv s2 ⟨y,H2,I2,r2,q2⟩=>?_));refine aa (sd (aa (gv (bD (hs pins s2 σ H2 x y v ov iv u _ I2 r1 r2 r q2) λ_ s3 ⟨H3,I3,q3⟩=>?_))));exact wpAny_release ⟨σ,H3,I3,q3⟩
def uJ (te:TE) (g:TG):TS:=λD σ H=>te σ H λx H1=>g x σ H1 D.nx
theorem FN {tg e:bp}{te:TE}{g:TG}(he:PE X e te) (hg:PG X tg g) (hs:swapsWithSole [tg] e pos.line X.env=pure false:=by rfl) (hw:swappedStores [tg] e X.env=pure none:=by rfl)
  (h1:(assignEach [tg] X.env).map (·.2)=[assign tg X.env]:=by rfl):PS X (.Assign [tg] e pos) (uJ te g):=by
 intro pins s σ H D I h;refine wpAny_Assign_stores (bD (he pins s σ H _ I h) λv s1 ⟨x,H1,I1,r1,q1⟩=>?_) hs hw;rw[h1];exact bD (hg pins s1 σ H1 x v _ I1 r1 q1) λ_ s2 q=>q
theorem zK {i:Nat}{x:Str}{e:bp}{te:TE}{pos':Pos}(hN:X.N.Nodup) (hi:X.N[i]?=some x) (hx:mF X.env.scope x) (he:PE X e te) (hs:swapsWith e (some (.Name x pos')) pos.line X.env=pure false:=by rfl) (hf:X.fn x=true∨X.env.scope.names.lookup x=some .local:=by first|exact .inl rfl|exact .inr rfl|assumption):
  PS X (.Assign [.Name x pos'] e pos) (uJ te (zJ i)):=by
 intro pins s σ H D I h;refine wpAny_Assign_Name (bD (he pins s σ H _ I h) λv s1 ⟨y,H1,I1,r1,q1⟩=>?_) hs;exact zH I1 hN hi hx r1 (λs2 I2=>⟨_,H1,I2,q1⟩) hf
end
section
variable{X:Cx}{pos:Pos}
def O2 (c:TT) (tb:TS):TS:=λD σ H=>∃W:Nat->St->Hp->Prop,(∃m,W m σ H)/\∀m σ H,W m σ H->
 c σ H λb H1=>if b=true then ∃N:St->Hp->Prop,(∀σ' H',N σ' H'->∃m',m'<m/\W m' σ' H')/\tb { D with nx:=N,ct:=N,bk:=D.nx } σ H1 else D.nx σ H1
theorem O3 {c:bp}{body:List gp}{tc:TT}{tb:TS}(hp:xm (model X.prog X.w) X.A X.env X.xe) (hc:PT X c tc) (hb:PSs X body tb):PS X (.While c body [] pos) (O2 tc tb):=by
 intro pins s σ H D I h;obtain⟨W,⟨m0,w0⟩,turn⟩:=h;refine wpAny_While (codeAny_whileLoop (λn s'=>∃σ' H',Inv X pins σ' H' s'/\W n σ' H') ?_ m0 ⟨σ,H,I,w0⟩)
 rintro n s1 ⟨σ1,H1,I1,w1⟩
 refine kn hp (bD (hc pins s1 σ1 H1 _ I1 (turn n σ1 H1 w1)) λb s2 ⟨H2,I2,q2⟩=>?_)
 cases b with
 |true=>
  obtain⟨N,hN,q2⟩:=q2;rw[if_pos rfl];refine kn hp (bD (hb pins s2 σ1 H2 _ I2 q2) λf s3 q3=>?_)
  cases f with
  |next=>obtain⟨σ3,H3,I3,n3⟩:=q3;obtain⟨m',hm,w3⟩:=hN σ3 H3 n3;exact⟨m',hm,σ3,H3,I3,w3⟩
  |cont=>obtain⟨σ3,H3,I3,n3⟩:=q3;obtain⟨m',hm,w3⟩:=hN σ3 H3 n3;exact⟨m',hm,σ3,H3,I3,w3⟩
  |brk=>exact q3
  |ret v=>exact q3
 |false=>rw[if_neg fz];exact ly ⟨σ1,H2,I2,q2⟩
end
structure It where
 go:Nat->Hp->Prop
 yld:Nat->Hp->V->Hp->Prop
 stop:Nat->Hp->Prop
def dO (X:Cx) (pins:List (ah×Obj)) (H:Hp) (b:ah):Prop:=H b=none/\b≠X.env.locals/\b∉X.fs/\(b∈X.ex∨X.s₀.heap.objs.size<=b)/\(∀x c,X.env.cells.lookup x=some c->c≠b)/\∀p∈X.pn++pins,p.1≠b
theorem Inv.fpOk {X:Cx}{pins:List (ah×Obj)}{σ:St}{H H':Hp}{s:ag}{b:ah}(I:Inv X pins σ H s) (hb:s.heap.objs.size<=b) (hn:H' b=none):dO X pins H' b:=by
 refine⟨hn,je (av I.lt hb),I.nofs hb,.inr (cq I.sz hb),λx c e z=>?_,λp hp z=>?_⟩
 ·obtain⟨v,q⟩:=I.cell x c e;exact absurd (av q.lt (by rw[z];exact hb)) (gh _)
 ·exact absurd (av (aq (I.pin p hp).1) (by rw[z];exact hb)) (gh _)
structure Turn (P:bo) (w:cw) (K:ao) (tg:bp) (J:It) (fp:List ah) (it:ah) (tn:Nat->cz->Prop):Prop where
 mem:it∈fp
 obj:∀i h,tn i h->∀b∈fp,∃o,h.get? b=some o/\∀v,o.data≠.cell v
 keep:∀i h h',tn i h->(∀b∈fp,∀o,h.get? b=some o->h'.get? b=some o)->tn i h'
 item:∀(X:Cx),X.prog=P->X.w=w->X.K=K->X.calm=true->∀(i:Nat) (pins:List (ah×Obj)) (s:ag) (σ:St) (H:Hp) (E:af->ag->Prop),Inv X pins σ H s->(∀b∈fp,dO X pins H b)->tn i s.heap->J.go i H->
  wpAny (model P w) X.A (pyNext (.ref it)) (λr s1=>∃u,r=some u /\
   wpAny (model P w) X.A (letOwnedTupleGo tg (.ref it) u) (λ_ s2=>∃x H',Inv X pins σ H' s2/\RelV x u/\J.yld i H x H'/\tn (i+1) s2.heap/\∀b∈fp,H' b=none) E s1) E s
 done:∀(X:Cx),X.prog=P->X.w=w->X.K=K->X.calm=true->∀(i:Nat) (pins:List (ah×Obj)) (s:ag) (σ:St) (H:Hp) (E:af->ag->Prop),Inv X pins σ H s->(∀b∈fp,dO X pins H b)->tn i s.heap->J.stop i H->
  wpAny (model P w) X.A (pyNext (.ref it)) (λr s1=>r=none/\Inv X pins σ H s1) E s
 self:∀(A:cx) (i:Nat) (s:ag) (Q:af->ag->Prop) (E:af->ag->Prop),tn i s.heap->Q (.ref it) s->wpAny (model P w) A (pyIter (.ref it)) Q E s
abbrev TI:=St->Hp->(It->Hp->Prop)->Prop
def FO (X:Cx) (pins:List (ah×Obj)) (σ:St) (tg:bp) (R:It->Hp->Prop) (itv:af) (s2:ag):Prop:=∃(it:ah) (fp:List ah) (tn:Nat->cz->Prop) (J:It) (H':Hp),itv=.ref it/\Inv X pins σ H' s2/\Turn X.prog X.w X.K tg J fp it tn/\tn 0 s2.heap/\(∀b∈fp,dO X pins H' b)/\R J H'
def PI (X:Cx) (tg iter:bp) (wi:TI):Prop:=
 ∀(pins:List (ah×Obj)) (s:ag) (σ:St) (H:Hp) (R:It->Hp->Prop),Inv X pins σ H s->wi σ H R->
  wpAny (model X.prog X.w) X.A (eval iter X.env) (λv s1=>wpAny (model X.prog X.w) X.A (pyIter v) (FO X pins σ tg R) X.xe s1) X.xe s
theorem zL {M:Model}{A:cx}{E:af->ag->Prop}{s:ag}{tg:bp}{it:ah}{u:af}{o:Obj}{n:String}{vs:Array af}{Q:Unit->ag->Prop}(ho:s.heap.get? it=some o) (hc:o.cls=.type n) (hd:o.data=.fields vs)
  (hn:["enumerate","zip","dict_itemiterator","dict_reverseitemiterator","odict_iterator","itertools.zip_longest","itertools.pairwise"].contains n=false) (hQ:Q () s):wpAny M A (letOwnedTupleGo tg (.ref it) u) Q E s:=by
 unfold letOwnedTupleGo
 cases tg <;> first
  |exact ai hQ
  |(cases u <;> first
    |exact ai hQ
    |(refine aa (wpAny_load ho ?_);rw[hc,hd];show wpAny M A (if(["enumerate","zip","dict_itemiterator","dict_reverseitemiterator","odict_iterator","itertools.zip_longest","itertools.pairwise"].contains n&&vs[0]?==some (rawInt _))=true then _ else _) Q E s;rw[if_neg (by intro h;rw[hn,Bool.false_and]at h;cases h)];exact ai hQ))
def FP (K:ao) (a:ah):It:=⟨λi H=>∃xs x,SqL K H a xs/\xs[i]?=some x,λi H x H'=>H'=H/\∀xs,SqL K H a xs->xs[i]?=some x,λi H=>∃xs,SqL K H a xs/\xs.length<=i⟩
def zM (K:ao) (a:ah):It:=⟨λi H=>∃xs x,SqT K H a xs/\xs[i]?=some x,λi H x H'=>H'=H/\∀xs,SqT K H a xs->xs[i]?=some x,λi H=>∃xs,SqT K H a xs/\xs.length<=i⟩
def qN (lo:Int) (n:Nat):It:=⟨λi _=>i<n,λi H x H'=>H'=H/\x=.int (lo+i),λi _=>n<=i⟩
theorem O4 {P:bo}{w:cw}{K:ao}{tg:bp}(a it:ah):Turn P w K tg (FP K a) [it] it (λi h=>h.IsListIter it a i) where
 mem:=by simp
 obj:=λi h st b hb=>by
  have e:b=it:=by simpa using hb
  subst e;obtain⟨o,e,c,d⟩:=st;exact⟨o,e,λv z=>by rw[d]at z;cases z⟩
 keep:=λi h h' st k=>st.at λo e=>k it (by simp) o e
 item:=by intro X hP hw hK hc i pins s σ H E I hf st hg;subst hP hw hK;obtain⟨xs,x,hq,hx⟩:=hg;obtain⟨its,rv,p,hz⟩:=I.list hq;obtain⟨u,hu,ru⟩:=rv.get hx;obtain⟨f0,f1,f2,f3,f4,f5⟩:=hf it (by simp);refine wpAny_pyNext_list_item st p.isList (x:=u) (by simpa using hu) λh' st' sb=>?_;have I1:Inv X pins σ H { s with heap:=h' }:=I.turned (t':=s.toks) (λb o hb e=>(sb.2 b hb).trans e) f0 f1 f3 f4 f5;obtain⟨o,e,c,d⟩:=id st';exact⟨u,rfl,zL (s:={ s with heap:=h' }) e c d (by decide) ⟨x,H,I1,ru,⟨rfl,λys hy=>by rw[I.list_inj hy hq];exact hx⟩,st',λb hb=>(hf b hb).1⟩⟩
 done:=by intro X hP hw hK hc i pins s σ H E I hf st hg;subst hP hw hK;obtain⟨xs,hq,hx⟩:=hg;obtain⟨its,rv,p,hz⟩:=I.list hq;obtain⟨f0,f1,f2,f3,f4,f5⟩:=hf it (by simp);have hl:=rv.length;exact wpAny_pyNext_list_end (I.ok.hd hc) st p.isList (by simp;omega) λh' eb=>⟨rfl,I.turned (t':=s.toks) (λb o hb e=>eb b o hb e) f0 f1 f3 f4 f5⟩
 self:=λ_ _ _ _ _ st h=>wpAny_pyIter_listiter st h
theorem O5 {P:bo}{w:cw}{K:ao}{tg:bp}(a it:ah):Turn P w K tg (zM K a) [it] it (λi h=>h.IsTupleIter it a i) where
 mem:=by simp
 obj:=λi h st b hb=>by
  have e:b=it:=by simpa using hb
  subst e;obtain⟨o,e,c,d⟩:=st;exact⟨o,e,λv z=>by rw[d]at z;cases z⟩
 keep:=λi h h' st k=>st.at λo e=>k it (by simp) o e
 item:=by intro X hP hw hK hc i pins s σ H E I hf st hg;subst hP hw hK;obtain⟨xs,x,hq,hx⟩:=hg;obtain⟨its,rv,p,hz⟩:=I.tuple hq;obtain⟨u,hu,ru⟩:=rv.get hx;obtain⟨f0,f1,f2,f3,f4,f5⟩:=hf it (by simp);refine wpAny_pyNext_tuple_item st (show s.heap.IsTuple a its.toArray from p) (x:=u) (by simpa using hu) λh' st' sb=>?_;have I1:Inv X pins σ H { s with heap:=h' }:=I.turned (t':=s.toks) (λb o hb e=>(sb.2 b hb).trans e) f0 f1 f3 f4 f5;obtain⟨o,e,c,d⟩:=id st';exact⟨u,rfl,zL (s:={ s with heap:=h' }) e c d (by decide) ⟨x,H,I1,ru,⟨rfl,λys hy=>by rw[I.tuple_inj hy hq];exact hx⟩,st',λb hb=>(hf b hb).1⟩⟩
 done:=by intro X hP hw hK hc i pins s σ H E I hf st hg;subst hP hw hK;obtain⟨xs,hq,hx⟩:=hg;obtain⟨its,rv,p,hz⟩:=I.tuple hq;obtain⟨f0,f1,f2,f3,f4,f5⟩:=hf it (by simp);have hl:=rv.length;exact wpAny_pyNext_tuple_end (I.ok.hd hc) st (show s.heap.IsTuple a its.toArray from p) (by simp;omega) λh' eb=>⟨rfl,I.turned (t':=s.toks) (λb o hb e=>eb b o hb e) f0 f1 f3 f4 f5⟩
 self:=λ_ _ _ _ _ st h=>wpAny_pyIter_tupleiter st h
theorem O6 {P:bo}{w:cw}{K:ao}{tg:bp}(it:ah) (lo:Int) (n:Nat):Turn P w K tg (qN lo n) [it] it (λi h=>IsRangeIter h it (lo+(i:Nat)*1) ((n:Int) - (i:Nat)) 1) where
 mem:=by simp
 obj:=λi h st b hb=>by
  have e:b=it:=by simpa using hb
  subst e;exact⟨_,st,λv z=>by
   have z':Data.fields _=Data.cell v:=z
   cases z'⟩
 keep:=λi h h' st k=>k it (by simp) _ st
 item:=by intro X hP hw hK hc i pins s σ H E I hf st hg;subst hP hw hK;obtain⟨f0,f1,f2,f3,f4,f5⟩:=hf it (by simp);have W:=Walks.range (prog:=X.prog) (w:=X.w) (I.ok.hd hc) it lo 1 n;refine W.item i s _ _ hg st λv h' tk hv st' kk=>?_;obtain⟨t,rfl⟩:=hv;have I1:Inv X pins σ H { s with heap:=h',toks:=tk }:=I.turned (λb o hb e=>kk b o (by simpa using hb) e) f0 f1 f3 f4 f5;refine⟨_,rfl,zL (s:={ s with heap:=h',toks:=tk }) (n := "range_iterator") st' rfl rfl (by decide) ⟨.int (lo+i),H,I1,⟨t, ?_⟩,⟨rfl,rfl⟩,st',λb hb=>(hf b hb).1⟩⟩;rw[Int.mul_one]
 done:=by intro X hP hw hK hc i pins s σ H E I hf st hg;subst hP hw hK;obtain⟨f0,f1,f2,f3,f4,f5⟩:=hf it (by simp);exact wpAny_pyNext_range_end (I.ok.hd hc) st (by have:n<=i:=hg;omega) λh' eb=>⟨rfl,I.turned (t':=s.toks) (λb o hb e=>eb b o hb e) f0 f1 f3 f4 f5⟩
 self:=λ_ _ _ _ _ st h=>wpAny_pyIter_rangeiter st h
section
variable{X:Cx}{tg:bp}
def O7 (K:ao) (tl:TE):TI:=λσ H R=>tl σ H λx H1=>∃a,x=.ref a/\(∃xs,SqL K H1 a xs)/\R (FP K a) H1
def O8 (K:ao) (tl:TE):TI:=λσ H R=>tl σ H λx H1=>∃a,x=.ref a/\(∃xs,SqT K H1 a xs)/\R (zM K a) H1
theorem O9 {l:bp}{tl:TE}(hl:PE X l tl):PI X tg l (O7 X.K tl):=by
 intro pins s σ H R I h;refine bD (hl pins s σ H _ I h) λv s1 ⟨x,H1,I1,r1,q1⟩=>?_;obtain⟨a,e,⟨xs,hq⟩,q⟩:=q1;subst e;cases r1;obtain⟨its,rv,p,hz⟩:=I1.list hq;refine ku p.isList ?_;refine⟨s1.heap.objs.size,[s1.heap.objs.size],_,_,H1,rfl,I1.kept (t':=s1.toks) λb o e=>ak _ e,O4 a _,⟨_,bc _ rfl,rfl,rfl⟩,λb hb=>?_,q⟩;have e:b=s1.heap.objs.size:=by simpa using hb
 subst e;exact I1.fpOk (aj _) (I1.hok.fresh (aj _))
theorem PB {l:bp}{tl:TE}(hl:PE X l tl):PI X tg l (O8 X.K tl):=by
 intro pins s σ H R I h;refine bD (hl pins s σ H _ I h) λv s1 ⟨x,H1,I1,r1,q1⟩=>?_;obtain⟨a,e,⟨xs,hq⟩,q⟩:=q1;subst e;cases r1;obtain⟨its,rv,p,hz⟩:=I1.tuple hq;refine qp (show s1.heap.IsTuple a its.toArray from p) ?_;refine⟨s1.heap.objs.size,[s1.heap.objs.size],_,_,H1,rfl,I1.kept (t':=s1.toks) λb o e=>ak _ e,O5 a _,⟨_,bc _ rfl,rfl,rfl⟩,λb hb=>?_,q⟩;have e:b=s1.heap.objs.size:=by simpa using hb
 subst e;exact I1.fpOk (aj _) (I1.hok.fresh (aj _))
theorem FQ {pins:List (ah×Obj)}{σ:St}{H:Hp}{s:ag}{R:It->Hp->Prop}{E:af->ag->Prop}{lo hi:Int}{t u v:Tok}{tk:Nat}(I:Inv X pins σ H s) (h1 : -(2 ^ 62)<=lo) (h2:lo<2 ^ 62) (h3 : -(2 ^ 62)<=hi) (h4:hi<2 ^ 62)
  (q:R (qN lo (hi - lo).toNat) H):wpAny (model X.prog X.w) X.A (pyIter (.ref s.heap.objs.size)) (FO X pins σ tg R) E { s with heap:=s.heap.push { cls:=.type "range",data:=.fields #[.int lo t,.int hi u,.int 1 v] },toks:=tk }:=by
 refine wpAny_pyIter_range (IsRange.new ..) (small_one h1 h2 h3 h4) ?_;have I1:Inv X pins σ H { s with heap:=s.heap.push { cls:=.type "range",data:=.fields #[.int lo t,.int hi u,.int 1 v] },toks:=tk }:=I.kept λb o e=>ak _ e;refine⟨(s.heap.push { cls:=.type "range",data:=.fields #[.int lo t,.int hi u,.int 1 v] }).objs.size,[(s.heap.push { cls:=.type "range",data:=.fields #[.int lo t,.int hi u,.int 1 v] }).objs.size],_,_,H,rfl,
  I1.kept (t':=tk) λb o e=>ak _ e,O6 _ lo (hi - lo).toNat, ?_,λb hb=>?_,q⟩
 ·have e1:lo+((0:Nat):Int)*1=lo:=by simp
  have e2:(((hi - lo).toNat:Nat):Int) - ((0:Nat):Int)=Builtin.Range.rangeSize lo hi 1:=by rw[rangeSize_one];split <;> omega
  show IsRangeIter _ _ (lo+((0:Nat):Int)*1) ((((hi - lo).toNat:Nat):Int) - ((0:Nat):Int)) 1;rw[e1,e2];exact bc _ rfl
 ·have e:b=(s.heap.push { cls:=.type "range",data:=.fields #[.int lo t,.int hi u,.int 1 v] }).objs.size:=by simpa using hb
  subst e;exact I1.fpOk (aj _) (I1.hok.fresh (aj _))
def PC (ta:TA):TI:=λσ H R=>ta σ H λvs H1=>∃j:Int,vs=[.int j]/\-(2 ^ 62)<=j/\j<2 ^ 62/\R (qN 0 j.toNat) H1
def PD (ta:TA):TI:=λσ H R=>ta σ H λvs H1=>∃i j:Int,vs=[.int i,.int j]/\(-(2 ^ 62)<=i/\i<2 ^ 62/\-(2 ^ 62)<=j/\j<2 ^ 62)/\R (qN i (j - i).toNat) H1
theorem PF {a:bp}{ta:TA}{p pos:Pos}(hg:Gl X "range") (hm:X.mg "range" = none) (ha:PA X [a] ta) (hs:au [a] X.env=[(false,eval a X.env)]:=by rfl):PI X tg (.Call (.Name "range" p) [a] [] pos) (PC ta):=by
 intro pins s σ H R I h;refine Call_ (nL I hg hm boot_range (iq (bD (ha pos pins s σ H _ I h) λus s1 ⟨vs,H1,I1,r1,q1⟩=>?_) hs rfl));obtain⟨j,e,q1,q2,q⟩:=q1;subst e
 cases r1 with
 |cons r rr=>cases rr;obtain⟨t,rfl⟩:=r;exact call_range_1 (FQ I1 (by omega) (by omega) q1 q2 (by simpa using q))
theorem PH {a b:bp}{ta:TA}{p pos:Pos}(hg:Gl X "range") (hm:X.mg "range" = none) (ha:PA X [a,b] ta) (hs:au [a,b] X.env=[(false,eval a X.env),(false,eval b X.env)]:=by rfl) (hs2:au [b] X.env=[(false,eval b X.env)]:=by rfl):
  PI X tg (.Call (.Name "range" p) [a,b] [] pos) (PD ta):=by
 intro pins s σ H R I h;refine Call_ (nL I hg hm boot_range (iq (bD (ha pos pins s σ H _ I h) λus s1 ⟨vs,H1,I1,r1,q1⟩=>?_) (by rw[hs,hs2]) (by rw[hs2];rfl)));obtain⟨i,j,e,⟨q1,q2,q3,q4⟩,q⟩:=q1;subst e
 cases r1 with
 |cons r rr=>
  cases rr with
  |cons r' rr=>cases rr;obtain⟨t,rfl⟩:=r;obtain⟨t',rfl⟩:=r';exact call_range_2 (FQ I1 q1 q2 q3 q4 q)
def PJ (wi:TI) (g:TG) (tb:TS):TS:=λD σ H=>wi σ H λJ H1=>∃W:Nat->Nat->St->Hp->Prop,(∃m,W 0 m σ H1)/\∀i m σ H,W i m σ H->
 (J.stop i H/\D.nx σ H)∨(J.go i H/\∃N:St->Hp->Prop,(∀σ' H',N σ' H'->∃m',m'<m/\W (i+1) m' σ' H')/\∀x H',J.yld i H x H'->g x σ H' λσ2 H2=>tb { D with nx:=N,ct:=N,bk:=D.nx } σ2 H2)
def jO (fp:List ah) (h:cz):List (ah×Obj):=fp.filterMap λb=>(h.get? b).map λo=>(b,o)
theorem oY {fp:List ah}{h:cz}{b:ah}{o:Obj}(hb:b∈fp) (e:h.get? b=some o):(b,o)∈jO fp h:=ie.mpr ⟨b,hb,by rw[e];rfl⟩
theorem zN {fp:List ah}{h:cz}{p:ah×Obj}(hp:p∈jO fp h):p.1∈fp/\h.get? p.1=some p.2:=by
 obtain⟨b,hb,e⟩:=ie.mp hp
 cases q:h.get? b with
 |none=>rw[q]at e;cases e
 |some o=>rw[q]at e;have e':(b,o)=p:=cy e;subst e';exact⟨hb,q⟩
theorem Inv.pinned {pins:List (ah×Obj)}{σ:St}{H:Hp}{s:ag}{fp:List ah}(I:Inv X pins σ H s) (hf:∀b∈fp,dO X pins H b) (ho:∀b∈fp,∃o,s.heap.get? b=some o/\∀v,o.data≠.cell v):Inv X (pins++jO fp s.heap) σ H s:=I.pins_of λp hp=>(bx.mp hp).elim (λz=>I.pin p (cm _ z)) λz=>by obtain⟨hb,e⟩:=zN z;obtain⟨f0,f1,f2,_⟩:=hf p.1 hb;obtain⟨o,e',d⟩:=ho p.1 hb;rw[e]at e';cases e';exact⟨e,f0,f1,f2,d⟩
theorem Inv.unpinned {pins pl:List (ah×Obj)}{σ:St}{H:Hp}{s:ag}(I:Inv X (pins++pl) σ H s):Inv X pins σ H s:=I.pins_of λp hp=>I.pin p (cm _ (jm _ hp))
theorem PK {iter:bp}{body:List gp}{wi:TI}{g:TG}{tb:TS}{pos:Pos}(hp:xm (model X.prog X.w) X.A X.env X.xe) (hc:X.calm=true) (hi:PI X tg iter wi) (hg:PG X tg g) (hb:PSs X body tb)
  (hs:∀x,foldedSetIterable iter X.env x=pure x:=by intro _;rfl):PS X (.For tg iter body [] pos) (PJ wi g tb):=by
 intro pins s σ H D I h;refine wpAny_For (bD (hi pins s σ H _ I h) λv s1 h1=>bD h1 λitv s2 h2=>?_) hs;obtain⟨it,fp,tn,J,H2,e,I2,T,st2,f2,W,⟨m0,w0⟩,turn⟩:=h2;subst e;have stat:∀{H':Hp},(∀b∈fp,H' b=none)->∀b∈fp,dO X pins H' b:=λhn b hb=>⟨hn b hb,(f2 b hb).2⟩
 refine codeAny_forLoop_any (λn s'=>∃i σ' H',Inv X pins σ' H' s'/\tn i s'.heap/\(∀b∈fp,H' b=none)/\W i n σ' H') ?_ m0 ⟨0,σ,H2,I2,st2,λb hb=>(f2 b hb).1,w0⟩
 rintro n s3 ⟨i,σ3,H3,I3,st3,fr3,w3⟩
 rcases turn i n σ3 H3 w3 with⟨stop,qn⟩|⟨go,N,hN,step⟩
 ·refine kn hp (bD (T.done X rfl rfl rfl hc i pins s3 σ3 H3 X.xe I3 (stat fr3) st3 stop) λr s4 ⟨hr,I4⟩=>?_);subst hr;exact ly ⟨σ3,H3,I4,qn⟩
 ·refine kn hp (bD (T.item X rfl rfl rfl hc i pins s3 σ3 H3 X.xe I3 (stat fr3) st3 go) λr s4 ⟨u,hr,h4⟩=>?_);subst hr;refine kn hp (bD h4 λ_ s5 ⟨x,H5,I5,r5,y5,st5,fr5⟩=>?_);have I5':=I5.pinned (stat fr5) (T.obj _ _ st5);refine kn hp (bD (hg _ s5 σ3 H5 x u _ I5' r5 (step x H5 y5)) λ_ s6 ⟨σ6,H6,I6,q6⟩=>?_);refine kn hp (bD (hb _ s6 σ6 H6 _ I6 q6) λf s7 q7=>?_);have again:∀{σ7:St}{H7:Hp},Inv X (pins++jO fp s5.heap) σ7 H7 s7->N σ7 H7->∃m,m<n/\∃i σ' H',Inv X pins σ' H' s7/\tn i s7.heap/\(∀b∈fp,H' b=none)/\W i m σ' H':=λ{σ7 H7} I7 n7=>by obtain⟨m',hm,w7⟩:=hN σ7 H7 n7;refine⟨m',hm,i+1,σ7,H7,I7.unpinned,T.keep _ _ _ st5 λb hb o e=>(I7.pin (b,o) (cm _ (cm _ (oY hb e)))).1,λb hb=>?_,w7⟩;obtain⟨o,e,d⟩:=T.obj _ _ st5 b hb;exact(I7.pin (b,o) (cm _ (cm _ (oY hb e)))).2.1
  cases f with
  |next=>obtain⟨σ7,H7,I7,n7⟩:=q7;exact again I7 n7
  |cont=>obtain⟨σ7,H7,I7,n7⟩:=q7;exact again I7 n7
  |brk=>obtain⟨σ7,H7,I7,q7⟩:=q7;exact⟨σ7,H7,I7.unpinned,q7⟩
  |ret v=>obtain⟨x7,σ7,H7,I7,r7,q7⟩:=q7;exact⟨x7,σ7,H7,I7.unpinned,r7,q7⟩
end
abbrev R2:=V->V->Hp->VK->Prop
def OpR (X:Cx) (f:af->af->Sem af) (r:R2):Prop:=
 ∀(pins:List (ah×Obj)) (s:ag) (σ:St) (H:Hp) (x y:V) (v u:af) (Q:VK),Inv X pins σ H s->RelV x v->RelV y u->r x y H Q->
  wpAny (model X.prog X.w) X.A (f v u) (EP X pins σ Q) X.xe s
def uK (X:Cx) (f:af->Sem af) (r:V->Hp->VK->Prop):Prop:=
 ∀(pins:List (ah×Obj)) (s:ag) (σ:St) (H:Hp) (x:V) (v:af) (Q:VK),Inv X pins σ H s->RelV x v->r x H Q->
  wpAny (model X.prog X.w) X.A (f v) (EP X pins σ Q) X.xe s
def CallR (X:Cx) (f:af) (r:List V->Hp->VK->Prop):Prop:=
 ∀(pins:List (ah×Obj)) (s:ag) (σ:St) (H:Hp) (xs:List V) (us:List af) (Q:VK),Inv X pins σ H s->Vals xs us->r xs H Q->
  wpAny (model X.prog X.w) X.A (call f us) (EP X pins σ Q) X.xe s
def PL (X:Cx) (r:V->Hp->(Bool->Hp->Prop)->Prop):Prop:=
 ∀(pins:List (ah×Obj)) (s:ag) (σ:St) (H:Hp) (x:V) (v:af) (Q:Bool->Hp->Prop),Inv X pins σ H s->RelV x v->r x H Q->
  wpAny (model X.prog X.w) X.A (truthy v) (TP X pins σ Q) X.xe s
def qO (r:R2) (ta tb:TE):TE:=λσ H Q=>ta σ H λx H1=>tb σ H1 λy H2=>r x y H2 Q
def PM (r:V->Hp->VK->Prop) (ta:TE):TE:=λσ H Q=>ta σ H λx H1=>r x H1 Q
def rI (C:Int->Int->Prop) (g:Int->Int->V):R2:=λx y H Q=>∃i j,x=.int i/\y=.int j/\C i j/\Q (g i j) H
def jP (g:Int->Int->V):R2:=λx y H Q=>∃i j,x=.int i/\y=.int j/\Q (g i j) H
def rU (g:Int->V):V->Hp->VK->Prop:=λx H Q=>∃i,x=.int i/\Q (g i) H
section
variable{X:Cx}{a b c:bp}{ta tb tc:TE}{pos:Pos}
theorem zO (ha:PE X a ta) (hb:PE X b tb) {pins:List (ah×Obj)}{s:ag}{σ:St}{H:Hp}{R:V->V->Hp->Prop}(I:Inv X pins σ H s)
  (h:ta σ H λx H1=>tb σ H1 λy H2=>R x y H2) {Q:af->ag->Prop}{f:af->af->Sem af}
  (hf:∀v u s2 x y H2,Inv X pins σ H2 s2->RelV x v->RelV y u->R x y H2->wpAny (model X.prog X.w) X.A (f v u) Q X.xe s2):
  wpAny (model X.prog X.w) X.A (eval a X.env) (λv s₁=>wpAny (model X.prog X.w) X.A (eval b X.env) (λu s₂=>wpAny (model X.prog X.w) X.A (f v u) Q X.xe s₂) X.xe s₁) X.xe s:=by
 refine bD (ha pins s σ H _ I h) λv s1 ⟨x,H1,I1,r1,q1⟩=>?_;refine bD (hb pins s1 σ H1 _ I1 q1) λu s2 ⟨y,H2,I2,r2,q2⟩=>?_;exact hf v u s2 x y H2 I2 r1 r2 q2
theorem PN {op:Operator}{r:R2}(ho:OpR X (binaryOp op) r) (ha:PE X a ta) (hb:PE X b tb):PE X (.BinOp a op b pos) (qO r ta tb):=by intro pins s σ H Q I h;exact wpAny_BinOp (zO ha hb I h λv u s2 x y H2 I2 rx ry q=>ho pins s2 σ H2 x y v u Q I2 rx ry q)
theorem PQ {op:UnaryOp}{r:V->Hp->VK->Prop}(ho:uK X (unaryOp op) r) (ha:PE X a ta):PE X (.UnaryOp op a pos) (PM r ta):=by intro pins s σ H Q I h;exact UnaryOp_ (bD (ha pins s σ H _ I h) λv s1 ⟨x,H1,I1,r1,q1⟩=>ho pins s1 σ H1 x v Q I1 r1 q1)
theorem uL {f:af->af->Sem af}{C:Int->Int->Prop}{g:Int->Int->Int}
  (rule:∀(i j:Int) (t u:Tok) (s:ag) (Q:af->ag->Prop) (E:af->ag->Prop),C i j->Q (.int (g i j) s.toks) { s with toks:=s.toks+1 }->wpAny (model X.prog X.w) X.A (f (.int i t) (.int j u)) Q E s):
  OpR X f (rI C λi j=>.int (g i j)):=by
 intro pins s σ H x y v u Q I rx ry h;obtain⟨i,j,rfl,rfl,hc,q⟩:=h;obtain⟨t,rfl⟩:=rx;obtain⟨t',rfl⟩:=ry;exact rule i j t t' s _ _ hc ⟨.int (g i j),H,I.tok _,⟨_,rfl⟩,q⟩
theorem FR {f:af->af->Sem af}{g:Int->Int->Int}
  (rule:∀(i j:Int) (t u:Tok) (s:ag) (Q:af->ag->Prop) (E:af->ag->Prop),Q (.int (g i j) s.toks) { s with toks:=s.toks+1 }->wpAny (model X.prog X.w) X.A (f (.int i t) (.int j u)) Q E s):
  OpR X f (jP λi j=>.int (g i j)):=by
 intro pins s σ H x y v u Q I rx ry h;obtain⟨i,j,rfl,rfl,q⟩:=h;obtain⟨t,rfl⟩:=rx;obtain⟨t',rfl⟩:=ry;exact rule i j t t' s _ _ ⟨.int (g i j),H,I.tok _,⟨_,rfl⟩,q⟩
theorem uM {f:af->af->Sem af}{g:Int->Int->Bool}
  (rule:∀(i j:Int) (t u:Tok) (s:ag) (Q:af->ag->Prop) (E:af->ag->Prop),Q (.bool (g i j)) s->wpAny (model X.prog X.w) X.A (f (.int i t) (.int j u)) Q E s):
  OpR X f (jP λi j=>.bl (g i j)):=by
 intro pins s σ H x y v u Q I rx ry h;obtain⟨i,j,rfl,rfl,q⟩:=h;obtain⟨t,rfl⟩:=rx;obtain⟨t',rfl⟩:=ry;exact rule i j t t' s _ _ ⟨.bl (g i j),H,I,rfl,q⟩
def zP (i j:Int):Prop:=0<=j/\j<=1000000/\i.natAbs<2 ^ 64
def CMul (i j:Int):Prop:=(-(2 ^ 64)<i/\i<2 ^ 64)∨(-(2 ^ 64)<j/\j<2 ^ 64)
theorem CMul.ok {i j:Int}(h:CMul i j):IntMulOk i j:=by
 rcases h with⟨h1,h2⟩|⟨h1,h2⟩
 ·exact .of_left (intBits_le_64 h1 h2)
 ·exact .of_right (intBits_le_64 h1 h2)
theorem op_add:OpR X (binaryOp .Add) (jP λi j=>.int (i+j)):=FR λ_ _ _ _ _ _ _ q=>add_int q
theorem PR:OpR X (binaryOp .Sub) (jP λi j=>.int (i - j)):=FR λ_ _ _ _ _ _ _ q=>sub_int q
theorem PU:OpR X (binaryOp .Mult) (rI CMul λi j=>.int (i*j)):=uL λ_ _ _ _ _ _ _ hc q=>mul_int q hc.ok
theorem PV:OpR X (binaryOp .Mod) (rI (λ_ j=>0<j) λi j=>.int (i % j)):=uL λi j _ _ _ _ _ hc q=>by have h1:(0:Int)<j:=hc;exact mod_int' (by omega) (by rw[Int.fmod_eq_emod_of_nonneg i (by omega)];exact q)
theorem PX:OpR X (binaryOp .Pow) (rI zP λi j=>.int (i ^ j.toNat)):=uL λ_ _ _ _ _ _ _ hc q=>pow_int_small hc.1 hc.2.1 hc.2.2 q
theorem PY {f:af->Sem af}{g:Int->Int}
  (rule:∀(i:Int) (t:Tok) (s:ag) (Q:af->ag->Prop) (E:af->ag->Prop),Q (.int (g i) s.toks) { s with toks:=s.toks+1 }->wpAny (model X.prog X.w) X.A (f (.int i t)) Q E s):
  uK X f (rU λi=>.int (g i)):=by
 intro pins s σ H x v Q I rx h;obtain⟨i,rfl,q⟩:=h;obtain⟨t,rfl⟩:=rx;exact rule i t s _ _ ⟨.int (g i),H,I.tok _,⟨_,rfl⟩,q⟩
theorem PZ:uK X (unaryOp .USub) (rU λi=>.int (-i)):=PY λ_ _ _ _ _ q=>neg_int q
end
section
variable{X:Cx}{a b c:bp}{ta tb tc:TE}{pos:Pos}
theorem zQ:OpR X (compareOp .Lt) (jP λi j=>.bl (decide (i<j))):=uM λ_ _ _ _ _ _ _ q=>lt_int q
theorem uN:OpR X (compareOp .LtE) (jP λi j=>.bl (decide (i<=j))):=uM λ_ _ _ _ _ _ _ q=>le_int q
theorem P0:OpR X (compareOp .Gt) (jP λi j=>.bl (decide (j<i))):=uM λ_ _ _ _ _ _ _ q=>gt_int q
theorem P4:OpR X (compareOp .GtE) (jP λi j=>.bl (decide (j<=i))):=uM λ_ _ _ _ _ _ _ q=>ge_int q
theorem OpR.or {f:af->af->Sem af}{r r':R2}(h:OpR X f r) (h':OpR X f r'):OpR X f (λx y H Q=>r x y H Q∨r' x y H Q):=by
 intro pins s σ H x y v u Q I rx ry q
 rcases q with q|q
 ·exact h pins s σ H x y v u Q I rx ry q
 ·exact h' pins s σ H x y v u Q I rx ry q
theorem lL (b:bp) {op:CmpOp}(h:op≠.In:=by decide) (h2:op≠.NotIn:=by decide):behindInMarks op b=false:=by
 have e1:(op==CmpOp.In)=false:=by cases op <;> first|rfl|exact absurd rfl h
 have e2:(op==CmpOp.NotIn)=false:=by cases op <;> first|rfl|exact absurd rfl h2
 cases b <;> simp[behindInMarks,e1,e2]
theorem P5 {op:CmpOp}{r:R2}(ho:OpR X (compareOp op) r) (ha:PE X a ta) (hb:PE X b tb) (hm:behindInMarks op b=false):PE X (.Compare a [op] [b] pos) (qO r ta tb):=by intro pins s σ H Q I h;exact wpAny_Compare1 (zO ha hb I h λv u s2 x y H2 I2 rx ry q=>ho pins s2 σ H2 x y v u Q I2 rx ry q) hm
def P6 (t:TE):TT:=λσ H Q=>t σ H λx H'=>∃k,x=.bl k/\Q k H'
theorem P7 {op:CmpOp}{r:R2}(ho:OpR X (compareOp op) r) (ha:PE X a ta) (hb:PE X b tb) (hm:behindInMarks op b=false):PT X (.Compare a [op] [b] pos) (P6 (qO r ta tb)):=by intro pins s σ H Q I h;refine wpAny_isTrue_Compare1 (bD (ha pins s σ H _ I h) λv s1 ⟨x,H1,I1,r1,q1⟩=>bD (hb pins s1 σ H1 _ I1 q1) λu s2 ⟨y,H2,I2,r2,q2⟩=>bD (ho pins s2 σ H2 x y v u _ I2 r1 r2 q2) λc s3 ⟨z,H3,I3,r3,k,e,q3⟩=>?_) hm;subst e;cases r3;exact kr ⟨H3,I3,q3⟩
def FT (r r':R2) (ta tb tc:TE):TE:=λσ H Q=>ta σ H λx H1=>tb σ H1 λy H2=>r x y H2 λz H3=>∃k,z=.bl k /\
 (if k=true then tc σ H3 λw' H4=>r' y w' H4 Q else Q (.bl false) H3)
theorem P8 {op op':CmpOp}{r r':R2}(ho:OpR X (compareOp op) r) (ho':OpR X (compareOp op') r') (ha:PE X a ta) (hb:PE X b tb) (hc:PE X c tc)
  (hm:lastMarks [op,op'] [b,c]=false:=by with_unfolding_all rfl):PE X (.Compare a [op,op'] [b,c] pos) (FT r r' ta tb tc):=by
 intro pins s σ H Q I h;refine Compare_chain (bD (ha pins s σ H _ I h) λv s1 ⟨x,H1,I1,r1,q1⟩=>chain_link (bD (hb pins s1 σ H1 _ I1 q1) λu s2 ⟨y,H2,I2,r2,q2⟩=>bD (ho pins s2 σ H2 x y v u _ I2 r1 r2 q2) λd s3 ⟨z,H3,I3,r3,k,e,q3⟩=>?_)) hm;subst e;cases r3;refine kr ?_
 cases k with
 |false=>exact ite_ff ⟨.bl false,H3,I3,rfl,q3⟩
 |true=>exact ite_tt (chain_last (bD (hc pins s3 σ H3 _ I3 q3) λw' s4 ⟨z',H4,I4,r4,q4⟩=>ho' pins s4 σ H4 y z' u w' Q I4 r2 r4 q4))
def FU (K:ao) (x:V) (H:Hp) (k:Bool):Prop:=
 match x with
 | .non=>k=false
 | .bl b=>k=b
 | .int i=>k=(i != 0)
 | .str y=>y.length<=cj/\k=((y.length:Int) != 0)
 | .byt y=>y.size<=cj/\k=((y.size:Int) != 0)
 | .ref p=>(∃xs,SqL K H p xs/\k=!xs.isEmpty)∨(∃xs,SqT K H p xs/\k=!xs.isEmpty)∨∃kvs,H p=some (.dK kvs)/\k=!kvs.isEmpty
 |_=>False
theorem P9 {κ:Type}{kvs:List (κ×V)}{vs:List (κ×af)}(r:KV kvs vs):(!vs.isEmpty)=!kvs.isEmpty:=by cases r <;> rfl
theorem FV {xs:List V}{its:List af}(r:Vals xs its):(!its.toArray.isEmpty)=!xs.isEmpty:=by cases r <;> simp
theorem oZ:(cj:Nat)<2 ^ 63:=by rw[jn];decide
theorem QA:PL X (λx H Q=>∃k,FU X.K x H k/\Q k H):=by
 intro pins s σ H x v Q I rx h;obtain⟨k,e,q⟩:=h;have hl:=oZ;have hs:cj=16777216:=jn
 cases x with
 |non=>cases rx;have e':k=false:=e;subst e';exact truthy_none ⟨H,I,q⟩
 |bl b=>cases rx;have e':k=b:=e;subst e';exact kr ⟨H,I,q⟩
 |int i=>obtain⟨t,rfl⟩:=rx;have e':k=(i != 0):=e;subst e';exact PySem.P.truthy_int ⟨H,I,q⟩
 |str y=>obtain⟨t,rfl⟩:=rx;obtain⟨hy,e'⟩:y.length<=cj/\k=((y.length:Int) != 0):=e;subst e';exact PySem.P.truthy_str (by omega) ⟨H,I.tok _,q⟩
 |byt y=>obtain⟨t,rfl⟩:=rx;obtain⟨hy,e'⟩:y.size<=cj/\k=((y.size:Int) != 0):=e;subst e';exact PySem.W.truthy_bytes (by omega) ⟨H,I.tok _,q⟩
 |ref p=>
  cases rx;have e':(∃xs,SqL X.K H p xs/\k=!xs.isEmpty)∨(∃xs,SqT X.K H p xs/\k=!xs.isEmpty)∨∃kvs,H p=some (.dK kvs)/\k=!kvs.isEmpty:=e
  rcases e' with⟨xs,hx,e'⟩|⟨xs,hx,e'⟩|⟨kvs,hx,e'⟩
  ·subst e';obtain⟨its,r,pl,hz⟩:=I.list hx;have hlen:=r.length;exact wpAny_truthy_list pl.isList (by simp only[ar];omega) ⟨H,I.tok _,by rw[FV r];exact q⟩
  ·subst e';obtain⟨its,r,pl,hz⟩:=I.tuple hx;have hlen:=r.length;exact truthy_tuple pl (by simp only[ar];omega) ⟨H,I.tok _,by rw[FV r];exact q⟩
  ·subst e';obtain⟨hz,hS,vs,r,m⟩:kvs.length<=cj/\(p==sysModules)=false/\∃vs,KV kvs vs/\s.heap.DictOf (zF X.prog X.w) p vs:=I.hok p _ hx;have hlen:kvs.length=vs.length:=Paired.length r;exact wpAny_truthy_dict hS m (by omega) ⟨H,I.tok _,by rw[P9 r];exact q⟩
 |_=>exact(show False from e).elim
theorem QB (ha:PE X a ta) (he:∀whole,isTrue a X.env whole=(do let v <-whole;standAt a.pos;holding [v] (truthy v))):
  PT X a (λσ H Q=>ta σ H λx H'=>∃k,FU X.K x H' k/\Q k H'):=by
 intro pins s σ H Q I h;exact isTrue_plain (bD (ha pins s σ H _ I h) λv s1 ⟨x,H1,I1,r1,q1⟩=>QA pins s1 σ H1 x v Q I1 r1 q1) (he _)
theorem iL {x:V}{us:List af}(r:Vals [x] us):∃u,us=[u]/\RelV x u:=by
 cases r with
 |cons r1 r2=>cases r2;exact⟨_,rfl,r1⟩
theorem qP {x y:V}{us:List af}(r:Vals [x,y] us):∃u w',us=[u,w']/\RelV x u/\RelV y w':=by
 cases r with
 |cons r1 r2=>
  cases r2 with
  |cons r3 r4=>cases r4;exact⟨_,_,rfl,r1,r3⟩
theorem QC:CallR X (.builtin "abs") (λxs H Q=>∃i,xs=[.int i]/\Q (.int (if i<0 then -i else i)) H):=by intro pins s σ H xs us Q I r h;obtain⟨i,rfl,q⟩:=h;obtain⟨u,rfl,t,rfl⟩:=iL r;exact call_abs_int λu tk=>⟨.int (if i<0 then -i else i),H,I.tok _,⟨_,rfl⟩,q⟩
theorem QD (hc:X.calm=true):CallR X (.builtin "max") (λxs H Q=>∃i j,xs=[.int i,.int j]/\Q (.int (if j>i then j else i)) H):=by
 intro pins s σ H xs us Q I r h;obtain⟨i,j,rfl,q⟩:=h;obtain⟨u,w',rfl,⟨t,rfl⟩,⟨t',rfl⟩⟩:=qP r;refine max_two_ints (I.ok.hd hc) λh' tk k=>⟨_,H,I.kept k, ?_,q⟩
 by_cases hj:j>i
 ·rw[if_pos hj,if_pos hj];exact⟨_,rfl⟩
 ·rw[if_neg hj,if_neg hj];exact⟨_,rfl⟩
theorem QE (hc:X.calm=true):CallR X (.builtin "min") (λxs H Q=>∃i j,xs=[.int i,.int j]/\Q (.int (if j<i then j else i)) H):=by
 intro pins s σ H xs us Q I r h;obtain⟨i,j,rfl,q⟩:=h;obtain⟨u,w',rfl,⟨t,rfl⟩,⟨t',rfl⟩⟩:=qP r;refine min_two_ints (I.ok.hd hc) λh' tk k=>⟨_,H,I.kept k, ?_,q⟩
 by_cases hj:j<i
 ·rw[if_pos hj,if_pos hj];exact⟨_,rfl⟩
 ·rw[if_neg hj,if_neg hj];exact⟨_,rfl⟩
end
section
variable{prog:bo}{w:cw}{A:cx}{E:af->ag->Prop}{s:ag}{K:ao}{x dx C f:ah}{mA:Str->Option af}{name:Str}{v:af}
end
section
variable{P:bo}{w:cw}{H H':Hp}{h h':cz}{a C dx:ah}{fs fs':List (Str×V)}
end
section
variable{X:Cx}{pins:List (ah×Obj)}{σ:St}{H:Hp}{s:ag}{a C dx:ah}{fs:List (Str×V)}{f:Str}{v:V}{A:cx}{E:af->ag->Prop}
end
section
variable{X:Cx}{o e value:bp}{f:Str}{pos pos' tpos:Pos}{ta tv:TE}
end
section
variable{X:Cx}{pins:List (ah×Obj)}{σ:St}{H:Hp}{s:ag}{A:cx}{E:af->ag->Prop}{Q:af->ag->Prop}{c:af}{b:Bool}
end
structure Room (k:Nat) (A:cx):Prop where
 hd:A.handled=none
 dp:A.depth+3*k+5<recursionLimit
 un:A.units+16*k+200<cLine
theorem Room.mono {j k:Nat}{A:cx}(r:Room k A) (h:j<=k):Room j A:=⟨r.hd,by have:=r.dp;omega,by have:=r.un;omega⟩
theorem Room.deeper {k:Nat}{A:cx}(r:Room (k+1) A) (env:Env):Room k (A.deeper env):=⟨r.hd,by have:=r.dp;show A.depth+1+3*k+5<_;omega,by have:=r.un;show A.units+3+16*k+200<_;omega⟩
theorem Room.depth {k:Nat}{A:cx}(r:Room k A):A.depth<recursionLimit:=by have:=r.dp;omega
theorem Room.units {k:Nat}{A:cx}(r:Room k A):A.units+64<cLine:=by have:=r.un;omega
def FW:TA:=λ_ H Q=>Q [] H
def FX (ta:TE) (tr:TA):TA:=λσ H Q=>ta σ H λx H1=>tr σ H1 λxs H2=>Q (x::xs) H2
section
variable{X:Cx}{e:bp}{es:List bp}{te:TE}{t:TA}{pos:Pos}
theorem jA:PA X [] FW:=λ_ _ _ _ H Q I h=>Calls.spliced_nil ⟨[],H,I,.nil,h⟩
theorem gW (ha:PE X e te) (hr:PA X es t) (hs:au (e::es) X.env=(false,eval e X.env)::au es X.env:=by rfl):PA X (e::es) (FX te t):=by intro pos pins s σ H Q I h;rw[hs];show wpAny _ _ (spliced ((false,eval e X.env)::backTo pos (au es X.env))) _ _ s;refine Calls.spliced_cons (bD (ha pins s σ H _ I h) λu s1 ⟨x,H1,I1,r1,q1⟩=>?_);exact bD (hr pos pins s1 σ H1 _ I1 q1) λus s2 ⟨xs,H2,I2,r2,q2⟩=>⟨x::xs,H2,I2,.cons r1 r2,q2⟩
def QF (t:TA):TE:=λσ H Q=>t σ H λxs H1=>xs.length<=cj/\∀p,H1 p=none->Q (.ref p) (aW H1 p (.tup xs))
def QG (t:TA):TE:=λσ H Q=>t σ H λxs H1=>xs.length<=cj/\∀p,H1 p=none->Q (.ref p) (aW H1 p (.lst xs))
theorem FY {x1} (h:PA X es t):PE X (.Tuple es x1 pos) (QF t):=by intro pins s σ H Q I hq;refine wpAny_Tuple_spliced (bD (h pos pins s σ H _ I hq) λus s1 ⟨xs,H1,I1,r,z,q⟩=>⟨by rw[<-r.length];exact z, ?_⟩);have hf:H1 s1.heap.objs.size=none:=I1.hok.fresh (aj _);refine⟨.ref s1.heap.objs.size,aW H1 s1.heap.objs.size (.tup xs),I1.laid (t':=s1.toks) (λb u e=>ak _ e) (aj _) ?_,rfl,q _ hf⟩;exact⟨z,us,r,⟨_,bc _ rfl,rfl,rfl,_,rfl⟩⟩
theorem QH (h:PA X es t):PE X (.List es pos) (QG t):=by intro pins s σ H Q I hq;refine wpAny_List_spliced (bD (h pos pins s σ H _ I hq) λus s1 ⟨xs,H1,I1,r,z,q⟩=>⟨by rw[<-r.length];exact z, ?_⟩);have hf:H1 s1.heap.objs.size=none:=I1.hok.fresh (aj _);refine⟨.ref s1.heap.objs.size,aW H1 s1.heap.objs.size (.lst xs),I1.laid (t':=s1.toks) (λb u e=>ak _ e) (aj _) ?_,rfl,q _ hf⟩;exact⟨z,us,0,r,bc _ rfl⟩
end
abbrev Sp:=List V->Hp->VK->XK->Prop
abbrev lM:=List Env->Hp->ag->XK->af->ag->Prop
structure Env0 (P:bo) (w:cw) (K:ao) (mg:Str->Option af) (base:cz) (A:cx) (outer:List Env) (s:ag) (H:Hp):Prop where
 frames:A.frames=some outer
 mod:Mod K mg base
 bs:∀b o,base.get? b=some o->s.heap.get? b=some o/\H b=none
 bsz:base.objs.size<=s.heap.objs.size
 funs:s.heap.FunFrames base outer
 frf:∀b∈dS outer,H b=none
 hok:HOk P w H s.heap
 bare:rj s.gens
def CE (outer:List Env) (P:bo) (w:cw) (H:Hp) (s:ag) (Q:VK) (u:af) (s':ag):Prop:=∃v H',s'.os=s.os/\rj s'.gens/\Un (dS outer) [] H H' s.heap s'.heap/\HOk P w H' s'.heap/\RelV v u/\Q v H'
def CR (CX:lM) (outer:List Env) (P:bo) (w:cw) (H:Hp) (s:ag) (Q:VK) (E:XK) (r:zw) (s':ag):Prop:=
 match r with
 | .ok (.ret u)=>CE outer P w H s Q u s'
 | .ok _=>False
 | .error e=>CX outer H s E e s'
structure FnOk (P:bo) (w:cw) (K:ao) (mg:Str->Option af) (base:cz) (CX:lM) (k:Nat) (f:ah) (fd:br) (ps:List Str) (sp:Sp):Prop where
 len:∀vs H Q E,sp vs H Q E->vs.length=ps.length
 run:∀(A:cx) (outer:List Env) (s:ag) (H:Hp) (args:Args) (us:List af) (vs:List V) (Q:VK) (E:XK),Room k A->Env0 P w K mg base A outer s H->BindsTo s fd args (ps.zip us)->Vals vs us->sp vs H Q E->
  codeAny (model P w) A (.call (.ref f) args) (CR CX outer P w H s Q E) s
section
variable{X:Cx}{pins:List (ah×Obj)}{σ:St}{H:Hp}{s s':ag}
theorem Inv.env0 (I:Inv X pins σ H s):Env0 X.prog X.w X.K X.mg X.base X.A X.stack s H:=⟨I.ok.frames,I.ok.mod,I.bs,cq I.ok.bsz I.sz,I.stack,I.stkFree,I.hok,I.bare⟩
theorem Inv.after {Q:VK}{u:af}(I:Inv X pins σ H s) (h:CE X.stack X.prog X.w H s Q u s'):EP X pins σ Q u s':=by obtain⟨v,H',os,bare,un,hok,r,q⟩:=h;obtain⟨hh,g,d,t,os'⟩:=s';obtain rfl:os'=s.os:=os;exact⟨v,H',I.call (h':=hh) (g':=g) (d':=d) (t':=t) (ch:=[]) un hok bare (λb z=>absurd z (by simp)),r,q⟩
end
def QI (sp:Sp) (dvs:List V) (E:XK) (t:TA):TE:=λσ H Q=>t σ H λvs H1=>sp (vs++dvs) H1 Q E
def Binds (K:ao) (fd:br) (ps:List Str) (ds:List af):Prop:=∀(s:ag) (us:List af),K.In s.heap->(us++ds).length=ps.length->BindsTo s fd ⟨us,[]⟩ (ps.zip (us++ds))
theorem Binds.all {K:ao}{fd:br}{ps:List Str}(h:∀us:List af,us.length=ps.length->bindArgs fd ⟨us,[]⟩=pure (ps.zip us)):Binds K fd ps []:=λs us _ hl=>by rw[jy]at hl ⊢;exact .of_eq (h us hl)
def zR (CX:lM) (X:Cx) (E:XK):Prop:=∀(pins:List (ah×Obj)) (σ:St) (H:Hp) (s:ag) (e:af) (s':ag),Inv X pins σ H s->CX X.stack H s E e s'->X.xe e s'
section
variable{X:Cx}{CX:lM}{k:Nat}{f C:ah}{fd:br}{ps:List Str}{sp:Sp}{dvs:List V}{ds:List af}{E:XK}{x m:Str}{p pos apos:Pos}{e o:bp}{es:List bp}{ta:TE}{t:TA}
theorem QJ {pins:List (ah×Obj)}{σ:St}{H:Hp}{s:ag}{Q:VK}{us:List af}{vs:List V}(F:FnOk X.prog X.w X.K X.mg X.base CX k f fd ps sp) (hr:Room k X.A) (hb:Binds X.K fd ps ds) (hd:Vals dvs ds) (hx:zR CX X E)
  (I:Inv X pins σ H s) (r:Vals vs us) (h:sp (vs++dvs) H Q E):wpAny (model X.prog X.w) X.A (call (.ref f) us) (EP X pins σ Q) X.xe s:=by
 have r2:Vals (vs++dvs) (us++ds):=r.append hd;have hl:(us++ds).length=ps.length:=by rw[<-r2.length];exact F.len _ _ _ _ h
 refine zx (nj (F.run X.A X.stack s H ⟨us,[]⟩ (us++ds) (vs++dvs) Q E hr I.env0 (hb s us I.kIn hl) r2 h) λr s' hq=>?_)
 cases r with
 |error e=>exact hx pins σ H s e s' I hq
 |ok fl=>
  cases fl with
  |ret u=>exact I.after hq
  |next=>exact gk hq
  |brk=>exact gk hq
  |cont=>exact gk hq
theorem QK (F:FnOk X.prog X.w X.K X.mg X.base CX k f fd ps sp) (hr:Room k X.A) (hg:Gl X x) (hm:X.mg x=some (.ref f)) (hk:lj X.K (.ref f)=true) (hb:Binds X.K fd ps ds) (hd:Vals dvs ds) (hx:zR CX X E)
  (ha:PA X (e::es) t) (hdb:(x==("__debug__" : Str))=false:=by decide) (he:au (e::es) X.env=(false,eval e X.env)::au es X.env:=by rfl) (hpl:(backTo pos (au es X.env)).any (·.1)=false:=by rfl):
  PE X (.Call (.Name x p) (e::es) [] pos) (QI sp dvs E t):=by
 intro pins s σ H Q I h;refine mq (qM I hg hm ?_ hdb);refine zy (h₀:=X.base) I.ok.mod.kin hk (bD (ha pos pins s σ H _ I h) λus s1 ⟨vs,H1,I1,r,q⟩=>⟨I1.kIn, ?_⟩) he hpl;exact QJ F hr hb hd hx I1 r q
end
section
variable{X:Cx}{CX:lM}{k:Nat}{f C:ah}{fd:br}{ps ks:List Str}{sp:Sp}{E:XK}{x m:Str}{p pos apos kpos:Pos}{e o:bp}{es:List bp}{kws:List Keyword}{te ta:TE}{t tk:TA}{nm:Option Str}
variable{g:List af->List af->List af}{gV:List V->List V->List V}
end
structure FnScope (N P:List Str) (sc:gy):Prop where
 kind:sc.kind=.function
 co:sc.isCoroutine=false
 gen:sc.isGenerator=false
 nd:N.Nodup
 pre:N.take P.length=P
 par:∀x∈P,sc.names.lookup x=some .local∨sc.names.lookup x=some .cell
 nofree:∀y∈sc.names,y.2≠.free
theorem FZ {kindOf:Str->Option jx}{x:Str}:∀{binds:List (Str×af)}{m:Str->Option af},(∀v,(x,v)∉binds)->bindL kindOf binds m x=m x
 | [],_,_=>rfl
 |(n,v)::r,m,h=>by
  unfold bindL;rw[FZ λw hw=>h w (ax _ hw)]
  split
  ·have:x≠n:=by rintro rfl;exact h v bh
   simp[this]
  ·rfl
theorem F0 {kindOf:Str->Option jx}{x:Str}:∀{binds:List (Str×af)}{m:Str->Option af},(∀v,(x,v)∉binds)->bindC kindOf binds m x=m x
 | [],_,_=>rfl
 |(n,v)::r,m,h=>by
  unfold bindC;rw[F0 λw hw=>h w (ax _ hw)]
  split
  ·rfl
  ·have:x≠n:=by rintro rfl;exact h v bh
   simp[this]
theorem F1 {kindOf:Str->Option jx}{x:Str}{v:af}:∀{P:List Str}{vs:List af}{i:Nat}{m:Str->Option af},P.Nodup->P[i]?=some x->vs[i]?=some v->kindOf x=some .local->
  bindL kindOf (P.zip vs) m x=some v
 | [],_,_,_,_,h,_,_=>by simp at h
 |_::_,[],_,_,_,_,h,_=>by simp at h
 |p::P,w::vs,0,m,nd,h1,h2,hk=>by simp at h1 h2;subst h1;subst h2;show bindL kindOf ((p,w)::P.zip vs) m p=_;unfold bindL;rw[FZ λv hv=>(jz.mp nd).1 (vn hv).1,if_pos hk];simp
 |p::P,w::vs,i+1,m,nd,h1,h2,hk=>by show bindL kindOf ((p,w)::P.zip vs) m x=_;unfold bindL;exact F1 (i:=i) (jz.mp nd).2 (by simpa using h1) (by simpa using h2) hk
theorem F2 {kindOf:Str->Option jx}{x:Str}{v:af}:∀{P:List Str}{vs:List af}{i:Nat}{m:Str->Option af},P.Nodup->P[i]?=some x->vs[i]?=some v->kindOf x≠some .local->
  bindC kindOf (P.zip vs) m x=some v
 | [],_,_,_,_,h,_,_=>by simp at h
 |_::_,[],_,_,_,_,h,_=>by simp at h
 |p::P,w::vs,0,m,nd,h1,h2,hk=>by simp at h1 h2;subst h1;subst h2;show bindC kindOf ((p,w)::P.zip vs) m p=_;unfold bindC;rw[F0 λv hv=>(jz.mp nd).1 (vn hv).1,if_neg hk];simp
 |p::P,w::vs,i+1,m,nd,h1,h2,hk=>by show bindC kindOf ((p,w)::P.zip vs) m x=_;unfold bindC;exact F2 (i:=i) (jz.mp nd).2 (by simpa using h1) (by simpa using h2) hk
def start (N:List Str) (vs:List V):St:=vs.map some++ba (N.length - vs.length) none
def fS (CX:lM) (P:bo) (w:cw) (K:ao) (mg:Str->Option af) (base:cz) (N:List Str) (qual:Str) (scope:gy) (f:ah) (cd:af) (A:cx) (outer:List Env) (s:ag) (H:Hp) (E:XK):Cx where
 prog:=P
 w:=w
 K:=K
 mg:=mg
 base:=base
 A:=A.deeper (envOfC qual scope s.heap.objs.size f cd)
 N:=N
 s₀:=s
 H₀:=H
 env:=envOfC qual scope s.heap.objs.size f cd
 outer:=outer
 stack:=envOfC qual scope s.heap.objs.size f cd::outer
 ex:=[]
 calm:=true
 fn:=λ_=>true
 pn:=[]
 xe:=λe s'=>wpAny (model P w) (A.deeper (envOfC qual scope s.heap.objs.size f cd)) (leaving (envOfC qual scope s.heap.objs.size f cd) e) (λ_ s''=>CX outer H s E e s'') (λe' s''=>CX outer H s E e' s'') s'
theorem F3 {sc:gy}{n:Nat}{x:Str}(h:sc.names.lookup x=some .cell):∃c,(cellsFrom n sc.names []).lookup x=some c:=by have q:=xq sc.names n [] (.inl h);exact wj.mp q
theorem QL {CX:lM}{P:bo}{w:cw}{K:ao}{mg:Str->Option af}{base:cz}{N ps:List Str}{qual:Str}{scope:gy}{f:ah}{cd:af}{A:cx}{outer:List Env}{s s1:ag}{H:Hp}{E:XK}{us:List af}{vs:List V}
  (S:FnScope N ps scope) (hd:A.handled=none) (e0:Env0 P w K mg base A outer s H) (hl:vs.length=ps.length) (r:Vals vs us)
  (x:InCallC s s.heap.objs.size (bindL (envOfC qual scope s.heap.objs.size f cd).kindOf (ps.zip us) λ_=>none) (cellsFrom (s.heap.objs.size+1) scope.names []) (bindC (envOfC qual scope s.heap.objs.size f cd).kindOf (ps.zip us) λ_=>none) s1):
  Inv (fS CX P w K mg base N qual scope f cd A outer s H E) [] (start N vs) H s1:=by
 have hpl:ps.length<=N.length:=by have:=congrArg qc S.pre;rw[jq]at this;omega
 obtain⟨h1,tk,rfl,hk⟩:=x.done;have noA:∀b:ah,b∉(fS CX P w K mg base N qual scope f cd A outer s H E).ex:=λb z=>absurd (show b∈([]:List ah) from z) (by simp);refine⟨⟨e0.mod,S.kind,rfl,rfl,aj _,λy z c h1 h2=>?_,λy hy=>?_,λy c _ h=>?_,λ_=>hd,zo e0.frames,.inr ⟨rfl,rfl⟩,λb z=>absurd z (noA b),e0.bs,e0.bsz,λb _ _=>noA b,λb z=>absurd z (noA b),e0.funs,e0.frf⟩,
  rfl,e0.bare,Un.kept hk,⟨_,x.toInCall.ns,λi y v h1 h2 h3=>?_⟩,λy c h=>⟨_,x.cell y c h⟩,e0.hok.fresh (aj _),λy c h=>?_,λp hp=>absurd (show p∈([]:List (ah×Obj)) from hp) (by simp),e0.hok.kept hk, ?_⟩
 ·exact name_of_addr x.apart (fg h1) (fg h2)
 ·have hy:scope.names.lookup y=some .cell∨scope.names.lookup y=some .free:=hy
  rcases hy with hy|hy
  ·exact F3 hy
  ·exact absurd rfl (S.nofree _ (fg hy))
 ·exact gu (x.above y c (fg h))
 ·have hi:i<vs.length:=by
   unfold start at h2
   by_cases hi:i<vs.length
   ·exact hi
   ·rw[gb (by simpa using hi)]at h2;rw[qu]at h2
    split at h2 <;> cases h2
  have ha:vs[i]?=some v:=by
   unfold start at h2;rw[dz (by simpa using hi),dk]at h2
   cases e:vs[i]? with
   |none=>rw[e]at h2;cases h2
   |some a=>rw[e]at h2;cases h2;rfl
  obtain⟨u,hu,rv⟩:=r.get ha;have hp:ps[i]?=some y:=by rw[<-S.pre,yx (by omega)];exact h1
  have ndP:ps.Nodup:=by rw[<-S.pre];exact S.nd.sublist (List.take_sublist _ _)
  refine⟨u,rv, ?_⟩
  rcases S.par y (bz hp)with k|k
  ·exact .inl ⟨k,F1 ndP hp hu k⟩
  ·obtain⟨c,e⟩:=F3 (n:=s.heap.objs.size+1) k;refine .inr ⟨.inl k,c,e, ?_⟩;have q:=x.cell y c e;rw[F2 ndP hp hu (by show scope.names.lookup y≠_;rw[k];decide)]at q;exact q
 ·exact e0.hok.fresh (gu (x.above y c (fg h)))
 ·unfold start;show _=N.length;rw[bq,bj,List.length_replicate];omega
theorem zS {CX:lM}{P:bo}{w:cw}{K:ao}{mg:Str->Option af}{base:cz}{k:Nat}{f:ah}{name qual:Str}{params:kq}{body:List gp}{scope:gy}{dV kV doc pm cdv ct oc:af}{an od:Option ah}
  {osl:Array (Option af)}{N ps:List Str}{sp:Sp}(lk:K.lookup f=some ⟨oc,od,.func (og name qual params body scope dV kV doc pm an cdv ct),osl⟩) (hcd:vj K cdv qual=true) (S:FnScope N ps scope)
  (len:∀vs H Q E,sp vs H Q E->vs.length=ps.length)
  (hbody:∀(A:cx) (outer:List Env) (s:ag) (H:Hp) (vs:List V) (Q:VK) (E:XK),Room k (A.deeper (envOfC qual scope s.heap.objs.size f cdv))->sp vs H Q E->
   ∃t,PSs (fS CX P w K mg base N qual scope f cdv A outer s H E) body t/\t { nx:=λ_ H'=>Q .non H',rt:=Q } (start N vs) H):
  FnOk P w K mg base CX (k+1) f (og name qual params body scope dV kV doc pm an cdv ct) ps sp:=by
 refine⟨len,λA outer s H args us vs Q E hr e0 hb r hsp=>?_⟩;have hl:=len _ _ _ _ hsp;have KX:K.In s.heap:=e0.mod.kin.keeps λb o e=>(e0.bs b o e).1;have lim:s.heap.NoLimit:=e0.mod.nolimit.keeps λb o e=>(e0.bs b o e).1;have hkind:∀y∈ps.zip us,scope.names.lookup y.1=some .local∨(scope.names.lookup y.1=some .cell/\((cellsFrom (s.heap.objs.size+1) scope.names []).lookup y.1).isSome=true):=λ⟨n,v⟩ hy=>by
  rcases S.par n (vn hy).1 with q|q
  ·exact .inl q
  ·exact .inr ⟨q,xq _ _ _ (.inl q)⟩
 refine codeAny_call_function hr.depth (KX _ _ lk) rfl S.co S.gen rfl (PySem.W.codeRec_of KX hcd) (hb _ _ _ _ ?_);refine wpAny_newFunctionEnv_cells S.kind hkind λenv he s1 x=>?_;subst he;refine⟨lim.keeps x.toInCall.keep,codeAny_func ?_⟩;obtain⟨t,ht,hq⟩:=hbody A outer s H vs Q E (hr.deeper _) hsp;have I:Inv (fS CX P w K mg base N qual scope f cdv A outer s H E) [] (start N vs) H s1:=QL S hr.hd e0 hl r x;refine kg (ht [] s1 (start N vs) H _ I hq) (λfl s' hs=>?_) λe s' hs=>hs;have fin:∀{σ':St}{H':Hp}{v:V}{u:af},Inv (fS CX P w K mg base N qual scope f cdv A outer s H E) [] σ' H' s'->RelV v u->Q v H'->CE outer P w H s Q u s':=λ{σ' H' v u} J rv q=>⟨v,H',J.os,J.bare,J.base,J.hok,rv,q⟩
 cases fl with
 |ret u=>obtain⟨v,σ',H',J,rv,q⟩:=hs;exact fin J rv q
 |next=>obtain⟨σ',H',J,q⟩:=hs;exact fin (v:=V.non) (u:=jh) J rfl q
 |brk=>obtain⟨_,_,_,q⟩:=hs;exact gk q
 |cont=>obtain⟨_,_,_,q⟩:=hs;exact gk q
section
variable{X:Cx}{x:Str}{p pos:Pos}{e:bp}{es:List bp}{t:TA}{id T:String}{r:List V->Hp->VK->Prop}
def uO (r:List V->Hp->VK->Prop) (t:TA):TE:=λσ H Q=>t σ H λvs H1=>r vs H1 Q
theorem qQ (hc:CallR X (.builtin id) r) (hg:Gl X x) (hm:X.mg x=none) (hv:df x=some (.builtin id)) (ha:PA X (e::es) t) (hn:x ≠ "__name__" := by decide) (hdb:(x==("__debug__" : Str))=false:=by decide)
  (he:au (e::es) X.env=(false,eval e X.env)::au es X.env:=by rfl) (hpl:(backTo pos (au es X.env)).any (·.1)=false:=by rfl):PE X (.Call (.Name x p) (e::es) [] pos) (uO r t):=by
 intro pins s σ H Q I h;refine mq (nL I hg hm hv ?_ hn hdb);exact PyProof.Rows.callWith_builtin1 (bD (ha pos pins s σ H _ I h) λus s1 ⟨vs,H1,I1,r1,q1⟩=>hc pins s1 σ H1 vs us Q I1 r1 q1) he hpl
theorem qR (hc:CallR X (.type T) r) (hg:Gl X x) (hm:X.mg x=none) (hv:df x=some (.type T)) (ha:PA X (e::es) t) (hn:x ≠ "__name__" := by decide) (hdb:(x==("__debug__" : Str))=false:=by decide)
  (he:au (e::es) X.env=(false,eval e X.env)::au es X.env:=by rfl) (hpl:(backTo pos (au es X.env)).any (·.1)=false:=by rfl):PE X (.Call (.Name x p) (e::es) [] pos) (uO r t):=by
 intro pins s σ H Q I h;refine mq (nL I hg hm hv ?_ hn hdb);exact iq (bD (ha pos pins s σ H _ I h) λus s1 ⟨vs,H1,I1,r1,q1⟩=>hc pins s1 σ H1 vs us Q I1 r1 q1) he hpl
end
end L2
namespace HT
open PySem PyProof.Rows
def lexLt:List Int->List Int->Bool
 | [],[]=>false
 | [],_::_=>true
 |_::_,[]=>false
 |x::xs,y::ys=>if x=y then lexLt xs ys else decide (x<y)
theorem lexLt_cons (x y:Int) (xs ys:List Int):lexLt (x::xs) (y::ys)=if x=y then lexLt xs ys else decide (x<y):=rfl
theorem QM:lexLt [] []=false:=rfl
theorem QN (y:Int) (ys:List Int):lexLt [] (y::ys)=true:=rfl
theorem QO (x:Int) (xs:List Int):lexLt (x::xs) []=false:=rfl
theorem QP (A:cx) (s:ag) (a:Int) (t:Tok) (c:Int) (u:Tok):∃e,uc A s (.int a t) (.int c u) e/\(e=true↔a=c):=⟨(a==c),sr a t c u,by simp⟩
theorem QQ (A:cx) (s:ag) (a:Int) (t:Tok) (c:Int) (u:Tok) (prog:bo) (w:cw) (E:af->ag->Prop) (Q:af->ag->Prop) (h:Q (.bool (decide (a<c))) s):
  wpAny (model prog w) A (richCompare .Lt (.int a t) (.int c u)) Q E s:=
 (vv h:wpAny (model prog w) A (compareOp .Lt (.int a t) (.int c u)) Q E s)
section
open PySem.SeqAt
open PySem.AutoSeq1 (wpAny_loadPart')
open PySem.MeetsSeq PySem.MeetsSeq2 PySem.MeetsSeq3
theorem QR (l b:ah) (items items2:Array af) (n n2:Nat) (dd dd2:Option ah) (sl sl2:Array (Option af)) (ns ms:List Int) (hi:md items.toList ns) (hj:md items2.toList ms):
  Meets (mf.«tuple.__lt__» ⟨[.ref l,.ref b],[]⟩)
   (λ_ R s=>s.heap.get? l=some { cls:=.type "tuple",dict:=dd,data:=.seq items n,slots:=sl }/\s.heap.get? b=some { cls:=.type "tuple",dict:=dd2,data:=.seq items2 n2,slots:=sl2 } /\
    R (.ok (.ret (.bool (lexLt ns ms)))) s):=
 .of_wp λprog w A R s h=>by
  obtain⟨hp,g,d,tk,os⟩:=s;obtain⟨hl,hb,h⟩:=h;have f2:=AutoSeq1.sub_tuple_tuple;have z1:items.size=ns.length:=by rw[<-hi.length];simp
  have z2:items2.size=ms.length:=by rw[<-hj.length];simp
  wp_walk using wpAny_loadPart' hl,wpAny_loadPart' hb,sy _ (λrest b s'=>b.1=none/\s'=⟨hp,g,d,tk,os⟩/\∃(vs ws:List af) (ns' ms':List Int),rest=vs.zip ws /\
   md vs ns'/\md ws ms'/\ns'.length+items2.size=ms'.length+items.size/\R (.ok (.ret (.bool (lexLt ns' ms')))) ⟨hp,g,d,tk,os⟩) _
  case turn=>
   rintro ⟨y,x⟩ rest b s' ⟨hb',rfl,vs,ws,ns',ms',hz,hvi,hwi,hlen,hR⟩
   cases hvi with
   |nil=>rw[List.zip_nil_left]at hz;cases hz
   |cons a t hvi'=>
    cases hwi with
    |nil=>rw[List.zip_nil_right]at hz;cases hz
    |cons c u hwi'=>
     rw[List.zip_cons_cons]at hz;injection hz with hyx hrest;injection hyx with hy hx;subst hy hx;rw[lexLt_cons]at hR;simp only[cg]at hlen;obtain⟨e,he,hiff⟩:=QP A.in1 ⟨hp,g,d,tk,os⟩ a t c u;refine aa (he prog w _ _ ?_)
     cases e with
     |true=>
      rw[if_pos (hiff.mp rfl)]at hR
      wp_walk
      exact⟨rfl,rfl,_,_,_,_,hrest,hvi',hwi',by omega,hR⟩
     |false=>
      rw[if_neg (λq=>absurd (hiff.mpr q) fz)]at hR;have hri:=QQ A.in1 ⟨hp,g,d,tk,os⟩ a t c u prog w
      wp_walk using hri
      exact⟨_,rfl,by simpa using hR⟩
  case fin=>
   rintro ⟨b1,b2⟩ s' ⟨hb',rfl,vs,ws,ns',ms',hz,hvi,hwi,hlen,hR⟩
   simp only at hb';subst hb';have hv:lexLt ns' ms'=decide (items.size<items2.size):=by
    cases hvi with
    |nil=>
     cases hwi with
     |nil=>simp only[oh]at hlen;rw[QM];exact(decide_eq_false (by omega)).symm
     |cons c u hw=>simp only[oh,cg]at hlen;rw[QN];exact(decide_eq_true (by omega)).symm
    |cons a t hv=>
     cases hwi with
     |nil=>simp only[oh,cg]at hlen;rw[QO];exact(decide_eq_false (by omega)).symm
     |cons c u hw=>rw[List.zip_cons_cons]at hz;cases hz
   rw[hv]at hR
   wp_walk
   exact⟨_,rfl,by simpa[Builtin.Tuple.tupleCompareSizes]using hR⟩
  case h=>exact⟨rfl,rfl,items.toList,items2.toList,ns,ms,rfl,hi,hj,by omega,h⟩
end
section
variable{prog:bo}{w:cw}{A:cx}{E:af->ag->Prop}{s:ag}
theorem lt_tupInts {l b:ah}{items items2:Array af}{ns ms:List Int}{Q:af->ag->Prop}(hl:IsTup s.heap l items) (hb:IsTup s.heap b items2) (hi:md items.toList ns) (hj:md items2.toList ms)
  (hu:A.units<cLine) (h:Q (.bool (lexLt ns ms)) s):wpAny (model prog w) A (compareOp .Lt (.ref l) (.ref b)) Q E s:=by
 obtain⟨⟨cls,dd,data,sl⟩,ho,hc,n,hd⟩:=id hl;obtain⟨⟨cls2,dd2,data2,sl2⟩,ho2,hc2,n2,hd2⟩:=id hb;simp only at hc hd hc2 hd2;subst hc hd hc2 hd2;exact richCompare_meets_room (op:=.Lt) ⟨_,ho,rfl⟩ ⟨_,ho2,rfl⟩ PySem.F.slot_tuple_lt PySem.F.entry_tuple_lt (PySem.F.args_tuple_lt_2 _ _) (QR l b items items2 n n2 dd dd2 sl sl2 ns ms hi hj)
  ⟨ho,ho2,show Ap (lexLt ns ms)≠Value.notImplemented/\Q (.bool (lexLt ns ms)) s from⟨(λx=>nomatch x),h⟩⟩ hu
theorem cat_tup {t b:ah}{vs ws:List af}{Q:af->ag->Prop}(ht:IsTup s.heap t vs.toArray) (hb:IsTup s.heap b ws.toArray) (hv:vs≠[])
  (h1:ws=[]->Q (.ref t) s) (h2:ws≠[]->Q (.ref s.heap.objs.size) { s with heap:=s.heap.push { cls:=.type "tuple",data:=.seq (vs++ws).toArray } })
  (hsz:vs.length+ws.length<=cj):wpAny (model prog w) A (binaryOp .Add (.ref t) (.ref b)) Q E s:=by
 obtain⟨⟨cls,dd,data,sl⟩,ho,hc,n,hd⟩:=id ht;obtain⟨⟨cls2,dd2,data2,sl2⟩,ho2,hc2,n2,hd2⟩:=id hb;simp only at hc hd hc2 hd2;subst hc hd hc2 hd2;have e:vs.toArray++ws.toArray=(vs++ws).toArray:=by simp
 by_cases hw:ws=[]
 ·exact concat_meets ⟨_,ho,rfl⟩ ⟨_,ho2,rfl⟩ xr As qr qd (pg _ _)
   (tuple_addW1 t b vs.toArray ws.toArray n n2 dd dd2 sl sl2 (by simpa using hv) (by simp[hw])) ⟨ho,ho2,h1 hw⟩
 ·refine concat_meets ⟨_,ho,rfl⟩ ⟨_,ho2,rfl⟩ xr As qr qd (pg _ _)
   (tuple_addW2 t b vs.toArray ws.toArray n n2 dd dd2 sl sl2 (by simpa using hv) (by simpa using hw) (by rw[ar,ar];exact hsz)) ⟨ho,ho2, ?_⟩
  rw[e];exact h2 hw
def sIx (n d:Nat):Option Int->Nat
 |none=>d
 |some v=>if v<0 then(v+(n:Int)).toNat else min v.toNat n
theorem sIx_none (n d:Nat):sIx n d none=d:=rfl
theorem sIx_nat (n d k:Nat):sIx n d (some (k:Int))=min k n:=by show(if(k:Int)<0 then((k:Int)+(n:Int)).toNat else min (k:Int).toNat n)=min k n;rw[if_neg (by omega),fe]
theorem QS (n d:Nat) (hd:d<=n) (o:Option Int):sIx n d o<=n:=by
 cases o with
 |none=>exact hd
 |some v=>
  show(if v<0 then(v+(n:Int)).toNat else min v.toNat n)<=n
  by_cases hv:v<0
  ·rw[if_pos hv];omega
  ·rw[if_neg hv];exact Nat.min_le_right _ _
theorem F5 (v:Int) (n d:Nat):(if v<0 then max (v+(n:Int)) 0 else min v (n:Int))=((sIx n d (some v):Nat):Int):=by
 show(if v<0 then max (v+(n:Int)) 0 else min v (n:Int))=(((if v<0 then(v+(n:Int)).toNat else min v.toNat n):Nat):Int)
 by_cases hv:v<0
 ·simp only[if_pos hv];omega
 ·simp only[if_neg hv];omega
theorem QT (lo hi:Option Int) (n:Nat):nq lo hi 1 (n:Int)=(((sIx n 0 lo:Nat):Int),((sIx n n hi:Nat):Int)):=by
 have h1:¬ ((1:Int)<0):=by omega
 unfold nq;simp only[h1,if_false];refine Aj ?_ ?_
 ·cases lo with
  |none=>rfl
  |some v=>exact F5 v n 0
 ·cases hi with
  |none=>rfl
  |some v=>exact F5 v n n
theorem QU (i j:Nat):ka (i:Int) (j:Int) 1=j - i:=by
 unfold ka;have h1:(1:Int)>0:=by omega
 simp only[h1,if_true,Int.ediv_one]
 split <;> omega
theorem F6 {v:af}{o:Option Int}{Q:Option Int->ag->Prop}(p:ui v o) (h:Q o s):wpAny (model prog w) A (Builtin.Slice.slicePartIndex v) Q E s:=by
 cases p with
 |none=>exact slicePart_none h
 |int i t=>exact slicePart_int h
theorem sliceApplied_gen {sl:ah}{vl vu:af}{lo hi:Option Int}{n:Nat}{Q:Int×Int×Nat->ag->Prop}(hs:s.heap.IsSliceOf sl vl vu .none) (pl:ui vl lo) (pu:ui vu hi)
  (h:Q (((sIx n 0 lo:Nat):Int),1,sIx n n hi - sIx n 0 lo) s):wpAny (model prog w) A (ud (.ref sl) (pure (n:Int))) Q E s:=by
 obtain⟨os,hos,hcs,hds⟩:=id hs;unfold ud Builtin.Slice.sliceFields;refine aa (aa (fq hos hds (x:=vl) rfl (aa (fq hos hds (x:=vu) rfl (aa (fq hos hds (x:=.none) rfl (ai ?_)))))));refine aa (slicePart_none ?_);show wpAny _ _ (if((1:Int)==0)=true then _ else _) _ _ s;rw[if_neg (by decide)];refine aa (F6 pl (aa (F6 pu (aa (ai ?_)))));show wpAny _ _ (match nq lo hi 1 (n:Int)with|(lo,hi)=>pure (lo,(1:Int),ka lo hi 1)) _ _ s;rw[QT lo hi n];show wpAny _ _ (pure (((sIx n 0 lo:Nat):Int),(1:Int),ka ((sIx n 0 lo:Nat):Int) ((sIx n n hi:Nat):Int) 1)) _ _ s;rw[QU];exact ai h
theorem QV (xs:Array af) (i k:Nat):((ay k).filterMap λ(m:Nat)=>xs[((i:Int)+(m:Int)*1).toNat]?).toArray=((xs.toList.drop i).take k).toArray:=by
 have e:(λ(m:Nat)=>xs[((i:Int)+(m:Int)*1).toNat]?)=λm=>xs[i+m]?:=by
  funext m
  have:((i:Int)+(m:Int)*1).toNat=i+m:=by omega
  rw[this]
 rw[e];have:=pick_run xs i k;rw[List.filterMap_map]at this;have e2:((λx=>xs[x]?)∘λx=>i+x)=λm=>xs[i+m]?:=rfl;rw[e2]at this;rw[this]
theorem getItem_tuple_cut {t sl:ah}{items:Array af}{vl vu:af}{lo hi:Option Int}{Q:af->ag->Prop}(ht:IsTup s.heap t items) (hs:s.heap.IsSliceOf sl vl vu .none) (pl:ui vl lo) (pu:ui vu hi)
  (hw:¬ (sIx items.size 0 lo=0/\sIx items.size items.size hi=items.size))
  (h:Q (.ref s.heap.objs.size) { s with heap:=s.heap.push { cls:=.type "tuple",data:=.seq ((items.toList.drop (sIx items.size 0 lo)).take (sIx items.size items.size hi - sIx items.size 0 lo)).toArray } })
  (hsz:items.size<=cj):wpAny (model prog w) A (getItem (.ref t) (.ref sl)) Q E s:=by
 have htake:sizeOk (.seq ((items.toList.drop (sIx items.size 0 lo)).take (sIx items.size items.size hi - sIx items.size 0 lo)).toArray):=by show((items.toList.drop (sIx items.size 0 lo)).take (sIx items.size items.size hi - sIx items.size 0 lo)).toArray.size<=cj;rw[ar,jq,nc,kz];omega
 have hj:sIx items.size items.size hi<=items.size:=QS _ _ (aj _) hi;obtain⟨os,hos,hcs,hds⟩:=id hs;have hTs:s.TypeIs (.ref sl) "slice" := ⟨os,hos,hcs⟩;unfold getItem
 try with_reducible refine gv ?_
 first|refine aa (ai ?_)|skip
 refine aa (wpAny_sequenceKey ht.typeIs (by decide) ?_);refine aa (gi (name:=lb "__getitem__") ht.typeIs fv
  (gm fv ht.typeIs entry_tuple_getitem ?_ (args_tuple_getitem _ _)))
 show wpAny _ _ (Builtin.Tuple.tupleItemsOf (.ref t) >>= _) _ _ s;refine aa (tupleItemsOf_ ht ?_);refine aa (qe hTs ?_);rw[if_pos (by decide)];refine aa (sliceApplied_gen hs pl pu ?_);have hno:¬ ((((sIx items.size 0 lo:Nat):Int)==0&&(1:Int)==1&&(sIx items.size items.size hi - sIx items.size 0 lo)==items.size)=true):=by intro q;rw[dj,dj]at q;have q1:((sIx items.size 0 lo:Nat):Int)=0:=eq_of_beq q.1.1;have q2:sIx items.size items.size hi - sIx items.size 0 lo=items.size:=eq_of_beq q.2;exact hw ⟨by omega,by omega⟩
 show wpAny _ _ (if(((sIx items.size 0 lo:Nat):Int)==0&&(1:Int)==1&&(sIx items.size items.size hi - sIx items.size 0 lo)==items.size)=true then _ else _) _ _ s;rw[if_neg hno,QV]
 first
  |exact aa (m:=kh _) (fy (ai ⟨_,rfl,ai h⟩) htake)
  |exact aa (m:=kh _) (fy (aa (ai (ai ⟨_,rfl,ai h⟩))) htake)
  |exact aa (aa (m:=kh _) (fy (ai (ai ⟨_,rfl,ai h⟩)) htake))
  |exact aa (aa (m:=kh _) (fy (ai ⟨_,rfl,ai h⟩) htake))
end
end HT
namespace L2
open PySem PySem.Spec PyProof.Rows
abbrev TO:=St->Hp->(Option Int->Hp->Prop)->Prop
def PO (X:Cx) (e:Option bp) (t:TO):Prop:=
 ∀(pins:List (ah×Obj)) (s:ag) (σ:St) (H:Hp) (Q:Option Int->Hp->Prop),Inv X pins σ H s->t σ H Q->
  wpAny (model X.prog X.w) X.A (evalPart e X.env) (λu s'=>∃o H',Inv X pins σ H' s'/\ui u o/\Q o H') X.xe s
def QW:TO:=λ_ H Q=>Q none H
def QX (t:TE):TO:=λσ H Q=>t σ H λx H1=>∃i,x=.int i/\Q (some i) H1
theorem F7 {ns:List Int}:∀{us:List af},Vals (ns.map V.int) us->md us ns:=by
 induction ns with
 |nil=>intro us r;rw[List.map_nil]at r;cases r;exact .nil
 |cons n ns ih=>
  intro us r;rw[dg]at r
  cases r with
  |cons r1 r2=>obtain⟨t,e⟩:=r1;subst e;exact .cons n t (ih r2)
section
variable{X:Cx}{e:bp}{te:TE}{lo hi:Option bp}{tl th:TO}{pos p2:Pos}
theorem QY:PO X none QW:=by intro pins s σ H Q I h;rw[evalPart_none];exact ai ⟨none,H,I,.none,h⟩
theorem QZ (h:PE X e te):PO X (some e) (QX te):=by intro pins s σ H Q I hw;rw[evalPart_some];refine bD (h pins s σ H _ I hw) λu s1 ⟨x,H1,I1,r1,q1⟩=>?_;obtain⟨i,rfl,q⟩:=q1;obtain⟨t,rfl⟩:=r1;exact⟨some i,H1,I1,.int i t,q⟩
def SlR (X:Cx) (r:V->Option Int->Option Int->Hp->VK->Prop):Prop:=
 ∀(pins:List (ah×Obj)) (s:ag) (σ:St) (H:Hp) (x:V) (v vl vu:af) (lo hi:Option Int) (sl:ah) (Q:VK),Inv X pins σ H s->RelV x v->s.heap.IsSliceOf sl vl vu .none->ui vl lo->ui vu hi->r x lo hi H Q->
  ∃T id,typeLookup (.type T) "__getitem__" = pure (some (.builtin id))/\s.TypeIs v T/\wpAny (model X.prog X.w) X.A (getItem v (.ref sl)) (EP X pins σ Q) X.xe s
theorem SlR.or {r r':V->Option Int->Option Int->Hp->VK->Prop}(h:SlR X r) (h':SlR X r'):SlR X (λx lo hi H Q=>r x lo hi H Q∨r' x lo hi H Q):=by
 intro pins s σ H x v vl vu lo hi sl Q I rx hs pl pu q
 rcases q with q|q
 ·exact h pins s σ H x v vl vu lo hi sl Q I rx hs pl pu q
 ·exact h' pins s σ H x v vl vu lo hi sl Q I rx hs pl pu q
def Q0 (r:V->Option Int->Option Int->Hp->VK->Prop) (te:TE) (tl th:TO):TE:=λσ H Q=>te σ H λx H1=>tl σ H1 λl H2=>th σ H2 λu H3=>r x l u H3 Q
theorem Q2 {r:V->Option Int->Option Int->Hp->VK->Prop}(hr:SlR X r) (he:PE X e te) (hl:PO X lo tl) (hu:PO X hi th):PE X (.Subscript e (.Slice lo hi none p2) pos) (Q0 r te tl th):=by intro pins s σ H Q I h;refine Subscript_ (bD (he pins s σ H _ I h) λv s1 ⟨x,H1,I1,r1,q1⟩=>?_);refine wpAny_Slice (bD (hl pins s1 σ H1 _ I1 q1) λvl s2 ⟨l,H2,I2,pl,q2⟩=>bD (hu pins s2 σ H2 _ I2 q2) λvu s3 ⟨u,H3,I3,pu,q3⟩=>?_);rw[evalPart_none];refine ai ?_;have I4:Inv X pins σ H3 { s3 with heap:=s3.heap.push { cls:=.type "slice",data:=.fields #[vl,vu,.none] } }:=I3.kept (t':=s3.toks) λb ob q=>ak _ q;obtain⟨T,id,hT,ht,hg⟩:=hr pins { s3 with heap:=s3.heap.push { cls:=.type "slice",data:=.fields #[vl,vu,.none] } } σ H3 x v vl vu l u s3.heap.objs.size Q I4 r1 (Heap.IsSliceOf.new ..) pl pu q3;show wpAny (model X.prog X.w) X.A (subscriptTail e (.Slice lo hi none p2) v (.ref s3.heap.objs.size)) (EP X pins σ Q) X.xe { s3 with heap:=s3.heap.push { cls:=.type "slice",data:=.fields #[vl,vu,.none] } };exact tail_any (ops:=[.ref s3.heap.objs.size,v]) ht hT hg (by with_unfolding_all rfl)
def mG (xs:List V) (lo hi:Option Int):List V:=(xs.drop (HT.sIx xs.length 0 lo)).take (HT.sIx xs.length xs.length hi - HT.sIx xs.length 0 lo)
theorem F8 (xs:List V) (lo hi:Option Int):(mG xs lo hi).length<=xs.length:=by unfold mG;rw[jq,nc];omega
def Q3 (K:ao):V->Option Int->Option Int->Hp->VK->Prop:=λx lo hi H Q=>∃a xs,x=.ref a/\SqT K H a xs /\
 ¬ (HT.sIx xs.length 0 lo=0/\HT.sIx xs.length xs.length hi=xs.length)/\∀p,H p=none->Q (.ref p) (aW H p (.tup (mG xs lo hi)))
theorem Q4:SlR X (Q3 X.K):=by
 intro pins s σ H x v vl vu lo hi sl Q I rx hs pl pu h;obtain⟨a,xs,rfl,hx,hw,q⟩:=h;cases rx;obtain⟨its,r,ht,hz⟩:=I.tuple hx;have hlen:its.toArray.size=xs.length:=by rw[ar];exact r.length.symm
 refine⟨"tuple",_,fv.lookup,ht.typeIs, ?_⟩;refine HT.getItem_tuple_cut ht hs pl pu (by rw[hlen];exact hw) ?_ (by rw[hlen];exact hz);rw[hlen];refine⟨.ref s.heap.objs.size,_,I.laid (t':=s.toks) (o:=.tup (mG xs lo hi)) (λb ob q=>ak _ q) (aj _) ?_,rfl,q _ (I.hok.fresh (aj _))⟩;exact⟨cq (F8 xs lo hi) hz,_,(r.drop (HT.sIx xs.length 0 lo)).take (HT.sIx xs.length xs.length hi - HT.sIx xs.length 0 lo),IsTupX.new _ _⟩
def F9 (K:ao):R2:=λx y H Q=>∃a b ns ms,x=.ref a/\y=.ref b/\SqT K H a (ns.map V.int)/\SqT K H b (ms.map V.int)/\Q (.bl (HT.lexLt ns ms)) H
theorem GA (hu:X.A.units<cLine):OpR X (compareOp .Lt) (F9 X.K):=by intro pins s σ H x y v u Q I rx ry h;obtain⟨a,b,ns,ms,rfl,rfl,ha,hb,q⟩:=h;cases rx;cases ry;obtain⟨its,r1,p1,_⟩:=I.tuple ha;obtain⟨its2,r2,p2,_⟩:=I.tuple hb;have i1:md its.toArray.toList ns:=F7 r1;have i2:md its2.toArray.toList ms:=F7 r2;exact HT.lt_tupInts p1 p2 i1 i2 hu ⟨.bl (HT.lexLt ns ms),H,I,rfl,q⟩
def GB (K:ao):R2:=λx y H Q=>∃a b xs ys,x=.ref a/\y=.ref b/\SqT K H a xs/\SqT K H b ys/\xs≠[]/\xs.length+ys.length<=cj /\
 (ys=[]->Q (.ref a) H)/\(ys≠[]->∀p,H p=none->Q (.ref p) (aW H p (.tup (xs++ys))))
theorem Vals.nil_iff {xs:List V}{us:List af}(r:Vals xs us):us=[]↔xs=[]:=by
 cases r with
 |nil=>simp
 |cons _ _=>simp
theorem Q5:OpR X (binaryOp .Add) (GB X.K):=by intro pins s σ H x y v u Q I rx ry h;obtain⟨a,b,xs,ys,rfl,rfl,ha,hb,hx,hz,q1,q2⟩:=h;cases rx;cases ry;obtain⟨its,r1,p1,_⟩:=I.tuple ha;obtain⟨its2,r2,p2,_⟩:=I.tuple hb;refine HT.cat_tup p1 p2 (λz=>hx (r1.nil_iff.mp z)) (λz=>⟨.ref a,H,I,rfl,q1 (r2.nil_iff.mp z)⟩) (λz=>?_) (by rw[<-r1.length,<-r2.length];exact hz);refine⟨.ref s.heap.objs.size,_,I.laid (t':=s.toks) (o:=.tup (xs++ys)) (λb ob q=>ak _ q) (aj _) ?_,rfl,q2 (λw=>z (r2.nil_iff.mpr w)) _ (I.hok.fresh (aj _))⟩;exact⟨by rw[bq];exact hz,_,r1.append r2,IsTupX.new _ _⟩
end
def eB (n:Nat) (i:Int):Option Nat:=if 0<=i then(if i<n then some i.toNat else none)else if -(n:Int)<=i then some (i+n).toNat else none
def cQ {α:Type}(xs:List α) (i:Int):Option α:=(eB xs.length i).bind λj=>xs[j]?
theorem zT {n:Nat}{i:Int}{j:Nat}(h:eB n i=some j):seqIndex? i n=some j/\j<n/\-(n:Int)<=i/\i<n:=by
 unfold eB at h
 by_cases h0:0<=i
 ·rw[if_pos h0]at h
  by_cases h1:i<n
  ·rw[if_pos h1]at h;have e:i.toNat=j:=cy h;exact⟨by rw[seqIndex_of h0 h1,e],by omega,by omega,h1⟩
  ·rw[if_neg h1]at h;cases h
 ·rw[if_neg h0]at h
  by_cases h1 : -(n:Int)<=i
  ·rw[if_pos h1]at h;have e:(i+n).toNat=j:=cy h;exact⟨by rw[seqIndex_neg (by omega) h1,e],by omega,h1,by omega⟩
  ·rw[if_neg h1]at h;cases h
theorem zU {α:Type}{xs:List α}{i:Int}{v:α}(h:cQ xs i=some v):∃j,seqIndex? i xs.length=some j/\xs[j]?=some v/\j<xs.length/\-(xs.length:Int)<=i/\i<xs.length:=by
 unfold cQ at h
 cases e:eB xs.length i with
 |none=>rw[e]at h;cases h
 |some j=>rw[e]at h;obtain⟨h1,h2,h3,h4⟩:=zT e;exact⟨j,h1,h,h2,h3,h4⟩
def zV (b:bp):Prop:=∀o i,subscripted b false o i=operate [o,i] (getItem o i)
def IxR (X:Cx) (r:R2):Prop:=
 ∀(value slice:bp) (pins:List (ah×Obj)) (s:ag) (σ:St) (H:Hp) (x y:V) (v u:af) (Q:VK),Inv X pins σ H s->RelV x v->RelV y u->r x y H Q->
  subscripted slice false v u=operate [v,u] (getItem v u)->wpAny (model X.prog X.w) X.A (subscriptTail value slice v u) (EP X pins σ Q) X.xe s
def Q6 (X:Cx) (id:String) (r:V->List V->Hp->VK->Prop):Prop:=
 ∀(pins:List (ah×Obj)) (s:ag) (σ:St) (H:Hp) (x:V) (xs:List V) (v:af) (us:List af) (Q:VK),Inv X pins σ H s->RelV x v->Vals xs us->r x xs H Q->
  wpAny (model X.prog X.w) X.A (call (.builtin id) (v::us)) (EP X pins σ Q) X.xe s
section
variable{X:Cx}{a b:bp}{ta tb:TE}{pos:Pos}
theorem IxR.or {r r':R2}(h:IxR X r) (h':IxR X r'):IxR X (λx y H Q=>r x y H Q∨r' x y H Q):=by
 intro value slice pins s σ H x y v u Q I rx ry q hs
 rcases q with q|q
 ·exact h value slice pins s σ H x y v u Q I rx ry q hs
 ·exact h' value slice pins s σ H x y v u Q I rx ry q hs
theorem GC {r:R2}(hr:IxR X r) (ha:PE X a ta) (hb:PE X b tb) (hs:zV b):PE X (.Subscript a b pos) (qO r ta tb):=by intro pins s σ H Q I h;exact Subscript_ (zO ha hb I h λv u s2 x y H2 I2 rx ry q=>hr a b pins s2 σ H2 x y v u Q I2 rx ry q (hs _ _))
def GD (K:ao):R2:=λx y H Q=>∃p xs i v,x=.ref p/\y=.int i/\SqL K H p xs/\cQ xs i=some v/\Q v H
def GF (K:ao):R2:=λx y H Q=>∃p xs i v,x=.ref p/\y=.int i/\SqT K H p xs/\cQ xs i=some v/\Q v H
def GG:R2:=λx y H Q=>∃z i c,x=.str z/\y=.int i/\z.length<=cj/\cQ z.cps.toList i=some c/\Q (.str ⟨#[c]⟩) H
theorem ix_list:IxR X (GD X.K):=by
 intro value slice pins s σ H x y v u Q I rx ry h hs;obtain⟨p,xs,i,z,rfl,rfl,hq,he,q⟩:=h;cases rx;obtain⟨t,rfl⟩:=ry;obtain⟨its,r,pl,hz⟩:=I.list hq;obtain⟨j,h1,h2,h3,h4,h5⟩:=zU he;obtain⟨w,ew,rw'⟩:=r.get h2;have hl:=r.length;have hn:=oZ;have fin:EP X pins σ Q w s:=⟨z,H,I,rw',q⟩
 by_cases h0:0<=i
 ·have hj:i.toNat=j:=by rw[seqIndex_of h0 h5]at h1;exact cy h1
  exact item_listR pl.isList h0 (by omega) (by rw[hj];simpa using ew) fin hs
 ·have hj:(i+(its.toArray.size:Int)).toNat=j:=by rw[seqIndex_neg (by omega) h4]at h1;rw[ar,<-hl];exact cy h1
  exact subscriptTail_builtinR (x:=w) pl.isList.typeIs slot_list_getitem.lookup
   (wpAny_getItem_list_neg (Q:=λr s'=>r=w/\EP X pins σ Q r s') pl.isList (by omega) (by rw[ar] <;> omega) (by omega) (by rw[hj];simpa using ew) ⟨rfl,fin⟩) hs
theorem ix_tup:IxR X (GF X.K):=by
 intro value slice pins s σ H x y v u Q I rx ry h hs;obtain⟨p,xs,i,z,rfl,rfl,hq,he,q⟩:=h;cases rx;obtain⟨t,rfl⟩:=ry;obtain⟨its,r,pl,hz⟩:=I.tuple hq;obtain⟨j,h1,h2,h3,h4,h5⟩:=zU he;obtain⟨w,ew,rw'⟩:=r.get h2;have hl:=r.length;have hn:=oZ;have fin:EP X pins σ Q w s:=⟨z,H,I,rw',q⟩
 exact subscriptTail_builtinR (x:=w) pl.typeIs slot_tuple_getitem.lookup
  (getItem_tuple (j:=j) (Q:=λr s'=>r=w/\EP X pins σ Q r s') pl (by omega) (by omega) (by rw[ar,<-hl];exact h1) (by simpa using ew) ⟨rfl,fin⟩) hs
theorem Q7:IxR X GG:=by
 intro value slice pins s σ H x y v u Q I rx ry h hs;obtain⟨z,i,c,rfl,rfl,hz,he,q⟩:=h;obtain⟨t,rfl⟩:=rx;obtain⟨t',rfl⟩:=ry;obtain⟨j,h1,h2,h3,h4,h5⟩:=zU he;have hl:z.cps.toList.length=z.length:=by simp[Str.length]
 rw[hl]at h1 h4 h5;have hn:=oZ;exact tail_any (typeIs_str s z t) slot_str_getitem.lookup (getItem_str (c:=c) (by have e1:decide (i < -(2 ^ 63:Int))=false:=decide_eq_false (by omega);have e2:decide (i>=2 ^ 63)=false:=decide_eq_false (by omega);rw[e1,e2,Bool.or_false]) (by rw[h1];simpa using h2) ⟨.str ⟨#[c]⟩,H,I.tok _,⟨_,rfl⟩,q⟩) hs
def zW (K:ao):R2:=λx y H Q=>GD K x y H Q∨GF K x y H Q∨GG x y H Q
theorem GH:IxR X (zW X.K):=ix_list.or (ix_tup.or Q7)
theorem Q8 (its:List af) (n j:Nat) (u:af):nr (·.setIfInBounds j u) { cls:=.type "list",data:=.seq its.toArray n }={ cls:=.type "list",data:=.seq (its.set j u).toArray n }:=by simp[nr]
theorem Inv.lst {pins:List (ah×Obj)}{σ:St}{H:Hp}{s:ag}{p:ah}{xs:List V}(I:Inv X pins σ H s) (h:H p=some (.lst xs)):
  ∃(its:List af) (n:Nat),Vals xs its/\s.heap.get? p=some { cls:=.type "list",data:=.seq its.toArray n }/\xs.length<=cj:=by
 obtain⟨z,its,n,r,e⟩:=I.hok p _ h;exact⟨its,n,r,e,z⟩
theorem Inv.lstUpd {pins:List (ah×Obj)}{σ:St}{H:Hp}{s:ag}{p:ah}{xs ys:List V}{its its':List af}{n n':Nat}{f:Obj->Obj}(I:Inv X pins σ H s) (h:H p=some (.lst xs))
  (ho:s.heap.get? p=some { cls:=.type "list",data:=.seq its.toArray n }) (hf:f { cls:=.type "list",data:=.seq its.toArray n }={ cls:=.type "list",data:=.seq its'.toArray n' }) (r:Vals ys its') (hz:ys.length<=cj) (t:Nat):
  Inv X pins σ (aW H p (.lst ys)) { s with heap:=s.heap.update p f,toks:=t }:=by
 have e:(s.heap.update p f).get? p=some { cls:=.type "list",data:=.seq its'.toArray n' }:=by rw[my f ho (by rw[hf] <;> rfl),hf]
 refine I.write (x:=p) (e:=p) (by rw[h];trivial) (.inl rfl) (λb u hb q=>(mm _ _ (da hb)).trans q) ⟨_,e⟩ ?_;exact⟨hz,its',n',r,e⟩
def Q9:V->V->V->Hp->(Hp->Prop)->Prop:=λo i v H Q=>∃p xs k j,o=.ref p/\i=.int k/\H p=some (.lst xs)/\eB xs.length k=some j/\Q (aW H p (.lst (xs.set j v)))
theorem RA:FL X Q9:=by
 intro pins s σ H o i v ov iv u Q I ro ri rv h;obtain⟨p,xs,k,j,rfl,rfl,hp,hj,q⟩:=h;cases ro;obtain⟨t,rfl⟩:=ri;obtain⟨its,n,r,ho,hz⟩:=I.lst hp;obtain⟨h1,h2,h3,h4⟩:=zT hj;have hl:=r.length;have hn:=oZ;have I':Inv X pins σ (aW H p (.lst (xs.set j v))) { s with heap:=s.heap.update p (nr (·.setIfInBounds j u)) }:=I.lstUpd hp ho (Q8 its n j u) (r.set rv j) (by rw[kd];exact hz) s.toks
 by_cases h0:0<=k
 ·have hk:k.toNat=j:=by rw[seqIndex_of h0 h4]at h1;exact cy h1
  exact PySem.W.ki_setAt ho h0 (by omega) (by rw[ar,<-hl];exact h4) (by rw[hk];exact⟨_,I',q⟩)
 ·have hk:(k+(its.toArray.size:Int)).toNat=j:=by rw[seqIndex_neg (by omega) h3]at h1;rw[ar,<-hl];exact cy h1
  exact PySem.W.ki_setBack ho (by omega) (by rw[ar,<-hl];exact h3) (by omega) (by rw[hk];exact⟨_,I',q⟩)
theorem RC (lo hi:Option Int) (n:Nat):(sliceBounds lo hi none n).1=((HT.sIx n 0 lo:Nat):Int)/\(sliceBounds lo hi none n).2.1=((HT.sIx n n hi:Nat):Int)/\(sliceBounds lo hi none n).2.2=1:=by
 refine⟨?_, ?_,rfl⟩
 ·cases lo with
  |none=>simp[sliceBounds,HT.sIx]
  |some i=>
   simp only[sliceBounds,HT.sIx,Option.getD_none,show(1:Int)>0 by decide,if_true]
   by_cases h:i<0
   ·simp only[h,if_true] <;> omega
   ·simp only[h,if_false] <;> omega
 ·cases hi with
  |none=>simp[sliceBounds,HT.sIx]
  |some i=>
   simp only[sliceBounds,HT.sIx,Option.getD_none,show(1:Int)>0 by decide,if_true]
   by_cases h:i<0
   ·simp only[h,if_true] <;> omega
   ·simp only[h,if_false] <;> omega
theorem RD (its:List af) (lo hi:Option Int):slicePick its.toArray lo hi none=((its.drop (HT.sIx its.length 0 lo)).take (HT.sIx its.length its.length hi - HT.sIx its.length 0 lo)).toArray:=by obtain⟨h1,h2,h3⟩:=RC lo hi its.toArray.size;unfold slicePick;rw[h1,h2,h3];simp only[sliceRange_one,pick_run,ar] <;> rfl
def RE (K:ao):V->Option Int->Option Int->Hp->VK->Prop:=λx lo hi H Q=>∃a xs,x=.ref a/\SqL K H a xs/\∀p,H p=none->Q (.ref p) (aW H p (.lst (mG xs lo hi)))
theorem RF:SlR X (RE X.K):=by intro pins s σ H x v vl vu lo hi sl Q I rx hs pl pu h;obtain⟨a,xs,rfl,hx,q⟩:=h;cases rx;obtain⟨its,r,ht,hz⟩:=I.list hx;have hlen:=r.length;refine⟨"list",_,slot_list_getitem.lookup,ht.isList.typeIs, ?_⟩;refine wpAny_getItem_list_slice ht.isList hs pl pu .none (by simp) ?_ (by rw[ar] <;> omega);rw[RD,<-hlen];refine⟨.ref s.heap.objs.size,_,I.laid (t':=s.toks) (o:=.lst (mG xs lo hi)) (λb ob q=>ak _ q) (aj _) ?_,rfl,q _ (I.hok.fresh (aj _))⟩;exact⟨cq (F8 xs lo hi) hz,_,0,(r.drop (HT.sIx xs.length 0 lo)).take (HT.sIx xs.length xs.length hi - HT.sIx xs.length 0 lo),bc _ rfl⟩
theorem GI:CallR X (.builtin "len") (λxs H Q=>∃p ys,xs=[.ref p]/\(SqL X.K H p ys∨SqT X.K H p ys)/\Q (.int ys.length) H):=by
 intro pins s σ H xs us Q I r h;obtain⟨p,ys,rfl,hq,q⟩:=h;obtain⟨u,rfl,rx⟩:=iL r;cases rx;have hn:=oZ
 rcases hq with hq|hq
 ·obtain⟨its,r',pl,hz⟩:=I.list hq;have hlen:=r'.length;exact Calls.call_len_list pl.isList (by simp only[ar] <;> omega) ⟨.int ys.length,H,I.tok _,⟨s.toks+1,by rw[ar,hlen]⟩,q⟩
 ·obtain⟨its,r',pl,hz⟩:=I.tuple hq;have hlen:=r'.length;exact len_tuple pl (by simp only[ar] <;> omega) ⟨.int ys.length,H,I.tok _,⟨s.toks+1,by rw[ar,hlen]⟩,q⟩
theorem RG:CallR X (.type "list") (λxs H Q=>∃p ys,xs=[.ref p]/\(SqL X.K H p ys∨SqT X.K H p ys)/\∀l,H l=none->Q (.ref l) (aW H l (.lst ys))):=by
 intro pins s σ H xs us Q I r h;obtain⟨p,ys,rfl,hq,q⟩:=h;obtain⟨u,rfl,rx⟩:=iL r;cases rx;have fin:∀(its:List af),Vals ys its->ys.length<=cj->∀(h':cz) (c':Nat),(∀b o',s.heap.get? b=some o'->h'.get? b=some o')->
   h'.get? s.heap.objs.size=some { cls:=.type "list",dict:=none,data:=.seq its.toArray c',slots:=#[] }->EP X pins σ Q (.ref s.heap.objs.size) { s with heap:=h' }:=λits r' hz h' c' kp e=>
  ⟨.ref s.heap.objs.size,_,I.laid (t':=s.toks) kp (aj _) (show ObjOk X.prog X.w _ h' _ (.lst ys) from⟨hz,its,c',r',e⟩),rfl,q _ (I.hok.fresh (aj _))⟩
 rcases hq with hq|hq
 ·obtain⟨its,r',pl,hz⟩:=I.list hq;have hlen:=r'.length;obtain⟨o,ho,hc,n,hd⟩:=pl.isList;exact call_list_seq p (.inl rfl) ho hc hd (λh' c' kp e=>fin its r' hz h' c' kp e) (by simp only[ar] <;> omega)
 ·obtain⟨its,r',pl,hz⟩:=I.tuple hq;have hlen:=r'.length;obtain⟨o,ho,hc,n,hd⟩:=pl;exact call_list_seq p (.inr rfl) ho hc hd (λh' c' kp e=>fin its r' hz h' c' kp e) (by simp only[ar] <;> omega)
theorem GJ:CallR X (.type "tuple") (λxs H Q=>∃p ys,xs=[.ref p]/\((SqL X.K H p ys/\∀l,H l=none->Q (.ref l) (aW H l (.tup ys)))∨(SqT X.K H p ys/\Q (.ref p) H))):=by
 intro pins s σ H xs us Q I r h;obtain⟨p,ys,rfl,h⟩:=h;obtain⟨u,rfl,rx⟩:=iL r;cases rx
 rcases h with⟨hq,q⟩|⟨hq,q⟩
 ·obtain⟨its,r',pl,hz⟩:=I.list hq;have hlen:=r'.length;refine call_tuple_list pl.isList (λh' kp=>?_) (by simp only[ar] <;> omega);have I1:Inv X pins σ H { s with heap:=h' }:=I.kept (t':=s.toks) kp;have I2:Inv X pins σ (aW H h'.objs.size (.tup ys)) { s with heap:=h'.push { cls:=.type "tuple",data:=.seq its.toArray } }:=I1.laid (t':=s.toks) (λb o e=>ak _ e) (aj _) (show ObjOk X.prog X.w _ _ _ (.tup ys) from⟨hz,its,r',IsTupX.new _ _⟩);exact⟨.ref h'.objs.size,_,I2,rfl,q _ (I1.hok.fresh (aj _))⟩
 ·obtain⟨its,r',pl,hz⟩:=I.tuple hq;exact call_tuple_same pl ⟨.ref p,H,I,rfl,q⟩
def uP (K:ao) (T:String) (x:V) (H:Hp):Prop:=match x with
 | .str _=>T = "str"
 | .int _=>T = "int"
 | .ref p=>(T = "list"/\∃xs,SqL K H p xs)∨(T = "tuple"/\∃o,K.lookup p=some o/\o.cls=.type "tuple"/\o.dict=none) ∨
   (T = "dict"/\((∃kvs,H p=some (.dK kvs))∨∃kvs,H p=some (.dT kvs)))∨(T = "set"/\∃S n,H p=some (.set S n))
 |_=>False
theorem RH {pins:List (ah×Obj)}{σ:St}{H:Hp}{s:ag}{T:String}{x:V}{v:af}(I:Inv X pins σ H s) (r:RelV x v) (ty:uP X.K T x H):
  s.TypeIs v T/\∀a,v=.ref a->∃ob,s.heap.get? a=some ob/\ob.dict=none:=by
 cases x with
 |str z=>
  obtain⟨t,rfl⟩:=r
  cases (show T = "str" from ty)
  exact⟨typeIs_str s z t,λ_ e=>nomatch e⟩
 |int i=>
  obtain⟨t,rfl⟩:=r
  cases (show T = "int" from ty)
  exact⟨typeIs_int s i t,λ_ e=>nomatch e⟩
 |ref p=>
  cases r
  rcases ty with⟨rfl,xs,hq⟩|⟨rfl,o,hk,hc,hd⟩|⟨rfl,hk⟩|⟨rfl,S,n,hk⟩
  ·obtain⟨its,_,pl,_⟩:=I.list hq;refine⟨pl.isList.typeIs,λa e=>?_⟩;cases e;obtain⟨o,n,e,c,hd,_⟩:=pl;exact⟨o,e,hd⟩
  ·refine⟨⟨o,I.kIn p o hk,hc⟩,λa e=>?_⟩;cases e;exact⟨o,I.kIn _ o hk,hd⟩
  ·have z:∃o,s.heap.get? p=some o/\o.ExactDict:=by
    rcases hk with⟨kvs,hk⟩|⟨kvs,hk⟩
    ·obtain⟨_,_,_,_,o,_,_,e,ex,_⟩:=I.hok p _ hk;exact⟨o,e,ex⟩
    ·obtain⟨_,_,_,_,o,_,_,e,ex,_⟩:=I.hok p _ hk;exact⟨o,e,ex⟩
   obtain⟨o,e,ex⟩:=z;refine⟨⟨o,e,ex.1⟩,λa e2=>?_⟩;cases e2;exact⟨o,e,ex.2.1⟩
  ·obtain⟨o,_,_,_,e,ex,_⟩:=I.hok p _ hk;refine⟨⟨o,e,ex.1⟩,λa e2=>?_⟩;cases e2;exact⟨o,e,ex.2.1⟩
 |_=>exact gk ty
def RI (K:ao) (T:String) (r:V->List V->Hp->VK->Prop) (to:TE) (t:TA):TE:=λσ H Q=>to σ H λx H1=>uP K T x H1/\t σ H1 λxs H2=>r x xs H2 Q
variable{o e:bp}{es:List bp}{to:TE}{t:TA}{name:Str}{apos cpos:Pos}{T id:String}{r:V->List V->Hp->VK->Prop}
theorem zX (pa:PlainAttrs T) (slot:Slot T name id) (hty:typeOf (.builtin id)=pure (.type "method_descriptor")) (hm:Q6 X id r) (ho:PE X o to) (ha:PA X (e::es) t)
  (hbase:attributeBase o name X.env (eval o X.env)=eval o X.env:=by rfl)
  (hfew:((backTo cpos (au (e::es) X.env)).all (λx=>!x.1)&&(backToKw cpos (keywordEach [] X.env)).all (λx=>x.1.isSome)
   && decide ((e::es).length+([]:List Keyword).length+(if([]:List Keyword).isEmpty then 0 else 1)<30))=true:=by rfl)
  (hline:(apos.endLine==cpos.line)=true:=by rfl) (hs:au (e::es) X.env=(false,eval e X.env)::au es X.env:=by rfl) (hplain:(backTo cpos (au es X.env)).any (·.1)=false:=by rfl):
  PE X (.Call (.Attribute o name apos) (e::es) [] cpos) (RI X.K T r to t):=by
 intro pins s σ H Q I h;refine wpAny_Call_method_late hbase hfew hline rfl (bD (ho pins s σ H _ I h) λv s1 ⟨x,H1,I1,r1,ty,q1⟩=>?_);obtain⟨h1,h2⟩:=RH I1 r1 ty;refine⟨T,id,pa,slot,hty,h1,h2, ?_⟩;have hA:=ha cpos pins s1 σ H1 _ I1 q1;rw[hs]at hA ⊢;refine Calls.callWith_builtin (by show(false||(backTo cpos (au es X.env)).any (·.1))=false;rw[hplain] <;> rfl) (Aa ?_);exact bD hA λus s2 ⟨vs,H2,I2,r2,q2⟩=>hm pins s2 σ H2 x vs v us Q I2 r1 r2 q2
end
def zY (X:Cx) (id:String) (r:V->List V->Hp->VK->Prop):Prop:=
 ∀(pins:List (ah×Obj)) (s:ag) (σ:St) (H:Hp) (x:V) (xs:List V) (v:af) (us:List af) (Q:VK),Inv X pins σ H s->RelV x v->Vals xs us->r x xs H Q->
  wpAny (model X.prog X.w) X.A (call (.builtin id) (v::us)) (EP X pins σ Q) X.xe s
theorem Vals.one:∀{x:V}{us:List af},Vals [x] us->∃u,us=[u]/\RelV x u
 |_,_,.cons r .nil=>⟨_,rfl,r⟩
theorem Vals.eraseIdx:∀{xs:List V}{us:List af}(i:Nat),Vals xs us->Vals (xs.eraseIdx i) (us.eraseIdx i)
 |_,_,_,.nil=>.nil
 |_,_,0,.cons _ t=>t
 |_,_,i+1,.cons r t=>.cons r (Vals.eraseIdx i t)
theorem Vals.rep {xs:List V}{us:List af}(h:Vals xs us):∀k:Nat,Vals (ba k xs).flatten (ba k us).flatten
 |0=>.nil
 |k+1=>by rw[jc,jc,ki,ki];exact Vals.append h (Vals.rep h k)
theorem GK {α:Type}:∀(l:List α) (i:Nat),(l.eraseIdx i).length<=l.length
 | [],_=>aj _
 |_::_,0=>Nat.le_succ _
 |_::r,i+1=>Nat.succ_le_succ (GK r i)
theorem GL (its:List af):∀(k:Nat) (acc:List af),
  List.foldl (λx1 x2=>x1++x2) acc.toArray (ba k its.toArray)=(acc++(ba k its).flatten).toArray
 |0,acc=>by simp
 |k+1,acc=>by
  have e:acc.toArray++its.toArray=(acc++its).toArray:=by simp
  have e2:(acc++its)++(ba k its).flatten=acc++(ba (k+1) its).flatten:=by rw[jc,ki,qf]
  rw[<-e2,<-GL its k (acc++its),<-e,jc,List.foldl_cons]
section
variable{X:Cx}{pins:List (ah×Obj)}{σ:St}{H:Hp}{s:ag}{l b:ah}{xs ys zs:List V}
theorem Inv.lset {its its':List af}{n:Nat}{f:Array af->Array af}{t':Nat}(I:Inv X pins σ H s) (hH:H l=some (.lst xs))
  (e:s.heap.get? l=some { cls:=.type "list",data:=.seq its.toArray n }) (hf:f its.toArray=its'.toArray) (hv:Vals ys its') (hz:ys.length<=cj):
  Inv X pins σ (aW H l (.lst ys)) { s with heap:=s.heap.update l (nr f),toks:=t' }:=by
 have q:=Ab e f;rw[hf]at q;refine I.write (x:=l) (e:=l) (by rw[hH];exact trivial) (.inl rfl) (λb' u hb hu=>(mm s.heap (nr f) (da hb)).trans hu) ⟨_,q⟩ ?_;exact⟨hz,its',_,hv,q⟩
theorem Inv.lnew {its:List af}{t':Nat}(I:Inv X pins σ H s) (hv:Vals ys its) (hz:ys.length<=cj):
  Inv X pins σ (aW H s.heap.objs.size (.lst ys)) { s with heap:=s.heap.push { cls:=.type "list",data:=.seq its.toArray },toks:=t' }:=
 I.laid (λ_ _ q=>ak _ q) (aj _) ⟨hz,its,0,hv,bc _ rfl⟩
theorem Inv.fresh (I:Inv X pins σ H s):H s.heap.objs.size=none:=I.hok.fresh (aj _)
theorem Inv.lstM (I:Inv X pins σ H s) (hH:H l=some (.lst xs)):xs.length<=cj/\∃(its:List af) (n:Nat),Vals xs its/\xs.length=its.length/\s.heap.get? l=some { cls:=.type "list",data:=.seq its.toArray n }:=by obtain⟨z,its,n,r,e⟩:=I.hok l _ hH;exact⟨z,its,n,r,r.length,e⟩
theorem GN {n:Nat}(h:n<=cj):km n=false:=by unfold km;exact decide_eq_false (by omega)
end
section
variable{X:Cx}
def RJ:V->List V->Hp->VK->Prop:=λx vs H Q=>∃l xs y,x=.ref l/\vs=[y]/\H l=some (.lst xs)/\xs.length<cj/\Q .non (aW H l (.lst (xs++[y])))
theorem RK:zY X "list.append" RJ:=by intro pins s σ H x vs v us Q I rx rv h;obtain⟨l,xs,y,rfl,rfl,hH,hz,q⟩:=h;cases rx;obtain⟨u,rfl,ru⟩:=rv.one;obtain⟨z,its,n,r,hl,e⟩:=I.lstM hH;refine tj F.slot_list_append ⟨_,e,rfl⟩ F.entry_list_append (F.args_list_append_2 _ _) (PySem.list_append l its.toArray n u (by rw[ar];omega)) ⟨e, ?_⟩;refine⟨.non,_,I.lset (its':=its++[u]) hH e (by simp) (r.append (.cons ru .nil)) ?_,rfl,q⟩;rw[bq,Ac];omega
def RM:V->List V->Hp->VK->Prop:=λx vs H Q=>∃l b xs zs,x=.ref l/\vs=[.ref b]/\H l=some (.lst xs)/\H b=some (.lst zs)/\xs.length+zs.length<=cj/\Q .non (aW H l (.lst (xs++zs)))
theorem RN:zY X "list.extend" RM:=by
 intro pins s σ H x vs v us Q I rx rv h;obtain⟨l,b,xs,zs,rfl,rfl,hH,hB,hz,q⟩:=h;cases rx;obtain⟨u,rfl,ru⟩:=rv.one;cases ru;obtain⟨z,its,n,r,hl,e⟩:=I.lstM hH;obtain⟨z2,its2,n2,r2,hl2,e2⟩:=I.lstM hB;have hsz:its.toArray.size+its2.toArray.size<=cj:=by rw[ar,ar];omega
 have hlong:¬ (!its.toArray.isEmpty&&km (its.toArray.size+its2.toArray.size))=true:=by rw[GN hsz,pb];exact fz
 refine tj F.slot_list_extend ⟨_,e,rfl⟩ F.entry_list_extend (F.args_list_extend_2 _ _)
  (AutoSeq1.list_extend_list_list_0 l its.toArray n b its2.toArray n2 hlong (by rw[ar];omega) (by omega)) ⟨e,e2, ?_⟩
 refine⟨.non,_,I.lset (its':=its++its2) hH e (by simp) (r.append r2) ?_,rfl,q⟩;rw[bq];omega
def RO:V->List V->Hp->VK->Prop:=λx vs H Q=>∃l xs i k y,x=.ref l/\vs=[.int i]/\H l=some (.lst xs)/\-(2 ^ 63)<=i/\i<2 ^ 63/\seqIndex? i xs.length=some k/\xs[k]?=some y/\Q y (aW H l (.lst (xs.eraseIdx k)))
theorem RP:zY X "list.pop" RO:=by
 intro pins s σ H x vs v us Q I rx rv h;obtain⟨l,xs,i,k,y,rfl,rfl,hH,h1,h2,hk,hy,q⟩:=h;cases rx;obtain⟨u,rfl,ru⟩:=rv.one;obtain⟨t,rfl⟩:=ru;obtain⟨z,its,n,r,hl,e⟩:=I.lstM hH;obtain⟨w,hw,rw'⟩:=r.get hy;refine tj F.slot_list_pop ⟨_,e,rfl⟩ F.entry_list_pop (F.args_list_pop_2 _ _)
  (MeetsSeq.list_pop_at l its.toArray n i t k w (fitsIndex_both h1 h2) (by rw[ar,<-hl];exact hk) (by rw[<-mw];exact hw) (by rw[ar];omega)) ⟨e, ?_⟩
 refine⟨y,_,I.lset (its':=its.eraseIdx k) hH e ?_ (r.eraseIdx k) ?_,rw',q⟩
 ·show its.toArray.eraseIdxIfInBounds k=(its.eraseIdx k).toArray;rw[List.eraseIdxIfInBounds_toArray]
 ·have:=GK xs k;omega
def GO:R2:=λx y H Q=>∃l b xs zs,x=.ref l/\y=.ref b/\H l=some (.lst xs)/\H b=some (.lst zs)/\xs.length+zs.length<=cj/\∀p,H p=none->Q (.ref p) (aW H p (.lst (xs++zs)))
theorem op_cat:OpR X (binaryOp .Add) GO:=by
 intro pins s σ H x y v u Q I rx ry h;obtain⟨l,b,xs,zs,rfl,rfl,hH,hB,hz,q⟩:=h;cases rx;cases ry;obtain⟨z,its,n,r,hl,e⟩:=I.lstM hH;obtain⟨z2,its2,n2,r2,hl2,e2⟩:=I.lstM hB;refine PySem.P.add_list e e2 ?_ (by rw[ar,ar];omega);have ea:its.toArray++its2.toArray=(its++its2).toArray:=by simp
 rw[ea];exact⟨.ref _,_,I.lnew (t':=s.toks) (r.append r2) (by rw[bq];omega),rfl,q _ I.fresh⟩
def GP:R2:=λx y H Q=>∃l k xs,x=.ref l/\y=.int k/\H l=some (.lst xs)/\-(2 ^ 63)<=k/\k<2 ^ 63/\xs.length*k.toNat<=cj /\
 ∀p,H p=none->Q (.ref p) (aW H p (.lst (ba k.toNat xs).flatten))
theorem RQ {α:Type}(xs:List α) (k:Nat):(ba k xs).flatten.length=k*xs.length:=by
 induction k with
 |zero=>simp
 |succ k ih=>rw[jc,ki,bq,ih,lg,Nat.add_comm]
theorem RS:OpR X (binaryOp .Mult) GP:=by
 intro pins s σ H x y v u Q I rx ry h;obtain⟨l,k,xs,rfl,rfl,hH,h1,h2,hz,q⟩:=h;cases rx;obtain⟨t,rfl⟩:=ry;obtain⟨z,its,n,r,hl,e⟩:=I.lstM hH;have hlen:its.toArray.size*k.toNat<=cj:=by rw[ar,<-hl];exact hz
 have hcap:¬ its.toArray.size*k.toNat>(2 ^ 63 - 1) / 8:=by
  have:(cj:Nat)<=(2 ^ 63 - 1) / 8:=by decide
  omega
 have hfit:¬ (!Builtin.List.listFitsIndex k)=true:=by rw[fitsIndex_both h1 h2];exact fz
 have hlong:¬ km (its.toArray.size*k.toNat)=true:=by rw[GN hlen];exact fz
 have hnew:List.foldl (λx1 x2=>x1++x2) #[] (ba (if its.toArray.isEmpty=true then 0 else k.toNat) its.toArray)=(ba k.toNat its).flatten.toArray:=by
  have f0:∀m:Nat,List.foldl (λx1 x2=>x1++x2) #[] (ba m its.toArray)=(ba m its).flatten.toArray:=λm=>by have:=GL its m [];rw[List.nil_append]at this;exact this
  rw[f0]
  cases its with
  |nil=>simp
  |cons a r'=>rw[if_neg (by simp)]
 refine wpAny_binaryOp_repeat_ref (T := "list") (U := "int") (by decide) ⟨_,e,rfl⟩ (λs'=>typeIs_int s' k t) noFill_list_mul F.fills_int_mul F.slot_int_rmul repeat_list F.slot_int_index.lookup
  (tj F.slot_int_rmul (typeIs_int s k t) F.entry_int_rmul (F.args_int_rmul_2 _ _) (int___rmul___int_list k t l its.toArray n)
   ⟨e,rfl,⟨_,e,rfl⟩,tj F.slot_list_mul ⟨_,e,rfl⟩ F.entry_list_mul (F.args_list_mul_2 _ _) (AutoListH.list___mul___list_int_3 l its.toArray n k t hfit hcap hlong) ⟨e, ?_⟩⟩)
 rw[hnew];exact⟨.ref _,_,I.lnew (t':=s.toks) (r.rep k.toNat) (by rw[RQ,Nat.mul_comm];exact hz),rfl,q _ I.fresh⟩
end
section
variable{prog:bo}{w:cw}{A:cx}{E:af->ag->Prop}{s:ag}
set_option maxRecDepth 100000 in
end
section
variable{X:Cx}
end
end L2
namespace Att
open PySem PySem.W PySem.Calls PyProof.Rows
theorem RT {P:Params}{h:cz}:∀(ns:List Int) (vs:List af),WellAll P h vs (ns.map WData.int)->md vs ns:=by
 intro ns
 induction ns with
 |nil=>intro vs w;rw[List.map_nil]at w;cases w;exact .nil
 |cons n ns ih=>
  intro vs w;rw[dg]at w
  cases w with
  |cons a b=>cases a;exact .cons _ _ (ih _ b)
theorem RU {l:OpenLaw}{n:Nat}(hn:l.most=some n) {P:Params}{h:cz}{args:List WData}{eM:List af}
  (hpre:l.row.toRowW.claim.pre args=true) (hwl:WellAll P h eM args):
  ∃a vs ns,eM=[gn a]/\args=[WData.list (ns.map WData.int)]/\h.get? a=some { cls:=.type "list",data:=.seq vs.toArray }/\md vs ns/\ns.length<=n:=by
 have hsh:WShape.hasAll [] args [.list .int]=true:=(pre_splitW hpre).1;have hc:l.pre.holds [] { args:=args }=true:=(pre_splitW hpre).2;obtain⟨d,r,rfl,h1,h2⟩:=hasAllW_cons hsh;obtain rfl:=hasAllW_nil h2;obtain⟨xs,rfl,h3⟩:=hasW_list h1;obtain⟨ns,rfl⟩:=items_int h3;have hlen:ns.length<=n:=by
  unfold OpenLaw.pre at hc;have h4:(WTm.not (.lt (.lit (.int (n:Int))) (.len (.arg 0)))).holds [] { args:=[.list (ns.map .int)] }=true:=by have h4:=(holds_andW hc).1;rw[hn]at h4;exact h4
  have h5:=condW_of h4 (w_not (w_lt w_lit (w_len_list (w_arg rfl))));rw[bj]at h5;refine Nat.le_of_not_lt λq=>?_;have q':(n:Int)<((ns.length:Nat):Int):=by omega
  first
   |(rw[decide_eq_true q']at h5;exact absurd h5 (by decide))
   |(simp at h5;omega)
 cases hwl with
 |cons w1 w2=>
  cases w2
  cases w1 with
  |list ho hall=>exact⟨_,_,ns,rfl,rfl,ho,RT ns _ hall,hlen⟩
theorem RV (l:OpenLaw) (args:List WData):l.row.toRowW.claim.post args (.bool true) args=true:=
 postW_of (r:=l.row.toRowW) (X:=(true==true))
  (show WShape.has [] (.bool true) .bool=true by first|rfl|decide|simp[WShape.has,WShape.arms,WShape.armsAll])
  (show(WTm.eq .res (.lit (.bool true))).value [] { args:=args,res:=some (.bool true),after:=args }=some (.bool (true==true)) from w_eq_bool (w_res rfl) w_lit) rfl
theorem attach_call {l:OpenLaw}{n:Nat}{q:bo}{fL:List Str}{XP:(Str->Option af)->cz->Prop}{YP:cw->cz->Prop}{d:DefRec}
  (hn:l.most=some n) (hdf:d.params.defaults=[])
  (call:∀(w:cw) (s₀ s₁:ag) (mg mb:Str->Option af) (fa:ah) (o:Obj) (pm cd doc:af) (a:ah) (vs:List af) (ns:List Int),
   Ground q fL [] XP w s₀ mg mb s₁.heap->YP w s₁.heap->
   s₁.heap.get? fa=some o->o.data=.func (docDef d.name d.params d.body d.scope pm cd doc)->s₁.heap.CodeRec cd d.name->mg d.name=some (.ref fa)->
   s₁.heap.get? a=some { cls:=.type "list",data:=.seq vs.toArray }->md vs ns->ns.length<=n->s₁.gens=#[]->
   codeAny (model l.prog w) callerA (.call (.ref fa) ⟨[.ref a],[]⟩) (λr s'=>r=.ok (.ret (.bool true))/\OldK s₁.heap s'.heap/\s'.os=s₁.os/\rj s'.gens) s₁):
  WalkO q fL XP YP l.row.toRowW d [] (λf vs=>PySem.call f vs):=by
 intro w s₀ s₁ mg mb G Y fa o pm cd doc dV kV ho hd hcd hD hmg hg args eM as hpre hlay hrd hwl hlo;obtain rfl:dV=.none:=Dflts.none hD hdf;obtain rfl:kV=.none:=Dflts.noKw hD;obtain⟨a,vs,ns,rfl,rfl,hobj,hints,hlen⟩:=RU hn hpre hwl;refine enter_call (nj (call w s₀ s₁ mg mb fa o pm cd doc a vs ns G Y ho (fd_plain hd) hcd hmg hobj hints hlen hg) λr s' hq=>?_);obtain⟨rfl,h2,h3,h4⟩:=hq;exact⟨.inl ⟨.bool true,.bool true,[],rfl,λ_=>rfl,.bool true,RV l _,λ_=>⟨wk,λ_ hm=>(nomatch hm)⟩⟩,h2,h3,h4⟩
section
variable{prog:bo}{w:cw}{A:cx}{E:af->ag->Prop}{s:ag}{K:Frag}
end
end Att
namespace L2
open PySem PySem.Spec PyProof.Rows
theorem GQ:∀{vs:List af}{ns:List Int},md vs ns->Vals (ns.map V.int) vs
 |_,_,.nil=>.nil
 |_,_,.cons n t h=>.cons ⟨t,rfl⟩ (GQ h)
def pA (s:gp):kq:=match s with
 | .FunctionDef _ a _ _ _ _ _ _ _ _=>a
 |_=>{ posonlyargs:=[],args:=[],vararg:=none,kwonlyargs:=[],kw_defaults:=[],kwarg:=none,defaults:=[] }
def jZ (s:gp):List gp:=match s with
 | .FunctionDef _ _ b _ _ _ _ _ _ _=>b
 |_=>[]
def bC (s:gp):gy:=match s with
 | .FunctionDef _ _ _ _ _ _ sc _ _ _=>sc
 |_=>{ kind:=.function,names:=[],isGenerator:=false,isCoroutine:=false }
abbrev E0:XK:=λ_ _ _=>False
structure Fun (K:ao) (x qual:Str) (st:gp) (f:ah) (fd:br):Prop where
 ex:∃(oc:af) (od:Option ah) (kV doc pm:af) (an:Option ah) (cdv ct:af) (osl:Array (Option af)),
  fd=og x qual (pA st) (jZ st) (bC st) .none kV doc pm an cdv ct/\K.lookup f=some ⟨oc,od,.func fd,osl⟩/\vj K cdv qual=true
 kp:lj K (.ref f)=true
section
variable{P:bo}{w:cw}{K:ao}{mg:Str->Option af}{base:cz}
theorem Fun.binds {x qual:Str}{st:gp}{f:ah}{fd:br}{ps:List Str}(F:Fun K x qual st f fd)
  (h:∀(kV doc pm:af) (an:Option ah) (cdv ct:af) (us:List af),us.length=ps.length->bindArgs (og x qual (pA st) (jZ st) (bC st) .none kV doc pm an cdv ct) ⟨us,[]⟩=pure (ps.zip us)):Binds K fd ps []:=by
 obtain⟨oc,od,kV,doc,pm,an,cdv,ct,osl,rfl,lk,hcd⟩:=F.ex;exact .all (h kV doc pm an cdv ct)
theorem GR {x qual:Str}{st:gp}{f:ah}{oc:af}{od an:Option ah}{osl:Array (Option af)}{kV doc pm cdv ct:af}(l:K.lookup f=some ⟨oc,od,.func (og x qual (pA st) (jZ st) (bC st) .none kV doc pm an cdv ct),osl⟩)
  (c:vj K cdv qual=true) (k:lj K (.ref f)=true):Fun K x qual st f (og x qual (pA st) (jZ st) (bC st) .none kV doc pm an cdv ct):=⟨⟨oc,od,kV,doc,pm,an,cdv,ct,osl,rfl,l,c⟩,k⟩
end
section
variable{X:Cx}
end
theorem GS {A B:Prop}(h:B):if false=true then A else B:=by rw[if_neg fz];exact h
theorem GU {A B:Prop}(h:A):if true=true then A else B:=by rw[if_pos rfl];exact h
def Same (H H':Hp):Prop:=∀b o,H b=some o->H' b=some o
theorem Same.refl (H:Hp):Same H H:=λ_ _ h=>h
theorem uQ {β:Type}(x y:Str) (c:β) (acc:List (Str×β)):((y,c)::acc).lookup x=if x=y then some c else acc.lookup x:=by
 rw[gw]
 by_cases e:x=y
 ·have hb:(x==y)=true:=beq_iff_eq.mpr e;rw[hb,if_pos e]
 ·have hb:(x==y)=false:=beq_eq_false_iff_ne.mpr e;rw[hb,if_neg e]
def dD (env:Env):List (Str×jx)->List (Str×ah)->List (Str×ah)
 | [],acc=>acc
 |(x,k)::r,acc=>dD env r (if k==.free then(x,(env.cells.lookup x).getD 0)::acc else acc)
theorem zZ {env:Env}:∀(l:List (Str×jx)) (acc:List (Str×ah)),(∀x,(x,cf)∈l->∃c,env.cells.lookup x=some c)->
  (forIn l acc (λ(x:Str×jx) (r:List (Str×ah))=>match x with
   |(name,kind)=>if(kind==cf)=true then(do let a <-cellOf env name;pure (qk ((name,a)::r)))else(pure (qk r):Sem (ForInStep (List (Str×ah))))))=(pure (dD env l acc):Sem (List (Str×ah)))
 | [],acc,_=>rfl
 |(x,k)::l,acc,h=>by
  rw[oi];dsimp only
  cases hk:k==cf with
  |true=>
   have e:k=.free:=by cases k <;> first|rfl|cases hk
   subst e;obtain⟨c,hc⟩:=h x (bh ..);rw[if_pos rfl,show dD env ((x,cf)::l) acc=dD env l ((x,c)::acc)by rw[dD,if_pos hk,hc];rfl,<-zZ l ((x,c)::acc) λy hy=>h y (ax _ hy)];unfold cellOf;rw[hc];rfl
  |false=>rw[if_neg (by simp),show dD env ((x,k)::l) acc=dD env l acc by rw[dD,hk];rfl,<-zZ l acc λy hy=>h y (ax _ hy)];rfl
theorem AA {env:Env}{scope:gy}(h:∀x,(x,cf)∈scope.names->∃c,env.cells.lookup x=some c):closureFor scope env=pure (dD env scope.names []):=by unfold closureFor;have:=zZ (env:=env) scope.names [] h;show(forIn scope.names [] _ >>= λcs=>pure cs)=_;exact(congrArg (λ(m:Sem (List (Str×ah)))=>m >>= λcs=>pure cs) this)
theorem qS {env:Env}{x:Str}:∀(l:List (Str×jx)) (acc:List (Str×ah)),((x,cf)∈l∨acc.lookup x=some ((env.cells.lookup x).getD 0))->(dD env l acc).lookup x=some ((env.cells.lookup x).getD 0)
 | [],acc,h=>h.elim (λz=>nomatch z) id
 |(y,k)::l,acc,h=>by
  rw[dD]
  cases hk:k==cf with
  |true=>
   refine qS l _ ?_;rw[if_pos rfl]
   by_cases e:x=y
   ·subst e;right;rw[uQ,if_pos rfl]
   ·rcases h with h|h
    ·rcases bg.mp h with h|h
     ·cases h;exact absurd rfl e
     ·exact .inl h
    ·right;rw[uQ,if_neg e];exact h
  |false=>
   refine qS l _ ?_
   rcases h with h|h
   ·rcases bg.mp h with h|h
    ·cases h;simp at hk
    ·exact .inl h
   ·exact .inr h
structure BlkCells (h h':cz) (names:List (Str×jx)) (acc cs:List (Str×ah)):Prop where
 cases:∀x c,cs.lookup x=some c->acc.lookup x=some c∨(h.objs.size<=c/\h'.IsCell c none/\(x,dv)∈names)
 own:∀x,(x,dv)∈names->∃c,cs.lookup x=some c
 old:∀x,(x,dv)∉names->cs.lookup x=acc.lookup x
 inj:(∀x y c,acc.lookup x=some c->acc.lookup y=some c->x=y)->(∀x c,acc.lookup x=some c->c<h.objs.size)->∀x y c,cs.lookup x=some c->cs.lookup y=some c->x=y
theorem qT:∀(names:List (Str×jx)) (h:cz) (acc:List (Str×ah)),BlkCells h (pushCells h names) names acc (cellsFrom h.objs.size names acc)
 | [],h,acc=>{ cases:=λ_ _ e=>.inl e,own:=λ_ z=>(nomatch z),old:=λ_ _=>rfl,inj:=λa _=>a }
 |(y,k)::r,h,acc=>by
  cases hk:k==dv with
  |true=>
   have ek:k=.cell:=by cases k <;> first|rfl|cases hk
   subst ek;have ih:=qT r (h.push { cls:=.type "cell",data:=.cell none }) ((y,h.objs.size)::acc);have e1:pushCells h ((y,dv)::r)=pushCells (h.push { cls:=.type "cell",data:=.cell none }) r:=rfl;have e2:cellsFrom h.objs.size ((y,dv)::r) acc=cellsFrom (h.push { cls:=.type "cell",data:=.cell none }).objs.size r ((y,h.objs.size)::acc):=by rw[dw];rfl
   rw[e1,e2];have look:∀x,((y,h.objs.size)::acc).lookup x=if x=y then some h.objs.size else acc.lookup x:=λx=>uQ ..
   refine⟨λx c e=>?_,λx hx=>?_,λx hx=>?_,λh1 h2 x z c ex ez=>?_⟩
   ·rcases ih.cases x c e with q|⟨q1,q2,q3⟩
    ·rw[look]at q
     by_cases exy:x=y
     ·rw[if_pos exy]at q;cases q;refine .inr ⟨aj _,⟨_,ph r _ _ _ (bc _ rfl),rfl⟩,by rw[exy];exact bh ..⟩
     ·rw[if_neg exy]at q;exact .inl q
    ·rw[dw]at q1;exact .inr ⟨Nat.le_of_succ_le q1,q2,ax _ q3⟩
   ·by_cases hr:(x,dv)∈r
    ·exact ih.own x hr
    ·rw[ih.old x hr,look]
     rcases bg.mp hx with z|z
     ·cases z;exact⟨_,if_pos rfl⟩
     ·exact absurd z hr
   ·rw[ih.old x λz=>hx (ax _ z),look,if_neg]
    rintro rfl
    exact hx (bh ..)
   ·refine ih.inj ?_ ?_ x z c ex ez
    ·intro a b c ea eb;rw[look]at ea eb
     by_cases qa:a=y
     ·rw[if_pos qa]at ea;cases ea
      by_cases qb:b=y
      ·exact qa.trans qb.symm
      ·rw[if_neg qb]at eb;exact absurd (h2 b _ eb) (gh _)
     ·rw[if_neg qa]at ea
      by_cases qb:b=y
      ·rw[if_pos qb]at eb;cases eb;exact absurd (h2 a _ ea) (gh _)
      ·rw[if_neg qb]at eb;exact h1 a b c ea eb
    ·intro a c ea;rw[dw];rw[look]at ea
     by_cases qa:a=y
     ·rw[if_pos qa]at ea;cases ea;exact ji _
     ·rw[if_neg qa]at ea;exact ja (h2 a c ea)
  |false=>
   have ih:=qT r h acc;have e1:pushCells h ((y,k)::r)=pushCells h r:=by rw[pushCells,hk];rfl
   have e2:cellsFrom h.objs.size ((y,k)::r) acc=cellsFrom h.objs.size r acc:=by rw[cellsFrom,hk];rfl
   rw[e1,e2];have nk:∀x,(x,dv)∈(y,k)::r->(x,dv)∈r:=λx z=>by
    rcases bg.mp z with z|z
    ·cases z;simp at hk
    ·exact z
   exact⟨λx c e=>(ih.cases x c e).imp id λ⟨a,b,c⟩=>⟨a,b,ax _ c⟩,λx hx=>ih.own x (nk x hx),λx hx=>ih.old x λz=>hx (ax _ z),ih.inj⟩
def GV (scope:gy) (env:Env) (L:ah):Env:={ scope:=relabel scope env,locals:=L,globals:=env.globals,cells:=cellsFrom (L+1) scope.names (dD env scope.names []),qual:=env.qual,func:=none,code:=env.code,frame:=env.frame,builtins:=env.builtins }
theorem RW {M:Model}{A:cx}{E:af->ag->Prop}{s:ag}{scope:gy}{env:Env}{cl:List (Str×ah)}{qual:Str}{g:ah}{Q:Env->ag->Prop}
  (h:Q { scope:=scope,locals:=s.heap.objs.size,globals:=g,cells:=cellsFrom (s.heap.objs.size+1) scope.names cl,qual:=qual,func:=none,code:=env.code,frame:=env.frame,builtins:=env.builtins }
   { s with heap:=pushCells (s.heap.push { cls:=.type "dict",data:=.dict #[] }) scope.names }):
  wpAny M A (newFunctionEnv scope g cl [] qual none .none (some env)) Q E s:=by
 simp only[newFunctionEnv,Ak,if_true];refine aa (wpAny_alloc ?_);refine aa (wpAny_layCells _ (λname kind cells=>by cases hkc:kind==dv <;> simp[hkc]) _ _ _ _ ?_);rw[show({ s with heap:=s.heap.push { cls:=.type "dict",data:=.dict #[] } }:ag).heap.objs.size=s.heap.objs.size+1 from dw ..];exact aa (ai (ai h))
def cL (X:Cx) (scope:gy) (N:List Str) (s:ag) (H:Hp) (ex:List ah):Cx:={ X with N:=N,s₀:=s,H₀:=H,env:=GV scope X.env s.heap.objs.size,outer:=X.stack,stack:=X.stack,ex:=ex,fn:=λx=>scope.names.lookup x==some .cell,xe:=λ_ _=>False }
def pC (cap:List (Option Nat)) (σ:St):St:=cap.map λo=>match o with|some j=>(σ[j]?).getD none|none=>none
structure CapOk (X:Cx) (scope:gy) (N:List Str) (cap:List (Option Nat)):Prop where
 kind:scope.kind=.function
 nd:∀x∈scope.names,x.2=.local->scope.names.lookup x.1=some .local
 len:cap.length=N.length
 free:∀x,(x,cf)∈scope.names->X.env.kindOf x=some .cell∨X.env.kindOf x=some .free
 apart:∀x,(x,cf)∈scope.names->(x,dv)∉scope.names
 cap:∀(i j:Nat) (x:Str),cap[i]?=some (some j)->N[i]?=some x->X.N[j]?=some x/\(x,cf)∈scope.names/\(relabel scope X.env).names.lookup x≠some .local
theorem AB {scope:gy}{env:Env}{x:Str}:∀{l:List (Str×jx)}{k:jx},(l.map λ(n,k)=>if(k==cf&&env.scope.kind==.function&&env.kindOf n==some .cell)then(n,dv)else(n,k)).lookup x=some k->
  (x,k)∈l∨(k=.cell/\(x,cf)∈l)
 | [],_,h=>by simp at h
 |(n,q)::r,k,h=>by
  have ih:=@AB scope env x r k;rw[dg]at h
  by_cases hc:(q==cf&&env.scope.kind==.function&&env.kindOf n==some .cell)=true
  ·have hq:q=.free:=by
    have:(q==cf)=true:=by
     cases z:q==cf with
     |true=>rfl
     |false=>rw[z]at hc;simp at hc
    cases q <;> first|rfl|cases this
   dsimp only at h;rw[if_pos hc,gw]at h
   cases e:x==n with
   |true=>rw[e]at h;have h':dv=k:=cy h;subst h';have ex:=beq_iff_eq.mp e;subst ex;subst hq;exact .inr ⟨rfl,bh ..⟩
   |false=>rw[e]at h;exact(ih h).imp (ax _) λ⟨a,b⟩=>⟨a,ax _ b⟩
  ·dsimp only at h;rw[if_neg hc,gw]at h
   cases e:x==n with
   |true=>rw[e]at h;have h':q=k:=cy h;subst h';have ex:=beq_iff_eq.mp e;subst ex;exact .inl (bh ..)
   |false=>rw[e]at h;exact(ih h).imp (ax _) λ⟨a,b⟩=>⟨a,ax _ b⟩
theorem uR {env:Env}{x:Str}{c:ah}:∀(l:List (Str×jx)) (acc:List (Str×ah)),(dD env l acc).lookup x=some c->acc.lookup x=some c∨((x,cf)∈l/\c=(env.cells.lookup x).getD 0)
 | [],acc,h=>.inl h
 |(y,k)::l,acc,h=>by
  rw[dD]at h
  cases hk:k==cf with
  |true=>
   have ek:k=.free:=by cases k <;> first|rfl|cases hk
   subst ek;rw[if_pos hk]at h
   rcases uR l _ h with q|⟨q1,q2⟩
   ·rw[uQ]at q
    by_cases e:x=y
    ·rw[if_pos e]at q;subst e;exact .inr ⟨bh ..,(cy q).symm⟩
    ·rw[if_neg e]at q;exact .inl q
   ·exact .inr ⟨ax _ q1,q2⟩
  |false=>rw[if_neg (by rw[hk];exact fz)]at h;exact(uR l _ h).imp id λ⟨a,b⟩=>⟨ax _ a,b⟩
section
variable{X:Cx}{pins:List (ah×Obj)}{σ:St}{H:Hp}{s:ag}{scope:gy}{N:List Str}{cap:List (Option Nat)}{ex:List ah}
theorem uS (I:Inv X pins σ H s) (C:CapOk X scope N cap) {x:Str}{c:ah}(e:(dD X.env scope.names []).lookup x=some c):(x,cf)∈scope.names/\X.env.cells.lookup x=some c:=by
 rcases uR _ _ e with q|⟨q1,q2⟩
 ·cases q
 ·obtain⟨c',h'⟩:=I.ok.has x (C.free x q1);rw[h']at q2;subst q2;exact⟨q1,h'⟩
theorem uT (I:Inv X pins σ H s) (C:CapOk X scope N cap) {x:Str}{c:ah}(e:(GV scope X.env s.heap.objs.size).cells.lookup x=some c):
  (X.env.cells.lookup x=some c/\(x,cf)∈scope.names)∨(s.heap.objs.size<c/\(pushCells (s.heap.push { cls:=.type "dict",data:=.dict #[] }) scope.names).IsCell c none/\(x,dv)∈scope.names):=by
 have B:=qT scope.names (s.heap.push { cls:=.type "dict",data:=.dict #[] }) (dD X.env scope.names []);rw[dw]at B
 rcases B.cases x c e with q|⟨q1,q2,q3⟩
 ·obtain⟨a,b⟩:=uS I C q;exact .inl ⟨b,a⟩
 ·rw[dw]at q1;exact .inr ⟨q1,q2,q3⟩
theorem GW (I:Inv X pins σ H s) (C:CapOk X scope N cap) (hex:∀b∈ex,dO X pins H b/\b<s.heap.objs.size):(cL X scope N s H ex).Ok:=by
 have B:=qT scope.names (s.heap.push { cls:=.type "dict",data:=.dict #[] }) (dD X.env scope.names []);rw[dw]at B;have kf:∀x,(x,cf)∈scope.names->∃c,X.env.cells.lookup x=some c:=λx hx=>I.ok.has x (C.free x hx);refine⟨I.ok.mod,C.kind,I.ok.glob,I.ok.blt,aj _, ?_, ?_, ?_,I.ok.hd,I.ok.frames,.inl rfl, ?_,I.bs,cq I.ok.bsz I.sz, ?_, ?_,I.stack,I.stkFree⟩
 ·refine B.inj (λx y c e1 e2=>?_) λx c e=>?_
  ·exact I.ok.inj x y c (uS I C e1).2 (uS I C e2).2
  ·obtain⟨v,q⟩:=I.cell x c (uS I C e).2;rw[dw];exact ja q.lt
 ·intro x hx;have hx':(relabel scope X.env).names.lookup x=some .cell∨(relabel scope X.env).names.lookup x=some .free:=hx;have mem:(x,dv)∈scope.names∨(x,cf)∈scope.names:=by
   rcases hx' with h|h
   ·rcases AB (scope:=scope) h with q|⟨_,q⟩
    ·exact .inl q
    ·exact .inr q
   ·rcases AB (scope:=scope) h with q|⟨z,q⟩
    ·exact .inr q
    ·exact .inr q
  by_cases hc:(x,dv)∈scope.names
  ·exact B.own x hc
  ·rcases mem with h|h
   ·exact absurd h hc
   ·exact⟨_,(B.old x hc).trans (qS _ _ (.inl h))⟩
 ·intro x c hf e;have hf':(scope.names.lookup x==some .cell)=true:=hf;have hm:(x,dv)∈scope.names:=fg (eq_of_beq hf')
  rcases uT I C e with⟨_,q⟩|⟨q,_⟩
  ·exact absurd hm (C.apart x q)
  ·exact gu q
 ·intro b hb;obtain⟨⟨f0,f1,f2,f3,f4,f5⟩,hlt⟩:=hex b hb;refine⟨bf hlt,λx c e z=>?_⟩
  rcases uT I C e with⟨q,_⟩|⟨q,_⟩
  ·exact f4 x c q z
  ·subst z;exact gh _ (Nat.lt_trans q hlt)
 ·intro b o e hb;obtain⟨⟨f0,f1,f2,f3,f4,f5⟩,hlt⟩:=hex b hb
  rcases f3 with q|q
  ·exact I.ok.noex b o e q
  ·exact gh _ (av (aq e) (cq I.ok.bsz q))
 ·intro b hb z;obtain⟨⟨f0,f1,f2,f3,f4,f5⟩,hlt⟩:=hex b hb
  rcases bg.mp (I.stkSub b z)with q|q
  ·exact f1 q
  ·exact f2 q
theorem RX (I:Inv X pins σ H s) (C:CapOk X scope N cap) (hex:∀b∈ex,dO X pins H b/\b<s.heap.objs.size):
  Inv (cL X scope N s H ex) pins (pC cap σ) H { s with heap:=pushCells (s.heap.push { cls:=.type "dict",data:=.dict #[] }) scope.names }:=by
 have B:=qT scope.names (s.heap.push { cls:=.type "dict",data:=.dict #[] }) (dD X.env scope.names []);rw[dw]at B;have kp:∀b o,s.heap.get? b=some o->(pushCells (s.heap.push { cls:=.type "dict",data:=.dict #[] }) scope.names).get? b=some o:=λb o e=>ph _ _ _ _ (ak _ e);have ns:(pushCells (s.heap.push { cls:=.type "dict",data:=.dict #[] }) scope.names).Ns s.heap.objs.size (λ_=>none):=⟨_,#[],_,ph _ _ _ _ (bc _ rfl),rfl,(λe he=>absurd he (by simp)),λ_=>rfl⟩
 obtain⟨m,hn,hl⟩:=I.loc;refine⟨GW I C hex,rfl,I.bare,Un.kept kp,⟨_,ns,λi x v h1 h2 h3=>?_⟩,λx c e=>?_,I.hok.fresh (aj _),λx c e=>?_,λp hp=>?_,I.hok.kept kp, ?_⟩
 ·have h2':(cap.map λo=>match o with|some j=>(σ[j]?).getD none|none=>none)[i]?=some (some v):=h2;rw[dk]at h2'
  cases q:cap[i]? with
  |none=>rw[q]at h2';cases h2'
  |some o=>
   rw[q]at h2'
   cases o with
   |none=>cases h2'
   |some j=>
    have e1:(σ[j]?).getD none=some v:=cy h2';have e2:σ[j]?=some (some v):=by
     cases z:σ[j]? with
     |none=>rw[z]at e1;cases e1
     |some w=>rw[z]at e1;exact congrArg some e1
    obtain⟨c1,c2,c3⟩:=C.cap i j x q h1;have vis:oX X.env.scope x:=by
     rcases C.free x c2 with z|z
     ·exact .inr (.inl z)
     ·exact .inr (.inr z)
    obtain⟨u,r,l⟩:=hl j x v c1 e2 vis;refine⟨u,r, ?_⟩
    rcases l with⟨hk,hm⟩|⟨hk,c,hc,hcell⟩
    ·rcases C.free x c2 with z|z
     ·rw[z]at hk;cases hk
     ·rw[z]at hk;cases hk
    ·refine .inr ⟨?_,c, ?_, ?_⟩
     ·have h3':oX (relabel scope X.env) x:=h3
      rcases h3' with z|z|z
      ·exact absurd z c3
      ·exact .inl z
      ·exact .inr z
     ·have:=(B.old x (C.apart x c2)).trans (qS _ _ (.inl c2));rw[hc]at this;exact this
     ·obtain⟨o,ho,hd⟩:=hcell;exact⟨o,kp _ _ ho,hd⟩
 ·rcases uT I C e with⟨q,_⟩|⟨_,q,_⟩
  ·obtain⟨v,o,ho,hd⟩:=I.cell x c q;exact⟨v,o,kp _ _ ho,hd⟩
  ·exact⟨none,q⟩
 ·rcases uT I C e with⟨q,_⟩|⟨q,_⟩
  ·exact I.freeC x c q
  ·exact I.hok.fresh (gu q)
 ·obtain⟨a1,a2,a3,a4,a5⟩:=I.pin p hp;refine⟨kp _ _ a1,a2,bf (aq a1),λz=>?_,a5⟩
  rcases bg.mp (I.stkSub _ z)with q|q
  ·exact a3 q
  ·exact a4 q
 ·show(cap.map _).length=N.length;rw[bj];exact C.len
theorem RY (I:Inv X pins σ H s) (C:CapOk X scope N cap) (hex:∀b∈ex,dO X pins H b/\b<s.heap.objs.size):∀b∈ex,dO (cL X scope N s H ex) pins H b:=by intro b hb;obtain⟨⟨f0,f1,f2,f3,f4,f5⟩,hlt⟩:=hex b hb;have ok:=GW (N:=N) I C hex;exact⟨f0,(ok.exf b hb).1,ok.exfs b hb,.inl hb,(ok.exf b hb).2,f5⟩
theorem RZ {σ':St}{H':Hp}{s':ag}{h':cz}(I:Inv X pins σ H s) (hex:∀b∈ex,dO X pins H b/\b<s.heap.objs.size) (I':Inv (cL X scope N s H ex) pins σ' H' s') (hh:gz s.heap.objs.size s'.heap h'):
  Inv X pins σ H' { s' with heap:=h' }:=by
 have u:Un (dS X.stack) ex H H' s.heap s'.heap:=I'.base;have up:∀b o o',s.heap.get? b=some o->s'.heap.get? b=some o'->h'.get? b=some o':=λb o o' e e'=>(hh.2 b (bf (aq e))).trans e';have hL:H' s.heap.objs.size=none:=I'.free;refine I.call' (s':={ s' with heap:=h' }) (ch:=ex) I'.os ⟨λb o q n hb hx=>up b o o q (u.keep b o q n hb hx),λb o q n hb hx=>?_,u.free,λb o q hx=>?_,u.tups,u.frzs,u.tbls⟩ (λb o e=>?_) I'.bare λb hb=>?_
 ·obtain⟨sl,e⟩:=u.slot b o q n hb hx;exact⟨sl,up b o _ q e⟩
 ·obtain⟨o',e⟩:=u.there b o q hx;exact⟨o',up b o _ q e⟩
 ·refine(I'.hok b o e).stay (λc v hc q=>(hh.2 c ?_).trans q) (λ_ q=>q) λ_ _ q=>q
  rcases hc with z|z
  ·rw[z];rintro rfl;rw[hL]at e;cases e
  ·rintro rfl;rw[hL]at z;cases z
 ·obtain⟨⟨f0,f1,f2,f3,f4,f5⟩,hlt⟩:=hex b hb;exact⟨f3,f1,f4,f5⟩
theorem Inv.adopt {a:ah}{o:HO}(I:Inv X pins σ H s) (f:dO X pins H a) (ha:X.s₀.heap.objs.size<=a) (new:ObjOk X.prog X.w (aW H a o) s.heap a o):Inv X pins σ (aW H a o) s:=by
 obtain⟨f0,f1,f2,f3,f4,f5⟩:=f;have ne0:∀b ob,X.s₀.heap.get? b=some ob->b≠a:=λb ob e z=>by subst z;exact gh _ (av (aq e) ha)
 refine⟨I.ok,I.os,I.bare,⟨I.base.keep,I.base.slot,λb ob e n hx=>by rw[bT (ne0 b ob e)];exact I.base.free b ob e n hx,I.base.there,λb xs e=>?_,λb ob u e=>?_,λb ps e=>?_⟩,I.loc,I.cell,by rw[bT (da f1)];exact I.free,
  λx c e=>by rw[bT (f4 x c e)];exact I.freeC x c e,λp hp=>?_,λb u e=>?_,I.len⟩
 ·have:=I.base.tups b xs e;rw[bT (fF this f0)];exact this
 ·have:=I.base.frzs b ob u e;rw[bT (fF this f0)];exact this
 ·obtain⟨more,this⟩:=I.base.tbls b ps e;exact⟨more,by rw[bT (fF this f0)];exact this⟩
 ·obtain⟨a1,a2,a3,a4,a5⟩:=I.pin p hp;exact⟨a1,by rw[bT (f5 p hp)];exact a2,a3,a4,a5⟩
 ·by_cases hb:b=a
  ·subst hb;rw[cU]at e;cases e;exact new
  ·rw[bT hb]at e;exact(I.hok b u e).stay (λ_ _ _ q=>q) (λc q=>by rw[bT (fF q f0)];exact q) λc xs q=>by rw[bT (fF q f0)];exact q
end
def AccAt (s:ag) (D:ah) (xs:List V):Prop:=xs.length<=cj/\∃(its:List af) (n:Nat),Vals xs its/\s.heap.get? D=some { cls:=.type "list",data:=.seq its.toArray n }
abbrev TC:=St->Hp->List V->(St->Hp->List V->Prop)->Prop
def PCl (X:Cx) (D:ah) (m:Sem Unit) (t:TC):Prop:=
 ∀(pins:List (ah×Obj)) (s:ag) (σ:St) (H:Hp) (xs:List V) (K:St->Hp->List V->Prop),Inv X pins σ H s->AccAt s D xs->dO X pins H D->t σ H xs K->
  wpAny (model X.prog X.w) X.A m (λ_ s'=>∃σ' H' xs',Inv X pins σ' H' s'/\AccAt s' D xs'/\H' D=none/\K σ' H' xs') X.xe s
section
variable{X:Cx}{D:ah}
theorem AccAt.obj {s:ag}{xs:List V}(a:AccAt s D xs):∃o,s.heap.get? D=some o/\∀v,o.data≠.cell v:=by obtain⟨_,its,n,_,e⟩:=a;exact⟨_,e,λv z=>nomatch z⟩
theorem Inv.pinD {pins:List (ah×Obj)}{s:ag}{σ:St}{H:Hp}{xs:List V}(I:Inv X pins σ H s) (a:AccAt s D xs) (f:dO X pins H D):Inv X (pins++jO [D] s.heap) σ H s:=
 I.pinned (λb hb=>by (have e:b=D:=by simpa using hb);subst e;exact f) λb hb=>by
  have e:b=D:=by simpa using hb
  subst e;exact a.obj
theorem Inv.atD {pins:List (ah×Obj)}{s s':ag}{σ':St}{H':Hp}{xs:List V}(a:AccAt s D xs) (I:Inv X (pins++jO [D] s.heap) σ' H' s'):AccAt s' D xs/\H' D=none:=by obtain⟨z,its,n,r,e⟩:=a;have:=I.pin (D,_) (cm _ (cm _ (oY (by simp) e)));exact⟨⟨z,its,n,r,this.1⟩,this.2.1⟩
def GX (te:TE):TC:=λσ H xs K=>te σ H λv H1=>xs.length<cj/\K σ H1 (xs++[v])
theorem uU {elt:bp}{te:TE}(he:PE X elt te):PCl X D (do let x <-eval elt X.env;let _ <-call (.builtin "list.append") [.ref D,x];pure ()) (GX te):=by
 intro pins s σ H xs K I a f h;refine aa (bD (he _ s σ H _ (I.pinD a f) h) λu s1 ⟨v,H1,I1,r1,hz,q1⟩=>?_);obtain⟨a1,n1⟩:=Inv.atD a I1;have I1':=I1.unpinned;obtain⟨z,its,n,r,e⟩:=a1;have hl:=r.length;refine aa (tj F.slot_list_append ⟨_,e,rfl⟩ F.entry_list_append (F.args_list_append_2 _ _) (PySem.list_append D its.toArray n u (by rw[ar];omega)) ⟨e, ?_⟩);have q:=Ab e (·.push u);have e2:its.toArray.push u=(its++[u]).toArray:=by simp
 rw[e2]at q;refine ai ⟨σ,H1,xs++[v], ?_,⟨by rw[bq,Ac];omega,its++[u],_,r.append (.cons r1 .nil),q⟩,n1,q1⟩;obtain⟨f0,f1,f2,f3,f4,f5⟩:=f;exact I1'.turned (t':=s1.toks) (λb o hb z=>(mm s1.heap _ (da hb)).trans z) n1 f1 f3 f4 f5
def GY (ifs:List bp) (env:Env):Sem Bool:=forIn ifs true λc r=>if r=true then do let ok <-isTrue c env (eval c env);pure (qk ok)else pure (qk r)
def PTs (X:Cx) (ifs:List bp) (t:TT):Prop:=∀(pins:List (ah×Obj)) (s:ag) (σ:St) (H:Hp) (Q:Bool->Hp->Prop),Inv X pins σ H s->t σ H Q->wpAny (model X.prog X.w) X.A (GY ifs X.env) (TP X pins σ Q) X.xe s
def R0:TT:=λ_ H Q=>Q true H
theorem R3:PTs X [] R0:=λpins s σ H Q I h=>wpAny_tests_nil ⟨H,I,h⟩
theorem R4 {c:bp}{t:TT}(h:PT X c t):PTs X [c] t:=λpins s σ H Q I q=>wpAny_tests_one (h pins s σ H Q I q)
def kU (p:Pos) (it:af) (tg:bp) (ifs:List bp) (env:Env) (inner:Sem Unit) (c:Code):Sem PySem.Fin:=do
 standAt p
 match <-pyNext it with
 |none=>pure (.done .next)
 |some v=>do
  letOwnedTupleGo tg it v
  assign tg env v
  let ok <-GY ifs env
  if ok=true then do inner;again c
  else again c
def qU (J:It) (g:TG) (tt:TT) (inner:TC) (K:St->Hp->List V->Prop) (σ:St) (H:Hp) (xs:List V):Prop:=
 ∃W:Nat->Nat->St->Hp->List V->Prop,(∃m,W 0 m σ H xs)/\∀i m σ H xs,W i m σ H xs->
  (J.stop i H/\K σ H xs)∨(J.go i H/\∃N:St->Hp->List V->Prop,(∀σ' H' xs',N σ' H' xs'->∃m',m'<m/\W (i+1) m' σ' H' xs') /\
   ∀x H',J.yld i H x H'->g x σ H' λσ2 H2=>tt σ2 H2 λb H3=>if b=true then inner σ2 H3 xs N else N σ2 H3 xs)
theorem GZ {elt:bp}{gens:List js}{sc:gy}{ps:Pos}{d:Nat}{it:ah}{tg:bp}{ifs:List bp}{p:Pos}{inner:Sem Unit}{g:TG}{tt:TT}{ti:TC}{J:It}{fp:List ah}{tn:Nat->cz->Prop}
  (hx:X.xe=λ_ _=>False) (hc:X.calm=true)
  (ht:compTurn (.ListComp elt gens sc ps) d (.ref it) (.ref D) X.env=kU p (.ref it) tg ifs X.env inner (.compLoop (.ListComp elt gens sc ps) d (.ref it) (.ref D) X.env))
  (hg:PG X tg g) (htt:PTs X ifs tt) (hi:PCl X D inner ti) (T:Turn X.prog X.w X.K tg J fp it tn)
  {pins:List (ah×Obj)}{s:ag}{σ:St}{H:Hp}{xs:List V}{K:St->Hp->List V->Prop}{R:zw->ag->Prop}(I:Inv X pins σ H s) (a:AccAt s D xs) (f:dO X pins H D) (st:tn 0 s.heap) (hf:∀b∈fp,dO X pins H b) (hD:D∉fp)
  (h:qU J g tt ti K σ H xs) (hR:∀σ' H' xs' s',Inv X pins σ' H' s'->AccAt s' D xs'->H' D=none->K σ' H' xs'->R (.ok .next) s'):
  codeAny (model X.prog X.w) X.A (.compLoop (.ListComp elt gens sc ps) d (.ref it) (.ref D) X.env) R s:=by
 obtain⟨W,⟨m0,w0⟩,turn⟩:=h;have stat:∀{H':Hp},(∀b∈fp,H' b=none)->∀b∈fp,dO X pins H' b:=λhn b hb=>⟨hn b hb,(hf b hb).2⟩
 have statD:∀{H':Hp},H' D=none->dO X pins H' D:=λhn=>⟨hn,f.2⟩
 refine codeAny_loop rfl (λn s'=>∃i σ' H' xs',Inv X pins σ' H' s'/\AccAt s' D xs'/\H' D=none/\tn i s'.heap/\(∀b∈fp,H' b=none)/\W i n σ' H' xs') ?_ m0 ⟨0,σ,H,xs,I,a,f.1,st,λb hb=>(hf b hb).1,w0⟩
 rintro n s3 ⟨i,σ3,H3,xs3,I3,a3,n3,st3,fr3,w3⟩
 show wpAny _ X.A ((compTurn (.ListComp elt gens sc ps) d (.ref it) (.ref D) X.env).onRaise (λx=>do noteFrame x X.env;theTreesLotGoes x)) _ _ s3;rw[ht];refine sf (kg (Q:=λfin s'=>match fin with | .done f=>R (.ok f) s' | .again c'=>c'=.compLoop (.ListComp elt gens sc ps) d (.ref it) (.ref D) X.env/\∃m,m<n/\∃i σ' H' xs',Inv X pins σ' H' s'/\AccAt s' D xs'/\H' D=none/\tn i s'.heap/\(∀b∈fp,H' b=none)/\W i m σ' H' xs') (E:=λ_ _=>False) ?_ (λ_ _ z=>z) λ_ _ z=>z.elim);unfold kU;refine aa (sd (aa ?_));have xe':∀{α:Type}{m:Sem α}{Q:α->ag->Prop}{s:ag},wpAny (model X.prog X.w) X.A m Q X.xe s->wpAny (model X.prog X.w) X.A m Q (λ_ _=>False) s:=λ{α m Q s} z=>by rw[hx]at z;exact z
 have I3':=I3.pinD a3 (statD n3);have fr3':∀b∈fp,dO X (pins++jO [D] s3.heap) H3 b:=λb hb=>by
  obtain⟨g0,g1,g2,g3,g4,g5⟩:=stat fr3 b hb;refine⟨g0,g1,g2,g3,g4,λp hp=>?_⟩
  rcases bx.mp hp with z|z
  ·exact g5 p (jm _ z)
  ·rcases bx.mp z with z|z
   ·exact g5 p (cm _ z)
   ·have:=(zN z).1;have e:p.1=D:=by simpa using this
    rw[e];rintro rfl;exact hD hb
 rcases turn i n σ3 H3 xs3 w3 with⟨stop,qn⟩|⟨go,N,hN,step⟩
 ·refine bD (T.done X rfl rfl rfl hc i _ s3 σ3 H3 (λ_ _=>False) I3' fr3' st3 stop) λr s4 ⟨hr,I4⟩=>?_;subst hr;obtain⟨a4,n4⟩:=Inv.atD a3 I4;exact ai (hR σ3 H3 xs3 s4 I4.unpinned a4 n4 qn)
 ·refine bD (T.item X rfl rfl rfl hc i _ s3 σ3 H3 (λ_ _=>False) I3' fr3' st3 go) λr s4 ⟨u,hr,h4⟩=>?_;subst hr;refine aa (bD h4 λ_ s5 ⟨x,H5,I5,r5,y5,st5,fr5⟩=>?_);obtain⟨a5,n5⟩:=Inv.atD a3 I5;have I5u:=I5.unpinned;have I5p:=I5u.pinned (stat fr5) (T.obj _ _ st5);have fD5:dO X (pins++jO fp s5.heap) H5 D:=by
   obtain⟨g0,g1,g2,g3,g4,g5⟩:=statD n5;refine⟨g0,g1,g2,g3,g4,λp hp=>?_⟩
   rcases bx.mp hp with z|z
   ·exact g5 p (jm _ z)
   ·rcases bx.mp z with z|z
    ·exact g5 p (cm _ z)
    ·rintro rfl;exact hD (zN z).1
  have I5':=I5p.pinD a5 fD5;refine aa (xe' (bD (hg _ s5 σ3 H5 x u _ I5' r5 (step x H5 y5)) λ_ s6 ⟨σ6,H6,I6,q6⟩=>?_));obtain⟨a6,n6⟩:=Inv.atD a5 I6;have pin':∀{s σ H},Inv X (pins++jO fp s5.heap) σ H s->tn (i+1) s.heap/\∀b∈fp,H b=none:=λ{s σ H} J=>by refine⟨T.keep _ _ _ st5 λb hb o e=>(J.pin (b,o) (cm _ (cm _ (oY hb e)))).1,λb hb=>?_⟩;obtain⟨o,e,d⟩:=T.obj _ _ st5 b hb;exact(J.pin (b,o) (cm _ (cm _ (oY hb e)))).2.1
  have fD6:dO X (pins++jO fp s5.heap) H6 D:=⟨n6,fD5.2⟩
  have I6u:=I6.unpinned;have I6p:=I6u.pinD a6 fD6;refine aa (xe' (bD (htt _ s6 σ6 H6 _ I6p q6) λb s7 ⟨H7,I7,q7⟩=>?_));obtain⟨a7,n7⟩:=Inv.atD a6 I7;have I7u:=I7.unpinned;have fin:∀{s8 σ8 H8 xs8},Inv X (pins++jO fp s5.heap) σ8 H8 s8->AccAt s8 D xs8->H8 D=none->N σ8 H8 xs8->
    ∃m,m<n/\∃i σ' H' xs',Inv X pins σ' H' s8/\AccAt s8 D xs'/\H' D=none/\tn i s8.heap/\(∀b∈fp,H' b=none)/\W i m σ' H' xs':=λ{s8 σ8 H8 xs8} J a8 n8 q8=>by
   obtain⟨m',hm,w8⟩:=hN σ8 H8 xs8 q8;obtain⟨t8,fr8⟩:=pin' J;exact⟨m',hm,i+1,σ8,H8,xs8,J.unpinned,a8,n8,t8,fr8,w8⟩
  cases b with
  |true=>
   rw[if_pos rfl]at q7 ⊢;have fD7:dO X (pins++jO fp s5.heap) H7 D:=⟨n7,fD5.2⟩
   refine aa (xe' (bD (hi _ s7 σ6 H7 xs3 N I7u a7 fD7 q7) λ_ s8 ⟨σ8,H8,xs8,I8,a8,n8,q8⟩=>?_));exact ai ⟨rfl,fin I8 a8 n8 q8⟩
  |false=>rw[if_neg fz]at q7 ⊢;exact ai ⟨rfl,fin I7u a7 n7 q7⟩
end
theorem G1 (elt tg iter:bp) (ifs:List bp) (sc:gy) (ps:Pos) (it:af) (D:ah) (env:Env):
  compTurn (.ListComp elt [⟨tg,iter,ifs,0⟩] sc ps) 0 it (.ref D) env =
   kU iter.pos it tg ifs env (do let x <-eval elt env;let _ <-call (.builtin "list.append") [.ref D,x];pure ()) (.compLoop (.ListComp elt [⟨tg,iter,ifs,0⟩] sc ps) 0 it (.ref D) env):=by rfl
def pD (iter:bp) (e:bp) (d:Nat) (D:ah) (env:Env):Sem Unit:=do
 let x <-eval iter env
 standAt iter.pos
 let x <-foldedSetIterable iter env x
 let it <-holding [x] (pyIter x)
 let _ <-runOwn (.compStart e d it (.ref D) env) env
 pure ()
theorem G2 (elt tg iter tg' iter':bp) (ifs ifs':List bp) (sc:gy) (ps:Pos) (it:af) (D:ah) (env:Env):
  compTurn (.ListComp elt [⟨tg,iter,ifs,0⟩,⟨tg',iter',ifs',0⟩] sc ps) 0 it (.ref D) env =
   kU iter.pos it tg ifs env (pD iter' (.ListComp elt [⟨tg,iter,ifs,0⟩,⟨tg',iter',ifs',0⟩] sc ps) 1 D env) (.compLoop (.ListComp elt [⟨tg,iter,ifs,0⟩,⟨tg',iter',ifs',0⟩] sc ps) 0 it (.ref D) env):=by
 unfold kU pD;simp only[bind_assoc,pure_bind];rfl
theorem G3 (elt tg iter tg' iter':bp) (ifs ifs':List bp) (sc:gy) (ps:Pos) (it:af) (D:ah) (env:Env):
  compTurn (.ListComp elt [⟨tg,iter,ifs,0⟩,⟨tg',iter',ifs',0⟩] sc ps) 1 it (.ref D) env =
   kU iter'.pos it tg' ifs' env (do let x <-eval elt env;let _ <-call (.builtin "list.append") [.ref D,x];pure ()) (.compLoop (.ListComp elt [⟨tg,iter,ifs,0⟩,⟨tg',iter',ifs',0⟩] sc ps) 1 it (.ref D) env):=by rfl
section
variable{X:Cx}{D:ah}
theorem G4 {prog:bo}{w:cw}{A:cx}{R:zw->ag->Prop}{s:ag}{elt:bp}{gens:List js}{sc:gy}{ps:Pos}{d:Nat}{it acc:af}{env:Env}(ha:((gens)[d]?).elim false (·.is_async != 0)=false)
  (h0:codeAny (model prog w) A (.compLoop (.ListComp elt gens sc ps) d it acc env) R s)
  (h:wpAny (model prog w) A (pyIter it) (λit' s'=>codeAny (model prog w) A (.compLoop (.ListComp elt gens sc ps) d it' acc env) R s') (λ_ _=>False) s):
  codeAny (model prog w) A (.compStart (.ListComp elt gens sc ps) d it acc env) R s:=by
 refine codeAny_of_tree ?_;show wpAny _ _ ((compStart (.ListComp elt gens sc ps) d it acc env).onRaise (λx=>do noteFrame x env;standAt theWindowsPlace)) _ _ s;refine wpAny_notedAt (kg (E:=λ_ _=>False) ?_ (λ_ _ z=>z) λ_ _ z=>z.elim);unfold compStart;rw[show((clausesOf (.ListComp elt gens sc ps))[d]?).elim false (·.is_async != 0)=false from ha];simp only[cn,if_false];refine aa (lh (wpAny_ite ?_))
 split
 ·first
   |exact aa (ai (ai (And.intro rfl h0)))
   |exact ai (And.intro rfl h0)
 ·have fin:∀s:ag,wpAny (model prog w) A (pyIter it) (λit' s'=>codeAny (model prog w) A (.compLoop (.ListComp elt gens sc ps) d it' acc env) R s') (λ_ _=>False) s->
    wpAny (model prog w) A (do let it' <-pyIter it;again (.compLoop (.ListComp elt gens sc ps) d it' acc env)) (λfin s'=>match fin with | .done f=>R (.ok f) s' | .again c=>c.quiet=true/\codeAny (model prog w) A c R s') (λ_ _=>False) s:=λs h=>aa (kg h (λit' s' h'=>ai ⟨rfl,h'⟩) λ_ _ x=>x)
  refine aa (tm ?_);have ec:clausesOf (.ListComp elt gens sc ps)=gens:=rfl;rw[ec]
  cases q:gens[d]? with
  |none=>exact fin s h
  |some g=>exact aa (sd (fin s h))
def G5 (wi:TI) (g:TG) (tt:TT) (inner:TC):TC:=λσ H xs K=>wi σ H λJ H1=>qU J g tt inner K σ H1 xs
theorem G6 {elt:bp}{gens:List js}{sc:gy}{ps:Pos}{d:Nat}{tg iter:bp}{ifs:List bp}{inner:Sem Unit}{wi:TI}{g:TG}{tt:TT}{ti:TC}
  (hx:X.xe=λ_ _=>False) (hc:X.calm=true) (ha:((gens)[d]?).elim false (·.is_async != 0)=false)
  (ht:∀it,compTurn (.ListComp elt gens sc ps) d (.ref it) (.ref D) X.env=kU iter.pos (.ref it) tg ifs X.env inner (.compLoop (.ListComp elt gens sc ps) d (.ref it) (.ref D) X.env))
  (hi:PI X tg iter wi) (hg:PG X tg g) (htt:PTs X ifs tt) (hin:PCl X D inner ti) (hs:∀x,foldedSetIterable iter X.env x=pure x):
  PCl X D (pD iter (.ListComp elt gens sc ps) d D X.env) (G5 wi g tt ti):=by
 intro pins s σ H xs K I a f h;unfold pD;refine aa (bD (hi _ s σ H _ (I.pinD a f) h) λv s1 h1=>aa (sd (aa (yy (hs v) (aa (gv (bD h1 λitv s2 h2=>?_)))))));obtain⟨it,fp,tn,J,H2,e,I2,T,st2,f2,lp⟩:=h2;subst e;obtain⟨a2,n2⟩:=Inv.atD a I2;have I2u:=I2.unpinned;have hpD:∀b∈fp,b≠D:=λb hb z=>by subst z;obtain⟨_,its,n,_,eo⟩:=a;exact(f2 b hb).2.2.2.2.2 (b,_) (cm _ (cm _ (oY (by simp) eo))) rfl
 have f2u:∀b∈fp,dO X pins H2 b:=λb hb=>by
  obtain⟨g0,g1,g2,g3,g4,g5⟩:=f2 b hb;exact⟨g0,g1,g2,g3,g4,λp hp=>g5 p (by
   rcases bx.mp hp with z|z
   ·exact jm _ z
   ·exact cm _ (jm _ z))⟩
 have fD:dO X pins H2 D:=⟨n2,f.2⟩
 refine aa (wpAny_runOwn ?_);have loop:codeAny (model X.prog X.w) X.A (.compLoop (.ListComp elt gens sc ps) d (.ref it) (.ref D) X.env) (λr s'=>match r with
   | .ok f=>wpAny (model X.prog X.w) X.A (pure ():Sem Unit) (λ_ s'=>∃σ' H' xs',Inv X pins σ' H' s'/\AccAt s' D xs'/\H' D=none/\K σ' H' xs') X.xe s'
   | .error e=>cameBackBy (model X.prog X.w) X.A X.env X.xe e s') s2:=
  GZ hx hc (ht it) hg htt hin T I2u a2 fD st2 f2u (λz=>hpD D z rfl) lp λσ' H' xs' s' I' a' n' k'=>ai ⟨σ',H',xs',I',a',n',k'⟩
 exact G4 ha loop (T.self _ 0 s2 _ _ st2 loop)
end
def AD (wi:TI) (cap:List (Option Nat)) (g:TG) (tt:TT) (inner:TC):TE:=λσ H Q=>wi σ H λJ H1=>qU J g tt inner (λ_ H' xs=>∀p,H' p=none->Q (.ref p) (aW H' p (.lst xs))) (pC cap σ) H1 []
section
variable{X:Cx}
theorem G7 {elt:bp}{gens:List js}{sc:gy}{ps:Pos}{tg iter:bp}{ifs:List bp}{rest:List js}{inner:ah->Env->Sem Unit}{g:TG}{tt:TT}{ti:TC}{N:List Str}{cap:List (Option Nat)}{E:af->ag->Prop}
  (hc:X.calm=true) (C:CapOk X sc N cap) (eg:gens=⟨tg,iter,ifs,0⟩::rest)
  (ht:∀it D env,compTurn (.ListComp elt gens sc ps) 0 (.ref it) (.ref D) env=kU iter.pos (.ref it) tg ifs env (inner D env) (.compLoop (.ListComp elt gens sc ps) 0 (.ref it) (.ref D) env))
  (hg:∀s H ex,PG (cL X sc N s H ex) tg g) (htt:∀s H ex,PTs (cL X sc N s H ex) ifs tt) (hin:∀s H ex D,PCl (cL X sc N s H ex) D (inner D (cL X sc N s H ex).env) ti)
  {pins:List (ah×Obj)}{s2:ag}{σ:St}{H2:Hp}{K:St->Hp->List V->Prop}{it:ah}{fp:List ah}{tn:Nat->cz->Prop}{J:It}(I2:Inv X pins σ H2 s2) (T:Turn X.prog X.w X.K tg J fp it tn) (st2:tn 0 s2.heap) (f2:∀b∈fp,dO X pins H2 b)
  (lp:qU J g tt ti K (pC cap σ) H2 []) {R:af->ah->zw->ag->Prop}
  (hR:∀σ' H' xs (s3 s':ag) (C D:ah),X.s₀.heap.objs.size<=D->C=s3.heap.objs.size->(∃m,s'.heap.Ns C m)->AccAt s' D xs->dO X pins H' D->dO X pins H' C->D<C->(∀h',gz C s'.heap h'->Inv X pins σ H' { s' with heap:=h' })->K σ' H' xs->R (.ref D) C (.ok .next) s'):
  wpAny (model X.prog X.w) X.A (newList []) (λacc s3=>wpAny (model X.prog X.w) X.A (newFunctionEnv sc X.env.globals (dD X.env sc.names []) [] X.env.qual none .none (some X.env)) (λcenv s4=>codeAny (model X.prog X.w) X.A (.compStart (.ListComp elt gens sc ps) 0 (.ref it) acc { cenv with scope:=relabel sc X.env }) (R acc cenv.locals) s4) E s3) E s2:=by
 refine fy (RW ?_);dsimp only;generalize hs3:({ s2 with heap:=s2.heap.push { cls:=.type "list",dict:=none,data:=.seq ([]:List af).toArray } }:ag)=s3;have kp:∀b o,s2.heap.get? b=some o->s3.heap.get? b=some o:=λb o e=>by rw[<-hs3];exact ak _ e
 have I3:Inv X pins σ H2 s3:=by rw[<-hs3];exact I2.kept (t':=s2.toks) λb o e=>ak _ e
 have eD:s3.heap.get? s2.heap.objs.size=some { cls:=.type "list",data:=.seq ([]:List af).toArray 0 }:=by rw[<-hs3];exact bc _ rfl
 have nD:H2 s2.heap.objs.size=none:=I2.hok.fresh (aj _);have fD:dO X pins H2 s2.heap.objs.size:=I2.fpOk (aj _) nD;have hlt:s2.heap.objs.size<s3.heap.objs.size:=aq eD;have hex:∀b∈s2.heap.objs.size::fp,dO X pins H2 b/\b<s3.heap.objs.size:=λb hb=>by
  rcases bg.mp hb with rfl|hb
  ·exact⟨fD,hlt⟩
  ·obtain⟨o,e,_⟩:=T.obj 0 _ st2 b hb;exact⟨f2 b hb,aq (kp b o e)⟩
 have hDfp:s2.heap.objs.size∉fp:=λz=>by obtain⟨o,e,_⟩:=T.obj 0 _ st2 _ z;exact gh _ (aq e)
 have I4:=RX (N:=N) (ex:=s2.heap.objs.size::fp) I3 C hex;have F4:=RY (N:=N) I3 C hex;have st4:tn 0 (pushCells (s3.heap.push { cls:=.type "dict",data:=.dict #[] }) sc.names):=T.keep 0 _ _ st2 λb hb o e=>ph _ _ _ _ (ak _ (kp b o e));have a4:AccAt { s3 with heap:=pushCells (s3.heap.push { cls:=.type "dict",data:=.dict #[] }) sc.names } s2.heap.objs.size []:=⟨jg _,[],0,.nil,ph _ _ _ _ (ak _ eD)⟩
 have loop:codeAny (model X.prog X.w) X.A (.compLoop (.ListComp elt gens sc ps) 0 (.ref it) (.ref s2.heap.objs.size) (cL X sc N s3 H2 (s2.heap.objs.size::fp)).env) (R (.ref s2.heap.objs.size) s3.heap.objs.size)
   { s3 with heap:=pushCells (s3.heap.push { cls:=.type "dict",data:=.dict #[] }) sc.names }:=by
  refine GZ (X:=cL X sc N s3 H2 (s2.heap.objs.size::fp)) rfl hc (ht it _ _) (hg _ _ _) (htt _ _ _) (hin _ _ _ _) T I4 a4 (F4 _ (bh ..)) st4 (λb hb=>F4 b (ax _ hb)) hDfp lp λσ' H' xs' s' I' a' n' k'=>?_;obtain⟨m,hn,_⟩:=I'.loc;exact hR σ' H' xs' s3 s' _ _ (cq I2.sz (aj _)) rfl ⟨m,hn⟩ a' ⟨n',fD.2⟩ (I3.fpOk (aj _) I'.free) hlt (λh' hh=>RZ I3 hex I' hh) k'
 have ha:((gens)[0]?).elim false (·.is_async != 0)=false:=by rw[eg];rfl
 subst hs3;exact G4 ha loop (T.self _ 0 _ _ _ st4 loop)
theorem G8 {elt:bp}{gens:List js}{sc:gy}{ps:Pos}{tg iter:bp}{ifs:List bp}{rest:List js}{inner:ah->Env->Sem Unit}{wi:TI}{g:TG}{tt:TT}{ti:TC}{N:List Str}{cap:List (Option Nat)}
  (hc:X.calm=true) (C:CapOk X sc N cap) (eg:gens=⟨tg,iter,ifs,0⟩::rest)
  (ht:∀it D env,compTurn (.ListComp elt gens sc ps) 0 (.ref it) (.ref D) env=kU iter.pos (.ref it) tg ifs env (inner D env) (.compLoop (.ListComp elt gens sc ps) 0 (.ref it) (.ref D) env))
  (hi:PI X tg iter wi) (hg:∀s H ex,PG (cL X sc N s H ex) tg g) (htt:∀s H ex,PTs (cL X sc N s H ex) ifs tt) (hin:∀s H ex D,PCl (cL X sc N s H ex) D (inner D (cL X sc N s H ex).env) ti)
  (hs:∀x,foldedSetIterable iter X.env x=pure x):PE X (.ListComp elt gens sc ps) (AD wi cap g tt ti):=by
 intro pins s σ H Q I h;rw[eval_ListComp];have hcl:closureFor sc X.env=pure (dD X.env sc.names []):=AA λx hx=>I.ok.has x (C.free x hx);have e1:firstAsync gens=false:=by rw[eg];rfl
 have e2:firstIter gens X.env=eval iter X.env:=by rw[eg];rfl
 rw[e1,e2];refine Au (use:=none) (g:=⟨tg,iter,ifs,0⟩) (gs:=rest) (by rw[eg];rfl) hs hcl C.kind C.nd (bD (hi pins s σ H _ I h) λv s1 h1=>bD h1 λitv s2 h2=>?_);obtain⟨it,fp,tn,J,H2,e,I2,T,st2,f2,lp⟩:=h2;subst e;refine G7 (N:=N) (inner:=inner) (R:=λacc C=>compPost (model X.prog X.w) X.A X.xe none (EP X pins σ Q) acc C) hc C eg ht hg htt hin I2 T st2 f2 lp ?_;intro σ' H' xs s3 s' C D hD0 hC hn a f fC hDC hout k;obtain⟨m,hn⟩:=hn;refine⟨m,hn,λh' hh=>?_⟩;have I5:=hout h' hh;obtain⟨hz,its,n,r,eD⟩:=a;have eD':h'.get? D=some { cls:=.type "list",data:=.seq its.toArray n }:=(hh.2 D (bf hDC)).trans eD;refine⟨.ref D,aW H' D (.lst xs),I5.adopt f hD0 ⟨hz,its,n,r,eD'⟩,rfl,k D f.1⟩
end
section
variable{X:Cx}
theorem G9 {i:Nat}{x:Str}{px pos:Pos}{elt:bp}{gens:List js}{sc:gy}{ps:Pos}{tg iter:bp}{ifs:List bp}{rest:List js}{inner:ah->Env->Sem Unit}{wi:TI}{g:TG}{tt:TT}{ti:TC}{N:List Str}{cap:List (Option Nat)}
  (hsw:swapsWith (.ListComp elt gens sc ps) (some (.Name x px)) pos.line X.env=pure true) (hN:X.N.Nodup) (hi':X.N[i]?=some x) (hx:X.env.scope.names.lookup x=some .local)
  (hc:X.calm=true) (C:CapOk X sc N cap) (eg:gens=⟨tg,iter,ifs,0⟩::rest)
  (ht:∀it D env,compTurn (.ListComp elt gens sc ps) 0 (.ref it) (.ref D) env=kU iter.pos (.ref it) tg ifs env (inner D env) (.compLoop (.ListComp elt gens sc ps) 0 (.ref it) (.ref D) env))
  (hi:PI X tg iter wi) (hg:∀s H ex,PG (cL X sc N s H ex) tg g) (htt:∀s H ex,PTs (cL X sc N s H ex) ifs tt) (hin:∀s H ex D,PCl (cL X sc N s H ex) D (inner D (cL X sc N s H ex).env) ti)
  (hs:∀x,foldedSetIterable iter X.env x=pure x):PS X (.Assign [.Name x px] (.ListComp elt gens sc ps) pos) (uJ (AD wi cap g tt ti) (zJ i)):=by
 intro pins s σ H D I h;rw[exec_Assign_Name_used _ _ _ _ hsw];have hcl:closureFor sc X.env=pure (dD X.env sc.names []):=AA λx hx=>I.ok.has x (C.free x hx);have e1:firstAsync gens=false:=by rw[eg];rfl
 have e2:firstIter gens X.env=eval iter X.env:=by rw[eg];rfl
 refine aa (sd (aa ?_));show wpAny _ X.A (do let _ <-comprehension (.ListComp elt gens sc ps) sc X.env (firstIterPos gens ps) (newList []) (firstAsync gens) (firstIter gens X.env) (some (assign (.Name x px) X.env))) _ _ s;rw[e1,e2];refine aa (bD (Au (use:=some (assign (.Name x px) X.env)) (Q:=λ_ s'=>SP X pins D .next s') (g:=⟨tg,iter,ifs,0⟩) (gs:=rest) (by rw[eg];rfl) hs hcl C.kind C.nd (bD (hi pins s σ H _ I h) λv s1 h1=>bD h1 λitv s2 h2=>?_)) λ_ s' hq=>ai (ai hq));obtain⟨it,fp,tn,J,H2,e,I2,T,st2,f2,lp⟩:=h2;subst e;refine G7 (N:=N) (inner:=inner) (R:=λacc C=>compPost (model X.prog X.w) X.A X.xe (some (assign (.Name x px) X.env)) (λ_ s'=>SP X pins D .next s') acc C) hc C eg ht hg htt hin I2 T st2 f2 lp ?_;intro σ' H' xs s3 s' C D' hD0 hC hn a f fC hDC hout k;obtain⟨m,hn⟩:=hn;have I5:Inv X pins σ H' s':=hout s'.heap (sv ..);obtain⟨hz,its,n,r,eD⟩:=a;have I6:Inv X pins σ (aW H' D' (.lst xs)) s':=I5.adopt f hD0 ⟨hz,its,n,r,eD⟩;show wpAny _ X.A (assign (.Name x px) X.env (.ref D')) _ _ s';obtain⟨c0,c1,c2,c3,c4,c5⟩:=fC;have nC:aW H' D' (.lst xs) C=none:=by rw[bT (da (bf hDC))];exact c0
 refine wpAny_assign_Name (FD (v:=V.ref D') I6 hN hi' (.inl hx) rfl (λs'' I7 ⟨a,sb,ha⟩=>?_) (.inr hx));have hCa:C≠a:=by
  rcases ha with z|z
  ·rw[z];exact c1
  ·exact da (c4 x a z)
 refine⟨m,hn.sameBut sb hCa,λh' hh=>?_⟩;have I8:Inv X pins (σ.set i (some (.ref D'))) (aW H' D' (.lst xs)) { s'' with heap:=h' }:=I7.turned (t':=s''.toks) (λb o hb e=>(hh.2 b hb).trans e) nC c1 c3 c4 c5;exact⟨_,_,I8,k D' f.1⟩
end
inductive Dt where
 |non|bl (b:Bool)|int (i:Int)|str (x:Str)|tup (xs:List Dt)|lst (xs:List Dt)|dct
mutual
def Den (P:ah->Prop) (H:Hp):Dt->V->Prop
 | .non,v=>v=.non
 | .bl b,v=>v=.bl b
 | .int i,v=>v=.int i
 | .str x,v=>v=.str x
 | .tup ds,v=>∃a vs,v=.ref a/\H a=some (.tup vs)/\DenL P H ds vs
 | .lst ds,v=>∃a vs,v=.ref a/\P a/\H a=some (.lst vs)/\DenL P H ds vs
 | .dct,v=>∃a,v=.ref a/\P a/\H a=some (.dK [])
def DenL (P:ah->Prop) (H:Hp):List Dt->List V->Prop
 | [],vs=>vs=[]
 |d::ds,vs=>∃v r,vs=v::r/\Den P H d v/\DenL P H ds r
end
theorem DenL.length {P:ah->Prop}{H:Hp}:∀{ds:List Dt}{vs:List V},DenL P H ds vs->vs.length=ds.length
 | [],vs,h=>by rw[DenL]at h;rw[h];rfl
 |d::ds,vs,h=>by rw[DenL]at h;obtain⟨v,r,rfl,_,h2⟩:=h;simp[DenL.length h2]
theorem DenL.get {P:ah->Prop}{H:Hp}:∀{ds:List Dt}{vs:List V}{i:Nat}{v:V},DenL P H ds vs->vs[i]?=some v->∃d,ds[i]?=some d/\Den P H d v
 | [],vs,i,v,h,e=>by rw[DenL]at h;rw[h]at e;simp at e
 |d::ds,vs,i,v,h,e=>by
  rw[DenL]at h;obtain⟨w,r,rfl,h1,h2⟩:=h
  cases i with
  |zero=>simp at e;subst e;exact⟨d,rfl,h1⟩
  |succ i=>simp at e;exact DenL.get (i:=i) h2 e
theorem DenL.nil {P:ah->Prop}{H:Hp}:DenL P H [] []:=by rw[DenL]
theorem DenL.cons {P:ah->Prop}{H:Hp}{d:Dt}{v:V}{ds:List Dt}{vs:List V}(h:Den P H d v) (t:DenL P H ds vs):DenL P H (d::ds) (v::vs):=by rw[DenL];exact⟨v,vs,rfl,h,t⟩
mutual
def bS:Dt->Dt->Bool
 | .non,.non=>true
 | .bl a,.bl b=>a==b
 | .bl a,.int j=>(if a then 1 else 0)==j
 | .int i,.bl b=>i==(if b then 1 else 0)
 | .int i,.int j=>i==j
 | .str x,.str y=>x==y
 | .tup xs,.tup ys=>eW xs ys
 | .lst xs,.lst ys=>eW xs ys
 |_,_=>false
def eW:List Dt->List Dt->Bool
 | [],[]=>true
 |x::xs,y::ys=>bS x y&&eW xs ys
 |_,_=>false
end
mutual
def fG:Dt->Nat
 | .tup xs=>kW xs+1
 | .lst xs=>kW xs+1
 |_=>0
def kW:List Dt->Nat
 | []=>0
 |x::xs=>max (fG x) (kW xs)
end
mutual
def nod:Dt->Bool
 | .tup xs=>jB xs
 | .lst xs=>jB xs
 | .dct=>false
 |_=>true
def jB:List Dt->Bool
 | []=>true
 |x::xs=>nod x&&jB xs
end
mutual
theorem AE:∀d:Dt,nod d=true->bS d d=true
 | .non,_=>rfl
 | .bl b,_=>by simp[bS]
 | .int i,_=>by simp[bS]
 | .str x,_=>by simp[bS]
 | .tup xs,h=>by rw[bS];exact AF xs (by rw[nod]at h;exact h)
 | .lst xs,h=>by rw[bS];exact AF xs (by rw[nod]at h;exact h)
 | .dct,h=>by simp[nod]at h
theorem AF:∀l:List Dt,jB l=true->eW l l=true
 | [],_=>rfl
 |x::xs,h=>by rw[jB,dj]at h;rw[eW,AE x h.1,AF xs h.2];rfl
end
theorem AG:∀{l:List Dt}{d:Dt},d∈l->fG d<=kW l
 |x::xs,d,h=>by
  rw[kW]
  rcases bg.mp h with rfl|h
  ·omega
  ·have:=AG h;omega
theorem qV:∀{l:List Dt}{d:Dt},jB l=true->d∈l->nod d=true
 |x::xs,d,h,hd=>by
  rw[jB,dj]at h
  rcases bg.mp hd with rfl|hd
  ·exact h.1
  ·exact qV h.2 hd
theorem qW:∀{xs ys:List Dt},xs.length=ys.length->eW xs ys=(ay xs.length).all λi=>bS (xs.getD i .non) (ys.getD i .non)
 | [],[],_=>rfl
 |x::xs,y::ys,h=>by rw[eW,qW (xs:=xs) (ys:=ys) (by simpa using h),cg,zq,List.all_cons,List.all_map];rfl
theorem qX:∀{xs ys:List Dt},xs.length≠ys.length->eW xs ys=false
 | [],[],h=>absurd rfl h
 | [],_::_,_=>rfl
 |_::_,[],_=>rfl
 |x::xs,y::ys,h=>by rw[eW,qX (xs:=xs) (ys:=ys) (by simpa using h),pb]
mutual
theorem Den.inj {P:ah->Prop}{H:Hp}:∀(d d':Dt) (v:V),Den P H d v->Den P H d' v->d=d'
 | .non,d',v,h,h'=>by
  rw[Den]at h;subst h
  cases d' <;> rw[Den]at h' <;> first|rfl|(obtain⟨_,_,e,_⟩:=h';cases e;done)|(obtain⟨_,e,_⟩:=h';cases e;done)|(cases h';done)
 | .bl b,d',v,h,h'=>by
  rw[Den]at h;subst h
  cases d' <;> rw[Den]at h' <;> first|(obtain⟨_,_,e,_⟩:=h';cases e;done)|(obtain⟨_,e,_⟩:=h';cases e;done)|(cases h';done)|(cases h';rfl)
 | .int b,d',v,h,h'=>by
  rw[Den]at h;subst h
  cases d' <;> rw[Den]at h' <;> first|(obtain⟨_,_,e,_⟩:=h';cases e;done)|(obtain⟨_,e,_⟩:=h';cases e;done)|(cases h';done)|(cases h';rfl)
 | .str b,d',v,h,h'=>by
  rw[Den]at h;subst h
  cases d' <;> rw[Den]at h' <;> first|(obtain⟨_,_,e,_⟩:=h';cases e;done)|(obtain⟨_,e,_⟩:=h';cases e;done)|(cases h';done)|(cases h';rfl)
 | .tup ds,d',v,h,h'=>by
  rw[Den]at h;obtain⟨a,vs,rfl,h1,h2⟩:=h
  cases d' with
  |tup ds'=>rw[Den]at h';obtain⟨a',vs',e,h1',h2'⟩:=h';cases e;rw[h1]at h1';cases h1';rw[DenL.inj ds ds' vs h2 h2']
  |lst ds'=>rw[Den]at h';obtain⟨a',vs',e,_,h1',h2'⟩:=h';cases e;rw[h1]at h1';cases h1'
  |dct=>rw[Den]at h';obtain⟨a',e,_,h1'⟩:=h';cases e;rw[h1]at h1';cases h1'
  |_=>rw[Den]at h';cases h'
 | .lst ds,d',v,h,h'=>by
  rw[Den]at h;obtain⟨a,vs,rfl,_,h1,h2⟩:=h
  cases d' with
  |tup ds'=>rw[Den]at h';obtain⟨a',vs',e,h1',h2'⟩:=h';cases e;rw[h1]at h1';cases h1'
  |lst ds'=>rw[Den]at h';obtain⟨a',vs',e,_,h1',h2'⟩:=h';cases e;rw[h1]at h1';cases h1';rw[DenL.inj ds ds' vs h2 h2']
  |dct=>rw[Den]at h';obtain⟨a',e,_,h1'⟩:=h';cases e;rw[h1]at h1';cases h1'
  |_=>rw[Den]at h';cases h'
 | .dct,d',v,h,h'=>by
  rw[Den]at h;obtain⟨a,rfl,_,h1⟩:=h
  cases d' with
  |tup ds'=>rw[Den]at h';obtain⟨a',vs',e,h1',h2'⟩:=h';cases e;rw[h1]at h1';cases h1'
  |lst ds'=>rw[Den]at h';obtain⟨a',vs',e,_,h1',h2'⟩:=h';cases e;rw[h1]at h1';cases h1'
  |dct=>rfl
  |_=>rw[Den]at h';cases h'
theorem DenL.inj {P:ah->Prop}{H:Hp}:∀(ds ds':List Dt) (vs:List V),DenL P H ds vs->DenL P H ds' vs->ds=ds'
 | [],ds',vs,h,h'=>by
  rw[DenL]at h;subst h
  cases ds' with
  |nil=>rfl
  |cons d ds'=>rw[DenL]at h';obtain⟨_,_,e,_⟩:=h';cases e
 |d::ds,ds',vs,h,h'=>by
  rw[DenL]at h;obtain⟨v,r,rfl,h1,h2⟩:=h
  cases ds' with
  |nil=>rw[DenL]at h';cases h'
  |cons d' ds'=>rw[DenL]at h';obtain⟨v',r',e,h1',h2'⟩:=h';cases e;rw[Den.inj d d' v h1 h1',DenL.inj ds ds' r h2 h2']
end
section
variable{Pg:bo}{w:cw}{P:ah->Prop}{H:Hp}{s:ag}
theorem fX (hok:HOk Pg w H s.heap) {a:ah}{vs:List V}(e:H a=some (.tup vs)):∃its:List af,Vals vs its/\s.heap.IsTuple a its.toArray:=by
 obtain⟨_,its,r,p⟩:=(show ObjOk Pg w H s.heap a (.tup vs) from hok a _ e)
 exact⟨its,r,p.tup⟩
theorem fY (hok:HOk Pg w H s.heap) {a:ah}{vs:List V}(e:H a=some (.lst vs)):∃its:List af,Vals vs its/\s.heap.IsList a its.toArray:=by
 obtain⟨_,its,n,r,p⟩:=(show ObjOk Pg w H s.heap a (.lst vs) from hok a _ e)
 exact⟨its,r,_,p,rfl,n,rfl⟩
theorem uV {vs:List V}{its:List af}(r:Vals vs its) {j:Nat}(h:j<its.toArray.size):∃v,vs[j]?=some v/\RelV v its.toArray[j]:=by
 have hl:=r.length;have h':j<its.length:=by simpa using h
 have hv:j<vs.length:=by omega
 obtain⟨u,e,q⟩:=r.get (i:=j) (x:=vs[j]) (aw hv);refine⟨vs[j],aw hv, ?_⟩;have:its.toArray[j]=u:=by have:its[j]?=some its[j]:=aw h';rw[this]at e;simpa using e
 rw[this];exact q
theorem AH (hok:HOk Pg w H s.heap):∀(n:Nat) (A:cx) (d d':Dt) (v v':V) (u u':af),fG d<=n->A.units+n+1<cLine->nod d=true->nod d'=true->Den P H d v->Den P H d' v'->RelV v u->RelV v' u'->
  Av A s u u' (bS d d')/\uc A s u u' (bS d d'):=by
 intro n
 induction n with
 |zero=>
  intro A d d' v v' u u' hn hu n1 n2 h h' r r';have hu':A.units<cLine:=by omega
  cases d with
  |non=>
   rw[Den]at h;subst h;cases r
   cases d' with
   |non=>rw[Den]at h';subst h';cases r';exact⟨wm,qg _⟩
   |bl b'=>rw[Den]at h';subst h';cases r';exact⟨wo _,wq _⟩
   |int i'=>rw[Den]at h';subst h';obtain⟨t2,rfl⟩:=r';exact⟨xu _ _,xv _ _⟩
   |str x'=>rw[Den]at h';subst h';obtain⟨t2,rfl⟩:=r';exact⟨xw _ _,ya _ _⟩
   |tup ds'=>rw[Den]at h';obtain⟨a2,vs2,rfl,e2,g2⟩:=h';cases r';obtain⟨its2,q2,tp2⟩:=fX hok e2;exact⟨vz  tp2 hu',wa  tp2 hu'⟩
   |lst ds'=>rw[Den]at h';obtain⟨a2,vs2,rfl,_,e2,g2⟩:=h';cases r';obtain⟨its2,q2,tp2⟩:=fY hok e2;exact⟨wt  tp2 hu',wu  tp2 hu'⟩
   |dct=>simp[nod]at n2
  |bl b=>
   rw[Den]at h;subst h;cases r
   cases d' with
   |non=>rw[Den]at h';subst h';cases r';exact⟨wx _,wy _⟩
   |bl b'=>rw[Den]at h';subst h';cases r';exact⟨wz _ _,xa _ _⟩
   |int i'=>rw[Den]at h';subst h';obtain⟨t2,rfl⟩:=r';exact⟨yb _ _ _,yc _ _ _⟩
   |str x'=>rw[Den]at h';subst h';obtain⟨t2,rfl⟩:=r';exact⟨yd _ _ _,ye _ _ _⟩
   |tup ds'=>rw[Den]at h';obtain⟨a2,vs2,rfl,e2,g2⟩:=h';cases r';obtain⟨its2,q2,tp2⟩:=fX hok e2;exact⟨wb _ tp2 hu',wc _ tp2 hu'⟩
   |lst ds'=>rw[Den]at h';obtain⟨a2,vs2,rfl,_,e2,g2⟩:=h';cases r';obtain⟨its2,q2,tp2⟩:=fY hok e2;exact⟨xb _ tp2 hu',xc _ tp2 hu'⟩
   |dct=>simp[nod]at n2
  |int i=>
   rw[Den]at h;subst h;obtain⟨t1,rfl⟩:=r
   cases d' with
   |non=>rw[Den]at h';subst h';cases r';exact⟨yf _ _,yg _ _⟩
   |bl b'=>rw[Den]at h';subst h';cases r';exact⟨yh _ _ _,yi _ _ _⟩
   |int i'=>rw[Den]at h';subst h';obtain⟨t2,rfl⟩:=r';exact⟨yz _ _ _ _,sr _ _ _ _⟩
   |str x'=>rw[Den]at h';subst h';obtain⟨t2,rfl⟩:=r';exact⟨zb _ _ _ _,sj _ _ _ _⟩
   |tup ds'=>rw[Den]at h';obtain⟨a2,vs2,rfl,e2,g2⟩:=h';cases r';obtain⟨its2,q2,tp2⟩:=fX hok e2;exact⟨xf _ _ tp2 hu',xg _ _ tp2 hu'⟩
   |lst ds'=>rw[Den]at h';obtain⟨a2,vs2,rfl,_,e2,g2⟩:=h';cases r';obtain⟨its2,q2,tp2⟩:=fY hok e2;exact⟨yj _ _ tp2 hu',yk _ _ tp2 hu'⟩
   |dct=>simp[nod]at n2
  |str x=>
   rw[Den]at h;subst h;obtain⟨t1,rfl⟩:=r
   cases d' with
   |non=>rw[Den]at h';subst h';cases r';exact⟨ym _ _,yn _ _⟩
   |bl b'=>rw[Den]at h';subst h';cases r';exact⟨yo _ _ _,yp _ _ _⟩
   |int i'=>rw[Den]at h';subst h';obtain⟨t2,rfl⟩:=r';exact⟨zc _ _ _ _,sk _ _ _ _⟩
   |str x'=>rw[Den]at h';subst h';obtain⟨t2,rfl⟩:=r';exact⟨zd _ _ _ _,ze _ _ _ _⟩
   |tup ds'=>rw[Den]at h';obtain⟨a2,vs2,rfl,e2,g2⟩:=h';cases r';obtain⟨its2,q2,tp2⟩:=fX hok e2;exact⟨xh _ _ tp2 hu',xi _ _ tp2 hu'⟩
   |lst ds'=>rw[Den]at h';obtain⟨a2,vs2,rfl,_,e2,g2⟩:=h';cases r';obtain⟨its2,q2,tp2⟩:=fY hok e2;exact⟨yq _ _ tp2 hu',yr _ _ tp2 hu'⟩
   |dct=>simp[nod]at n2
  |tup ds=>rw[fG]at hn;omega
  |lst ds=>rw[fG]at hn;omega
  |dct=>simp[nod]at n1
 |succ n ih=>
  intro A d d' v v' u u' hn hu n1 n2 h h' r r';have hu':A.units<cLine:=by omega
  have hin:∀{vs vs':List V}{ds ds':List Dt}{its its':List af},kW ds<=n->jB ds=true->jB ds'=true->DenL P H ds vs->DenL P H ds' vs'->Vals vs its->Vals vs' its'->
    ∀j (h1:j<its.toArray.size) (h2:j<its'.toArray.size),uc A.in1 s its.toArray[j] its'.toArray[j] (bS (ds.getD j .non) (ds'.getD j .non)):=by
   intro vs vs' ds ds' its its' hd m1 m2 g g' q q' j h1 h2;obtain⟨x,ex,rx⟩:=uV q h1;obtain⟨x',ex',rx'⟩:=uV q' h2;obtain⟨dx,edx,gx⟩:=g.get ex;obtain⟨dx',edx',gx'⟩:=g'.get ex';have e1:ds.getD j .non=dx:=by simp[kv,edx]
   have e2:ds'.getD j .non=dx':=by simp[kv,edx']
   rw[e1,e2];have hm:=bz edx;exact(ih A.in1 dx dx' x x' _ _ (cq (AG hm) hd) (by show A.units+1+n+1<cLine;omega) (qV m1 hm) (qV m2 (bz edx')) gx gx' rx rx').2
  cases d with
  |non=>
   rw[Den]at h;subst h;cases r
   cases d' with
   |non=>rw[Den]at h';subst h';cases r';exact⟨wm,qg _⟩
   |bl b'=>rw[Den]at h';subst h';cases r';exact⟨wo _,wq _⟩
   |int i'=>rw[Den]at h';subst h';obtain⟨t2,rfl⟩:=r';exact⟨xu _ _,xv _ _⟩
   |str x'=>rw[Den]at h';subst h';obtain⟨t2,rfl⟩:=r';exact⟨xw _ _,ya _ _⟩
   |tup ds'=>rw[Den]at h';obtain⟨a2,vs2,rfl,e2,g2⟩:=h';cases r';obtain⟨its2,q2,tp2⟩:=fX hok e2;exact⟨vz  tp2 hu',wa  tp2 hu'⟩
   |lst ds'=>rw[Den]at h';obtain⟨a2,vs2,rfl,_,e2,g2⟩:=h';cases r';obtain⟨its2,q2,tp2⟩:=fY hok e2;exact⟨wt  tp2 hu',wu  tp2 hu'⟩
   |dct=>simp[nod]at n2
  |bl b=>
   rw[Den]at h;subst h;cases r
   cases d' with
   |non=>rw[Den]at h';subst h';cases r';exact⟨wx _,wy _⟩
   |bl b'=>rw[Den]at h';subst h';cases r';exact⟨wz _ _,xa _ _⟩
   |int i'=>rw[Den]at h';subst h';obtain⟨t2,rfl⟩:=r';exact⟨yb _ _ _,yc _ _ _⟩
   |str x'=>rw[Den]at h';subst h';obtain⟨t2,rfl⟩:=r';exact⟨yd _ _ _,ye _ _ _⟩
   |tup ds'=>rw[Den]at h';obtain⟨a2,vs2,rfl,e2,g2⟩:=h';cases r';obtain⟨its2,q2,tp2⟩:=fX hok e2;exact⟨wb _ tp2 hu',wc _ tp2 hu'⟩
   |lst ds'=>rw[Den]at h';obtain⟨a2,vs2,rfl,_,e2,g2⟩:=h';cases r';obtain⟨its2,q2,tp2⟩:=fY hok e2;exact⟨xb _ tp2 hu',xc _ tp2 hu'⟩
   |dct=>simp[nod]at n2
  |int i=>
   rw[Den]at h;subst h;obtain⟨t1,rfl⟩:=r
   cases d' with
   |non=>rw[Den]at h';subst h';cases r';exact⟨yf _ _,yg _ _⟩
   |bl b'=>rw[Den]at h';subst h';cases r';exact⟨yh _ _ _,yi _ _ _⟩
   |int i'=>rw[Den]at h';subst h';obtain⟨t2,rfl⟩:=r';exact⟨yz _ _ _ _,sr _ _ _ _⟩
   |str x'=>rw[Den]at h';subst h';obtain⟨t2,rfl⟩:=r';exact⟨zb _ _ _ _,sj _ _ _ _⟩
   |tup ds'=>rw[Den]at h';obtain⟨a2,vs2,rfl,e2,g2⟩:=h';cases r';obtain⟨its2,q2,tp2⟩:=fX hok e2;exact⟨xf _ _ tp2 hu',xg _ _ tp2 hu'⟩
   |lst ds'=>rw[Den]at h';obtain⟨a2,vs2,rfl,_,e2,g2⟩:=h';cases r';obtain⟨its2,q2,tp2⟩:=fY hok e2;exact⟨yj _ _ tp2 hu',yk _ _ tp2 hu'⟩
   |dct=>simp[nod]at n2
  |str x=>
   rw[Den]at h;subst h;obtain⟨t1,rfl⟩:=r
   cases d' with
   |non=>rw[Den]at h';subst h';cases r';exact⟨ym _ _,yn _ _⟩
   |bl b'=>rw[Den]at h';subst h';cases r';exact⟨yo _ _ _,yp _ _ _⟩
   |int i'=>rw[Den]at h';subst h';obtain⟨t2,rfl⟩:=r';exact⟨zc _ _ _ _,sk _ _ _ _⟩
   |str x'=>rw[Den]at h';subst h';obtain⟨t2,rfl⟩:=r';exact⟨zd _ _ _ _,ze _ _ _ _⟩
   |tup ds'=>rw[Den]at h';obtain⟨a2,vs2,rfl,e2,g2⟩:=h';cases r';obtain⟨its2,q2,tp2⟩:=fX hok e2;exact⟨xh _ _ tp2 hu',xi _ _ tp2 hu'⟩
   |lst ds'=>rw[Den]at h';obtain⟨a2,vs2,rfl,_,e2,g2⟩:=h';cases r';obtain⟨its2,q2,tp2⟩:=fY hok e2;exact⟨yq _ _ tp2 hu',yr _ _ tp2 hu'⟩
   |dct=>simp[nod]at n2
  |tup ds=>
   rw[Den]at h;obtain⟨a1,vs1,rfl,e1,g1⟩:=h;cases r;obtain⟨its1,q1,tp1⟩:=fX hok e1
   cases d' with
   |non=>rw[Den]at h';subst h';cases r';exact⟨SeqAt.RcAt.tuple_none  tp1 hu',SeqAt.EqAt.tuple_none  tp1 hu'⟩
   |bl b'=>rw[Den]at h';subst h';cases r';exact⟨SeqAt.RcAt.tuple_bool _ tp1 hu',SeqAt.EqAt.tuple_bool _ tp1 hu'⟩
   |int i'=>rw[Den]at h';subst h';obtain⟨t2,rfl⟩:=r';exact⟨SeqAt.RcAt.tuple_int _ _ tp1 hu',SeqAt.EqAt.tuple_int _ _ tp1 hu'⟩
   |str x'=>rw[Den]at h';subst h';obtain⟨t2,rfl⟩:=r';exact⟨SeqAt.RcAt.tuple_str _ _ tp1 hu',SeqAt.EqAt.tuple_str _ _ tp1 hu'⟩
   |tup ds'=>
    rw[Den]at h';obtain⟨a2,vs2,rfl,e2,g2⟩:=h';cases r';obtain⟨its2,q2,tp2⟩:=fX hok e2;rw[nod]at n1 n2;rw[fG]at hn;have hl1:=g1.length;have hl2:=g2.length;have hq1:=q1.length;have hq2:=q2.length;have key:Av A s (.ref a1) (.ref a2) (bS (.tup ds) (.tup ds')):=by
     rw[bS];have z:=SeqAt.RcAt.tuples (e:=λj=>bS (ds.getD j .non) (ds'.getD j .non)) tp1 tp2 hu' (hin (by omega) n1 n2 g1 g2 q1 q2);have s1:its1.toArray.size=ds.length:=by simp;omega
     have s2:its2.toArray.size=ds'.length:=by simp;omega
     rw[s1,s2]at z
     by_cases hlen:ds.length=ds'.length
     ·rw[qW hlen];rw[<-hlen,Nat.min_self]at z;simpa using z
     ·rw[qX hlen];rw[show(ds.length==ds'.length)=false from beq_eq_false_iff_ne.mpr hlen,pb]at z;exact z
    refine⟨key, ?_⟩
    by_cases hab:a1=a2
    ·subst hab;rw[e1]at e2;cases e2;rw[DenL.inj ds ds' _ g1 g2,AE _ (by rw[nod];exact n2)];exact qg _
    ·exact zf hab key
   |lst ds'=>rw[Den]at h';obtain⟨a2,vs2,rfl,_,e2,g2⟩:=h';cases r';obtain⟨its2,q2,tp2⟩:=fY hok e2;exact⟨SeqAt.RcAt.tuple_list tp1 tp2 hu',SeqAt.EqAt.tuple_list tp1 tp2 hu'⟩
   |dct=>simp[nod]at n2
  |lst ds=>
   rw[Den]at h;obtain⟨a1,vs1,rfl,_,e1,g1⟩:=h;cases r;obtain⟨its1,q1,tp1⟩:=fY hok e1
   cases d' with
   |non=>rw[Den]at h';subst h';cases r';exact⟨SeqAt.RcAt.list_none  tp1 hu',SeqAt.EqAt.list_none  tp1 hu'⟩
   |bl b'=>rw[Den]at h';subst h';cases r';exact⟨SeqAt.RcAt.list_bool _ tp1 hu',SeqAt.EqAt.list_bool _ tp1 hu'⟩
   |int i'=>rw[Den]at h';subst h';obtain⟨t2,rfl⟩:=r';exact⟨SeqAt.RcAt.list_int _ _ tp1 hu',SeqAt.EqAt.list_int _ _ tp1 hu'⟩
   |str x'=>rw[Den]at h';subst h';obtain⟨t2,rfl⟩:=r';exact⟨SeqAt.RcAt.list_str _ _ tp1 hu',SeqAt.EqAt.list_str _ _ tp1 hu'⟩
   |tup ds'=>rw[Den]at h';obtain⟨a2,vs2,rfl,e2,g2⟩:=h';cases r';obtain⟨its2,q2,tp2⟩:=fX hok e2;exact⟨SeqAt.RcAt.list_tuple tp1 tp2 hu',SeqAt.EqAt.list_tuple tp1 tp2 hu'⟩
   |lst ds'=>
    rw[Den]at h';obtain⟨a2,vs2,rfl,_,e2,g2⟩:=h';cases r';obtain⟨its2,q2,tp2⟩:=fY hok e2;rw[nod]at n1 n2;rw[fG]at hn;have hl1:=g1.length;have hl2:=g2.length;have hq1:=q1.length;have hq2:=q2.length;have key:Av A s (.ref a1) (.ref a2) (bS (.lst ds) (.lst ds')):=by
     rw[bS]
     by_cases hlen:ds.length=ds'.length
     ·have z:=SeqAt.RcAt.lists (e:=λj=>bS (ds.getD j .non) (ds'.getD j .non)) tp1 tp2 (by simp;omega) hu' (hin (by omega) n1 n2 g1 g2 q1 q2);rw[qW hlen];simpa[hq1.symm,hl1]using z
     ·rw[qX hlen];exact SeqAt.RcAt.lists_lengths tp1 tp2 (by simp;omega) hu'
    refine⟨key, ?_⟩
    by_cases hab:a1=a2
    ·subst hab;rw[e1]at e2;cases e2;rw[DenL.inj ds ds' _ g1 g2,AE _ (by rw[nod];exact n2)];exact qg _
    ·exact zf hab key
   |dct=>simp[nod]at n2
  |dct=>simp[nod]at n1
end
end L2
namespace L2.Mr
open PySem PySem.Spec PyProof.Rows
inductive Dv where
 |non|bl (b:Bool)|int (i:Int)|str (x:Str)|tup (xs:List Dv)|ref (i:Nat)|edc|exc (c:Nat)|scr
inductive Ob where
 |lst (xs:List Dv)
abbrev Hs:=List Ob
abbrev Ev:=List (Option Dv)
inductive Rs (α:Type) where
 |ok (a:α) (h:Hs)|ex (c:Nat) (h:Hs)|bad
def Rs.bind {α β:Type}(r:Rs α) (f:α->Hs->Rs β):Rs β:=match r with
 | .ok a h=>f a h
 | .ex c h=>.ex c h
 | .bad=>.bad
@[simp] theorem Rs.bind_ok {α β:Type}(a:α) (h:Hs) (f:α->Hs->Rs β):(Rs.ok a h).bind f=f a h:=rfl
@[simp] theorem Rs.bind_ex {α β:Type}(c:Nat) (h:Hs) (f:α->Hs->Rs β):(Rs.ex c h).bind f=.ex c h:=rfl
@[simp] theorem Rs.bind_bad {α β:Type}(f:α->Hs->Rs β):(Rs.bad).bind f=.bad:=rfl
abbrev M (α:Type):=Ev->Hs->Rs α
structure Cfg where
 K:ao
 cl:Nat->ah
 scr:List Int
 sa:ah
 tab:Option ah:=none
 lq:Str:=Str.empty
def dX (C:af) (e T:ah) (a0:af) (h:cz):Prop:=∃oe vs,h.get? e=some oe/\oe.cls=C/\oe.data=.fields vs/\vs[0]?=some a0/\vs[1]?=some (.ref T)/\oe.dict=none
def uW (G:Cfg) (H:Hp) (c:Nat) (u:af):Prop:=∃e φ,u=.ref e/\H e=some (.ext φ)/\∀h,φ h->∃o,h.get? e=some o/\o.cls=.ref (G.cl c)
def AI:HO->Prop
 | .tup _=>True
 | .dK kvs=>kvs=[]
 | .frz _ _=>True
 |_=>False
def FzL (K:ao) (H:Hp) (a:ah) (xs:List V):Prop:=(∃o,H a=some (.frz o (.lst xs))) ∨
  ∃(o:Obj) (its:Array af) (n:Nat),K.lookup a=some o/\o.cls=.type "list"/\o.dict=none/\o.data=.seq its n/\its.size<=cj/\Vals xs its.toList
theorem FzL.sq {K:ao}{H:Hp}{a:ah}{xs:List V}(h:FzL K H a xs):SqL K H a xs:=by
 rcases h with⟨o,h⟩|h
 ·exact .inl (.inr ⟨o,h⟩)
 ·exact .inr h
theorem FzL.keep {K:ao}{H H':Hp}{a:ah}{xs:List V}(h:FzL K H a xs) (k:∀a o,AI o->H a=some o->H' a=some o):FzL K H' a xs:=by
 rcases h with⟨o,h⟩|h
 ·exact .inl ⟨o,k a _ trivial h⟩
 ·exact .inr h
mutual
def RelD (G:Cfg) (μ:Nat->ah) (n:Nat) (H:Hp):Dv->V->Prop
 | .non,v=>v=.non
 | .bl b,v=>v=.bl b
 | .int i,v=>v=.int i
 | .str x,v=>v=.str x
 | .tup ds,v=>∃a vs,v=.ref a/\H a=some (.tup vs)/\RelDL G μ n H ds vs
 | .ref i,v=>i<n/\v=.ref (μ i)
 | .edc,v=>∃a,v=.ref a/\H a=some (.dK [])
 | .exc c,v=>∃a o u,v=.ref a/\H a=some (.frz o u)/\o.cls=.ref (G.cl c)/\o.dict=none/\∃vs,o.data=.fields vs
 | .scr,v=>v=.ref G.sa/\FzL G.K H G.sa (G.scr.map V.int)
def RelDL (G:Cfg) (μ:Nat->ah) (n:Nat) (H:Hp):List Dv->List V->Prop
 | [],vs=>vs=[]
 |d::ds,vs=>∃v r,vs=v::r/\RelD G μ n H d v/\RelDL G μ n H ds r
end
structure Ext (μ:Nat->ah) (n:Nat) (H:Hp) (μ':Nat->ah) (n':Nat) (H':Hp):Prop where
 le:n<=n'
 mu:∀i,i<n->μ' i=μ i
 im:∀a o,AI o->H a=some o->H' a=some o
theorem Ext.refl {μ:Nat->ah}{n:Nat}{H:Hp}:Ext μ n H μ n H:=⟨aj _,λ_ _=>rfl,λ_ _ _ e=>e⟩
theorem Ext.trans {μ μ1 μ2:Nat->ah}{n n1 n2:Nat}{H H1 H2:Hp}(a:Ext μ n H μ1 n1 H1) (b:Ext μ1 n1 H1 μ2 n2 H2):Ext μ n H μ2 n2 H2:=⟨cq a.le b.le,λi hi=>(b.mu i (av hi a.le)).trans (a.mu i hi),λc o i e=>b.im c o i (a.im c o i e)⟩
section
variable{G:Cfg}{μ μ':Nat->ah}{n n':Nat}{H H':Hp}
mutual
theorem RelD.mono (x:Ext μ n H μ' n' H'):∀(d:Dv) (v:V),RelD G μ n H d v->RelD G μ' n' H' d v
 | .non,v,h=>h
 | .bl b,v,h=>h
 | .int i,v,h=>h
 | .str s,v,h=>h
 | .tup ds,v,h=>by obtain⟨a,vs,e,h1,h2⟩:=h;exact⟨a,vs,e,x.im a _ trivial h1,RelDL.mono x ds vs h2⟩
 | .ref i,v,h=>by obtain⟨h1,h2⟩:=h;exact⟨av h1 x.le,by rw[x.mu i h1];exact h2⟩
 | .edc,v,h=>by obtain⟨a,e,h1⟩:=h;exact⟨a,e,x.im a _ rfl h1⟩
 | .exc c,v,h=>by obtain⟨a,o,u,e,h1,h2⟩:=h;exact⟨a,o,u,e,x.im a _ trivial h1,h2⟩
 | .scr,v,h=>by obtain⟨h1,h2⟩:=h;exact⟨h1,h2.keep x.im⟩
theorem RelDL.mono (x:Ext μ n H μ' n' H'):∀(ds:List Dv) (vs:List V),RelDL G μ n H ds vs->RelDL G μ' n' H' ds vs
 | [],vs,h=>h
 |d::ds,vs,h=>by obtain⟨v,r,e,h1,h2⟩:=h;exact⟨v,r,e,RelD.mono x d v h1,RelDL.mono x ds r h2⟩
end
theorem RelDL.length:∀{ds:List Dv}{vs:List V},RelDL G μ n H ds vs->vs.length=ds.length
 | [],_,h=>by rw[RelDL]at h;subst h;rfl
 |d::ds,_,h=>by rw[RelDL]at h;obtain⟨v,r,rfl,_,h2⟩:=h;rw[cg,cg,RelDL.length h2]
theorem RelDL.get:∀{ds:List Dv}{vs:List V}{i:Nat}{d:Dv},RelDL G μ n H ds vs->ds[i]?=some d->∃v,vs[i]?=some v/\RelD G μ n H d v
 | [],_,_,_,_,e=>by simp at e
 |d::ds,_,0,d',h,e=>by rw[RelDL]at h;obtain⟨v,r,rfl,h1,_⟩:=h;simp at e;subst e;exact⟨v,rfl,h1⟩
 |d::ds,_,i+1,d',h,e=>by rw[RelDL]at h;obtain⟨v,r,rfl,_,h2⟩:=h;obtain⟨u,e1,h3⟩:=RelDL.get (i:=i) h2 (by simpa using e);exact⟨u,by simpa using e1,h3⟩
theorem RelDL.nil:RelDL G μ n H [] []:=by rw[RelDL]
theorem RelDL.cons {d:Dv}{v:V}{ds:List Dv}{vs:List V}(h:RelD G μ n H d v) (t:RelDL G μ n H ds vs):RelDL G μ n H (d::ds) (v::vs):=by rw[RelDL];exact⟨v,vs,rfl,h,t⟩
theorem RelDL.append:∀{ds es:List Dv}{vs ws:List V},RelDL G μ n H ds vs->RelDL G μ n H es ws->RelDL G μ n H (ds++es) (vs++ws)
 | [],_,_,_,h,h'=>by rw[RelDL]at h;subst h;exact h'
 |d::ds,_,_,_,h,h'=>by rw[RelDL]at h;obtain⟨v,r,rfl,h1,h2⟩:=h;exact RelDL.cons h1 (RelDL.append h2 h')
theorem RelDL.take:∀{ds:List Dv}{vs:List V}(k:Nat),RelDL G μ n H ds vs->RelDL G μ n H (ds.take k) (vs.take k)
 | [],_,k,h=>by rw[RelDL]at h;subst h;simp[RelDL.nil]
 |d::ds,_,0,h=>by simp[RelDL.nil]
 |d::ds,_,k+1,h=>by rw[RelDL]at h;obtain⟨v,r,rfl,h1,h2⟩:=h;exact RelDL.cons h1 (RelDL.take k h2)
theorem RelDL.drop:∀{ds:List Dv}{vs:List V}(k:Nat),RelDL G μ n H ds vs->RelDL G μ n H (ds.drop k) (vs.drop k)
 | [],_,k,h=>by rw[RelDL]at h;subst h;simp[RelDL.nil]
 |d::ds,_,0,h=>h
 |d::ds,_,k+1,h=>by rw[RelDL]at h;obtain⟨v,r,rfl,h1,h2⟩:=h;exact RelDL.drop k h2
theorem RelDL.set {x:Dv}{u:V}(hx:RelD G μ n H x u):∀{ds:List Dv}{vs:List V}(i:Nat),RelDL G μ n H ds vs->RelDL G μ n H (ds.set i x) (vs.set i u)
 | [],_,_,h=>by rw[RelDL]at h;subst h;exact RelDL.nil
 |d::ds,_,0,h=>by rw[RelDL]at h;obtain⟨v,r,rfl,h1,h2⟩:=h;exact RelDL.cons hx h2
 |d::ds,_,i+1,h=>by rw[RelDL]at h;obtain⟨v,r,rfl,h1,h2⟩:=h;exact RelDL.cons h1 (RelDL.set hx i h2)
end
def R5 (G:Cfg) (μ:Nat->ah) (n:Nat) (H:Hp) (a:ah):Ob->Prop
 | .lst xs=>∃vs,H a=some (.lst vs)/\RelDL G μ n H xs vs
def uX (q:Str) (oc:Obj):Prop:=∃vs t,oc.data=.fields vs/\vs[1]?=some (.str q t)
def TabOk (G:Cfg) (H:Hp):Prop:=∀P,G.tab=some P->∃ps,H P=some (.tbl ps)/\ur ps.toList/\∀pos cv,codeAmong pos ps.toList=some cv->∃q oc,cv=.ref q/\H q=some (.frz oc (.own 0))/\uX G.lq oc
theorem TabOk.keep {G:Cfg}{H H':Hp}(t:TabOk G H) (k:∀a o,(∀xs,o≠.lst xs)->(∀φ,o≠.ext φ)->H a=some o->H' a=some o):TabOk G H':=λP e=>by obtain⟨ps,h1,h2,h3⟩:=t P e;refine⟨ps,k P _ (λ_ z=>by cases z) (λ_ z=>by cases z) h1,h2,λpos cv q=>?_⟩;obtain⟨a,oc,e1,e2,e3⟩:=h3 pos cv q;exact⟨a,oc,e1,k a _ (λ_ z=>by cases z) (λ_ z=>by cases z) e2,e3⟩
structure Sim (G:Cfg) (μ:Nat->ah) (h:Hs) (H:Hp):Prop where
 inj:∀i j,i<h.length->j<h.length->μ i=μ j->i=j
 ob:∀(i:Nat) (o:Ob),h[i]?=some o->R5 G μ h.length H (μ i) o
 tab:TabOk G H
structure RelS (G:Cfg) (μ:Nat->ah) (n:Nat) (H:Hp) (ρ:Ev) (σ:St):Prop where
 len:ρ.length=σ.length
 at_:∀(i:Nat) (d:Dv),ρ[i]?=some (some d)->∃v,σ[i]?=some (some v)/\RelD G μ n H d v
theorem RelS.mono {G:Cfg}{μ μ':Nat->ah}{n n':Nat}{H H':Hp}{ρ:Ev}{σ:St}(r:RelS G μ n H ρ σ) (x:Ext μ n H μ' n' H'):RelS G μ' n' H' ρ σ:=⟨r.len,λi d e=>let ⟨v,e1,h⟩:=r.at_ i d e;⟨v,e1,RelD.mono x d v h⟩⟩
def Out {α β:Type}(G:Cfg) (E:XK) (μ:Nat->ah) (n:Nat) (H:Hp) (r:Rs α) (R:(Nat->ah)->Nat->Hp->α->β->Prop) (Q:β->Hp->Prop):Prop:=
 match r with
 | .ok d h'=>∀μ' H' v,Ext μ n H μ' h'.length H'->Sim G μ' h' H'->R μ' h'.length H' d v->Q v H'
 | .ex c h'=>∀μ' H' u,Ext μ n H μ' h'.length H'->Sim G μ' h' H'->uW G H' c u->E u none H'
 | .bad=>False
theorem Out.bind {α β γ δ:Type}{G:Cfg}{E:XK}{μ:Nat->ah}{n:Nat}{H:Hp}{r:Rs α}{f:α->Hs->Rs γ}{R:(Nat->ah)->Nat->Hp->γ->δ->Prop}{Q:δ->Hp->Prop}{R1:(Nat->ah)->Nat->Hp->α->β->Prop}
  (o:Out G E μ n H (r.bind f) R Q):Out G E μ n H r R1 λv H1=>∃μ1 d h1,Ext μ n H μ1 h1.length H1/\Sim G μ1 h1 H1/\R1 μ1 h1.length H1 d v/\Out G E μ1 h1.length H1 (f d h1) R Q:=by
 cases r with
 |bad=>exact o
 |ex c h'=>exact o
 |ok d h'=>
  intro μ1 H1 v x1 s1 r1;refine⟨μ1,d,h',x1,s1,r1, ?_⟩;have o':Out G E μ n H (f d h') R Q:=o
  cases e:f d h' with
  |bad=>rw[e]at o';exact o'
  |ex c h2=>rw[e]at o';exact λμ2 H2 u x2 s2 r2=>o' μ2 H2 u (x1.trans x2) s2 r2
  |ok d2 h2=>rw[e]at o';exact λμ2 H2 u x2 s2 r2=>o' μ2 H2 u (x1.trans x2) s2 r2
theorem Out.mono {α β:Type}{G:Cfg}{E:XK}{μ:Nat->ah}{n:Nat}{H:Hp}{r:Rs α}{R:(Nat->ah)->Nat->Hp->α->β->Prop}{Q Q':β->Hp->Prop}(o:Out G E μ n H r R Q) (h:∀v H',Q v H'->Q' v H'):Out G E μ n H r R Q':=by
 cases r with
 |bad=>exact o
 |ex c h'=>exact o
 |ok d h'=>exact λμ' H' v x s r=>h _ _ (o μ' H' v x s r)
abbrev RB:(Nat->ah)->Nat->Hp->Bool->Bool->Prop:=λ_ _ _ b b'=>b'=b
def gX (G:Cfg) (E:XK) (m:M Dv):TE:=λσ H Q=>∃μ ρ h,RelS G μ h.length H ρ σ/\Sim G μ h H/\Out G E μ h.length H (m ρ h) (RelD G) Q
def hZ (G:Cfg) (E:XK) (m:M Bool):TT:=λσ H Q=>∃μ ρ h,RelS G μ h.length H ρ σ/\Sim G μ h H/\Out G E μ h.length H (m ρ h) RB Q
def AJ (G:Cfg) (E:XK) (m:M (List Dv)):TA:=λσ H Q=>∃μ ρ h,RelS G μ h.length H ρ σ/\Sim G μ h H/\Out G E μ h.length H (m ρ h) (RelDL G) Q
def aL (X:Cx) (G:Cfg) (E:XK) (pe:bp) (m:M Dv):Prop:=X.K=G.K->PE X pe (gX G E m)
def fO (X:Cx) (G:Cfg) (E:XK) (pe:bp) (m:M Bool):Prop:=X.K=G.K->PT X pe (hZ G E m)
def eC (X:Cx) (G:Cfg) (E:XK) (pe:List bp) (m:M (List Dv)):Prop:=X.K=G.K->PA X pe (AJ G E m)
theorem PE.imp {X:Cx}{e:bp}{t t':TE}(h:PE X e t) (i:∀σ H Q,t' σ H Q->t σ H Q):PE X e t':=λpins s σ H Q I q=>h pins s σ H Q I (i σ H Q q)
theorem PT.imp {X:Cx}{e:bp}{t t':TT}(h:PT X e t) (i:∀σ H Q,t' σ H Q->t σ H Q):PT X e t':=λpins s σ H Q I q=>h pins s σ H Q I (i σ H Q q)
theorem PA.imp {X:Cx}{e:List bp}{t t':TA}(h:PA X e t) (i:∀σ H Q,t' σ H Q->t σ H Q):PA X e t':=λpos pins s σ H Q I q=>h pos pins s σ H Q I (i σ H Q q)
section
variable{G:Cfg}{E:XK}{σ:St}{H:Hp}
theorem eX {m:M Dv}{γ δ:Type}{f:Dv->Hs->Rs γ}{R:(Nat->ah)->Nat->Hp->γ->δ->Prop}{Q:δ->Hp->Prop}{Q1:V->Hp->Prop}{μ:Nat->ah}{ρ:Ev}{h:Hs}(rs:RelS G μ h.length H ρ σ) (s:Sim G μ h H) (o:Out G E μ h.length H ((m ρ h).bind f) R Q)
  (k:∀μ1 d h1 v H1,Ext μ h.length H μ1 h1.length H1->RelS G μ1 h1.length H1 ρ σ->Sim G μ1 h1 H1->RelD G μ1 h1.length H1 d v->Out G E μ1 h1.length H1 (f d h1) R Q->Q1 v H1):gX G E m σ H Q1:=
 ⟨μ,ρ,h,rs,s,(o.bind (R1:=RelD G)).mono λv H1 ⟨μ1,d,h1,x,s1,r1,o1⟩=>k μ1 d h1 v H1 x (rs.mono x) s1 r1 o1⟩
theorem AK {m:M Bool}{γ δ:Type}{f:Bool->Hs->Rs γ}{R:(Nat->ah)->Nat->Hp->γ->δ->Prop}{Q:δ->Hp->Prop}{Q1:Bool->Hp->Prop}{μ:Nat->ah}{ρ:Ev}{h:Hs}(rs:RelS G μ h.length H ρ σ) (s:Sim G μ h H) (o:Out G E μ h.length H ((m ρ h).bind f) R Q)
  (k:∀μ1 b h1 H1,Ext μ h.length H μ1 h1.length H1->RelS G μ1 h1.length H1 ρ σ->Sim G μ1 h1 H1->Out G E μ1 h1.length H1 (f b h1) R Q->Q1 b H1):hZ G E m σ H Q1:=
 ⟨μ,ρ,h,rs,s,(o.bind (R1:=RB)).mono λv H1 ⟨μ1,d,h1,x,s1,r1,o1⟩=>by have e:v=d:=r1;subst e;exact k μ1 v h1 H1 x (rs.mono x) s1 o1⟩
theorem kA {m:M (List Dv)}{γ δ:Type}{f:List Dv->Hs->Rs γ}{R:(Nat->ah)->Nat->Hp->γ->δ->Prop}{Q:δ->Hp->Prop}{Q1:List V->Hp->Prop}{μ:Nat->ah}{ρ:Ev}{h:Hs}(rs:RelS G μ h.length H ρ σ) (s:Sim G μ h H) (o:Out G E μ h.length H ((m ρ h).bind f) R Q)
  (k:∀μ1 d h1 v H1,Ext μ h.length H μ1 h1.length H1->RelS G μ1 h1.length H1 ρ σ->Sim G μ1 h1 H1->RelDL G μ1 h1.length H1 d v->Out G E μ1 h1.length H1 (f d h1) R Q->Q1 v H1):AJ G E m σ H Q1:=
 ⟨μ,ρ,h,rs,s,(o.bind (R1:=RelDL G)).mono λv H1 ⟨μ1,d,h1,x,s1,r1,o1⟩=>k μ1 d h1 v H1 x (rs.mono x) s1 r1 o1⟩
theorem Out.val {α β:Type}{μ:Nat->ah}{h:Hs}{d:α}{R:(Nat->ah)->Nat->Hp->α->β->Prop}{Q:β->Hp->Prop}{v:β}(s:Sim G μ h H) (o:Out G E μ h.length H (.ok d h) R Q) (r:R μ h.length H d v):Q v H:=o μ H v Ext.refl s r
end
section
variable{G:Cfg}{μ:Nat->ah}{h:Hs}{H H':Hp}{p:ah}{n:Nat}
theorem Ext.same (e:Same H H'):Ext μ n H μ n H':=⟨aj _,λ_ _=>rfl,λa o _ q=>e a o q⟩
theorem Sim.same (s:Sim G μ h H) (e:Same H H'):Sim G μ h H':=⟨s.inj,λi o q=>by
 have r:=s.ob i o q
 cases o with
 |lst xs=>obtain⟨vs,e1,r1⟩:=r;exact⟨vs,e _ _ e1,RelDL.mono (Ext.same e) _ _ r1⟩,s.tab.keep λa o _ _ q=>e a o q⟩
theorem cR {o:HO}(h:H p=none):Same H (aW H p o):=λb u e=>by rw[bT (fF e h)];exact e
theorem Sim.not (s:Sim G μ h H) (hp:H p=none):∀(i:Nat),i<h.length->μ i≠p:=λi hi z=>by
 have q:h[i]?=some h[i]:=aw hi;generalize h[i]=o at q
 cases o with
 |lst xs=>obtain⟨vs,e1,_⟩:=s.ob i _ q;rw[z,hp]at e1;cases e1
theorem Sim.alloc {ds:List Dv}{vs:List V}(s:Sim G μ h H) (hp:H p=none) (r:RelDL G μ h.length H ds vs):
  Ext μ h.length H (λi=>if i=h.length then p else μ i) (h++[Ob.lst ds]).length (aW H p (.lst vs))/\Sim G (λi=>if i=h.length then p else μ i) (h++[.lst ds]) (aW H p (.lst vs)):=by
 have hl:(h++[Ob.lst ds]).length=h.length+1:=by simp
 have hq:=s.not hp;have x:Ext μ h.length H (λi=>if i=h.length then p else μ i) (h++[Ob.lst ds]).length (aW H p (.lst vs)):=⟨by omega,λi hi=>if_neg (bf hi),λa o _ e=>cR hp a o e⟩
 refine⟨x,λi j hi hj e=>?_,λi o q=>?_,s.tab.keep λa o _ _ q=>cR hp a o q⟩
 ·rw[hl]at hi hj
  by_cases h1:i=h.length <;> by_cases h2:j=h.length
  ·omega
  ·rw[if_pos h1,if_neg h2]at e;exact absurd e.symm (hq j (by omega))
  ·rw[if_neg h1,if_pos h2]at e;exact absurd e (hq i (by omega))
  ·rw[if_neg h1,if_neg h2]at e;exact s.inj i j (by omega) (by omega) e
 ·by_cases h1:i<h.length
  ·rw[dz h1]at q;have r1:=s.ob i o q
   cases o with
   |lst xs=>obtain⟨ws,e1,r2⟩:=r1;exact⟨ws,by rw[if_neg (bf h1)];exact cR hp _ _ e1,RelDL.mono x _ _ r2⟩
  ·rw[gb (by omega)]at q;have h2:i=h.length:=by have:=(az.mp q).1;simp at this;omega
   subst h2;simp at q;subst q;exact⟨vs,by rw[if_pos rfl];exact cU,RelDL.mono x _ _ r⟩
theorem Sim.write {xs ys:List Dv}{i:Nat}{vs:List V}(s:Sim G μ h H) (q:h[i]?=some (.lst xs)) (r:RelDL G μ h.length H ys vs):
  Ext μ h.length H μ (h.set i (.lst ys)).length (aW H (μ i) (.lst vs))/\Sim G μ (h.set i (.lst ys)) (aW H (μ i) (.lst vs)):=by
 obtain⟨us,e0,r0⟩:=s.ob i _ q;have hi:i<h.length:=(az.mp q).1;have im:∀a o,AI o->H a=some o->aW H (μ i) (.lst vs) a=some o:=λa o m e=>by
  rw[bT];exact e
  rintro rfl;rw[e0]at e;cases e;exact m
 have x:Ext μ h.length H μ (h.set i (.lst ys)).length (aW H (μ i) (.lst vs)):=⟨by simp,λ_ _=>rfl,im⟩
 refine⟨x,λa b ha hb=>?_,λj o e=>?_,s.tab.keep λa o n1 _ q=>?_⟩
 rotate_left 2
 ·rw[bT];exact q
  rintro rfl;rw[e0]at q;cases q;exact n1 _ rfl
 ·rw[kd]at ha hb;exact s.inj a b ha hb
 ·by_cases hij:i=j
  ·subst hij;rw[de hi]at e;cases e;exact⟨vs,cU,RelDL.mono x _ _ r⟩
  ·rw[di hij]at e;have hj:j<h.length:=(az.mp e).1;have r1:=s.ob j o e;have ne:μ j≠μ i:=λz=>hij (s.inj j i hj hi z).symm
   cases o with
   |lst zs=>obtain⟨ws,e1,r2⟩:=r1;exact⟨ws,by rw[bT ne];exact e1,RelDL.mono x _ _ r2⟩
end
def lim {α:Type}(n:Nat) (r:Rs α):Rs α:=if n<=1000000 then r else .bad
theorem qY {n:Nat}(h:n<=1000000):n<=cj:=cq h (by decide)
def getL (h:Hs) (i:Nat):Option (List Dv):=match h[i]? with
 |some (.lst xs)=>some xs
 |none=>none
theorem cY {h:Hs}{i:Nat}{xs:List Dv}(e:getL h i=some xs):h[i]?=some (.lst xs):=by
 unfold getL at e
 cases q:h[i]? with
 |none=>rw[q]at e;cases e
 |some o=>cases o;rw[q]at e;cases e;rfl
section
variable{X:Cx}{G:Cfg}{E:XK}{a b c:bp}{ma mb mc:M Dv}{pos:Pos}{es:List bp}{aV:M (List Dv)}
def aA (i:Nat):M Dv:=λρ h=>match ρ[i]? with
 |some (some d)=>.ok d h
 |_=>.bad
theorem aD (i:Nat) {x:Str}(hN:X.N[i]?=some x:=by rfl) (hv:oX X.env.scope x:=by first|exact Al rfl|exact Or.inr (Al rfl)|exact Or.inr (Or.inr rfl))
  (hd:(x==("__debug__" : Str))=false:=by decide) (hcd:(x==("__classdict__" : Str))=false:=by decide):aL X G E (.Name x pos) (aA i):=λ_=>PE.imp (qL hN hv hd hcd) λσ H Q ⟨μ,ρ,h,rs,s,o⟩=>by
 unfold aA at o
 split at o
 ·rename_i d e;obtain⟨v,e1,r⟩:=rs.at_ i d e;exact⟨v,e1,o.val s r⟩
 ·exact o.elim
def mC (d:Dv):M Dv:=λ_ h=>.ok d h
theorem bA {i j}:aL X G E (.Constant (.int i) j pos) (mC (.int i)):=λ_=>PE.imp N3 λσ H Q ⟨μ,ρ,h,rs,s,o⟩=>o.val s (show RelD G μ _ H (.int i) (.int i) from rfl)
theorem iA {i j}:aL X G E (.Constant (.bool i) j pos) (mC (.bl i)):=λ_=>PE.imp N4 λσ H Q ⟨μ,ρ,h,rs,s,o⟩=>o.val s (show RelD G μ _ H (.bl i) (.bl i) from rfl)
theorem nM {j}:aL X G E (.Constant .none j pos) (mC .non):=λ_=>PE.imp FF λσ H Q ⟨μ,ρ,h,rs,s,o⟩=>o.val s (show RelD G μ _ H .non .non from rfl)
theorem AL {x j}:aL X G E (.Constant (.str x) j pos) (mC (.str x)):=λ_=>PE.imp FG λσ H Q ⟨μ,ρ,h,rs,s,o⟩=>o.val s (show RelD G μ _ H (.str x) (.str x) from rfl)
def aC:M (List Dv):=λ_ h=>.ok [] h
def aB (m:M Dv) (ms:M (List Dv)):M (List Dv):=λρ h=>(m ρ h).bind λd h1=>(ms ρ h1).bind λds h2=>.ok (d::ds) h2
theorem aU:eC X G E [] aC:=λ_=>PA.imp jA λσ H Q ⟨μ,ρ,h,rs,s,o⟩=>o.val s RelDL.nil
theorem aJ (ha:aL X G E a ma) (hr:eC X G E es aV) (hs:au (a::es) X.env=(false,eval a X.env)::au es X.env:=by rfl):eC X G E (a::es) (aB ma aV):=λhK=>PA.imp (gW (ha hK) (hr hK) hs) λσ H Q ⟨μ,ρ,h,rs,s,o⟩=>eX rs s o λμ1 d h1 v H1 x1 rs1 s1 r1 o1=>kA rs1 s1 o1 λμ2 ds h2 vs H2 x2 rs2 s2 r2 o2=>o2.val s2 (RelDL.cons (RelD.mono x2 _ _ r1) r2)
def aR (ms:M (List Dv)):M Dv:=λρ h=>(ms ρ h).bind λds h1=>lim ds.length (.ok (.tup ds) h1)
theorem gY {k} (h:eC X G E es aV):aL X G E (.Tuple es k pos) (aR aV):=λhK=>PE.imp (FY (h hK)) λσ H Q ⟨μ,ρ,h,rs,s,o⟩=>kA rs s o λμ1 ds h1 vs H1 x1 rs1 s1 r1 o1=>by
 unfold lim at o1
 split at o1
 ·rename_i hl;refine⟨by rw[r1.length];exact qY hl,λp hp=>?_⟩;exact o1 μ1 _ _ (Ext.same (cR hp)) (s1.same (cR hp)) ⟨p,vs,rfl,cU,RelDL.mono (Ext.same (cR hp)) _ _ r1⟩
 ·exact o1.elim
def aX (ms:M (List Dv)):M Dv:=λρ h=>(ms ρ h).bind λds h1=>lim ds.length (.ok (.ref h1.length) (h1++[.lst ds]))
theorem nO {μ:Nat->ah}{h:Hs}{H:Hp}{ds:List Dv}{vs:List V}{Q:VK}{p:ah}(s:Sim G μ h H) (r:RelDL G μ h.length H ds vs) (hp:H p=none) (o:Out G E μ h.length H (.ok (.ref h.length) (h++[.lst ds])) (RelD G) Q):Q (.ref p) (aW H p (.lst vs)):=by obtain⟨x,s'⟩:=s.alloc hp r;exact o _ _ _ x s' ⟨by simp,by show V.ref p=V.ref (if h.length=h.length then p else μ h.length);rw[if_pos rfl]⟩
theorem fZ (h:eC X G E es aV):aL X G E (.List es pos) (aX aV):=λhK=>PE.imp (QH (h hK)) λσ H Q ⟨μ,ρ,h,rs,s,o⟩=>kA rs s o λμ1 ds h1 vs H1 x1 rs1 s1 r1 o1=>by
 unfold lim at o1
 split at o1
 ·rename_i hl;exact⟨by rw[r1.length];exact qY hl,λp hp=>nO s1 r1 hp o1⟩
 ·exact o1.elim
def m2 (f:Dv->Dv->Hs->Rs Dv) (ma mb:M Dv):M Dv:=λρ h=>(ma ρ h).bind λx h1=>(mb ρ h1).bind λy h2=>f x y h2
def fH (G:Cfg) (r:R2) (f:Dv->Dv->Hs->Rs Dv):Prop:=∀(E:XK) (μ:Nat->ah) (h:Hs) (H:Hp) (x y:Dv) (vx vy:V) (Q:VK),Sim G μ h H->RelD G μ h.length H x vx->RelD G μ h.length H y vy->Out G E μ h.length H (f x y h) (RelD G) Q->r vx vy H Q
theorem qZ {r:R2}{f:Dv->Dv->Hs->Rs Dv}(hd:fH G r f) {σ:St}{H:Hp}{Q:VK}(t:gX G E (m2 f ma mb) σ H Q):qO r (gX G E ma) (gX G E mb) σ H Q:=by obtain⟨μ,ρ,h,rs,s,o⟩:=t;exact eX rs s o λμ1 x h1 vx H1 x1 rs1 s1 r1 o1=>eX rs1 s1 o1 λμ2 y h2 vy H2 x2 rs2 s2 r2 o2=>hd E μ2 h2 H2 x y vx vy Q s2 (RelD.mono x2 _ _ r1) r2 o2
theorem nQ {op:Operator}{r:R2}{f:Dv->Dv->Hs->Rs Dv}(ho:OpR X (binaryOp op) r) (hd:fH G r f) (ha:aL X G E a ma) (hb:aL X G E b mb):aL X G E (.BinOp a op b pos) (m2 f ma mb):=λhK=>PE.imp (PN ho (ha hK) (hb hK)) λ_ _ _ t=>qZ hd t
theorem rA {op:CmpOp}{r:R2}{f:Dv->Dv->Hs->Rs Dv}(ho:OpR X (compareOp op) r) (hd:fH G r f) (ha:aL X G E a ma) (hb:aL X G E b mb) (hm:behindInMarks op b=false):aL X G E (.Compare a [op] [b] pos) (m2 f ma mb):=λhK=>PE.imp (P5 ho (ha hK) (hb hK) hm) λ_ _ _ t=>qZ hd t
def cS:Dv->Hs->Rs Bool
 | .bl b,h=>.ok b h
 |_,_=>.bad
def mB (m:M Dv):M Bool:=λρ h=>(m ρ h).bind cS
theorem R6 {m:M Dv}{σ:St}{H:Hp}{Q:Bool->Hp->Prop}(t:hZ G E (mB m) σ H Q):gX G E m σ H λx H'=>∃k,x=.bl k/\Q k H':=by
 obtain⟨μ,ρ,h,rs,s,o⟩:=t;refine eX rs s o λμ1 x h1 vx H1 x1 rs1 s1 r1 o1=>?_
 cases x with
 |bl k=>exact⟨k,r1,o1.val s1 rfl⟩
 |_=>exact o1.elim
theorem mH {op:CmpOp}{r:R2}{f:Dv->Dv->Hs->Rs Dv}(ho:OpR X (compareOp op) r) (hd:fH G r f) (ha:aL X G E a ma) (hb:aL X G E b mb) (hm:behindInMarks op b=false):fO X G E (.Compare a [op] [b] pos) (mB (m2 f ma mb)):=λhK=>PT.imp (P7 ho (ha hK) (hb hK) hm) λσ H Q t=>qZ hd (R6 t)
def kX (f f':Dv->Dv->Hs->Rs Dv) (ma mb mc:M Dv):M Dv:=λρ h=>(ma ρ h).bind λx h1=>(mb ρ h1).bind λy h2=>(f x y h2).bind λz h3=>match z with
 | .bl true=>(mc ρ h3).bind λw h4=>f' y w h4
 | .bl false=>.ok (.bl false) h3
 |_=>.bad
theorem R7 {r r':R2}{f f':Dv->Dv->Hs->Rs Dv}(hd:fH G r f) (hd':fH G r' f') {σ:St}{H:Hp}{Q:VK}(t:gX G E (kX f f' ma mb mc) σ H Q):FT r r' (gX G E ma) (gX G E mb) (gX G E mc) σ H Q:=by
 obtain⟨μ,ρ,h,rs,s,o⟩:=t;refine eX rs s o λμ1 x h1 vx H1 x1 rs1 s1 r1 o1=>eX rs1 s1 o1 λμ2 y h2 vy H2 x2 rs2 s2 r2 o2=>?_;refine hd E μ2 h2 H2 x y vx vy _ s2 (RelD.mono x2 _ _ r1) r2 ((o2.bind (R1:=RelD G)).mono λvz H3 ⟨μ3,z,h3,x3,s3,r3,o3⟩=>?_)
 cases z with
 |bl k=>
  refine⟨k,r3, ?_⟩
  cases k with
  |true=>exact GU (eX (rs2.mono x3) s3 o3 λμ4 w h4 vw H4 x4 nK s4 r4 o4=>hd' E μ4 h4 H4 y w vy vw Q s4 (RelD.mono (x3.trans x4) _ _ r2) r4 o4)
  |false=>exact GS (o3.val s3 rfl)
 |_=>exact o3.elim
theorem HB {op op':CmpOp}{r r':R2}{f f':Dv->Dv->Hs->Rs Dv}(ho:OpR X (compareOp op) r) (ho':OpR X (compareOp op') r') (hd:fH G r f) (hd':fH G r' f') (ha:aL X G E a ma) (hb:aL X G E b mb) (hc:aL X G E c mc)
  (hm:lastMarks [op,op'] [b,c]=false:=by with_unfolding_all rfl):aL X G E (.Compare a [op,op'] [b,c] pos) (kX f f' ma mb mc):=λhK=>
 PE.imp (P8 ho ho' (ha hK) (hb hK) (hc hK) hm) λ_ _ _ t=>R7 hd hd' t
def kY (G:Cfg) (r:V->Hp->VK->Prop) (f:Dv->Hs->Rs Dv):Prop:=∀(E:XK) (μ:Nat->ah) (h:Hs) (H:Hp) (x:Dv) (vx:V) (Q:VK),Sim G μ h H->RelD G μ h.length H x vx->Out G E μ h.length H (f x h) (RelD G) Q->r vx H Q
def m1 (f:Dv->Hs->Rs Dv) (ma:M Dv):M Dv:=λρ h=>(ma ρ h).bind f
theorem R8 {op:UnaryOp}{r:V->Hp->VK->Prop}{f:Dv->Hs->Rs Dv}(ho:uK X (unaryOp op) r) (hd:kY G r f) (ha:aL X G E a ma):aL X G E (.UnaryOp op a pos) (m1 f ma):=λhK=>PE.imp (PQ ho (ha hK)) λσ H Q ⟨μ,ρ,h,rs,s,o⟩=>eX rs s o λμ1 x h1 vx H1 x1 rs1 s1 r1 o1=>hd E μ1 h1 H1 x vx Q s1 r1 o1
variable{tA tB':M Bool}{rest:List bp}
def iB (t u:M Bool):M Bool:=λρ h=>(t ρ h).bind λc h1=>if c=true then u ρ h1 else .ok false h1
def gJ (t u:M Bool):M Bool:=λρ h=>(t ρ h).bind λc h1=>if c=true then .ok true h1 else u ρ h1
def dJ (t:M Bool):M Bool:=λρ h=>(t ρ h).bind λc h1=>.ok (!c) h1
def SndW (X:Cx) (G:Cfg) (E:XK) (pe:bp) (m:M Bool):Prop:=X.K=G.K->PW X pe (hZ G E m)
theorem SndW.t {pe:bp}{m:M Bool}(h:SndW X G E pe m):fO X G E pe m:=λhK=>(h hK).pt
theorem PW.imp {e:bp}{t t':TT}(h:PW X e t) (i:∀σ H Q,t' σ H Q->t σ H Q):PW X e t':=λwh pins s σ H Q I q=>h wh pins s σ H Q I (i σ H Q q)
theorem HC (ha:fO X G E a tA):SndW X G E (.BoolOp .And [a] pos) tA:=λhK=>N6 (ha hK)
theorem rD (ha:fO X G E a tA):SndW X G E (.BoolOp .Or [a] pos) tA:=λhK=>N7 (ha hK)
theorem R9 {σ:St}{H:Hp}{Q:Bool->Hp->Prop}(t:hZ G E (iB tA tB') σ H Q):FI (hZ G E tA) (hZ G E tB') σ H Q:=by
 obtain⟨μ,ρ,h,rs,s,o⟩:=t;refine AK rs s o λμ1 k h1 H1 x1 rs1 s1 o1=>?_
 cases k with
 |true=>rw[if_pos rfl]at o1 ⊢;exact⟨μ1,ρ,h1,rs1,s1,o1⟩
 |false=>rw[if_neg (by decide)]at o1 ⊢;exact o1.val s1 rfl
theorem SA {σ:St}{H:Hp}{Q:Bool->Hp->Prop}(t:hZ G E (gJ tA tB') σ H Q):FJ (hZ G E tA) (hZ G E tB') σ H Q:=by
 obtain⟨μ,ρ,h,rs,s,o⟩:=t;refine AK rs s o λμ1 k h1 H1 x1 rs1 s1 o1=>?_
 cases k with
 |false=>rw[if_neg (by decide)]at o1 ⊢;exact⟨μ1,ρ,h1,rs1,s1,o1⟩
 |true=>rw[if_pos rfl]at o1 ⊢;exact o1.val s1 rfl
theorem AM (ha:fO X G E a tA) (hb:SndW X G E (.BoolOp .And (b::rest) pos) tB'):SndW X G E (.BoolOp .And (a::b::rest) pos) (iB tA tB'):=λhK=>PW.imp (N8 (ha hK) (hb hK)) λ_ _ _ t=>R9 t
theorem rF (ha:fO X G E a tA) (hb:SndW X G E (.BoolOp .Or (b::rest) pos) tB'):SndW X G E (.BoolOp .Or (a::b::rest) pos) (gJ tA tB'):=λhK=>PW.imp (N9 (ha hK) (hb hK)) λ_ _ _ t=>SA t
theorem kB (ha:fO X G E a tA):fO X G E (.UnaryOp .Not a pos) (dJ tA):=λhK=>PT.imp (OA (ha hK)) λσ H Q ⟨μ,ρ,h,rs,s,o⟩=>AK rs s o λμ1 k h1 H1 x1 rs1 s1 o1=>o1.val s1 rfl
def dF (m u:M Dv):M Dv:=λρ h=>(m ρ h).bind λd h1=>match d with
 | .bl true=>u ρ h1
 | .bl false=>.ok (.bl false) h1
 |_=>.bad
def mI:Dv->Hs->Rs Dv
 | .bl b,h=>.ok (.bl (!b)) h
 |_,_=>.bad
theorem lN {op} {m:M Dv}(h:aL X G E a m):aL X G E (.BoolOp op [a] pos) m:=λhK=>OD (h hK)
theorem kZ (ha:aL X G E a ma) (hb:aL X G E (.BoolOp .And (b::rest) pos) mb):aL X G E (.BoolOp .And (a::b::rest) pos) (dF ma mb):=λhK=>PE.imp (OE (ha hK) (hb hK)) λσ H Q ⟨μ,ρ,h,rs,s,o⟩=>
 eX rs s o λμ1 x h1 vx H1 x1 rs1 s1 r1 o1=>by
  cases x with
  |bl k=>
   refine⟨k,r1, ?_⟩
   cases k with
   |true=>exact GU ⟨μ1,ρ,h1,rs1,s1,o1⟩
   |false=>exact GS (o1.val s1 rfl)
  |_=>exact o1.elim
theorem AN (ha:aL X G E a ma):aL X G E (.UnaryOp .Not a pos) (m1 mI ma):=λhK=>PE.imp (OF (ha hK)) λσ H Q ⟨μ,ρ,h,rs,s,o⟩=>
 eX rs s o λμ1 x h1 vx H1 x1 rs1 s1 r1 o1=>by
  cases x with
  |bl k=>exact⟨k,r1,o1.val s1 rfl⟩
  |_=>exact o1.elim
def eQ:Dv->Hs->Rs Bool
 | .non,h=>.ok false h
 | .bl b,h=>.ok b h
 | .int i,h=>.ok (i != 0) h
 | .tup xs,h=>.ok (!xs.isEmpty) h
 | .ref i,h=>match getL h i with
  |some xs=>.ok (!xs.isEmpty) h
  |none=>.bad
 |_,_=>.bad
def bV (m:M Dv):M Bool:=λρ h=>(m ρ h).bind eQ
theorem HD {μ:Nat->ah}{n:Nat}{H:Hp}{ds:List Dv}{vs:List V}(r:RelDL G μ n H ds vs):vs.isEmpty=ds.isEmpty:=by
 have:=r.length
 cases ds <;> cases vs <;> simp_all
theorem gK (ha:aL X G E a ma) (he:∀whole,isTrue a X.env whole=(do let v <-whole;standAt a.pos;holding [v] (truthy v)):=by intro _;rfl):fO X G E a (bV ma):=λhK=>PT.imp (QB (ha hK) he) λσ H Q ⟨μ,ρ,h,rs,s,o⟩=>
 eX rs s o λμ1 x h1 vx H1 x1 rs1 s1 r1 o1=>by
  cases x with
  |non=>rw[RelD]at r1;subst r1;exact⟨_,rfl,o1.val s1 rfl⟩
  |bl k=>rw[RelD]at r1;subst r1;exact⟨_,rfl,o1.val s1 rfl⟩
  |int i=>rw[RelD]at r1;subst r1;exact⟨_,rfl,o1.val s1 rfl⟩
  |tup ds=>obtain⟨p,vs,rfl,e,r⟩:=r1;exact⟨_,.inr (.inl ⟨vs,SqT.of e,rfl⟩),by rw[HD r];exact o1.val s1 rfl⟩
  |ref i=>
   obtain⟨hi,rfl⟩:=r1;dsimp only[eQ]at o1
   cases q:getL h1 i with
   |none=>rw[q]at o1;exact o1.elim
   |some xs=>obtain⟨vs,e,r⟩:=s1.ob i _ (cY q);rw[q]at o1;exact⟨_,.inl ⟨vs,SqL.of e,rfl⟩,by rw[HD r];exact o1.val s1 rfl⟩
  |_=>exact o1.elim
end
end L2.Mr
namespace L2
open PySem PySem.Spec PyProof.Rows
section
variable{Pg:bo}{w:cw}{P:ah->Prop}{H:Hp}{s:ag}
theorem SD (hok:HOk Pg w H s.heap) (n:Nat) (A:cx) (d d':Dt) (v v':V) (u u':af) (hn:fG d<=n) (hu:A.units+n+1<cLine) (n1:nod d=true) (n2:nod d'=true) (h:Den P H d v) (h':Den P H d' v') (r:RelV v u) (r':RelV v' u'):
  SeqAt.RcNeAt A s u u' (!bS d d'):=by
 have hu':A.units<cLine:=by omega
 have hin:∀{vs vs':List V}{ds ds':List Dt}{its its':List af},kW ds+1<=n->jB ds=true->jB ds'=true->DenL P H ds vs->DenL P H ds' vs'->Vals vs its->Vals vs' its'->
   ∀j (h1:j<its.toArray.size) (h2:j<its'.toArray.size),uc A.in1 s its.toArray[j] its'.toArray[j] (bS (ds.getD j .non) (ds'.getD j .non)):=by
  intro vs vs' ds ds' its its' hd m1 m2 g g' q q' j h1 h2;obtain⟨x,ex,rx⟩:=uV q h1;obtain⟨x',ex',rx'⟩:=uV q' h2;obtain⟨dx,edx,gx⟩:=g.get ex;obtain⟨dx',edx',gx'⟩:=g'.get ex';have e1:ds.getD j .non=dx:=by simp[kv,edx]
  have e2:ds'.getD j .non=dx':=by simp[kv,edx']
  rw[e1,e2];have hm:=bz edx;have hdm:=AG hm;exact(AH hok (n - 1) A.in1 dx dx' x x' _ _ (by omega) (by show A.units+1+(n - 1)+1<cLine;omega) (qV m1 hm) (qV m2 (bz edx')) gx gx' rx rx').2
 cases d with
 |non=>
  rw[Den]at h;subst h;cases r
  cases d' with
  |non=>rw[Den]at h';subst h';cases r';exact SeqAt.RcNeAt.none_none
  |bl b'=>rw[Den]at h';subst h';cases r';exact SeqAt.RcNeAt.none_bool  _
  |int i'=>rw[Den]at h';subst h';obtain⟨t2,rfl⟩:=r';exact SeqAt.RcNeAt.none_int  _ _
  |str x'=>rw[Den]at h';subst h';obtain⟨t2,rfl⟩:=r';exact SeqAt.RcNeAt.none_str  _ _
  |tup ds'=>rw[Den]at h';obtain⟨a2,vs2,rfl,e2,g2⟩:=h';cases r';obtain⟨its2,q2,tp2⟩:=fX hok e2;exact SeqAt.RcNeAt.none_tuple  tp2 hu'
  |lst ds'=>rw[Den]at h';obtain⟨a2,vs2,rfl,_,e2,g2⟩:=h';cases r';obtain⟨its2,q2,tp2⟩:=fY hok e2;exact SeqAt.RcNeAt.none_list  tp2 hu'
  |dct=>simp[nod]at n2
 |bl b=>
  rw[Den]at h;subst h;cases r
  cases d' with
  |non=>rw[Den]at h';subst h';cases r';exact SeqAt.RcNeAt.bool_none _
  |bl b'=>rw[Den]at h';subst h';cases r';exact SeqAt.RcNeAt.bool_bool _ _
  |int i'=>rw[Den]at h';subst h';obtain⟨t2,rfl⟩:=r';exact SeqAt.RcNeAt.bool_int _ _ _
  |str x'=>rw[Den]at h';subst h';obtain⟨t2,rfl⟩:=r';exact SeqAt.RcNeAt.bool_str _ _ _
  |tup ds'=>rw[Den]at h';obtain⟨a2,vs2,rfl,e2,g2⟩:=h';cases r';obtain⟨its2,q2,tp2⟩:=fX hok e2;exact SeqAt.RcNeAt.bool_tuple _ tp2 hu'
  |lst ds'=>rw[Den]at h';obtain⟨a2,vs2,rfl,_,e2,g2⟩:=h';cases r';obtain⟨its2,q2,tp2⟩:=fY hok e2;exact SeqAt.RcNeAt.bool_list _ tp2 hu'
  |dct=>simp[nod]at n2
 |int i=>
  rw[Den]at h;subst h;obtain⟨t1,rfl⟩:=r
  cases d' with
  |non=>rw[Den]at h';subst h';cases r';exact SeqAt.RcNeAt.int_none _ _
  |bl b'=>rw[Den]at h';subst h';cases r';exact SeqAt.RcNeAt.int_bool _ _ _
  |int i'=>rw[Den]at h';subst h';obtain⟨t2,rfl⟩:=r';exact SeqAt.RcNeAt.int_int _ _ _ _
  |str x'=>rw[Den]at h';subst h';obtain⟨t2,rfl⟩:=r';exact SeqAt.RcNeAt.int_str _ _ _ _
  |tup ds'=>rw[Den]at h';obtain⟨a2,vs2,rfl,e2,g2⟩:=h';cases r';obtain⟨its2,q2,tp2⟩:=fX hok e2;exact SeqAt.RcNeAt.int_tuple _ _ tp2 hu'
  |lst ds'=>rw[Den]at h';obtain⟨a2,vs2,rfl,_,e2,g2⟩:=h';cases r';obtain⟨its2,q2,tp2⟩:=fY hok e2;exact SeqAt.RcNeAt.int_list _ _ tp2 hu'
  |dct=>simp[nod]at n2
 |str x=>
  rw[Den]at h;subst h;obtain⟨t1,rfl⟩:=r
  cases d' with
  |non=>rw[Den]at h';subst h';cases r';exact SeqAt.RcNeAt.str_none _ _
  |bl b'=>rw[Den]at h';subst h';cases r';exact SeqAt.RcNeAt.str_bool _ _ _
  |int i'=>rw[Den]at h';subst h';obtain⟨t2,rfl⟩:=r';exact SeqAt.RcNeAt.str_int _ _ _ _
  |str x'=>rw[Den]at h';subst h';obtain⟨t2,rfl⟩:=r';exact SeqAt.RcNeAt.str_str _ _ _ _
  |tup ds'=>rw[Den]at h';obtain⟨a2,vs2,rfl,e2,g2⟩:=h';cases r';obtain⟨its2,q2,tp2⟩:=fX hok e2;exact SeqAt.RcNeAt.str_tuple _ _ tp2 hu'
  |lst ds'=>rw[Den]at h';obtain⟨a2,vs2,rfl,_,e2,g2⟩:=h';cases r';obtain⟨its2,q2,tp2⟩:=fY hok e2;exact SeqAt.RcNeAt.str_list _ _ tp2 hu'
  |dct=>simp[nod]at n2
 |tup ds=>
  rw[Den]at h;obtain⟨a1,vs1,rfl,e1,g1⟩:=h;cases r;obtain⟨its1,q1,tp1⟩:=fX hok e1
  cases d' with
  |non=>rw[Den]at h';subst h';cases r';exact SeqAt.RcNeAt.tuple_none  tp1 hu'
  |bl b'=>rw[Den]at h';subst h';cases r';exact SeqAt.RcNeAt.tuple_bool _ tp1 hu'
  |int i'=>rw[Den]at h';subst h';obtain⟨t2,rfl⟩:=r';exact SeqAt.RcNeAt.tuple_int _ _ tp1 hu'
  |str x'=>rw[Den]at h';subst h';obtain⟨t2,rfl⟩:=r';exact SeqAt.RcNeAt.tuple_str _ _ tp1 hu'
  |tup ds'=>
   rw[Den]at h';obtain⟨a2,vs2,rfl,e2,g2⟩:=h';cases r';obtain⟨its2,q2,tp2⟩:=fX hok e2;rw[nod]at n1 n2;rw[fG]at hn;have hl1:=g1.length;have hl2:=g2.length;have hq1:=q1.length;have hq2:=q2.length;rw[bS];have z:=SeqAt.RcNeAt.tuples (e:=λj=>bS (ds.getD j .non) (ds'.getD j .non)) tp1 tp2 hu' (hin hn n1 n2 g1 g2 q1 q2);have s1:its1.toArray.size=ds.length:=by simp;omega
   have s2:its2.toArray.size=ds'.length:=by simp;omega
   rw[s1,s2]at z
   by_cases hlen:ds.length=ds'.length
   ·rw[qW hlen];rw[<-hlen,Nat.min_self]at z;simpa using z
   ·rw[qX hlen];rw[show(ds.length==ds'.length)=false from beq_eq_false_iff_ne.mpr hlen,pb]at z;exact z
  |lst ds'=>rw[Den]at h';obtain⟨a2,vs2,rfl,_,e2,g2⟩:=h';cases r';obtain⟨its2,q2,tp2⟩:=fY hok e2;exact SeqAt.RcNeAt.tuple_list tp1 tp2 hu'
  |dct=>simp[nod]at n2
 |lst ds=>
  rw[Den]at h;obtain⟨a1,vs1,rfl,_,e1,g1⟩:=h;cases r;obtain⟨its1,q1,tp1⟩:=fY hok e1
  cases d' with
  |non=>rw[Den]at h';subst h';cases r';exact SeqAt.RcNeAt.list_none  tp1 hu'
  |bl b'=>rw[Den]at h';subst h';cases r';exact SeqAt.RcNeAt.list_bool _ tp1 hu'
  |int i'=>rw[Den]at h';subst h';obtain⟨t2,rfl⟩:=r';exact SeqAt.RcNeAt.list_int _ _ tp1 hu'
  |str x'=>rw[Den]at h';subst h';obtain⟨t2,rfl⟩:=r';exact SeqAt.RcNeAt.list_str _ _ tp1 hu'
  |tup ds'=>rw[Den]at h';obtain⟨a2,vs2,rfl,e2,g2⟩:=h';cases r';obtain⟨its2,q2,tp2⟩:=fX hok e2;exact SeqAt.RcNeAt.list_tuple tp1 tp2 hu'
  |lst ds'=>
   rw[Den]at h';obtain⟨a2,vs2,rfl,_,e2,g2⟩:=h';cases r';obtain⟨its2,q2,tp2⟩:=fY hok e2;rw[nod]at n1 n2;rw[fG]at hn;have hl1:=g1.length;have hl2:=g2.length;have hq1:=q1.length;have hq2:=q2.length;rw[bS]
   by_cases hlen:ds.length=ds'.length
   ·have z:=SeqAt.RcNeAt.lists (e:=λj=>bS (ds.getD j .non) (ds'.getD j .non)) tp1 tp2 (by simp;omega) hu' (hin hn n1 n2 g1 g2 q1 q2);rw[qW hlen];simpa[hq1.symm,hl1]using z
   ·rw[qX hlen];exact SeqAt.RcNeAt.lists_lengths tp1 tp2 (by simp;omega) hu'
  |dct=>simp[nod]at n2
 |dct=>simp[nod]at n1
end
end L2
namespace L2.Mr
open PySem PySem.Spec PyProof.Rows
def bW {α β:Type}(f:α->Option β):List α->Option (List β)
 | []=>some []
 |x::xs=>match f x with
  |none=>none
  |some y=>match bW f xs with
   |none=>none
   |some ys=>some (y::ys)
def bN:Nat->Hs->Dv->Option Dt
 |0,_,_=>none
 |k+1,h,d=>match d with
  | .non=>some .non
  | .bl b=>some (.bl b)
  | .int i=>some (.int i)
  | .str x=>some (.str x)
  | .tup xs=>match bW (bN k h) xs with
   |some ts=>some (.tup ts)
   |none=>none
  | .ref i=>match getL h i with
   |some xs=>match bW (bN k h) xs with
    |some ts=>some (.lst ts)
    |none=>none
   |none=>none
  |_=>none
abbrev jQ:ah->Prop:=λ_=>True
section
variable{G:Cfg}{μ:Nat->ah}{h:Hs}{H:Hp}
theorem pE (s:Sim G μ h H):∀(k:Nat) (d:Dv) (v:V) (t:Dt),RelD G μ h.length H d v->bN k h d=some t->Den jQ H t v/\fG t<=k/\nod t=true:=by
 intro k
 induction k with
 |zero=>intro d v t _ e;cases e
 |succ k ih=>
  have il:∀(xs:List Dv) (vs:List V) (ts:List Dt),RelDL G μ h.length H xs vs->bW (bN k h) xs=some ts->DenL jQ H ts vs/\kW ts<=k/\jB ts=true:=by
   intro xs
   induction xs with
   |nil=>intro vs ts r e;cases e;rw[RelDL]at r;subst r;exact⟨DenL.nil,by simp[kW],rfl⟩
   |cons x xs ihx=>
    intro vs ts r e;rw[RelDL]at r;obtain⟨v,rr,rfl,r1,r2⟩:=r;unfold bW at e
    cases q:bN k h x with
    |none=>rw[q]at e;cases e
    |some y=>
     rw[q]at e;dsimp only at e
     cases q2:bW (bN k h) xs with
     |none=>rw[q2]at e;cases e
     |some ys=>rw[q2]at e;cases e;obtain⟨a1,a2,a3⟩:=ih x v y r1 q;obtain⟨b1,b2,b3⟩:=ihx rr ys r2 q2;exact⟨DenL.cons a1 b1,by rw[kW];omega,by rw[jB,a3,b3];rfl⟩
  intro d v t r e;unfold bN at e
  cases d with
  |non=>cases e;rw[RelD]at r;subst r;exact⟨by rw[Den],by simp[fG],rfl⟩
  |bl b=>cases e;rw[RelD]at r;subst r;exact⟨by rw[Den],by simp[fG],rfl⟩
  |int b=>cases e;rw[RelD]at r;subst r;exact⟨by rw[Den],by simp[fG],rfl⟩
  |str b=>cases e;rw[RelD]at r;subst r;exact⟨by rw[Den],by simp[fG],rfl⟩
  |tup xs=>
   dsimp only at e
   cases q:bW (bN k h) xs with
   |none=>rw[q]at e;cases e
   |some ts=>rw[q]at e;cases e;obtain⟨a,vs,rfl,e1,r1⟩:=r;obtain⟨b1,b2,b3⟩:=il xs vs ts r1 q;exact⟨by rw[Den];exact⟨a,vs,rfl,e1,b1⟩,by rw[fG];omega,by rw[nod];exact b3⟩
  |ref i=>
   dsimp only at e
   cases g:getL h i with
   |none=>rw[g]at e;cases e
   |some xs=>
    rw[g]at e;dsimp only at e
    cases q:bW (bN k h) xs with
    |none=>rw[q]at e;cases e
    |some ts=>rw[q]at e;cases e;obtain⟨hi,rfl⟩:=r;obtain⟨vs,e1,r1⟩:=s.ob i _ (cY g);obtain⟨b1,b2,b3⟩:=il xs vs ts r1 q;exact⟨by rw[Den];exact⟨_,vs,rfl,trivial,e1,b1⟩,by rw[fG];omega,by rw[nod];exact b3⟩
  |edc=>cases e
  |exc c=>cases e
  |scr=>cases e
end
def cE:Nat:=30
def cD (x y:Dv) (h:Hs):Rs Dv:=match bN cE h x,bN cE h y with
 |some s,some t=>.ok (.bl (bS s t)) h
 |_,_=>.bad
def cP (x y:Dv) (h:Hs):Rs Dv:=match bN cE h x,bN cE h y with
 |some s,some t=>.ok (.bl (!bS s t)) h
 |_,_=>.bad
def uY (neg:Bool):R2:=λx y H Q=>∃t t',Den jQ H t x/\Den jQ H t' y/\fG t<=cE/\nod t=true/\nod t'=true/\Q (.bl (if neg then !bS t t' else bS t t')) H
section
variable{X:Cx}{G:Cfg}
theorem HE (hu:X.A.units+64<cLine):OpR X (compareOp .Eq) (uY false):=by intro pins s σ H x y v u Q I r1 r2 ⟨t,t',d,d',hd,n1,n2,q⟩;exact EqBoolInt.of_rc (AH I.hok cE X.A t t' x y v u hd (by unfold cE;omega) n1 n2 d d' r1 r2).1 ⟨.bl _,H,I,rfl,q⟩
theorem HF (hu:X.A.units+64<cLine):OpR X (compareOp .NotEq) (uY true):=by intro pins s σ H x y v u Q I r1 r2 ⟨t,t',d,d',hd,n1,n2,q⟩;exact EqBoolInt.of_rcne (SD I.hok cE X.A t t' x y v u hd (by unfold cE;omega) n1 n2 d d' r1 r2) ⟨.bl _,H,I,rfl,q⟩
theorem HG:fH G (uY false) cD:=by
 intro E μ h H x y vx vy Q s rx ry o;unfold cD at o
 split at o
 ·rename_i t t' e e';obtain⟨a1,a2,a3⟩:=pE s _ x vx t rx e;obtain⟨b1,b2,b3⟩:=pE s _ y vy t' ry e';exact⟨t,t',a1,b1,a2,a3,b3,o.val s rfl⟩
 ·exact o.elim
theorem HH:fH G (uY true) cP:=by
 intro E μ h H x y vx vy Q s rx ry o;unfold cP at o
 split at o
 ·rename_i t t' e e';obtain⟨a1,a2,a3⟩:=pE s _ x vx t rx e;obtain⟨b1,b2,b3⟩:=pE s _ y vy t' ry e';exact⟨t,t',a1,b1,a2,a3,b3,o.val s rfl⟩
 ·exact o.elim
end
def fI (g:Int->Int->Dv):Dv->Dv->Hs->Rs Dv
 | .int i,.int j,h=>.ok (g i j) h
 |_,_,_=>.bad
def kC (C:Int->Int->Bool) (g:Int->Int->Dv):Dv->Dv->Hs->Rs Dv
 | .int i,.int j,h=>if C i j=true then .ok (g i j) h else .bad
 |_,_,_=>.bad
section
variable{X:Cx}{G:Cfg}
theorem SE {f:Int->Int->Int}:fH G (jP λi j=>.int (f i j)) (fI λi j=>.int (f i j)):=by
 intro E μ h H x y vx vy Q s rx ry o
 cases x with
 |int i=>
  cases y with
  |int j=>exact⟨i,j,rx,ry,o.val s rfl⟩
  |_=>exact o.elim
 |_=>exact o.elim
theorem mJ {f:Int->Int->Bool}:fH G (jP λi j=>.bl (f i j)) (fI λi j=>.bl (f i j)):=by
 intro E μ h H x y vx vy Q s rx ry o
 cases x with
 |int i=>
  cases y with
  |int j=>exact⟨i,j,rx,ry,o.val s rfl⟩
  |_=>exact o.elim
 |_=>exact o.elim
theorem uZ {C:Int->Int->Prop}{B:Int->Int->Bool}{f:Int->Int->Int}(hB:∀i j,B i j=true->C i j):fH G (rI C λi j=>.int (f i j)) (kC B λi j=>.int (f i j)):=by
 intro E μ h H x y vx vy Q s rx ry o
 cases x with
 |int i=>
  cases y with
  |int j=>
   dsimp only[kC]at o
   split at o
   ·rename_i hb;exact⟨i,j,rx,ry,hB i j hb,o.val s rfl⟩
   ·exact o.elim
  |_=>exact o.elim
 |_=>exact o.elim
def eV (i:Int):Bool:=decide (-18446744073709551616<i)&&decide (i<18446744073709551616)
def rG (i j:Int):Bool:=eV i||eV j
theorem SF (i j:Int) (h:rG i j=true):CMul i j:=by
 unfold rG eV at h;unfold CMul;simp only[Bool.or_eq_true,dj,decide_eq_true_eq]at h
 rcases h with h|h
 ·exact .inl ⟨by omega,by omega⟩
 ·exact .inr ⟨by omega,by omega⟩
def pF (_ j:Int):Bool:=decide (0<j)
theorem SG (i j:Int) (h:pF i j=true):0<j:=by unfold pF at h;simpa using h
def rH (i j:Int):Bool:=decide (0<=j)&&decide (j<=1000000)&&decide (i.natAbs<18446744073709551616)
theorem SH (i j:Int) (h:rH i j=true):zP i j:=by unfold rH at h;unfold zP;simp only[dj,decide_eq_true_eq]at h;exact⟨h.1.1,h.1.2,by have:=h.2;omega⟩
def lA:Dv->Dv->Hs->Rs Dv
 | .int i,.int j,h=>.ok (.int (i+j)) h
 | .ref i,.ref j,h=>match getL h i,getL h j with
  |some xs,some ys=>lim (xs.length+ys.length) (.ok (.ref h.length) (h++[.lst (xs++ys)]))
  |_,_=>.bad
 | .tup xs,.tup ys,h=>if xs.isEmpty=true then .bad else lim (xs.length+ys.length) (.ok (.tup (xs++ys)) h)
 |_,_,_=>.bad
def AO (K:ao):R2:=λx y H Q=>(jP λi j=>.int (i+j)) x y H Q∨GO x y H Q∨GB K x y H Q
theorem SI:OpR X (binaryOp .Add) (AO X.K):=op_add.or (op_cat.or Q5)
theorem SJ:fH G (AO G.K) lA:=by
 intro E μ h H x y vx vy Q s rx ry o
 cases x with
 |int i=>
  cases y with
  |int j=>exact .inl ⟨i,j,rx,ry,o.val s rfl⟩
  |_=>exact o.elim
 |ref i=>
  cases y with
  |ref j=>
   dsimp only[lA]at o
   cases g1:getL h i with
   |none=>rw[g1]at o;exact o.elim
   |some xs=>
    cases g2:getL h j with
    |none=>rw[g1,g2]at o;exact o.elim
    |some ys=>
     rw[g1,g2]at o;dsimp only at o;unfold lim at o
     split at o
     ·rename_i hl;obtain⟨vs,e1,r1⟩:=s.ob i _ (cY g1);obtain⟨ws,e2,r2⟩:=s.ob j _ (cY g2);obtain⟨_,rfl⟩:=rx;obtain⟨_,rfl⟩:=ry;exact .inr (.inl ⟨_,_,vs,ws,rfl,rfl,e1,e2,by rw[r1.length,r2.length];exact qY hl,λp hp=>nO s (r1.append r2) hp o⟩)
     ·exact o.elim
  |_=>exact o.elim
 |tup xs=>
  cases y with
  |tup ys=>
   dsimp only[lA]at o
   split at o
   ·exact o.elim
   ·rename_i hne;unfold lim at o
    split at o
    ·rename_i hl;obtain⟨a,vs,rfl,e1,r1⟩:=rx;obtain⟨b,ws,rfl,e2,r2⟩:=ry;refine .inr (.inr ⟨a,b,vs,ws,rfl,rfl,SqT.of e1,SqT.of e2, ?_,by rw[r1.length,r2.length];exact qY hl,λz=>?_,λ_ p hp=>?_⟩)
     ·intro z;subst z;have:=r1.length
      cases xs <;> simp_all
     ·subst z;have e3:ys=[]:=by have:=r2.length;cases ys <;> simp_all
      subst e3;refine o.val s ?_;rw[jy];exact⟨a,vs,rfl,e1,r1⟩
     ·exact o μ _ _ (Ext.same (cR hp)) (s.same (cR hp)) ⟨p,_,rfl,cU,RelDL.mono (Ext.same (cR hp)) _ _ (r1.append r2)⟩
    ·exact o.elim
  |_=>exact o.elim
 |_=>exact o.elim
def iM (xs:List Dv) (i:Int) (h:Hs):Rs Dv:=match cQ xs i with
 |some d=>.ok d h
 |none=>.bad
def fJ (scr:List Int):Dv->Dv->Hs->Rs Dv
 | .tup xs,.int i,h=>iM xs i h
 | .ref k,.int i,h=>match getL h k with
  |some xs=>iM xs i h
  |none=>.bad
 | .scr,.int i,h=>iM (scr.map Dv.int) i h
 |_,_,_=>.bad
theorem rJ {μ:Nat->ah}{n:Nat}{H:Hp}:∀ns:List Int,RelDL G μ n H (ns.map Dv.int) (ns.map V.int)
 | []=>RelDL.nil
 |i::ns=>RelDL.cons rfl (rJ ns)
theorem AQ {E:XK}{μ:Nat->ah}{h:Hs}{H:Hp}{xs:List Dv}{vs:List V}{i:Int}{Q:VK}(s:Sim G μ h H) (r:RelDL G μ h.length H xs vs) (o:Out G E μ h.length H (iM xs i h) (RelD G) Q):∃v,cQ vs i=some v/\Q v H:=by
 unfold iM at o
 cases e:cQ xs i with
 |none=>rw[e]at o;exact o.elim
 |some d=>
  rw[e]at o;unfold cQ at e ⊢;rw[r.length]
  cases q:eB xs.length i with
  |none=>rw[q]at e;cases e
  |some j=>rw[q]at e;obtain⟨v,e1,r1⟩:=r.get e;exact⟨v,e1,o.val s r1⟩
theorem HI:fH G (zW G.K) (fJ G.scr):=by
 intro E μ h H x y vx vy Q s rx ry o
 cases y with
 |int i=>
  cases x with
  |tup xs=>obtain⟨a,vs,rfl,e1,r1⟩:=rx;obtain⟨v,e2,q⟩:=AQ s r1 o;exact .inr (.inl ⟨a,vs,i,v,rfl,ry,SqT.of e1,e2,q⟩)
  |ref k=>
   dsimp only[fJ]at o
   cases g:getL h k with
   |none=>rw[g]at o;exact o.elim
   |some xs=>rw[g]at o;obtain⟨vs,e1,r1⟩:=s.ob k _ (cY g);obtain⟨_,rfl⟩:=rx;obtain⟨v,e2,q⟩:=AQ s r1 o;exact .inl ⟨_,vs,i,v,rfl,ry,SqL.of e1,e2,q⟩
  |scr=>obtain⟨rfl,hf⟩:=rx;obtain⟨v,e2,q⟩:=AQ s (rJ G.scr) o;exact .inl ⟨_,_,i,v,rfl,ry,hf.sq,e2,q⟩
  |_=>exact o.elim
 |_=>cases x <;> exact o.elim
theorem SK {E:XK}{a b:bp}{ma mb:M Dv}{pos:Pos}(ha:aL X G E a ma) (hb:aL X G E b mb) (hs:zV b:=by intro _ _;rfl):aL X G E (.Subscript a b pos) (m2 (fJ G.scr) ma mb):=λhK=>PE.imp (GC (by have:=GH (X:=X);rw[hK]at this;exact this) (ha hK) (hb hK) hs) λ_ _ _ t=>qZ HI t
theorem SN:df "abs" = some (.builtin "abs"):=by decide +kernel
theorem vA:df "tuple" = some (.type "tuple"):=by decide +kernel
theorem vB:df "list" = some (.type "list"):=by decide +kernel
theorem HJ:df "max" = some (.builtin "max"):=by decide +kernel
theorem HK:df "min" = some (.builtin "min"):=by decide +kernel
variable{E:XK}{aV:M (List Dv)}{e:bp}{es:List bp}{x:Str}{p pos:Pos}{id T:String}
def nS (G:Cfg) (r:List V->Hp->VK->Prop) (f:List Dv->Hs->Rs Dv):Prop:=∀(E:XK) (μ:Nat->ah) (h:Hs) (H:Hp) (xs:List Dv) (vs:List V) (Q:VK),Sim G μ h H->RelDL G μ h.length H xs vs->Out G E μ h.length H (f xs h) (RelD G) Q->r vs H Q
def aH (f:List Dv->Hs->Rs Dv) (ms:M (List Dv)):M Dv:=λρ h=>(ms ρ h).bind f
theorem HL {r:List V->Hp->VK->Prop}{f:List Dv->Hs->Rs Dv}(hd:nS G r f) {σ:St}{H:Hp}{Q:VK}(t:gX G E (aH f aV) σ H Q):uO r (AJ G E aV) σ H Q:=by obtain⟨μ,ρ,h,rs,s,o⟩:=t;exact kA rs s o λμ1 ds h1 vs H1 x1 rs1 s1 r1 o1=>hd E μ1 h1 H1 ds vs Q s1 r1 o1
theorem nV {r:List V->Hp->VK->Prop}{f:List Dv->Hs->Rs Dv}(hc:CallR X (.builtin id) r) (hd:nS G r f) (hg:Gl X x) (hm:X.mg x=none) (hv:df x=some (.builtin id)) (ha:eC X G E (e::es) aV) (hn:x ≠ "__name__" := by decide) (hdb:(x==("__debug__" : Str))=false:=by decide)
  (he:au (e::es) X.env=(false,eval e X.env)::au es X.env:=by rfl) (hpl:(backTo pos (au es X.env)).any (·.1)=false:=by rfl):aL X G E (.Call (.Name x p) (e::es) [] pos) (aH f aV):=λhK=>
 PE.imp (qQ hc hg hm hv (ha hK) hn hdb he hpl) λ_ _ _ t=>HL hd t
theorem HM {r:List V->Hp->VK->Prop}{f:List Dv->Hs->Rs Dv}(hc:CallR X (.type T) r) (hd:nS G r f) (hg:Gl X x) (hm:X.mg x=none) (hv:df x=some (.type T)) (ha:eC X G E (e::es) aV) (hn:x ≠ "__name__" := by decide) (hdb:(x==("__debug__" : Str))=false:=by decide)
  (he:au (e::es) X.env=(false,eval e X.env)::au es X.env:=by rfl) (hpl:(backTo pos (au es X.env)).any (·.1)=false:=by rfl):aL X G E (.Call (.Name x p) (e::es) [] pos) (aH f aV):=λhK=>
 PE.imp (qR hc hg hm hv (ha hK) hn hdb he hpl) λ_ _ _ t=>HL hd t
def gA (scr:List Int):Dv->Hs->Option (List Dv)
 | .tup xs,_=>some xs
 | .ref i,h=>getL h i
 | .scr,_=>some (scr.map Dv.int)
 |_,_=>none
def f1 (g:Dv->Hs->Rs Dv):List Dv->Hs->Rs Dv
 | [d],h=>g d h
 |_,_=>.bad
def iN (scr:List Int) (d:Dv) (h:Hs):Rs Dv:=match gA scr d h with
 |some xs=>.ok (.int xs.length) h
 |none=>.bad
theorem pG {μ:Nat->ah}{n:Nat}{H:Hp}{d:Dv}{vs:List V}(r:RelDL G μ n H [d] vs):∃v,vs=[v]/\RelD G μ n H d v:=by rw[RelDL]at r;obtain⟨v,rr,rfl,h1,h2⟩:=r;rw[RelDL]at h2;subst h2;exact⟨v,rfl,h1⟩
theorem nW {r:V->Hp->VK->Prop}{g:Dv->Hs->Rs Dv}(hg:kY G r g):nS G (λxs H Q=>∃v,xs=[v]/\r v H Q) (f1 g):=by
 intro E μ h H xs vs Q s rr o
 match xs,rr,o with
 | [],_,o=>exact o.elim
 |_::_::_,_,o=>exact o.elim
 | [d],rr,o=>obtain⟨v,rfl,r1⟩:=pG rr;exact⟨v,rfl,hg E μ h H d v Q s r1 o⟩
theorem AR {μ:Nat->ah}{n:Nat}{H:Hp}{d d':Dv}{vs:List V}(r:RelDL G μ n H [d,d'] vs):∃v v',vs=[v,v']/\RelD G μ n H d v/\RelD G μ n H d' v':=by rw[RelDL]at r;obtain⟨v,rr,rfl,h1,h2⟩:=r;obtain⟨v',rfl,h3⟩:=pG h2;exact⟨v,v',rfl,h1,h3⟩
theorem AS {μ:Nat->ah}{h:Hs}{H:Hp}{d:Dv}{v:V}{xs:List Dv}(s:Sim G μ h H) (r:RelD G μ h.length H d v) (e:gA G.scr d h=some xs):∃a vs,v=.ref a/\(SqL G.K H a vs∨SqT G.K H a vs)/\RelDL G μ h.length H xs vs:=by
 cases d with
 |tup ds=>cases e;obtain⟨a,vs,rfl,e1,r1⟩:=r;exact⟨a,vs,rfl,.inr (SqT.of e1),r1⟩
 |ref i=>obtain⟨_,rfl⟩:=r;obtain⟨vs,e1,r1⟩:=s.ob i _ (cY e);exact⟨_,vs,rfl,.inl (SqL.of e1),r1⟩
 |scr=>cases e;obtain⟨rfl,hf⟩:=r;exact⟨_,_,rfl,.inl hf.sq,rJ _⟩
 |_=>cases e
def HN (K:ao):V->Hp->VK->Prop:=λx H Q=>∃p ys,x=.ref p/\(SqL K H p ys∨SqT K H p ys)/\Q (.int ys.length) H
theorem HP:kY G (HN G.K) (iN G.scr):=by
 intro E μ h H d v Q s r1 o;unfold iN at o
 cases e:gA G.scr d h with
 |none=>rw[e]at o;exact o.elim
 |some ys=>rw[e]at o;obtain⟨a,ws,rfl,hs,r2⟩:=AS s r1 e;exact⟨a,ws,rfl,hs,by rw[r2.length];exact o.val s rfl⟩
theorem CallR.imp {f:af}{r r':List V->Hp->VK->Prop}(h:CallR X f r) (i:∀xs H Q,r' xs H Q->r xs H Q):CallR X f r':=λpins s σ H xs us Q I rv q=>h pins s σ H xs us Q I rv (i xs H Q q)
theorem HQ (hg:Gl X "len") (hm:X.mg "len" = none) (ha:eC X G E (e::es) aV)
  (he:au (e::es) X.env=(false,eval e X.env)::au es X.env:=by rfl) (hpl:(backTo pos (au es X.env)).any (·.1)=false:=by rfl):aL X G E (.Call (.Name "len" p) (e::es) [] pos) (aH (f1 (iN G.scr)) aV):=λhK=>
 nV (CallR.imp (GI (X:=X)) λxs H Q ⟨v,h1,a,ys,h2,h3,h4⟩=>⟨a,ys,by rw[h1,h2],by rw[hK];exact h3,h4⟩) (nW HP) hg hm PySem.boot_len ha (by decide) (by decide) he hpl hK
def rK:Dv->Hs->Rs Dv
 | .int i,h=>.ok (.int (if i<0 then -i else i)) h
 |_,_=>.bad
theorem SO:kY G (λx H Q=>∃i,x=.int i/\Q (.int (if i<0 then -i else i)) H) rK:=by
 intro E μ h H d v Q s r1 o
 cases d with
 |int i=>rw[RelD]at r1;subst r1;exact⟨i,rfl,o.val s rfl⟩
 |_=>exact o.elim
theorem SQ (hg:Gl X "abs") (hm:X.mg "abs" = none) (ha:eC X G E (e::es) aV)
  (he:au (e::es) X.env=(false,eval e X.env)::au es X.env:=by rfl) (hpl:(backTo pos (au es X.env)).any (·.1)=false:=by rfl):aL X G E (.Call (.Name "abs" p) (e::es) [] pos) (aH (f1 rK) aV):=
 nV (CallR.imp (QC (X:=X)) λxs H Q ⟨v,h1,i,h2,h3⟩=>⟨i,by rw[h1,h2],h3⟩) (nW SO) hg hm SN ha (by decide) (by decide) he hpl
def gL:List Dv->Hs->Rs Dv
 | [.int i,.int j],h=>.ok (.int (if j>i then j else i)) h
 |_,_=>.bad
def pH:List Dv->Hs->Rs Dv
 | [.int i,.int j],h=>.ok (.int (if j<i then j else i)) h
 |_,_=>.bad
theorem HR {f:List Dv->Hs->Rs Dv}{g:Int->Int->Int}(h2:∀i j h,f [.int i,.int j] h=.ok (.int (g i j)) h) (hb:∀xs h,(∀i j,xs≠[.int i,.int j])->f xs h=.bad):
  nS G (λxs H Q=>∃i j,xs=[.int i,.int j]/\Q (.int (g i j)) H) f:=by
 intro E μ h H xs vs Q s r o
 by_cases hx:∃i j,xs=[.int i,.int j]
 ·obtain⟨i,j,rfl⟩:=hx;obtain⟨v,v',rfl,r1,r2⟩:=AR r;rw[RelD]at r1 r2;subst r1;subst r2;rw[h2]at o;exact⟨i,j,rfl,o.val s rfl⟩
 ·rw[hb xs h (λi j e=>hx ⟨i,j,e⟩)]at o;exact o.elim
theorem SS:nS G (λxs H Q=>∃i j,xs=[.int i,.int j]/\Q (.int (if j>i then j else i)) H) gL:=HR (λ_ _ _=>rfl) λxs h hx=>by
 unfold gL;split
 ·rename_i i j;exact absurd rfl (hx i j)
 ·rfl
theorem SU:nS G (λxs H Q=>∃i j,xs=[.int i,.int j]/\Q (.int (if j<i then j else i)) H) pH:=HR (λ_ _ _=>rfl) λxs h hx=>by
 unfold pH;split
 ·rename_i i j;exact absurd rfl (hx i j)
 ·rfl
def gZ:Dv->Hs->Rs Dv
 | .tup xs,h=>.ok (.tup xs) h
 | .ref i,h=>match getL h i with
  |some xs=>.ok (.tup xs) h
  |none=>.bad
 |_,_=>.bad
def SV (K:ao):V->Hp->VK->Prop:=λx H Q=>∃p ys,x=.ref p/\((SqL K H p ys/\∀l,H l=none->Q (.ref l) (aW H l (.tup ys)))∨(SqT K H p ys/\Q (.ref p) H))
theorem SX:kY G (SV G.K) gZ:=by
 intro E μ h H d v Q s r1 o
 cases d with
 |tup ds=>have r1':=r1;obtain⟨a,ws,rfl,e1,r2⟩:=r1;exact⟨a,ws,rfl,.inr ⟨SqT.of e1,o.val s r1'⟩⟩
 |ref i=>
  dsimp only[gZ]at o
  cases g:getL h i with
  |none=>rw[g]at o;exact o.elim
  |some ys=>rw[g]at o;obtain⟨_,rfl⟩:=r1;obtain⟨ws,e1,r2⟩:=s.ob i _ (cY g);exact⟨_,ws,rfl,.inl ⟨SqL.of e1,λl hl=>o μ _ _ (Ext.same (cR hl)) (s.same (cR hl)) ⟨l,ws,rfl,cU,RelDL.mono (Ext.same (cR hl)) _ _ r2⟩⟩⟩
 |_=>exact o.elim
theorem vC (hg:Gl X "tuple") (hm:X.mg "tuple" = none) (ha:eC X G E (e::es) aV)
  (he:au (e::es) X.env=(false,eval e X.env)::au es X.env:=by rfl) (hpl:(backTo pos (au es X.env)).any (·.1)=false:=by rfl):aL X G E (.Call (.Name "tuple" p) (e::es) [] pos) (aH (f1 gZ) aV):=λhK=>
 HM (CallR.imp (GJ (X:=X)) λxs H Q ⟨v,h1,a,ys,h2,h3⟩=>⟨a,ys,by rw[h1,h2],by rw[hK];exact h3⟩) (nW SX) hg hm vA ha (by decide) (by decide) he hpl hK
def pI (scr:List Int) (d:Dv) (h:Hs):Rs Dv:=match gA scr d h with
 |some xs=>.ok (.ref h.length) (h++[.lst xs])
 |none=>.bad
theorem SY:kY G (λx H Q=>∃p ys,x=.ref p/\(SqL G.K H p ys∨SqT G.K H p ys)/\∀l,H l=none->Q (.ref l) (aW H l (.lst ys))) (pI G.scr):=by
 intro E μ h H d v Q s r1 o;unfold pI at o
 cases e:gA G.scr d h with
 |none=>rw[e]at o;exact o.elim
 |some ys=>rw[e]at o;obtain⟨a,ws,rfl,hs,r2⟩:=AS s r1 e;exact⟨a,ws,rfl,hs,λl hl=>nO s r2 hl o⟩
theorem rL (hc:X.calm=true) (hg:Gl X "max") (hm:X.mg "max" = none) (ha:eC X G E (e::es) aV)
  (he:au (e::es) X.env=(false,eval e X.env)::au es X.env:=by rfl) (hpl:(backTo pos (au es X.env)).any (·.1)=false:=by rfl):aL X G E (.Call (.Name "max" p) (e::es) [] pos) (aH gL aV):=
 nV (QD hc) SS hg hm HJ ha (by decide) (by decide) he hpl
theorem S0 (hc:X.calm=true) (hg:Gl X "min") (hm:X.mg "min" = none) (ha:eC X G E (e::es) aV)
  (he:au (e::es) X.env=(false,eval e X.env)::au es X.env:=by rfl) (hpl:(backTo pos (au es X.env)).any (·.1)=false:=by rfl):aL X G E (.Call (.Name "min" p) (e::es) [] pos) (aH pH aV):=
 nV (QE hc) SU hg hm HK ha (by decide) (by decide) he hpl
end
inductive Sr where
 |nx (ρ:Ev) (h:Hs)|rt (d:Dv) (h:Hs)|bk (ρ:Ev) (h:Hs)|ct (ρ:Ev) (h:Hs)|ex (c:Nat) (h:Hs)|bad
abbrev MS:=Ev->Hs->Sr
def SOut (G:Cfg) (E:XK) (μ:Nat->ah) (n:Nat) (H:Hp) (r:Sr) (D:Ends):Prop:=match r with
 | .nx ρ h'=>∀μ' H' σ',Ext μ n H μ' h'.length H'->Sim G μ' h' H'->RelS G μ' h'.length H' ρ σ'->D.nx σ' H'
 | .bk ρ h'=>∀μ' H' σ',Ext μ n H μ' h'.length H'->Sim G μ' h' H'->RelS G μ' h'.length H' ρ σ'->D.bk σ' H'
 | .ct ρ h'=>∀μ' H' σ',Ext μ n H μ' h'.length H'->Sim G μ' h' H'->RelS G μ' h'.length H' ρ σ'->D.ct σ' H'
 | .rt d h'=>∀μ' H' v,Ext μ n H μ' h'.length H'->Sim G μ' h' H'->RelD G μ' h'.length H' d v->D.rt v H'
 | .ex c h'=>∀μ' H' u,Ext μ n H μ' h'.length H'->Sim G μ' h' H'->uW G H' c u->E u none H'
 | .bad=>False
theorem SOut.ext {G:Cfg}{E:XK}{μ μ1:Nat->ah}{n n1:Nat}{H H1:Hp}{r:Sr}{D:Ends}(o:SOut G E μ n H r D) (x:Ext μ n H μ1 n1 H1):SOut G E μ1 n1 H1 r D:=by
 cases r with
 |nx ρ h'=>exact λμ' H' σ' y=>o μ' H' σ' (x.trans y)
 |bk ρ h'=>exact λμ' H' σ' y=>o μ' H' σ' (x.trans y)
 |ct ρ h'=>exact λμ' H' σ' y=>o μ' H' σ' (x.trans y)
 |rt d h'=>exact λμ' H' σ' y=>o μ' H' σ' (x.trans y)
 |ex c h'=>exact λμ' H' σ' y=>o μ' H' σ' (x.trans y)
 |bad=>exact o
def vD (G:Cfg) (E:XK) (m:MS):TS:=λD σ H=>∃μ ρ h,RelS G μ h.length H ρ σ/\Sim G μ h H/\SOut G E μ h.length H (m ρ h) D
def iC (X:Cx) (G:Cfg) (E:XK) (st:gp) (m:MS):Prop:=X.K=G.K->PS X st (vD G E m)
def jC (X:Cx) (G:Cfg) (E:XK) (st:List gp) (m:MS):Prop:=X.K=G.K->PSs X st (vD G E m)
theorem PS.imp {X:Cx}{e:gp}{t t':TS}(h:PS X e t) (i:∀D σ H,t' D σ H->t D σ H):PS X e t':=λpins s σ H D I q=>h pins s σ H D I (i D σ H q)
theorem PSs.imp {X:Cx}{e:List gp}{t t':TS}(h:PSs X e t) (i:∀D σ H,t' D σ H->t D σ H):PSs X e t':=λpins s σ H D I q=>h pins s σ H D I (i D σ H q)
def Rs.thenS {α:Type}(r:Rs α) (f:α->Hs->Sr):Sr:=match r with
 | .ok a h=>f a h
 | .ex c h=>.ex c h
 | .bad=>.bad
@[simp] theorem Rs.thenS_ok {α:Type}(a:α) (h:Hs) (f:α->Hs->Sr):(Rs.ok a h).thenS f=f a h:=rfl
@[simp] theorem Rs.thenS_ex {α:Type}(c:Nat) (h:Hs) (f:α->Hs->Sr):(Rs.ex c h).thenS f=.ex c h:=rfl
@[simp] theorem Rs.thenS_bad {α:Type}(f:α->Hs->Sr):(Rs.bad).thenS f=.bad:=rfl
theorem SOut.thenS {α β:Type}{G:Cfg}{E:XK}{μ:Nat->ah}{n:Nat}{H:Hp}{r:Rs α}{f:α->Hs->Sr}{D:Ends}{R:(Nat->ah)->Nat->Hp->α->β->Prop}
  (o:SOut G E μ n H (r.thenS f) D):Out G E μ n H r R λv H1=>∃μ1 d h1,Ext μ n H μ1 h1.length H1/\Sim G μ1 h1 H1/\R μ1 h1.length H1 d v/\SOut G E μ1 h1.length H1 (f d h1) D:=by
 cases r with
 |bad=>exact o
 |ex c h'=>exact o
 |ok d h'=>exact λμ1 H1 v x1 s1 r1=>⟨μ1,d,h',x1,s1,r1,SOut.ext o x1⟩
section
variable{X:Cx}{G:Cfg}{E:XK}{st:gp}{rest:List gp}{m u:MS}{e:bp}{me:M Dv}{pos:Pos}
theorem lO {m:M Dv}{σ:St}{H:Hp}{f:Dv->Hs->Sr}{D:Ends}{Q1:V->Hp->Prop}{μ:Nat->ah}{ρ:Ev}{h:Hs}(rs:RelS G μ h.length H ρ σ) (s:Sim G μ h H) (o:SOut G E μ h.length H ((m ρ h).thenS f) D)
  (k:∀μ1 d h1 v H1,Ext μ h.length H μ1 h1.length H1->RelS G μ1 h1.length H1 ρ σ->Sim G μ1 h1 H1->RelD G μ1 h1.length H1 d v->SOut G E μ1 h1.length H1 (f d h1) D->Q1 v H1):gX G E m σ H Q1:=
 ⟨μ,ρ,h,rs,s,(o.thenS (R:=RelD G)).mono λv H1 ⟨μ1,d,h1,x,s1,r1,o1⟩=>k μ1 d h1 v H1 x (rs.mono x) s1 r1 o1⟩
theorem HS {m:M Bool}{σ:St}{H:Hp}{f:Bool->Hs->Sr}{D:Ends}{Q1:Bool->Hp->Prop}{μ:Nat->ah}{ρ:Ev}{h:Hs}(rs:RelS G μ h.length H ρ σ) (s:Sim G μ h H) (o:SOut G E μ h.length H ((m ρ h).thenS f) D)
  (k:∀μ1 b h1 H1,Ext μ h.length H μ1 h1.length H1->RelS G μ1 h1.length H1 ρ σ->Sim G μ1 h1 H1->SOut G E μ1 h1.length H1 (f b h1) D->Q1 b H1):hZ G E m σ H Q1:=
 ⟨μ,ρ,h,rs,s,(o.thenS (R:=RB)).mono λv H1 ⟨μ1,d,h1,x,s1,r1,o1⟩=>by have e:v=d:=r1;subst e;exact k μ1 v h1 H1 x (rs.mono x) s1 o1⟩
def bH:MS:=λρ h=>.nx ρ h
def aM (m u:MS):MS:=λρ h=>match m ρ h with
 | .nx ρ1 h1=>u ρ1 h1
 |r=>r
theorem eE:jC X G E [] bH:=λ_=>PSs.imp OJ λD σ H ⟨μ,ρ,h,rs,s,o⟩=>o μ H σ Ext.refl s rs
theorem bE (h1:iC X G E st m) (h2:jC X G E rest u):jC X G E (st::rest) (aM m u):=λhK=>PSs.imp (OK (h1 hK) (h2 hK)) λD σ H ⟨μ,ρ,h,rs,s,o⟩=>by
 refine⟨μ,ρ,h,rs,s, ?_⟩;unfold aM at o
 cases q:m ρ h with
 |nx ρ1 h1=>rw[q]at o;exact λμ1 H1 σ1 x1 s1 rs1=>⟨μ1,ρ1,h1,rs1,s1,SOut.ext o x1⟩
 |bk ρ1 h1=>rw[q]at o;exact o
 |ct ρ1 h1=>rw[q]at o;exact o
 |rt ρ1 h1=>rw[q]at o;exact o
 |ex ρ1 h1=>rw[q]at o;exact o
 |bad=>rw[q]at o;exact o
theorem bF (h1:iC X G E st m):jC X G E [st] m:=λhK=>FK (h1 hK)
def dY (me:M Dv):MS:=λρ h=>(me ρ h).thenS λ_ h1=>.nx ρ h1
theorem mK (he:aL X G E e me) (hs:swapsWith e none pos.line X.env=pure false:=by rfl):iC X G E (.Expr e pos) (dY me):=λhK=>PS.imp (OM (he hK) hs) λD σ H ⟨μ,ρ,h,rs,s,o⟩=>lO rs s o λμ1 d h1 v H1 x1 rs1 s1 r1 o1=>o1 μ1 H1 σ Ext.refl s1 rs1
def aT (me:M Dv):MS:=λρ h=>(me ρ h).thenS λd h1=>.rt d h1
theorem cA (he:aL X G E e me):iC X G E (.Return (some e) pos) (aT me):=λhK=>PS.imp (OO (he hK)) λD σ H ⟨μ,ρ,h,rs,s,o⟩=>lO rs s o λμ1 d h1 v H1 x1 rs1 s1 r1 o1=>o1 μ1 H1 v Ext.refl s1 r1
def aY (c:M Bool) (t u:MS):MS:=λρ h=>(c ρ h).thenS λb h1=>if b=true then t ρ h1 else u ρ h1
theorem eF {c:bp}{a b:List gp}{mc:M Bool}(hc:fO X G E c mc) (ha:jC X G E a m) (hb:jC X G E b u):iC X G E (.If c a b pos) (aY mc m u):=λhK=>PS.imp (OQ (hc hK) (ha hK) (hb hK)) λD σ H ⟨μ,ρ,h,rs,s,o⟩=>
 HS rs s o λμ1 k h1 H1 x1 rs1 s1 o1=>by
  cases k with
  |true=>rw[if_pos rfl]at o1 ⊢;exact⟨μ1,ρ,h1,rs1,s1,o1⟩
  |false=>rw[if_neg (by decide)]at o1 ⊢;exact⟨μ1,ρ,h1,rs1,s1,o1⟩
theorem RelS.set {μ:Nat->ah}{n:Nat}{H:Hp}{ρ:Ev}{σ:St}{d:Dv}{v:V}(rs:RelS G μ n H ρ σ) (i:Nat) (r:RelD G μ n H d v):RelS G μ n H (ρ.set i (some d)) (σ.set i (some v)):=⟨by rw[kd,kd];exact rs.len,λj d' e=>by
 have hl:=rs.len
 by_cases hij:i=j
 ·subst hij;have hi:i<ρ.length:=by have:=(az.mp e).1;simpa using this
  rw[de hi]at e;cases e;exact⟨v,de (by omega),r⟩
 ·rw[di hij]at e ⊢;exact rs.at_ j d' e⟩
abbrev dP:=Dv->Ev->Option Ev
def rM (G:Cfg) (st:dP):TG:=λv σ H Q=>∃μ ρ h d ρ',RelS G μ h H ρ σ/\RelD G μ h H d v/\st d ρ=some ρ'/\∀σ',RelS G μ h H ρ' σ'->Q σ' H
def kD (X:Cx) (G:Cfg) (tg:bp) (st:dP):Prop:=X.K=G.K->PG X tg (rM G st)
theorem PG.imp {tg:bp}{t t':TG}(h:PG X tg t) (i:∀v σ H Q,t' v σ H Q->t v σ H Q):PG X tg t':=λpins s σ H v u Q I r q=>h pins s σ H v u Q I r (i v σ H Q q)
theorem PGs.imp {tg:List bp}{t t':lK}(h:PGs X tg t) (i:∀v σ H Q,t' v σ H Q->t v σ H Q):PGs X tg t':=λpins s σ H v u Q I r q=>h pins s σ H v u Q I r (i v σ H Q q)
def aG (i:Nat):dP:=λd ρ=>some (ρ.set i (some d))
theorem bY {i:Nat}{x:Str}(hN:X.N.Nodup) (hi:X.N[i]?=some x) (hx:mF X.env.scope x) (hf:X.fn x=true∨X.env.scope.names.lookup x=some .local:=by first|exact .inl rfl|exact .inr rfl|assumption):kD X G (.Name x pos) (aG i):=λ_=>PG.imp (OR hN hi hx hf) λv σ H Q ⟨μ,ρ,h,d,ρ',rs,r,e,k⟩=>by cases e;exact k _ (rs.set i r)
abbrev mM:=List Dv->Ev->Option Ev
def S1 (G:Cfg) (st:mM):lK:=λvs σ H Q=>∃μ ρ h ds ρ',RelS G μ h H ρ σ/\RelDL G μ h H ds vs/\st ds ρ=some ρ'/\∀σ',RelS G μ h H ρ' σ'->Q σ' H
def vE (X:Cx) (G:Cfg) (tg:List bp) (st:mM):Prop:=X.K=G.K->PGs X tg (S1 G st)
def cW:mM:=λds ρ=>match ds with
 | []=>some ρ
 |_=>none
def bL (s:dP) (t:mM):mM:=λds ρ=>match ds with
 |d::r=>match s d ρ with
  |some ρ1=>t r ρ1
  |none=>none
 | []=>none
theorem jD:vE X G [] cW:=λ_=>PGs.imp OU λvs σ H Q ⟨μ,ρ,h,ds,ρ',rs,r,e,k⟩=>by
 cases ds with
 |nil=>cases e;rw[RelDL]at r;subst r;exact⟨rfl,k _ rs⟩
 |cons d r=>cases e
theorem eG {tg:bp}{tgs:List bp}{s:dP}{t:mM}(h1:kD X G tg s) (h2:vE X G tgs t)
  (hs:(assignEach (tg::tgs) X.env).map (·.2)=assign tg X.env::(assignEach tgs X.env).map (·.2):=by rfl):vE X G (tg::tgs) (bL s t):=λhK=>PGs.imp (OV (h1 hK) (h2 hK) hs) λvs σ H Q ⟨μ,ρ,h,ds,ρ',rs,r,e,k⟩=>by
 cases ds with
 |nil=>cases e
 |cons d ds=>
  rw[RelDL]at r;obtain⟨v,rr,rfl,r1,r2⟩:=r;unfold bL at e;dsimp only at e
  cases q:s d ρ with
  |none=>rw[q]at e;cases e
  |some ρ1=>rw[q]at e;exact⟨v,rr,rfl,μ,ρ,h,d,ρ1,rs,r1,q,λσ1 rs1=>⟨μ,ρ1,h,ds,ρ',rs1,r2,e,k⟩⟩
def cV (n:Nat) (t:mM):dP:=λd ρ=>match d with
 | .tup ds=>if ds.length=n then t ds ρ else none
 |_=>none
theorem jE {tgs:List bp}{k:Nat}{t:mM}{n:Nat}(hc:X.calm=true) (h:vE X G tgs t)
  (hn:(assignEach tgs X.env).length=n:=by rfl) (hst:(assignEach tgs X.env).findIdx? (·.1)=none:=by rfl):kD X G (.Tuple tgs k pos) (cV n t):=λhK=>
 PG.imp (OX hc (h hK) hn hst) λv σ H Q ⟨μ,ρ,hh,d,ρ',rs,r,e,kk⟩=>by
  cases d with
  |tup ds=>
   dsimp only[cV]at e
   split at e
   ·rename_i hl;obtain⟨a,vs,rfl,e1,r1⟩:=r;exact⟨a,vs,rfl,SqT.of e1,by rw[r1.length];exact hl,μ,ρ,hh,ds,ρ',rs,r1,e,kk⟩
   ·cases e
  |_=>cases e
def aQ (me:M Dv) (st:dP):MS:=λρ h=>(me ρ h).thenS λd h1=>match st d ρ with
 |some ρ1=>.nx ρ1 h1
 |none=>.bad
theorem S3 {st:dP}{σ:St}{H:Hp}{D:Ends}(t:vD G E (aQ me st) D σ H):uJ (gX G E me) (rM G st) D σ H:=by
 obtain⟨μ,ρ,h,rs,s,o⟩:=t;refine lO rs s o λμ1 d h1 v H1 x1 rs1 s1 r1 o1=>?_
 cases q:st d ρ with
 |none=>rw[q]at o1;exact o1.elim
 |some ρ1=>rw[q]at o1;exact⟨μ1,ρ,h1.length,d,ρ1,rs1,r1,q,λσ' rs'=>o1 μ1 H1 σ' Ext.refl s1 rs'⟩
theorem HU {tg:bp}{st:dP}(he:aL X G E e me) (hg:kD X G tg st) (hs:swapsWithSole [tg] e pos.line X.env=pure false:=by rfl) (hw:swappedStores [tg] e X.env=pure none:=by rfl)
  (h1:(assignEach [tg] X.env).map (·.2)=[assign tg X.env]:=by rfl):iC X G E (.Assign [tg] e pos) (aQ me st):=λhK=>PS.imp (FN (he hK) (hg hK) hs hw h1) λ_ _ _ t=>S3 t
theorem cM {i:Nat}{x:Str}{pos':Pos}(hN:X.N.Nodup) (hi:X.N[i]?=some x) (hx:mF X.env.scope x) (he:aL X G E e me) (hs:swapsWith e (some (.Name x pos')) pos.line X.env=pure false:=by rfl) (hf:X.fn x=true∨X.env.scope.names.lookup x=some .local:=by first|exact .inl rfl|exact .inr rfl|assumption):
  iC X G E (.Assign [.Name x pos'] e pos) (aQ me (aG i)):=λhK=>PS.imp (zK hN hi hx (he hK) hs hf) λD σ H t=>by
 obtain⟨μ,ρ,h,rs,s,o⟩:=t;exact lO rs s o λμ1 d h1 v H1 x1 rs1 s1 r1 o1=>o1 μ1 H1 _ Ext.refl s1 (rs1.set i r1)
end
structure Src where
 n:Nat
 get:Nat->Hs->Option Dv
 fin:Hs->Bool
def ItOk (G:Cfg) (μ0:Nat->ah) (n0:Nat) (H0:Hp) (src:Src) (J:It):Prop:=
 ∀(k:Nat) (μ:Nat->ah) (h:Hs) (H:Hp),Ext μ0 n0 H0 μ h.length H->Sim G μ h H->
  (k<src.n->∀d,src.get k h=some d->J.go k H/\∀x H',J.yld k H x H'->Same H H'/\RelD G μ h.length H' d x)/\(k=src.n->src.fin h=true->J.stop k H)
def AU (G:Cfg) (E:XK) (m:M Src):TI:=λσ H R=>∃μ ρ h,RelS G μ h.length H ρ σ/\Sim G μ h H/\Out G E μ h.length H (m ρ h) (ItOk G) R
def jF (X:Cx) (G:Cfg) (E:XK) (tg iter:bp) (m:M Src):Prop:=X.K=G.K->PI X tg iter (AU G E m)
theorem PI.imp {X:Cx}{tg iter:bp}{t t':TI}(h:PI X tg iter t) (i:∀σ H R,t' σ H R->t σ H R):PI X tg iter t':=λpins s σ H R I q=>h pins s σ H R I (i σ H R q)
def cJ (xs:List Dv):Src:=⟨xs.length,λk _=>xs[k]?,λ_=>true⟩
def eI (i n:Nat):Src:=⟨n,λk h=>match getL h i with
 |some xs=>if xs.length=n then xs[k]? else none
 |none=>none,λh=>match getL h i with
 |some xs=>xs.length==n
 |none=>false⟩
def cF (lo hi:Int):Src:=⟨(hi - lo).toNat,λk _=>some (.int (lo+k)),λ_=>true⟩
def bO (f:Dv->Hs->Rs Src) (m:M Dv):M Src:=λρ h=>(m ρ h).bind f
section
variable{X:Cx}{G:Cfg}{E:XK}{tg e a b:bp}{me ma mb:M Dv}{pos p:Pos}
def cZ:Dv->Hs->Rs Src
 | .ref i,h=>match getL h i with
  |some xs=>.ok (eI i xs.length) h
  |none=>.bad
 |_,_=>.bad
def dU:Dv->Hs->Rs Src
 | .tup xs,h=>.ok (cJ xs) h
 |_,_=>.bad
theorem nX (he:aL X G E e me):jF X G E tg e (bO cZ me):=λhK=>PI.imp (O9 (he hK)) λσ H R ⟨μ,ρ,h,rs,s,o⟩=>eX rs s o λμ1 x h1 vx H1 x1 rs1 s1 r1 o1=>by
 rw[hK]
 cases x with
 |ref i=>
  obtain⟨hi,rfl⟩:=r1;dsimp only[cZ]at o1
  cases g:getL h1 i with
  |none=>rw[g]at o1;exact o1.elim
  |some xs=>
   rw[g]at o1;obtain⟨vs,e1,r2⟩:=s1.ob i _ (cY g);refine⟨_,rfl,⟨vs,SqL.of e1⟩,o1.val s1 λk μ2 h2 H2 x2 s2=>?_⟩;have emu:=x2.mu i hi;constructor
   ·intro hk d hd;dsimp only[eI]at hd
    cases g2:getL h2 i with
    |none=>rw[g2]at hd;cases hd
    |some ys=>
     rw[g2]at hd;dsimp only at hd
     split at hd
     ·obtain⟨ws,e2,r3⟩:=s2.ob i _ (cY g2);rw[emu]at e2;obtain⟨v,ev,rv⟩:=r3.get hd;refine⟨⟨ws,v,SqL.of e2,ev⟩,λx H' hy=>?_⟩;obtain⟨rfl,hy⟩:=hy;have:=hy ws (SqL.of e2);rw[ev]at this;cases this;exact⟨Same.refl _,rv⟩
     ·cases hd
   ·intro hk hf;dsimp only[eI]at hf
    cases g2:getL h2 i with
    |none=>rw[g2]at hf;cases hf
    |some ys=>
     rw[g2]at hf;obtain⟨ws,e2,r3⟩:=s2.ob i _ (cY g2);rw[emu]at e2;refine⟨ws,SqL.of e2, ?_⟩;have h3:ys.length=xs.length:=by simpa using hf
     rw[r3.length,h3,hk];exact aj _
 |_=>exact o1.elim
theorem ItOk.tup {μ:Nat->ah}{n:Nat}{H:Hp}{a:ah}{vs:List V}{xs:List Dv}{K:ao}(e:H a=some (.tup vs)) (r:RelDL G μ n H xs vs) (hi:∀(X:Cx),True):ItOk G μ n H (cJ xs) (zM K a):=by
 intro k μ2 h2 H2 x2 s2;have e2:=x2.im a (.tup vs) trivial e;have r2:=RelDL.mono x2 _ _ r;have inj:∀ws,SqT K H2 a ws->ws=vs->True:=λ_ _ _=>trivial;constructor
 ·intro hk d hd;obtain⟨v,ev,rv⟩:=r2.get hd;refine⟨⟨vs,v,SqT.of e2,ev⟩,λx H' hy=>?_⟩;obtain⟨rfl,hy⟩:=hy;have:=hy vs (SqT.of e2);rw[ev]at this;cases this;exact⟨Same.refl _,rv⟩
 ·intro hk _;exact⟨vs,SqT.of e2,by rw[r2.length,hk];exact aj _⟩
theorem lB (he:aL X G E e me):jF X G E tg e (bO dU me):=λhK=>PI.imp (PB (he hK)) λσ H R ⟨μ,ρ,h,rs,s,o⟩=>eX rs s o λμ1 x h1 vx H1 x1 rs1 s1 r1 o1=>by
 cases x with
 |tup xs=>obtain⟨a,vs,rfl,e1,r2⟩:=r1;exact⟨a,rfl,⟨vs,SqT.of e1⟩,o1.val s1 (ItOk.tup e1 r2 λ_=>trivial)⟩
 |_=>exact o1.elim
def kE (i:Int):Bool:=decide (-4611686018427387904<=i)&&decide (i<4611686018427387904)
def cC:List Dv->Hs->Rs Src
 | [.int j],h=>if kE j=true then .ok (cF 0 j) h else .bad
 |_,_=>.bad
def jR:List Dv->Hs->Rs Src
 | [.int i,.int j],h=>if kE i=true/\kE j=true then .ok (cF i j) h else .bad
 |_,_=>.bad
def aV (f:List Dv->Hs->Rs Src) (ms:M (List Dv)):M Src:=λρ h=>(ms ρ h).bind f
theorem ItOk.rng {μ:Nat->ah}{n:Nat}{H:Hp}(lo hi:Int):ItOk G μ n H (cF lo hi) (qN lo (hi - lo).toNat):=by
 intro k μ2 h2 H2 x2 s2;constructor
 ·intro hk d hd;cases hd;exact⟨hk,λx H' hy=>by obtain⟨rfl,rfl⟩:=hy;exact⟨Same.refl _,rfl⟩⟩
 ·intro hk _;exact oz hk.symm
variable{ms:M (List Dv)}
theorem iO (hg:Gl X "range") (hm:X.mg "range" = none) (ha:eC X G E [a] ms) (hs:au [a] X.env=[(false,eval a X.env)]:=by rfl):jF X G E tg (.Call (.Name "range" p) [a] [] pos) (aV cC ms):=λhK=>
 PI.imp (PF hg hm (ha hK) hs) λσ H R ⟨μ,ρ,h,rs,s,o⟩=>kA rs s o λμ1 ds h1 vs H1 x1 rs1 s1 r1 o1=>by
  unfold cC at o1
  split at o1
  ·rename_i j
   split at o1
   ·rename_i hj;obtain⟨v,rfl,rv⟩:=pG r1;rw[RelD]at rv;subst rv;simp only[kE,dj,decide_eq_true_eq]at hj;refine⟨j,rfl,by omega,by omega, ?_⟩;have:=o1.val s1 (ItOk.rng (G:=G) (μ:=μ1) (n:=h1.length) (H:=H1) 0 j);rw[Int.sub_zero]at this;exact this
   ·exact o1.elim
  ·exact o1.elim
theorem HV (hg:Gl X "range") (hm:X.mg "range" = none) (ha:eC X G E [a,b] ms) (hs:au [a,b] X.env=[(false,eval a X.env),(false,eval b X.env)]:=by rfl) (hs2:au [b] X.env=[(false,eval b X.env)]:=by rfl):jF X G E tg (.Call (.Name "range" p) [a,b] [] pos) (aV jR ms):=λhK=>
 PI.imp (PH hg hm (ha hK) hs hs2) λσ H R ⟨μ,ρ,h,rs,s,o⟩=>kA rs s o λμ1 ds h1 vs H1 x1 rs1 s1 r1 o1=>by
  unfold jR at o1
  split at o1
  ·rename_i i j
   split at o1
   ·rename_i hj;obtain⟨v,v',rfl,rv,rv'⟩:=AR r1;rw[RelD]at rv rv';subst rv;subst rv';simp only[kE,dj,decide_eq_true_eq]at hj;exact⟨i,j,rfl,⟨by omega,by omega,by omega,by omega⟩,o1.val s1 (ItOk.rng (G:=G) (μ:=μ1) (n:=h1.length) (H:=H1) i j)⟩
   ·exact o1.elim
  ·exact o1.elim
end
def fP (src:Src) (st:dP) (body:MS):Nat->Nat->MS
 |0,_=>λρ h=>if src.fin h=true then .nx ρ h else .bad
 |f+1,k=>λρ h=>match src.get k h with
  |none=>.bad
  |some d=>match st d ρ with
   |none=>.bad
   |some ρ1=>match body ρ1 h with
    | .nx ρ2 h2=>fP src st body f (k+1) ρ2 h2
    | .ct ρ2 h2=>fP src st body f (k+1) ρ2 h2
    | .bk ρ2 h2=>.nx ρ2 h2
    |r=>r
def cK (mi:M Src) (st:dP) (body:MS):MS:=λρ h=>(mi ρ h).thenS λsrc h1=>fP src st body src.n 0 ρ h1
section
variable{X:Cx}{G:Cfg}{E:XK}{tg iter:bp}{body:List gp}{mi:M Src}{st:dP}{mb:MS}{pos:Pos}
theorem iD (hp:xm (model X.prog X.w) X.A X.env X.xe) (hc:X.calm=true) (hi:jF X G E tg iter mi) (hg:kD X G tg st) (hb:jC X G E body mb)
  (hs:∀x,foldedSetIterable iter X.env x=pure x:=by intro _;rfl):iC X G E (.For tg iter body [] pos) (cK mi st mb):=λhK=>PS.imp (PK hp hc (hi hK) (hg hK) (hb hK) hs) λD σ H ⟨μ,ρ,h,rs,s,o⟩=>by
 refine⟨μ,ρ,h,rs,s,(o.thenS (R:=ItOk G)).mono λJ H1 ⟨μ1,src,h1,x1,s1,ok,o1⟩=>?_⟩;refine⟨λi m σ H=>∃μ2 ρ2 h2,Ext μ1 h1.length H1 μ2 h2.length H/\RelS G μ2 h2.length H ρ2 σ/\Sim G μ2 h2 H/\i+m=src.n/\SOut G E μ2 h2.length H (fP src st mb m i ρ2 h2) D,⟨src.n,μ1,ρ,h1,Ext.refl,rs.mono x1,s1,Nat.zero_add _,o1⟩, ?_⟩
 rintro i m σ2 H2 ⟨μ2,ρ2,h2,x2,rs2,s2,him,o2⟩
 cases m with
 |zero=>
  unfold fP at o2
  split at o2
  ·rename_i hf;exact .inl ⟨(ok i μ2 h2 H2 x2 s2).2 (by omega) hf,o2 μ2 H2 σ2 Ext.refl s2 rs2⟩
  ·exact o2.elim
 |succ m=>
  unfold fP at o2
  cases q:src.get i h2 with
  |none=>rw[q]at o2;exact o2.elim
  |some d=>
   rw[q]at o2;dsimp only at o2
   cases q2:st d ρ2 with
   |none=>rw[q2]at o2;exact o2.elim
   |some ρ3=>
    rw[q2]at o2;dsimp only at o2;obtain⟨go,yl⟩:=(ok i μ2 h2 H2 x2 s2).1 (by omega) d q;refine .inr ⟨go,λσ' H'=>∃μ3 ρ4 h4,Ext μ1 h1.length H1 μ3 h4.length H'/\RelS G μ3 h4.length H' ρ4 σ'/\Sim G μ3 h4 H'/\(i+1)+m=src.n/\SOut G E μ3 h4.length H' (fP src st mb m (i+1) ρ4 h4) D,λσ' H' z=>⟨m,ji m,z⟩,λx H' hy=>?_⟩;obtain⟨sm,rx⟩:=yl x H' hy;have xs:Ext μ2 h2.length H2 μ2 h2.length H':=Ext.same sm;refine⟨μ2,ρ2,h2.length,d,ρ3,rs2.mono xs,rx,q2,λσ3 rs3=>⟨μ2,ρ3,h2,rs3,s2.same sm, ?_⟩⟩;have step:∀ρ5 h5,SOut G E μ2 h2.length H2 (fP src st mb m (i+1) ρ5 h5) D->∀μ6 H6 σ6,Ext μ2 h2.length H' μ6 h5.length H6->Sim G μ6 h5 H6->RelS G μ6 h5.length H6 ρ5 σ6->
      ∃μ3 ρ4 h4,Ext μ1 h1.length H1 μ3 h4.length H6/\RelS G μ3 h4.length H6 ρ4 σ6/\Sim G μ3 h4 H6/\(i+1)+m=src.n/\SOut G E μ3 h4.length H6 (fP src st mb m (i+1) ρ4 h4) D:=
     λρ5 h5 o5 μ6 H6 σ6 x6 s6 rs6=>⟨μ6,ρ5,h5,(x2.trans xs).trans x6,rs6,s6,by omega,o5.ext (xs.trans x6)⟩
    cases q3:mb ρ3 h2 with
    |nx ρ5 h5=>rw[q3]at o2;exact step ρ5 h5 o2
    |ct ρ5 h5=>rw[q3]at o2;exact step ρ5 h5 o2
    |bk ρ5 h5=>rw[q3]at o2;exact λμ6 H6 σ6 x6 s6 rs6=>o2 μ6 H6 σ6 (xs.trans x6) s6 rs6
    |rt d5 h5=>rw[q3]at o2;exact λμ6 H6 σ6 x6 s6 rs6=>o2 μ6 H6 σ6 (xs.trans x6) s6 rs6
    |ex d5 h5=>rw[q3]at o2;exact λμ6 H6 σ6 x6 s6 rs6=>o2 μ6 H6 σ6 (xs.trans x6) s6 rs6
    |bad=>rw[q3]at o2;exact o2.elim
end
abbrev MC:=Ev->Hs->List Dv->Rs (Ev×List Dv)
def bP (me:M Dv):MC:=λρ h acc=>match me ρ h with
 | .ok d h1=>if acc.length<1000000 then .ok (ρ,acc++[d]) h1 else .bad
 |_=>.bad
def gB (src:Src) (st:dP) (test:M Bool) (inner:MC):Nat->Nat->MC
 |0,_=>λρ h acc=>if src.fin h=true then .ok (ρ,acc) h else .bad
 |f+1,k=>λρ h acc=>match src.get k h with
  |none=>.bad
  |some d=>match st d ρ with
   |none=>.bad
   |some ρ1=>match test ρ1 h with
    | .ok true h2=>match inner ρ1 h2 acc with
     | .ok r h3=>gB src st test inner f (k+1) r.1 h3 r.2
     |_=>.bad
    | .ok false h2=>gB src st test inner f (k+1) ρ1 h2 acc
    |_=>.bad
def jS (mi:M Src) (st:dP) (test:M Bool) (inner:MC):MC:=λρ h acc=>match mi ρ h with
 | .ok src h1=>gB src st test inner src.n 0 ρ h1 acc
 |_=>.bad
def cT:M Bool:=λ_ h=>.ok true h
def iP (cap:List (Option Nat)) (ρ:Ev):Ev:=cap.map λo=>match o with
 |some j=>(ρ[j]?).getD none
 |none=>none
def bX (mi:M Src) (cap:List (Option Nat)) (st:dP) (test:M Bool) (inner:MC):M (List Dv):=λρ h=>(mi ρ h).bind λsrc h1=>match gB src st test inner src.n 0 (iP cap ρ) h1 []with
 | .ok r h2=>.ok r.2 h2
 |_=>.bad
def rN (G:Cfg) (m:MC):TC:=λσ H vs K=>∃μ ρ h xs ρ' xs' h',RelS G μ h.length H ρ σ/\Sim G μ h H/\RelDL G μ h.length H xs vs/\m ρ h xs=.ok (ρ',xs') h' /\
 ∀μ' H' σ' vs',Ext μ h.length H μ' h'.length H'->Sim G μ' h' H'->RelS G μ' h'.length H' ρ' σ'->RelDL G μ' h'.length H' xs' vs'->K σ' H' vs'
section
variable{G:Cfg}
theorem S4 {μ:Nat->ah}{n:Nat}{H:Hp}{ρ:Ev}{σ:St}(rs:RelS G μ n H ρ σ) (cap:List (Option Nat)):RelS G μ n H (iP cap ρ) (pC cap σ):=⟨by simp[iP,pC],λi d e=>by
 unfold iP at e;rw[dk]at e
 cases q:cap[i]? with
 |none=>rw[q]at e;cases e
 |some o=>
  rw[q]at e
  cases o with
  |none=>cases e
  |some j=>
   have e':(ρ[j]?).getD none=some d:=by simpa using e
   have e2:ρ[j]?=some (some d):=by
    cases z:ρ[j]? with
    |none=>rw[z]at e';cases e'
    |some y=>rw[z]at e';simp at e';rw[e']
   obtain⟨v,e3,r⟩:=rs.at_ j d e2;refine⟨v, ?_,r⟩;unfold pC;rw[dk,q];simp[e3]⟩
theorem vF {E:XK}{me:M Dv}{σ:St}{H:Hp}{vs:List V}{K:St->Hp->List V->Prop}(t:rN G (bP me) σ H vs K):GX (gX G E me) σ H vs K:=by
 obtain⟨μ,ρ,h,xs,ρ',xs',h',rs,s,r,e,k⟩:=t;refine⟨μ,ρ,h,rs,s, ?_⟩;unfold bP at e
 cases q:me ρ h with
 |bad=>rw[q]at e;cases e
 |ex c h1=>rw[q]at e;cases e
 |ok d h1=>
  rw[q]at e;dsimp only at e
  split at e
  ·rename_i hl;cases e;intro μ1 H1 v x1 s1 r1;refine⟨?_,k μ1 H1 σ _ x1 s1 (rs.mono x1) ((RelDL.mono x1 _ _ r).append (RelDL.cons r1 RelDL.nil))⟩;rw[r.length];exact av hl (by decide)
  ·cases e
theorem HW {E:XK}{src:Src}{st:dP}{test:M Bool}{inner:MC}{J:It}{μ1:Nat->ah}{h1:Hs}{H1:Hp}{ρ ρ':Ev}{σ:St}{xs xs':List Dv}{vs:List V}{h':Hs}{K:St->Hp->List V->Prop}
  (ok:ItOk G μ1 h1.length H1 src J) (rs:RelS G μ1 h1.length H1 ρ σ) (s1:Sim G μ1 h1 H1) (r:RelDL G μ1 h1.length H1 xs vs) (e:gB src st test inner src.n 0 ρ h1 xs=.ok (ρ',xs') h')
  (k:∀μ' H' σ' vs',Ext μ1 h1.length H1 μ' h'.length H'->Sim G μ' h' H'->RelS G μ' h'.length H' ρ' σ'->RelDL G μ' h'.length H' xs' vs'->K σ' H' vs'):
  qU J (rM G st) (hZ G E test) (rN G inner) K σ H1 vs:=by
 refine⟨λi m σ H vs=>∃μ2 ρ2 h2 xs2,Ext μ1 h1.length H1 μ2 h2.length H/\RelS G μ2 h2.length H ρ2 σ/\Sim G μ2 h2 H/\RelDL G μ2 h2.length H xs2 vs/\i+m=src.n/\gB src st test inner m i ρ2 h2 xs2=.ok (ρ',xs') h',⟨src.n,μ1,ρ,h1,xs,Ext.refl,rs,s1,r,Nat.zero_add _,e⟩, ?_⟩
 rintro i m σ2 H2 vs2 ⟨μ2,ρ2,h2,xs2,x2,rs2,s2,r2,him,e2⟩
 cases m with
 |zero=>
  unfold gB at e2
  split at e2
  ·rename_i hf;cases e2;exact .inl ⟨(ok i μ2 _ H2 x2 s2).2 (by omega) hf,k μ2 H2 σ2 vs2 x2 s2 rs2 r2⟩
  ·cases e2
 |succ m=>
  unfold gB at e2
  cases q:src.get i h2 with
  |none=>rw[q]at e2;cases e2
  |some d=>
   rw[q]at e2;dsimp only at e2
   cases q2:st d ρ2 with
   |none=>rw[q2]at e2;cases e2
   |some ρ3=>
    rw[q2]at e2;dsimp only at e2;obtain⟨go,yl⟩:=(ok i μ2 h2 H2 x2 s2).1 (by omega) d q;refine .inr ⟨go,λσ' H' vs'=>∃μ3 ρ4 h4 xs4,Ext μ1 h1.length H1 μ3 h4.length H'/\RelS G μ3 h4.length H' ρ4 σ'/\Sim G μ3 h4 H'/\RelDL G μ3 h4.length H' xs4 vs'/\(i+1)+m=src.n/\gB src st test inner m (i+1) ρ4 h4 xs4=.ok (ρ',xs') h',
     λσ' H' vs' z=>⟨m,ji m,z⟩,λx H' hy=>?_⟩
    obtain⟨sm,rx⟩:=yl x H' hy;have xsm:Ext μ2 h2.length H2 μ2 h2.length H':=Ext.same sm;refine⟨μ2,ρ2,h2.length,d,ρ3,rs2.mono xsm,rx,q2,λσ3 rs3=>⟨μ2,ρ3,h2,rs3,s2.same sm, ?_⟩⟩
    cases q3:test ρ3 h2 with
    |bad=>rw[q3]at e2;cases e2
    |ex c h3=>rw[q3]at e2;cases e2
    |ok b h3=>
     rw[q3]at e2;intro μ4 H4 b' x4 s4 rb;have eb:b'=b:=rb;subst eb
     cases b' with
     |false=>rw[if_neg (by decide)];exact⟨μ4,ρ3,h3,xs2,(x2.trans xsm).trans x4,rs3.mono x4,s4,RelDL.mono (xsm.trans x4) _ _ r2,by omega,e2⟩
     |true=>
      rw[if_pos rfl];dsimp only at e2
      cases q4:inner ρ3 h3 xs2 with
      |bad=>rw[q4]at e2;cases e2
      |ex c h5=>rw[q4]at e2;cases e2
      |ok rr h5=>rw[q4]at e2;obtain⟨ρ5,xs5⟩:=rr;exact⟨μ4,ρ3,h3,xs2,ρ5,xs5,h5,rs3.mono x4,s4,RelDL.mono (xsm.trans x4) _ _ r2,q4,λμ6 H6 σ6 vs6 x6 s6 rs6 r6=>⟨μ6,ρ5,h5,xs5,((x2.trans xsm).trans x4).trans x6,rs6,s6,r6,by omega,e2⟩⟩
theorem HX {E:XK}{mi:M Src}{st:dP}{test:M Bool}{inner:MC}{σ:St}{H:Hp}{vs:List V}{K:St->Hp->List V->Prop}(t:rN G (jS mi st test inner) σ H vs K):G5 (AU G E mi) (rM G st) (hZ G E test) (rN G inner) σ H vs K:=by
 obtain⟨μ,ρ,h,xs,ρ',xs',h',rs,s,r,e,k⟩:=t;refine⟨μ,ρ,h,rs,s, ?_⟩;unfold jS at e
 cases q:mi ρ h with
 |bad=>rw[q]at e;cases e
 |ex c h1=>rw[q]at e;cases e
 |ok src h1=>rw[q]at e;exact λμ1 H1 J x1 s1 ok=>HW ok (rs.mono x1) s1 (RelDL.mono x1 _ _ r) e λμ2 H2 σ2 vs2 x2=>k μ2 H2 σ2 vs2 (x1.trans x2)
def RL (G:Cfg):(Nat->ah)->Nat->Hp->List Dv->V->Prop:=λμ n H xs v=>∃p vs,v=.ref p/\H p=some (.lst vs)/\(∀i,i<n->μ i≠p)/\RelDL G μ n H xs vs
def vG (G:Cfg) (E:XK) (m:M (List Dv)):TE:=λσ H Q=>∃μ ρ h,RelS G μ h.length H ρ σ/\Sim G μ h H/\Out G E μ h.length H (m ρ h) (RL G) Q
def lQ (X:Cx) (G:Cfg) (E:XK) (pe:bp) (m:M (List Dv)):Prop:=X.K=G.K->PE X pe (vG G E m)
theorem Sim.adopt {μ:Nat->ah}{h:Hs}{H:Hp}{p:ah}{ds:List Dv}{vs:List V}(s:Sim G μ h H) (e:H p=some (.lst vs)) (hq:∀i,i<h.length->μ i≠p) (r:RelDL G μ h.length H ds vs):
  Ext μ h.length H (λi=>if i=h.length then p else μ i) (h++[Ob.lst ds]).length H/\Sim G (λi=>if i=h.length then p else μ i) (h++[.lst ds]) H:=by
 have hl:(h++[Ob.lst ds]).length=h.length+1:=by simp
 have x:Ext μ h.length H (λi=>if i=h.length then p else μ i) (h++[Ob.lst ds]).length H:=⟨by omega,λi hi=>if_neg (bf hi),λa o _ e=>e⟩
 refine⟨x,λi j hi hj e=>?_,λi o q=>?_,s.tab⟩
 ·rw[hl]at hi hj
  by_cases h1:i=h.length <;> by_cases h2:j=h.length
  ·omega
  ·rw[if_pos h1,if_neg h2]at e;exact absurd e.symm (hq j (by omega))
  ·rw[if_neg h1,if_pos h2]at e;exact absurd e (hq i (by omega))
  ·rw[if_neg h1,if_neg h2]at e;exact s.inj i j (by omega) (by omega) e
 ·by_cases h1:i<h.length
  ·rw[dz h1]at q;have r1:=s.ob i o q
   cases o with
   |lst xs=>obtain⟨ws,e1,r2⟩:=r1;exact⟨ws,by rw[if_neg (bf h1)];exact e1,RelDL.mono x _ _ r2⟩
  ·rw[gb (by omega)]at q;have h2:i=h.length:=by have:=(az.mp q).1;simp at this;omega
   subst h2;simp at q;subst q;exact⟨vs,by rw[if_pos rfl];exact e,RelDL.mono x _ _ r⟩
def cH (m:M (List Dv)):M Dv:=λρ h=>(m ρ h).bind λxs h1=>.ok (.ref h1.length) (h1++[.lst xs])
theorem AV {E:XK}{m:M (List Dv)}{σ:St}{H:Hp}{Q:VK}(t:gX G E (cH m) σ H Q):vG G E m σ H Q:=by obtain⟨μ,ρ,h,rs,s,o⟩:=t;refine⟨μ,ρ,h,rs,s,(o.bind (R1:=RL G)).mono λv H1 ⟨μ1,xs,h1,x1,s1,⟨p,vs,ev,e1,hq,r1⟩,o1⟩=>?_⟩;subst ev;obtain⟨x2,s2⟩:=s1.adopt e1 hq r1;exact o1 _ _ _ x2 s2 ⟨by simp,by show V.ref p=V.ref (if h1.length=h1.length then p else μ1 h1.length);rw[if_pos rfl]⟩
theorem nY {X:Cx}{E:XK}{pe:bp}{m:M (List Dv)}(h:lQ X G E pe m):aL X G E pe (cH m):=λhK=>PE.imp (h hK) λ_ _ _ t=>AV t
theorem vH {E E':XK}{mi:M Src}{cap:List (Option Nat)}{st:dP}{test:M Bool}{inner:MC}{σ:St}{H:Hp}{Q:VK}(t:vG G E (bX mi cap st test inner) σ H Q):AD (AU G E mi) cap (rM G st) (hZ G E' test) (rN G inner) σ H Q:=by
 obtain⟨μ,ρ,h,rs,s,o⟩:=t;refine⟨μ,ρ,h,rs,s,(o.bind (R1:=ItOk G)).mono λJ H1 ⟨μ1,src,h1,x1,s1,ok,o1⟩=>?_⟩
 cases q:gB src st test inner src.n 0 (iP cap ρ) h1 []with
 |bad=>rw[q]at o1;exact o1.elim
 |ex c h2=>rw[q]at o1;exact o1.elim
 |ok r h2=>rw[q]at o1;obtain⟨ρ',xs'⟩:=r;refine HW ok (S4 (rs.mono x1) cap) s1 RelDL.nil q λμ2 H2 σ2 vs2 x2 s2 rs2 r2 p hp=>?_;exact o1 μ2 _ _ (x2.trans (Ext.same (cR hp))) (s2.same (cR hp)) ⟨p,vs2,rfl,cU,s2.not hp,RelDL.mono (Ext.same (cR hp)) _ _ r2⟩
end
section
variable{X:Cx}{G:Cfg}{E:XK}{elt tg iter tg' iter':bp}{ifs ifs':List bp}{sc:gy}{ps pos:Pos}{mi mi':M Src}{st st':dP}{test test':M Bool}{me:M Dv}{N:List Str}{cap:List (Option Nat)}
def mO (X:Cx) (G:Cfg) (ifs:List bp) (m:M Bool):Prop:=X.K=G.K->PTs X ifs (hZ G E0 m)
theorem PTs.imp {Y:Cx}{ifs:List bp}{t t':TT}(h:PTs Y ifs t) (i:∀σ H Q,t' σ H Q->t σ H Q):PTs Y ifs t':=λpins s σ H Q I q=>h pins s σ H Q I (i σ H Q q)
theorem iQ {Y:Cx}:mO Y G [] cT:=λ_=>PTs.imp R3 λσ H Q ⟨μ,ρ,h,rs,s,o⟩=>o.val s rfl
theorem nZ {Y:Cx}{c:bp}{m:M Bool}(h:fO Y G E0 c m):mO Y G [c] m:=λhK=>R4 (h hK)
theorem PCl.imp {Y:Cx}{D:ah}{m:Sem Unit}{t t':TC}(h:PCl Y D m t) (i:∀σ H xs K,t' σ H xs K->t σ H xs K):PCl Y D m t':=λpins s σ H xs K I a f q=>h pins s σ H xs K I a f (i σ H xs K q)
theorem iE (hc:X.calm=true) (C:CapOk X sc N cap) (hi:jF X G E tg iter mi) (hg:∀s H ex,kD (cL X sc N s H ex) G tg st) (htt:∀s H ex,mO (cL X sc N s H ex) G ifs test) (hel:∀s H ex,aL (cL X sc N s H ex) G E0 elt me)
  (hs:∀x,foldedSetIterable iter X.env x=pure x:=by intro _;rfl):lQ X G E (.ListComp elt [⟨tg,iter,ifs,0⟩] sc ps) (bX mi cap st test (bP me)):=λhK=>
 PE.imp (G8 hc C rfl (λit D env=>G1 elt tg iter ifs sc ps (.ref it) D env) (hi hK) (λs H ex=>hg s H ex hK) (λs H ex=>htt s H ex hK) (λs H ex D=>PCl.imp (uU (hel s H ex hK)) λ_ _ _ _ t=>vF t) hs) λ_ _ _ t=>vH t
theorem S5 (hc:X.calm=true) (C:CapOk X sc N cap) (hi:jF X G E tg iter mi) (hg:∀s H ex,kD (cL X sc N s H ex) G tg st) (htt:∀s H ex,mO (cL X sc N s H ex) G ifs test)
  (hi':∀s H ex,jF (cL X sc N s H ex) G E0 tg' iter' mi') (hg':∀s H ex,kD (cL X sc N s H ex) G tg' st') (htt':∀s H ex,mO (cL X sc N s H ex) G ifs' test') (hel:∀s H ex,aL (cL X sc N s H ex) G E0 elt me)
  (hs:∀x,foldedSetIterable iter X.env x=pure x:=by intro _;rfl) (hs':∀s H ex x,foldedSetIterable iter' (cL X sc N s H ex).env x=pure x:=by intro _ _ _ _;rfl):
  lQ X G E (.ListComp elt [⟨tg,iter,ifs,0⟩,⟨tg',iter',ifs',0⟩] sc ps) (bX mi cap st test (jS mi' st' test' (bP me))):=λhK=>
 PE.imp (G8 hc C rfl (inner:=λD env=>pD iter' (.ListComp elt [⟨tg,iter,ifs,0⟩,⟨tg',iter',ifs',0⟩] sc ps) 1 D env) (λit D env=>G2 elt tg iter tg' iter' ifs ifs' sc ps (.ref it) D env) (hi hK) (λs H ex=>hg s H ex hK) (λs H ex=>htt s H ex hK)
  (λs H ex D=>PCl.imp (G6 (X:=cL X sc N s H ex) (D:=D) (gens:=[⟨tg,iter,ifs,0⟩,⟨tg',iter',ifs',0⟩]) (d:=1) rfl hc rfl (λit=>G3 elt tg iter tg' iter' ifs ifs' sc ps (.ref it) D _) (hi' s H ex hK) (hg' s H ex hK) (htt' s H ex hK) (PCl.imp (uU (hel s H ex hK)) λ_ _ _ _ t=>vF t) (hs' s H ex)) λ_ _ _ _ t=>HX t) hs) λ_ _ _ t=>vH t
end
def eJ (T:ah) (h:cz):Prop:=∃oT ts,h.get? T=some oT/\oT.data=.fields ts/\ts[3]?=some .none
structure Chg (fs:List ah) (e T:ah) (h h':cz):Prop where
 new:h.objs.size<=T
 keep:∀b o,b≠e->b∉fs->h.get? b=some o->h'.get? b=some o
 slot:∀b o,b≠e->h.get? b=some o->∃sl,h'.get? b=some { o with slots:=sl }
 tb:eJ T h'
theorem S6 (f:Array af->Array af) (o:Obj):(Obj.mapFields f o).dict=o.dict:=by
 unfold Obj.mapFields
 split <;> rfl
section
variable{M:Model}{A:cx}{E:af->ag->Prop}{s:ag}
theorem AW {a:ah}{o:Obj}{vs:Array af}{i:Nat}{v:af}{Q:Unit->ag->Prop}(e:s.heap.get? a=some o) (hd:o.data=.fields vs) (hi:i<vs.size)
  (k:∀h' o',gz a s.heap h'->h'.get? a=some o'->o'.cls=o.cls->o'.dict=o.dict->o'.data=.fields (vs.setIfInBounds i v)->Q () { s with heap:=h' }):wpAny M A (setField (.ref a) i v) Q E s:=
 have d':=uj hd (·.setIfInBounds i v)
 Ae e hd hi (k _ _ (mr ..) (my _ e (Am d')) (Obj.cls_mapFields ..) (S6 ..) d')
theorem S7 {head v:af}{L:Int}{pl:List af}{Q:af->ag->Prop}(hpl:IsPlace pl) (k:∀ob ts,ob.data=.fields ts->3<ts.size->ob.isFreed=false->Q (.ref s.heap.objs.size) { s with heap:=s.heap.push ob }):
  wpAny M A (yt head v .none (rawInt L) .none pl) Q E s:=
 fy (k _ _ rfl (by simp only[ar,bq,cg,oh];omega) rfl) (hpl.sizeOk5 ..)
theorem HY {e T:ah}{oe oT:Obj}{vs ts:Array af}{Q:Unit->ag->Prop}(he:s.heap.get? e=some oe) (hd:oe.data=.fields vs) (h1:vs[1]?=some (.ref T)) (hT:s.heap.get? T=some oT) (hdT:oT.data=.fields ts) (hs:3<ts.size)
  (k:∀h',gz T s.heap h'->eJ T h'->Q () { s with heap:=h' }):wpAny M A (setFlight (.ref e) none) Q E s:=by
 refine aa (fq he hd h1 ?_);show wpAny M A (if(gn T != jh)=true then _ else _) Q E s;rw[if_pos (by simp)];exact AW hT hdT hs λh' o' sb g _ _ d=>k h' sb ⟨o',_,g,d,by rw[ig hs];rfl⟩
theorem HZ {base:cz}{l:List Env}{a:ah}{o:Obj}{vs:Array af}(hl:s.heap.FunFrames base l) (e:s.heap.get? a=some o) (hd:o.data=.fields vs):a∉dS l:=λhm=>by obtain⟨_,o',e',nf⟩:=hl.mem hm;rw[e]at e';cases e';exact nf vs hd
theorem IA {base:cz}{env:Env}{outer:List Env}{L e:ah}{oe:Obj}{vs:Array af}{head a0:af}{nx:Bool}{Q:Unit->ag->Prop}(hfr:A.frames=some (env::outer)) (hl:s.heap.FunFrames base (env::outer)) (hf:env.frame=some L)
  (he:s.heap.get? e=some oe) (hd:oe.data=.fields vs) (hdn:oe.dict=none) (hsz:1<vs.size) (h0:vs[0]?=some a0)
  (k:∀h' T,Chg (dS (env::outer)) e T s.heap h'->dX oe.cls e T a0 h'->Q () { s with heap:=h' }):
  wpAny M A (do let a <-frameOf env;let pl <-entryPlaceOf L nx;let b <-yt head a .none (rawInt L) .none pl;setField (.ref e) 1 b)
   (λ_ s'=>wpAny M A (setFlight (.ref e) none) Q E s') E s:=by
 have ne:=HZ hl he hd;refine aa (wpAny_frameOf_fun hfr hl hf λg1 so=>aa (wpAny_entryPlaceOf λpl hpl=>aa (S7 hpl λob ts dt hts nf=>?_)));have e1:g1.get? e=some oe:=(so.2.1 e ne).trans he;have lt:e<g1.objs.size:=aq e1;refine AW (s:={ s with heap:=g1.push ob }) (ak _ e1) hd hsz λg2 oe2 sb2 ge c2 dn2 d2=>?_;have gT:g2.get? g1.objs.size=some ob:=sb2.extBut _ _ (je lt) (bc _ nf);refine HY (s:={ s with heap:=g2 }) ge d2 (T:=g1.objs.size) (by rw[ig hsz]) gT dt hts λg3 sb3 tb=>?_;have kp:∀b o,b≠e->g1.get? b=some o->g3.get? b=some o:=λb o hb q=>sb3.extBut _ _ (bf (aq q)) (sb2.extBut _ _ hb (ak _ q));refine k g3 g1.objs.size ⟨oz so.1.symm,λb o hb hn q=>kp b o hb ((so.2.1 b hn).trans q),λb o hb q=>?_,tb⟩ ⟨oe2,_,sb3.extBut _ _ (bf lt) ge,c2,d2, ?_, ?_,dn2.trans hdn⟩
 ·obtain⟨sl,q'⟩:=so.2.2 b o q;exact⟨sl,kp b _ hb q'⟩
 ·rw[Array.getElem?_setIfInBounds_ne (by decide)];exact h0
 ·rw[ig hsz]
theorem S8 {base:cz}{env:Env}{outer:List Env}{L e:ah}{oe:Obj}{vs:Array af}{a0:af}{Q:Unit->ag->Prop}(hfr:A.frames=some (env::outer)) (hl:s.heap.FunFrames base (env::outer)) (hf:env.frame=some L)
  (he:s.heap.get? e=some oe) (hd:oe.data=.fields vs) (hdn:oe.dict=none) (h0:vs[0]?=some a0) (h1:vs[1]?=some .none)
  (k:∀h' T,Chg (dS (env::outer)) e T s.heap h'->dX oe.cls e T a0 h'->Q () { s with heap:=h' }):
  wpAny M A (noteFrame (.ref e) env) (λ_ s'=>wpAny M A (setFlight (.ref e) none) Q E s') E s:=by
 unfold noteFrame;rw[hf];refine aa (fq he hd h1 ?_);exact IA hfr hl hf he hd hdn (dh.mp h1).1 h0 k
theorem S9 {base:cz}{env:Env}{outer:List Env}{L e T:ah}{C a0:af}{Q:Unit->ag->Prop}(hfr:A.frames=some (env::outer)) (hl:s.heap.FunFrames base (env::outer)) (hf:env.frame=some L)
  (hx:dX C e T a0 s.heap) (ht:eJ T s.heap) (hne:T≠e)
  (k:∀h' T',s.heap.objs.size<=T'->(∀b o,b≠e->b≠T->b∉dS (env::outer)->s.heap.get? b=some o->h'.get? b=some o)->(∀b o,b≠e->b≠T->s.heap.get? b=some o->∃sl,h'.get? b=some { o with slots:=sl })->
   dX C e T' a0 h'->eJ T h'->eJ T' h'->Q () { s with heap:=h' }):
  wpAny M A (noteFrame (.ref e) env) (λ_ s'=>wpAny M A (setFlight (.ref e) none) Q E s') E s:=by
 obtain⟨oe,vs,he,rfl,hd,h0,h1,hdn⟩:=hx;obtain⟨oT,ts,hT,hdT,h3⟩:=ht;have l3:3<ts.size:=(dh.mp h3).1;have nT:=HZ hl hT hdT;unfold noteFrame;rw[hf];refine aa (fq he hd h1 ?_);rw[if_pos (by simp)];refine aa (fq hT hdT h3 ?_);rw[if_neg (by simp[rawInt])];refine aa (AW hT hdT l3 λg o' sb gT _ _ dT=>?_);have hl':g.FunFrames base (env::outer):=hl.of_keeps λb o q nf=>⟨o,sb.extBut _ _ (λz=>by subst z;rw[hT]at q;cases q;exact nf ts hdT) q,rfl⟩
 refine IA (s:={ s with heap:=g }) hfr hl' hf (sb.extBut _ _ (da hne) he) hd hdn (dh.mp h1).1 h0 λh' T' c x=>?_;refine k h' T' (by rw[<-sb.1];exact c.new) (λb o n1 n2 n3 q=>c.keep b o n1 n3 (sb.extBut _ _ n2 q)) (λb o n1 n2 q=>c.slot b o n1 (sb.extBut _ _ n2 q)) x ⟨_,_,c.keep T _ hne nT gT,dT, ?_⟩ c.tb;rw[ig l3]
end
theorem AX {P:bo}{w:cw}{H:Hp}{h:cz}{a:ah}{o:HO}(x:ObjOk P w H h a o):∃ob,h.get? a=some ob:=by
 cases o with
 |lst xs=>obtain⟨_,_,_,_,e⟩:=x;exact⟨_,e⟩
 |tup xs=>obtain⟨_,_,_,ob,e,_⟩:=x;exact⟨_,e⟩
 |dK kvs=>obtain⟨_,_,_,_,o,_,_,e,_⟩:=x;exact⟨_,e⟩
 |dT kvs=>obtain⟨_,_,_,_,o,_,_,e,_⟩:=x;exact⟨_,e⟩
 |set S n=>obtain⟨o,_,_,_,e,_⟩:=x;exact⟨_,e⟩
 |ins C dx fs=>obtain⟨_,_,_,e,_⟩:=x;exact⟨_,e⟩
 |own y=>exact x
 |xd fs=>obtain⟨_,⟨_,_,_,e,_⟩,_⟩:=x;exact⟨_,e⟩
 |rng lo hi=>obtain⟨_,_,_,e⟩:=x;exact⟨_,e⟩
 |frz ob u=>obtain⟨e,_⟩:=x;exact⟨_,e⟩
 |tbl ps=>exact⟨_,(show h.get? a=some _ from x)⟩
 |met f y=>exact⟨_,(show h.get? a=some _ from x)⟩
 |ext φ=>obtain⟨_,e,_⟩:=x;exact e
def vI (base:cz) (H:Hp) (C:af) (e:ah):Prop:=∃T a0,H e=some (.ext (dX C e T a0))/\H T=some (.ext (eJ T))/\base.get? e=none/\T≠e
def rO (e:ah) (H H':Hp):Prop:=∀b o,b≠e->H b=some o->H' b=some o
theorem TB {C a0:af}{e T:ah}{h1 h2:cz}(x:dX C e T a0 h1) (k:∀o,h1.get? e=some o->h2.get? e=some o):dX C e T a0 h2:=by obtain⟨oe,vs,he,r⟩:=x;exact⟨oe,vs,k oe he,r⟩
theorem TF {T:ah}{h1 h2:cz}(x:eJ T h1) (k:∀o,h1.get? T=some o->h2.get? T=some o):eJ T h2:=by obtain⟨oe,vs,he,r⟩:=x;exact⟨oe,vs,k oe he,r⟩
theorem IB {P:bo}{w:cw}{H:Hp}{h:cz}{C a0:af}{e T:ah}(x:dX C e T a0 h):ObjOk P w H h e (.ext (dX C e T a0)):=⟨x,(let ⟨oe,_,he,_⟩:=x;⟨oe,he⟩),λ_ _ y k=>TB y k⟩
theorem vJ {P:bo}{w:cw}{H:Hp}{h:cz}{T:ah}(x:eJ T h):ObjOk P w H h T (.ext (eJ T)):=⟨x,(let ⟨oe,_,he,_⟩:=x;⟨oe,he⟩),λ_ _ y k=>TF y k⟩
section
variable{P:bo}{w:cw}{M:Model}{A:cx}{E:af->ag->Prop}{s:ag}{H:Hp}{base:cz}{env:Env}{outer:List Env}{L e:ah}{C:af}
theorem AY {Q:Unit->ag->Prop}(hfr:A.frames=some (env::outer)) (hl:s.heap.FunFrames base (env::outer)) (hf:env.frame=some L) (hok:HOk P w H s.heap) (hfree:∀b∈dS (env::outer),H b=none) (fl:vI base H C e)
  (k:∀h' H',Un (dS (env::outer)) [] H H' s.heap h'->HOk P w H' h'->vI base H' C e->rO e H H'->Q () { s with heap:=h' }):
  wpAny M A (noteFrame (.ref e) env) (λ_ s'=>wpAny M A (setFlight (.ref e) none) Q E s') E s:=by
 obtain⟨T,a0,he,hT,hb,hne⟩:=fl;have xe:dX C e T a0 s.heap:=(show ObjOk P w H s.heap e _ from hok e _ he).1;have xt:eJ T s.heap:=(show ObjOk P w H s.heap T _ from hok T _ hT).1;refine S9 hfr hl hf xe xt hne λh' T' hnew keep slot x' t0 t'=>?_;have nT':H T'=none:=hok.fresh hnew;have eT':T'≠e:=(fF he nT').symm;have TT':T'≠T:=(fF hT nT').symm;have sx:rO e H (aW (aW H e (.ext (dX C e T' a0))) T' (.ext (eJ T'))):=λb o hbe q=>by rw[bT (fF q nT'),bT hbe];exact q
 have ee:aW (aW H e (.ext (dX C e T' a0))) T' (.ext (eJ T')) e=some (.ext (dX C e T' a0)):=by rw[bT (da eT'),cU]
 refine k h' (aW (aW H e (.ext (dX C e T' a0))) T' (.ext (eJ T'))) ?_ ?_ ⟨T',a0,ee,cU,hb,eT'⟩ sx
 ·have free:∀b o,s.heap.get? b=some o->H b=none->aW (aW H e (.ext (dX C e T' a0))) T' (.ext (eJ T')) b=none:=λb o q n=>by have h1:b≠T':=bf (av (aq q) hnew);have h2:b≠e:=(fF he n).symm;rw[bT h1,bT h2];exact n
  refine⟨λb o q n hb _=>keep b o (fF he n).symm (fF hT n).symm hb q,λb o q n _ _=>slot b o (fF he n).symm (fF hT n).symm q,λb o q n _=>free b o q n,λb o q _=>?_,λb xs q=>?_,λb o u q=>?_,λb ps q=>?_⟩
  ·by_cases h1:b=e
   ·subst h1;obtain⟨oe,_,z,_⟩:=x';exact⟨oe,z⟩
   ·by_cases h2:b=T
    ·subst h2;obtain⟨oe,_,z,_⟩:=t0;exact⟨oe,z⟩
    ·obtain⟨sl,z⟩:=slot b o h1 h2 q;exact⟨_,z⟩
  ·exact sx b _ (mE q he (by intro z;cases z)) q
  ·exact sx b _ (mE q he (by intro z;cases z)) q
  ·exact⟨#[],by rw[sx b _ (mE q he (by intro z;cases z)) q];simp⟩
 ·intro a o q
  by_cases h1:a=T'
  ·subst h1;rw[cU]at q;cases q;exact vJ t'
  ·rw[bT h1]at q
   by_cases h2:a=e
   ·subst h2;rw[cU]at q;cases q;exact IB x'
   ·rw[bT h2]at q
    by_cases h3:a=T
    ·subst h3;rw[hT]at q;cases q;exact vJ t0
    ·have nf:a∉dS (env::outer):=λz=>by rw[hfree a z]at q;cases q
     refine(hok a o q).stay (λb u hb z=>?_) (λb z=>sx b _ (mE z he (by intro y;cases y)) z) λb xs z=>sx b _ (mE z he (by intro y;cases y)) z
     rcases hb with rfl|hb
     ·exact keep b u h2 h3 nf z
     ·exact keep b u (mE hb he (by intro y;cases y)) (mE hb hT (by intro y;cases y)) (λy=>by rw[hfree b y]at hb;cases hb) z
theorem IC {Q:Unit->ag->Prop}{h0:cz}{args:List af}(hfr:A.frames=some (env::outer)) (hl:h0.FunFrames base (env::outer)) (hf:env.frame=some L) (hok:HOk P w H h0) (hfree:∀b∈dS (env::outer),H b=none) (hsb:∀b o,base.get? b=some o->h0.get? b=some o)
  (mx:Heap.MadeExcOf h0 s.heap e C args)
  (k:∀h' H',Un (dS (env::outer)) [] H H' h0 h'->HOk P w H' h'->vI base H' C e->Same H H'->Q () { s with heap:=h' }):
  wpAny M A (noteFrame (.ref e) env) (λ_ s'=>wpAny M A (setFlight (.ref e) none) Q E s') E s:=by
 obtain⟨t,he,hnt,ht⟩:=mx.there;have hbn:base.get? e=none:=by
  cases q:base.get? e with
  |none=>rfl
  |some o=>have:=hsb e o q;rw[mx.new]at this;cases this
 have nH:H e=none:=by
  cases q:H e with
  |none=>rfl
  |some o=>
   have z:∀a o,H a=some o->h0.get? a≠none:=λa o q n=>by
    have lt:=hok.lt q;have:=(hok a o q)
    have ex:∃ob,h0.get? a=some ob:=AX this;obtain⟨ob,eo⟩:=ex;rw[n]at eo;cases eo
   exact absurd mx.new (z e o q)
 have hl1:s.heap.FunFrames base (env::outer):=hl.of_keeps λb o hb _=>⟨o,mx.keeps b o hb,rfl⟩
 refine S8 hfr hl1 hf he rfl rfl (a0:=.ref t) rfl rfl λh' T c x=>?_;have ne_e:∀b o,h0.get? b=some o->b≠e:=λb o q z=>by subst z;rw[mx.new]at q;cases q
 have lt0:∀b o,h0.get? b=some o->b<T:=λb o q=>av (aq (mx.keeps b o q)) c.new;have nT:H T=none:=by
  cases q:H T with
  |none=>rfl
  |some o=>obtain⟨ob,eo⟩:=AX (hok T o q);exact absurd (lt0 T ob eo) (gh _)
 have eT:T≠e:=je (av (aq he) c.new);have sm:Same H (aW (aW H e (.ext (dX C e T (.ref t)))) T (.ext (eJ T))):=λb o q=>by rw[bT (fF q nT),bT (fF q nH)];exact q
 refine k h' (aW (aW H e (.ext (dX C e T (.ref t)))) T (.ext (eJ T))) ?_ ?_ ⟨T,.ref t,by rw[bT (da eT),cU],cU,hbn,eT⟩ sm
 ·refine⟨λb o q n hb _=>c.keep b o (ne_e b o q) hb (mx.keeps b o q),λb o q n _ _=>c.slot b o (ne_e b o q) (mx.keeps b o q),λb o q n _=>?_,λb o q _=>?_,λb xs q=>sm b _ q,λb o u q=>sm b _ q,λb ps q=>⟨#[],by rw[sm b _ q];simp⟩⟩
  ·rw[bT (bf (lt0 b o q)),bT (ne_e b o q)];exact n
  ·obtain⟨sl,z⟩:=c.slot b o (ne_e b o q) (mx.keeps b o q);exact⟨_,z⟩
 ·intro a o q
  by_cases h1:a=T
  ·subst h1;rw[cU]at q;cases q;exact vJ c.tb
  ·rw[bT h1]at q
   by_cases h2:a=e
   ·subst h2;rw[cU]at q;cases q;exact IB x
   ·rw[bT h2]at q;have nf:a∉dS (env::outer):=λz=>by rw[hfree a z]at q;cases q
    refine(hok a o q).stay (λb u hb z=>?_) (λb z=>sm b _ z) λb xs z=>sm b _ z
    rcases hb with rfl|hb
    ·exact c.keep b u (ne_e b u z) nf (mx.keeps b u z)
    ·exact c.keep b u (ne_e b u z) (λy=>by rw[hfree b y]at hb;cases hb) (mx.keeps b u z)
end
def bR (P:bo) (w:cw) (base:cz):lM:=λouter H s E u s'=>∃e C H',u=.ref e/\s'.os=s.os/\rj s'.gens/\Un (dS outer) [] H H' s.heap s'.heap/\HOk P w H' s'.heap/\vI base H' C e/\E u none H'
def TH (X:Cx) (E:XK):Prop:=∀(pins:List (ah×Obj)) (σ:St) (H:Hp) (s:ag) (h':cz) (e:ah) (C:af) (args:List af),Inv X pins σ H s->Heap.MadeExcOf s.heap h' e C args->
 (∀H',Same H H'->(∃T a0,H' e=some (.ext (dX C e T a0)))->E (.ref e) none H')->X.xe (.ref e) { s with heap:=h' }
structure Good (X:Cx) (G:Cfg) (E:XK) (k:Nat):Prop where
 calm:X.calm=true
 room:Room k X.A
 K:X.K=G.K
 pas:zR (bR X.prog X.w X.base) X E
 own:xm (model X.prog X.w) X.A X.env X.xe
 rais:TH X E
def AZ (E:XK):Prop:=∀e H H',rO e H H'->(∃C T a0 T' a0',H e=some (.ext (dX C e T a0))/\(∃h,dX C e T a0 h)/\H' e=some (.ext (dX C e T' a0')))->E (.ref e) none H->E (.ref e) none H'
section
variable{P:bo}{w:cw}{K:ao}{mg:Str->Option af}{base:cz}{N:List Str}{qual:Str}{scope:gy}{f:ah}{cdv:af}{A:cx}{outer:List Env}{s0:ag}{H0:Hp}{E0:XK}{G:Cfg}{E:XK}{k:Nat}
theorem A0 (hr:Room k (A.deeper (envOfC qual scope s0.heap.objs.size f cdv))) (hK:K=G.K) (hE:∀u H',E u none H'->E0 u none H') (hF:AZ E):
  Good (fS (bR P w base) P w K mg base N qual scope f cdv A outer s0 H0 E0) G E k where
 calm:=rfl
 room:=hr
 K:=hK
 own:=zr
 pas:=by intro pins σ H s u s' I ⟨e,C,H',eu,os,bare,un,hok,fl,he⟩;subst eu;have I':=I.call' os un hok bare (λb z=>absurd z (by simp));refine aa (AY (P:=P) (w:=w) (H:=H') (base:=base) I'.ok.frames I'.stack rfl hok I'.stkFree fl λh'' H'' un2 hok2 fl2 sx=>?_);have I2:=I'.call (h':=h'') (g':=s'.gens) (d':=s'.drawn) (t':=s'.toks) un2 hok2 I'.bare (λb z=>absurd z (by simp));obtain⟨T,a0,h1,_⟩:=id fl;obtain⟨T2,a2,h3,_⟩:=id fl2;have xe1:dX C e T a0 s'.heap:=(show ObjOk P w H' s'.heap e _ from hok e _ h1).1;have:E (.ref e) none H'':=hF e H' H'' sx ⟨C,T,a0,T2,a2,h1,⟨_,xe1⟩,h3⟩ he;exact⟨e,C,H'',rfl,I2.os,I2.bare,I2.base,hok2,fl2,hE _ _ this⟩
 rais:=by intro pins σ H s h' e C args I mx he;refine aa (IC (P:=P) (w:=w) (H:=H) (base:=base) I.ok.frames I.stack rfl I.hok I.stkFree I.bk mx λh'' H'' un2 hok2 fl2 sm=>?_);have I2:=I.call (h':=h'') (g':=s.gens) (d':=s.drawn) (t':=s.toks) un2 hok2 I.bare (λb z=>absurd z (by simp));obtain⟨T2,a2,h3,_⟩:=id fl2;exact⟨e,C,H'',rfl,I2.os,I2.bare,I2.base,hok2,fl2,hE _ _ (he H'' sm ⟨T2,a2,h3⟩)⟩
theorem eK {X:Cx}{sc:gy}{N':List Str}{s:ag}{H:Hp}{ex:List ah}(g:Good X G E k):Good (cL X sc N' s H ex) G L2.E0 k where
 calm:=g.calm
 room:=g.room
 K:=g.K
 own:=PassesOwn.never
 pas:=λ_ _ _ _ _ _ _ ⟨_,_,_,_,_,_,_,_,_,z⟩=>z
 rais:=λ_ _ H s h' e C args I mx he=>by
  have nH:H e=none:=by
   cases q:H e with
   |none=>rfl
   |some o=>obtain⟨ob,eo⟩:=AX (I.hok e o q);rw[mx.new]at eo;cases eo
  exact he (aW H e (.ext (dX C e 0 .none))) (cR nH) ⟨0,.none,cU⟩
def bU (n:Nat) (ds:List Dv):Ev:=ds.map some++ba (n - ds.length) none
def bM:Sr->Rs Dv
 | .rt d h=>.ok d h
 | .nx _ h=>.ok .non h
 | .ex c h=>.ex c h
 |_=>.bad
def aZ (np n:Nat) (mb:MS):List Dv->Hs->Rs Dv:=λds h=>if ds.length=np then bM (mb (bU n ds) h)else .bad
def cN (G:Cfg) (F:List Dv->Hs->Rs Dv):Sp:=λvs H Q E=>∃μ h ds,RelDL G μ h.length H ds vs/\Sim G μ h H/\Out G E μ h.length H (F ds h) (RelD G) Q
theorem ID {μ:Nat->ah}{n:Nat}{H:Hp}{ds:List Dv}{vs:List V}(r:RelDL G μ n H ds vs) (N:List Str):RelS G μ n H (bU N.length ds) (start N vs):=by
 have hl:=r.length;refine⟨by simp[bU,start,hl],λi d e=>?_⟩;unfold bU at e
 by_cases hi:i<ds.length
 ·rw[dz (by simpa using hi),dk]at e
  cases q:ds[i]? with
  |none=>rw[q]at e;cases e
  |some d'=>rw[q]at e;cases e;obtain⟨v,e1,r1⟩:=r.get q;refine⟨v, ?_,r1⟩;unfold start;rw[dz (by simp;omega),dk,e1];rfl
 ·rw[gb (by simpa using hi),qu]at e
  split at e <;> cases e
def EB (G:Cfg) (μ0:Nat->ah) (n0:Nat) (H0:Hp) (r:Sr):XK:=λu _ H'=>∃c h' μ',r=.ex c h'/\Ext μ0 n0 H0 μ' h'.length H'/\Sim G μ' h' H'/\uW G H' c u
theorem Sim.sameX {μ:Nat->ah}{h:Hs}{H H':Hp}{e:ah}(s:Sim G μ h H) (sx:rO e H H') (hx:∃φ,H e=some (.ext φ)):Sim G μ h H'/\∀(n:Nat),Ext μ n H μ n H':=by
 obtain⟨φ,hx⟩:=hx;have x:∀n:Nat,Ext μ n H μ n H':=λn=>⟨aj _,λ_ _=>rfl,λa o i q=>sx a o (by rintro rfl;rw[hx]at q;cases q;exact i) q⟩
 refine⟨⟨s.inj,λi o q=>?_,s.tab.keep λa o _ n2 q=>sx a o (by rintro rfl;rw[hx]at q;cases q;exact n2 _ rfl) q⟩,x⟩;have r:=s.ob i o q
 cases o with
 |lst xs=>obtain⟨vs,e1,r1⟩:=r;exact⟨vs,sx _ _ (mE e1 hx (by intro z;cases z)) e1,RelDL.mono (x _) _ _ r1⟩
theorem A1 {μ0:Nat->ah}{n0:Nat}{H0:Hp}{r:Sr}:AZ (EB G μ0 n0 H0 r):=by intro e H H' sx ⟨C,T,a0,T',a0',h1,⟨hp,hx⟩,h3⟩ ⟨c,h',μ',er,x,s,e',φ,eu,h4,h5⟩;cases eu;obtain⟨s2,x2⟩:=s.sameX sx ⟨_,h1⟩;refine⟨c,h',μ',er,x.trans (x2 _),s2,e,_,rfl,h3,λhh z=>?_⟩;rw[h1]at h4;cases h4;obtain⟨o,g1,g2⟩:=h5 hp hx;obtain⟨oe,vs,g3,g4,_⟩:=hx;rw[g3]at g1;cases g1;obtain⟨oe',vs',g5,g6,_⟩:=z;exact⟨oe',g5,by rw[g6,<-g4,g2]⟩
theorem dQ {x qual:Str}{st:gp}{fd:br}{ps:List Str}{mb:MS}(Fn:Fun K x qual st f fd) (S:FnScope N ps (bC st)) (hK:K=G.K)
  (hbody:∀(cdv:af) (A:cx) (outer:List Env) (s:ag) (H:Hp) (E₀ E:XK),Good (fS (bR P w base) P w K mg base N qual (bC st) f cdv A outer s H E₀) G E k->jC (fS (bR P w base) P w K mg base N qual (bC st) f cdv A outer s H E₀) G E (jZ st) mb):
  FnOk P w K mg base (bR P w base) (k+1) f fd ps (cN G (aZ ps.length N.length mb)):=by
 obtain⟨oc,od,kV,doc,pm,an,cdv,ct,osl,rfl,lk,hcd⟩:=Fn.ex;have hlen:∀vs H Q E,cN G (aZ ps.length N.length mb) vs H Q E->vs.length=ps.length:=λvs H Q E ⟨μ,h,ds,r,sm,o⟩=>by
  rw[r.length];unfold aZ at o
  by_cases hd:ds.length=ps.length
  ·exact hd
  ·rw[if_neg hd]at o;exact o.elim
 refine zS lk hcd S hlen λA outer s H vs Q E hr hsp=>?_;have hl:=hlen _ _ _ _ hsp;obtain⟨μ,h,ds,r,sm,o⟩:=hsp;have o':Out G E μ h.length H (bM (mb (bU N.length ds) h)) (RelD G) Q:=by unfold aZ at o;rw[if_pos (by rw[<-r.length];exact hl)]at o;exact o
 refine⟨_,hbody cdv A outer s H E (EB G μ h.length H (mb (bU N.length ds) h)) (A0 hr hK (λu H' ⟨c,h',μ',er,x,s',fl⟩=>?_) A1) hK, ?_⟩
 ·rw[er]at o';exact o' μ' H' u x s' fl
 ·refine⟨μ,bU N.length ds,h,ID r N,sm, ?_⟩
  cases q:mb (bU N.length ds) h with
  |bad=>rw[q]at o';exact o'.elim
  |bk ρ h'=>rw[q]at o';exact o'.elim
  |ct ρ h'=>rw[q]at o';exact o'.elim
  |rt d h'=>rw[q]at o';exact o'
  |nx ρ h'=>rw[q]at o';exact λμ' H' σ' x' s' rs'=>o' μ' H' .non x' s' rfl
  |ex c h'=>exact λμ' H' u x' s' fl=>⟨c,h',μ',rfl,x',s',fl⟩
theorem cI {X:Cx}{F:List Dv->Hs->Rs Dv}{ps:List Str}{fd:br}{x:Str}{p pos:Pos}{e:bp}{es:List bp}{ms:M (List Dv)}{j:Nat}(g:Good X G E k) (Fn:FnOk X.prog X.w X.K X.mg X.base (bR X.prog X.w X.base) j f fd ps (cN G F)) (hj:j<=k)
  (hg:Gl X x) (hm:X.mg x=some (.ref f)) (hk:lj X.K (.ref f)=true) (hb:Binds X.K fd ps []) (ha:eC X G E (e::es) ms)
  (hdb:(x==("__debug__" : Str))=false:=by decide) (he:au (e::es) X.env=(false,eval e X.env)::au es X.env:=by rfl) (hpl:(backTo pos (au es X.env)).any (·.1)=false:=by rfl):
  aL X G E (.Call (.Name x p) (e::es) [] pos) (aH F ms):=λhK=>
 PE.imp (QK Fn (g.room.mono hj) hg hm hk hb .nil g.pas (ha hK) hdb he hpl) λσ H Q ⟨μ,ρ,h,rs,s,o⟩=>kA rs s o λμ1 ds1 h1 vs H1 x1 rs1 s1 r1 o1=>by rw[jy];exact⟨μ1,h1,ds1,r1,s1,o1⟩
end
abbrev rP:List af:=[.type "ValueError",.type "Exception",.type "BaseException",.type "object"]
theorem TJ {K:ao}{mg:Str->Option af}{base:cz}(p:bo) (m:Mod K mg base):∃fL mb,PySem.W.TopRead p fL mg mb base:=by
 obtain⟨mb,hb,hbb⟩:=m.blt;obtain⟨o,es,ep,ho,hd,hk,hf⟩:=id m.glob;refine⟨es.toList.filterMap λe=>match e.key with
  | .str n _=>some n
  |_=>none,mb,m.glob,hb,m.nolimit,hbb,λx _ hx _ _ _=>?_⟩
 rw[<-hf x]
 cases q:nsFind es x with
 |none=>rfl
 |some v=>
  exfalso
  apply hx
  unfold nsFind findBy at q;obtain⟨e,he,_⟩:=Option.map_eq_some_iff.mp q;have h1:=Array.find?_some he;have h2:=Array.mem_of_find?_eq_some he;obtain⟨n,t,hn⟩:=hk e h2;rw[hn]at h1;have h3:n=x:=by simpa[Value.isStr]using h1
  exact ie.mpr ⟨e,by simpa using h2,by rw[hn,h3]⟩
section
variable{X:Cx}{G:Cfg}{E:XK}{k:Nat}{x:Str}{C:ah}{np cpos pos:Pos}{e:bp}{es:List bp}{t:TA}{ms:M (List Dv)}{c:Nat}
theorem IE (g:Good X G E k) (hg:Gl X x) (hm:X.mg x=some (.ref C)) (hns:qt X.K du x=some (some (.ref C))) (hx:pj X.K C rP "ValueError.__new__" = true) (ha:PA X (e::es) t) (hd:(x==("__debug__" : Str))=false:=by decide)
  (he:au (e::es) X.env=(false,eval e X.env)::au es X.env:=by rfl) (hpl:(backTo cpos (au es X.env)).any (·.1)=false:=by rfl):
  PS X (.Raise (some (.Call (.Name x np) (e::es) [] cpos)) none pos) (λ_ σ H=>t σ H λvs H1=>vs.length<=cj/\∀e H',Same H1 H'->(∃T a0,H' e=some (.ext (dX (.ref C) e T a0)))->E (.ref e) none H'):=by
 intro pins s σ H D I h;obtain⟨bm,N,nm,q,bs,hdct,sn,sub,ab,col,dd,k0,k1,k2,k3,k5,mN,hC,hN,hni,T⟩:=(let ⟨_,_,tr⟩:=TJ X.prog I.ok.mod;PySem.W.own_of_in I.ok.mod.kin tr hns hx).obj;refine wpAny_Raise_call_subU (C:=C) (nm:=nm) (q:=q) (N:=N) (bs:=bs) (bm:=bm) (hdct:=hdct) (sn:=sn) (sub:=sub) (ab:=ab) (col:=col) (dd:=dd) (k0:=k0) (k1:=k1) (k2:=k2) (k3:=k3) (k5:=k5)
  vk (by decide) vk (mN:=mN) (T.hasType (by decide)) (I.ok.hd g.calm) (by rw[he];show(false||(backTo cpos (au es X.env)).any (·.1))=false;rw[hpl];rfl) hni (qM I hg hm ⟨rfl, ?_⟩ hd)
 have hh:=ha cpos pins s σ H _ I h;rw[he]at hh ⊢;refine Aa (bD hh λus s2 ⟨vs,H2,I2,r,hz,w⟩=>⟨rfl,by rw[<-r.length];exact hz,I2.bk _ _ hC,hN.keeps I2.bk,T.keeps I2.bk,λh' e' mx=>?_⟩);exact g.rais pins σ H2 s2 h' e' _ _ I2 mx λH' sm z=>w e' H' sm z
theorem IF {H:Hp}{e:ah}(hc:C=G.cl c) (z:∃T a0,H e=some (.ext (dX (.ref C) e T a0))):uW G H c (.ref e):=by obtain⟨T,a0,z⟩:=z;exact⟨e,_,rfl,z,λh ⟨oe,vs,h1,h2,_⟩=>⟨oe,h1,by rw[h2,hc]⟩⟩
def A2 (c:Nat) (ms:M (List Dv)):MS:=λρ h=>(ms ρ h).thenS λds h1=>if ds.length<=1000 then .ex c h1 else .bad
theorem TL (g:Good X G E k) (hg:Gl X x) (hm:X.mg x=some (.ref C)) (hns:qt X.K du x=some (some (.ref C))) (hx:pj X.K C rP "ValueError.__new__" = true) (hc:C=G.cl c) (ha:eC X G E (e::es) ms) (hd:(x==("__debug__" : Str))=false:=by decide)
  (he:au (e::es) X.env=(false,eval e X.env)::au es X.env:=by rfl) (hpl:(backTo cpos (au es X.env)).any (·.1)=false:=by rfl):
  iC X G E (.Raise (some (.Call (.Name x np) (e::es) [] cpos)) none pos) (A2 c ms):=λhK=>PS.imp (IE g hg hm hns hx (ha hK) hd he hpl) λD σ H ⟨μ,ρ,h,rs,s,o⟩=>
 ⟨μ,ρ,h,rs,s,(o.thenS (R:=RelDL G)).mono λvs H1 ⟨μ1,ds,h1,x1,s1,r1,o1⟩=>by
  split at o1
  ·rename_i hl;refine⟨by rw[r1.length];exact cq hl (by decide),λe' H' sm z=>?_⟩;exact o1 μ1 H' (.ref e') (Ext.same sm) (s1.same sm) (IF hc z)
  ·exact o1.elim⟩
def A3 (X:Cx) (p:bp) (cond:St->Prop):Prop:=∀(pins:List (ah×Obj)) (s:ag) (σ:St) (H:Hp),Inv X pins σ H s->cond σ->
 wpAny (model X.prog X.w) X.A (eval p X.env) (λu s'=>∃y t,u=.str y t/\y.length<=1000/\Inv X pins σ H s') X.xe s
theorem IG {y:Str}{j:Nat}{p:Pos}(h:y.length<=1000):A3 X (.Constant (.str y) j p) (λ_=>True):=λpins s σ H I _=>bD (FG (X:=X) pins s σ H (λv H'=>v=.str y/\H'=H) I ⟨rfl,rfl⟩) λu s' ⟨v,H',I',r,hv,hH⟩=>by subst hv;subst hH;obtain⟨t,rfl⟩:=r;exact⟨y,t,rfl,h,I'⟩
theorem IH {a:Int}(h:eV a=true):a.natAbs.log2<1920/\(toString a:Str).length<=1000:=by
 have hn:a.natAbs<2 ^ 64:=by simp only[eV,dj,decide_eq_true_eq]at h;omega
 have hlog:a.natAbs.log2<64:=by
  by_cases h0:a.natAbs=0
  ·rw[h0];decide
  ·exact(Nat.log2_lt h0).mpr hn
 refine⟨by omega, ?_⟩;have e:=int_text_length_le (k:=64) (by decide) hlog;rw[PySem.ofString_length];omega
theorem II {i:Nat}{y:Str}{p q:Pos}(hv:PE X (.Name y p) (FE i)):A3 X (.FormattedValue (.Name y p) (-1) none q) (λσ=>∃a,σ[i]?=some (some (.int a))/\eV a=true):=by intro pins s σ H I ⟨a,e,ha⟩;refine FormattedValue_plain (bD (hv pins s σ H (λv H'=>v=.int a/\H'=H) I ⟨_,e,rfl,rfl⟩) λu s1 ⟨v,H',I',r,e1,e2⟩=>?_);subst e1;subst e2;obtain⟨t,rfl⟩:=r;exact formatField_int_small (IH ha).1 ⟨_,_,rfl,(IH ha).2,I'.tok _⟩
inductive PTxs (X:Cx):List bp->(St->Prop)->Prop
 |nil:PTxs X [] (λ_=>True)
 |cons {p:bp}{ps:List bp}{a b:St->Prop}:A3 X p a->PTxs X ps b->PTxs X (p::ps) (λσ=>a σ/\b σ)
theorem TM {ps:List bp}{cond:St->Prop}(h:PTxs X ps cond):∀(out:Str) (pins:List (ah×Obj)) (s:ag) (σ:St) (H:Hp),Inv X pins σ H s->cond σ->out.length+1000*ps.length<=cj->
  wpAny (model X.prog X.w) X.A (joinParts out (evalEach ps X.env)) (λu s'=>∃y t,u=.str y t/\Inv X pins σ H s') X.xe s:=by
 induction h with
 |nil=>intro out pins s σ H I _ hl;exact joinParts_nil ⟨_,_,rfl,I.tok _⟩ (by simpa using hl)
 | @cons p ps a b hp hr ih=>intro out pins s σ H I ⟨ca,cb⟩ hl;rw[cg]at hl;have e1:evalEach (p::ps) X.env=eval p X.env::evalEach ps X.env:=rfl;rw[e1];refine joinParts_cons (bD (hp pins s σ H I ca) λu s1 ⟨y,t,eu,hy,I1⟩=>?_);subst eu;have hz:(out++y).length=out.length+y.length:=strLen_append ..;refine⟨by omega,ih (out++y) pins s1 σ H I1 cb (by omega)⟩
theorem TN {p1 p2:bp}{ps:List bp}{cond:St->Prop}(h:PTxs X (p1::p2::ps) cond) (hl:1000*(ps.length+2)<=cj:=by decide):
  PE X (.JoinedStr (p1::p2::ps) pos) (λσ H Q=>cond σ/\∀y,Q (.str y) H):=by
 intro pins s σ H Q I ⟨c,q⟩;refine JoinedStr_many ?_;have e1:eval p1 X.env::eval p2 X.env::evalEach ps X.env=evalEach (p1::p2::ps) X.env:=rfl;rw[e1];refine bD (TM h Str.empty pins s σ H I c (by have:Str.empty.length=0:=rfl;rw[this,cg,cg];omega)) λu s' ⟨y,t,eu,I'⟩=>?_;exact⟨.str y,H,I',⟨t,eu⟩,q y⟩
def vK (c:Nat) (slots:List Nat):MS:=λρ h=>if slots.all (λi=>match ρ[i]? with
 |some (some (.int a))=>eV a
 |_=>false)=true then .ex c h else .bad
theorem TQ {p1 p2:bp}{ps:List bp}{cond:St->Prop}{slots:List Nat}{fpos:Pos}(g:Good X G E k) (hg:Gl X x) (hm:X.mg x=some (.ref C)) (hns:qt X.K du x=some (some (.ref C))) (hx:pj X.K C rP "ValueError.__new__" = true) (hc:C=G.cl c)
  (h:PTxs X (p1::p2::ps) cond) (hcond:∀σ,(∀i∈slots,∃a,σ[i]?=some (some (.int a))/\eV a=true)->cond σ) (hl:1000*(ps.length+2)<=cj:=by decide)
  (hd:(x==("__debug__" : Str))=false:=by decide) (he:au [.JoinedStr (p1::p2::ps) fpos] X.env=[(false,eval (.JoinedStr (p1::p2::ps) fpos) X.env)]:=by rfl):
  iC X G E (.Raise (some (.Call (.Name x np) [.JoinedStr (p1::p2::ps) fpos] [] cpos)) none pos) (vK c slots):=λhK=>PS.imp (IE g hg hm hns hx (gW (TN h hl) jA he) hd he rfl) λD σ H ⟨μ,ρ,hh,rs,s,o⟩=>by
 unfold vK at o
 split at o
 ·rename_i ha;refine⟨hcond σ λi hi=>?_,λy=>⟨by show 1<=cj;decide,λe' H' sm z=>o μ H' (.ref e') (Ext.same sm) (s.same sm) (IF hc z)⟩⟩;have:=ed.mp ha i hi
  cases q:ρ[i]? with
  |none=>rw[q]at this;cases this
  |some o1=>
   cases o1 with
   |none=>rw[q]at this;cases this
   |some d=>
    cases d with
    |int a=>rw[q]at this;obtain⟨v,e1,r1⟩:=rs.at_ i _ q;rw[RelD]at r1;subst r1;exact⟨a,e1,this⟩
    |_=>rw[q]at this;cases this
 ·exact o.elim
end
open PySem PySem.Spec PyProof.Rows PySem.W
section
variable{prog:bo}{w:cw}{A:cx}{E:af->ag->Prop}{h:cz}{g:Array GenState}{d:Drawn}{t:Nat}{os:OsState}{a C:ah}{o:Obj}{K:Frag}
structure ExK (K:Frag) (C:ah):Prop where
 ga:findIn K (.ref C) "__getattribute__" = some (some (.builtin "BaseException.__getattribute__"))
 ng:findIn K (.ref C) "__getattr__" = some none
 cl:findIn K (.ref C) "__class__" = some (some (.builtin "object.__class__"))
 ob:mroIn K C (.type "object")=some true
 be:subIn K (.ref C) (.type "BaseException")=some true
 se:kitCls K (.ref C) (.ref C)=some true
 lk:∃oc od cd osl,K.lookup C=some ⟨oc,od,.cls cd,osl⟩
theorem kindGa:builtinKind "BaseException.__getattribute__" = some .slot/\splitId "BaseException.__getattribute__" = some ("BaseException","__getattribute__"):=by decide +kernel
theorem TR:(tw "BaseException.__getattribute__" == tw "object.__getattribute__")=false:=by decide +kernel
section
variable{R:zw->ag->Prop}{s:ag}
theorem TU {M:Model}{n:af}{Q:Unit->ag->Prop}(X:K.In s.heap) (I:InstAt s.heap a o C none) (k:ExK K C) (hq:Q () s):wpAny M A (checkBuiltinCall "BaseException.__getattribute__" ⟨[.ref a,n],[]⟩) Q E s:=by
 have one:Looks M s.heap (isInstance (.ref a) (.type "BaseException")) true:=I.type.andThen (looks_subIn X k.be);have two:=F.args_bexc_ga (.ref a) n;obtain⟨hh,g,d,t,os⟩:=s;unfold checkBuiltinCall;rw[kindGa.1,kindGa.2];refine aa (one.at ?_)
 repeat (first|assumption|wp_step)
theorem TV {n:Tok}(X:K.In s.heap) (I:InstAt s.heap a o C none) (k:ExK K C) (hq:R (.ok (.ret (.ref C))) s):codeAny (model prog w) A (.call (.builtin "BaseException.__getattribute__") ⟨[.ref a,.str "__class__" n],[]⟩) R s:=by
 refine uk F.excAttr_ValueError.ga.plain F.entry_bexc_ga (TU X I k ?_);have own:=I.type (M:=model prog w);have entry:=looks_findIn (M:=model prog w) X k.cl;have of_get:=F.slot_gs_get.lookup;have of_set:=F.slot_gs_set.lookup;have kind:=F.typeOf_object_class;have kindIs:s.TypeIs (.builtin "object.__class__") "getset_descriptor" := kind;obtain⟨hh,g,d,t,os⟩:=s
 repeat (any_goals (first|assumption|with_reducible refine own.at ?_|with_reducible refine entry.at ?_|wp_step))
 exact class_get (s:=⟨hh,g,d,t,os⟩) X I k.ob (by repeat (any_goals (first|assumption|wp_step)))
end
theorem TX {Q:Option af->ag->Prop}(X:K.In h) (I:InstAt h a o C none) (k:ExK K C) (hq:Q (some (.ref C)) ⟨h,g,d,t+1,os⟩):
  wpAny (model prog w) A (getAttr? (.ref a) "__class__") Q E ⟨h,g,d,t,os⟩:=by
 have own:=I.type (M:=model prog w);have first_:=looks_findIn (M:=model prog w) X k.ga;have then_:=looks_findIn (M:=model prog w) X k.ng;have bound:=F.excAttr_ValueError.ga.bind (.ref a);have other:=TR;have apart:(onTheHeap (gn C)&&tw "BaseException.__getattribute__" == tw "object.__getattribute__")=false:=by rw[other];rfl
 unfold getAttr? getAttrBy?
 repeat (any_goals (first|assumption|with_reducible refine own.at ?_|with_reducible refine first_.at ?_|with_reducible refine then_.at ?_|wp_step))
 exact TV X I k (by repeat (any_goals (first|assumption|wp_step)))
def TY (a C:ah) (h:cz):Prop:=∃o,InstAt h a o C none
theorem TZ (k:ExK K C):KitX K (.ref a) (.ref C) (TY a C) where
 ty:=λ_ _ _ ⟨_,I⟩=>I.type
 it:=λ_ _ X _=>(kit_cls X k.se).2.1
 ne:=λh tp dd its n sl X htp=>by
  cases z:(gn C==gn tp)with
  |false=>rfl
  |true=>
   obtain rfl:C=tp:=by simpa using z
   obtain⟨oc,od,cd,osl,lk⟩:=k.lk;have:=X _ _ lk;rw[htp]at this;simp at this
 ca:=λ{prog w A E Q s} X ⟨o,I⟩ hq=>by obtain⟨hh,g,d,t,os⟩:=s;exact TX X I k hq
end
inductive Ty where
 |non|bl|int|str|tup|lst|dct|exc (c:Nat)
def gM:Dv->Hs->Option Ty
 | .non,_=>some .non
 | .bl _,_=>some .bl
 | .int _,_=>some .int
 | .str _,_=>some .str
 | .tup _,_=>some .tup
 | .ref i,h=>match getL h i with
  |some _=>some .lst
  |none=>none
 | .edc,_=>some .dct
 | .exc c,_=>some (.exc c)
 | .scr,_=>none
def lC (cl:Nat->ah):Ty->af
 | .non=>.type "NoneType"
 | .bl=>.type "bool"
 | .int=>.type "int"
 | .str=>.type "str"
 | .tup=>.type "tuple"
 | .lst=>.type "list"
 | .dct=>.type "dict"
 | .exc c=>.ref (cl c)
def bG (f:Ty->Option Bool) (d:Dv) (h:Hs):Rs Dv:=match gM d h with
 |some ty=>match f ty with
  |some b=>.ok (.bl b) h
  |none=>.bad
 |none=>.bad
section
variable{X:Cx}{G:Cfg}{E:XK}{pins:List (ah×Obj)}{σ:St}{H:Hp}{s:ag}
theorem IJ {μ:Nat->ah}{h:Hs}{d:Dv}{v:V}{u:af}{ty:Ty}(I:Inv X pins σ H s) (sm:Sim G μ h H) (r:RelD G μ h.length H d v) (ru:RelV v u) (e:gM d h=some ty) (hex:∀c,ty=.exc c->ExK X.K (G.cl c)):
  ∃P,KitX X.K u (lC G.cl ty) P/\P s.heap/\u≠.builtin "__main__.__loader__#opaque":=by
 cases d with
 |non=>cases e;rw[RelD]at r;subst r;cases ru;exact⟨_,kitx_none,trivial,λz=>nomatch z⟩
 |bl b=>cases e;rw[RelD]at r;subst r;cases ru;exact⟨_,kitx_bool,trivial,λz=>nomatch z⟩
 |int i=>cases e;rw[RelD]at r;subst r;obtain⟨t,rfl⟩:=ru;exact⟨_,kitx_int,trivial,λz=>nomatch z⟩
 |str i=>cases e;rw[RelD]at r;subst r;obtain⟨t,rfl⟩:=ru;exact⟨_,kitx_str,trivial,λz=>nomatch z⟩
 |tup ds=>
  cases e;obtain⟨a,vs,rfl,ea,_⟩:=r;cases ru;obtain⟨_,_,_,o,h1,h2,_⟩:=(show ObjOk X.prog X.w H s.heap a (.tup vs) from I.hok a _ ea)
  exact⟨_,kitx_tuple,⟨o,h1,h2⟩,λz=>nomatch z⟩
 |ref i=>
  dsimp only[gM]at e
  cases g:getL h i with
  |none=>rw[g]at e;cases e
  |some xs=>
   rw[g]at e;cases e;obtain⟨_,rfl⟩:=r;cases ru;obtain⟨vs,ea,_⟩:=sm.ob i _ (cY g);obtain⟨_,_,n,_,h1⟩:=(show ObjOk X.prog X.w H s.heap (μ i) (.lst vs) from I.hok _ _ ea)
   exact⟨_,kitx_list,⟨_,h1,rfl⟩,λz=>nomatch z⟩
 |edc=>
  cases e;obtain⟨a,rfl,ea⟩:=r;cases ru;obtain⟨_,_,vs,_,p⟩:=(show ObjOk X.prog X.w H s.heap a (.dK []) from I.hok a _ ea)
  obtain⟨o,es,ep,h1,h2,_⟩:=p;exact⟨_,kitx_dict,⟨o,h1,h2.1⟩,λz=>nomatch z⟩
 |exc c=>
  cases e;obtain⟨a,o,uo,rfl,ea,hc,hdn,vs,hd⟩:=r;cases ru;obtain⟨h1,_⟩:=(show ObjOk X.prog X.w H s.heap a (.frz o uo) from I.hok a _ ea)
  refine⟨_,TZ (hex c rfl),⟨o,h1,hc, ?_, ?_⟩,λz=>nomatch z⟩
  ·unfold notCls;rw[hd]
  ·rw[hdn];trivial
 |scr=>cases e
end
section
variable{X:Cx}{G:Cfg}{E:XK}{a b:bp}{ma:M Dv}{p pos:Pos}{f:Ty->Option Bool}
theorem IK:df "isinstance" = some (.builtin "isinstance"):=by decide +kernel
def IL (G:Cfg) (f:Ty->Option Bool) (c:V):List V->Hp->VK->Prop:=λxs H Q=>∃μ h d v ty bb,xs=[v,c]/\Sim G μ h H/\RelD G μ h.length H d v/\gM d h=some ty/\f ty=some bb/\Q (.bl bb) H
theorem T1 {c:V}{u:af}(hc:(∃T,c=.ty T)∨∃C,c=.ref C) (rc:RelV c u) (hf:∀ty bb,f ty=some bb->kitOne X.K (lC G.cl ty) u=some bb) (hex:∀c bb,f (.exc c)=some bb->ExK X.K (G.cl c)):CallR X (.builtin "isinstance") (IL G f c):=by
 intro pins s σ H xs us Q I rv ⟨μ,h,d,v,ty,bb,e1,sm,r,et,ef,q⟩;subst e1;obtain⟨u1,u2,rfl,r1,r2⟩:=qP rv;have e2:u2=u:=by rcases hc with⟨T,rfl⟩|⟨C,rfl⟩ <;> (cases rc;cases r2;rfl)
 subst e2;obtain⟨P,Z,hP,hne⟩:=IJ I sm r r1 et (λc z=>by subst z;exact hex c bb ef);exact kia_one Z I.kIn hP (hf ty bb ef) hne λtk=>⟨.bl bb,H,I.tok _,rfl,q⟩
theorem oA {x:Str}{T:String}(hg:Gl X x) (hm:X.mg x=none) (hv:df x=some (.type T)) (hn:x ≠ "__name__" := by decide) (hd:(x==("__debug__" : Str))=false:=by decide):PE X (.Name x pos) (tC (.ty T)):=λpins s σ H Q I h=>nL I hg hm hv ⟨.ty T,H,I,rfl,h⟩ hn hd
theorem pJ {c:V}{u:af}(hg:Gl X "isinstance") (hm:X.mg "isinstance" = none) (ha:aL X G E a ma) (hb:PE X b (tC c)) (hc:(∃T,c=.ty T)∨∃C,c=.ref C) (rc:RelV c u)
  (hf:∀ty bb,f ty=some bb->kitOne G.K (lC G.cl ty) u=some bb) (hex:∀c bb,f (.exc c)=some bb->ExK G.K (G.cl c))
  (he:au [a,b] X.env=[(false,eval a X.env),(false,eval b X.env)]:=by rfl) (he2:au [b] X.env=[(false,eval b X.env)]:=by rfl):
  aL X G E (.Call (.Name "isinstance" p) [a,b] [] pos) (m1 (bG f) ma):=λhK=>
 PE.imp (qQ (T1 (G:=G) (f:=f) hc rc (by rw[hK];exact hf) (by rw[hK];exact hex)) hg hm IK (gW (ha hK) (gW hb jA he2) (by rw[he,he2])) (by decide) (by decide) (by rw[he,he2]) (by rw[he2];rfl))
  λσ H Q ⟨μ,ρ,h,rs,s,o⟩=>eX rs s o λμ1 d h1 v H1 x1 rs1 s1 r1 o1=>by
   show IL G f c [v,c] H1 Q;unfold bG at o1
   cases q:gM d h1 with
   |none=>rw[q]at o1;exact o1.elim
   |some ty=>
    rw[q]at o1;dsimp only at o1
    cases q2:f ty with
    |none=>rw[q2]at o1;exact o1.elim
    |some bb=>rw[q2]at o1;exact⟨μ1,h1,d,v,ty,bb,rfl,s1,r1,q,q2,o1.val s1 rfl⟩
def IM (G:Cfg) (f:Ty->Option Bool) (cs:List V):List V->Hp->VK->Prop:=λxs H Q=>∃μ h d v ty bb tp,xs=[v,.ref tp]/\H tp=some (.tup cs)/\Sim G μ h H/\RelD G μ h.length H d v/\gM d h=some ty/\f ty=some bb/\Q (.bl bb) H
theorem T3 {cs:List V}{us:List af}(hcs:∀us',Vals cs us'->us'=us) (hf:∀ty bb,f ty=some bb->kitAny X.K (lC G.cl ty) us=some bb) (hex:∀c bb,f (.exc c)=some bb->ExK X.K (G.cl c)):CallR X (.builtin "isinstance") (IM G f cs):=by
 intro pins s σ H xs uu Q I rv ⟨μ,h,d,v,ty,bb,tp,e1,etp,sm,r,et,ef,q⟩;subst e1;obtain⟨u1,u2,rfl,r1,r2⟩:=qP rv;cases r2;obtain⟨_,its,rits,o,h1,h2,_,n,h3⟩:=(show ObjOk X.prog X.w H s.heap tp (.tup cs) from I.hok tp _ etp)
 have eits:=hcs its rits;subst eits;obtain⟨oc,od,odata,osl⟩:=o
 cases h2;cases h3
 obtain⟨P,Z,hP,hne⟩:=IJ I sm r r1 et (λc z=>by subst z;exact hex c bb ef);exact kia_tup Z I.kIn hP h1 (hf ty bb ef) hne λtk=>⟨.bl bb,H,I.tok _,rfl,q⟩
theorem T4 {cs:List V}{us:List af}{bs:List bp}{kt:Nat}{tpos:Pos}(hg:Gl X "isinstance") (hm:X.mg "isinstance" = none) (ha:aL X G E a ma) (hb:PA X bs (λ_ H Q=>Q cs H)) (hl:cs.length<=cj) (hcs:∀us',Vals cs us'->us'=us)
  (hf:∀ty bb,f ty=some bb->kitAny G.K (lC G.cl ty) us=some bb) (hex:∀c bb,f (.exc c)=some bb->ExK G.K (G.cl c))
  (he:au [a,.Tuple bs kt tpos] X.env=[(false,eval a X.env),(false,eval (.Tuple bs kt tpos) X.env)]:=by rfl) (he2:au [.Tuple bs kt tpos] X.env=[(false,eval (.Tuple bs kt tpos) X.env)]:=by rfl):
  aL X G E (.Call (.Name "isinstance" p) [a,.Tuple bs kt tpos] [] pos) (m1 (bG f) ma):=λhK=>
 PE.imp (qQ (T3 (G:=G) (f:=f) hcs (by rw[hK];exact hf) (by rw[hK];exact hex)) hg hm IK (gW (ha hK) (gW (FY hb) jA he2) (by rw[he,he2])) (by decide) (by decide) (by rw[he,he2]) (by rw[he2];rfl))
  λσ H Q ⟨μ,ρ,h,rs,s,o⟩=>eX rs s o λμ1 d h1 v H1 x1 rs1 s1 r1 o1=>by
   refine⟨hl,λtp htp=>?_⟩;show IM G f cs [v,.ref tp] (aW H1 tp (.tup cs)) Q;unfold bG at o1
   cases q:gM d h1 with
   |none=>rw[q]at o1;exact o1.elim
   |some ty=>
    rw[q]at o1;dsimp only at o1
    cases q2:f ty with
    |none=>rw[q2]at o1;exact o1.elim
    |some bb=>rw[q2]at o1;have x2:Ext μ1 h1.length H1 μ1 h1.length (aW H1 tp (.tup cs)):=Ext.same (cR htp);exact⟨μ1,h1,d,v,ty,bb,tp,rfl,cU,s1.same (cR htp),RelD.mono x2 _ _ r1,q,q2,o1 μ1 _ _ x2 (s1.same (cR htp)) rfl⟩
end
def mP:Dv->Option Bool
 | .bl b=>some b
 |_=>none
theorem A4 {G:Cfg}{μ:Nat->ah}{n:Nat}{H:Hp}:∀{xs:List Dv}{vs:List V}{bs:List Bool},RelDL G μ n H xs vs->bW mP xs=some bs->vs=bs.map V.bl
 | [],vs,bs,r,e=>by cases e;rw[RelDL]at r;exact r
 |x::xs,vs,bs,r,e=>by
  rw[RelDL]at r;obtain⟨v,rr,rfl,r1,r2⟩:=r;unfold bW at e
  cases x with
  |bl b=>
   dsimp only[mP]at e
   cases q:bW mP xs with
   |none=>rw[q]at e;cases e
   |some zs=>rw[q]at e;cases e;rw[RelD]at r1;subst r1;rw[A4 r2 q];rfl
  |_=>cases e
section
variable{X:Cx}{pins:List (ah×Obj)}{σ:St}{H:Hp}{s:ag}
theorem T5 (bs:List Bool):(ay bs.length).all (λi=>bs.getD i false)=bs.all id:=by
 rw[gg,ed,ed];constructor
 ·intro h b hb;obtain⟨i,hi,rfl⟩:=iu.mp hb;simpa[kv,hi]using h i (bw.mpr hi)
 ·intro h i hi;have hi:=bw.mp hi;simpa[kv,hi]using h _ (dm hi)
theorem T6 (bs:List Bool):(ay bs.length).any (λi=>bs.getD i false)=bs.any id:=by
 rw[gg,qv,qv];constructor
 ·rintro ⟨i,hi,h⟩
  have hi:=bw.mp hi;exact⟨bs[i],dm hi,by simpa[kv,hi]using h⟩
 ·rintro ⟨b,hb,h⟩
  obtain⟨i,hi,rfl⟩:=iu.mp hb;exact⟨i,bw.mpr hi,by simpa[kv,hi]using h⟩
theorem T7 {bs:List Bool}{its:List af}(rv:Vals (bs.map V.bl) its) {i:Nat}{v:af}(e:its.toArray[i]?=some v):v=.bool (bs.getD i false):=by
 have hl:=rv.length;rw[bj]at hl;have e':its[i]?=some v:=by simpa using e
 have hi:i<its.length:=(az.mp e').1;have hb:i<bs.length:=by omega
 obtain⟨u,e2,r⟩:=rv.get (i:=i) (x:=V.bl bs[i]) (by simp[hb]);rw[e']at e2;cases e2;have hg:bs.getD i false=bs[i]:=by simp[kv,hb]
 rw[hg];exact r
theorem IP {bs:List Bool}{its:List af}{A:cx}(rv:Vals (bs.map V.bl) its):TruthOf X.prog X.w A (λi v=>its.toArray[i]?=some v) (λi=>bs.getD i false):=by intro i v s Q E e q;rw[T7 rv e];exact kr q
theorem vL {o:Obj}{h':cz}{tk:Nat}(I:Inv X pins σ H s) (k:∀b u,b∉[s.heap.objs.size]->(s.heap.push o).get? b=some u->h'.get? b=some u):Inv X pins σ H { s with heap:=h',toks:=tk }:=by have I1:Inv X pins σ H { s with heap:=s.heap.push o }:=I.kept (t':=s.toks) λb u e=>ak _ e;obtain⟨f0,f1,f2,f3,f4,f5⟩:=I.fpOk (aj s.heap.objs.size) I.fresh;exact I1.turned (t':=tk) (λb u hb e=>k b u (by simpa using hb) e) f0 f1 f3 f4 f5
theorem T9 (hc:X.calm=true):CallR X (.builtin "all") (λxs H Q=>∃(p:ah) (bs:List Bool),xs=[.ref p]/\H p=some (.lst (bs.map V.bl))/\Q (.bl (bs.all id)) H):=by
 intro pins s σ H xs us Q I rv ⟨p,bs,e,hp,q⟩;subst e;obtain⟨u,rfl,ru⟩:=iL rv;cases ru;obtain⟨its,rits,pl,hz⟩:=I.list (SqL.of hp);have hn:its.toArray.size=bs.length:=by have:=rits.length;simp at this ⊢;omega
 have ne:p≠s.heap.objs.size:=bf (I.hok.lt hp);refine call_all_walk (ku pl.isList ⟨_,_,_,_,_,_,λi=>bs.getD i false,rfl,ue (A:=X.A.in1) (show X.A.in1.handled=none from I.ok.hd hc) _ p ne its.toArray,⟨⟨_,bc _ rfl,rfl,rfl⟩,pl.isList.push _⟩,IP rits,λh' tk k=>?_⟩);rw[hn,T5];exact⟨.bl _,H,(vL (tk:=tk) I k:Inv X pins σ H { s with heap:=h',toks:=tk }),rfl,q⟩
theorem UA (hc:X.calm=true):CallR X (.builtin "any") (λxs H Q=>∃(p:ah) (bs:List Bool),xs=[.ref p]/\H p=some (.lst (bs.map V.bl))/\Q (.bl (bs.any id)) H):=by
 intro pins s σ H xs us Q I rv ⟨p,bs,e,hp,q⟩;subst e;obtain⟨u,rfl,ru⟩:=iL rv;cases ru;obtain⟨its,rits,pl,hz⟩:=I.list (SqL.of hp);have hn:its.toArray.size=bs.length:=by have:=rits.length;simp at this ⊢;omega
 have ne:p≠s.heap.objs.size:=bf (I.hok.lt hp);refine call_any_walk (ku pl.isList ⟨_,_,_,_,_,_,λi=>bs.getD i false,rfl,ue (A:=X.A.in1) (show X.A.in1.handled=none from I.ok.hd hc) _ p ne its.toArray,⟨⟨_,bc _ rfl,rfl,rfl⟩,pl.isList.push _⟩,IP rits,λh' tk k=>?_⟩);rw[hn,T6];exact⟨.bl _,H,(vL (tk:=tk) I k:Inv X pins σ H { s with heap:=h',toks:=tk }),rfl,q⟩
end
section
variable{X:Cx}{G:Cfg}{E:XK}{e:bp}{ml:M (List Dv)}{x:Str}{p pos:Pos}{bid T:String}
def mL (f:List Dv->Hs->Rs Dv) (ml:M (List Dv)):M Dv:=λρ h=>(ml ρ h).bind f
def A5 (G:Cfg) (r:List V->Hp->VK->Prop) (f:List Dv->Hs->Rs Dv):Prop:=∀(E:XK) (μ:Nat->ah) (h:Hs) (H:Hp) (xs:List Dv) (a:ah) (vs:List V) (Q:VK),Sim G μ h H->H a=some (.lst vs)->RelDL G μ h.length H xs vs->Out G E μ h.length H (f xs h) (RelD G) Q->r [.ref a] H Q
theorem IQ {r:List V->Hp->VK->Prop}{f:List Dv->Hs->Rs Dv}(hd:A5 G r f) {σ:St}{H:Hp}{Q:VK}(t:gX G E (mL f ml) σ H Q):uO r (FX (vG G E ml) FW) σ H Q:=by obtain⟨μ,ρ,h,rs,s,o⟩:=t;refine⟨μ,ρ,h,rs,s,(o.bind (R1:=RL G)).mono λv H1 ⟨μ1,xs,h1,x1,s1,⟨a,vs,ev,ea,_,r1⟩,o1⟩=>?_⟩;subst ev;exact hd E μ1 h1 H1 xs a vs Q s1 ea r1 o1
theorem IS {r:List V->Hp->VK->Prop}{f:List Dv->Hs->Rs Dv}(hc:CallR X (.builtin bid) r) (hd:A5 G r f) (hg:Gl X x) (hm:X.mg x=none) (hv:df x=some (.builtin bid)) (ha:lQ X G E e ml) (hn:x ≠ "__name__" := by decide) (hdb:(x==("__debug__" : Str))=false:=by decide)
  (he:au [e] X.env=[(false,eval e X.env)]:=by rfl):aL X G E (.Call (.Name x p) [e] [] pos) (mL f ml):=λhK=>
 PE.imp (qQ hc hg hm hv (gW (ha hK) jA he) hn hdb he rfl) λ_ _ _ t=>IQ hd t
theorem UB {r:List V->Hp->VK->Prop}{f:List Dv->Hs->Rs Dv}(hc:CallR X (.type T) r) (hd:A5 G r f) (hg:Gl X x) (hm:X.mg x=none) (hv:df x=some (.type T)) (ha:lQ X G E e ml) (hn:x ≠ "__name__" := by decide) (hdb:(x==("__debug__" : Str))=false:=by decide)
  (he:au [e] X.env=[(false,eval e X.env)]:=by rfl):aL X G E (.Call (.Name x p) [e] [] pos) (mL f ml):=λhK=>
 PE.imp (qR hc hg hm hv (gW (ha hK) jA he) hn hdb he rfl) λ_ _ _ t=>IQ hd t
theorem UC:df "all" = some (.builtin "all"):=by decide +kernel
theorem UD:df "any" = some (.builtin "any"):=by decide +kernel
def iF (xs:List Dv) (h:Hs):Rs Dv:=match bW mP xs with
 |some bs=>.ok (.bl (bs.all id)) h
 |none=>.bad
def rQ (xs:List Dv) (h:Hs):Rs Dv:=match bW mP xs with
 |some bs=>.ok (.bl (bs.any id)) h
 |none=>.bad
theorem pK (hc:X.calm=true) (hg:Gl X "all") (hm:X.mg "all" = none) (ha:lQ X G E e ml) (he:au [e] X.env=[(false,eval e X.env)]:=by rfl):aL X G E (.Call (.Name "all" p) [e] [] pos) (mL iF ml):=
 IS (T9 hc) (λE μ h H xs a vs Q s ea r o=>by
  unfold iF at o
  cases q:bW mP xs with
  |none=>rw[q]at o;exact o.elim
  |some bs=>rw[q]at o;exact⟨a,bs,rfl,by rw[ea,A4 r q],o.val s rfl⟩) hg hm UC ha (by decide) (by decide) he
theorem UE (hc:X.calm=true) (hg:Gl X "any") (hm:X.mg "any" = none) (ha:lQ X G E e ml) (he:au [e] X.env=[(false,eval e X.env)]:=by rfl):aL X G E (.Call (.Name "any" p) [e] [] pos) (mL rQ ml):=
 IS (UA hc) (λE μ h H xs a vs Q s ea r o=>by
  unfold rQ at o
  cases q:bW mP xs with
  |none=>rw[q]at o;exact o.elim
  |some bs=>rw[q]at o;exact⟨a,bs,rfl,by rw[ea,A4 r q],o.val s rfl⟩) hg hm UD ha (by decide) (by decide) he
def A6 (xs:List Dv) (h:Hs):Rs Dv:=.ok (.tup xs) h
theorem UG (hg:Gl X "tuple") (hm:X.mg "tuple" = none) (ha:lQ X G E e ml) (he:au [e] X.env=[(false,eval e X.env)]:=by rfl):aL X G E (.Call (.Name "tuple" p) [e] [] pos) (mL A6 ml):=UB GJ (λE μ h H xs a vs Q s ea r o=>⟨a,vs,rfl,.inl ⟨SqL.of ea,λl hl=>o μ _ _ (Ext.same (cR hl)) (s.same (cR hl)) ⟨l,vs,rfl,cU,RelDL.mono (Ext.same (cR hl)) _ _ r⟩⟩⟩) hg hm vA ha (by decide) (by decide) he
end
section
variable{X:Cx}{G:Cfg}{E:XK}{o e i:bp}{mo me mi:M Dv}{ml:M (List Dv)}{pos apos cpos:Pos}
theorem UH {H:Hp}{a:ah}{vs:List V}(e:H a=some (.lst vs)):uP X.K "list" (.ref a) H:=.inl ⟨rfl,vs,SqL.of e⟩
def lR (o d:Dv) (h:Hs):Rs Dv:=match o with
 | .ref j=>match getL h j with
  |some xs=>if xs.length<1000000 then .ok .non (h.set j (.lst (xs++[d])))else .bad
  |none=>.bad
 |_=>.bad
def iR (o:Dv) (h:Hs):Bool:=match o with
 | .ref j=>(getL h j).isSome
 |_=>false
def hG (mo me:M Dv):M Dv:=λρ h=>(mo ρ h).bind λx h1=>if iR x h1=true then(me ρ h1).bind λd h2=>lR x d h2 else .bad
theorem A7 {μ:Nat->ah}{h:Hs}{H:Hp}{x:Dv}{v:V}(s:Sim G μ h H) (r:RelD G μ h.length H x v) (e:iR x h=true):uP X.K "list" v H:=by
 cases x with
 |ref j=>obtain⟨xs,q⟩:=wj.mp (show(getL h j).isSome=true from e);obtain⟨vs,ea,_⟩:=s.ob j _ (cY q);obtain⟨_,rfl⟩:=r;exact UH ea
 |_=>cases e
theorem rR {y:Str}{np:Pos}(ho:aL X G E (.Name y np) mo) (he:aL X G E e me) (hs:au [e] X.env=[(false,eval e X.env)]:=by rfl) (hl:(apos.endLine==cpos.line)=true:=by rfl):aL X G E (.Call (.Attribute (.Name y np) "append" apos) [e] [] cpos) (hG mo me):=λhK=>
 PE.imp (zX qh PySem.F.slot_list_append PySem.F.type_list_append RK (ho hK) (gW (he hK) jA hs) rfl (by rw[hs];rfl) hl hs rfl) λσ H Q ⟨μ,ρ,h,rs,s,oo⟩=>eX rs s oo λμ1 x h1 vx H1 x1 rs1 s1 r1 o1=>by
  split at o1
  ·rename_i hl;refine⟨A7 s1 r1 hl,eX rs1 s1 o1 λμ2 d h2 vd H2 x2 rs2 s2 r2 o2=>?_⟩
   cases x with
   |ref j=>
    dsimp only[lR]at o2
    cases q:getL h2 j with
    |none=>rw[q]at o2;exact o2.elim
    |some xs=>
     rw[q]at o2;dsimp only at o2
     split at o2
     ·rename_i hz;obtain⟨vs,ea,ra⟩:=s2.ob j _ (cY q);obtain⟨_,rfl⟩:=RelD.mono x2 _ _ r1;obtain⟨x3,s3⟩:=s2.write (cY q) (ra.append (RelDL.cons r2 RelDL.nil));exact⟨_,vs,vd,rfl,rfl,ea,by rw[ra.length];exact av hz (by decide),o2 μ2 _ _ x3 s3 rfl⟩
     ·exact o2.elim
   |_=>exact o2.elim
  ·exact o1.elim
end
section
variable{X:Cx}{G:Cfg}{E:XK}{e i:bp}{mo me mi:M Dv}{ml:M (List Dv)}{pos apos cpos np:Pos}{y:Str}
def A8 (o:Dv) (ys:List Dv) (h:Hs):Rs Dv:=match o with
 | .ref j=>match getL h j with
  |some xs=>lim (xs.length+ys.length) (.ok .non (h.set j (.lst (xs++ys))))
  |none=>.bad
 |_=>.bad
def vM (mo:M Dv) (ml:M (List Dv)):M Dv:=λρ h=>(mo ρ h).bind λx h1=>if iR x h1=true then(ml ρ h1).bind λys h2=>A8 x ys h2 else .bad
theorem UI (ho:aL X G E (.Name y np) mo) (he:lQ X G E e ml) (hs:au [e] X.env=[(false,eval e X.env)]:=by rfl) (hl:(apos.endLine==cpos.line)=true:=by rfl):aL X G E (.Call (.Attribute (.Name y np) "extend" apos) [e] [] cpos) (vM mo ml):=λhK=>
 PE.imp (zX qh PySem.F.slot_list_extend PySem.F.type_list_extend RN (ho hK) (gW (he hK) jA hs) rfl (by rw[hs];rfl) hl hs rfl) λσ H Q ⟨μ,ρ,h,rs,s,oo⟩=>eX rs s oo λμ1 x h1 vx H1 x1 rs1 s1 r1 o1=>by
  split at o1
  ·rename_i hl;refine⟨A7 s1 r1 hl,μ1,ρ,h1,rs1,s1,(o1.bind (R1:=RL G)).mono λv H2 ⟨μ2,ys,h2,x2,s2,⟨b,ws,ev,eb,nb,rb⟩,o2⟩=>?_⟩;subst ev
   cases x with
   |ref j=>
    dsimp only[A8]at o2
    cases q:getL h2 j with
    |none=>rw[q]at o2;exact o2.elim
    |some xs=>
     rw[q]at o2;dsimp only at o2;unfold lim at o2
     split at o2
     ·rename_i hz;obtain⟨vs,ea,ra⟩:=s2.ob j _ (cY q);obtain⟨_,rfl⟩:=RelD.mono x2 _ _ r1;obtain⟨x3,s3⟩:=s2.write (cY q) (ra.append rb);exact⟨_,b,vs,ws,rfl,rfl,ea,eb,by rw[ra.length,rb.length];exact qY hz,o2 μ2 _ _ x3 s3 rfl⟩
     ·exact o2.elim
   |_=>exact o2.elim
  ·exact o1.elim
def rS (o i d:Dv) (h:Hs):Option Hs:=match o,i with
 | .ref j,.int k=>match getL h j with
  |some xs=>match eB xs.length k with
   |some n=>some (h.set j (.lst (xs.set n d)))
   |none=>none
  |none=>none
 |_,_=>none
def jG (mo mi me:M Dv):MS:=λρ h=>(me ρ h).thenS λd h1=>(mo ρ h1).thenS λo h2=>(mi ρ h2).thenS λi h3=>match rS o i d h3 with
 |some h4=>.nx ρ h4
 |none=>.bad
theorem rT {o:bp}{spos:Pos}(ho:aL X G E o mo) (hi:aL X G E i mi) (he:aL X G E e me)
  (ha:∀v,assign (.Subscript o i spos) X.env v=(do
   let ov <-holding [v] (eval o X.env)
   let iv <-holding [v,ov] (eval i X.env)
   standAt spos
   holding [v,ov,iv] (setItem ov iv v)
   release [v,ov,iv] []):=by intro _;rfl)
  (hs:swapsWithSole [.Subscript o i spos] e pos.line X.env=pure false:=by rfl) (hw:swappedStores [.Subscript o i spos] e X.env=pure none:=by rfl)
  (h1:(assignEach [.Subscript o i spos] X.env).map (·.2)=[assign (.Subscript o i spos) X.env]:=by rfl):iC X G E (.Assign [.Subscript o i spos] e pos) (jG mo mi me):=λhK=>
 PS.imp (FN (he hK) (OZ (ho hK) (hi hK) RA ha) hs hw h1) λD σ H ⟨μ,ρ,h,rs,s,oo⟩=>lO rs s oo λμ1 d h1 v H1 x1 rs1 s1 r1 o1=>lO rs1 s1 o1 λμ2 ob h2 vo H2 x2 rs2 s2 r2 o2=>lO rs2 s2 o2 λμ3 ix h3 vi H3 x3 rs3 s3 r3 o3=>by
  cases ob with
  |ref j=>
   cases ix with
   |int k=>
    dsimp only[rS]at o3
    cases q:getL h3 j with
    |none=>rw[q]at o3;exact o3.elim
    |some xs=>
     rw[q]at o3;dsimp only at o3
     cases q2:eB xs.length k with
     |none=>rw[q2]at o3;exact o3.elim
     |some n=>rw[q2]at o3;obtain⟨vs,ea,ra⟩:=s3.ob j _ (cY q);obtain⟨_,rfl⟩:=RelD.mono x3 _ _ r2;rw[RelD]at r3;subst r3;obtain⟨x4,s4⟩:=s3.write (cY q) (RelDL.set (RelD.mono (x2.trans x3) _ _ r1) n ra);exact⟨_,vs,k,n,rfl,rfl,ea,by rw[ra.length];exact q2,o3 μ3 _ σ x4 s4 (rs3.mono x4)⟩
   |_=>exact o3.elim
  |_=>cases ix <;> exact o3.elim
end
section
variable{prog:bo}{w:cw}{A:cx}{E:af->ag->Prop}{s:ag}
theorem UJ {it t:ah}{i:Nat}{items:Array af}{x:af}{Q:af->ag->Prop}(hit:s.heap.IsTupleIter it t i) (ht:s.heap.IsTuple t items) (hx:items[i]?=some x)
  (k:∀h',h'.IsTupleIter it t (i+1)->gz it s.heap h'->Q x { s with heap:=h' }):wpAny (model prog w) A (ff (.ref it)) Q E s:=by
 obtain⟨o,ho,hc,hd⟩:=id hit;obtain⟨ol,hol,hcl,nl,hdl⟩:=id ht;refine aa (gi (name:=lb "__next__") hit.typeIs F.slot_tuple_iterator_next (gm F.slot_tuple_iterator_next hit.typeIs F.entry_tuple_iterator_next ?_ (F.args_tuple_iterator_next_1 _)));have q0:∀{Q':af->ag->Prop}{E':af->ag->Prop}{B:cx},Q' (.ref t) s->wpAny (model prog w) B (field (.ref it) 0) Q' E' s:=λq=>fq ho hd (x:=.ref t) rfl q;have q1:∀{Q':af->ag->Prop}{E':af->ag->Prop}{B:cx},Q' (.int i 0) s->wpAny (model prog w) B (field (.ref it) 1) Q' E' s:=λq=>fq ho hd (x:=.int i 0) rfl q;refine aa (ai (aa (q0 ?_)));dsimp only;rw[if_neg (by simp)];refine aa (q1 (aa (jb hol hdl ?_)));rw[show((i:Int)).toNat=i from fe i];dsimp only;rw[hx];refine aa (Ae ho hd (by simp) (ai ⟨x,rfl,ai (k _ ⟨_,my _ ho (Am (uj hd _)), ?_, ?_⟩ (mr ..))⟩))
 ·rw[Obj.cls_mapFields];exact hc
 ·rw[uj hd];simp[rawInt]
end
section
variable{prog:bo}{w:cw}{A:cx}{E:af->ag->Prop}{s:ag}
theorem UK {α:Type}{Q:α->ag->Prop}(hh:A.handled=none) (k:∀h' e,(∀b o,s.heap.get? b=some o->h'.get? b=some o)->(∃o,h'.get? e=some o/\o.cls=.type "StopIteration")->E (.ref e) { s with heap:=h' }):
  wpAny (model prog w) A (ql:Sem α) Q E s:=by
 have e0:firstArgMember (.type "StopIteration") []=pure jh:=by show(pure (if _ then jh else jh):Sem af)=_;rw[ite_self]
 unfold ql newExc newTuple;refine aa (aa (fy (aa (yy e0 (fy (wpAny_raiseNew_none hh (k _ _ (λb o q=>ak _ (ak _ q)) ⟨_,bc _ rfl,rfl⟩)) (by size_fits)))) (by size_fits)))
theorem UL {it t:ah}{i:Nat}{items:Array af}{Q:af->ag->Prop}(hh:A.handled=none) (hit:s.heap.IsTupleIter it t i) (ht:s.heap.IsTuple t items) (hx:items[i]?=none)
  (k:∀h' e,An it s.heap h'->(∃o,h'.get? e=some o/\o.cls=.type "StopIteration")->E (.ref e) { s with heap:=h' }):wpAny (model prog w) A (ff (.ref it)) Q E s:=by
 obtain⟨o,ho,hc,hd⟩:=id hit;obtain⟨ol,hol,hcl,nl,hdl⟩:=id ht;refine aa (gi (name:=lb "__next__") hit.typeIs F.slot_tuple_iterator_next (gm F.slot_tuple_iterator_next hit.typeIs F.entry_tuple_iterator_next ?_ (F.args_tuple_iterator_next_1 _)));have q0:∀{Q':af->ag->Prop}{E':af->ag->Prop}{B:cx},Q' (.ref t) s->wpAny (model prog w) B (field (.ref it) 0) Q' E' s:=λq=>fq ho hd (x:=.ref t) rfl q;have q1:∀{Q':af->ag->Prop}{E':af->ag->Prop}{B:cx},Q' (.int i 0) s->wpAny (model prog w) B (field (.ref it) 1) Q' E' s:=λq=>fq ho hd (x:=.int i 0) rfl q;refine aa (ai (aa (q0 ?_)));dsimp only;rw[if_neg (by simp)];refine aa (q1 (aa (jb hol hdl ?_)));rw[show((i:Int)).toNat=i from fe i];dsimp only;rw[hx];refine aa (tm (aa (Ae ho hd (by simp) (UK (show A.in1.handled=none from hh) λh' e kp st=>k h' e (λb u hb q=>kp b u ?_) st))));rw[mm _ _ (da hb)];exact q
end
structure Draws (prog:bo) (w:cw) (it src:ah) (xs:List af) (st:Nat->cz->Prop):Prop where
 keep:∀i h h',st i h->(∀b o,b=it∨b=src->h.get? b=some o->h'.get? b=some o)->st i h'
 there:∀i h,st i h->∃o vs,h.get? it=some o/\o.data=.fields vs
 item:∀(A:cx) (i:Nat) (x:af) (s:ag) (Q:af->ag->Prop) (E:af->ag->Prop),xs[i]?=some x->st i s.heap->
  (∀h',st (i+1) h'->gz it s.heap h'->Q x { s with heap:=h' })->wpAny (model prog w) A (ff (.ref it)) Q E s
 done:∀(A:cx) (i:Nat) (s:ag) (Q:af->ag->Prop) (E:af->ag->Prop),A.handled=none->xs[i]?=none->st i s.heap->
  (∀h' e,An it s.heap h'->(∃o,h'.get? e=some o/\o.cls=.type "StopIteration")->E (.ref e) { s with heap:=h' })->wpAny (model prog w) A (ff (.ref it)) Q E s
structure Four (z TI TO i j u v:ah):Prop where
 a:z≠TO
 b:z≠i
 c:z≠j
 d:TO≠i
 e:TO≠j
 f:i≠j
 g:TI≠z
 h:TI≠TO
 k:TI≠i
 l:TI≠j
 u1:u≠z
 u2:u≠TO
 u3:u≠i
 u4:u≠j
 v1:v≠z
 v2:v≠TO
 v3:v≠i
 v4:v≠j
theorem hJ {b x y c:ah}(h:b=x∨b=y) (p:x≠c) (q:y≠c):b≠c:=by
 rcases h with h|h
 ·rw[h];exact p
 ·rw[h];exact q
def vN (z TO i j:ah) (h h':cz):Prop:=∀b o,b≠z->b≠TO->b≠i->b≠j->h.get? b=some o->h'.get? b=some o
section
variable{prog:bo}{w:cw}{A:cx}{E:af->ag->Prop}{s:ag}{z TI TO i j u v:ah}{xs ys:List af}{st su:Nat->cz->Prop}
theorem UM {n:Nat}{x y a b:af}{Q:af->ag->Prop}(F4:Four z TI TO i j u v) (P:Draws prog w i u xs st) (R:Draws prog w j v ys su) (hz:zg s.heap z TI TO .none) (hTI:nt s.heap TI (.ref i) (.ref j)) (hTO:nt s.heap TO a b)
  (p:st n s.heap) (r:su n s.heap) (hx:xs[n]?=some x) (hy:ys[n]?=some y)
  (k:∀h' T,s.heap.objs.size<=T->zg h' z TI TO (rawInt T)->nt h' TI (.ref i) (.ref j)->nt h' TO x y->st (n+1) h'->su (n+1) h'->nt h' T x y->vN z TO i j s.heap h'->Q (.ref T) { s with heap:=h' }):
  wpAny (model prog w) A (mf.«zip.__next__» ⟨[.ref z],[]⟩) (λfin s'=>∃v,fin=.done (.ret v)/\Q v s') E s:=by
 refine aa (ai (aa (fq hz rfl (x:=.bool false) rfl (aa (fq hz rfl (x:=.ref TI) rfl (aa (jb hTI rfl ?_)))))));have fr:∀{Q':Bool->ag->Prop}{E':af->ag->Prop},Q' true s->wpAny (model prog w) A (pq (.ref z)) Q' E' s:=λq=>aa (fq hz rfl (x:=.none) rfl (ai q));refine aa (fr ?_);rw[if_pos rfl];refine aa (tm (aa (fq hz rfl (x:=.ref TO) rfl (aa (iw hz (by simp) λg1 z1 b1=>?_)))));have z1':zg g1 z TI TO .ellipsis:=z1;refine aa ?_;show wpAny _ _ (forIn [(gn i,0),(gn j,1)] _ _) _ _ _;rw[oi];refine aa (aa (sf ?_));show wpAny _ _ (ff (.ref i) >>= _) _ _ _;refine aa (P.item A n x _ _ _ hx (P.keep n _ _ p λb o hb q=>b1.extBut _ _ (hJ hb (da F4.b) F4.u1) q) λg2 p2 b2=>ai ?_);have t2:nt g2 TO a b:=b2.extBut _ _ F4.d (b1.extBut _ _ (da F4.a) hTO);refine aa (jb t2 rfl (aa (um t2 λg3 t3 b3=>aa (wpAny_letGo (ai ?_)))));have t3':nt g3 TO x b:=t3;dsimp only;rw[oi];refine aa (aa (sf ?_));show wpAny _ _ (ff (.ref j) >>= _) _ _ _;have r3:su n g3:=R.keep n _ _ r λb o hb q=>b3.extBut _ _ (hJ hb (da F4.e) F4.v2) (b2.extBut _ _ (hJ hb (da F4.f) F4.v3) (b1.extBut _ _ (hJ hb (da F4.c) F4.v1) q));refine aa (R.item A n y _ _ _ hy r3 λg4 r4 b4=>ai ?_);have t4:nt g4 TO x b:=b4.extBut _ _ F4.e t3';refine aa (jb t4 rfl (aa (um t4 λg5 t5 b5=>aa (wpAny_letGo (ai ?_)))));have t5':nt g5 TO x y:=t5;dsimp only;rw[List.forIn_nil];refine ai ?_;refine aa (jb t5' rfl (aa (wpAny_newTuple ?_)));have z5:zg g5 z TI TO .ellipsis:=b5.extBut _ _ F4.a (b4.extBut _ _ F4.c (b3.extBut _ _ F4.a (b2.extBut _ _ F4.b z1')));have sz:g5.objs.size=s.heap.objs.size:=by rw[b5.1,b4.1,b3.1,b2.1,b1.1]
 have all5:vN z TO i j s.heap g5:=λc o c1 c2 c3 c4 q=>b5.extBut _ _ c2 (b4.extBut _ _ c4 (b3.extBut _ _ c2 (b2.extBut _ _ c3 (b1.extBut _ _ c1 q))));have p5:st (n+1) g5:=P.keep _ _ _ p2 λb o hb q=>b5.extBut _ _ (hJ hb (da F4.d) F4.u2) (b4.extBut _ _ (hJ hb F4.f F4.u4) (b3.extBut _ _ (hJ hb (da F4.d) F4.u2) q));have r5:su (n+1) g5:=R.keep _ _ _ r4 λb o hb q=>b5.extBut _ _ (hJ hb (da F4.e) F4.v2) q;generalize hob:({ cls:=.type "tuple",dict:=none,data:=.seq [x,y].toArray }:Obj)=ob;have zp:zg (g5.push ob) z TI TO .ellipsis:=ak _ z5;refine aa (aa (iw zp (by simp) λg7 z7 b7=>?_));have z7':zg g7 z TI TO (rawInt g5.objs.size):=z7;refine iw z7' (by simp) λg8 z8 b8=>ai ⟨_,rfl, ?_⟩;have up:∀c o,c≠z->g5.get? c=some o->g8.get? c=some o:=λc o c1 q=>b8.extBut _ _ c1 (b7.extBut _ _ c1 (ak _ q));have lz:z<g5.objs.size:=aq z5;have T8:nt g8 g5.objs.size x y:=b8.extBut _ _ (je lz) (b7.extBut _ _ (je lz) (by rw[<-hob];exact bc _ rfl));refine k g8 g5.objs.size (oz sz.symm) z8 (up _ _ F4.g (all5 _ _ F4.g F4.h F4.k F4.l hTI)) (up _ _ (da F4.a) t5') (P.keep _ _ _ p5 λb o hb q=>up _ _ (hJ hb (da F4.b) F4.u1) q) (R.keep _ _ _ r5 λb o hb q=>up _ _ (hJ hb (da F4.c) F4.v1) q) T8 λc o c1 c2 c3 c4 q=>up _ _ c1 (all5 c o c1 c2 c3 c4 q)
end
section
variable{prog:bo}{w:cw}{A:cx}{E:af->ag->Prop}{s:ag}{z TI TO i j u v:ah}{xs ys:List af}{st su:Nat->cz->Prop}
theorem UN {n:Nat}{a b:af}{Q:PySem.Fin->ag->Prop}(hh:A.handled=none) (F4:Four z TI TO i j u v) (P:Draws prog w i u xs st) (R:Draws prog w j v ys su) (hz:zg s.heap z TI TO .none) (hTI:nt s.heap TI (.ref i) (.ref j)) (hTO:nt s.heap TO a b)
  (p:st n s.heap) (r:su n s.heap) (hend:xs[n]?=none∨ys[n]?=none)
  (k:∀h' e,vN z TO i j s.heap h'->(∃o,h'.get? e=some o/\o.cls=.type "StopIteration")->E (.ref e) { s with heap:=h' }):
  wpAny (model prog w) A (mf.«zip.__next__» ⟨[.ref z],[]⟩) Q E s:=by
 refine aa (ai (aa (fq hz rfl (x:=.bool false) rfl (aa (fq hz rfl (x:=.ref TI) rfl (aa (jb hTI rfl ?_)))))));have fr:∀{Q':Bool->ag->Prop}{E':af->ag->Prop},Q' true s->wpAny (model prog w) A (pq (.ref z)) Q' E' s:=λq=>aa (fq hz rfl (x:=.none) rfl (ai q));refine aa (fr ?_);rw[if_pos rfl];refine aa (tm (aa (fq hz rfl (x:=.ref TO) rfl (aa (iw hz (by simp) λg1 z1 b1=>?_)))));have z1':zg g1 z TI TO .ellipsis:=z1;have p1:st n g1:=P.keep n _ _ p λb o hb q=>b1.extBut _ _ (hJ hb (da F4.b) F4.u1) q;have fin:∀(g:cz) (e:ah),zg g z TI TO .ellipsis->vN z TO i j s.heap g->(∃o,g.get? e=some o/\o.cls=.type "StopIteration")->
   wpAny (model prog w) A (setField (.ref z) 0 .none) (λ_ s'=>E (.ref e) s') E { s with heap:=g }:=λg e zz bt ⟨o,he,hc⟩=>
  iw zz (by simp) λg' _ b'=>k g' e (λc u c1 c2 c3 c4 q=>b'.extBut _ _ c1 (bt c u c1 c2 c3 c4 q)) ⟨o,b'.extBut _ _ (λq=>by subst q;rw[zz]at he;cases he;simp at hc) he,hc⟩
 refine aa ?_;show wpAny _ _ (forIn [(gn i,0),(gn j,1)] _ _) _ _ _;rw[oi];refine aa (aa (sf ?_));show wpAny _ _ (ff (.ref i) >>= _) _ _ _
 cases hx:xs[n]? with
 |none=>exact aa (P.done A n _ _ _ hh hx p1 λg2 e b2 he=>fin g2 e (b2 _ _ F4.b z1') (λc u c1 _ c3 _ q=>b2 _ _ c3 (b1.extBut _ _ c1 q)) he)
 |some x=>
  have hy:ys[n]?=none:=by
   rcases hend with q|q
   ·rw[hx]at q;cases q
   ·exact q
  refine aa (P.item A n x _ _ _ hx p1 λg2 p2 b2=>ai ?_);have t2:nt g2 TO a b:=b2.extBut _ _ F4.d (b1.extBut _ _ (da F4.a) hTO);refine aa (jb t2 rfl (aa (um t2 λg3 t3 b3=>aa (wpAny_letGo (ai ?_)))));dsimp only;rw[oi];refine aa (aa (sf ?_));show wpAny _ _ (ff (.ref j) >>= _) _ _ _;have r3:su n g3:=R.keep n _ _ r λb o hb q=>b3.extBut _ _ (hJ hb (da F4.e) F4.v2) (b2.extBut _ _ (hJ hb (da F4.f) F4.v3) (b1.extBut _ _ (hJ hb (da F4.c) F4.v1) q));exact aa (R.done A n _ _ _ hh hy r3 λg4 e b4 he=>fin g4 e (b4 _ _ F4.c (b3.extBut _ _ F4.a (b2.extBut _ _ F4.b z1'))) (λc u c1 c2 c3 c4 q=>b4 _ _ c4 (b3.extBut _ _ c2 (b2.extBut _ _ c3 (b1.extBut _ _ c1 q)))) he)
theorem vO {it t:ah}{items:Array af}(hne:t≠it):Draws prog w it t items.toList (λi h=>h.IsTupleIter it t i/\h.IsTuple t items) where
 keep:=λi h h' ⟨⟨o,e,r⟩,⟨o2,e2,r2⟩⟩ k=>⟨⟨o,k _ _ (.inl rfl) e,r⟩,⟨o2,k _ _ (.inr rfl) e2,r2⟩⟩
 there:=λi h ⟨⟨o,e,_,d⟩,_⟩=>⟨o,_,e,d⟩
 item:=λA i x s Q E hx ⟨a,b⟩ k=>UJ a b (by simpa using hx) λh' a' sb=>k h' ⟨a',b.extBut sb.extBut hne⟩ sb
 done:=λA i s Q E hh hx ⟨a,b⟩ k=>UL hh a b (by simpa using hx) k
end
def A9 (K:ao) (t u:ah):It:=
 ⟨λi H=>∃vs ws v w,SqT K H t vs/\SqT K H u ws/\vs[i]?=some v/\ws[i]?=some w,
  λi H x H'=>∃p v w,x=.ref p/\H p=none/\H'=aW H p (.tup [v,w])/\(∀vs,SqT K H t vs->vs[i]?=some v)/\∀ws,SqT K H u ws->ws[i]?=some w,
  λi H=>∃vs ws,SqT K H t vs/\SqT K H u ws/\(vs.length<=i∨ws.length<=i)⟩
structure ZipAt (z TI TO i j t u:ah) (n:Nat) (h:cz):Prop where
 zp:zg h z TI TO .none
 ti:nt h TI (.ref i) (.ref j)
 to:∃a b,nt h TO a b
 i1:h.IsTupleIter i t n
 i2:h.IsTupleIter j u n
section
variable{X:Cx}{pins:List (ah×Obj)}{σ:St}{H:Hp}{s:ag}
theorem Inv.turns {h':cz}{ch:List ah}{T:ah}{vs:List V}{its:List af}(I:Inv X pins σ H s) (hch:∀b∈ch,dO X pins H b) (k:∀b o,b∉ch->s.heap.get? b=some o->h'.get? b=some o) (there:∀b∈ch,∃o,h'.get? b=some o)
  (hT:s.heap.objs.size<=T) (hv:Vals vs its) (hl:vs.length<=cj) (tp:IsTupX h' T its.toArray):Inv X pins σ (aW H T (.tup vs)) { s with heap:=h' }:=by
 have nT:H T=none:=I.hok.fresh hT;have nch:∀b o,H b=some o->b∉ch:=λb o q z=>by rw[(hch b z).1]at q;cases q
 have un:Un (dS X.stack) ch H (aW H T (.tup vs)) s.heap h':=
  ⟨λb o q _ _ hb=>k b o hb q,λb o q _ _ hb=>⟨o.slots,k b o hb q⟩,λb o q n _=>by rw[bT (bf (av (aq q) hT))];exact n,
   λb o q hb=>⟨o,k b o hb q⟩,λb xs q=>cR nT b _ q,λb o u q=>cR nT b _ q,λb ps q=>⟨#[],by rw[cR nT b _ q];simp⟩⟩
 have ok:HOk X.prog X.w (aW H T (.tup vs)) h':=λb o q=>by
  by_cases hb:b=T
  ·subst hb;rw[cU]at q;cases q;exact⟨hl,its,hv,tp⟩
  ·rw[bT hb]at q;refine(I.hok b o q).stay (λc v hc z=>k c v ?_ z) (λc z=>cR nT c _ z) λc xs z=>cR nT c _ z
   rcases hc with rfl|hc
   ·exact nch c o q
   ·exact nch c _ hc
 exact I.call (g':=s.gens) (d':=s.drawn) (t':=s.toks) un ok I.bare λb hb=>let ⟨_,f1,_,f3,f4,f5⟩:=hch b hb;⟨f3,f1,f4,f5⟩
theorem Inv.turns0 {h':cz}{ch:List ah}(I:Inv X pins σ H s) (hch:∀b∈ch,dO X pins H b) (k:∀b o,b∉ch->s.heap.get? b=some o->h'.get? b=some o):Inv X pins σ H { s with heap:=h' }:=by
 have nch:∀b o,H b=some o->b∉ch:=λb o q z=>by rw[(hch b z).1]at q;cases q
 refine I.call (g':=s.gens) (d':=s.drawn) (t':=s.toks) (ch:=ch) ⟨λb o q _ _ hb=>k b o hb q,λb o q _ _ hb=>⟨o.slots,k b o hb q⟩,λ_ _ _ n _=>n,λb o q hb=>⟨o,k b o hb q⟩,λ_ _ q=>q,λ_ _ _ q=>q,λb ps q=>⟨#[],by rw[q];simp⟩⟩ (λb o q=>?_) I.bare λb hb=>let ⟨_,f1,_,f3,f4,f5⟩:=hch b hb;⟨f3,f1,f4,f5⟩;refine(I.hok b o q).stay (λc v hc z=>k c v ?_ z) (λ_ z=>z) λ_ _ z=>z
 rcases hc with rfl|hc
 ·exact nch c o q
 ·exact nch c _ hc
end
theorem UO {P:bo}{w:cw}{K:ao}{elts:List bp}{kk:Nat}{tp:Pos}{z TI TO i j t u:ah}(F4:Four z TI TO i j t u) (hti:t≠i) (huj:u≠j):
  Turn P w K (.Tuple elts kk tp) (A9 K t u) [z,TI,TO,i,j] z (ZipAt z TI TO i j t u) where
 mem:=by simp
 obj:=λn h st b hb=>by
  obtain⟨zp,ti,⟨a,b',to⟩,⟨o1,e1,_,d1⟩,⟨o2,e2,_,d2⟩⟩:=st;simp at hb
  rcases hb with rfl|rfl|rfl|rfl|rfl
  ·exact⟨_,zp,λv q=>by cases q⟩
  ·exact⟨_,ti,λv q=>by cases q⟩
  ·exact⟨_,to,λv q=>by cases q⟩
  ·exact⟨_,e1,λv q=>by rw[d1]at q;cases q⟩
  ·exact⟨_,e2,λv q=>by rw[d2]at q;cases q⟩
 keep:=λn h h' st k=>by obtain⟨zp,ti,⟨a,b',to⟩,⟨o1,e1,r1⟩,⟨o2,e2,r2⟩⟩:=st;exact⟨k _ (by simp) _ zp,k _ (by simp) _ ti,⟨a,b',k _ (by simp) _ to⟩,⟨o1,k _ (by simp) _ e1,r1⟩,⟨o2,k _ (by simp) _ e2,r2⟩⟩
 item:=by
  intro X hP hw hK hc n pins s σ H E I hf st hg;subst hP hw hK;obtain⟨vs,ws,v,w',hq,hr,hv,hw'⟩:=hg;obtain⟨its,rv,p1,z1⟩:=I.tuple hq;obtain⟨jts,rw',p2,z2⟩:=I.tuple hr;obtain⟨x,hx,rx⟩:=rv.get hv;obtain⟨y,hy,ry⟩:=rw'.get hw';obtain⟨zp,ti,⟨a,b,to⟩,i1,i2⟩:=st;have hT:s.TypeIs (.ref z) "zip" := ⟨_,zp,rfl⟩;unfold pyNext;refine aa (vf (gi (name:=lb "__next__") hT F.slot_zip_next (gm F.slot_zip_next hT F.entry_zip_next
   (UM F4 (vO (items:=its.toArray) hti) (vO (items:=jts.toArray) huj) zp ti to ⟨i1,p1⟩ ⟨i2,p2⟩ (by simpa using hx) (by simpa using hy) λh' T hnew a1 a2 a3 a4 a5 a6 bt=>ai ⟨_,rfl, ?_⟩) (F.args_zip_next_1 _))))
  refine wpAny_letOwnedTupleGo_zip a1 λh2 z2' sb=>?_;have kp:∀b o,b∉[z,TI,TO,i,j]->s.heap.get? b=some o->h2.get? b=some o:=λb o hb q=>by simp at hb;obtain⟨n1,n2,n3,n4,n5⟩:=hb;exact sb.extBut _ _ n1 (bt b o n1 n3 n4 n5 q)
  have Tz:T≠z:=je (av (aq zp) hnew);have T2:nt h2 T x y:=sb.extBut _ _ Tz a6;have th:∀b∈[z,TI,TO,i,j],∃o,h2.get? b=some o:=λb hb=>by
   obtain⟨⟨o1,e1,_⟩,_⟩:=a4;obtain⟨⟨o2,e2,_⟩,_⟩:=a5;simp at hb
   rcases hb with rfl|rfl|rfl|rfl|rfl
   ·exact⟨_,z2'⟩
   ·exact⟨_,sb.extBut _ _ F4.g a2⟩
   ·exact⟨_,sb.extBut _ _ (da F4.a) a3⟩
   ·exact⟨_,sb.extBut _ _ (da F4.b) e1⟩
   ·exact⟨_,sb.extBut _ _ (da F4.c) e2⟩
  have I2:=Inv.turns (T:=T) (vs:=[v,w']) (its:=[x,y]) I hf kp th hnew (.cons rx (.cons ry .nil)) (by show 2<=cj;decide) ⟨_,T2,rfl,rfl,_,rfl⟩;have nT:H T=none:=I.hok.fresh hnew;refine⟨.ref T,_,I2,rfl,⟨T,v,w',rfl,nT,rfl,λvs' h'=>by rw[I.tuple_inj h' hq];exact hv,λws' h'=>by rw[I.tuple_inj h' hr];exact hw'⟩, ?_,λb hb=>?_⟩
  ·exact⟨z2',sb.extBut _ _ F4.g a2,⟨_,_,sb.extBut _ _ (da F4.a) a3⟩,a4.1.extBut sb.extBut (da F4.b),a5.1.extBut sb.extBut (da F4.c)⟩
  ·obtain⟨o,q,_⟩:∃o,s.heap.get? b=some o/\True:=by
    obtain⟨o1,e1,_⟩:=i1;obtain⟨o2,e2,_⟩:=i2;simp at hb
    rcases hb with rfl|rfl|rfl|rfl|rfl
    ·exact⟨_,zp,trivial⟩
    ·exact⟨_,ti,trivial⟩
    ·exact⟨_,to,trivial⟩
    ·exact⟨_,e1,trivial⟩
    ·exact⟨_,e2,trivial⟩
   rw[bT (bf (av (aq q) hnew))];exact(hf b hb).1
 done:=by
  intro X hP hw hK hc n pins s σ H E I hf st hg;subst hP hw hK;obtain⟨vs,ws,hq,hr,hend⟩:=hg;obtain⟨its,rv,p1,z1⟩:=I.tuple hq;obtain⟨jts,rw',p2,z2⟩:=I.tuple hr;have l1:=rv.length;have l2:=rw'.length;obtain⟨zp,ti,⟨a,b,to⟩,i1,i2⟩:=st;have hT:s.TypeIs (.ref z) "zip" := ⟨_,zp,rfl⟩;unfold pyNext;refine aa (vf (gi (name:=lb "__next__") hT F.slot_zip_next (gm F.slot_zip_next hT F.entry_zip_next
   (UN (show X.A.in1.handled=none from I.ok.hd hc) F4 (vO (items:=its.toArray) hti) (vO (items:=jts.toArray) huj) zp ti to ⟨i1,p1⟩ ⟨i2,p2⟩ (by
    rcases hend with q|q
    ·exact .inl (by simp;omega)
    ·exact .inr (by simp;omega)) λh' e bt ⟨o,he,hcl⟩=>aa (yu (T := "StopIteration") (b:=true) ⟨o,he,hcl⟩ isSubtype_stop (ai ⟨rfl, ?_⟩))) (F.args_zip_next_1 _))))
  refine Inv.turns0 I hf λb o hb q=>?_;simp at hb;exact bt b o hb.1 hb.2.2.1 hb.2.2.2.1 hb.2.2.2.2 q
 self:=λ_ _ _ _ _ st h=>wpAny_pyIter_zip st.zp h
def IT (t u:ah) (h:cz) (z:ah) (h':cz):Prop:=∃TI TO i j,ZipAt z TI TO i j t u 0 h'/\Four z TI TO i j t u/\(∀b∈[z,TI,TO,i,j],h.objs.size<=b)/\∀b o,h.get? b=some o->h'.get? b=some o
theorem rV {h h':cz}{o:Obj}(e:h'=h.push o) (nf:o.isFreed=false):h'.get? h.objs.size=some o:=by rw[e];exact bc _ nf
theorem UP (n t u:Nat) (lt:t<n) (lu:u<n):Four (n+4) (n+2) (n+3) n (n+1) t u:=by
 have ne:∀{a b:Nat},(a<b∨b<a)->a≠b:=λh=>by omega
 exact⟨ne (by omega),ne (by omega),ne (by omega),ne (by omega),ne (by omega),ne (by omega),ne (by omega),ne (by omega),ne (by omega),ne (by omega),ne (by omega),ne (by omega),ne (by omega),ne (by omega),ne (by omega),ne (by omega),ne (by omega),ne (by omega)⟩
theorem UQ {t u:ah}{hp h1 h2 h3 h4 h5:cz}{n:Nat}(hn:n=hp.objs.size) (lt:t<n) (lu:u<n)
  (e1:h1=hp.push { cls:=.type "tuple_iterator",data:=.fields #[.ref t,.int 0 0] }) (e2:h2=h1.push { cls:=.type "tuple_iterator",data:=.fields #[.ref u,.int 0 0] }) (e3:h3=h2.push { cls:=.type "tuple",data:=.seq #[.ref n,.ref (n+1)] })
  (e4:h4=h3.push { cls:=.type "tuple",data:=.seq #[.none,.none] }) (e5:h5=h4.push { cls:=.type "zip",data:=.fields #[.none,.bool false,.bool false,.ref (n+2),.ref (n+3)] }):IT t u hp (n+4) h5:=by
 have z1:h1.objs.size=n+1:=by rw[e1,dw,hn]
 have z2:h2.objs.size=n+2:=by rw[e2,dw,z1]
 have z3:h3.objs.size=n+3:=by rw[e3,dw,z2]
 have z4:h4.objs.size=n+4:=by rw[e4,dw,z3]
 have up:∀(h:cz) (o:Obj) (b:ah) (q:Obj),h.get? b=some q->(h.push o).get? b=some q:=λh o b q e=>ak _ e;have g1:=rV e1 rfl;have g2:=rV e2 rfl;have g3:=rV e3 rfl;have g4:=rV e4 rfl;have g5:=rV e5 rfl;rw[<-hn]at g1;rw[z1]at g2;rw[z2]at g3;rw[z3]at g4;rw[z4]at g5;have u2:∀b q,h2.get? b=some q->h5.get? b=some q:=λb q e=>by rw[e5,e4,e3];exact up _ _ _ _ (up _ _ _ _ (up _ _ _ _ e))
 have u1:∀b q,h1.get? b=some q->h5.get? b=some q:=λb q e=>u2 b q (by rw[e2];exact up _ _ _ _ e);have u3:∀b q,h3.get? b=some q->h5.get? b=some q:=λb q e=>by rw[e5,e4];exact up _ _ _ _ (up _ _ _ _ e)
 have u4:∀b q,h4.get? b=some q->h5.get? b=some q:=λb q e=>by rw[e5];exact up _ _ _ _ e
 refine⟨n+2,n+3,n,n+1,⟨g5,u3 _ _ g3,⟨_,_,u4 _ _ g4⟩,⟨_,u1 _ _ g1,rfl,rfl⟩,⟨_,u2 _ _ g2,rfl,rfl⟩⟩, ?_, ?_,λb q e=>u1 b q (by rw[e1];exact up _ _ _ _ e)⟩
 ·exact UP n t u lt lu
 ·intro b hb;rw[<-hn];simp at hb
  rcases hb with rfl|rfl|rfl|rfl|rfl
  ·exact rh _ _
  ·exact rh _ _
  ·exact rh _ _
  ·exact aj _
  ·exact rh _ _
theorem UR {t u:ah}(xs ys:Array af):Meets (mf.«zip.__new__» ⟨[.type "zip",.ref t,.ref u],[]⟩) (λ_ R s=>s.heap.IsTuple t xs/\s.heap.IsTuple u ys/\∀h' z,IT t u s.heap z h'->R (.ok (.ret (.ref z))) { s with heap:=h' }):=
 .of_wp λprog w A R s h=>by
  obtain⟨ht,hu,k⟩:=h;obtain⟨hp,g,d,tk,os⟩:=s;have sub:=sub_zip;have ht':(⟨hp,g,d,tk,os⟩:ag).heap.IsTuple t xs:=ht;have hu':(⟨hp.push { cls:=.type "tuple_iterator",data:=.fields #[.ref t,.int 0 0] },g,d,tk,os⟩:ag).heap.IsTuple u ys:=hu.push _
  wp_walk using qp ht',qp hu'
  have lt:t<hp.objs.size:=by obtain⟨o,e,_⟩:=ht;exact aq e
  have lu:u<hp.objs.size:=by obtain⟨o,e,_⟩:=hu;exact aq e
  simp only[dw];refine⟨_,rfl,k _ _ (UQ rfl lt lu rfl rfl rfl rfl ?_)⟩;simp only[dw];rfl
section
variable{X:Cx}{G:Cfg}{E:XK}{a b:bp}{elts:List bp}{kk:Nat}{tp p pos:Pos}{ta:TA}{ms:M (List Dv)}
def US (K:ao) (ta:TA):TI:=λσ H R=>ta σ H λvs H1=>∃t u xs ys,vs=[.ref t,.ref u]/\SqT K H1 t xs/\SqT K H1 u ys/\R (A9 K t u) H1
theorem UT:df "zip" = some (.type "zip"):=by decide +kernel
theorem UU (hg:Gl X "zip") (hm:X.mg "zip" = none) (ha:PA X [a,b] ta) (hs:au [a,b] X.env=[(false,eval a X.env),(false,eval b X.env)]:=by rfl) (hs2:au [b] X.env=[(false,eval b X.env)]:=by rfl):
  PI X (.Tuple elts kk tp) (.Call (.Name "zip" p) [a,b] [] pos) (US X.K ta):=by
 intro pins s σ H R I h;refine Call_ (nL I hg hm UT (iq (bD (ha pos pins s σ H _ I h) λus s1 ⟨vs,H1,I1,r1,q1⟩=>?_) (by rw[hs,hs2]) (by rw[hs2];rfl)));obtain⟨t,u,xs,ys,e,hq,hr,q⟩:=q1;subst e;obtain⟨u1,u2,rfl,e1,e2⟩:=qP r1;cases e1;cases e2;obtain⟨its,rv,p1,_⟩:=I1.tuple hq;obtain⟨jts,rw',p2,_⟩:=I1.tuple hr;refine callType_new F.called_zip (by decide) (F.typeCall_zip_2 _ _) (F.newCall_zip_2 _ _) (λobj=>F.args_object_init_3 obj _ _) F.entry_zip_new (UR its.toArray jts.toArray) ⟨p1,p2,λh' z nz=>?_⟩;obtain⟨TI,TO,i,j,za,f4,fresh,kp⟩:=nz;refine⟨⟨_,za.zp,rfl⟩, ?_⟩;have I2:Inv X pins σ H1 { s1 with heap:=h' }:=I1.kept (t':=s1.toks) kp;refine wpAny_pyIter_zip za.zp ⟨z,[z,TI,TO,i,j],_,_,H1,rfl,I2,UO f4 f4.u3 f4.v4,za,λb hb=>I1.fpOk (fresh b hb) (I1.hok.fresh (fresh b hb)),q⟩
def mQ (xs ys:List Dv):Src:=cJ ((xs.zip ys).map λq=>.tup [q.1,q.2])
def mR:List Dv->Hs->Rs Src
 | [.tup xs,.tup ys],h=>.ok (mQ xs ys) h
 |_,_=>.bad
theorem ItOk.zip {μ:Nat->ah}{n:Nat}{H:Hp}{t u:ah}{vs ws:List V}{xs ys:List Dv}{K:ao}(e:H t=some (.tup vs)) (e':H u=some (.tup ws)) (r:RelDL G μ n H xs vs) (r':RelDL G μ n H ys ws):ItOk G μ n H (mQ xs ys) (A9 K t u):=by
 intro k μ2 h2 H2 x2 s2;have f:=x2.im t (.tup vs) trivial e;have f':=x2.im u (.tup ws) trivial e';have g:=RelDL.mono x2 _ _ r;have g':=RelDL.mono x2 _ _ r';have hl:(mQ xs ys).n=min xs.length ys.length:=by simp[mQ,cJ]
 constructor
 ·intro hk d hd;have hd':((xs.zip ys).map λq=>Dv.tup [q.1,q.2])[k]?=some d:=hd;rw[dk]at hd'
  cases q:(xs.zip ys)[k]? with
  |none=>rw[q]at hd';cases hd'
  |some xy=>
   rw[q]at hd';cases hd';obtain⟨qx,qy⟩:=pw.mp q;obtain⟨v,ev,rv⟩:=g.get qx;obtain⟨w',ew,rw'⟩:=g'.get qy;refine⟨⟨vs,ws,v,w',SqT.of f,SqT.of f',ev,ew⟩,λx H' hy=>?_⟩;obtain⟨pp,v1,w1,rfl,np,rfl,a1,a2⟩:=hy;have b1:=a1 vs (SqT.of f);have b2:=a2 ws (SqT.of f');rw[ev]at b1;rw[ew]at b2
   cases b1;cases b2
   have sm:Same H2 (aW H2 pp (.tup [v,w'])):=cR np;exact⟨sm,pp,_,rfl,cU,RelDL.cons (RelD.mono (Ext.same sm) _ _ rv) (RelDL.cons (RelD.mono (Ext.same sm) _ _ rw') RelDL.nil)⟩
 ·intro hk _;refine⟨vs,ws,SqT.of f,SqT.of f', ?_⟩;rw[g.length,g'.length,hk,hl];omega
theorem IU (hg:Gl X "zip") (hm:X.mg "zip" = none) (ha:eC X G E [a,b] ms) (hs:au [a,b] X.env=[(false,eval a X.env),(false,eval b X.env)]:=by rfl) (hs2:au [b] X.env=[(false,eval b X.env)]:=by rfl):
  jF X G E (.Tuple elts kk tp) (.Call (.Name "zip" p) [a,b] [] pos) (aV mR ms):=λhK=>
 PI.imp (UU hg hm (ha hK) hs hs2) λσ H R ⟨μ,ρ,h,rs,s,o⟩=>kA rs s o λμ1 ds h1 vs H1 x1 rs1 s1 r1 o1=>by
  unfold mR at o1
  split at o1
  ·rename_i xs ys;obtain⟨v,v',rfl,rv,rv'⟩:=AR r1;obtain⟨t,us,rfl,e,r⟩:=rv;obtain⟨u,ws,rfl,e',r'⟩:=rv';exact⟨t,u,us,ws,rfl,SqT.of e,SqT.of e',o1.val s1 (ItOk.zip e e' r r')⟩
  ·exact o1.elim
end
section
variable{prog:bo}{w:cw}{A:cx}{E:af->ag->Prop}{s:ag}{K:Frag}{e C N:ah}{o:Obj}
theorem UW {Q:Bool->ag->Prop}(X:K.In s.heap) (he:s.heap.get? e=some o) (hc:o.cls=.ref C) (hn:subIn K (.ref N) (.type "BaseException")=some true) (ht:subIn K (.type "type") (.type "tuple")=some false) (hk:kitCls K (.ref N) (.ref N)=some true) {b:Bool}(hs:subIn K (.ref C) (.ref N)=some b) (q:Q b s):
  wpAny (model prog w) A (excMatches (.ref e) (.ref N)) Q E s:=by
 have L1:=(kit_cls (M:=model prog w) X hk).1;have L2:=(kit_cls (M:=model prog w) X hk).2.1;have L3:=looks_subIn (M:=model prog w) X hn;have L4:=looks_subIn (M:=model prog w) X hs;have L5:=looks_subIn (M:=model prog w) X ht;obtain⟨hp,g,d,tk,os⟩:=s;unfold excMatches
 repeat (any_goals (first|assumption|(with_reducible refine wpAny_loadPart_at he ?_;rw[hc])|with_reducible refine L1.at ?_|with_reducible refine L2.at ?_|with_reducible refine L3.at ?_|with_reducible refine L4.at ?_|with_reducible refine L5.at ?_|wp_step))
 cases b
 all_goals (repeat (any_goals (first|assumption|wp_step)))
end
def jH (P:bo) (w:cw) (K:ao) (mg:Str->Option af) (base:cz) (N:List Str) (qual:Str) (scope:gy) (f:ah) (cd:af) (cl:List (Str×ah)) (A:cx) (outer:List Env) (s:ag) (H:Hp) (E:XK):Cx where
 prog:=P
 w:=w
 K:=K
 mg:=mg
 base:=base
 A:=A.deeper (ll qual scope s.heap.objs.size f cd cl)
 N:=N
 s₀:=s
 H₀:=H
 env:=ll qual scope s.heap.objs.size f cd cl
 outer:=outer
 stack:=ll qual scope s.heap.objs.size f cd cl::outer
 ex:=[]
 calm:=true
 fn:=λ_=>false
 pn:=[]
 xe:=λe s'=>wpAny (model P w) (A.deeper (ll qual scope s.heap.objs.size f cd cl)) (leaving (ll qual scope s.heap.objs.size f cd cl) e) (λ_ s''=>bR P w base outer H s E e s'') (λe' s''=>bR P w base outer H s E e' s'') s'
structure LamScope (N:List Str) (sc:gy):Prop where
 kind:sc.kind=.function
 co:sc.isCoroutine=false
 gen:sc.isGenerator=false
 nocell:∀x∈sc.names,x.2≠.cell
 fr:∀x∈N,sc.names.lookup x=some .free
 all:∀x∈sc.names,x.2=.free->x.1∈N
structure LamAt (G:Cfg) (base:cz) (H:Hp) (μ:Nat->ah) (n:Nat) (N:List Str) (params:kq) (body:bp) (scope:gy) (f c':ah) (cl:List (Str×ah)) (ds:List Dv):Prop where
 ob:∃pm ctv,H f=some (.frz (ju "<lambda>" G.lq params body scope cl pm c' ctv) (.own 0))
 cd:∃oc,H c'=some (.frz oc (.own 0))/\uX G.lq oc
 inj:∀x y c,cl.lookup x=some c->cl.lookup y=some c->x=y
 len:ds.length=N.length
 at_:∀(i:Nat) (x:Str),N[i]?=some x->∃c,cl.lookup x=some c
 cell:∀(x:Str) (c:ah),cl.lookup x=some c->∃o u,base.get? c=some o/\o.data=.cell u
 val:∀(i:Nat) (x:Str) (c:ah) (d:Dv),N[i]?=some x->ds[i]?=some d->cl.lookup x=some c->∃o u v,base.get? c=some o/\o.data=.cell (some u)/\RelV v u/\RelD G μ n H d v
section
variable{P:bo}{w:cw}{K:ao}{mg:Str->Option af}{base:cz}{N:List Str}{qual:Str}{scope:gy}{f:ah}{cdv:af}{cl:List (Str×ah)}{A:cx}{outer:List Env}{s0:ag}{H0:Hp}{E0:XK}{G:Cfg}{E:XK}{k:Nat}
theorem UX (hr:Room k (A.deeper (ll qual scope s0.heap.objs.size f cdv cl))) (hK:K=G.K) (hE:∀u H',E u none H'->E0 u none H') (hF:AZ E):
  Good (jH P w K mg base N qual scope f cdv cl A outer s0 H0 E0) G E k where
 calm:=rfl
 room:=hr
 K:=hK
 own:=zr
 pas:=by intro pins σ H s u s' I ⟨e,C,H',eu,os,bare,un,hok,fl,he⟩;subst eu;have I':=I.call' os un hok bare (λb z=>absurd z (by simp));refine aa (AY (P:=P) (w:=w) (H:=H') (base:=base) I'.ok.frames I'.stack rfl hok I'.stkFree fl λh'' H'' un2 hok2 fl2 sx=>?_);have I2:=I'.call (h':=h'') (g':=s'.gens) (d':=s'.drawn) (t':=s'.toks) un2 hok2 I'.bare (λb z=>absurd z (by simp));obtain⟨T,a0,h1,_⟩:=id fl;obtain⟨T2,a2,h3,_⟩:=id fl2;have xe1:dX C e T a0 s'.heap:=(show ObjOk P w H' s'.heap e _ from hok e _ h1).1;have:E (.ref e) none H'':=hF e H' H'' sx ⟨C,T,a0,T2,a2,h1,⟨_,xe1⟩,h3⟩ he;exact⟨e,C,H'',rfl,I2.os,I2.bare,I2.base,hok2,fl2,hE _ _ this⟩
 rais:=by intro pins σ H s h' e C args I mx he;refine aa (IC (P:=P) (w:=w) (H:=H) (base:=base) I.ok.frames I.stack rfl I.hok I.stkFree I.bk mx λh'' H'' un2 hok2 fl2 sm=>?_);have I2:=I.call (h':=h'') (g':=s.gens) (d':=s.drawn) (t':=s.toks) un2 hok2 I.bare (λb z=>absurd z (by simp));obtain⟨T2,a2,h3,_⟩:=id fl2;exact⟨e,C,H'',rfl,I2.os,I2.bare,I2.base,hok2,fl2,hE _ _ (he H'' sm ⟨T2,a2,h3⟩)⟩
end
def IV {α:Type}:Rs α->Sr
 | .ex c h=>.ex c h
 |_=>.bad
section
variable{P:bo}{w:cw}{K:ao}{mg:Str->Option af}{base:cz}{N:List Str}{params:kq}{body:bp}{scope:gy}{f c':ah}{cl:List (Str×ah)}{A:cx}{outer:List Env}{s:ag}{H:Hp}{E:XK}{G:Cfg}{k:Nat}{μ:Nat->ah}{h:Hs}{ds:List Dv}
theorem UY {h1:cz}{tk:Nat}{σ:St}{E₀:XK}(S:LamScope N scope) (hd:A.handled=none) (e0:Env0 P w K mg base A outer s H) (L:LamAt G base H μ h.length N params body scope f c' cl ds)
  (hall:∀x c,cl.lookup x=some c->x∈N)
  (hns:h1.Ns s.heap.objs.size λ_=>none) (hk1:∀b o,s.heap.get? b=some o->h1.get? b=some o)
  (hσ:σ.length=N.length) (hv:∀(i:Nat) (x:Str) (v:V),N[i]?=some x->σ[i]?=some (some v)->∃c o u,cl.lookup x=some c/\base.get? c=some o/\o.data=.cell (some u)/\RelV v u):
  Inv (jH P w K mg base N G.lq scope f (.ref c') cl A outer s H E₀) [] σ H { s with heap:=h1,toks:=tk }:=by
 have noA:∀b:ah,b∉(jH P w K mg base N G.lq scope f (.ref c') cl A outer s H E₀).ex:=λb z=>absurd (show b∈([]:List ah) from z) (by simp);have kfree:∀x,scope.names.lookup x=some .free->x∈N:=λx e=>S.all _ (fg e) rfl;refine⟨⟨e0.mod,S.kind,rfl,rfl,aj _,L.inj,λx hx=>?_,λx c z=>(nomatch z),λ_=>hd,zo e0.frames,.inr ⟨rfl,rfl⟩,λb z=>absurd z (noA b),e0.bs,e0.bsz,λb _ _=>noA b,λb z=>absurd z (noA b),e0.funs,e0.frf⟩,
  rfl,e0.bare,Un.kept hk1,⟨_,hns,λi x v h1' h2 h3=>?_⟩,λx c e=>?_,e0.hok.fresh (aj _),λx c e=>?_,λp hp=>absurd (show p∈([]:List (ah×Obj)) from hp) (by simp),e0.hok.kept hk1,hσ⟩
 ·have hx:scope.names.lookup x=some .cell∨scope.names.lookup x=some .free:=hx
  rcases hx with hx|hx
  ·exact absurd rfl (S.nocell _ (fg hx))
  ·obtain⟨i,hi⟩:=List.getElem?_of_mem (kfree x hx);exact L.at_ i x hi
 ·obtain⟨c,o,u,e1,e2,e3,r⟩:=hv i x v h1' h2;refine⟨u,r,.inr ⟨.inr (S.fr x (bz h1')),c,e1,o,hk1 _ _ (e0.bs _ _ e2).1,e3⟩⟩
 ·obtain⟨o,u,e2,e3⟩:=L.cell x c e;exact⟨u,o,hk1 _ _ (e0.bs _ _ e2).1,e3⟩
 ·obtain⟨o,u,e2,e3⟩:=L.cell x c e;exact(e0.bs _ _ e2).2
theorem UZ {me:M Dv}{Q:VK}(S:LamScope N scope) (hK:K=G.K) (hb:∀(cl:List (Str×ah)) (pm cdv ct:af),bindArgs (om "<lambda>" G.lq params body scope cl pm cdv ct) ⟨[],[]⟩=pure [])
  (hbody:∀(f:ah) (cdv:af) (cl:List (Str×ah)) (A:cx) (outer:List Env) (s:ag) (H:Hp) (E₀ E:XK),Good (jH P w K mg base N G.lq scope f cdv cl A outer s H E₀) G E k->aL (jH P w K mg base N G.lq scope f cdv cl A outer s H E₀) G E body me)
  (hr:Room (k+1) A) (e0:Env0 P w K mg base A outer s H) (L:LamAt G base H μ h.length N params body scope f c' cl ds) (hall:∀x c,cl.lookup x=some c->x∈N) (sm:Sim G μ h H) (o:Out G E μ h.length H (me (ds.map some) h) (RelD G) Q):
  codeAny (model P w) A (.call (.ref f) ⟨[],[]⟩) (CR (bR P w base) outer P w H s Q E) s:=by
 obtain⟨pm,ctv,ho⟩:=L.ob;obtain⟨oc,hc,vs,t,hcd,hq⟩:=L.cd;have lim:s.heap.NoLimit:=e0.mod.nolimit.keeps λb o e=>(e0.bs b o e).1;have gc:s.heap.get? c'=some oc:=(e0.hok c' _ hc).1;refine PySem.W.kla_callFunE hr.depth (e0.hok f _ ho).1 rfl S.co S.gen rfl ⟨c',oc,vs,t,rfl,gc,hcd,hq⟩ ?_;rw[hb];refine ai (wpAny_newFunctionEnv S.nocell (λx hx=>absurd hx (by simp)) (λh₁ hns hsb=>⟨lim.fresh _ hsb, ?_⟩) S.kind);show codeAny _ _ (.expr body (ll G.lq scope s.heap.objs.size f (.ref c') cl)) _ _;have hk₁:∀b o,s.heap.get? b=some o->h₁.get? b=some o:=λb o e=>hsb.extBut b o (bf (aq e)) (ak _ e);have hvs:∀(i:Nat),i<N.length->∃v:V,∀d,ds[i]?=some d->RelD G μ h.length H d v/\∀x,N[i]?=some x->∃c o u,cl.lookup x=some c/\base.get? c=some o/\o.data=.cell (some u)/\RelV v u:=λi hi=>by
  obtain⟨x,hx⟩:∃x,N[i]?=some x:=⟨_,aw hi⟩
  obtain⟨d,hd⟩:∃d,ds[i]?=some d:=⟨_,aw (by rw[L.len];exact hi)⟩
  obtain⟨c,ec⟩:=L.at_ i x hx;obtain⟨oo,u,v,e1,e2,r1,r2⟩:=L.val i x c d hx hd ec;refine⟨v,λd' hd'=>?_⟩;rw[hd]at hd';cases hd';refine⟨r2,λx' hx'=>?_⟩;rw[hx]at hx';cases hx';exact⟨c,oo,u,ec,e1,e2,r1⟩
 have hch:∃vs:List V,vs.length=N.length/\∀(i:Nat) (v:V),vs[i]?=some v->∀d,ds[i]?=some d->RelD G μ h.length H d v/\∀x,N[i]?=some x->∃c o u,cl.lookup x=some c/\base.get? c=some o/\o.data=.cell (some u)/\RelV v u:=by
  have:∀m,m<=N.length->∃vs:List V,vs.length=m/\∀(i:Nat) (v:V),vs[i]?=some v->∀d,ds[i]?=some d->RelD G μ h.length H d v/\∀x,N[i]?=some x->∃c o u,cl.lookup x=some c/\base.get? c=some o/\o.data=.cell (some u)/\RelV v u:=by
   intro m
   induction m with
   |zero=>exact λ_=>⟨[],rfl,λi v e=>by simp at e⟩
   |succ m ih=>
    intro hm;obtain⟨vs,hl,hv⟩:=ih (by omega);obtain⟨v,hv'⟩:=hvs m (by omega);refine⟨vs++[v],by simp[hl],λi v' e d hd=>?_⟩
    by_cases hi:i<vs.length
    ·rw[dz hi]at e;exact hv i v' e d hd
    ·rw[gb (by omega)]at e;have:i=m:=by have:=(az.mp e).1;simp at this;omega
     subst this;simp[hl]at e;subst e;exact hv' d hd
  exact this _ (aj _)
 obtain⟨vs',hl,hv⟩:=hch;have I:Inv (jH P w K mg base N G.lq scope f (.ref c') cl A outer s H E) [] (vs'.map some) H { s with heap:=h₁,toks:=s.toks+([]:List (Str×af)).length }:=by
  refine UY S hr.hd e0 L hall hns hk₁ (by simp[hl]) λi x v h1 h2=>?_;have h3:vs'[i]?=some v:=by
   rw[dk]at h2
   cases q:vs'[i]? with
   |none=>rw[q]at h2;cases h2
   |some a=>rw[q]at h2;cases h2;rfl
  obtain⟨d,hd⟩:∃d,ds[i]?=some d:=⟨_,aw (by rw[L.len];exact(az.mp h1).1)⟩
  exact(hv i v h3 d hd).2 x h1
 have rs:RelS G μ h.length H (ds.map some) (vs'.map some):=⟨by simp[hl,L.len],λi d e=>by
  have h3:ds[i]?=some d:=by
   rw[dk]at e
   cases q:ds[i]? with
   |none=>rw[q]at e;cases e
   |some a=>rw[q]at e;cases e;rfl
  have hi:i<vs'.length:=by rw[hl,<-L.len];exact(az.mp h3).1
  exact⟨vs'[i],by rw[dk,aw hi];rfl,(hv i _ (aw hi) d h3).1⟩⟩
 have gd:Good (jH P w K mg base N G.lq scope f (.ref c') cl A outer s H E) G (EB G μ h.length H (IV (me (ds.map some) h))) k:=UX (hr.deeper _) hK (λu H' ⟨c,h',μ',er,x,s',fl⟩=>by
  cases q:me (ds.map some) h with
  |ok d hh=>rw[q]at er;cases er
  |bad=>rw[q]at er;cases er
  |ex c1 h1=>rw[q]at er o;cases er;exact o μ' H' u x s' fl) A1
 refine PySem.W.kla_codeExpr (kg (hbody f (.ref c') cl A outer s H E _ gd hK [] _ (vs'.map some) H Q I ⟨μ,ds.map some,h,rs,sm, ?_⟩) (λu s' ⟨v,H',J,rv,q⟩=>⟨v,H',J.os,J.bare,J.base,J.hok,rv,q⟩) λe s' hs=>hs)
 cases q:me (ds.map some) h with
 |ok d hh=>rw[q]at o;exact o
 |bad=>rw[q]at o;exact o
 |ex c1 h1=>exact λμ' H' u x' s' fl=>⟨c1,h1,μ',rfl,x',s',fl⟩
end
section
variable{X:Cx}{pins:List (ah×Obj)}{σ:St}{H:Hp}{s:ag}
theorem VA {i:Nat}{x:Str}{h':cz}{tk:Nat}{m:Str->Option af}{v:Option af}(I:Inv X pins σ H s) (hN:X.N.Nodup) (hi:X.N[i]?=some x) (hn:s.heap.Ns X.env.locals m)
  (hl:∀(i:Nat) (x:Str) (v:V),X.N[i]?=some x->σ[i]?=some (some v)->oX X.env.scope x->∃u,RelV v u/\FC X.env s.heap m x u)
  (hs:gz X.env.locals s.heap h') (hn':h'.Ns X.env.locals (λy=>if y=x then v else m y)):Inv X pins (σ.set i none) H { s with heap:=h',toks:=tk }:=by
 have cne:=I.cne;have hok:HOk X.prog X.w H h':=λb ob e=>by
  refine(I.hok b ob e).stay (λc w' hc q=>(hs.2 c ?_).trans q) (λ_ q=>q) λ_ _ q=>q
  rintro rfl
  have hfree:=I.free
  rcases hc with hc|hc
  ·rw[<-hc]at e;rw[hfree]at e;cases e
  ·rw[hfree]at hc;cases hc
 refine⟨I.ok,I.os,I.bare,⟨λb o e n hb hx=>?_,λb o e n hb hx=>?_,I.base.free,λb o e hx=>?_,I.base.tups,I.base.frzs,I.base.tbls⟩,⟨_,hn',λj y v' e1 e2 e3=>?_⟩,λy c e=>?_,I.free,I.freeC,λp hp=>?_,hok,by simpa using I.len⟩
 ·exact(hs.2 b (bf (av (aq e) I.ok.above))).trans (I.base.keep b o e n hb hx)
 ·obtain⟨sl,e1⟩:=I.base.slot b o e n hb hx;exact⟨sl,(hs.2 b (bf (av (aq e) I.ok.above))).trans e1⟩
 ·obtain⟨o',e1⟩:=I.base.there b o e hx;exact⟨o',(hs.2 b (bf (av (aq e) I.ok.above))).trans e1⟩
 ·by_cases hj:j=i
  ·subst hj;have hiσ:j<σ.length:=by rw[I.len];exact(az.mp hi).1
   rw[de hiσ]at e2;cases e2
  ·rw[di (da hj)]at e2;obtain⟨u',r',q⟩:=hl j y v' e1 e2 e3;refine⟨u',r', ?_⟩
   rcases q with⟨k,e⟩|⟨k,c,e,z⟩
   ·refine .inl ⟨k, ?_⟩;have:y≠x:=λe=>hj (zG hN e1 (e▸hi));show(if y=x then v else m y)=some u';rw[if_neg this];exact e
   ·exact .inr ⟨k,c,e,z.sameBut hs (cne y c e)⟩
 ·obtain⟨w',z⟩:=I.cell y c e;exact⟨w',z.sameBut hs (cne y c e)⟩
 ·obtain⟨e,n,ne,nf,d⟩:=I.pin p hp;exact⟨(hs.2 p.1 ne).trans e,n,ne,nf,d⟩
def pL (X:Cx) (e:af):Cx:={ X with A:=X.A.mark (some e),calm:=false,xe:=λ_ _=>False }
theorem IW (e:af) (I:Inv X pins σ H s):Inv (pL X e) pins σ H s:=
 have ok:=I.ok
 ⟨⟨ok.mod,ok.kind,ok.glob,ok.blt,ok.above,ok.inj,ok.has,ok.cab,λz=>(nomatch z),ok.frames,ok.stk,ok.exf,ok.bs,ok.bsz,ok.noex,ok.exfs,ok.funs,ok.frf⟩,I.os,I.bare,I.base,I.loc,I.cell,I.free,I.freeC,I.pin,I.hok,I.len⟩
theorem VB {e:af}(ok:X.Ok) (I:Inv (pL X e) pins σ H s):Inv X pins σ H s:=⟨ok,I.os,I.bare,I.base,I.loc,I.cell,I.free,I.freeC,I.pin,I.hok,I.len⟩
end
section
variable{X:Cx}{G:Cfg}{E:XK}{k:Nat}{N:List Str}{params:kq}{body:bp}{scope:gy}{me:M Dv}{ncl:Nat}{NE:ah}
theorem VC {x xn en nm:Str}{p cpos epos np xp ep apos hpos tpos:Pos}{pins:List (ah×Obj)}{σ:St}{H:Hp}{s:ag}{D:Ends}{f c':ah}{cl:List (Str×ah)}{μ:Nat->ah}{h:Hs}{ds:List Dv}
  (hK:X.K=G.K) (hst:X.stack=X.env::X.outer) (hfr:X.env.frame=some X.env.locals) (hnd:X.N.Nodup) (h0:X.N[0]?=some x) (h1:X.N[1]?=some xn) (h2:X.N[2]?=some en) (hfn:∀y,X.fn y=true)
  (l0:X.env.scope.names.lookup x=some .local) (l1:X.env.scope.names.lookup xn=some .local) (l2:X.env.scope.names.lookup en=some .local)
  (d0:(x==("__debug__" : Str))=false) (c0:(x==("__classdict__" : Str))=false) (d2:(en==("__debug__" : Str))=false) (c2:(en==("__classdict__" : Str))=false) (dn:(nm==("__debug__" : Str))=false)
  (hsw:swapsWith (.Call (.Name x p) [] [] cpos) none epos.line X.env=pure false) (hsw2:swapsWith (.Name en ep) (some (.Name xn xp)) apos.line X.env=pure false)
  (hg:Gl X nm) (hm:X.mg nm=some (.ref NE)) (hx1:jl X.K (.ref NE) (.type "BaseException")=some true) (hx2:jl X.K (.type "type") (.type "tuple")=some false) (hx3:vm X.K (.ref NE) (.ref NE)=some true)
  (hsub:∀c,c<ncl->jl X.K (.ref (G.cl c)) (.ref NE)=some true)
  (S:LamScope N scope) (hb:∀(cl:List (Str×ah)) (pm cdv ct:af),bindArgs (om "<lambda>" G.lq params body scope cl pm cdv ct) ⟨[],[]⟩=pure [])
  (hbody:∀(f:ah) (cdv:af) (cl:List (Str×ah)) (A:cx) (outer:List Env) (s:ag) (H:Hp) (E₀ E:XK),Good (jH X.prog X.w X.K X.mg X.base N G.lq scope f cdv cl A outer s H E₀) G E k->aL (jH X.prog X.w X.K X.mg X.base N G.lq scope f cdv cl A outer s H E₀) G E body me)
  (hr:Room (k+1) X.A) (I:Inv X pins σ H s) (hσ:σ[0]?=some (some (.ref f))) (L:LamAt G X.base H μ h.length N params body scope f c' cl ds) (hall:∀x c,cl.lookup x=some c->x∈N) (sm:Sim G μ h H)
  (hD:match me (ds.map some) h with
   | .ok _ h1=>∀μ' H',Ext μ h.length H μ' h1.length H'->Sim G μ' h1 H'->D.nx σ H'
   | .ex c h1=>c<ncl/\∀μ' H' a,Ext μ h.length H μ' h1.length H'->Sim G μ' h1 H'->RelD G μ' h1.length H' (.exc c) (.ref a)->D.nx (((σ.set 2 (some (.ref a))).set 1 (some (.ref a))).set 2 none) H'
   | .bad=>False):
  wpAny (model X.prog X.w) X.A (exec (.Try [.Expr (.Call (.Name x p) [] [] cpos) epos] [.ExceptHandler (some (.Name nm np)) (some en) [.Assign [.Name xn xp] (.Name en ep) apos] hpos] [] [] tpos) X.env) (SP X pins D) X.xe s:=by
 have hcls:(X.env.scope.kind==.class||(X.env.scope.kind==.module&&X.env.locals != X.env.globals))=false:=by rw[I.ok.kind];rfl
 refine wpAny_Try_except ?_;obtain⟨pm,ctv,ho⟩:=L.ob;refine oj (wpAny_Expr_any (mq (bD (kg (qL (X:=X.nox) (pos:=p) h0 (.inl l0) d0 c0 pins s σ H (λv H'=>v=.ref f/\H'=H) (I.wish _) ⟨_,hσ,rfl,rfl⟩) (λ_ _ q=>q) λ_ _ z=>gk z) λu s1 ⟨v,H',I',r,e1,e2⟩=>?_)) I.quiet hsw);subst e1;subst e2;cases r;have I1:Inv X pins σ H' s1:=I'.unwish;refine PySem.W.callWith_F0 ⟨_,_,_,_,(I1.hok f _ ho).1⟩ ?_;refine zx (nj (UZ (E:=EB G μ h.length H' (IV (me (ds.map some) h))) (Q:=λ_ H2=>∃d hh μ',me (ds.map some) h=.ok d hh/\Ext μ h.length H' μ' hh.length H2/\Sim G μ' hh H2) S hK hb hbody hr I1.env0 L hall sm ?_) λr s' hq=>?_)
 ·cases q:me (ds.map some) h with
  |ok d hh=>exact λμ' H' v x' s' _=>⟨d,hh,μ',rfl,x',s'⟩
  |bad=>rw[q]at hD;exact hD.elim
  |ex c1 h1=>exact λμ' H' u x' s' fl=>⟨c1,h1,μ',rfl,x',s',fl⟩
 cases r with
 |ok fl=>
  cases fl with
  |ret u=>obtain⟨v,H2,I2,r2,d,hh,μ',e1,x1,s1⟩:=I1.after hq;refine ly (ly ?_);rw[e1]at hD;exact⟨σ,H2,I2,hD μ' H2 x1 s1⟩
  |next=>exact gk hq
  |brk=>exact gk hq
  |cont=>exact gk hq
 |error ev=>
  obtain⟨e,C,H2,rfl,os,bare,un,hok,fl,c,hh,μ',er,x1,sm1,e',φ,eu,g1,g2⟩:=hq;cases eu
  cases qm:me (ds.map some) h with
  |ok d h3=>rw[qm]at er;cases er
  |bad=>rw[qm]at er;cases er
  |ex c3 h3=>
  rw[qm]at er hD;cases er;obtain⟨hc,hD⟩:=hD;have I2:Inv X pins σ H2 s':=I1.call' os un hok bare (λb z=>absurd z (by simp));refine AY (P:=X.prog) (w:=X.w) (H:=H2) (base:=X.base) (env:=X.env) (outer:=X.outer) (by rw[<-hst];exact I2.ok.frames) (by rw[<-hst];exact I2.stack) hfr hok (by rw[<-hst];exact I2.stkFree) fl λh4 H4 un4 hok4 fl4 sx4=>?_;have I4:Inv X pins σ H4 { s' with heap:=h4 }:=I2.call (h':=h4) (g':=s'.gens) (d':=s'.drawn) (t':=s'.toks) (by rw[hst];exact un4) hok4 I2.bare (λb z=>absurd z (by simp));obtain⟨sm4,x4⟩:=sm1.sameX sx4 ⟨_,g1⟩;obtain⟨T,a0,w1,w2,w3,w4⟩:=id fl4;obtain⟨T0,b0,v1,_,_,_⟩:=id fl;have hC:C=.ref (G.cl c):=by have xo:dX C e T0 b0 s'.heap:=(show ObjOk X.prog X.w H2 s'.heap e _ from hok e _ v1).1;rw[v1]at g1;cases g1;obtain⟨oo,q1,q2⟩:=g2 _ xo;obtain⟨o2,vs2,q3,q4,_⟩:=xo;rw[q3]at q1;cases q1;rw[<-q4,q2]
  subst hC;have xo4:dX (.ref (G.cl c)) e T a0 h4:=(show ObjOk X.prog X.w H4 h4 e _ from hok4 e _ w1).1;obtain⟨oe,vs,y1,y2,y3,y4,y5,y6⟩:=id xo4;refine wpAny_handleBy_cons (codeAny_handlers_test (kg (qM (X:=pL X (.ref e)) (E:=λ_ _=>False) (Q:=λu s5=>u=.ref NE/\Inv X pins σ H4 s5/\s5.heap=h4) (IW _ I4) hg hm ⟨rfl,I4,rfl⟩ dn) (λcv s5 hs5=>?_) λ_ _ z=>gk z)) (by intro z;cases z);obtain⟨rfl,I5,e5⟩:=hs5;refine UW (K:=X.K) I5.kIn (by rw[e5];exact y1) y2 hx1 hx2 hx3 (hsub c hc) ?_;obtain⟨oT,ts,z1,z2,z3⟩:eJ T h4:=(show ObjOk X.prog X.w H4 h4 T _ from hok4 T _ w2).1;have l3:3<ts.size:=(dh.mp z3).1;refine codeAny_handlers_suite_as (HY (e:=e) (T:=T) (by rw[e5];exact y1) y3 y5 (by rw[e5];exact z1) z2 l3 λh6 sb6 tb6=>?_);rw[e5]at sb6;have ge6:h6.get? e=some oe:=sb6.extBut _ _ (da w4) y1;have I6:Inv X pins σ (aW H4 T (.ext (eJ T))) { s5 with heap:=h6 }:=I5.write (x:=T) (e:=T) (o:=.ext (eJ T)) (h':=h6) (t':=s5.toks) (by rw[w2];trivial) (.inl rfl) (λb u hb q=>by rw[e5]at q;exact sb6.extBut _ _ hb q) (let ⟨oo,_,q,_⟩:=tb6;⟨oo,q⟩) (vJ tb6);have se:Same H4 (aW H4 T (.ext (eJ T))):=λb o q=>by
   by_cases hb:b=T
   ·subst hb;rw[w2]at q;cases q;exact cU
   ·rw[bT hb];exact q
  have w1':(aW H4 T (.ext (eJ T))) e=some (.ext (dX (.ref (G.cl c)) e T a0)):=se _ _ w1;have I7:Inv X pins σ (aW (aW H4 T (.ext (eJ T))) e (.frz oe (.own 0))) { s5 with heap:=h6 }:=I6.write (x:=e) (e:=e) (o:=.frz oe (.own 0)) (h':=h6) (t':=s5.toks) (by rw[w1'];trivial) (.inl rfl) (λb u hb q=>q) ⟨_,ge6⟩ ⟨ge6,oe,ge6⟩;have sx7:rO e (aW H4 T (.ext (eJ T))) (aW (aW H4 T (.ext (eJ T))) e (.frz oe (.own 0))):=λb o hb q=>by rw[bT hb];exact q
  obtain⟨sm7,x7⟩:=(sm4.same se).sameX sx7 ⟨_,w1'⟩;have xx:Ext μ h.length H' μ' hh.length (aW (aW H4 T (.ext (eJ T))) e (.frz oe (.own 0))):=x1.trans ((x4 _).trans ((Ext.same se).trans (x7 _)));generalize hH7:aW (aW H4 T (.ext (eJ T))) e (.frz oe (.own 0))=H7 at *;have rl:RelD G μ' hh.length H7 (.exc c) (.ref e):=by rw[RelD,<-hH7];exact⟨e,oe,.own 0,rfl,cU,y2,y6,vs,y3⟩
  refine zH (v:=.ref e) I7 hnd h2 (.inl l2) rfl (λs8 I8=>?_) (.inr l2);have I8':Inv (pL X (.ref e)) pins (σ.set 2 (some (.ref e))) H7 s8:=IW _ I8;have hlen:2<σ.length:=by rw[I.len];exact(az.mp h2).1
  refine kg (FK (zK (X:=pL X (.ref e)) (i:=1) (pos:=apos) (pos':=xp) hnd h1 (.inl l1) (qL (X:=pL X (.ref e)) (pos:=ep) h2 (.inl l2) d2 c2) hsw2 (.inr l1)) pins s8 (σ.set 2 (some (.ref e))) H7 { nx:=λσ' H'=>σ'=(σ.set 2 (some (.ref e))).set 1 (some (.ref e))/\H'=H7,rt:=λ_ _=>False } I8' ⟨.ref e,de hlen,rfl,rfl⟩) (λfl9 s9 hs9=>?_) λ_ _ z=>gk z
  cases fl9 with
  |ret u=>obtain⟨_,_,_,_,_,z⟩:=hs9;exact z.elim
  |brk=>obtain⟨_,_,_,z⟩:=hs9;exact z.elim
  |cont=>obtain⟨_,_,_,z⟩:=hs9;exact z.elim
  |next=>obtain⟨σ9,H9,I9,e9,f9⟩:=hs9;subst e9;subst f9;have I9':Inv X pins _ H9 s9:=VB I8.ok I9;obtain⟨m,hn,hl⟩:=id I9'.loc;refine wpAny_nameGoes_keeps l2 hn hcls λh10 v10 hn10 hs10=>?_;exact⟨_,H9,VA I9' hnd h2 hn hl hs10 hn10,hD μ' H9 e xx sm7 rl⟩
end
def rW:Sr->Rs Dv
 | .rt d h=>.ok d h
 | .nx _ h=>.ok .non h
 |_=>.bad
def mS (n:Nat) (d:Dv):Ev:=none::some d::ba (n - 2) none
def rX (n ncl:Nat) (mb:MS):Rs Dv->Rs Dv
 | .ok _ h1=>rW (mb (mS n .non) h1)
 | .ex c h1=>if c<ncl then rW (mb (mS n (.exc c)) h1)else .bad
 | .bad=>.bad
def vP (G:Cfg) (base:cz) (Nl:List Str) (params:kq) (body:bp) (scope:gy) (me:M Dv) (n ncl:Nat) (mb:MS):Sp:=λvs H Q E=>∃f c' cl ds μ h,vs=[.ref f]/\LamAt G base H μ h.length Nl params body scope f c' cl ds/\(∀x c,cl.lookup x=some c->x∈Nl)/\Sim G μ h H/\Out G E μ h.length H (rX n ncl mb (me (ds.map some) h)) (RelD G) Q
theorem IX {G:Cfg}{E:XK}{μ μ1:Nat->ah}{n n1:Nat}{H H1:Hp}{r:Sr}{Q:VK}(o:Out G E μ n H (rW r) (RelD G) Q) (x:Ext μ n H μ1 n1 H1):SOut G (λ_ _ _=>False) μ1 n1 H1 r { nx:=λ_ H'=>Q .non H',rt:=Q }:=by
 cases r with
 |nx ρ h'=>exact λμ' H' σ' y s _=>o μ' H' .non (x.trans y) s rfl
 |rt d h'=>exact λμ' H' v y s r=>o μ' H' v (x.trans y) s r
 |bk ρ h'=>exact o.elim
 |ct ρ h'=>exact o.elim
 |ex c h'=>exact o.elim
 |bad=>exact o
theorem IY {G:Cfg}{μ:Nat->ah}{n:Nat}{H:Hp}{m:Nat}{d:Dv}{v:V}{σ:St}(hl:σ.length=m) (hm:2<=m) (h1:σ[1]?=some (some v)) (r:RelD G μ n H d v):RelS G μ n H (mS m d) σ:=by
 refine⟨by simp[mS,hl];omega,λi d' e=>?_⟩;unfold mS at e
 match i,e with
 |0,e=>simp at e
 |1,e=>simp at e;subst e;exact⟨v,h1,r⟩
 |i+2,e=>
  simp only[jr,qu]at e
  split at e <;> cases e
section
variable{P:bo}{w:cw}{K:ao}{mg:Str->Option af}{base:cz}{f:ah}{G:Cfg}{k:Nat}{Nm Nl:List Str}{params:kq}{body:bp}{scope:gy}{me:M Dv}{ncl:Nat}{NE:ah}{mb:MS}
theorem VD {x xn en nm q qual:Str}{st:gp}{fd:br}{p cpos epos np xp ep apos hpos tpos zpos zp npos:Pos}{j:Nat}{rest:List gp}(Fn:Fun K q qual st f fd) (S:FnScope Nm [x] (bC st)) (hK:K=G.K)
  (hdef:jZ st=.Assign [.Name xn zp] (.Constant .none j npos) zpos::.Try [.Expr (.Call (.Name x p) [] [] cpos) epos] [.ExceptHandler (some (.Name nm np)) (some en) [.Assign [.Name xn xp] (.Name en ep) apos] hpos] [] [] tpos::rest)
  (h0:Nm[0]?=some x) (h1:Nm[1]?=some xn) (h2:Nm[2]?=some en)
  (l0:(bC st).names.lookup x=some .local) (l1:(bC st).names.lookup xn=some .local) (l2:(bC st).names.lookup en=some .local)
  (d0:(x==("__debug__" : Str))=false) (c0:(x==("__classdict__" : Str))=false) (d2:(en==("__debug__" : Str))=false) (c2:(en==("__classdict__" : Str))=false) (dn:(nm==("__debug__" : Str))=false)
  (hsw:∀L cd,swapsWith (.Call (.Name x p) [] [] cpos) none epos.line (envOfC qual (bC st) L f cd)=pure false) (hsw2:∀L cd,swapsWith (.Name en ep) (some (.Name xn xp)) apos.line (envOfC qual (bC st) L f cd)=pure false)
  (hsw3:∀L cd,swapsWith (.Constant .none j npos) (some (.Name xn zp)) zpos.line (envOfC qual (bC st) L f cd)=pure false)
  (hg:(bC st).names.lookup nm=some .globalImplicit) (hm:mg nm=some (.ref NE)) (hx1:jl K (.ref NE) (.type "BaseException")=some true) (hx2:jl K (.type "type") (.type "tuple")=some false) (hx3:vm K (.ref NE) (.ref NE)=some true)
  (hsub:∀c,c<ncl->jl K (.ref (G.cl c)) (.ref NE)=some true)
  (LS:LamScope Nl scope) (hb:∀(cl:List (Str×ah)) (pm cdv ct:af),bindArgs (om "<lambda>" G.lq params body scope cl pm cdv ct) ⟨[],[]⟩=pure [])
  (hbody:∀(f:ah) (cdv:af) (cl:List (Str×ah)) (A:cx) (outer:List Env) (s:ag) (H:Hp) (E₀ E:XK),Good (jH P w K mg base Nl G.lq scope f cdv cl A outer s H E₀) G E k->aL (jH P w K mg base Nl G.lq scope f cdv cl A outer s H E₀) G E body me)
  (hrest:∀(cdv:af) (A:cx) (outer:List Env) (s:ag) (H:Hp) (E₀ E:XK),Good (fS (bR P w base) P w K mg base Nm qual (bC st) f cdv A outer s H E₀) G E (k+1)->jC (fS (bR P w base) P w K mg base Nm qual (bC st) f cdv A outer s H E₀) G E rest mb):
  FnOk P w K mg base (bR P w base) (k+2) f fd [x] (vP G base Nl params body scope me Nm.length ncl mb):=by
 obtain⟨oc,od,kV,doc,pm,an,cdv,ct,osl,rfl,lk,hcd⟩:=Fn.ex;have hNl:2<Nm.length:=(az.mp h2).1;refine zS lk hcd S (λvs H Q E ⟨f,c',cl,ds,μ,h,e,_⟩=>by rw[e];rfl) λA outer s H vs Q E hr hsp=>?_;obtain⟨fl,c',cl,ds,μ,h,rfl,L,hall,sm,o⟩:=hsp;refine⟨λD σ H1=>σ=start Nm [.ref fl]/\H1=H/\D={ nx:=λ_ H'=>Q .non H',rt:=Q }, ?_,rfl,rfl,rfl⟩;intro pins s1 σ H1 D I ⟨eσ,eH,eD⟩;subst eH;have hσl:σ.length=Nm.length:=I.len;have hσ0:σ[0]?=some (some (.ref fl)):=by rw[eσ];rfl
 rw[hdef];have gd:Good (fS (bR P w base) P w K mg base Nm qual (bC st) f cdv A outer s H1 E) G (λ_ _ _=>False) (k+1):=A0 hr hK (λ_ _ z=>z.elim) (λ_ _ _ _ _ z=>z);have hset:(σ.set 1 (some .non))[0]?=some (some (.ref fl)):=by rw[di (by decide)];exact hσ0
 refine oj (bD (zK (X:=fS (bR P w base) P w K mg base Nm qual (bC st) f cdv A outer s H1 E) (i:=1) (pos:=zpos) (pos':=zp) S.nd h1 (.inl l1) (FF (j:=j) (pos:=npos)) (hsw3 _ _) (.inl rfl) pins s1 σ H1 { nx:=λσ' H'=>σ'=σ.set 1 (some .non)/\H'=H1,rt:=λ_ _=>False } I ⟨rfl,rfl⟩) λfl2 s2 q2=>?_)
 cases fl2 with
 |ret u=>obtain⟨_,_,_,_,_,z⟩:=q2;exact z.elim
 |brk=>obtain⟨_,_,_,z⟩:=q2;exact z.elim
 |cont=>obtain⟨_,_,_,z⟩:=q2;exact z.elim
 |next=>
  obtain⟨σ2,H2,I2,e2,f2⟩:=q2;subst e2;subst f2;refine oj (bD (VC (X:=fS (bR P w base) P w K mg base Nm qual (bC st) f cdv A outer s H2 E) (G:=G) (N:=Nl) (me:=me) (ncl:=ncl) (NE:=NE) (k:=k) (D:={ nx:=vD G (λ_ _ _=>False) mb D,rt:=λ_ _=>False })
   hK rfl rfl S.nd h0 h1 h2 (λ_=>rfl) l0 l1 l2 d0 c0 d2 c2 dn (hsw _ _) (hsw2 _ _) hg hm hx1 hx2 hx3 hsub LS hb hbody hr I2 hset L hall sm ?_) λfl3 s3 q3=>?_)
  ·cases qm:me (ds.map some) h with
   |bad=>rw[qm]at o;exact o
   |ok d hh=>rw[qm]at o;intro μ' H' x' s';refine⟨μ',mS Nm.length .non,hh,IY (v:=.non) (by rw[kd];exact hσl) (by omega) (de (by omega)) rfl,s', ?_⟩;rw[eD];exact IX o x'
   |ex c hh=>
    rw[qm]at o;unfold rX at o;dsimp only at o
    split at o
    ·rename_i hc;refine⟨hc,λμ' H' a x' s' r'=>?_⟩;refine⟨μ',mS Nm.length (.exc c),hh,IY (v:=.ref a) (by simp only[kd];exact hσl) (by omega) ?_ r',s', ?_⟩
     ·rw[di (by decide),de (by simp only[kd];omega)]
     ·rw[eD];exact IX o x'
    ·exact o.elim
  ·cases fl3 with
   |ret u=>obtain⟨_,_,_,_,_,z⟩:=q3;exact z.elim
   |brk=>obtain⟨_,_,_,z⟩:=q3;exact z.elim
   |cont=>obtain⟨_,_,_,z⟩:=q3;exact z.elim
   |next=>obtain⟨σ3,H3,I3,q3⟩:=q3;exact hrest cdv A outer s H2 E _ gd hK pins s3 σ3 H3 D I3 q3
end
theorem VE:∀(l:List af) (a b:Int) (t u:Tok) (c:af),ur l->ur (l++[.int a t,.int b u,c]):=by
 intro l a b t u c h
 fun_induction ur l with
 |case1=>trivial
 |case2 x t y u z rest ih=>exact ih h
 |case3 l h1 h2=>exact h.elim
theorem VF {pos:Pos}{cv c:af}{a b:Int}{t u:Tok}:∀(l:List af),ur l->codeAmong pos (l++[.int a t,.int b u,c])=some cv->codeAmong pos l=some cv∨cv=c:=by
 intro l h
 fun_induction ur l with
 |case1=>
  intro e;simp only[List.nil_append,codeAmong]at e
  split at e
  ·cases e;exact .inr rfl
  ·cases e
 |case2 x t y u z rest ih=>
  intro e;simp only[List.cons_append,codeAmong]at e ⊢
  split at e
  ·rename_i hc;rw[if_pos hc];exact .inl e
  ·rename_i hc;rw[if_neg hc];exact ih h e
 |case3 l h1 h2=>exact h.elim
def lS (mg:Str->Option af) (base:cz):Prop:=∃bm ob,mg "__builtins__" = some (.ref bm)/\bm≠builtinsNs/\base.get? bm=some ob/\ob.cls=.type "module"/\ob.dict=some builtinsNs/\ob.data=.plain
def IZ (H H':Hp):Prop:=∀a o,(∀ps,o≠.tbl ps)->H a=some o->H' a=some o
section
variable{X:Cx}{G:Cfg}{params:kq}{body:bp}{scope:gy}{lpos:Pos}{c P:ah}
theorem VG (hdef:defaultsOf params X.env=([],[])) (hq:X.env.qual ++ "<lambda>" = G.lq) (hP:G.tab=some P) (hcode:X.env.code=.ref c) (hC:kj X.base c P) (hB:lS X.mg X.base)
  (hfree:∀x,(x,cf)∈scope.names->X.env.kindOf x=some .cell∨X.env.kindOf x=some .free):
  PE X (.Lambda params body scope lpos) (λσ H Q=>TabOk G H/\∀f c' pm ctv oc H1,IZ H H1->TabOk G H1->H1 f=some (.frz (ju "<lambda>" G.lq params body scope (dD X.env scope.names []) pm c' ctv) (.own 0))->H1 c'=some (.frz oc (.own 0))->uX G.lq oc->Q (.ref f) H1):=by
 intro pins s σ H Q I ⟨hT,h⟩;obtain⟨ps,t1,t2,t3⟩:=hT P hP;have gP:s.heap.get? P=some (sh ps):=I.hok P _ t1;have hcl:closureFor scope X.env=pure (dD X.env scope.names []):=AA λx hx=>I.ok.has x (hfree x hx);have hgs:s.heap.Ns du X.mg:=I.mod.glob.keeps I.bk;obtain⟨bm,ob,b1,b2,b3,b4,b5,b6⟩:=hB;have b3':=I.bk _ _ b3;have hgP:du≠P:=λq=>by obtain⟨o,es,ep,e,hd,_⟩:=hgs;rw[q,gP]at e;cases e;cases hd
 have hbP:bm≠P:=λq=>by rw[q,gP]at b3';cases b3';cases b4
 have hbG:bm≠du:=λq=>by obtain⟨o,es,ep,e,hd,_⟩:=hgs;rw[<-q,b3']at e;cases e;rw[hd]at b6;cases b6
 have hba:s.heap.BuiltinsAt X.mg P:=⟨bm,ob,b1,b2,hbG,hbP,b3',b4,b5,b6⟩
 refine PySem.W.kla_eval hdef ?_;rw[hq]
 cases hc:codeAmong lpos ps.toList with
 |some cv=>obtain⟨c',oc,ec,h2,h3⟩:=t3 lpos cv hc;subst ec;refine PySem.W.kla_makeFunctionHit (mg:=X.mg) hcl I.ok.glob hgs hcode (hC.keeps I.bk) gP t2 hc hba λctv h' tk hk hsz=>?_;have hn:H h'.objs.size=none:=I.hok.fresh hsz;have kk:∀b u,s.heap.get? b=some u->(h'.push { cls:=.type "function",data:=.func (om "<lambda>" G.lq params body scope (dD X.env scope.names []) ((X.mg "__name__").getD .none) (.ref c') ctv) }).get? b=some u:=λb u q=>ak _ (hk b u q);have gf:=bc h' (o:=ju "<lambda>" G.lq params body scope (dD X.env scope.names []) ((X.mg "__name__").getD .none) c' ctv) rfl;have I1:=I.laid (a:=h'.objs.size) (o:=.frz (ju "<lambda>" G.lq params body scope (dD X.env scope.names []) ((X.mg "__name__").getD .none) c' ctv) (.own 0)) (t':=tk) kk hsz ⟨gf,_,gf⟩;have sm:Same H (aW H h'.objs.size (.frz (ju "<lambda>" G.lq params body scope (dD X.env scope.names []) ((X.mg "__name__").getD .none) c' ctv) (.own 0))):=cR hn;exact⟨.ref h'.objs.size,_,I1,rfl,h _ c' _ ctv oc _ (λa o _ q=>sm a o q) (hT.keep λa o _ _ q=>sm a o q) cU (sm _ _ h2) h3⟩
 |none=>
  refine PySem.W.kla_makeFunction (mg:=X.mg) hcl I.ok.glob hgs hcode (hC.keeps I.bk) gP t2 hc hgP hba λc' ctv h' tk hx hge hlt hrec htb=>?_;obtain⟨c₂,oc,vs,t,e2,hoc,hd,hv⟩:=hrec;cases e2;generalize hfo:ju "<lambda>" G.lq params body scope (dD X.env scope.names []) ((X.mg "__name__").getD .none) c' ctv=fo;have nfo:fo.isFreed=false:=by rw[<-hfo];rfl
  have gf:(h'.push fo).get? h'.objs.size=some fo:=bc h' nfo;have goc:(h'.push fo).get? c'=some oc:=ak _ hoc;have gP':=ak fo htb;generalize hps:ps++#[rawInt lpos.line,rawInt lpos.col,.ref c']=ps' at gP';have lP:P<s.heap.objs.size:=aq gP;have kk:∀b u,b≠P->s.heap.get? b=some u->(h'.push fo).get? b=some u:=λb u hb q=>ak _ (hx b u hb q);have lt0:∀b u,s.heap.get? b=some u->b<s.heap.objs.size:=λb u q=>aq q;have nPc:P≠c':=bf (av lP hge);have nPf:P≠h'.objs.size:=bf (av lP (cq hge (gu hlt)));have ncf:c'≠h'.objs.size:=bf hlt;have lH:∀b o,H b=some o->b<s.heap.objs.size:=λb o q=>I.hok.lt q;have H1e:∀b,b≠P->b<s.heap.objs.size->aW (aW (aW H P (.tbl ps')) c' (.frz oc (.own 0))) h'.objs.size (.frz fo (.own 0)) b=H b:=λb h1 h2=>by rw[bT (bf (av h2 (cq hge (gu hlt)))),bT (bf (av h2 hge)),bT h1]
  have eP:aW (aW (aW H P (.tbl ps')) c' (.frz oc (.own 0))) h'.objs.size (.frz fo (.own 0)) P=some (.tbl ps'):=by rw[bT nPf,bT nPc,cU]
  have ec:aW (aW (aW H P (.tbl ps')) c' (.frz oc (.own 0))) h'.objs.size (.frz fo (.own 0)) c'=some (.frz oc (.own 0)):=by rw[bT ncf,cU]
  have ef:aW (aW (aW H P (.tbl ps')) c' (.frz oc (.own 0))) h'.objs.size (.frz fo (.own 0)) h'.objs.size=some (.frz fo (.own 0)):=cU;have cases1:∀b o,aW (aW (aW H P (.tbl ps')) c' (.frz oc (.own 0))) h'.objs.size (.frz fo (.own 0)) b=some o->(b=h'.objs.size/\o=.frz fo (.own 0))∨(b=c'/\o=.frz oc (.own 0))∨(b=P/\o=.tbl ps')∨(b≠P/\H b=some o):=λb o q=>by
   by_cases q1:b=h'.objs.size
   ·subst q1;rw[cU]at q;cases q;exact .inl ⟨rfl,rfl⟩
   rw[bT q1]at q
   by_cases q2:b=c'
   ·subst q2;rw[cU]at q;cases q;exact .inr (.inl ⟨rfl,rfl⟩)
   rw[bT q2]at q
   by_cases q3:b=P
   ·subst q3;rw[cU]at q;cases q;exact .inr (.inr (.inl ⟨rfl,rfl⟩))
   rw[bT q3]at q;exact .inr (.inr (.inr ⟨q3,q⟩))
  generalize aW (aW (aW H P (.tbl ps')) c' (.frz oc (.own 0))) h'.objs.size (.frz fo (.own 0))=H1 at *;have keepO:∀b o,(∀ps,o≠.tbl ps)->H b=some o->H1 b=some o:=λb o hn q=>by rw[H1e b (λz=>by subst z;rw[t1]at q;cases q;exact hn _ rfl) (lH b o q)];exact q
  have un:Un X.fs [] H H1 s.heap (h'.push fo):=by
   have nP:∀b,H b=none->b≠P:=λb n z=>by subst z;rw[t1]at n;cases n
   refine⟨λb o q n _ _=>kk b o (nP b n) q,λb o q n _ _=>⟨o.slots,kk b o (nP b n) q⟩,λb o q n _=>by rw[H1e b (nP b n) (lt0 b o q)];exact n,λb o q _=>?_,λb xs q=>keepO b _ (λ_ z=>by cases z) q,λb o u q=>keepO b _ (λ_ z=>by cases z) q,λb qs q=>?_⟩
   ·by_cases hb:b=P
    ·subst hb;exact⟨_,gP'⟩
    ·exact⟨_,kk b o hb q⟩
   ·by_cases hb:b=P
    ·subst hb;rw[t1]at q;cases q;exact⟨#[rawInt lpos.line,rawInt lpos.col,.ref c'],by rw[eP,hps]⟩
    ·exact⟨#[],by rw[H1e b hb (lH b _ q),q];simp⟩
  have hok1:HOk X.prog X.w H1 (h'.push fo):=λb o q=>by
   rcases cases1 b o q with⟨rfl,rfl⟩|⟨rfl,rfl⟩|⟨rfl,rfl⟩|⟨hb,q⟩
   ·exact⟨gf,_,gf⟩
   ·exact⟨goc,_,goc⟩
   ·exact gP'
   ·refine(I.hok b o q).stay (λb2 u hb2 z=>kk b2 u ?_ z) (λb2 z=>keepO b2 _ (λ_ z=>by cases z) z) λb2 xs z=>keepO b2 _ (λ_ z=>by cases z) z
    rcases hb2 with rfl|hb2
    ·exact hb
    ·rintro rfl;rw[t1]at hb2;cases hb2
  have I1:Inv X pins σ H1 { s with heap:=h'.push fo,toks:=tk }:=I.un un hok1;refine⟨.ref h'.objs.size,H1,I1,rfl,h h'.objs.size c' ((X.mg "__name__").getD .none) ctv oc H1 keepO ?_ (by rw[hfo];exact ef) ec ⟨vs,t,hd,hv⟩⟩;intro P' eP';rw[hP]at eP';cases eP';have hl:ps'.toList=ps.toList++[rawInt lpos.line,rawInt lpos.col,.ref c']:=by rw[<-hps];simp
  refine⟨ps',eP,by rw[hl];exact VE _ _ _ _ _ _ t2,λpos cv q=>?_⟩;rw[hl]at q
  rcases VF _ t2 q with q|q
  ·obtain⟨a,oa,z1,z2,z3⟩:=t3 pos cv q;exact⟨a,oa,z1,keepO a _ (λ_ z=>by cases z) z2,z3⟩
  ·exact⟨c',oc,q,ec,vs,t,hd,hv⟩
end
def oC:List Nat->Ev->Option (List Dv)
 | [],_=>some []
 |i::r,ρ=>match ρ[i]? with
  |some (some d)=>(match oC r ρ with
   |some ds=>some (d::ds)
   |none=>none)
  |_=>none
theorem I0 {ρ:Ev}:∀{caps:List Nat}{ds:List Dv},oC caps ρ=some ds->ds.length=caps.length/\∀(i:Nat) (d:Dv),ds[i]?=some d->∃j,caps[i]?=some j/\ρ[j]?=some (some d)
 | [],ds,e=>by unfold oC at e;cases e;exact⟨rfl,λi d e=>by simp at e⟩
 |j::r,ds,e=>by
  unfold oC at e
  split at e
  ·rename_i d0 h0
   split at e
   ·rename_i ds0 h1;cases e;obtain⟨l,k⟩:=I0 h1;refine⟨by simp[l],λi d q=>?_⟩
    cases i with
    |zero=>simp at q;subst q;exact⟨j,rfl,h0⟩
    |succ i=>exact k i d (by simpa using q)
   ·cases e
  ·cases e
def kF (caps:List Nat) (n ncl:Nat) (mb:MS) (me:M Dv):M Dv:=λρ h=>match oC caps ρ with
 |some ds=>rX n ncl mb (me (ds.map some) h)
 |none=>.bad
def jI (base h:cz) (cs:List ah):cz:=PySem.W.hideAll h ((ay h.objs.size).filter λb=>!((base.get? b).isSome||cs.contains b))
theorem BA {base h:cz}{cs:List ah}{b:ah}{o:Obj}(e:h.get? b=some o) (hb:(∃u,base.get? b=some u)∨b∈cs):(jI base h cs).get? b=some o:=
 zm _ e λz=>by
  have:=(iz.mp z).2
  rcases hb with⟨u,hb⟩|hb
  ·simp[hb]at this
  ·simp[hb]at this
theorem JA {base h:cz}{cs:List ah}{b:ah}{o:Obj}(e:(jI base h cs).get? b=some o):h.get? b=some o/\((∃u,base.get? b=some u)∨b∈cs):=by
 have e1:=zv _ e;refine⟨e1, ?_⟩
 by_cases hb:(∃u,base.get? b=some u)∨b∈cs
 ·exact hb
 ·exfalso
  have hm:b∈(ay h.objs.size).filter λb=>!((base.get? b).isSome||cs.contains b):=by
   refine iz.mpr ⟨bw.mpr (aq e1), ?_⟩
   cases q:base.get? b with
   |some u=>exact absurd (.inl ⟨u,q⟩) hb
   |none=>have:b∉cs:=λz=>hb (.inr z);simp[this]
  have:=zk (h:=h) _ hm;unfold jI at e;rw[this]at e;cases e
theorem Out.ext {α β:Type}{G:Cfg}{E:XK}{μ μ1:Nat->ah}{n n1:Nat}{H H1:Hp}{r:Rs α}{R:(Nat->ah)->Nat->Hp->α->β->Prop}{Q:β->Hp->Prop}(o:Out G E μ n H r R Q) (x:Ext μ n H μ1 n1 H1):Out G E μ1 n1 H1 r R Q:=by
 cases r with
 |bad=>exact o
 |ex c h'=>exact λμ' H' u y=>o μ' H' u (x.trans y)
 |ok d h'=>exact λμ' H' u y=>o μ' H' u (x.trans y)
theorem JB {env:Env}{scope:gy}{x:Str}{c:ah}(hf:∀x,(x,cf)∈scope.names->∃c,env.cells.lookup x=some c) (e:(dD env scope.names []).lookup x=some c):(x,cf)∈scope.names/\env.cells.lookup x=some c:=by
 rcases uR _ _ e with q|⟨q1,q2⟩
 ·cases q
 ·obtain⟨c',h'⟩:=hf x q1;rw[h']at q2;subst q2;exact⟨q1,h'⟩
section
variable{X:Cx}{G:Cfg}{E:XK}{k:Nat}{q x:Str}{p pos lpos:Pos}{params:kq}{body:bp}{scope:gy}{c P fr:ah}{fdr:br}{Nl:List Str}{me:M Dv}{n ncl j:Nat}{mb:MS}{caps:List Nat}
theorem VH (g:Good X G E k) (hj:j<=k) (hfn:∀y,X.fn y=true)
  (F:∀base,X.K.In base->base.Ns du X.mg->FnOk X.prog X.w X.K X.mg base (bR X.prog X.w base) j fr fdr [x] (vP G base Nl params body scope me n ncl mb))
  (hg:Gl X q) (hm:X.mg q=some (.ref fr)) (hk:lj X.K (.ref fr)=true) (hb:Binds X.K fdr [x] [])
  (hdef:defaultsOf params X.env=([],[])) (hq:X.env.qual ++ "<lambda>" = G.lq) (hP:G.tab=some P) (hcode:X.env.code=.ref c) (hC:kj X.base c P) (hB:lS X.mg X.base)
  (LS:LamScope Nl scope) (hkind:∀y∈Nl,X.env.scope.names.lookup y=some .cell) (hcl:caps.length=Nl.length) (hcap:∀(i j:Nat) (y:Str),caps[i]?=some j->Nl[i]?=some y->X.N[j]?=some y)
  (hdb:(q==("__debug__" : Str))=false) (he:au [.Lambda params body scope lpos] X.env=[(false,eval (.Lambda params body scope lpos) X.env)]:=by rfl):
  aL X G E (.Call (.Name q p) [.Lambda params body scope lpos] [] pos) (kF caps n ncl mb me):=by
 intro hK pins s σ H Q I ⟨μ,ρ,h,rs,sm,o⟩;unfold kF at o
 cases hcd:oC caps ρ with
 |none=>rw[hcd]at o;exact o.elim
 |some ds=>
 rw[hcd]at o;obtain⟨hdl,hdg⟩:=I0 hcd;have hfree:∀y,(y,cf)∈scope.names->X.env.kindOf y=some .cell∨X.env.kindOf y=some .free:=λy hy=>.inl (hkind y (LS.all _ hy rfl));have hfc:∀y,(y,cf)∈scope.names->∃c,X.env.cells.lookup y=some c:=λy hy=>I.ok.has y (hfree y hy);refine mq (qM I hg hm ?_ hdb);refine zy (h₀:=X.base) I.ok.mod.kin hk (bD (gW (VG (G:=G) (lpos:=lpos) (body:=body) hdef hq hP hcode hC hB hfree) jA he pos pins s σ H
  (λvs H1=>∃f c' pm ctv oc,vs=[.ref f]/\IZ H H1/\TabOk G H1/\H1 f=some (.frz (ju "<lambda>" G.lq params body scope (dD X.env scope.names []) pm c' ctv) (.own 0))/\H1 c'=some (.frz oc (.own 0))/\uX G.lq oc) I
  ⟨sm.tab,λf c' pm ctv oc H1 st tb e1 e2 e3=>⟨f,c',pm,ctv,oc,rfl,st,tb,e1,e2,e3⟩⟩) λus s1 ⟨vs,H1,I1,r,f,c',pm,ctv,oc,ev,st,tb,e1,e2,e3⟩=>⟨I1.kIn, ?_⟩) he rfl
 subst ev;generalize hcs:dD X.env scope.names []=cl at *;have kb:∀b u,X.base.get? b=some u->(jI X.base s1.heap (cl.map (·.2))).get? b=some u:=λb u e=>BA (I1.bk _ _ e) (.inl ⟨u,e⟩);have clc:∀y cc,(y,cc)∈cl->cl.lookup y=some cc->X.env.cells.lookup y=some cc:=λy cc _ e=>(JB hfc (by rw[hcs];exact e)).2;have memc:∀b,b∈cl.map (·.2)->∃y,X.env.cells.lookup y=some b:=λb hb=>by
  obtain⟨⟨y,cc⟩,hm1,rfl⟩:=bu.mp hb;have:∀(l:List (Str×jx)) (acc:List (Str×ah)),(∀y cc,(y,cc)∈acc->X.env.cells.lookup y=some cc)->(∀y,(y,cf)∈l->∃c,X.env.cells.lookup y=some c)->∀y cc,(y,cc)∈dD X.env l acc->X.env.cells.lookup y=some cc:=by
   intro l
   induction l with
   |nil=>exact λacc h1 _=>h1
   |cons a l ih=>
    obtain⟨y0,k0⟩:=a;intro acc h1 h2;rw[dD];refine ih _ (λy cc hm2=>?_) λy hy=>h2 y (ax _ hy)
    cases hk0:k0==cf with
    |true=>
     rw[hk0,if_pos rfl]at hm2
     rcases bg.mp hm2 with z|z
     ·cases z;have ek:k0=.free:=by cases k0 <;> first|rfl|cases hk0
      subst ek;obtain⟨c3,h3⟩:=h2 y0 (bh ..);rw[h3];rfl
     ·exact h1 _ _ z
    |false=>rw[hk0,if_neg (by simp)]at hm2;exact h1 _ _ hm2
  exact⟨y,this scope.names [] (λ_ _ z=>by cases z) hfc y cc (by rw[hcs];exact hm1)⟩
 have M0:=I1.ok.mod;have nsk:∀{a:ah}{m:Str->Option af},X.base.Ns a m->(jI X.base s1.heap (cl.map (·.2))).Ns a m:=λhn=>hn.keeps kb;have hM:Mod X.K X.mg (jI X.base s1.heap (cl.map (·.2))):=⟨M0.kin.keeps kb,nsk M0.glob,(let ⟨mb,a,b⟩:=M0.blt;⟨mb,nsk a,b⟩),M0.nolimit.keeps kb⟩
 have hbs:∀b u,(jI X.base s1.heap (cl.map (·.2))).get? b=some u->s1.heap.get? b=some u/\H1 b=none:=λb u e=>by
  obtain⟨g1,g2⟩:=JA e;refine⟨g1, ?_⟩
  rcases g2 with⟨u',g2⟩|g2
  ·exact(I1.bs _ _ g2).2
  ·obtain⟨y,hy⟩:=memc b g2;exact I1.freeC y b hy
 have nbf:∀b∈dS X.stack,(jI X.base s1.heap (cl.map (·.2))).get? b=none:=λb hb=>by
  cases qq:(jI X.base s1.heap (cl.map (·.2))).get? b with
  |none=>rfl
  |some u=>
   exfalso
   obtain⟨g1,g2⟩:=JA qq
   rcases g2 with⟨u',g2⟩|g2
   ·have:=(I1.stack.mem hb).1;rw[this]at g2;cases g2
   ·obtain⟨y,hy⟩:=memc b g2
    rcases bg.mp (I1.stkSub b hb)with z|z
    ·exact I1.cne y b hy z
    ·obtain⟨v0,ob,ho1,hd1⟩:=I1.cell y b hy;have fm:∀z∈X.fs,z<X.s₀.heap.objs.size:=λz hz=>by obtain⟨_,o2,h2,_⟩:=I1.ok.funs.mem hz;exact aq h2
     exact absurd (av (fm b z) (I1.ok.cab y b (hfn y) hy)) (gh _)
 have hfun:s1.heap.FunFrames (jI X.base s1.heap (cl.map (·.2))) X.stack:=by
  have all:∀(l:List Env),(∀b∈dS l,b∈dS X.stack)->s1.heap.FunFrames X.base l->s1.heap.FunFrames (jI X.base s1.heap (cl.map (·.2))) l:=by
   intro l
   induction l with
   |nil=>intro _ _;trivial
   |cons env r ih=>
    intro hs hl;obtain⟨hk',⟨L,o',hf',hn',ho',hd'⟩,hr'⟩:=hl;have hL:L∈dS (env::r):=by unfold dS;rw[ck,hf'];exact bh
    exact⟨hk',⟨L,o',hf',nbf L (hs L hL),ho',hd'⟩,ih (λb hb=>hs b (by unfold dS;rw[ck,hf'];exact ax _ hb)) hr'⟩
  exact all X.stack (λ_ hb=>hb) I1.stack
 have e0:Env0 X.prog X.w X.K X.mg (jI X.base s1.heap (cl.map (·.2))) X.A X.stack s1 H1:=⟨I1.ok.frames,hM,hbs,oz (zj _ _),hfun,I1.stkFree,I1.hok,I1.bare⟩
 have xt:Ext μ h.length H μ h.length H1:=⟨aj _,λ_ _=>rfl,λa u im z=>st a u (λps w=>by subst w;exact im) z⟩
 have sm1:Sim G μ h H1:=⟨sm.inj,λi ob z=>by
  have r0:=sm.ob i ob z
  cases ob with
  |lst xs=>obtain⟨vs,z1,z2⟩:=r0;exact⟨vs,st _ _ (λ_ w=>by cases w) z1,RelDL.mono xt _ _ z2⟩,tb⟩
 have look:∀y cc,cl.lookup y=some cc->(y,cf)∈scope.names/\X.env.cells.lookup y=some cc:=λy cc e=>JB hfc (by rw[hcs];exact e);have memL:∀y cc,cl.lookup y=some cc->cc∈cl.map (·.2):=λy cc e=>bu.mpr ⟨(y,cc),fg e,rfl⟩;have L:LamAt G (jI X.base s1.heap (cl.map (·.2))) H1 μ h.length Nl params body scope f c' cl ds:=by
  refine⟨⟨pm,ctv,e1⟩,⟨oc,e2,e3⟩,λy z cc a b=>I1.ok.inj y z cc (look y cc a).2 (look z cc b).2,hdl.trans hcl,λi y hy=>?_,λy cc e=>?_,λi y cc d hy hd e=>?_⟩
  ·have hf1:=LS.fr y (bz hy);have:=qS (env:=X.env) (x:=y) scope.names [] (.inl (fg hf1));rw[hcs]at this;exact⟨_,this⟩
  ·obtain⟨v0,ob,ho1,hd1⟩:=I1.cell y cc (look y cc e).2;exact⟨ob,v0,BA ho1 (.inr (memL y cc e)),hd1⟩
  ·obtain⟨jj,hjj,hρ⟩:=hdg i d hd;obtain⟨v,hv,rd⟩:=rs.at_ jj d hρ;have hNj:=hcap i jj y hjj hy;have hyk:=hkind y (bz hy);obtain⟨m,hn,hl⟩:=I1.loc;obtain⟨u,ru,lk⟩:=hl jj y v hNj hv (.inr (.inl hyk))
   rcases lk with⟨kl,_⟩|⟨_,c4,ec4,ob,ho1,hd1⟩
   ·have kl':X.env.scope.names.lookup y=some .local:=kl;rw[hyk]at kl';cases kl'
   ·rw[(look y cc e).2]at ec4;cases ec4;exact⟨ob,u,v,BA ho1 (.inr (memL y cc e)),hd1,ru,RelD.mono xt _ _ rd⟩
 have hall:∀y cc,cl.lookup y=some cc->y∈Nl:=λy cc e=>LS.all _ (look y cc e).1 rfl;have hlen:(us++([]:List af)).length=[x].length:=by rw[jy,<-r.length];rfl
 have hbt:=hb s1 us I1.kIn hlen;rw[jy]at hbt;refine zx (nj ((F _ hM.kin hM.glob).run X.A X.stack s1 H1 ⟨us,[]⟩ us [.ref f] Q E (g.room.mono hj) e0 hbt r ⟨f,c',cl,ds,μ,h,rfl,L,hall,sm1,o.ext xt⟩) λrr s' hq'=>?_)
 cases rr with
 |ok fl=>
  cases fl with
  |ret u=>exact I1.after hq'
  |next=>exact gk hq'
  |brk=>exact gk hq'
  |cont=>exact gk hq'
 |error ev=>
  obtain⟨e,C,H',eu,os,bare,un,hok,fl,hE⟩:=hq';refine g.pas pins σ H1 s1 ev s' I1 ⟨e,C,H',eu,os,bare,un,hok, ?_,hE⟩;obtain⟨T,a0,w1,w2,w3,w4⟩:=fl;refine⟨T,a0,w1,w2, ?_,w4⟩
  cases qq:X.base.get? e with
  |none=>rfl
  |some u=>have:=kb e u qq;rw[w3]at this;cases this
end
section
variable{X:Cx}{G:Cfg}
open Classical in
noncomputable def eO (H:Hp) (tx:Dt) (u:af):Bool:=decide (∃v t,RelV v u/\Den jQ H t v/\bS t tx=true)
open Classical in
theorem JC {H:Hp}{tx t:Dt}{u:af}{v:V}(r:RelV v u) (d:Den jQ H t v):eO H tx u=bS t tx:=by
 unfold eO
 cases q:bS t tx with
 |true=>exact decide_eq_true ⟨v,t,r,d,q⟩
 |false=>refine decide_eq_false λ⟨v',t',r',d',q'⟩=>?_;have e:=r'.inj r;subst e;rw[Den.inj t' t v' d' d,q]at q';cases q'
theorem rY {H:Hp}{tx:Dt}:∀{ts:List Dt}{vs:List V}{us:List af},DenL jQ H ts vs->Vals vs us->us.any (eO H tx)=ts.any λt=>bS t tx
 | [],_,_,d,r=>by rw[DenL]at d;subst d;cases r;rfl
 |t::ts,_,_,d,r=>by
  rw[DenL]at d;obtain⟨v,rr,rfl,d1,d2⟩:=d
  cases r with
  |cons r1 r2=>rw[List.any_cons,List.any_cons,JC r1 d1,rY d2 r2]
def vQ (K:ao) (neg:Bool):R2:=λx y H Q=>∃a vs ts tx,y=.ref a/\(SqL K H a vs∨SqT K H a vs)/\DenL jQ H ts vs/\Den jQ H tx x/\(∀t∈ts,fG t<=cE/\nod t=true)/\nod tx=true/\Q (.bl (if neg then !(ts.any λt=>bS t tx)else ts.any λt=>bS t tx)) H
theorem vR {pins:List (ah×Obj)}{σ:St}{H:Hp}{s:ag}{x:V}{v:af}{vs:List V}{its:List af}{ts:List Dt}{tx:Dt}(hu:X.A.units+64<cLine) (I:Inv X pins σ H s) (rx:RelV x v) (r:Vals vs its) (d:DenL jQ H ts vs) (dx:Den jQ H tx x)
  (ht:∀t∈ts,fG t<=cE/\nod t=true) (nx:nod tx=true):∀y,y∈its.toArray->uc X.A.in1 s y v (eO H tx y):=λy hy=>by
 have hy':y∈its:=by simpa using hy
 obtain⟨j,hj,e⟩:=iu.mp hy';have hl:=r.length;obtain⟨u,eu,ru⟩:=r.get (i:=j) (x:=vs[j]'(by omega)) (aw (by omega));have:u=y:=by rw[aw hj,e]at eu;cases eu;rfl
 subst this;obtain⟨t,et,dt⟩:=d.get (i:=j) (aw (by omega:j<vs.length));obtain⟨h1,h2⟩:=ht t (bz et);rw[JC ru dt];exact(AH I.hok cE X.A.in1 t tx _ x _ v h1 (by show X.A.units+1+cE+1<cLine;unfold cE;omega) h2 nx dt dx ru rx).2
theorem JD (hu:X.A.units+64<cLine):OpR X (compareOp .In) (vQ X.K false):=by
 intro pins s σ H x y v u Q I r1 r2 ⟨a,vs,ts,tx,e,hs,d,dx,ht,nx,q⟩;subst e;cases r2
 rcases hs with hs|hs
 ·obtain⟨its,r,pl,hz⟩:=I.list hs;refine SeqAt.in_listAt (eO H tx) pl.isList (vR hu I r1 r d dx ht nx) ?_;exact⟨.bl _,H,I,by rw[show its.toArray.any (eO H tx)=its.any (eO H tx)by simp,rY d r];rfl,q⟩
 ·obtain⟨its,r,pl,hz⟩:=I.tuple hs;refine SeqAt.in_tupleAt (eO H tx) pl (vR hu I r1 r d dx ht nx) ?_;exact⟨.bl _,H,I,by rw[show its.toArray.any (eO H tx)=its.any (eO H tx)by simp,rY d r];rfl,q⟩
theorem JE (hu:X.A.units+64<cLine):OpR X (compareOp .NotIn) (vQ X.K true):=by
 intro pins s σ H x y v u Q I r1 r2 ⟨a,vs,ts,tx,e,hs,d,dx,ht,nx,q⟩;subst e;cases r2
 rcases hs with hs|hs
 ·obtain⟨its,r,pl,hz⟩:=I.list hs;refine SeqAt.notIn_listAt (eO H tx) pl.isList (vR hu I r1 r d dx ht nx) ?_;exact⟨.bl _,H,I,by rw[show its.toArray.any (eO H tx)=its.any (eO H tx)by simp,rY d r];rfl,q⟩
 ·obtain⟨its,r,pl,hz⟩:=I.tuple hs;refine SeqAt.notIn_tupleAt (eO H tx) pl (vR hu I r1 r d dx ht nx) ?_;exact⟨.bl _,H,I,by rw[show its.toArray.any (eO H tx)=its.any (eO H tx)by simp,rY d r];rfl,q⟩
def mT (scr:List Int) (neg:Bool) (x c:Dv) (h:Hs):Rs Dv:=match gA scr c h with
 |some ys=>match bW (bN cE h) ys,bN cE h x with
  |some ts,some tx=>.ok (.bl (if neg then !(ts.any λt=>bS t tx)else ts.any λt=>bS t tx)) h
  |_,_=>.bad
 |none=>.bad
theorem JF {μ:Nat->ah}{h:Hs}{H:Hp}(s:Sim G μ h H):∀{xs:List Dv}{vs:List V}{ts:List Dt},RelDL G μ h.length H xs vs->bW (bN cE h) xs=some ts->DenL jQ H ts vs/\∀t∈ts,fG t<=cE/\nod t=true
 | [],_,_,r,e=>by cases e;rw[RelDL]at r;subst r;exact⟨DenL.nil,λt ht=>by simp at ht⟩
 |x::xs,_,_,r,e=>by
  rw[RelDL]at r;obtain⟨v,rr,rfl,r1,r2⟩:=r;unfold bW at e
  cases q:bN cE h x with
  |none=>rw[q]at e;cases e
  |some y=>
   rw[q]at e;dsimp only at e
   cases q2:bW (bN cE h) xs with
   |none=>rw[q2]at e;cases e
   |some ys=>
    rw[q2]at e;cases e;obtain⟨a1,a2,a3⟩:=pE s _ x v y r1 q;obtain⟨b1,b2⟩:=JF s r2 q2;refine⟨DenL.cons a1 b1,λt ht=>?_⟩
    rcases bg.mp ht with rfl|ht
    ·exact⟨a2,a3⟩
    ·exact b2 t ht
theorem VI (neg:Bool):fH G (vQ G.K neg) (mT G.scr neg):=by
 intro E μ h H x y vx vy Q s rx ry o;unfold mT at o
 cases q:gA G.scr y h with
 |none=>rw[q]at o;exact o.elim
 |some ys=>
  rw[q]at o;dsimp only at o
  split at o
  ·rename_i ts tx e1 e2;obtain⟨a,vs,rfl,hs,r⟩:=AS s ry q;obtain⟨b1,b2⟩:=JF s r e1;obtain⟨c1,c2,c3⟩:=pE s _ x vx tx rx e2;exact⟨a,vs,ts,tx,rfl,hs,b1,c1,b2,c3,o.val s rfl⟩
  ·exact o.elim
end
section
variable{X:Cx}{G:Cfg}
end
def hO (c:M Bool) (body:MS):Nat->MS
 |0=>λ_ _=>.bad
 |f+1=>λρ h=>(c ρ h).thenS λb h1=>if b=true then(match body ρ h1 with
  | .nx ρ2 h2=>hO c body f ρ2 h2
  | .ct ρ2 h2=>hO c body f ρ2 h2
  | .bk ρ2 h2=>.nx ρ2 h2
  |r=>r)else .nx ρ h1
section
variable{X:Cx}{G:Cfg}{E:XK}{c:bp}{body:List gp}{mc:M Bool}{mb:MS}{pos:Pos}
theorem JG (n:Nat) (hp:xm (model X.prog X.w) X.A X.env X.xe) (hc:fO X G E c mc) (hb:jC X G E body mb):iC X G E (.While c body [] pos) (hO mc mb n):=λhK=>PS.imp (O3 hp (hc hK) (hb hK)) λD σ H ⟨μ,ρ,h,rs,s,o⟩=>by
 refine⟨λm σ H=>∃μ ρ h,RelS G μ h.length H ρ σ/\Sim G μ h H/\SOut G E μ h.length H (hO mc mb m ρ h) D,⟨n,μ,ρ,h,rs,s,o⟩, ?_⟩
 rintro m σ1 H1 ⟨μ1,ρ1,h1,rs1,s1,o1⟩
 cases m with
 |zero=>exact o1.elim
 |succ m=>
  refine HS rs1 s1 o1 λμ2 b h2 H2 x2 rs2 s2 o2=>?_
  cases b with
  |false=>rw[if_neg (by decide)]at o2 ⊢;exact o2 μ2 H2 σ1 Ext.refl s2 rs2
  |true=>
   rw[if_pos rfl]at o2 ⊢;refine⟨λσ' H'=>∃μ ρ h,RelS G μ h.length H' ρ σ'/\Sim G μ h H'/\SOut G E μ h.length H' (hO mc mb m ρ h) D,λσ' H' z=>⟨m,ji m,z⟩,μ2,ρ1,h2,rs2,s2, ?_⟩
   cases q:mb ρ1 h2 with
   |nx ρ3 h3=>rw[q]at o2;exact λμ4 H4 σ4 x4 s4 nK=>⟨μ4,ρ3,h3,nK,s4,SOut.ext o2 x4⟩
   |ct ρ3 h3=>rw[q]at o2;exact λμ4 H4 σ4 x4 s4 nK=>⟨μ4,ρ3,h3,nK,s4,SOut.ext o2 x4⟩
   |bk ρ3 h3=>rw[q]at o2;exact o2
   |rt d h3=>rw[q]at o2;exact o2
   |ex d h3=>rw[q]at o2;exact o2
   |bad=>rw[q]at o2;exact o2.elim
end
section
variable{X:Cx}{G:Cfg}{E:XK}{e o:bp}{mo me:M Dv}{pos apos cpos np p2:Pos}{y:Str}
def vS (x i:Dv) (h:Hs):Rs Dv:=match x,i with
 | .ref j,.int n=>match getL h j with
  |some xs=>match eB xs.length n with
   |some k=>match xs[k]? with
    |some d=>if xs.length<=1000000 then .ok d (h.set j (.lst (xs.eraseIdx k)))else .bad
    |none=>.bad
   |none=>.bad
  |none=>.bad
 |_,_=>.bad
theorem JH {μ:Nat->ah}{n:Nat}{H:Hp}:∀{ds:List Dv}{vs:List V}(k:Nat),RelDL G μ n H ds vs->RelDL G μ n H (ds.eraseIdx k) (vs.eraseIdx k)
 | [],_,_,h=>by rw[RelDL]at h;subst h;exact RelDL.nil
 |d::ds,_,0,h=>by rw[RelDL]at h;obtain⟨v,r,rfl,h1,h2⟩:=h;exact h2
 |d::ds,_,k+1,h=>by rw[RelDL]at h;obtain⟨v,r,rfl,h1,h2⟩:=h;exact RelDL.cons h1 (JH k h2)
def rZ (mo me:M Dv):M Dv:=λρ h=>(mo ρ h).bind λx h1=>if iR x h1=true then(me ρ h1).bind λd h2=>vS x d h2 else .bad
theorem VJ (ho:aL X G E (.Name y np) mo) (he:aL X G E e me) (hs:au [e] X.env=[(false,eval e X.env)]:=by rfl) (hl:(apos.endLine==cpos.line)=true:=by rfl):aL X G E (.Call (.Attribute (.Name y np) "pop" apos) [e] [] cpos) (rZ mo me):=λhK=>
 PE.imp (zX qh PySem.F.slot_list_pop PySem.F.type_list_pop RP (ho hK) (gW (he hK) jA hs) rfl (by rw[hs];rfl) hl hs rfl) λσ H Q ⟨μ,ρ,h,rs,s,oo⟩=>eX rs s oo λμ1 x h1 vx H1 x1 rs1 s1 r1 o1=>by
  split at o1
  ·rename_i hl;refine⟨A7 s1 r1 hl,eX rs1 s1 o1 λμ2 d h2 vd H2 x2 rs2 s2 r2 o2=>?_⟩
   cases x with
   |ref j=>
    cases d with
    |int n=>
     dsimp only[vS]at o2
     cases q:getL h2 j with
     |none=>rw[q]at o2;exact o2.elim
     |some xs=>
      rw[q]at o2;dsimp only at o2
      cases q2:eB xs.length n with
      |none=>rw[q2]at o2;exact o2.elim
      |some k=>
       rw[q2]at o2;dsimp only at o2
       cases q3:xs[k]? with
       |none=>rw[q3]at o2;exact o2.elim
       |some d'=>
        rw[q3]at o2;dsimp only at o2
        split at o2
        ·rename_i hz;obtain⟨vs,ea,ra⟩:=s2.ob j _ (cY q);obtain⟨_,rfl⟩:=RelD.mono x2 _ _ r1;rw[RelD]at r2;subst r2;obtain⟨v,ev,rv⟩:=ra.get q3;obtain⟨i1,i2,i3,i4⟩:=zT q2;obtain⟨x3,s3⟩:=s2.write (cY q) (JH k ra);exact⟨_,vs,n,k,v,rfl,rfl,ea,by omega,by omega,by rw[ra.length];exact i1,ev,o2 μ2 _ _ x3 s3 (RelD.mono x3 _ _ rv)⟩
        ·exact o2.elim
    |_=>exact o2.elim
   |_=>exact o2.elim
  ·exact o1.elim
def mU (xs:List Dv) (lo hi:Option Int):List Dv:=(xs.drop (HT.sIx xs.length 0 lo)).take (HT.sIx xs.length xs.length hi - HT.sIx xs.length 0 lo)
theorem JI {μ:Nat->ah}{n:Nat}{H:Hp}{xs:List Dv}{vs:List V}(r:RelDL G μ n H xs vs) (lo hi:Option Int):RelDL G μ n H (mU xs lo hi) (mG vs lo hi):=by unfold mU mG;rw[r.length];exact(r.drop _).take _
abbrev MO:=Ev->Hs->Rs (Option Int)
def VL (G:Cfg) (E:XK) (m:MO):TO:=λσ H Q=>∃μ ρ h,RelS G μ h.length H ρ σ/\Sim G μ h H/\Out G E μ h.length H (m ρ h) (λ_ _ _ a b=>b=a) Q
def vT (X:Cx) (G:Cfg) (E:XK) (pe:Option bp) (m:MO):Prop:=X.K=G.K->PO X pe (VL G E m)
theorem PO.imp {pe:Option bp}{t t':TO}(h:PO X pe t) (i:∀σ H Q,t' σ H Q->t σ H Q):PO X pe t':=λpins s σ H Q I q=>h pins s σ H Q I (i σ H Q q)
def sD:MO:=λ_ h=>.ok none h
def JJ:Dv->Hs->Rs (Option Int)
 | .int i,h=>.ok (some i) h
 |_,_=>.bad
def sE (m:M Dv):MO:=λρ h=>(m ρ h).bind JJ
theorem VM:vT X G E none sD:=λ_=>PO.imp QY λσ H Q ⟨μ,ρ,h,rs,s,oo⟩=>oo.val s rfl
theorem VN (he:aL X G E e me):vT X G E (some e) (sE me):=λhK=>PO.imp (QZ (he hK)) λσ H Q ⟨μ,ρ,h,rs,s,oo⟩=>eX rs s oo λμ1 d h1 v H1 x1 rs1 s1 r1 o1=>by
 cases d with
 |int i=>exact⟨i,r1,o1.val s1 rfl⟩
 |_=>exact o1.elim
end
section
variable{X:Cx}{G:Cfg}{E:XK}{pos:Pos}
theorem VO:aL X G E (.Dict [] [] pos) (mC .edc):=λ_ pins s σ H Q I ⟨μ,ρ,h,rs,sm,o⟩=>by have hb:sysModules<s.heap.objs.size:=Nat.lt_trans (by decide) (I.mod.glob.keeps I.bk).lt;have hn:=I.hok.fresh (aj s.heap.objs.size);refine wpAny_Dict_empty ⟨.ref s.heap.objs.size,_,I.laid (a:=s.heap.objs.size) (o:=.dK []) (t':=s.toks) (λ_ _ q=>ak _ q) (aj _) ⟨jg _,beq_eq_false_iff_ne.mpr (da (bf hb)),[],.nil,Heap.DictOf.new s.heap⟩,rfl, ?_⟩;exact o μ _ _ (Ext.same (cR hn)) (sm.same (cR hn)) ⟨_,rfl,cU⟩
theorem JK {x:Str}{i:Int}{t:Tok}(hg:Gl X x) (hm:X.mg x=some (.int i t)) (hd:(x==("__debug__" : Str))=false:=by decide):aL X G E (.Name x pos) (mC (.int i)):=λ_=>PE.imp (FH (v:=.int i) hg hm ⟨t,rfl⟩ hd) λσ H Q ⟨μ,ρ,h,rs,s,o⟩=>o.val s (show RelD G μ _ H (.int i) (.int i) from rfl)
def lT:Dv->Hs->Rs Dv
 | .int i,h=>.ok (.int (-i)) h
 |_,_=>.bad
theorem VP:kY G (rU λi=>.int (-i)) lT:=by
 intro E μ h H x vx Q s r o
 cases x with
 |int i=>rw[RelD]at r;subst r;exact⟨i,rfl,o.val s rfl⟩
 |_=>exact o.elim
end
section
variable{X:Cx}{G:Cfg}{E:XK}{tg a b c:bp}{p pos:Pos}{ms:M (List Dv)}
end
structure Lawful (lp:bo) (w:cw) (K:ao) (mg:Str->Option af) (base:cz) (k:Nat) (fa:ah) (fd:br) (x:Str) (P a:ah) (ns:List Int):Prop where
 ex:∃(G:Cfg) (lawF:List Dv->Hs->Rs Dv) (hh:Hs),G.K=K/\G.scr=ns/\G.sa=a/\G.tab=some P/\lawF [.scr] []=.ok (.bl true) hh/\FnOk lp w K mg base (bR lp w base) k fa fd [x] (cN G lawF)
theorem VQ {lp:bo}{w:cw}{K:ao}{mg mb:Str->Option af}{k:Nat}{fa a c P:ah}{fd:br}{x:Str}{s₁:ag}{vs:List af}{ns:List Int}
  (KX:K.In s₁.heap) (hns:s₁.heap.Ns du mg) (hb:s₁.heap.Ns builtinsNs mb) (hbb:∀x:Str,x ≠ "__name__"->mb x=df x) (hlim:s₁.heap.NoLimit) (hg:s₁.gens=#[])
  (ha:s₁.heap.get? a=some { cls:=.type "list",data:=.seq vs.toArray }) (hi:md vs ns) (hl:ns.length<=cj) (hr:Room k callerA)
  (hC:kj s₁.heap c P) (hP:s₁.heap.get? P=some (sh #[])) (hB:lS mg s₁.heap) (hnt:PySem.W.noTabs K=true)
  (F:∀base:cz,K.In base->base.Ns du mg->kj base c P->lS mg base->Lawful lp w K mg base k fa fd x P a ns) (hbind:∀(s:ag) (u:af),BindsTo s fd ⟨[u],[]⟩ [(x,u)]):
  codeAny (model lp w) callerA (.call (.ref fa) ⟨[.ref a],[]⟩) (λr s'=>r=.ok (.ret (.bool true))/\OldK s₁.heap s'.heap/\s'.os=s₁.os/\rj s'.gens) s₁:=by
 have rv:=GQ hi;have lenV:=hi.length;have KP:K.lookup P=none:=by
  cases q:K.lookup P with
  |none=>rfl
  |some o=>have e:=KX P o q;rw[hP]at e;cases e;have:=ed.mp hnt (P,sh #[]) (PySem.W.mem_of_lookupK q);exact absurd (show false=true from this) fz
 have aP:a≠P:=λz=>by rw[z,hP]at ha;cases ha
 have core:∀H:Hp,H P=some (.tbl #[])->FzL K H a (ns.map V.int)->HOk lp w H s₁.heap->(∀b,H b≠none->b=a∨b=P)->(H a≠none->K.lookup a=none)->(∀u,H a=some u->∃o xs,u=.frz o (.lst xs))->
   codeAny (model lp w) callerA (.call (.ref fa) ⟨[.ref a],[]⟩) (λr s'=>r=.ok (.ret (.bool true))/\OldK s₁.heap s'.heap/\s'.os=s₁.os/\rj s'.gens) s₁:=by
  intro H hHP hS hok hA hK hF;have base_of:∀{b:ah}{o:Obj},s₁.heap.get? b=some o->H b=none->(jY s₁.heap H).get? b=some o:=λe n=>N1 e n;have none_of:∀{b:ah},b≠a->b≠P->H b=none:=λ{b} h1 h2=>by
   cases q:H b with
   |none=>rfl
   |some u=>exact((hA b (by rw[q];simp)).elim h1 h2).elim
  have noD:∀{b:ah}{o:Obj}{es:Array DictEntry}{ep:Nat},s₁.heap.get? b=some o->o.data=.dict es ep->H b=none:=λ{b o es ep} e d=>none_of (λz=>by
    subst z;rw[ha]at e;cases e;have d':Data.seq vs.toArray _=Data.dict es ep:=d
    cases d') (λz=>by
    subst z;rw[hP]at e;cases e;have d':Data.fields _=Data.dict es ep:=d
    cases d')
  have nsK:∀{b:ah}{m:Str->Option af},s₁.heap.Ns b m->(jY s₁.heap H).Ns b m:=λ{b m} ⟨o,es,ep,e,d,r⟩=>⟨o,es,ep,base_of e (noD e d),d,r⟩
  have hKb:K.In (jY s₁.heap H):=λb o e=>base_of (KX b o e) (by
   cases q:H b with
   |none=>rfl
   |some u=>
    rcases hA b (by rw[q];simp)with z|z
    ·subst z;rw[hK (by rw[q];simp)]at e;cases e
    ·subst z;rw[KP]at e;cases e)
  have hM:Mod K mg (jY s₁.heap H):=⟨hKb,nsK hns,⟨mb,nsK hb,hbb⟩,let ⟨mc,h1,h2⟩:=hlim;⟨mc,nsK h1,h2⟩⟩
  have hCb:kj (jY s₁.heap H) c P:=by obtain⟨o,vs',file,tf,flags,tg,inF,text,tt,e1,r1,r⟩:=hC;refine⟨o,vs',file,tf,flags,tg,inF,text,tt,base_of e1 (none_of (λz=>?_) r.2.2.2.2.2.2.2),r1,r⟩;subst z;rw[ha]at e1;cases e1;exact absurd r1 (by intro w;injection w with w;exact absurd w (by decide))
  have hBb:lS mg (jY s₁.heap H):=by
   obtain⟨bm,ob,b1,b2,b3,b4,b5,b6⟩:=hB;refine⟨bm,ob,b1,b2,base_of b3 (none_of (λz=>?_) (λz=>?_)),b4,b5,b6⟩
   ·subst z;rw[ha]at b3;cases b3;exact absurd b4 (by intro w;injection w with w;exact absurd w (by decide))
   ·subst z;rw[hP]at b3;cases b3;cases b4
  have e0:Env0 lp w K mg (jY s₁.heap H) callerA [] s₁ H:=⟨rfl,hM,λb o e=>N2 e,oz (N0 _ _),trivial,λb hb=>absurd (show b∈([]:List ah) from hb) (by simp),hok,.of_eq hg⟩
  obtain⟨G,lawF,hh,g1,g2,g3,g4,hlaw,Fn⟩:=(F _ hKb (nsK hns) hCb hBb).ex;have rd:RelDL G (λ_=>0) 0 H [.scr] [.ref a]:=by refine RelDL.cons ?_ RelDL.nil;rw[RelD,g1,g2,g3];exact⟨rfl,hS⟩
  have sm:Sim G (λ_=>0) [] H:=⟨λi j h1=>absurd h1 (by simp),λi o q=>by simp at q,λP' e=>by
   rw[g4]at e;cases e;exact⟨#[],hHP,trivial,λpos cv q=>by
    have q':(none:Option af)=some cv:=q
    cases q'⟩⟩
  refine nj (Fn.run callerA [] s₁ H ⟨[.ref a],[]⟩ [.ref a] [.ref a] (λv _=>v=.bl true) (λ_ _ _=>False) hr e0 (hbind s₁ (.ref a)) (.cons rfl .nil) ⟨λ_=>0,[],[.scr],rd,sm, ?_⟩) λr s' h=>?_
  ·rw[hlaw];exact λμ' H' v _ _ r=>r
  cases r with
  |error e=>obtain⟨_,_,_,_,_,_,_,_,_,z⟩:=h;exact z.elim
  |ok fl=>
   cases fl with
   |next=>exact gk h
   |brk=>exact gk h
   |cont=>exact gk h
   |ret u=>
    obtain⟨v,H',os,bare,un,hok',r',q⟩:=h;have q':v=.bl true:=q;subst q';obtain rfl:u=Ap true:=r';have kept:∀b o,b≠P->s₁.heap.get? b=some o->s'.heap.get? b=some o:=λb o hbP e=>by
     cases q:H b with
     |none=>exact un.keep b o e q (by intro z;exact absurd (show b∈([]:List ah) from z) (by simp)) (by simp)
     |some u=>
      rcases hA b (by rw[q];simp)with z|z
      ·subst z;obtain⟨ob,xs,rfl⟩:=hF u q;have z2:=un.frzs b ob _ q;obtain⟨e1,_⟩:=hok b _ q;obtain⟨e2,_⟩:=hok' b _ z2;rw[e]at e1;cases e1;exact e2
      ·exact absurd z hbP
    obtain⟨more,hm⟩:=un.tbls P #[] hHP;have gP:s'.heap.get? P=some (sh (#[]++more)):=hok' P _ hm;refine⟨rfl,⟨λb o e=>?_,λb o e=>?_⟩,os,bare⟩
    ·by_cases hb:b=P
     ·subst hb;rw[hP]at e;cases e;exact .inr (.inl ⟨(hC.tab hP).isCodeTable,rfl,#[],more,rfl,gP⟩)
     ·exact .inl (kept b o hb e)
    ·by_cases hb:b=P
     ·subst hb;exact⟨_,gP⟩
     ·exact⟨_,kept b o hb e⟩
 cases hk:K.lookup a with
 |some o=>
  have e:=KX a o hk;rw[ha]at e;cases e;refine core (λb=>if b=P then some (.tbl #[])else none) (if_pos rfl) (.inr ⟨_,vs.toArray,_,hk,rfl,rfl,rfl,by rw[ar,lenV];exact hl,by simpa using rv⟩) (λb u z=>?_) (λb z=>?_) (λz=>absurd (if_neg aP) z) (λu z=>?_)
  ·by_cases hb:b=P
   ·have z':=(if_pos hb).symm.trans z;cases z';subst hb;exact hP
   ·have z':=(if_neg hb).symm.trans z;cases z'
  ·by_cases hb:b=P
   ·exact .inr hb
   ·exact absurd (if_neg hb) z
  ·have z':=(if_neg aP).symm.trans z;cases z'
 |none=>
  have ea:(λb=>if b=a then some (HO.frz { cls:=.type "list",data:=.seq vs.toArray } (.lst (ns.map V.int)))else if b=P then some (.tbl #[])else none) a=some (.frz { cls:=.type "list",data:=.seq vs.toArray } (.lst (ns.map V.int))):=if_pos rfl;refine core (λb=>if b=a then some (.frz { cls:=.type "list",data:=.seq vs.toArray } (.lst (ns.map V.int)))else if b=P then some (.tbl #[])else none) ((if_neg (da aP)).trans (if_pos rfl)) (.inl ⟨{ cls:=.type "list",data:=.seq vs.toArray },ea⟩) (λb u z=>?_) (λb z=>?_) (λ_=>hk) (λu z=>?_)
  ·by_cases hb:b=a
   ·have z':=(if_pos hb).symm.trans z;cases z';subst hb;exact⟨ha,by rw[bj];exact hl,vs,_,rv,ha⟩
   ·have z':=(if_neg hb).symm.trans z
    by_cases hb2:b=P
    ·have z2:=(if_pos hb2).symm.trans z';cases z2;subst hb2;exact hP
    ·have z2:=(if_neg hb2).symm.trans z';cases z2
  ·by_cases hb:b=a
   ·exact .inl hb
   ·by_cases hb2:b=P
    ·exact .inr hb2
    ·exact absurd ((if_neg hb).trans (if_neg hb2)) z
  ·have z':=ea.symm.trans z;cases z';exact⟨_,_,rfl⟩
open PySem PySem.Spec PyProof.Rows L2
theorem jT {α:Type}{P:List α->Prop}(h:∀a,P [a]):∀us:List α,us.length=1->P us
 | [a],_=>h a
theorem gC {α:Type}{P:List α->Prop}(h:∀a b,P [a,b]):∀us:List α,us.length=2->P us
 | [a,b],_=>h a b
theorem BB {α:Type}{P:List α->Prop}(h:∀a b c,P [a,b,c]):∀us:List α,us.length=3->P us
 | [a,b,c],_=>h a b c
theorem iG {P:Nat->Bool->Prop}:∀c b,List.lookup c ([]:List (Nat×Bool))=some b->P c b:=λ_ _ h=>nomatch h
theorem dW {P:Nat->Bool->Prop}{x:Nat}{y:Bool}{l:List (Nat×Bool)}(h:P x y) (hl:∀c b,l.lookup c=some b->P c b):∀c b,List.lookup c ((x,y)::l)=some b->P c b:=λc b e=>by
 rw[gw]at e
 cases q:c==x with
 |true=>rw[q]at e;exact eq_of_beq q▸(cy e)▸h
 |false=>rw[q]at e;exact hl c b e
theorem VR {P:Nat->Prop}:∀c,c<0->P c:=λc h=>absurd h (Nat.not_lt_zero c)
theorem iS {P:Nat->Prop}{n:Nat}(h0:P 0) (h:∀c,c<n->P (c+1)):∀c,c<n+1->P c
 |0,_=>h0
 |c+1,hc=>h c (Nat.lt_of_succ_lt_succ hc)
open PySem PySem.Spec PySem.Calls PyProof.Rows PySem.W L2
abbrev Ys {β:Type}(ob:Frag->β) (obE:β):cw->cz->Prop:=λ_ h=>∃K:Frag,K.In h/\noTabs K=true/\ob K=obE
theorem ys_of {β:Type}{ob:Frag->β}{obE:β}:∀(w:cw) (s:ag),ob (qK s.heap)=obE->Ys ob obE w s.heap:=λ_ s e=>⟨qK s.heap,uD _ _,uE _ _,e⟩
theorem ys_keeps {β:Type}{ob:Frag->β}{obE:β}:∀(w:cw) (h h':cz),Ys ob obE w h->(∀b o,h.get? b=some o->h'.get? b=some o)->Ys ob obE w h':=λ_ _ _ ⟨K,x,n,e⟩ k=>⟨K,x.keeps k,n,e⟩
theorem walkK {β:Type}{ob:Frag->β}{obE:β}{l:OpenLaw}{n k:Nat}{q:bo}{fL:List Str}{XP:(Str->Option af)->cz->Prop}{d:DefRec}{x:Str}
  (hn:l.most=some n) (hn2:n<=cj) (hdf:d.params.defaults=[]) (hr:Room k callerA) (hfind:(recsOf q).find? (λe=>e.name==d.name)=some d)
  (F:∀(K:Frag) (w:cw) (mg:Str->Option af) (fa:ah) (h:cz),ob K=obE->noTabs K=true->K.In h->h.Ns du mg->mg d.name=some (.ref fa)->
   ∃(fd:br) (c P:ah),(∀(s:ag) (u:af),BindsTo s fd ⟨[u],[]⟩ [(x,u)])/\tabIn K d.name=some (c,P)/\noTabs K=true /\
    ∀(base:cz) (a:ah) (ns:List Int),ns.length<=n->K.In base->base.Ns du mg->CodeHd base c P->lS mg base->Lawful l.prog w K mg base k fa fd x P a ns):
  WalkO q fL XP (Ys ob obE) l.row.toRowW d [] (λf vs=>PySem.call f vs):=by
 refine Att.attach_call hn hdf λw s₀ s₁ mg mb fa o pm cd doc a vs ns G Y ho hd hcd hmg hobj hints hlen hg=>?_;obtain⟨K,KX,hnt',hob⟩:=Y;obtain⟨fd,c,P,hb,ht,hnt,hF⟩:=F K w mg fa _ hob hnt' KX G.T.g hmg;obtain⟨hC,hP⟩:=tab_of G.T KX hfind ht;exact VQ KX G.T.g G.T.b G.T.builtins G.T.nolimit hg hobj hints (cq hlen hn2) hr hC hP G.T.bmain hnt (λbase h1 h2 h3 h4=>hF base a ns hlen h1 h2 h3 h4) hb
theorem dG {K:Frag}{f c:ah}{st:gp}{n:Str}{ps:List Str}(h:bK K f=some (fnOf n n (pA st) (jZ st) (bC st) .none .none .none .none none (.ref c) .none)) (hc:codeIn K (.ref c) n=true) (hk:keepIn K (.ref f)=true)
  (hb:∀(kV doc pm:af) (an:Option ah) (cdv ct:af) (us:List af),us.length=ps.length->bindArgs (fnOf n n (pA st) (jZ st) (bC st) .none kV doc pm an cdv ct) ⟨us,[]⟩=pure (ps.zip us)):
  ∃fd:br,Fun K n n st f fd/\Binds K fd ps []/\fd.code=.ref c/\∀us:List af,us.length=ps.length->bindArgs fd ⟨us,[]⟩=pure (ps.zip us):=by
 obtain⟨oc,od,kV,dc,pm,an,ct,sl,e⟩:=NQ h;exact⟨_,GR e hc hk,(GR e hc hk).binds hb,rfl,hb kV dc pm an (.ref c) ct⟩
theorem BC {env:Env}{x:Str}:∀{l:List (Str×jx)},l.lookup x=some .free->(l.map λ(n,k)=>if(k==cf&&env.scope.kind==.function&&env.kindOf n==some .cell)then(n,dv)else(n,k)).lookup x≠some .local
 | [],h=>by simp at h
 |(n,q)::r,h=>by
  rw[gw]at h;rw[dg]
  cases e:x==n with
  |true=>
   rw[e]at h;have hq:q=.free:=cy h;subst hq;dsimp only
   split
   ·rw[gw,e];simp
   ·rw[gw,e];simp
  |false=>
   rw[e]at h;dsimp only
   split
   ·rw[gw,e];exact BC h
   ·rw[gw,e];exact BC h
theorem fT {X:Cx}{sc os:gy}{oN N:List Str}{cap:List (Option Nat)}(hs:X.env.scope.names=os.names) (hN:X.N=oN) (h1:sc.kind=.function) (h2:∀p∈sc.names,p.2=.local->sc.names.lookup p.1=some .local) (h3:cap.length=N.length)
  (h4:∀p∈sc.names,p.2=.free->os.names.lookup p.1=some .cell∨os.names.lookup p.1=some .free) (h5:∀p∈sc.names,p.2=.free->(p.1,dv)∉sc.names) (h6:∀q∈cap.zip N,∀j∈q.1,oN[j]?=some q.2/\sc.names.lookup q.2=some .free):CapOk X sc N cap:=by
 refine⟨h1,h2,h3,λx hx=>?_,λx hx=>h5 _ hx rfl,λi j x e1 e2=>?_⟩
 ·have:=h4 _ hx rfl;rw[<-hs]at this;exact this
 ·have hm:(some j,x)∈cap.zip N:=bz (i:=i) (pw.mpr ⟨e1,e2⟩);obtain⟨a,b⟩:=h6 _ hm j rfl;rw[hN];refine⟨a,fg b, ?_⟩;exact BC b
def fQ:Dv->Dv->Hs->Rs Dv:=fI λi j=>.int (i - j)
def jJ:Dv->Dv->Hs->Rs Dv:=kC rG λi j=>.int (i*j)
def hV:Dv->Dv->Hs->Rs Dv:=kC pF λi j=>.int (i % j)
def mV:Dv->Dv->Hs->Rs Dv:=kC rH λi j=>.int (i ^ j.toNat)
def vU:Dv->Dv->Hs->Rs Dv:=fI λi j=>.bl (decide (i<j))
def hW:Dv->Dv->Hs->Rs Dv:=fI λi j=>.bl (decide (i<=j))
def pM:Dv->Dv->Hs->Rs Dv:=fI λi j=>.bl (decide (i>j))
def jU:Dv->Dv->Hs->Rs Dv:=fI λi j=>.bl (decide (i>=j))
section
variable{X:Cx}{G:Cfg}{E:XK}{k:Nat}{a b:bp}{ma mb:M Dv}{pos:Pos}
theorem oD (ha:aL X G E a ma) (hb:aL X G E b mb):aL X G E (.BinOp a .Sub b pos) (m2 fQ ma mb):=nQ PR SE ha hb
theorem pN (ha:aL X G E a ma) (hb:aL X G E b mb):aL X G E (.BinOp a .Mult b pos) (m2 jJ ma mb):=nQ PU (uZ SF) ha hb
theorem oE (ha:aL X G E a ma) (hb:aL X G E b mb):aL X G E (.BinOp a .Mod b pos) (m2 hV ma mb):=nQ PV (uZ SG) ha hb
theorem BD (ha:aL X G E a ma) (hb:aL X G E b mb):aL X G E (.BinOp a .Pow b pos) (m2 mV ma mb):=nQ PX (uZ SH) ha hb
theorem BE (ha:aL X G E a ma):aL X G E (.UnaryOp .USub a pos) (m1 lT ma):=R8 PZ VP ha
theorem pO (g:Good X G E k) (ha:aL X G E a ma) (hb:aL X G E b mb):aL X G E (.Compare a [.Eq] [b] pos) (m2 cD ma mb):=rA (HE g.room.units) HG ha hb (lL _)
theorem VS (g:Good X G E k) (ha:aL X G E a ma) (hb:aL X G E b mb):aL X G E (.Compare a [.NotEq] [b] pos) (m2 cP ma mb):=rA (HF g.room.units) HH ha hb (lL _)
theorem VT (ha:aL X G E a ma) (hb:aL X G E b mb):fO X G E (.Compare a [.LtE] [b] pos) (mB (m2 hW ma mb)):=mH uN mJ ha hb (lL _)
theorem VU (ha:aL X G E a ma) (hb:aL X G E b mb):fO X G E (.Compare a [.Gt] [b] pos) (mB (m2 pM ma mb)):=mH P0 mJ ha hb (lL _)
theorem BF (ha:aL X G E a ma) (hb:aL X G E b mb):fO X G E (.Compare a [.GtE] [b] pos) (mB (m2 jU ma mb)):=mH P4 mJ ha hb (lL _)
theorem oF (g:Good X G E k) (ha:aL X G E a ma) (hb:aL X G E b mb):fO X G E (.Compare a [.Eq] [b] pos) (mB (m2 cD ma mb)):=mH (HE g.room.units) HG ha hb (lL _)
theorem mW (g:Good X G E k) (ha:aL X G E a ma) (hb:aL X G E b mb):fO X G E (.Compare a [.NotEq] [b] pos) (mB (m2 cP ma mb)):=mH (HF g.room.units) HH ha hb (lL _)
variable{c:bp}{mc:M Dv}
theorem VV (ha:aL X G E a ma) (hb:aL X G E b mb) (hc:aL X G E c mc) (hm:lastMarks [.LtE,.LtE] [b,c]=false:=by with_unfolding_all rfl):aL X G E (.Compare a [.LtE,.LtE] [b,c] pos) (kX hW hW ma mb mc):=HB uN uN mJ mJ ha hb hc hm
theorem VW (ha:aL X G E a ma) (hb:aL X G E b mb) (hc:aL X G E c mc) (hm:lastMarks [.LtE,.Lt] [b,c]=false:=by with_unfolding_all rfl):aL X G E (.Compare a [.LtE,.Lt] [b,c] pos) (kX hW vU ma mb mc):=HB uN zQ mJ mJ ha hb hc hm
end
def mX:Ty->Option Bool
 | .bl=>some true | .int=>some true | .exc _=>none|_=>some false
def jV:Ty->Option Bool
 | .bl=>some true | .exc _=>none|_=>some false
def gD:Ty->Option Bool
 | .tup=>some true | .exc _=>none|_=>some false
def sF:Ty->Option Bool
 | .lst=>some true | .exc _=>none|_=>some false
def pP:Ty->Option Bool
 | .tup=>some true | .lst=>some true | .exc _=>none|_=>some false
section
variable{K:ao}{cl:Nat->ah}
theorem VX:∀ty bb,mX ty=some bb->cu K (lC cl ty) (.type "int")=some bb:=by intro ty bb h;cases ty <;> first|(cases h;rfl)|cases h
theorem VY:∀ty bb,jV ty=some bb->cu K (lC cl ty) (.type "bool")=some bb:=by intro ty bb h;cases ty <;> first|(cases h;rfl)|cases h
theorem VZ:∀ty bb,gD ty=some bb->cu K (lC cl ty) (.type "tuple")=some bb:=by intro ty bb h;cases ty <;> first|(cases h;rfl)|cases h
theorem V0:∀ty bb,sF ty=some bb->cu K (lC cl ty) (.type "list")=some bb:=by intro ty bb h;cases ty <;> first|(cases h;rfl)|cases h
theorem V1:∀ty bb,pP ty=some bb->PySem.W.kitAny K (lC cl ty) [.type "tuple",.type "list"]=some bb:=by intro ty bb h;cases ty <;> first|(cases h;rfl)|cases h
end
theorem V2:df "int" = some (.type "int"):=by decide +kernel
theorem V3:df "bool" = some (.type "bool"):=by decide +kernel
theorem V4:df "ValueError" = some (.type "ValueError"):=by decide +kernel
def dM (nn:Option Bool) (tbl:List (Nat×Bool)):Ty->Option Bool
 | .exc c=>tbl.lookup c
 | .non=>nn
 |_=>none
section
variable{X:Cx}{G:Cfg}{E:XK}{a:bp}{ma:M Dv}{p q r pos:Pos}
theorem JL (hg:Gl X "isinstance") (hm:X.mg "isinstance" = none) (hg':Gl X "int") (hm':X.mg "int" = none) (ha:aL X G E a ma) (he:au [a,.Name "int" q] X.env=[(false,eval a X.env),(false,eval (.Name "int" q) X.env)]:=by rfl):
  aL X G E (.Call (.Name "isinstance" p) [a,.Name "int" q] [] pos) (m1 (bG mX) ma):=pJ hg hm ha (oA hg' hm' V2) (.inl ⟨_,rfl⟩) rfl VX (λc bb h=>by cases h) he
theorem vV (hg:Gl X "isinstance") (hm:X.mg "isinstance" = none) (hg':Gl X "bool") (hm':X.mg "bool" = none) (ha:aL X G E a ma) (he:au [a,.Name "bool" q] X.env=[(false,eval a X.env),(false,eval (.Name "bool" q) X.env)]:=by rfl):
  aL X G E (.Call (.Name "isinstance" p) [a,.Name "bool" q] [] pos) (m1 (bG jV) ma):=pJ hg hm ha (oA hg' hm' V3) (.inl ⟨_,rfl⟩) rfl VY (λc bb h=>by cases h) he
theorem pQ (hg:Gl X "isinstance") (hm:X.mg "isinstance" = none) (hg':Gl X "tuple") (hm':X.mg "tuple" = none) (ha:aL X G E a ma) (he:au [a,.Name "tuple" q] X.env=[(false,eval a X.env),(false,eval (.Name "tuple" q) X.env)]:=by rfl):
  aL X G E (.Call (.Name "isinstance" p) [a,.Name "tuple" q] [] pos) (m1 (bG gD) ma):=pJ hg hm ha (oA hg' hm' vA) (.inl ⟨_,rfl⟩) rfl VZ (λc bb h=>by cases h) he
theorem JM (hg:Gl X "isinstance") (hm:X.mg "isinstance" = none) (hg':Gl X "list") (hm':X.mg "list" = none) (ha:aL X G E a ma) (he:au [a,.Name "list" q] X.env=[(false,eval a X.env),(false,eval (.Name "list" q) X.env)]:=by rfl):
  aL X G E (.Call (.Name "isinstance" p) [a,.Name "list" q] [] pos) (m1 (bG sF) ma):=pJ hg hm ha (oA hg' hm' vB) (.inl ⟨_,rfl⟩) rfl V0 (λc bb h=>by cases h) he
theorem V5:∀us',Vals [.ty "tuple",.ty "list"] us'->us'=[.type "tuple",.type "list"]:=by
 intro us' h
 cases h with
 |cons r rr=>
  cases rr with
  |cons r' rr=>
   cases rr
   cases r;cases r'
   rfl
theorem V6 {kt:Nat}{p':Pos}(hg:Gl X "isinstance") (hm:X.mg "isinstance" = none) (hg':Gl X "tuple") (hm':X.mg "tuple" = none) (hg'':Gl X "list") (hm'':X.mg "list" = none) (ha:aL X G E a ma)
  (he:au [a,.Tuple [.Name "tuple" q,.Name "list" r] kt p] X.env=[(false,eval a X.env),(false,eval (.Tuple [.Name "tuple" q,.Name "list" r] kt p) X.env)]:=by rfl):
  aL X G E (.Call (.Name "isinstance" p') [a,.Tuple [.Name "tuple" q,.Name "list" r] kt p] [] pos) (m1 (bG pP) ma):=
 T4 (cs:=[.ty "tuple",.ty "list"]) hg hm ha (gW (oA hg' hm' vA) (gW (oA hg'' hm'' vB) jA)) (by decide) V5 V1 (λc bb h=>by cases h) he
theorem iT {x:Str}{C:ah}{nn:Option Bool}{tbl:List (Nat×Bool)}(hg:Gl X "isinstance") (hm:X.mg "isinstance" = none) (hg':Gl X x) (hm':X.mg x=some (.ref C)) (ha:aL X G E a ma)
  (hn:∀b,nn=some b->cu G.K (.type "NoneType") (.ref C)=some b) (ht:∀c b,tbl.lookup c=some b->cu G.K (.ref (G.cl c)) (.ref C)=some b/\ExK G.K (G.cl c)) (hd:(x==("__debug__" : Str))=false:=by decide)
  (he:au [a,.Name x q] X.env=[(false,eval a X.env),(false,eval (.Name x q) X.env)]:=by rfl) (he2:au [.Name x q] X.env=[(false,eval (.Name x q) X.env)]:=by rfl):
  aL X G E (.Call (.Name "isinstance" p) [a,.Name x q] [] pos) (m1 (bG (dM nn tbl)) ma):=
 pJ hg hm ha (FH (v:=.ref C) hg' hm' rfl hd) (.inr ⟨_,rfl⟩) rfl (λty bb h=>by
  cases ty with
  |exc c=>exact(ht c bb h).1
  |non=>exact hn bb h
  |_=>cases h) (λc bb h=>(ht c bb h).2) he he2
theorem V7 {nn:Option Bool}{tbl:List (Nat×Bool)}(hg:Gl X "isinstance") (hm:X.mg "isinstance" = none) (hg':Gl X "ValueError") (hm':X.mg "ValueError" = none) (ha:aL X G E a ma)
  (hn:∀b,nn=some b->cu G.K (.type "NoneType") (.type "ValueError")=some b) (ht:∀c b,tbl.lookup c=some b->cu G.K (.ref (G.cl c)) (.type "ValueError")=some b/\ExK G.K (G.cl c))
  (he:au [a,.Name "ValueError" q] X.env=[(false,eval a X.env),(false,eval (.Name "ValueError" q) X.env)]:=by rfl):
  aL X G E (.Call (.Name "isinstance" p) [a,.Name "ValueError" q] [] pos) (m1 (bG (dM nn tbl)) ma):=
 pJ hg hm ha (oA hg' hm' V4) (.inl ⟨_,rfl⟩) rfl (λty bb h=>by
  cases ty with
  |exc c=>exact(ht c bb h).1
  |non=>exact hn bb h
  |_=>cases h) (λc bb h=>(ht c bb h).2) he
end
section
variable{P:bo}{w:cw}{K:ao}{mg:Str->Option af}{base:cz}{f:ah}{G:Cfg}{k:Nat}{N:List Str}
theorem V8 {x qual:Str}{st:gp}{fd:br}{ps:List Str}{mb:MS}(Fn:Fun K x qual st f fd) (S:FnScope N ps (bC st)) (hK:K=G.K)
  (hbody:∀(cdv:af) (A:cx) (outer:List Env) (s:ag) (H:Hp) (E₀ E:XK),fd.code=cdv->Good (fS (bR P w base) P w K mg base N qual (bC st) f cdv A outer s H E₀) G E k->jC (fS (bR P w base) P w K mg base N qual (bC st) f cdv A outer s H E₀) G E (jZ st) mb):
  FnOk P w K mg base (bR P w base) (k+1) f fd ps (cN G (aZ ps.length N.length mb)):=by
 obtain⟨oc,od,kV,doc,pm,an,cdv,ct,osl,rfl,lk,hcd⟩:=Fn.ex;have hlen:∀vs H Q E,cN G (aZ ps.length N.length mb) vs H Q E->vs.length=ps.length:=λvs H Q E ⟨μ,h,ds,r,sm,o⟩=>by
  rw[r.length];unfold aZ at o
  by_cases hd:ds.length=ps.length
  ·exact hd
  ·rw[if_neg hd]at o;exact o.elim
 refine zS lk hcd S hlen λA outer s H vs Q E hr hsp=>?_;have hl:=hlen _ _ _ _ hsp;obtain⟨μ,h,ds,r,sm,o⟩:=hsp;have o':Out G E μ h.length H (bM (mb (bU N.length ds) h)) (RelD G) Q:=by unfold aZ at o;rw[if_pos (by rw[<-r.length];exact hl)]at o;exact o
 refine⟨_,hbody cdv A outer s H E (EB G μ h.length H (mb (bU N.length ds) h)) rfl (A0 hr hK (λu H' ⟨c,h',μ',er,x,s',fl⟩=>?_) A1) hK, ?_⟩
 ·rw[er]at o';exact o' μ' H' u x s' fl
 ·refine⟨μ,bU N.length ds,h,ID r N,sm, ?_⟩
  cases q:mb (bU N.length ds) h with
  |bad=>rw[q]at o';exact o'.elim
  |bk ρ h'=>rw[q]at o';exact o'.elim
  |ct ρ h'=>rw[q]at o';exact o'.elim
  |rt d h'=>rw[q]at o';exact o'
  |nx ρ h'=>rw[q]at o';exact λμ' H' σ' x' s' rs'=>o' μ' H' .non x' s' rfl
  |ex c h'=>exact λμ' H' u x' s' fl=>⟨c,h',μ',rfl,x',s',fl⟩
theorem V9 {fd:br}{ps:List Str}:FnOk P w K mg base (bR P w base) k f fd ps (cN G (λ_ _=>.bad)):=⟨λvs H Q E ⟨_,_,_,_,_,o⟩=>o.elim,λ_ _ _ _ _ _ _ _ _ _ _ _ _ ⟨_,_,_,_,_,o⟩=>o.elim⟩
end
section
variable{X:Cx}{G:Cfg}{E:XK}{k:Nat}{q x:Str}{p pos lpos:Pos}{params:kq}{body:bp}{scope os:gy}{c P fr:ah}{fdr:br}{Nl oN:List Str}{me:M Dv}{n ncl j:Nat}{mb:MS}{caps:List Nat}
theorem JN (g:Good X G E k) (hj:j<=k) (hfn:∀y,X.fn y=true)
  (F:∀base,X.K.In base->base.Ns du X.mg->FnOk X.prog X.w X.K X.mg base (bR X.prog X.w base) j fr fdr [x] (vP G base Nl params body scope me n ncl mb))
  (hg:Gl X q) (hm:X.mg q=some (.ref fr)) (hk:lj X.K (.ref fr)=true) (hb:Binds X.K fdr [x] [])
  (hdef:defaultsOf params X.env=([],[])) (hq:X.env.qual ++ "<lambda>" = G.lq) (hP:G.tab=some P) (hcode:X.env.code=.ref c) (hC:kj X.base c P) (hB:lS X.mg X.base)
  (LS:LamScope Nl scope) (hs:X.env.scope.names=os.names) (hN:X.N=oN) (hkind:∀y∈Nl,os.names.lookup y=some .cell) (hcl:caps.length=Nl.length) (hcap:∀z∈caps.zip Nl,oN[z.1]?=some z.2)
  (hdb:(q==("__debug__" : Str))=false:=by decide) (he:au [.Lambda params body scope lpos] X.env=[(false,eval (.Lambda params body scope lpos) X.env)]:=by rfl):
  aL X G E (.Call (.Name q p) [.Lambda params body scope lpos] [] pos) (kF caps n ncl mb me):=
 VH g hj hfn F hg hm hk hb hdef hq hP hcode hC hB LS (λy hy=>by rw[hs];exact hkind y hy) hcl (λi j y e1 e2=>by rw[hN];exact hcap (j,y) (bz (i:=i) (pw.mpr ⟨e1,e2⟩))) hdb he
end
def eY:Dv->Bool
 | .scr=>false
 |_=>true
def aN (x y:Dv) (h:Hs):Rs Dv:=if eY x=true then fJ [] x y h else .bad
def eZ (x:Dv) (h:Hs):Rs Dv:=if eY x=true then iN [] x h else .bad
def kG (x:Dv) (h:Hs):Rs Dv:=if eY x=true then pI [] x h else .bad
def eR (neg:Bool) (x y:Dv) (h:Hs):Rs Dv:=if eY y=true then mT [] neg x y h else .bad
theorem BG {scr:List Int}{x:Dv}{h:Hs}(e:eY x=true):gA [] x h=gA scr x h:=by cases x <;> first|rfl|cases e
section
variable{X:Cx}{G:Cfg}{E:XK}{k:Nat}{a b e:bp}{es:List bp}{ma mb:M Dv}{aV:M (List Dv)}{p pos:Pos}
theorem WA:fH G (zW G.K) aN:=by
 intro E μ h H x y vx vy Q s rx ry o;unfold aN at o
 split at o
 ·rename_i hx;refine HI E μ h H x y vx vy Q s rx ry ?_;have e:fJ G.scr x y h=fJ [] x y h:=by cases x <;> cases y <;> first|rfl|exact absurd hx (by decide)
  rw[e];exact o
 ·exact o.elim
theorem WB:kY G (HN G.K) eZ:=by
 intro E μ h H x vx Q s rx o;unfold eZ at o
 split at o
 ·rename_i hx;refine HP E μ h H x vx Q s rx ?_;unfold iN at o ⊢;rw[<-BG hx];exact o
 ·exact o.elim
theorem WC:kY G (λx H Q=>∃p ys,x=.ref p/\(SqL G.K H p ys∨SqT G.K H p ys)/\∀l,H l=none->Q (.ref l) (aW H l (.lst ys))) kG:=by
 intro E μ h H x vx Q s rx o;unfold kG at o
 split at o
 ·rename_i hx;refine SY E μ h H x vx Q s rx ?_;unfold pI at o ⊢;rw[<-BG hx];exact o
 ·exact o.elim
theorem vW (neg:Bool):fH G (vQ G.K neg) (eR neg):=by
 intro E μ h H x y vx vy Q s rx ry o;unfold eR at o
 split at o
 ·rename_i hx;refine VI neg E μ h H x y vx vy Q s rx ry ?_;unfold mT at o ⊢;rw[<-BG hx];exact o
 ·exact o.elim
theorem cB (ha:aL X G E a ma) (hb:aL X G E b mb) (hs:zV b:=by intro _ _;rfl):aL X G E (.Subscript a b pos) (m2 aN ma mb):=λhK=>PE.imp (GC (by have:=GH (X:=X);rw[hK]at this;exact this) (ha hK) (hb hK) hs) λ_ _ _ t=>qZ WA t
theorem pR (hg:Gl X "len") (hm:X.mg "len" = none) (ha:eC X G E (e::es) aV)
  (he:au (e::es) X.env=(false,eval e X.env)::au es X.env:=by rfl) (hpl:(backTo pos (au es X.env)).any (·.1)=false:=by rfl):aL X G E (.Call (.Name "len" p) (e::es) [] pos) (aH (f1 eZ) aV):=λhK=>
 nV (CallR.imp (GI (X:=X)) λxs H Q ⟨v,h1,a,ys,h2,h3,h4⟩=>⟨a,ys,by rw[h1,h2],by rw[hK];exact h3,h4⟩) (nW WB) hg hm PySem.boot_len ha (by decide) (by decide) he hpl hK
theorem JO (hg:Gl X "list") (hm:X.mg "list" = none) (ha:eC X G E (e::es) aV)
  (he:au (e::es) X.env=(false,eval e X.env)::au es X.env:=by rfl) (hpl:(backTo pos (au es X.env)).any (·.1)=false:=by rfl):aL X G E (.Call (.Name "list" p) (e::es) [] pos) (aH (f1 kG) aV):=λhK=>
 HM (CallR.imp (RG (X:=X)) λxs H Q ⟨v,h1,a,ys,h2,h3,h4⟩=>⟨a,ys,by rw[h1,h2],by rw[hK];exact h3,h4⟩) (nW WC) hg hm vB ha (by decide) (by decide) he hpl hK
end
theorem WD (h l:Hs) (k:Nat):getL (h++l) (h.length+k)=getL l k:=by unfold getL;rw[gb (by omega),show h.length+k - h.length=k by omega]
theorem WE (h l:Hs):getL (h++l) h.length=getL l 0:=WD h l 0
theorem WG (h l:Hs) (k:Nat) (o:Ob):(h++l).set (h.length+k) o=h++l.set k o:=by rw[List.set_append_right _ _ (by omega),show h.length+k - h.length=k by omega]
theorem WH (h l:Hs) (o:Ob):(h++l).set h.length o=h++l.set 0 o:=WG h l 0 o
section
variable{n:Nat}
end
section
variable{ma mb mc:M Dv}{aV:M (List Dv)}{t u:M Bool}{f f':Dv->Dv->Hs->Rs Dv}{g:Dv->Hs->Rs Dv}{F:List Dv->Hs->Rs Dv}
end
section
variable{mi mi':M Src}{st st':dP}{test test':M Bool}{inner:MC}{me:M Dv}{cap:List (Option Nat)}
end
section
variable{mo me mi:M Dv}{ml:M (List Dv)}{m u:MS}{t:M Bool}
end
def iH:Dv->Option Int
 | .int i=>some i
 |_=>none
theorem sG {G:Cfg}{μ:Nat->ah}{n:Nat}{H:Hp}:∀{xs:List Dv}{vs:List V}{ns:List Int},RelDL G μ n H xs vs->bW iH xs=some ns->vs=ns.map V.int
 | [],_,ns,r,e=>by cases e;rw[RelDL]at r;subst r;rfl
 |x::xs,_,ns,r,e=>by
  rw[RelDL]at r;obtain⟨v,rr,rfl,r1,r2⟩:=r;unfold bW at e
  cases x with
  |int i=>
   dsimp only[iH]at e
   cases q:bW iH xs with
   |none=>rw[q]at e;cases e
   |some zs=>rw[q]at e;cases e;rw[RelD]at r1;subst r1;rw[sG r2 q];rfl
  |_=>cases e
section
variable{X:Cx}{G:Cfg}{E:XK}{e a b:bp}{es:List bp}{ma mb:M Dv}{aV:M (List Dv)}{p pos:Pos}
theorem vX {ns:List Int}{its:List af}(rv:Vals (ns.map V.int) its) {i:Nat}{v:af}(e:its.toArray[i]?=some v):∃t,v=.int (ns.getD i 0) t:=by
 have hl:=rv.length;rw[bj]at hl;have e':its[i]?=some v:=by simpa using e
 have hi:i<its.length:=(az.mp e').1;have hb:i<ns.length:=by omega
 obtain⟨u,e2,r⟩:=rv.get (i:=i) (x:=V.int ns[i]) (by simp[hb]);rw[e']at e2;cases e2;have hg:ns.getD i 0=ns[i]:=by simp[kv,hb]
 rw[hg];exact r
def kH:Dv->Dv->Hs->Rs Dv
 | .ref i,.int k,h=>match getL h i with
  |some xs=>if(eV k&&decide (k<9223372036854775808)&&decide (-9223372036854775808<=k)&&decide (xs.length*k.toNat<=1000000))=true then .ok (.ref h.length) (h++[.lst (ba k.toNat xs).flatten])else .bad
  |none=>.bad
 |_,_,_=>.bad
theorem RelDL.rep {μ:Nat->ah}{n:Nat}{H:Hp}{ds:List Dv}{vs:List V}(r:RelDL G μ n H ds vs):∀k:Nat,RelDL G μ n H (ba k ds).flatten (ba k vs).flatten
 |0=>RelDL.nil
 |k+1=>by rw[jc,jc,ki,ki];exact r.append (RelDL.rep r k)
theorem WI:fH G GP kH:=by
 intro E μ h H x y vx vy Q s rx ry o
 cases x with
 |ref i=>
  cases y with
  |int k=>
   dsimp only[kH]at o
   cases q:getL h i with
   |none=>rw[q]at o;exact o.elim
   |some xs=>
    rw[q]at o;dsimp only at o
    split at o
    ·rename_i hb;simp only[dj,decide_eq_true_eq]at hb;obtain⟨⟨⟨_,h1⟩,h2⟩,h3⟩:=hb;obtain⟨vs,e1,r1⟩:=s.ob i _ (cY q);obtain⟨_,rfl⟩:=rx;rw[RelD]at ry;subst ry;refine⟨_,k,vs,rfl,rfl,e1,by omega,by omega,by rw[r1.length];exact cq h3 (by decide),λp hp=>?_⟩;exact nO s (r1.rep k.toNat) hp o
    ·exact o.elim
  |_=>exact o.elim
 |_=>cases y <;> exact o.elim
theorem JP (ha:aL X G E a ma) (hb:aL X G E b mb):aL X G E (.BinOp a .Mult b pos) (m2 kH ma mb):=nQ RS WI ha hb
end
def JQ (K:ao) (l:ah):It:=⟨λi H=>∃xs x,SqL K H l xs/\xs[i]?=some x,λi H x H'=>∃pp v,x=.ref pp/\H pp=none/\H'=aW H pp (.tup [.int i,v])/\∀xs,SqL K H l xs->xs[i]?=some v,λi H=>∃xs,SqL K H l xs/\xs.length<=i⟩
def WJ (e it l:ah) (i:Nat) (h:cz):Prop:=(∃old,IsEnum h e it i old)/\h.IsListIter it l i
theorem WK {P:bo}{w:cw}{K:ao}{elts:List bp}{kk:Nat}{tp:Pos}{e it l:ah}(hei:e≠it):Turn P w K (.Tuple elts kk tp) (JQ K l) [e,it] e (WJ e it l) where
 mem:=by simp
 obj:=λi h st b hb=>by
  obtain⟨⟨old,he⟩,o,ho,_,hd⟩:=st;simp at hb
  rcases hb with rfl|rfl
  ·exact⟨_,he,λv q=>by cases q⟩
  ·exact⟨_,ho,λv q=>by rw[hd]at q;cases q⟩
 keep:=λi h h' st k=>by obtain⟨⟨old,he⟩,hit⟩:=st;exact⟨⟨old,k _ (by simp) _ he⟩,hit.at λo q=>k it (by simp) o q⟩
 item:=by
  intro X hP hw hK hc i pins s σ H E I hf st hg;subst hP hw hK;obtain⟨xs,x,hq,hx⟩:=hg;obtain⟨its,rv,p,hz⟩:=I.list hq;obtain⟨u,hu,ru⟩:=rv.get hx;obtain⟨⟨old,he⟩,hit⟩:=st;refine wpAny_pyNext_enum_item he hit p.isList (x:=u) (by simpa using hu) hei λh' ho hit' hT hsz hk=>⟨_,rfl, ?_⟩
  refine wpAny_letOwnedTupleGo_enum ho λh2 he2 sb=>?_;have Te:s.heap.objs.size≠e:=je (aq he);have nT:H s.heap.objs.size=none:=I.hok.fresh (aj _);have kp:∀b o,b∉[e,it]->s.heap.get? b=some o->h2.get? b=some o:=λb o hb q=>by simp at hb;exact sb.extBut _ _ hb.1 (hk b o hb.1 hb.2 q)
  have it2:h2.IsListIter it l (i+1):=hit'.at λo q=>(sb.2 it (da hei)).trans q;have th:∀b∈[e,it],∃o,h2.get? b=some o:=λb hb=>by
   simp at hb
   rcases hb with rfl|rfl
   ·exact⟨_,he2⟩
   ·obtain⟨o,q,_⟩:=it2;exact⟨_,q⟩
  have I1:=I.tok (s.toks+1);have I2:=Inv.turns (T:=s.heap.objs.size) (vs:=[.int i,x]) (its:=[.int i s.toks,u]) I1 hf kp th (aj _) (.cons ⟨_,rfl⟩ (.cons ru .nil)) (by show 2<=cj;decide) ⟨_,sb.extBut _ _ Te hT,rfl,rfl,_,rfl⟩;refine⟨.ref s.heap.objs.size,_,I2,rfl,⟨_,x,rfl,nT,rfl,λys hy=>by rw[I.list_inj hy hq];exact hx⟩,⟨⟨_,he2⟩,it2⟩,λb hb=>?_⟩;obtain⟨o,q⟩:∃o,s.heap.get? b=some o:=by
   simp at hb
   rcases hb with rfl|rfl
   ·exact⟨_,he⟩
   ·obtain⟨o,q,_⟩:=hit;exact⟨_,q⟩
  rw[bT (bf (aq q))];exact(hf b hb).1
 done:=by
  intro X hP hw hK hc i pins s σ H E I hf st hg;subst hP hw hK;obtain⟨xs,hq,hx⟩:=hg;obtain⟨its,rv,p,hz⟩:=I.list hq;have hl:=rv.length;obtain⟨⟨old,he⟩,hit⟩:=st;refine wpAny_pyNext_enum_end (I.ok.hd hc) he hit p.isList (lx (by simp;omega)) λh' eb=>⟨rfl, ?_⟩
  refine Inv.turns0 I hf λb o hb q=>?_;simp at hb;exact eb b o hb.2 q
 self:=λ_ _ _ _ _ st h=>by obtain⟨⟨old,he⟩,_⟩:=st;exact wpAny_pyIter_enum he h
section
variable{X:Cx}{G:Cfg}{E:XK}{a:bp}{elts:List bp}{kk:Nat}{tp p pos:Pos}{ma:M Dv}{ms:M (List Dv)}
theorem WL:df "enumerate" = some (.type "enumerate"):=by decide +kernel
def kJ (i n:Nat):Src:=⟨n,λk h=>match getL h i with
 |some xs=>if xs.length=n then(xs[k]?).map λd=>.tup [.int k,d]else none
 |none=>none,λh=>match getL h i with
 |some xs=>xs.length==n
 |none=>false⟩
def pS:List Dv->Hs->Rs Src
 | [.ref i],h=>match getL h i with
  |some xs=>.ok (kJ i xs.length) h
  |none=>.bad
 |_,_=>.bad
theorem WM (hg:Gl X "enumerate") (hm:X.mg "enumerate" = none) (ha:eC X G E [a] ms) (hs:au [a] X.env=[(false,eval a X.env)]:=by rfl):
  jF X G E (.Tuple elts kk tp) (.Call (.Name "enumerate" p) [a] [] pos) (aV pS ms):=λhK pins s σ H R I ⟨μ,ρ,h,rs,sm,o⟩=>by
 refine Call_ (nL I hg hm WL (iq (bD (ha hK pos pins s σ H _ I (kA rs sm o λμ1 ds h1 vs H1 x1 rs1 s1 r1 o1=>show ∃l xs,vs=[.ref l]/\SqL X.K H1 l xs/\R (JQ X.K l) H1 from ?_)) λus s1 ⟨vs,H1,I1,r1,q1⟩=>?_) hs rfl))
 ·unfold pS at o1
  split at o1
  ·rename_i i
   cases q:getL h1 i with
   |none=>rw[q]at o1;exact o1.elim
   |some xs=>
    rw[q]at o1;obtain⟨v,rfl,rv⟩:=pG r1;obtain⟨_,rfl⟩:=rv;obtain⟨vs1,e1,r2⟩:=s1.ob i _ (cY q);refine⟨μ1 i,vs1,rfl,SqL.of e1,o1.val s1 ?_⟩;intro k μ2 h2 H2 x2 s2;have hi1:i<h1.length:=(az.mp (cY q)).1;constructor
    ·intro hk d hd;dsimp only[kJ]at hd
     cases q2:getL h2 i with
     |none=>rw[q2]at hd;cases hd
     |some ys=>
      rw[q2]at hd;dsimp only at hd
      split at hd
      ·obtain⟨ws,e3,r3⟩:=s2.ob i _ (cY q2);rw[x2.mu i hi1]at e3
       cases q3:ys[k]? with
       |none=>rw[q3]at hd;cases hd
       |some d'=>rw[q3]at hd;cases hd;obtain⟨v',ev,rv'⟩:=r3.get q3;refine⟨⟨ws,v',SqL.of e3,ev⟩,λx H' hy=>?_⟩;obtain⟨pp,v1,rfl,np,rfl,a1⟩:=hy;have b1:=a1 ws (SqL.of e3);rw[ev]at b1;cases b1;have smm:Same H2 (aW H2 pp (.tup [.int k,v'])):=cR np;exact⟨smm,pp,_,rfl,cU,RelDL.cons rfl (RelDL.cons (RelD.mono (Ext.same smm) _ _ rv') RelDL.nil)⟩
      ·cases hd
    ·intro hk hf;dsimp only[kJ]at hf hk
     cases q2:getL h2 i with
     |none=>rw[q2]at hf;cases hf
     |some ys=>
      rw[q2]at hf;obtain⟨ws,e3,r3⟩:=s2.ob i _ (cY q2);rw[x2.mu i hi1]at e3;have hl:ys.length=xs.length:=by simpa using hf
      exact⟨ws,SqL.of e3,by rw[r3.length];omega⟩
  ·exact o1.elim
 ·obtain⟨l,xs,e,hq,q⟩:=q1;subst e;obtain⟨u1,rfl,e1⟩:=iL r1;cases e1;obtain⟨its,rv,p1,hz⟩:=I1.list hq;refine call_enumerate_list p1.isList λh' he hit hsz kp=>?_;have I2:Inv X pins σ H1 { s1 with heap:=h' }:=I1.kept (t':=s1.toks) kp;refine wpAny_pyIter_enum he ⟨s1.heap.objs.size+1,[s1.heap.objs.size+1,s1.heap.objs.size],_,_,H1,rfl,I2,WK (l:=l) (nu _),⟨⟨_,he⟩,hit⟩,λb hb=>?_,q⟩;have hb':s1.heap.objs.size<=b:=by
   simp at hb
   rcases hb with rfl|rfl <;> omega
  exact I1.fpOk hb' (I1.hok.fresh hb')
end
def gE (g:Int->Int->Bool) (val:Nat->Int):Nat->Int
 |0=>val 0
 |k+1=>if g (val (k+1)) (gE g val k)then val (k+1)else gE g val k
theorem BH (g:Int->Int->Bool) (val:Nat->Int):∀k,val (argBest (λi j=>g (val i) (val j)) k)=gE g val k
 |0=>rfl
 |k+1=>by
  rw[argBest,gE,<-BH g val k]
  split <;> rfl
def cO (ns:List Int):Int:=gE (λa b=>decide (a>b)) (λi=>ns.getD i 0) (ns.length - 1)
def gF (ns:List Int):Int:=gE (λa b=>decide (a<b)) (λi=>ns.getD i 0) (ns.length - 1)
section
variable{X:Cx}{G:Cfg}{E:XK}{e a b:bp}{es:List bp}{ma mb:M Dv}{aV:M (List Dv)}{p pos:Pos}
abbrev BI (f:List Int->Int):List V->Hp->VK->Prop:=λxs H Q=>∃(p:ah) (ns:List Int),xs=[.ref p]/\H p=some (.lst (ns.map V.int))/\0<ns.length/\Q (.int (f ns)) H
theorem WN (hc:X.calm=true):CallR X (.builtin "max") (BI cO):=by
 intro pins s σ H xs us Q I rv ⟨p,ns,e,hp,h0,q⟩;subst e;obtain⟨u,rfl,ru⟩:=iL rv;cases ru;obtain⟨its,rits,pl,hz⟩:=I.list (SqL.of hp);have hn:its.toArray.size=ns.length:=by have:=rits.length;simp at this ⊢;omega
 have lp:=I.hok.lt hp;have ne:p≠s.heap.objs.size:=bf lp;refine call_max_walk (ku pl.isList ⟨_,_,_,_,_,_,_,rfl,ue (A:=X.A.in1) (show X.A.in1.handled=none from I.ok.hd hc) _ p ne its.toArray,⟨⟨_,bc _ rfl,rfl,rfl⟩,pl.isList.push _⟩,λb hb=>?_,by rw[hn];exact h0,CmpOf.ints_gt (λi=>ns.getD i 0) (λi v ev=>vX rits ev),λv h' tk ev k=>?_⟩)
 ·simp only[dw];simp at hb
  rcases hb with rfl|rfl
  ·exact ji _
  ·exact ja lp
 ·obtain⟨t',rfl⟩:=vX rits ev;refine⟨.int (cO ns),H,(vL (tk:=tk) I k:Inv X pins σ H { s with heap:=h',toks:=tk }),⟨t', ?_⟩,q⟩;rw[hn];rw[BH (λa b=>decide (a>b)) (λi=>ns.getD i 0)];rfl
theorem WO (hc:X.calm=true):CallR X (.builtin "min") (BI gF):=by
 intro pins s σ H xs us Q I rv ⟨p,ns,e,hp,h0,q⟩;subst e;obtain⟨u,rfl,ru⟩:=iL rv;cases ru;obtain⟨its,rits,pl,hz⟩:=I.list (SqL.of hp);have hn:its.toArray.size=ns.length:=by have:=rits.length;simp at this ⊢;omega
 have lp:=I.hok.lt hp;have ne:p≠s.heap.objs.size:=bf lp;refine call_min_walk (ku pl.isList ⟨_,_,_,_,_,_,_,rfl,ue (A:=X.A.in1) (show X.A.in1.handled=none from I.ok.hd hc) _ p ne its.toArray,⟨⟨_,bc _ rfl,rfl,rfl⟩,pl.isList.push _⟩,λb hb=>?_,by rw[hn];exact h0,CmpOf.ints_lt (λi=>ns.getD i 0) (λi v ev=>vX rits ev),λv h' tk ev k=>?_⟩)
 ·simp only[dw];simp at hb
  rcases hb with rfl|rfl
  ·exact ji _
  ·exact ja lp
 ·obtain⟨t',rfl⟩:=vX rits ev;refine⟨.int (gF ns),H,(vL (tk:=tk) I k:Inv X pins σ H { s with heap:=h',toks:=tk }),⟨t', ?_⟩,q⟩;rw[hn];rw[BH (λa b=>decide (a<b)) (λi=>ns.getD i 0)];rfl
def eS (f:List Int->Int) (x:Dv) (h:Hs):Rs Dv:=match x with
 | .ref i=>match getL h i with
  |some xs=>match bW iH xs with
   |some ns=>if 0<ns.length then .ok (.int (f ns)) h else .bad
   |none=>.bad
  |none=>.bad
 |_=>.bad
theorem JR {f:List Int->Int}:kY G (λx H Q=>BI f [x] H Q) (eS f):=by
 intro E μ h H x vx Q s r o
 cases x with
 |ref i=>
  dsimp only[eS]at o
  cases q:getL h i with
  |none=>rw[q]at o;exact o.elim
  |some xs=>
   rw[q]at o;dsimp only at o
   cases q2:bW iH xs with
   |none=>rw[q2]at o;exact o.elim
   |some ns=>
    rw[q2]at o;dsimp only at o
    split at o
    ·rename_i h0;obtain⟨vs,e1,r1⟩:=s.ob i _ (cY q);obtain⟨_,rfl⟩:=r;exact⟨_,ns,rfl,by rw[e1,sG r1 q2],h0,o.val s rfl⟩
    ·exact o.elim
 |_=>exact o.elim
theorem WQ:df "sorted" = some (.builtin "sorted"):=by decide +kernel
theorem vY (hc:X.calm=true) (hg:Gl X "max") (hm:X.mg "max" = none) (ha:eC X G E [e] aV)
  (he:au [e] X.env=[(false,eval e X.env)]:=by rfl):aL X G E (.Call (.Name "max" p) [e] [] pos) (aH (f1 (eS cO)) aV):=
 nV (CallR.imp (WN hc) λxs H Q ⟨v,h1,a,ns,h2,h3⟩=>⟨a,ns,by rw[h1,h2],h3⟩) (nW JR) hg hm HJ ha (by decide) (by decide) he rfl
theorem WR (hc:X.calm=true) (hg:Gl X "min") (hm:X.mg "min" = none) (ha:eC X G E [e] aV)
  (he:au [e] X.env=[(false,eval e X.env)]:=by rfl):aL X G E (.Call (.Name "min" p) [e] [] pos) (aH (f1 (eS gF)) aV):=
 nV (CallR.imp (WO hc) λxs H Q ⟨v,h1,a,ns,h2,h3⟩=>⟨a,ns,by rw[h1,h2],h3⟩) (nW JR) hg hm HK ha (by decide) (by decide) he rfl
end
section
variable{X:Cx}{G:Cfg}{E:XK}{e o a b:bp}{es:List bp}{ma mb mo me:M Dv}{aV:M (List Dv)}{p pos np apos cpos:Pos}{y:Str}
def BJ (_ j:Int):Prop:=0<j/\j<18446744073709551616
theorem WS:OpR X (binaryOp .FloorDiv) (rI BJ λi j=>.int (i / j)):=uL λi j _ _ _ _ _ hc q=>by
 have h1:(0:Int)<j:=hc.1;have h2:j<18446744073709551616:=hc.2;refine floordiv_int (by omega) (by rw[Int.fdiv_eq_ediv_of_nonneg i (by omega)];exact q) (.inl (PyProof.noPylong_of_log2 ?_));have h3:j.natAbs≠0:=by omega
 have h4:j.natAbs<2 ^ 64:=by omega
 have:=(Nat.log2_lt h3).mpr h4;omega
def sH (_ j:Int):Bool:=decide (0<j)&&decide (j<18446744073709551616)
theorem WT (i j:Int) (h:sH i j=true):BJ i j:=by unfold sH at h;unfold BJ;simpa only[dj,decide_eq_true_eq]using h
def sJ:Dv->Dv->Hs->Rs Dv:=kC sH λi j=>.int (i / j)
theorem JS (ha:aL X G E a ma) (hb:aL X G E b mb):aL X G E (.BinOp a .FloorDiv b pos) (m2 sJ ma mb):=nQ WS (uZ WT) ha hb
def JT (K:ao):R2:=λx y H Q=>∃a b ys,x=.ref a/\y=.ref b/\SqT K H a []/\SqT K H b ys/\Q (.ref b) H
theorem op_catT0:OpR X (binaryOp .Add) (JT X.K):=by
 intro pins s σ H x y v u Q I rx ry ⟨a,b,ys,e1,e2,ha,hb,q⟩;subst e1;subst e2;cases rx;cases ry;obtain⟨its,r1,p1,_⟩:=I.tuple ha;obtain⟨its2,r2,p2,_⟩:=I.tuple hb;have hn:its=[]:=r1.nil_iff.mpr rfl;subst hn;obtain⟨⟨cls,dd,data,sl⟩,ho,hc,n,hd⟩:=p1;obtain⟨⟨cls2,dd2,data2,sl2⟩,ho2,hc2,n2,hd2⟩:=p2;simp only at hc hd hc2 hd2;subst hc hd hc2 hd2;exact concat_meets ⟨_,ho,rfl⟩ ⟨_,ho2,rfl⟩ xr As qr qd (pg _ _)
  (tuple_addW0 a b _ _ n n2 dd dd2 sl sl2 rfl) ⟨ho,ho2,⟨.ref b,H,I,rfl,q⟩⟩
def bQ (x y:Dv) (h:Hs):Rs Dv:=match x,y with
 | .tup [],.tup ys=>.ok (.tup ys) h
 |x,y=>lA x y h
theorem WU:fH G (λx y H Q=>JT G.K x y H Q∨AO G.K x y H Q) bQ:=by
 intro E μ h H x y vx vy Q s rx ry o;unfold bQ at o
 split at o
 ·rename_i ys;obtain⟨a,vs,rfl,ea,ra⟩:=rx;obtain⟨b,ws,rfl,eb,rb⟩:=id ry;have:vs=[]:=by rw[RelDL]at ra;exact ra
  subst this;exact .inl ⟨a,b,ws,rfl,rfl,SqT.of ea,SqT.of eb,o.val s ry⟩
 ·exact .inr (SJ E μ h H _ _ vx vy Q s rx ry o)
theorem gO (ha:aL X G E a ma) (hb:aL X G E b mb):aL X G E (.BinOp a .Add b pos) (m2 bQ ma mb):=λhK=>nQ (op_catT0.or SI) (by rw[hK];exact WU) ha hb hK
def sL (k:Int):List Int->Option Nat
 | []=>none
 |n::ns=>if n=k then some 0 else(sL k ns).map (·+1)
end
section
variable{X:Cx}{G:Cfg}{E:XK}{k:Nat}{a b:bp}{ma mb mo:M Dv}{pos:Pos}
theorem WV (g:Good X G E k) (ha:aL X G E a ma) (hb:aL X G E b mb) (hm:lastMarks [.In] [b]=false:=by with_unfolding_all rfl):aL X G E (.Compare a [.In] [b] pos) (m2 (eR false) ma mb):=λhK=>rA (JD g.room.units) (by rw[hK];exact vW false) ha hb hm hK
theorem JU (g:Good X G E k) (ha:aL X G E a ma) (hb:aL X G E b mb) (hm:lastMarks [.NotIn] [b]=false:=by with_unfolding_all rfl):aL X G E (.Compare a [.NotIn] [b] pos) (m2 (eR true) ma mb):=λhK=>rA (JE g.room.units) (by rw[hK];exact vW true) ha hb hm hK
theorem JV (g:Good X G E k) (ha:aL X G E a ma) (hb:aL X G E b mb) (hm:lastMarks [.In] [b]=false:=by with_unfolding_all rfl):fO X G E (.Compare a [.In] [b] pos) (mB (m2 (eR false) ma mb)):=λhK=>mH (JD g.room.units) (by rw[hK];exact vW false) ha hb hm hK
theorem BK (g:Good X G E k) (ha:aL X G E a ma) (hb:aL X G E b mb) (hm:lastMarks [.NotIn] [b]=false:=by with_unfolding_all rfl):fO X G E (.Compare a [.NotIn] [b] pos) (mB (m2 (eR true) ma mb)):=λhK=>mH (JE g.room.units) (by rw[hK];exact vW true) ha hb hm hK
end
theorem iU {H:Hs}{n:Nat}{xs ys:List Dv}(e:getL H n=some xs):getL (H.set n (.lst ys)) n=some ys:=by have h:=(az.mp (cY e)).1;unfold getL;rw[de h]
theorem kK {H:Hs}{n j:Nat}{o:Ob}(h:n≠j):getL (H.set n o) j=getL H j:=by unfold getL;rw[di h]
theorem mY {H:Hs}{n:Nat}{xs:List Dv}(e:getL H n=some xs):n<H.length:=(az.mp (cY e)).1
theorem gQ {H l:Hs}{n:Nat}{xs:List Dv}(e:getL H n=some xs):getL (H++l) n=some xs:=by unfold getL;rw[dz (mY e),cY e]
structure Fr (S:List Nat) (H H':Hs):Prop where
 le:H.length<=H'.length
 at_:∀j,j<H.length->j∉S->H'[j]?=H[j]?
theorem Fr.refl {S:List Nat}{H:Hs}:Fr S H H:=⟨aj _,λ_ _ _=>rfl⟩
theorem Fr.trans {S T:List Nat}{H H1 H2:Hs}(a:Fr S H H1) (b:Fr T H1 H2) (h:∀j∈T,j∈S∨H.length<=j):Fr S H H2:=⟨cq a.le b.le,λj hj hS=>(b.at_ j (av hj a.le) λz=>(h j z).elim hS λw=>absurd (av hj w) (gh _)).trans (a.at_ j hj hS)⟩
theorem Fr.app {S:List Nat}{H l:Hs}:Fr S H (H++l):=⟨by simp,λj hj _=>dz hj⟩
theorem Fr.set {H:Hs}{n:Nat}{o:Ob}:Fr [n] H (H.set n o):=⟨by simp,λj hj hS=>di (by simpa using da (by simpa using hS))⟩
theorem Fr.getL {S:List Nat}{H H':Hs}{j:Nat}{xs:List Dv}(a:Fr S H H') (e:getL H j=some xs) (h:j∉S):getL H' j=some xs:=by unfold L2.Mr.getL at e ⊢;rw[a.at_ j (mY e) h];exact e
theorem Fr.mono {S T:List Nat}{H H':Hs}(a:Fr S H H') (h:∀j∈S,j∈T):Fr T H H':=⟨a.le,λj hj hT=>a.at_ j hj λz=>hT (h j z)⟩
theorem bJ {m u:MS}{ρ ρ1:Ev}{h h1:Hs}(e:m ρ h=.nx ρ1 h1):aM m u ρ h=u ρ1 h1:=by unfold aM;rw[e]
theorem vZ {mi:M Src}{st:dP}{b:MS}{ρ:Ev}{h h1:Hs}{src:Src}(e:mi ρ h=.ok src h1):cK mi st b ρ h=fP src st b src.n 0 ρ h1:=by unfold cK;rw[e];rfl
theorem sM {c:M Bool}{t u:MS}{ρ:Ev}{h h1:Hs}(e:c ρ h=.ok true h1):aY c t u ρ h=t ρ h1:=by unfold aY;rw[e];rfl
theorem pT {c:M Bool}{t u:MS}{ρ:Ev}{h h1:Hs}(e:c ρ h=.ok false h1):aY c t u ρ h=u ρ h1:=by unfold aY;rw[e];rfl
theorem BL {src:Src}{sg:dP}{b:MS}{f k:Nat}{ρ ρ1 ρ2:Ev}{H H2:Hs}{d:Dv}(hg:src.get k H=some d) (hs:sg d ρ=some ρ1) (hb:b ρ1 H=.nx ρ2 H2):fP src sg b (f+1) k ρ H=fP src sg b f (k+1) ρ2 H2:=by simp[fP,hg,hs,hb]
theorem JW {src:Src}{sg:dP}{b:MS}(P:Nat->Ev->Hs->Prop)
  (step:∀k ρ H,k<src.n->P k ρ H->∃d ρ1 ρ2 H2,src.get k H=some d/\sg d ρ=some ρ1/\b ρ1 H=.nx ρ2 H2/\P (k+1) ρ2 H2)
  (fin:∀ρ H,P src.n ρ H->src.fin H=true):∀(f k:Nat) (ρ:Ev) (H:Hs),f+k=src.n->P k ρ H->∃ρ' H',fP src sg b f k ρ H=.nx ρ' H'/\P src.n ρ' H'
 |0,k,ρ,H,h,p=>by
  have hk:k=src.n:=by omega
  subst hk;exact⟨ρ,H,by simp[fP,fin ρ H p],p⟩
 |f+1,k,ρ,H,h,p=>by obtain⟨d,ρ1,ρ2,H2,e1,e2,e3,p2⟩:=step k ρ H (by omega) p;rw[BL e1 e2 e3];exact JW P step fin f (k+1) ρ2 H2 (by omega) p2
theorem kL {mi:M Src}{src:Src}{sg:dP}{b:MS}{ρ:Ev}{H H1:Hs}(hi:mi ρ H=.ok src H1) (P:Nat->Ev->Hs->Prop)
  (step:∀k ρ H,k<src.n->P k ρ H->∃d ρ1 ρ2 H2,src.get k H=some d/\sg d ρ=some ρ1/\b ρ1 H=.nx ρ2 H2/\P (k+1) ρ2 H2)
  (fin:∀ρ H,P src.n ρ H->src.fin H=true) (p:P 0 ρ H1):∃ρ' H',cK mi sg b ρ H=.nx ρ' H'/\P src.n ρ' H':=by
 rw[vZ hi];exact JW P step fin src.n 0 ρ H1 (by omega) p
theorem wC {src:Src}{sg:dP}{t:M Bool}{m:MC}(P:Nat->Ev->Hs->List Dv->Prop)
  (step:∀k ρ H acc,k<src.n->P k ρ H acc->∃d ρ1,src.get k H=some d/\sg d ρ=some ρ1 /\
   ((∃H2,t ρ1 H=.ok false H2/\P (k+1) ρ1 H2 acc)∨∃H2 ρ3 acc3 H3,t ρ1 H=.ok true H2/\m ρ1 H2 acc=.ok (ρ3,acc3) H3/\P (k+1) ρ3 H3 acc3))
  (fin:∀ρ H acc,P src.n ρ H acc->src.fin H=true):∀(f k:Nat) (ρ:Ev) (H:Hs) (acc:List Dv),f+k=src.n->P k ρ H acc->∃ρ' H' acc',gB src sg t m f k ρ H acc=.ok (ρ',acc') H'/\P src.n ρ' H' acc'
 |0,k,ρ,H,acc,h,p=>by
  have hk:k=src.n:=by omega
  subst hk;exact⟨ρ,H,acc,by simp[gB,fin ρ H acc p],p⟩
 |f+1,k,ρ,H,acc,h,p=>by
  obtain⟨d,ρ1,e1,e2,e3⟩:=step k ρ H acc (by omega) p
  rcases e3 with⟨H2,e3,p2⟩|⟨H2,ρ3,acc3,H3,e3,e4,p2⟩
  ·obtain⟨ρ',H',acc',e5,p5⟩:=wC P step fin f (k+1) ρ1 H2 acc (by omega) p2;exact⟨ρ',H',acc',by simp[gB,e1,e2,e3,e5],p5⟩
  ·obtain⟨ρ',H',acc',e5,p5⟩:=wC P step fin f (k+1) ρ3 H3 acc3 (by omega) p2;exact⟨ρ',H',acc',by simp[gB,e1,e2,e3,e4,e5],p5⟩
theorem BM (k:Nat) (H:Hs):∀ns:List Int,bW (bN (k+1) H) (ns.map Dv.int)=some (ns.map Dt.int)
 | []=>rfl
 |n::ns=>by rw[dg,bW,BM k H ns];rfl
def aK (p:Int×Int):Dv:=.tup [.int p.1,.int p.2]
def hY (p:Int×Int):Dt:=.tup [.int p.1,.int p.2]
theorem BN (k:Nat) (H:Hs) (p:Int×Int):bN (k+2) H (aK p)=some (hY p):=rfl
theorem wD (k:Nat) (H:Hs):∀ps:List (Int×Int),bW (bN (k+2) H) (ps.map aK)=some (ps.map hY)
 | []=>rfl
 |p::ps=>by rw[dg,bW,wD k H ps,BN];rfl
theorem BO (p q:Int×Int):bS (hY p) (hY q)=decide (p=q):=by obtain⟨a,b⟩:=p;obtain⟨c,d⟩:=q;simp only[hY,bS,eW,Bool.and_true];rw[gg];simp
theorem lU (neg:Bool) (H:Hs) (p:Int×Int) (ps:List (Int×Int)):eR neg (aK p) (.tup (ps.map aK)) H=.ok (.bl (if neg then !decide (p∈ps)else decide (p∈ps))) H:=by
 have e:(ps.map hY).any (λt=>bS t (hY p))=decide (p∈ps):=by
  rw[gg];simp only[zt,qv,vp,BO,decide_eq_true_eq];constructor
  ·rintro ⟨q,hq,rfl⟩;exact hq
  ·intro h;exact⟨p,h,rfl⟩
 have h1:bW (bN cE H) (ps.map aK)=some (ps.map hY):=wD 28 H ps;have h2:bN cE H (aK p)=some (hY p):=BN 28 H p;show mT [] neg (aK p) (.tup (ps.map aK)) H=_;simp only[mT,gA,h1,h2,e]
section
variable{X:Cx}{G:Cfg}{E:XK}{elt tg iter tg' iter':bp}{ifs ifs':List bp}{sc:gy}{ps px pos:Pos}{N:List Str}{cap:List (Option Nat)}{mi mi':M Src}{st st':dP}{test test':M Bool}{me:M Dv}{i:Nat}{x:Str}
theorem JX (hN:X.N.Nodup) (hi':X.N[i]?=some x) (hc:X.calm=true) (C:CapOk X sc N cap) (hi:jF X G E tg iter mi) (hg:∀s H ex,kD (cL X sc N s H ex) G tg st) (htt:∀s H ex,mO (cL X sc N s H ex) G ifs test) (hel:∀s H ex,aL (cL X sc N s H ex) G E0 elt me)
  (hx:X.env.scope.names.lookup x=some .local:=by rfl) (hsw:swapsWith (.ListComp elt [⟨tg,iter,ifs,0⟩] sc ps) (some (.Name x px)) pos.line X.env=pure true:=by rfl)
  (hs:∀x,foldedSetIterable iter X.env x=pure x:=by intro _;rfl):iC X G E (.Assign [.Name x px] (.ListComp elt [⟨tg,iter,ifs,0⟩] sc ps) pos) (aQ (cH (bX mi cap st test (bP me))) (aG i)):=λhK=>
 PS.imp (G9 hsw hN hi' hx hc C rfl (λit D env=>G1 elt tg iter ifs sc ps (.ref it) D env) (hi hK) (λs H ex=>hg s H ex hK) (λs H ex=>htt s H ex hK) (λs H ex D=>PCl.imp (uU (hel s H ex hK)) λ_ _ _ _ t=>vF t) hs) λD σ H ⟨μ,ρ,h,rs,s,o⟩=>vH (AV (lO rs s o λμ1 d h1 v H1 x1 rs1 s1 r1 o1=>o1 μ1 H1 _ Ext.refl s1 (rs1.set i r1)))
theorem WW (hN:X.N.Nodup) (hi1:X.N[i]?=some x) (hc:X.calm=true) (C:CapOk X sc N cap) (hi:jF X G E tg iter mi) (hg:∀s H ex,kD (cL X sc N s H ex) G tg st) (htt:∀s H ex,mO (cL X sc N s H ex) G ifs test)
  (hi':∀s H ex,jF (cL X sc N s H ex) G E0 tg' iter' mi') (hg':∀s H ex,kD (cL X sc N s H ex) G tg' st') (htt':∀s H ex,mO (cL X sc N s H ex) G ifs' test') (hel:∀s H ex,aL (cL X sc N s H ex) G E0 elt me)
  (hx:X.env.scope.names.lookup x=some .local:=by rfl) (hsw:swapsWith (.ListComp elt [⟨tg,iter,ifs,0⟩,⟨tg',iter',ifs',0⟩] sc ps) (some (.Name x px)) pos.line X.env=pure true:=by rfl)
  (hs:∀x,foldedSetIterable iter X.env x=pure x:=by intro _;rfl) (hs':∀s H ex x,foldedSetIterable iter' (cL X sc N s H ex).env x=pure x:=by intro _ _ _ _;rfl):
  iC X G E (.Assign [.Name x px] (.ListComp elt [⟨tg,iter,ifs,0⟩,⟨tg',iter',ifs',0⟩] sc ps) pos) (aQ (cH (bX mi cap st test (jS mi' st' test' (bP me)))) (aG i)):=λhK=>
 PS.imp (G9 hsw hN hi1 hx hc C rfl (inner:=λD env=>pD iter' (.ListComp elt [⟨tg,iter,ifs,0⟩,⟨tg',iter',ifs',0⟩] sc ps) 1 D env) (λit D env=>G2 elt tg iter tg' iter' ifs ifs' sc ps (.ref it) D env) (hi hK) (λs H ex=>hg s H ex hK) (λs H ex=>htt s H ex hK)
  (λs H ex D=>PCl.imp (G6 (X:=cL X sc N s H ex) (D:=D) (gens:=[⟨tg,iter,ifs,0⟩,⟨tg',iter',ifs',0⟩]) (d:=1) rfl hc rfl (λit=>G3 elt tg iter tg' iter' ifs ifs' sc ps (.ref it) D _) (hi' s H ex hK) (hg' s H ex hK) (htt' s H ex hK) (PCl.imp (uU (hel s H ex hK)) λ_ _ _ _ t=>vF t) (hs' s H ex)) λ_ _ _ _ t=>HX t) hs) λD σ H ⟨μ,ρ,h,rs,s,o⟩=>
  vH (AV (lO rs s o λμ1 d h1 v H1 x1 rs1 s1 r1 o1=>o1 μ1 H1 _ Ext.refl s1 (rs1.set i r1)))
end
end L2.Mr
namespace SoM
open PySem PySem.W PyProof.Rows
variable{n:Nat}{f:Nat->Nat}{s:ag}
def lV (n:Nat) (f:Nat->Nat) (i j:Nat) (C:Bool->ag->Prop) (s:ag):Prop:=i<n/\j<n/\C (decide (f i<f j)) s
def F (f:Nat->Nat) (p:Array Nat) (k:Nat):Nat:=f (p.getD k 0)
def Ent (n:Nat) (p:Array Nat):Prop:=p.size=n/\p.toList.Perm (ay n)
theorem Ent.lt {p:Array Nat}(e:Ent n p) (hn:0<n) (k:Nat):p.getD k 0<n:=by
 by_cases h:k<p.size
 ·have:p.getD k 0=p[k]:=by simp[jv,h]
  rw[this];have hm:p[k]∈p.toList:=by simp
  exact bw.mp (e.2.mem_iff.mp hm)
 ·have:p.getD k 0=0:=by simp[jv,h]
  omega
theorem sN {p q:Array Nat}{i j:Nat}(h:p[i]?=q[j]?):F f p i=F f q j:=by unfold F;simp only[Array.getD_eq_getD_getElem?,h]
theorem Ent.mirror {p:Array Nat}(e:Ent n p) (i j d:Nat):Ent n (mirror p i j d):=⟨(mirror_size ..).trans e.1,((wd.mp (mirror_perm p i j d))).trans e.2⟩
theorem Ent.bubble {p:Array Nat}(e:Ent n p) (k d:Nat):Ent n (bubble p k d):=⟨(bubble_size ..).trans e.1,((wd.mp (bubble_perm p k d))).trans e.2⟩
theorem Ent.rev {p:Array Nat}(e:Ent n p) (i j:Nat):Ent n (kas_rev p i j):=e.mirror _ _ _
theorem sO {p:Array Nat}{i j:Nat}(hj:j<=p.size) (k:Nat):F f (kas_rev p i j) k=if i<=k/\k<j then F f p (i+j - 1 - k)else F f p k:=by
 have e:=getElem?_mirror_all (i:=i) hj k
 by_cases h:i<=k/\k<j
 ·rw[if_pos h]at e ⊢;exact sN e
 ·rw[if_neg h]at e ⊢;exact sN e
theorem JY {p:Array Nat}{k d:Nat}(hs:k<p.size) (hd:d<=k) (i:Nat):F f (bubble p k d) i=if i=k - d then F f p k else if k - d<i/\i<=k then F f p (i - 1)else F f p i:=by
 have e:=getElem?_bubble hs d hd i
 by_cases h1:i=k - d
 ·rw[if_pos h1]at e ⊢;exact sN e
 ·rw[if_neg h1]at e ⊢
  by_cases h2:k - d<i/\i<=k
  ·rw[if_pos h2]at e ⊢;exact sN e
  ·rw[if_neg h2]at e ⊢;exact sN e
def Inc (f:Nat->Nat) (p:Array Nat) (m:Nat):Prop:=∀i j,i<=j->j<m->F f p i<=F f p j
def Dec (f:Nat->Nat) (p:Array Nat) (m:Nat):Prop:=∀i j,i<=j->j<m->F f p j<=F f p i
theorem Inc.succ {p:Array Nat}{m:Nat}(h:Inc f p m) (hm:1<=m) (h1:F f p (m - 1)<=F f p m):Inc f p (m+1):=by
 intro i j hij hj
 by_cases q:j=m
 ·subst q
  by_cases r:i=j
  ·subst r;exact aj _
  ·exact cq (h i (j - 1) (by omega) (by omega)) h1
 ·exact h i j hij (by omega)
theorem Dec.succ {p:Array Nat}{m:Nat}(h:Dec f p m) (hm:1<=m) (h1:F f p m<=F f p (m - 1)):Dec f p (m+1):=by
 intro i j hij hj
 by_cases q:j=m
 ·subst q
  by_cases r:i=j
  ·subst r;exact aj _
  ·exact cq h1 (h i (j - 1) (by omega) (by omega))
 ·exact h i j hij (by omega)
theorem BP {p:Array Nat}(e:Ent n p) (hn:0<n) {Q:Nat->ag->Prop}:∀(fu m:Nat) (s:ag),1<=m->Inc f p m->
  (∀m',m<=m'->m'<=m+fu->Inc f p m'->(m'=m+fu∨F f p m'<F f p (m' - 1))->Q m' s)->(kas_asc p fu m).kasWp (lV n f) Q s
 |0,m,s,h1,hi,h=>h m (aj _) (aj _) hi (.inl rfl)
 |fu+1,m,s,h1,hi,h=>by
  refine⟨e.lt hn _,e.lt hn _, ?_⟩
  by_cases c:f (p.getD m 0)<f (p.getD (m - 1) 0)
  ·rw[decide_eq_true c];exact h m (aj _) (by omega) hi (.inr c)
  ·rw[decide_eq_false c];refine BP e hn fu (m+1) s (by omega) (hi.succ h1 (Nat.le_of_not_lt c)) λm' a b c d=>h m' (by omega) (by omega) c ?_
   rcases d with d|d
   ·exact .inl (by omega)
   ·exact .inr d
theorem wF (hn:0<n) {Q:Array Nat×Nat×Nat->ag->Prop}:∀(fu m q:Nat) (p:Array Nat) (s:ag),Ent n p->q+1<=m->m+fu<=n->Dec f p m->(∀k,m - 1 - q<=k->k<m->F f p k=F f p (m - 1))->
  (∀p' m' q',Ent n p'->q'+1<=m'->m<=m'->m'<=m+fu->Dec f p' m'->(∀k,m' - 1 - q'<=k->k<m'->F f p' k=F f p' (m' - 1))->Q (p',m',q') s)->(kas_desc fu p m q).kasWp (lV n f) Q s
 |0,m,q,p,s,e,h1,h2,hd,he,h=>h p m q e h1 (aj _) (aj _) hd he
 |fu+1,m,q,p,s,e,h1,h2,hd,he,h=>by
  refine⟨e.lt hn _,e.lt hn _, ?_⟩
  by_cases c:f (p.getD m 0)<f (p.getD (m - 1) 0)
  ·have c':F f p m<F f p (m - 1):=c;rw[decide_eq_true c];show KasT.kasWp _ (if true=true then(if q>0 then _ else _)else _) _ _;rw[if_pos rfl]
   by_cases hq:q>0
   ·rw[if_pos hq];have hsz:m<=p.size:=by rw[e.1];omega
    have hF:∀k,F f (kas_rev p (m - (q+1)) m) k=F f p k:=by
     intro k;rw[sO hsz]
     split
     ·rw[he _ (by omega) (by omega),he k (by omega) (by omega)]
     ·rfl
    have hd':Dec f (kas_rev p (m - (q+1)) m) (m+1):=by intro i j hij hj;rw[hF,hF];exact hd.succ (by omega) (gu c') i j hij hj
    refine wF hn fu (m+1) 0 _ s (e.rev _ _) (by omega) (by omega) hd' ?_ λp' m' q' a b c d=>h p' m' q' a b (by omega) (by omega);intro k k1 k2;have:k=m:=by omega
    subst this;rfl
   ·rw[if_neg hq];refine wF hn fu (m+1) 0 _ s e (by omega) (by omega) (hd.succ (by omega) (gu c')) ?_ λp' m' q' a b c d=>h p' m' q' a b (by omega) (by omega);intro k k1 k2;have:k=m:=by omega
    subst this;rfl
  ·have c':¬ F f p m<F f p (m - 1):=c;rw[decide_eq_false c];show KasT.kasWp _ (if false=true then _ else KasT.ask _ _ _) _ _;rw[if_neg (by simp)];refine⟨e.lt hn _,e.lt hn _, ?_⟩
   by_cases c2:f (p.getD (m - 1) 0)<f (p.getD m 0)
   ·rw[decide_eq_true c2];exact h p m q e h1 (aj _) (by omega) hd he
   ·have c2':¬ F f p (m - 1)<F f p m:=c2;rw[decide_eq_false c2];have eq:F f p m=F f p (m - 1):=by omega
    refine wF hn fu (m+1) (q+1) _ s e (by omega) (by omega) (hd.succ (by omega) (by omega)) ?_ λp' m' q' a b c d=>h p' m' q' a b (by omega) (by omega);intro k k1 k2;show F f p k=F f p m
    by_cases r:k=m
    ·subst r;rfl
    ·rw[eq];exact he k (by omega) (by omega)
theorem Dec.rev {p:Array Nat}{m:Nat}(hm:m<=p.size) (h:Dec f p m):Inc f (kas_rev p 0 m) m:=by intro i j hij hj;rw[sO hm,sO hm,if_pos ⟨jg _,by omega⟩,if_pos ⟨jg _,hj⟩];exact h _ _ (by omega) (by omega)
theorem JZ (hn:0<n) {p:Array Nat}{m:Nat}{Q:Nat×Array Nat->ag->Prop}(e:Ent n p) (h1:1<=m) (h2:m<=n) (hd:Dec f p m)
  (h:∀m' p',Ent n p'->1<=m'->m'<=n->Inc f p' m'->Q (m',p') s):(kas_tail3 m n p).kasWp (lV n f) Q s:=by
 unfold kas_tail3;rw[KasT.kasWp_bind];refine BP (e.rev 0 m) hn (n - m) m s h1 (hd.rev (by rw[e.1];exact h2)) λm' a b c _=>?_;exact h m' _ (e.rev 0 m) (by omega) (by omega) c
theorem J0 (hn:0<n) {p:Array Nat}{m:Nat}{Q:Nat×Array Nat->ag->Prop}(e:Ent n p) (h2:m+1<=n) (hd:Dec f p (m+1))
  (h:∀m' p',Ent n p'->1<=m'->m'<=n->Inc f p' m'->Q (m',p') s):(kas_descPart m n p).kasWp (lV n f) Q s:=by
 unfold kas_descPart;rw[KasT.kasWp_bind];refine wF hn (n - (m+1)) (m+1) 0 p s e (by omega) (by omega) hd (λk k1 k2=>by (have:k=m:=by omega);subst this;rfl) λp' m' q' e' a b c d eq=>?_;show KasT.kasWp _ (if q'>0 then _ else _) _ _
 by_cases hq:q'>0
 ·rw[if_pos hq];have hsz:m'<=p'.size:=by rw[e'.1];omega
  have hF:∀k,F f (kas_rev p' (m' - (q'+1)) m') k=F f p' k:=by
   intro k;rw[sO hsz]
   split
   ·rw[eq _ (by omega) (by omega),eq k (by omega) (by omega)]
   ·rfl
  refine JZ hn (e'.rev _ _) (show 1<=m' by omega) (show m'<=n by omega) ?_ h;intro i j hij hj;rw[hF,hF];exact d i j hij hj
 ·rw[if_neg hq];exact JZ hn e' (show 1<=m' by omega) (show m'<=n by omega) d h
theorem WX (hn:1<=n) {p:Array Nat}{Q:Nat×Array Nat->ag->Prop}(e:Ent n p)
  (h:∀m' p',Ent n p'->1<=m'->m'<=n->Inc f p' m'->Q (m',p') s):(kas_count n p).kasWp (lV n f) Q s:=by
 unfold kas_count;rw[KasT.kasWp_bind];refine BP e (by omega) (n - 1) 1 s (aj _) (λi j hij hj=>by (have:i=j:=by omega);subst this;exact aj _) λm a b c d=>?_;show KasT.kasWp _ (if(m==n)=true then _ else if m>1 then _ else _) _ _
 by_cases q:m=n
 ·rw[if_pos (beq_iff_eq.mpr q)];exact h m p e (by omega) (by omega) c
 ·rw[if_neg (by intro z;exact q (beq_iff_eq.mp z))];have hlt:F f p m<F f p (m - 1):=by
   rcases d with d|d
   ·omega
   ·exact d
  by_cases q1:m>1
  ·rw[if_pos q1];refine⟨e.lt (by omega) _,e.lt (by omega) _, ?_⟩
   by_cases c2:f (p.getD 0 0)<f (p.getD (m - 1) 0)
   ·rw[decide_eq_true c2];exact h m p e (by omega) (by omega) c
   ·have c2':¬ F f p 0<F f p (m - 1):=c2;rw[decide_eq_false c2];have hsz:m<=p.size:=by rw[e.1];omega
    have eq:∀k,k<m->F f p k=F f p 0:=by intro k hk;have:=c 0 k (by omega) hk;have:=c k (m - 1) (by omega) (by omega);omega
    have hF:∀k,F f (kas_rev p 0 m) k=F f p k:=by
     intro k;rw[sO hsz]
     split
     ·rw[eq _ (by omega),eq k (by omega)]
     ·rfl
    refine J0 (by omega) (e.rev _ _) (by omega) ?_ h;intro i j hij hj;rw[hF,hF]
    by_cases r:j=m
    ·subst r
     by_cases r2:i=j
     ·subst r2;exact aj _
     ·have:=eq i (by omega);have:=eq (j - 1) (by omega);omega
    ·rw[eq i (by omega),eq j (by omega)];exact aj _
  ·rw[if_neg q1];have:m=1:=by omega
   subst this;refine J0 (by omega) e (by omega) ?_ h;intro i j hij hj
   by_cases r:i=j
   ·subst r;exact aj _
   ·have h1:i=0:=by omega
    have h2:j=1:=by omega
    subst h1;subst h2;exact gu hlt
theorem BQ {p:Array Nat}(e:Ent n p) (hn:0<n) {k:Nat}(hi:Inc f p k) {Q:Nat->ag->Prop}:∀(fu l r:Nat) (s:ag),r - l<=fu->l<=r->r<=k->
  (∀i,i<l->F f p i<=F f p k)->(∀i,r<=i->i<k->F f p k<F f p i)->
  (∀l',l'<=k->(∀i,i<l'->F f p i<=F f p k)->(∀i,l'<=i->i<k->F f p k<F f p i)->Q l' s)->(kas_place p k fu l r).kasWp (lV n f) Q s
 |0,l,r,s,h1,h2,h3,ha,hb,h=>by
  have:l=r:=by omega
  subst this;exact h l h3 ha hb
 |fu+1,l,r,s,h1,h2,h3,ha,hb,h=>by
  unfold kas_place
  by_cases q:l>=r
  ·rw[if_pos q];have:l=r:=by omega
   subst this;exact h l h3 ha hb
  ·rw[if_neg q];refine⟨e.lt hn _,e.lt hn _, ?_⟩
   by_cases c:f (p.getD k 0)<f (p.getD ((l+r) / 2) 0)
   ·have c':F f p k<F f p ((l+r) / 2):=c;rw[decide_eq_true c];refine BQ e hn hi fu l ((l+r) / 2) s (by omega) (by omega) (by omega) ha ?_ h;intro i i1 i2;have:=hi ((l+r) / 2) i i1 i2;omega
   ·have c':¬ F f p k<F f p ((l+r) / 2):=c;rw[decide_eq_false c];refine BQ e hn hi fu ((l+r) / 2+1) r s (by omega) (by omega) (by omega) ?_ hb h;intro i i1;have:=hi i ((l+r) / 2) (by omega) (by omega);omega
theorem J1 (hn:0<n) {Q:Array Nat->ag->Prop}:∀(fu k:Nat) (p:Array Nat) (s:ag),Ent n p->k+fu<=n->Inc f p k->(∀p',Ent n p'->Inc f p' (k+fu)->Q p' s)->(kas_bin fu p k).kasWp (lV n f) Q s
 |0,k,p,s,e,h1,hi,h=>h p e hi
 |fu+1,k,p,s,e,h1,hi,h=>by
  unfold kas_bin;rw[KasT.kasWp_bind];refine BQ e hn hi k 0 k s (by omega) (by omega) (aj _) (λi hi=>absurd hi (by omega)) (λi a b=>absurd b (by omega)) λl hl ha hb=>?_;have hsz:k<p.size:=by rw[e.1];omega
  refine J1 hn fu (k+1) _ s (e.bubble _ _) (by omega) ?_ λp' e' i'=>h p' e' (by rw[show k+(fu+1)=k+1+fu by omega];exact i');intro i j hij hj;rw[JY hsz (by omega),JY hsz (by omega)];have hkl:k - (k - l)=l:=by omega
  rw[hkl]
  by_cases i1:i=l
  ·rw[if_pos i1]
   by_cases j1:j=l
   ·rw[if_pos j1];exact aj _
   ·rw[if_neg j1,if_pos (by omega)];exact gu (hb (j - 1) (by omega) (by omega))
  ·rw[if_neg i1]
   by_cases i2:l<i/\i<=k
   ·rw[if_pos i2,if_neg (by omega),if_pos (by omega)];exact hi (i - 1) (j - 1) (by omega) (by omega)
   ·rw[if_neg i2]
    by_cases j1:j=l
    ·rw[if_pos j1];exact ha i (by omega)
    ·rw[if_neg j1]
     by_cases j2:l<j/\j<=k
     ·rw[if_pos j2];exact hi i (j - 1) (by omega) (by omega)
     ·rw[if_neg j2];exact hi i j hij (by omega)
theorem WY (hn:1<=n) {Q:Array Nat->ag->Prop}(h:∀p,Ent n p->Inc f p n->Q p s):(kas_sort n).kasWp (lV n f) Q s:=by
 unfold kas_sort;rw[KasT.kasWp_bind];refine WX hn ⟨by simp,by simp⟩ λm p e h1 h2 hi=>?_;show KasT.kasWp _ (if m<n then _ else _) _ _
 by_cases q:m<n
 ·rw[if_pos q];have:max m 1=m:=by omega
  rw[this];refine J1 (by omega) (n - m) m p s e (by omega) hi λp' e' i'=>h p' e' ?_;rw[show m+(n - m)=n by omega]at i';exact i'
 ·rw[if_neg q];have:m=n:=by omega
  subst this;exact h p e hi
theorem J2 {α:Type}{cmp:Nat->Nat->(Bool->ag->Prop)->ag->Prop}{I:ag->Prop}(hc:∀i j C s,I s->i<n->j<n->(∀s',I s'->C (decide (f i<f j)) s')->cmp i j C s):
  ∀(t:KasT α) (Q:α->Prop) (Q':α->ag->Prop) (s₀ s:ag),t.kasWp (lV n f) (λa _=>Q a) s₀->I s->(∀a s',Q a->I s'->Q' a s')->t.kasWp cmp Q' s
 | .ret a,Q,Q',s₀,s,h,hi,k=>k a s h hi
 | .ask i j c,Q,Q',s₀,s,h,hi,k=>hc i j _ s hi h.1 h.2.1 λs' hi'=>J2 hc (c _) Q Q' s₀ s' h.2.2 hi' k
end SoM
namespace L2
structure Sto {α:Type}(lt:α->α->Bool):Prop where
 irr:∀x,lt x x=false
 tr:∀x y z,lt x y=true->lt y z=true->lt x z=true
 tot:∀x y,lt x y=false->lt y x=false->x=y
section
variable{α:Type}{lt:α->α->Bool}
theorem Sto.asy (o:Sto lt) {x y:α}(h:lt x y=true):lt y x=false:=by
 cases q:lt y x with
 |false=>rfl
 |true=>have:=o.tr x y x h q;rw[o.irr]at this;cases this
theorem Sto.lt_le (o:Sto lt) {x y z:α}(h:lt x y=true) (h2:lt z y=false):lt x z=true:=by
 cases q:lt y z with
 |true=>exact o.tr x y z h q
 |false=>rw[<-o.tot y z q h2];exact h
abbrev gG (lt:α->α->Bool) (l:List α):Prop:=l.Pairwise λa b=>lt b a=false
abbrev iI (lt:α->α->Bool) (l:List α):Prop:=l.Pairwise λa b=>lt a b=true
theorem J3 (o:Sto lt):∀{l l':List α},gG lt l->gG lt l'->l.Perm l'->l=l'
 | [],l',_,_,p=>(List.nil_perm.mp p).symm
 |x::r,[],_,_,p=>by simp at p
 |x::r,y::r',h,h',p=>by
  have h1:=fj.mp h;have h2:=fj.mp h';have e:x=y:=by
   refine o.tot x y ?_ ?_
   ·rcases bg.mp (p.mem_iff.mp (bh ..))with e|e
    ·rw[e];exact o.irr y
    ·exact h2.1 x e
   ·rcases bg.mp (p.mem_iff.mpr (bh ..))with e|e
    ·rw[e];exact o.irr x
    ·exact h1.1 y e
  subst e;rw[J3 o h1.2 h2.2 (List.Perm.cons_inv p)]
def kM (lt:α->α->Bool) (x:α):List α->List α
 | []=>[x]
 |y::r=>if lt y x then y::kM lt x r else if lt x y then x::y::r else y::r
def dZ (lt:α->α->Bool):List α->List α
 | []=>[]
 |x::r=>kM lt x (dZ lt r)
theorem BR (o:Sto lt) (x z:α):∀l,z∈kM lt x l↔z=x∨z∈l
 | []=>by simp[kM]
 |y::r=>by
  unfold kM
  split
  ·rw[bg,BR o x z r,bg];constructor
   ·rintro (h|h|h)
    ·exact .inr (.inl h)
    ·exact .inl h
    ·exact .inr (.inr h)
   ·rintro (h|h|h)
    ·exact .inr (.inl h)
    ·exact .inl h
    ·exact .inr (.inr h)
  ·rename_i q1
   split
   ·simp
   ·rename_i q2;have e:=o.tot x y (by simpa using q2) (by simpa using q1);subst e;simp
theorem pU (o:Sto lt) (z:α):∀l,z∈dZ lt l↔z∈l
 | []=>.rfl
 |x::r=>by rw[dZ,BR o,pU o z r,bg]
theorem J4 (o:Sto lt) (x:α):∀l,iI lt l->iI lt (kM lt x l)
 | [],_=>by simp[kM,iI]
 |y::r,h=>by
  have h1:=fj.mp h;unfold kM
  split
  ·rename_i q;refine fj.mpr ⟨λz hz=>?_,J4 o x r h1.2⟩
   rcases(BR o x z r).mp hz with rfl|hz
   ·exact q
   ·exact h1.1 z hz
  ·split
   ·rename_i q;refine fj.mpr ⟨λz hz=>?_,h⟩
    rcases bg.mp hz with rfl|hz
    ·exact q
    ·exact o.tr _ _ _ q (h1.1 z hz)
   ·exact h
theorem wG (o:Sto lt):∀l,iI lt (dZ lt l)
 | []=>wk
 |x::r=>J4 o x _ (wG o r)
theorem J5 (o:Sto lt) {l:List α}(h:iI lt l):gG lt l:=h.imp λh=>o.asy h
theorem wH (o:Sto lt) {l:List α}(h:iI lt l):l.Nodup:=h.imp λ{a b} h e=>by rw[e,o.irr]at h;cases h
theorem WZ (o:Sto lt) {l l':List α}(h:iI lt l) (h':iI lt l') (m:∀z,z∈l↔z∈l'):l=l':=by refine J3 o (J5 o h) (J5 o h') ?_;exact(pd (wH o h) (wH o h')).mpr m
theorem W0 (o:Sto lt) {l l':List α}(h:iI lt l') (m:∀z,z∈l'↔z∈l):l'=dZ lt l:=WZ o h (wG o l) λz=>(m z).trans (pU o z l).symm
def rk (lt:α->α->Bool) (ks:List α) (x:α):Nat:=ks.countP λy=>lt y x
theorem BS {p q:α->Bool}:∀(l:List α),(∀y,p y=true->q y=true)->l.countP p<=l.countP q
 | [],_=>aj _
 |y::r,h=>by
  have:=BS r h;rw[qw,qw]
  cases hp:p y with
  |true=>rw[h y hp];simp;omega
  |false=>cases q y <;> simp <;> omega
theorem J6 {p q:α->Bool}:∀(l:List α),(∀y,p y=true->q y=true)->∀x,x∈l->q x=true->p x=false->l.countP p<l.countP q
 | [],_,x,hx,_,_=>by simp at hx
 |y::r,h,x,hx,h1,h2=>by
  rw[qw,qw]
  rcases bg.mp hx with rfl|hx
  ·have:=BS r h;rw[h1,h2];simp;omega
  ·have:=J6 r h x hx h1 h2
   cases hp:p y with
   |true=>rw[h y hp];simp;omega
   |false=>cases q y <;> simp <;> omega
theorem J7 (o:Sto lt) {ks:List α}{x z:α}(hx:x∈ks):decide (rk lt ks x<rk lt ks z)=lt x z:=by
 cases q:lt x z with
 |true=>exact decide_eq_true (J6 ks (λy h=>o.tr y x z h q) x hx q (o.irr x))
 |false=>exact decide_eq_false (Nat.not_lt.mpr (BS ks λy h=>o.lt_le h q))
theorem W2 (o:Sto lt) {ks:List α}{x z:α}(hz:z∈ks) (h:rk lt ks x<=rk lt ks z):lt z x=false:=by rw[<-J7 o hz];exact decide_eq_false (Nat.not_lt.mpr h)
end
def cX:List Int->List Int->Bool
 | [],[]=>false
 | [],_::_=>true
 |_::_,[]=>false
 |a::x,b::y=>if a==b then cX x y else decide (a<b)
theorem stoL:Sto cX:=by
 refine⟨λx=>?_,λx=>?_,λx=>?_⟩
 ·induction x with
  |nil=>rfl
  |cons a x ih=>simp[cX,ih]
 ·induction x with
  |nil=>
   intro y z h1 h2
   cases z with
   |nil=>cases y with
    |nil=>exact h1
    |cons b y=>cases h2
   |cons c z=>rfl
  |cons a x ih=>
   intro y z h1 h2
   cases y with
   |nil=>cases h1
   |cons b y=>
    cases z with
    |nil=>cases h2
    |cons c z=>
     simp only[cX,beq_iff_eq]at h1 h2 ⊢
     by_cases e1:a=b <;> by_cases e2:b=c
     ·rw[if_pos e1]at h1;rw[if_pos e2]at h2;rw[if_pos (e1.trans e2)];exact ih y z h1 h2
     ·rw[if_neg e2]at h2;rw[if_neg (by rw[e1];exact e2)];rw[e1];exact h2
     ·rw[if_neg e1]at h1;rw[if_neg (by rw[<-e2];exact e1)];rw[<-e2];exact h1
     ·rw[if_neg e1]at h1;rw[if_neg e2]at h2;simp only[decide_eq_true_eq]at h1 h2;rw[if_neg (by omega)];simp;omega
 ·induction x with
  |nil=>
   intro y h1 h2
   cases y with
   |nil=>rfl
   |cons b y=>cases h1
  |cons a x ih=>
   intro y h1 h2
   cases y with
   |nil=>cases h2
   |cons b y=>
    simp only[cX,beq_iff_eq]at h1 h2
    by_cases e:a=b
    ·subst e;rw[if_pos rfl]at h1 h2;rw[ih y h1 h2]
    ·rw[if_neg e]at h1;rw[if_neg (da e)]at h2;simp at h1 h2;omega
def fK (p q:Int×Int):Bool:=if p.1==q.1 then decide (p.2<q.2)else decide (p.1<q.1)
def jW (p:Int×Int):List Int:=[p.1,p.2]
theorem sQ (p q:Int×Int):cX (jW p) (jW q)=fK p q:=by
 unfold fK jW cX
 split
 ·unfold cX
  split
  ·rename_i h;simp at h;simp[cX,h]
  ·rfl
 ·rfl
theorem W3 {p q:Int×Int}(h:jW p=jW q):p=q:=by obtain⟨a,b⟩:=p;obtain⟨c,d⟩:=q;simp[jW]at h;rw[h.1,h.2]
theorem stoP:Sto fK:=⟨λx=>by rw[<-sQ];exact stoL.irr _,λx y z h1 h2=>by rw[<-sQ]at *;exact stoL.tr _ _ _ h1 h2,λx y h1 h2=>by rw[<-sQ]at *;exact W3 (stoL.tot _ _ h1 h2)⟩
section
variable{α β:Type}{lt:α->α->Bool}{lt':β->β->Bool}{f:α->β}
theorem J8 (h:∀x y,lt' (f x) (f y)=lt x y) (x:α):∀l,kM lt' (f x) (l.map f)=(kM lt x l).map f
 | []=>rfl
 |y::r=>by
  simp only[dg,kM,h]
  split
  ·rw[J8 h x r];rfl
  ·split <;> rfl
theorem J9 (h:∀x y,lt' (f x) (f y)=lt x y):∀l,dZ lt' (l.map f)=(dZ lt l).map f
 | []=>rfl
 |x::r=>by rw[dg,dZ,J9 h r,J8 h];rfl
end
end L2
namespace SM
open PySem PySem.SetTable
def gG (l:List Nat):Prop:=l.Pairwise (·<·)
theorem BU {l:List Nat}(hr:gG l) {i k x:Nat}(a:l[i]?=some x) (b:l[k]?=some x):i=k:=by
 obtain⟨p1,p2⟩:=az.mp a;obtain⟨q1,q2⟩:=az.mp b
 rcases Nat.lt_trichotomy i k with h|h|h
 ·have:=gj.mp hr i k p1 q1 h;omega
 ·exact h
 ·have:=gj.mp hr k i q1 p1 h;omega
theorem W4 (xs:Array Nat) (j:Nat) (hr:gG xs.toList):∀(fuel lo hi:Nat),lo<=hi->hi<=xs.size->hi - lo<=fuel->
  (∀i (h:i<xs.size),i<lo->xs[i]<j)->(∀i (h:i<xs.size),hi<=i->j<=xs[i])->
  (∀i (h:i<xs.size),i<below.go xs j fuel lo hi->xs[i]<j)/\(∀i (h:i<xs.size),below.go xs j fuel lo hi<=i->j<=xs[i])/\below.go xs j fuel lo hi<=xs.size:=by
 intro fuel
 induction fuel with
 |zero=>
  intro lo hi h1 h2 h3 ha hb;have:lo=hi:=by omega
  subst this;exact⟨ha,hb,h2⟩
 |succ n ih=>
  intro lo hi h1 h2 h3 ha hb;unfold below.go
  by_cases hlt:lo<hi
  ·rw[if_pos hlt];dsimp only;have hm:(lo+hi) / 2<xs.size:=by omega
   have e:xs.getD ((lo+hi) / 2) j=xs[(lo+hi) / 2]:=by simp[jv,hm]
   have mono:∀a b (ha:a<xs.size) (hb:b<xs.size),a<b->xs[a]<xs[b]:=by intro a b ha hb hab;have:=gj.mp hr a b (by simpa using ha) (by simpa using hb) hab;simpa using this
   by_cases hc:xs.getD ((lo+hi) / 2) j<j
   ·rw[if_pos hc];refine ih _ _ (by omega) h2 (by omega) ?_ hb;intro i h hi';rw[e]at hc
    by_cases q:i=(lo+hi) / 2
    ·subst q;exact hc
    ·have:=mono i _ h hm (by omega);omega
   ·rw[if_neg hc];refine ih _ _ (by omega) (by omega) (by omega) ha ?_;intro i h hi';rw[e]at hc
    by_cases q:i=(lo+hi) / 2
    ·subst q;omega
    ·have:=mono _ i hm h (by omega);omega
  ·rw[if_neg hlt];have:lo=hi:=by omega
   subst this;exact⟨ha,hb,h2⟩
theorem sR {xs:Array Nat}{j:Nat}(hr:gG xs.toList):
  (∀i (h:i<xs.size),i<below xs j->xs[i]<j)/\(∀i (h:i<xs.size),below xs j<=i->j<=xs[i])/\below xs j<=xs.size:=
 W4 xs j hr xs.size 0 xs.size (jg _) (aj _) (by omega) (λi h hi=>absurd hi (by omega)) (λi h hi=>absurd h (by omega))
theorem KC {xs:Array Nat}{j:Nat}(hr:gG xs.toList) (hm:j∈xs.toList):xs[below xs j]?=some j:=by
 obtain⟨h1,h2,h3⟩:=sR (j:=j) hr;obtain⟨i,hi,e⟩:=jo hm;have hi':i<xs.size:=by simpa using hi
 have e':xs[i]=j:=by simpa using e
 have hle:below xs j<=i:=by
  rcases jf i (below xs j)with q|q
  ·have:=h1 i hi' q;omega
  ·exact q
 have hb:below xs j<xs.size:=by omega
 have:=h2 (below xs j) hb (aj _);have mono:∀a b (ha:a<xs.size) (hb:b<xs.size),a<b->xs[a]<xs[b]:=by intro a b ha hb hab;have:=gj.mp hr a b (by simpa using ha) (by simpa using hb) hab;simpa using this
 have hE:below xs j=i:=by
  rcases jf (below xs j) i with q|q
  ·have:=mono _ _ hb hi' q;omega
  ·omega
 rw[fi hb]
 congr 1
 have:∀k (hk:k<xs.size),k=i->xs[k]=xs[i]:=by intro k hk e;subst e;rfl
 rw[this _ hb hE,e']
theorem W5 {xs:Array Nat}{j:Nat}(hm:j∉xs.toList):(xs[below xs j]?==some j)=false:=by rw[beq_eq_false_iff_ne];intro e;obtain⟨h,e⟩:=dh.mp e;exact hm (by rw[<-e];simp)
theorem sT {α:Type}(xs:Array α) (p:Nat) (x:α) (hp:p<=xs.size):(insertAt xs p x).toList=xs.toList.take p++x::xs.toList.drop p:=by unfold insertAt;rw[Array.toList_append,Array.toList_push];simp[Array.toList_extract,jw]
theorem W6 {xs:Array Nat}{j:Nat}(hr:gG xs.toList) (hm:j∉xs.toList):gG (insertAt xs (below xs j) j).toList:=by
 obtain⟨h1,h2,h3⟩:=sR (j:=j) hr;rw[sT _ _ _ h3];unfold gG at hr ⊢;have hlt:∀a∈xs.toList.take (below xs j),a<j:=by intro a ha;obtain⟨i,hi,e⟩:=jo ha;rw[jq]at hi;rw[List.getElem_take]at e;have:=h1 i (by simp at hi;omega) (by omega);simp at e;omega
 have hgt:∀a∈xs.toList.drop (below xs j),j<a:=by
  intro a ha;obtain⟨i,hi,e⟩:=jo ha;rw[nc]at hi;rw[List.getElem_drop]at e;have q:=h2 (below xs j+i) (by simp at hi;omega) (by omega);have ne:a≠j:=by rintro rfl;exact hm (List.mem_of_mem_drop ha)
  simp at e;omega
 rw[List.pairwise_append];refine⟨hr.sublist (List.take_sublist _ _), ?_, ?_⟩
 ·rw[fj];exact⟨hgt,hr.sublist (List.drop_sublist _ _)⟩
 ·intro a ha b hb
  rcases bg.mp hb with rfl|hb
  ·exact hlt a ha
  ·have:=hlt a ha;have:=hgt b hb;omega
def lW (mask:Nat) (p:Probe):Probe:=
 if p.more>0 then{ p with j:=p.j+1,more:=p.more - 1 } else
 { p with j:=(leap mask p.i p.perturb).1,more:=runEnd mask (leap mask p.i p.perturb).1 - (leap mask p.i p.perturb).1,i:=(leap mask p.i p.perturb).1,perturb:=(leap mask p.i p.perturb).2 }
theorem KD (t:gr) (p:Probe):t.advance p=lW t.mask p:=by
 unfold SetTable.advance lW
 split <;> rfl
def W7 (mask:Nat) (h:Int):Probe:={ j:=bits h % (mask+1),more:=runEnd mask (bits h % (mask+1)) - bits h % (mask+1),i:=bits h % (mask+1),perturb:=bits h,dummy:=none }
def dN (mask:Nat) (h:Int):Nat->Probe
 |0=>W7 mask h
 |n+1=>lW mask (dN mask h n)
def pr (mask:Nat) (h:Int) (n:Nat):Nat:=(dN mask h n).j
theorem W8 (mask:Nat) (p:Probe):(lW mask p).dummy=p.dummy:=by unfold lW;split <;> rfl
theorem KG (mask:Nat) (h:Int):∀n,(dN mask h n).dummy=none
 |0=>rfl
 |n+1=>by rw[dN,W8,KG mask h n]
def oG (mask i pt:Nat):Probe:={ j:=i,more:=runEnd mask i - i,i:=i,perturb:=pt,dummy:=none }
def bs (mask:Nat) (h:Int):Nat->Nat×Nat
 |0=>(bits h % (mask+1),bits h)
 |L+1=>leap mask (bs mask h L).1 (bs mask h L).2
theorem W9 (mask i:Nat):runEnd mask i - i<=9:=by unfold runEnd;split <;> omega
theorem wJ (mask:Nat) (h:Int) (i pt:Nat) (n:Nat) (e:dN mask h n=oG mask i pt):∀k,k<=runEnd mask i - i->dN mask h (n+k)={ oG mask i pt with j:=i+k,more:=runEnd mask i - i - k }
 |0,_=>by rw[Nat.add_zero,e];rfl
 |k+1,hk=>by have ih:=wJ mask h i pt n e k (by omega);rw[show n+(k+1)=(n+k)+1 from rfl,dN,ih];unfold lW;rw[if_pos (show runEnd mask i - i - k>0 by omega)];simp[oG];omega
theorem KH (mask:Nat) (h:Int):∀L,∃n,n<=10*L/\dN mask h n=oG mask (bs mask h L).1 (bs mask h L).2
 |0=>⟨0,by omega,rfl⟩
 |L+1=>by obtain⟨n,hn,e⟩:=KH mask h L;have r:=wJ mask h _ _ n e (runEnd mask (bs mask h L).1 - (bs mask h L).1) (aj _);have:=W9 mask (bs mask h L).1;refine⟨n+(runEnd mask (bs mask h L).1 - (bs mask h L).1)+1,by omega, ?_⟩;rw[dN,r];unfold lW;rw[if_neg (by simp)];rfl
theorem KI (mask:Nat) (h:Int):∀L,(bs mask h L).2=bits h / 32 ^ L
 |0=>by simp[bs]
 |L+1=>by rw[bs];show(bs mask h L).2 / 32=_;rw[KI mask h L,Nat.div_div_eq_div_mul,Nat.pow_succ]
theorem XA (h:Int):bits h<2 ^ 64:=by unfold bits;omega
theorem XB (mask:Nat) (h:Int) {L:Nat}(hL:13<=L):(bs mask h L).2=0:=by
 rw[KI];have h1:=XA h;have h2:(32:Nat) ^ 13<=32 ^ L:=Aw (by decide) hL;have h3:(2:Nat) ^ 64<32 ^ 13:=by decide
 exact Nat.div_eq_of_lt (by omega)
def fx (mask x:Nat):Nat:=(x*5+1) % (mask+1)
def mZ (mask:Nat):Nat->Nat->Nat
 |0,x=>x
 |n+1,x=>mZ mask n (fx mask x)
theorem KJ (mask:Nat):∀n x,mZ mask (n+1) x=fx mask (mZ mask n x)
 |0,x=>rfl
 |n+1,x=>by rw[mZ,KJ mask n,mZ]
theorem KL (mask:Nat) (h:Int):∀n,(bs mask h (13+n)).1=mZ mask n (bs mask h 13).1
 |0=>rfl
 |n+1=>by rw[KJ,<-KL mask h n,show 13+(n+1)=(13+n)+1 from rfl,bs];show((bs mask h (13+n)).1*5+1+(bs mask h (13+n)).2 / 32) % (mask+1)=_;rw[XB mask h (by omega)];rfl
def pV (mask:Nat):Nat->Nat->Nat
 |0,_=>0
 |n+1,x=>2 ^ x ||| pV mask n (fx mask x)
theorem KN (mask j:Nat):∀n x,(pV mask n x).testBit j=true->∃k,k<n/\mZ mask k x=j
 |0,x,h=>by simp[pV]at h
 |n+1,x,h=>by
  rw[pV,Nat.testBit_or,Bool.or_eq_true]at h
  rcases h with h|h
  ·rw[Nat.testBit_two_pow,decide_eq_true_eq]at h;exact⟨0,by omega,h⟩
  ·obtain⟨k,hk,e⟩:=KN mask j n _ h;exact⟨k+1,by omega,e⟩
def lD (mask:Nat):Prop:=mask=7∨mask=31∨mask=127
def KO (mask:Nat):Bool:=(ay (mask+1)).all λx=>pV mask (mask+1) x==2 ^ (mask+1) - 1
theorem XC {mask:Nat}(g:lD mask):KO mask=true:=by rcases g with rfl|rfl|rfl <;> decide +kernel
theorem XD {mask x j:Nat}(g:lD mask) (hx:x<=mask) (hj:j<=mask):∃k,k<=mask/\mZ mask k x=j:=by
 have h1:=XC g;unfold KO at h1;rw[ed]at h1;have h2:=h1 x (bw.mpr (by omega));rw[beq_iff_eq]at h2;have h3:(pV mask (mask+1) x).testBit j=true:=by rw[h2,Nat.testBit_two_pow_sub_one,decide_eq_true_eq];omega
 obtain⟨k,hk,e⟩:=KN mask j _ _ h3;exact⟨k,by omega,e⟩
theorem wK (a m:Nat):a % (m+1)<=m:=by have:=Nat.mod_lt a (show 0<m+1 by omega);omega
theorem XE (mask:Nat) (h:Int):∀L,(bs mask h L).1<=mask
 |0=>wK _ _
 |L+1=>wK _ _
theorem KQ {mask j:Nat}(g:lD mask) (h:Int) (hj:j<=mask):∃L,L<=13+mask/\(bs mask h L).1=j:=by obtain⟨k,hk,e⟩:=XD g (XE mask h 13) hj;exact⟨13+k,by omega,by rw[KL];exact e⟩
theorem XF {mask j:Nat}(g:lD mask) (h:Int) (hj:j<=mask):∃n,n<10*turns mask/\pr mask h n=j:=by obtain⟨L,hL,e⟩:=KQ g h hj;obtain⟨n,hn,e2⟩:=KH mask h L;refine⟨n,by unfold turns;omega, ?_⟩;unfold pr;rw[e2];exact e
theorem KR {mask i:Nat}(hi:i<=mask):runEnd mask i<=mask:=by unfold runEnd;split <;> omega
theorem KS {mask:Nat}(h:Int):∀n,(dN mask h n).i<=mask/\(dN mask h n).j+(dN mask h n).more<=mask
 |0=>by
  have e:bits h % (mask+1)<=mask:=wK _ _;have:=KR e;have:bits h % (mask+1)<=runEnd mask (bits h % (mask+1)):=by unfold runEnd;split <;> omega
  exact⟨e,by show bits h % (mask+1)+(runEnd mask (bits h % (mask+1)) - bits h % (mask+1))<=mask;omega⟩
 |n+1=>by
  obtain⟨h1,h2⟩:=KS (mask:=mask) h n;rw[dN];unfold lW
  split
  ·exact⟨h1,by dsimp only;omega⟩
  ·dsimp only;have e:(leap mask (dN mask h n).i (dN mask h n).perturb).1<=mask:=wK _ _;have:=KR e;have:(leap mask (dN mask h n).i (dN mask h n).perturb).1<=runEnd mask (leap mask (dN mask h n).i (dN mask h n).perturb).1:=by unfold runEnd;split <;> omega
   exact⟨e,by omega⟩
theorem BV {mask:Nat}(h:Int) (n:Nat):pr mask h n<=mask:=by have:=(KS (mask:=mask) h n).2;unfold pr;omega
def Way (mask:Nat) (occ:Nat->Prop) (h:Int) (j:Nat):Prop:=∃n,pr mask h n=j/\∀m,m<n->occ (pr mask h m)
theorem Way.mono {mask:Nat}{occ occ':Nat->Prop}{h:Int}{j:Nat}(w:Way mask occ h j) (k:∀x,occ x->occ' x):Way mask occ' h j:=let ⟨n,e,a⟩:=w;⟨n,e,λm hm=>k _ (a m hm)⟩
structure TOk (t:gr) (hs:List Int):Prop where
 size:t.place.size=hs.length
 rise:gG t.place.toList
 nod:t.dummies=#[]
 bnd:∀j∈t.place.toList,j<=t.mask
 room:hs.length<=t.mask
 msk:lD t.mask
 way:∀(i:Nat) (h:Int) (j:Nat),hs[i]?=some h->t.place.toList[i]?=some j->Way t.mask (·∈t.place.toList) h j
 plain:t.plain=true
theorem TOk.fits {t:gr}{hs:List Int}(T:TOk t hs):t.fits hs.length=true:=by unfold SetTable.fits SetTable.fill;rw[T.nod,T.size];simpa using T.room
theorem TOk.gave {t:gr}{hs:List Int}(T:TOk t hs):t.gaveWay=false:=by
 unfold SetTable.gaveWay
 rcases T.msk with e|e|e <;> rw[e] <;> rfl
theorem KU (j:Nat):SetTable.has #[] j=false:=by unfold SetTable.has;simp
theorem TOk.slot_live {t:gr}{hs:List Int}(T:TOk t hs) {j:Nat}(h:j∈t.place.toList):∃i,t.slot j=.live i/\t.place.toList[i]?=some j:=by refine⟨below t.place j, ?_,by simpa using KC T.rise h⟩;unfold SetTable.slot;dsimp only;rw[KC T.rise h];simp
theorem TOk.slot_empty {t:gr}{hs:List Int}(T:TOk t hs) {j:Nat}(h:j∉t.place.toList):t.slot j=.empty:=by unfold SetTable.slot;dsimp only;rw[W5 h,T.nod,KU];rfl
theorem TOk.empty_there {t:gr}{hs:List Int}(T:TOk t hs):∃j,j<=t.mask/\j∉t.place.toList:=by
 rcases qi (∃j,j<=t.mask/\j∉t.place.toList)with h|h
 ·exact h
 ·exfalso
  have h1:∀j,j∈ay (t.mask+1)->j∈t.place.toList:=by
   intro j hj
   rcases qi (j∈t.place.toList)with q|q
   ·exact q
   ·exact absurd ⟨j,by have:=bw.mp hj;omega,q⟩ h
  have h2:=(qz (n:=t.mask+1)).length_le_of_subset h1;rw[ib]at h2;have h3:t.place.toList.length=hs.length:=by rw[<-T.size];simp
  have:=T.room;omega
theorem XG {t:gr}{hs:List Int}(T:TOk t hs) (hashAt:Nat->Int) (h:Int):∀(fuel n N:Nat),n<=N->N - n<fuel->pr t.mask h N∉t.place.toList->
  ∃m,n<=m/\m<=N/\(∀l,n<=l->l<m->pr t.mask h l∈t.place.toList/\∀i,t.place.toList[i]?=some (pr t.mask h l)->hashAt i≠h) /\
   ((pr t.mask h m∉t.place.toList/\probe.go t hashAt h fuel (dN t.mask h n)=some (.empty (pr t.mask h m) none)) ∨
    (∃i,t.place.toList[i]?=some (pr t.mask h m)/\hashAt i=h/\probe.go t hashAt h fuel (dN t.mask h n)=some (.candidate (pr t.mask h m) i (dN t.mask h (m+1))))):=by
 intro fuel
 induction fuel with
 |zero=>intro n N _ h2 _;omega
 |succ f ih=>
  intro n N h1 h2 h3;have hj:(dN t.mask h n).j=pr t.mask h n:=rfl
  rcases qi (pr t.mask h n∈t.place.toList)with hm|hm
  ·obtain⟨i,e1,e2⟩:=T.slot_live hm
   by_cases hh:hashAt i=h
   ·refine⟨n,aj _,h1,λl a b=>absurd a (by omega),.inr ⟨i,e2,hh, ?_⟩⟩;rw[probe.go,hj,e1];dsimp only;rw[if_pos (beq_iff_eq.mpr hh),KD];rfl
   ·have hne:n≠N:=by rintro rfl;exact h3 hm
    obtain⟨m,a1,a2,a3,a4⟩:=ih (n+1) N (by omega) (by omega) h3;have e3:probe.go t hashAt h (f+1) (dN t.mask h n)=probe.go t hashAt h f (dN t.mask h (n+1)):=by rw[probe.go,hj,e1];dsimp only;rw[if_neg (by intro q;exact hh (beq_iff_eq.mp q)),KD];rfl
    refine⟨m,by omega,a2,λl b1 b2=>?_,by rw[e3];exact a4⟩
    rcases jf n l with q|q
    ·exact a3 l (by omega) b2
    ·have:l=n:=by omega
     subst this;refine⟨hm,λi' e'=>?_⟩;have:i'=i:=BU T.rise e' e2;subst this;exact hh
  ·refine⟨n,aj _,h1,λl a b=>absurd a (by omega),.inl ⟨hm, ?_⟩⟩;rw[probe.go,hj,T.slot_empty hm];dsimp only;rw[KG]
theorem TOk.stops {t:gr}{hs:List Int}(T:TOk t hs) (h:Int):∃N,N<10*turns t.mask/\pr t.mask h N∉t.place.toList:=by obtain⟨j,hj,hn⟩:=T.empty_there;obtain⟨N,hN,e⟩:=XF T.msk h hj;exact⟨N,hN,by rw[e];exact hn⟩
theorem TOk.before {t:gr}{hs:List Int}(T:TOk t hs) {h:Int}{i j m:Nat}(e1:hs[i]?=some h) (e2:t.place.toList[i]?=some j) (hm:pr t.mask h m∉t.place.toList):∃n,n<m/\pr t.mask h n=j:=by
 obtain⟨n,e,a⟩:=T.way i h j e1 e2;refine⟨n, ?_,e⟩
 rcases jf n m with q|q
 ·exact q
 ·exfalso
  rcases jf m n with r|r
  ·exact hm (a m r)
  ·have:m=n:=by omega
   subst this;exact hm (by rw[e];exact bz e2)
theorem KW {xs:Array Nat}{p j x:Nat}(hp:p<=xs.size):x∈(insertAt xs p j).toList↔x=j∨x∈xs.toList:=by
 rw[sT _ _ _ hp,bx,bg];have e:x∈xs.toList↔x∈xs.toList.take p∨x∈xs.toList.drop p:=by rw[<-bx,Af]
 rw[e];constructor
 ·rintro (a|a|a)
  ·exact .inr (.inl a)
  ·exact .inl a
  ·exact .inr (.inr a)
 ·rintro (a|a|a)
  ·exact .inr (.inl a)
  ·exact .inl a
  ·exact .inr (.inr a)
theorem XH {t:gr}(hn:t.dummies=#[]) (j:Nat):t.put j=({ t with place:=insertAt t.place (below t.place j) j },below t.place j):=by unfold SetTable.put;dsimp only;rw[hn,KU];cases t;subst hn;rfl
theorem KY {α:Type}(l:List α) (x:α) (p i:Nat) (hp:p<=l.length):(l.take p++x::l.drop p)[i]?=if i<p then l[i]? else if i=p then some x else l[i - 1]?:=by
 have hl:(l.take p).length=p:=by rw[jq];omega
 by_cases h1:i<p
 ·rw[if_pos h1,dz (by omega),yx h1]
 ·rw[if_neg h1,gb (by omega),hl]
  by_cases h2:i=p
  ·subst h2;rw[if_pos rfl,Nat.sub_self];rfl
  ·rw[if_neg h2];obtain⟨k,rfl⟩:∃k,i=p+(k+1):=⟨i - p - 1,by omega⟩
   rw[show p+(k+1) - p=k+1 by omega,jr,List.getElem?_drop,show p+(k+1) - 1=p+k by omega]
theorem TOk.put {t:gr}{hs:List Int}(T:TOk t hs) {h:Int}{n:Nat}(hn:pr t.mask h n∉t.place.toList) (hw:∀m,m<n->pr t.mask h m∈t.place.toList) (hr:hs.length+1<=t.mask):
  TOk { t with place:=insertAt t.place (below t.place (pr t.mask h n)) (pr t.mask h n) } (hs.take (below t.place (pr t.mask h n))++h::hs.drop (below t.place (pr t.mask h n))):=by
 have hb:=(sR (j:=pr t.mask h n) T.rise).2.2;have hs':t.place.toList.length=hs.length:=by rw[<-T.size];simp
 have hlen:(hs.take (below t.place (pr t.mask h n))++h::hs.drop (below t.place (pr t.mask h n))).length=hs.length+1:=by rw[bq,cg,jq,nc];have:=T.size;omega
 refine⟨?_,W6 T.rise hn,T.nod, ?_, ?_,T.msk, ?_,T.plain⟩
 ·show(insertAt t.place (below t.place (pr t.mask h n)) (pr t.mask h n)).size=_;rw[hlen];have:(insertAt t.place (below t.place (pr t.mask h n)) (pr t.mask h n)).toList.length=hs.length+1:=by rw[sT _ _ _ hb,bq,cg,jq,nc,hs'];have:=T.size;omega
  simpa using this
 ·intro j hj
  rcases(KW hb).mp hj with rfl|hj
  ·exact BV h n
  ·exact T.bnd j hj
 ·rw[hlen];exact hr
 ·intro i h' j e1 e2;have e2':(t.place.toList.take (below t.place (pr t.mask h n))++pr t.mask h n::t.place.toList.drop (below t.place (pr t.mask h n)))[i]?=some j:=by rw[<-sT _ _ _ hb];exact e2
  have hb2:below t.place (pr t.mask h n)<=hs.length:=by rw[<-T.size];exact hb
  rw[KY _ _ _ _ hb2]at e1;rw[KY _ _ _ _ (by rw[hs'];exact hb2)]at e2';have mono:∀x,x∈t.place.toList->x∈(insertAt t.place (below t.place (pr t.mask h n)) (pr t.mask h n)).toList:=λx hx=>(KW hb).mpr (.inr hx)
  by_cases q1:i<below t.place (pr t.mask h n)
  ·rw[if_pos q1]at e1 e2';exact(T.way _ _ _ e1 e2').mono mono
  ·rw[if_neg q1]at e1 e2'
   by_cases q2:i=below t.place (pr t.mask h n)
   ·rw[if_pos q2]at e1 e2'
    cases e1;cases e2'
    exact⟨n,rfl,λm hm=>mono _ (hw m hm)⟩
   ·rw[if_neg q2]at e1 e2';exact(T.way _ _ _ e1 e2').mono mono
def gR (owner:Array (Option Nat)) (j:Nat):Prop:=(owner.getD j (some 0)).isSome=true
theorem KZ {P:Nat->Bool}{n:Nat}(h:(ay n).find? P=none):∀k,k<n->P k=false:=by intro k hk;have:=List.find?_eq_none.mp h k (bw.mpr hk);simpa using this
theorem XI {P:Nat->Bool}:∀{n k:Nat},(ay n).find? P=some k->k<n/\P k=true/\∀l,l<k->P l=false:=by
 intro n
 induction n with
 |zero=>intro k h;simp at h
 |succ n ih=>
  intro k h;rw[List.range_succ,List.find?_append]at h
  cases q:(ay n).find? P with
  |some k'=>rw[q]at h;simp at h;subst h;obtain⟨a,b,c⟩:=ih q;exact⟨by omega,b,c⟩
  |none=>
   rw[q]at h
   by_cases hp:P n=true
   ·simp[hp]at h;subst h;exact⟨by omega,hp,λl hl=>KZ q l hl⟩
   ·simp[hp]at h
theorem XJ {mask:Nat}{h:Int}{L n:Nat}(e:dN mask h n=oG mask (bs mask h L).1 (bs mask h L).2):dN mask h (n+(runEnd mask (bs mask h L).1 - (bs mask h L).1)+1)=oG mask (bs mask h (L+1)).1 (bs mask h (L+1)).2:=by have r:=wJ mask h _ _ n e (runEnd mask (bs mask h L).1 - (bs mask h L).1) (aj _);rw[dN,r];unfold lW;rw[if_neg (by simp)];rfl
theorem XM {mask:Nat}{h:Int}{owner:Array (Option Nat)}:∀(fuel L n:Nat),dN mask h n=oG mask (bs mask h L).1 (bs mask h L).2->(∀k,k<n->gR owner (pr mask h k))->
  (∃L',L<=L'/\L'<L+fuel/\¬ gR owner (bs mask h L').1)->
  ∃n,layClean.free mask owner fuel (bs mask h L).1 (bs mask h L).2=some (pr mask h n)/\¬ gR owner (pr mask h n)/\∀m,m<n->gR owner (pr mask h m):=by
 intro fuel
 induction fuel with
 |zero=>rintro L n _ _ ⟨L',a,b,_⟩;omega
 |succ f ih=>
  rintro L n e hb ⟨L',a1,a2,a3⟩
  have r:=wJ mask h _ _ n e;have hle:(bs mask h L).1<=runEnd mask (bs mask h L).1:=by unfold runEnd;split <;> omega
  rw[layClean.free]
  cases q:(ay (runEnd mask (bs mask h L).1+1 - (bs mask h L).1)).find? λk=>(owner.getD ((bs mask h L).1+k) (some 0)).isNone with
  |some k=>
   obtain⟨b1,b2,b3⟩:=XI q;dsimp only;have ek:pr mask h (n+k)=(bs mask h L).1+k:=by unfold pr;rw[r k (by omega)]
   refine⟨n+k,by rw[ek], ?_,λm hm=>?_⟩
   ·rw[ek];unfold gR;simp at b2;simp[b2]
   ·rcases jf m n with z|z
    ·exact hb m z
    ·obtain⟨l,rfl⟩:∃l,m=n+l:=⟨m - n,by omega⟩
     have el:pr mask h (n+l)=(bs mask h L).1+l:=by unfold pr;rw[r l (by omega)]
     rw[el];have:=b3 l (by omega);unfold gR
     cases w:owner.getD ((bs mask h L).1+l) (some 0)with
     |none=>rw[w]at this;simp at this
     |some _=>rfl
  |none=>
   dsimp only;have b:=KZ q;have hocc:∀l,l<=runEnd mask (bs mask h L).1 - (bs mask h L).1->gR owner ((bs mask h L).1+l):=by
    intro l hl;have:=b l (by omega);unfold gR
    cases w:owner.getD ((bs mask h L).1+l) (some 0)with
    |none=>rw[w]at this;simp at this
    |some _=>rfl
   have hne:L≠L':=by
    rintro rfl
    exact a3 (by simpa using hocc 0 (by omega))
   refine ih (L+1) _ (XJ e) (λk hk=>?_) ⟨L',by omega,by omega,a3⟩
   rcases jf k n with z|z
   ·exact hb k z
   ·obtain⟨l,rfl⟩:∃l,k=n+l:=⟨k - n,by omega⟩
    have el:pr mask h (n+l)=(bs mask h L).1+l:=by unfold pr;rw[r l (by omega)]
    rw[el];exact hocc l (by omega)
structure LOk (mask:Nat) (hs:List Int) (owner:Array (Option Nat)) (k:Nat):Prop where
 size:owner.size=mask+1
 own:∀(j i:Nat),owner[j]?=some (some i)->i<k/\∃h,hs[i]?=some h/\Way mask (gR owner) h j
 all:∀(i:Nat),i<k->∃j:Nat,owner[j]?=some (some i)
 inj:∀(j j' i:Nat),owner[j]?=some (some i)->owner[j']?=some (some i)->j=j'
theorem sU {owner:Array (Option Nat)}{j:Nat}(hj:j<owner.size):gR owner j↔∃i,owner[j]?=some (some i):=by
 unfold gR;rw[fi hj];simp only[jv,hj,dif_pos,Array.getInternal_eq_getElem,yw]
 cases owner[j] <;> simp
theorem LOk.free {mask k:Nat}{hs:List Int}{owner:Array (Option Nat)}(O:LOk mask hs owner k) (hk:k<=mask):∃j,j<=mask/\¬ gR owner j:=by
 rcases qi (∃j,j<=mask/\¬ gR owner j)with h|h
 ·exact h
 ·exfalso
  have h1:∀j,j<=mask->∃i,owner[j]?=some (some i):=λj hj=>by
   rcases qi (gR owner j)with q|q
   ·exact(sU (by rw[O.size];omega)).mp q
   ·exact absurd ⟨j,hj,q⟩ h
  let f:Nat->Nat:=λj=>match owner[j]? with|some (some i)=>i|_=>0
  have hf:∀j,j<=mask->owner[j]?=some (some (f j)):=λj hj=>by obtain⟨i,e⟩:=h1 j hj;show owner[j]?=some (some (match owner[j]? with|some (some i)=>i|_=>0));rw[e]
  have nd:((ay (mask+1)).map f).Nodup:=by rw[xj];rw[uv];refine uq ?_ (qz (n:=mask+1));intro a b ha hb hab e;have ea:=hf a (by have:=bw.mp ha;omega);have eb:=hf b (by have:=bw.mp hb;omega);rw[e]at ea;exact hab (O.inj _ _ _ ea eb)
  have sub:∀x,x∈(ay (mask+1)).map f->x∈ay k:=by intro x hx;obtain⟨j,hj,rfl⟩:=bu.mp hx;exact bw.mpr (O.own j _ (hf j (by have:=bw.mp hj;omega))).1
  have:=nd.length_le_of_subset sub;simp at this;omega
theorem LOk.step {mask k:Nat}{hs:List Int}{owner:Array (Option Nat)}{h:Int}(g:lD mask) (O:LOk mask hs owner k) (hk:k<=mask) (hh:hs[k]?=some h):
  ∃j,layClean.free mask owner (turns mask) (bits h % (mask+1)) (bits h)=some j/\LOk mask hs (owner.setIfInBounds j (some k)) (k+1):=by
 obtain⟨j0,hj0,hn0⟩:=O.free hk;obtain⟨L,hL,eL⟩:=KQ g h hj0;obtain⟨n,e,hn,hw⟩:=XM (mask:=mask) (h:=h) (owner:=owner) (turns mask) 0 0 rfl (λk hk=>absurd hk (by omega)) ⟨L,by omega,by unfold turns;omega,by rw[eL];exact hn0⟩;refine⟨pr mask h n,e, ?_⟩;have hjl:pr mask h n<owner.size:=by rw[O.size];have:=BV (mask:=mask) h n;omega
 have hjn:owner[pr mask h n]?=some none:=by
  rw[fi hjl];have:¬ ∃i,owner[pr mask h n]?=some (some i):=λq=>hn ((sU hjl).mpr q)
  cases w:owner[pr mask h n]with
  |none=>rfl
  |some i=>exact absurd ⟨i,by rw[fi hjl,w]⟩ this
 have get:∀j,(owner.setIfInBounds (pr mask h n) (some k))[j]?=if pr mask h n=j then some (some k)else owner[j]?:=by
  intro j;rw[Array.getElem?_setIfInBounds]
  by_cases q:pr mask h n=j
  ·rw[if_pos q,if_pos q,if_pos hjl]
  ·rw[if_neg q,if_neg q]
 have hsz:(owner.setIfInBounds (pr mask h n) (some k)).size=mask+1:=by rw[Array.size_setIfInBounds];exact O.size
 have occm:∀x,gR owner x->gR (owner.setIfInBounds (pr mask h n) (some k)) x:=by
  intro x hx
  by_cases hl:x<owner.size
  ·obtain⟨i,e⟩:=(sU hl).mp hx;refine(sU (by rw[hsz,<-O.size];exact hl)).mpr ?_;rw[get]
   by_cases q:pr mask h n=x
   ·exact⟨k,if_pos q⟩
   ·exact⟨i,by rw[if_neg q];exact e⟩
  ·unfold gR;simp[jv,hl]
 refine⟨hsz, ?_, ?_, ?_⟩
 ·intro j i e;rw[get]at e
  by_cases q:pr mask h n=j
  ·rw[if_pos q]at e;cases e;exact⟨by omega,h,hh,n,q,λm hm=>occm _ (hw m hm)⟩
  ·rw[if_neg q]at e;obtain⟨a,h',b,c⟩:=O.own j i e;exact⟨by omega,h',b,c.mono occm⟩
 ·intro i hi
  by_cases q:i=k
  ·subst q;exact⟨pr mask h n,by rw[get,if_pos rfl]⟩
  ·obtain⟨j,e⟩:=O.all i (by omega);refine⟨j, ?_⟩;rw[get]
   by_cases z:pr mask h n=j
   ·rw[<-z,hjn]at e;cases e
   ·rw[if_neg z];exact e
 ·intro j j' i e e';rw[get]at e e'
  by_cases z:pr mask h n=j
  ·rw[if_pos z]at e;cases e
   by_cases z':pr mask h n=j'
   ·exact z.symm.trans z'
   ·rw[if_neg z']at e';have:=(O.own j' _ e').1;omega
  ·rw[if_neg z]at e
   by_cases z':pr mask h n=j'
   ·rw[if_pos z']at e';cases e';have:=(O.own j _ e).1;omega
   ·rw[if_neg z']at e';exact O.inj _ _ _ e e'
theorem K0 {mask:Nat}{hs:List Int}(g:lD mask) (hl:hs.length<=mask):∀(l pre:List Int) (owner:Array (Option Nat)),hs=pre++l->LOk mask hs owner pre.length->
  ∃owner',l.foldl (λ(acc:Option (Array (Option Nat)×Nat)) h=>do
    let (owner,k) <-acc
    let j <-layClean.free mask owner (turns mask) (bits h % (mask+1)) (bits h)
    pure (owner.setIfInBounds j (some k),k+1)) (some (owner,pre.length))=some (owner',hs.length)/\LOk mask hs owner' hs.length
 | [],pre,owner,e,O=>by rw[jy]at e;subst e;exact⟨owner,rfl,O⟩
 |h::l,pre,owner,e,O=>by
  have hh:hs[pre.length]?=some h:=by rw[e];simp
  obtain⟨j,e1,O1⟩:=O.step g (by rw[e]at hl;simp at hl;omega) hh;have e2:hs=(pre++[h])++l:=by rw[e];simp
  have hlen:(pre++[h]).length=pre.length+1:=by simp
  obtain⟨o',a,b⟩:=K0 g hl l (pre++[h]) _ e2 (by rw[hlen];exact O1);refine⟨o', ?_,b⟩;rw[List.foldl_cons];rw[<-a,hlen]
  congr 1
  show(do let j <-layClean.free mask owner (turns mask) (bits h % (mask+1)) (bits h);pure (owner.setIfInBounds j (some pre.length),pre.length+1))=_;rw[e1];rfl
theorem XN {mask:Nat}{hs:Array Int}(g:lD mask) (hl:hs.size<=mask):∃owner,layClean mask hs=some owner/\LOk mask hs.toList owner hs.size:=by
 have O0:LOk mask hs.toList (Array.replicate (mask+1) none) 0:=by
  refine⟨by simp, ?_,λi hi=>absurd hi (by omega), ?_⟩
  ·intro j i e;rw[yv]at e
   split at e <;> simp at e
  ·intro j j' i e;rw[yv]at e
   split at e <;> simp at e
 obtain⟨o',a,b⟩:=K0 g (by simpa using hl) hs.toList [] _ rfl O0;refine⟨o', ?_,by simpa using b⟩;unfold layClean;rw[<-Array.foldl_toList];simp only[oh]at a;rw[a];rfl
theorem Way.mono' {mask:Nat}{occ occ':Nat->Prop}{h:Int}{j:Nat}(w:Way mask occ h j) (k:∀x,x<=mask->occ x->occ' x):Way mask occ' h j:=let ⟨n,e,a⟩:=w;⟨n,e,λm hm=>k _ (BV h m) (a m hm)⟩
theorem K1 (g:Nat->Option Nat):∀(l:List Nat),l.Pairwise (·<·)->((l.filterMap λj=>(g j).map ((j,·):Nat->Nat×Nat)).map dy).Pairwise (·<·)
 | [],_=>by simp
 |j::l,h=>by
  rw[fj]at h;have ih:=K1 g l h.2
  cases e:g j with
  |none=>simpa[ck,e]using ih
  |some i=>
   simp only[ck,e,Option.map_some,dg,fj];refine⟨?_,ih⟩;intro a ha;obtain⟨⟨x,y⟩,hp,rfl⟩:=bu.mp ha;obtain⟨z,hz,ez⟩:=ie.mp hp
   cases q:g z with
   |none=>rw[q]at ez;simp at ez
   |some i'=>rw[q]at ez;simp at ez;have:=h.1 z hz;omega
theorem XO {mask finger moves:Nat}{led:Bool}{hs:Array Int}(g:lD mask) (hl:hs.size<=mask):
  ∃t order,laid mask finger moves led true hs=some (t,order)/\t.mask=mask/\t.led=led/\order.toList.Perm (ay hs.size)/\TOk t (order.toList.filterMap (hs.toList[·]?)):=by
 obtain⟨owner,e,O⟩:=XN g hl;generalize hlive:(ay (mask+1)).filterMap (λj=>(owner.getD j none).map ((j,·):Nat->Nat×Nat))=live;have hmem:∀j i,(j,i)∈live↔owner[j]?=some (some i):=by
  intro j i;rw[<-hlive,ie];constructor
  ·rintro ⟨x,hx,ex⟩
   have hx':x<owner.size:=by rw[O.size];exact bw.mp hx
   have eg:owner.getD x none=owner[x]:=by simp[jv,hx']
   rw[eg]at ex
   cases q:owner[x]with
   |none=>rw[q]at ex;simp at ex
   |some i'=>rw[q]at ex;simp at ex;obtain⟨rfl,rfl⟩:=ex;rw[fi hx',q]
  ·intro h;obtain⟨hx',q⟩:=dh.mp h;refine⟨j,bw.mpr (by rw[<-O.size];exact hx'), ?_⟩;have eg:owner.getD j none=owner[j]:=by simp[jv,hx']
   rw[eg,q];rfl
 have hrise:(live.map dy).Pairwise (·<·):=by rw[<-hlive];exact K1 _ _ (List.pairwise_lt_range)
 have hperm:(live.map pf).Perm (ay hs.size):=by
  refine(pd ?_ qz).mpr ?_
  ·rw[xj,uv];rw[uv]at hrise;refine uq ?_ hrise
   rintro ⟨a,i⟩ ⟨b,i'⟩ ha hb hab e
   have e':i=i':=e;subst e';have:=O.inj a b i ((hmem _ _).mp ha) ((hmem _ _).mp hb);have hab':a<b:=hab;omega
  ·intro i;rw[bw];constructor
   ·intro h;obtain⟨⟨j,i'⟩,hp,rfl⟩:=bu.mp h;exact(O.own j i' ((hmem _ _).mp hp)).1
   ·intro h;obtain⟨j,ej⟩:=O.all i h;exact bu.mpr ⟨(j,i),(hmem _ _).mpr ej,rfl⟩
 have hlen:live.length=hs.size:=by simpa using hperm.length_eq
 have hget:∀(i:Nat),((live.map pf).filterMap (hs.toList[·]?))[i]?=(live[i]?).bind λp=>hs.toList[p.2]?:=by
  have gen:∀(l:List (Nat×Nat)),(∀p∈l,p.2<hs.toList.length)->∀(i:Nat),((l.map pf).filterMap (hs.toList[·]?))[i]?=(l[i]?).bind λp=>hs.toList[p.2]?:=by
   intro l
   induction l with
   |nil=>intro _ i;simp
   |cons p l ih=>
    intro hp i;have h1:=hp p (bh ..);have e1:hs.toList[p.2]?=some hs.toList[p.2]:=aw h1;rw[dg,ck,e1]
    cases i with
    |zero=>simp[e1]
    |succ i=>simp only[jr];exact ih (λq hq=>hp q (ax _ hq)) i
  intro i;refine gen live ?_ i
  rintro ⟨j,k⟩ hp
  have:=(O.own j k ((hmem _ _).mp hp)).1;simpa using this
 have hlen':((live.map pf).filterMap (hs.toList[·]?)).length=hs.size:=by
  have gen:∀(l:List (Nat×Nat)),(∀p∈l,p.2<hs.toList.length)->((l.map pf).filterMap (hs.toList[·]?)).length=l.length:=by
   intro l
   induction l with
   |nil=>intro _;rfl
   |cons p l ih=>intro hp;have h1:=hp p (bh ..);have e1:hs.toList[p.2]?=some hs.toList[p.2]:=aw h1;rw[dg,ck,e1];show(_::_).length=_;rw[cg,cg,ih (λq hq=>hp q (ax _ hq))]
  rw[gen live ?_,hlen]
  rintro ⟨j,k⟩ hp
  have:=(O.own j k ((hmem _ _).mp hp)).1;simpa using this
 refine⟨{ mask,place:=(live.map dy).toArray,dummies:=#[],finger,led,moves,plain:=true },(live.map pf).toArray, ?_,rfl,rfl,hperm, ?_⟩
 ·unfold laid;rw[e];show some _=some _;rw[hlive]
 ·refine⟨(by show(live.map dy).toArray.size=((live.map pf).filterMap (hs.toList[·]?)).length;rw[hlen',ar,bj,hlen]),hrise,rfl, ?_,by rw[hlen'];exact hl,g, ?_,rfl⟩
  ·intro j hj;obtain⟨⟨x,y⟩,hp,rfl⟩:=bu.mp (show j∈live.map dy from hj);have:=(hmem _ _).mp hp;obtain⟨hx',_⟩:=dh.mp this;have:=O.size;show x<=mask;omega
  ·intro i h j e1 e2;have e1':((live.map pf).filterMap (hs.toList[·]?))[i]?=some h:=e1;rw[hget]at e1';have e2':(live.map dy)[i]?=some j:=e2;rw[dk]at e2'
   cases q:live[i]? with
   |none=>rw[q]at e2';cases e2'
   |some p=>
    obtain⟨x,k⟩:=p;rw[q]at e1' e2';simp at e1' e2';subst e2';have hp:=bz q;obtain⟨a,h',b,c⟩:=O.own x k ((hmem _ _).mp hp);have hh:h'=h:=by
     have:hs.toList[k]?=some h:=by simpa using e1'
     rw[b]at this;exact cy this
    subst hh;refine c.mono' λy hy ho=>?_;obtain⟨i',ei⟩:=(sU (by rw[O.size];omega)).mp ho;exact bu.mpr ⟨(y,i'),(hmem _ _).mpr ei,rfl⟩
end SM
namespace SR
open PySem PySem.Spec PyProof.Rows SM
section
variable{prog:bo}{w:cw}
def hk (prog:bo) (w:cw) (k:List Int):Int:=tupleKeyHash (intKind prog w) k
abbrev KB:=List (List Int×ah)
def gH (prog:bo) (w:cw) (kb:KB):List (Int×af):=kb.map λp=>(hk prog w p.1,gn p.2)
structure Parts (prog:bo) (w:cw) (h:cz) (a:ah) (kb:KB) (o:Obj) (es:Array (Int×af)) (ep:Nat) (t:gr):Prop where
 obj:h.get? a=some o
 ex:o.ExactSet
 data:o.data=.set es ep t
 es:es.toList=gH prog w kb
 tab:TOk t (kb.map λp=>hk prog w p.1)
 nd:(kb.map dy).Nodup
 nf:kb.length*5<t.mask*3
 led:t.led=!w.params.followText "set-order"
def kN (prog:bo) (w:cw) (h:cz) (a:ah) (kb:KB):Prop:=∃o es ep t,Parts prog w h a kb o es ep t
def wL (prog:bo) (w:cw) (h:cz) (kb:KB):Prop:=∀p∈kb,fw (intKind prog w) h p.1 p.2
variable{h:cz}{a:ah}{kb:KB}{o:Obj}{es:Array (Int×af)}{ep:Nat}{t:gr}
theorem Parts.size (P:Parts prog w h a kb o es ep t):es.size=kb.length:=by have:=congrArg qc P.es;simpa[gH]using this
theorem Parts.fits (P:Parts prog w h a kb o es ep t):t.fits es.size=true:=by have:=P.tab.fits;rw[bj]at this;rw[P.size];exact this
theorem Parts.at_ (P:Parts prog w h a kb o es ep t) {i:Nat}{p:List Int×ah}(e:kb[i]?=some p):es[i]?=some (hk prog w p.1,.ref p.2):=by
 have:es.toList[i]?=some (hk prog w p.1,gn p.2):=by rw[P.es];simp[gH,e]
 simpa using this
theorem Parts.hash_at (P:Parts prog w h a kb o es ep t) {i:Nat}{p:List Int×ah}(e:kb[i]?=some p):(es[i]?.map (·.1)).getD 0=hk prog w p.1:=by rw[P.at_ e];rfl
end
section
variable{prog:bo}{w:cw}{A:cx}{E:af->ag->Prop}{s:ag}{a:ah}{kb:KB}{o:Obj}{es:Array (Int×af)}{ep:Nat}{t:gr}
theorem K2 {ks:List Int}{b:ah}{Q:Bool->ag->Prop}(hb:fw (intKind prog w) s.heap ks b) (h:Q false s):wpAny (model prog w) A (ofAClassStatement 8 (.ref b)) Q E s:=by
 obtain⟨o,items,n,ho,hc,hd,hi⟩:=hb;unfold ofAClassStatement;refine aa (qe (T := "tuple") ⟨o,ho,hc⟩ ?_);show wpAny _ _ ((if(("tuple" : String) == "tuple")=true then(pure true:Sem Bool)else isSubtype (.type "tuple") (.type "tuple")) >>= _) _ _ s;rw[if_pos (by decide)];refine aa (ai ?_);simp only[nv,cn,if_false];refine aa (jb ho hd ?_);refine aa ?_;show wpAny _ _ (forIn items _ _) _ _ s;rw[<-Ax];refine sy _ (λrest r s'=>r.1=none/\s'=s/\∀v∈rest,carriedByValue v=true) _ ?_ ?_ _ _ ⟨rfl,rfl,hi.byValue⟩
 ·rintro v rest r s' ⟨hr,rfl,hall⟩
  have hv:=hall v bh;have e:ofAClassStatement 7 v=pure false:=by
   cases v with
   |ref a=>simp[carriedByValue]at hv
   |_=>rfl
  rw[e];refine aa (ai ?_);simp only[cn,if_false];exact ai ⟨rfl,rfl,λu hu'=>hall u (ax _ hu')⟩
 ·rintro ⟨r1,r2⟩ s' ⟨hr,rfl,_⟩
  simp only at hr;subst hr;exact ai h
theorem XQ {k:List Int}{b:ah}{Q:Bool->ag->Prop}(hb:fw (intKind prog w) s.heap k b):∀(l:List af),(∀y∈l,∃k' b',y=.ref b'/\fw (intKind prog w) s.heap k' b')->Q false s->
  wpAny (model prog w) A (searchCouldBeSeen (.ref b) l) Q E s:=by
 intro l hl h;unfold searchCouldBeSeen;refine aa ?_;refine sy _ (λrest r s'=>r.1=none/\s'=s/\∀y∈rest,∃k' b',y=.ref b'/\fw (intKind prog w) s.heap k' b') _ ?_ ?_ _ _ ⟨rfl,rfl,hl⟩
 ·rintro y rest r s' ⟨hr,rfl,hall⟩
  obtain⟨k',b',rfl,hb'⟩:=hall y bh;have fin:r.1=none/\s'=s'/\∀y∈rest,∃k' b',y=.ref b'/\fw (intKind prog w) s'.heap k' b':=⟨hr,rfl,λu hu=>hall u (ax _ hu)⟩
  dsimp only
  split
  ·exact ai ⟨rfl,rfl,fin.2.2⟩
  ·refine aa (wpAny_eqIsQuiet_tuple hb ?_);simp only[nv,cn,if_false];refine aa (wpAny_eqIsQuiet_tuple hb' ?_);simp only[nv,cn,if_false];refine aa (K2 hb ?_);simp only[cn,if_false];refine aa (K2 hb' ?_);simp only[cn,if_false];exact ai ⟨rfl,rfl,fin.2.2⟩
 ·rintro ⟨r1,r2⟩ s' ⟨hr,rfl,_⟩
  simp only at hr;subst hr;exact ai h
end
end SR
namespace SR
open PySem PySem.Spec PyProof.Rows SM
section
variable{prog:bo}{w:cw}{A:cx}{E:af->ag->Prop}{s:ag}{a:ah}{kb:KB}{o:Obj}{es:Array (Int×af)}{ep:Nat}{t:gr}{k:List Int}{b:ah}
theorem mem_keys {kb:KB}{k:List Int}:k∈kb.map dy↔∃(i:Nat) (b:ah),kb[i]?=some (k,b):=by
 constructor
 ·intro h;obtain⟨⟨k',b⟩,hp,rfl⟩:=bu.mp h;obtain⟨i,hi,e⟩:=jo hp;exact⟨i,b,by rw[aw hi,e]⟩
 ·rintro ⟨i,b,e⟩
  exact bu.mpr ⟨(k,b),bz e,rfl⟩
theorem XR (P:Parts prog w s.heap a kb o es ep t) (T:wL prog w s.heap kb) (hb:fw (intKind prog w) s.heap k b) (hu:A.units<cLine) {Q:SetFound->ag->Prop}
  (hin:k∈kb.map dy->Q (.there none) s)
  (hout:k∉kb.map dy->∀n,pr t.mask (hk prog w k) n∉t.place.toList->(∀m,m<n->pr t.mask (hk prog w k) m∈t.place.toList)->Q (.free (pr t.mask (hk prog w k) n) false) s)
  (N:Nat) (hN:N<10*rn t.mask) (hNe:pr t.mask (hk prog w k) N∉t.place.toList):
  ∀(fuel n:Nat) (stand:Option SetTable.Probe),stand.getD (t.probeStart (hk prog w k))=dN t.mask (hk prog w k) n->n<=N->N - n<fuel->
   (∀l,l<n->pr t.mask (hk prog w k) l∈t.place.toList/\∀(i:Nat) p,t.place.toList[i]?=some (pr t.mask (hk prog w k) l)->kb[i]?=some p->p.1≠k)->
   wpAny (model prog w) A (setSearchFrom a (.ref b) (hk prog w k) true fuel stand) Q E s:=by
 intro fuel
 induction fuel with
 |zero=>intro n stand _ _ h2;omega
 |succ f ih=>
  intro n stand hst h1 h2 hseen;have hlen:t.place.toList.length=kb.length:=by have:=P.tab.size;simpa using this
  have kbat:∀{i j:Nat},t.place.toList[i]?=some j->∃p,kb[i]?=some p:=λ{i j} e=>by obtain⟨hi,_⟩:=az.mp e;exact⟨kb[i]'(by omega),aw (by omega)⟩
  unfold setSearchFrom;refine aa (jd P.obj P.data P.fits ?_);dsimp only;rw[P.tab.gave];simp only[cn,if_false];obtain⟨m,a1,a2,a3,a4⟩:=XG P.tab (λi=>(es[i]?.map (·.1)).getD 0) (hk prog w k) (10*rn t.mask) n N h1 (by omega) hNe;have pass:∀l,l<m->pr t.mask (hk prog w k) l∈t.place.toList/\∀(i:Nat) p,t.place.toList[i]?=some (pr t.mask (hk prog w k) l)->kb[i]?=some p->p.1≠k:=by
   intro l hl
   rcases jf l n with q|q
   ·exact hseen l q
   ·obtain⟨b1,b2⟩:=a3 l q hl;refine⟨b1,λi p e1 e2 e3=>b2 i e1 ?_⟩;show(es[i]?.map (·.1)).getD 0=_;rw[P.hash_at e2,e3]
  rcases a4 with⟨b1,b2⟩|⟨i,b1,b2,b3⟩
  ·have e:∀g:Nat->Int,g=(λi=>(es[i]?.map (·.1)).getD 0)->t.probe g (hk prog w k) (stand.getD (t.probeStart (hk prog w k)))=some (.empty (pr t.mask (hk prog w k) m) none):=by rintro g rfl;rw[hst];exact b2
   rw[e]
   rotate_left
   ·rfl
   refine ai (hout ?_ m b1 λl hl=>(pass l hl).1);intro hmem;obtain⟨i,b',ei⟩:=mem_keys.mp hmem;obtain⟨j,ej⟩:∃j,t.place.toList[i]?=some j:=by obtain⟨hi,_⟩:=az.mp ei;exact⟨_,aw (by omega)⟩
   obtain⟨n',hn',e'⟩:=P.tab.before (i:=i) (h:=hk prog w k) (by rw[dk,ei];rfl) ej b1;exact(pass n' hn').2 i (k,b') (by rw[e'];exact ej) ei rfl
  ·have e:∀g:Nat->Int,g=(λi=>(es[i]?.map (·.1)).getD 0)->t.probe g (hk prog w k) (stand.getD (t.probeStart (hk prog w k)))=some (.candidate (pr t.mask (hk prog w k) m) i (dN t.mask (hk prog w k) (m+1))):=by rintro g rfl;rw[hst];exact b3
   rw[e]
   rotate_left
   ·rfl
   dsimp only;obtain⟨p,ep'⟩:=kbat b1;have hp:=T p (bz ep');have es1:t.sameMemory t.moves t.mask=some true:=by unfold SetTable.sameMemory;simp
   obtain⟨i2,e2,e3⟩:=P.tab.slot_live (bz b1);have hi2:i2=i:=BU P.tab.rise e3 b1;subst hi2;have nxt:¬ p.1=k->wpAny (model prog w) A (setSearchFrom a (.ref b) (hk prog w k) true f (some (dN t.mask (hk prog w k) (m+1)))) Q E s:=by
    intro hpk;have hmN:m≠N:=by rintro rfl;exact hNe (bz b1)
    refine ih (m+1) _ rfl (by omega) (by omega) ?_
    ·intro l hl
     rcases jf l m with q|q
     ·exact pass l q
     ·have:l=m:=by omega
      subst this;refine⟨bz b1,λi' p' z1 z2=>?_⟩;have:i'=i2:=BU P.tab.rise z1 b1;subst this;rw[ep']at z2;cases z2;exact hpk
   cases hl:t.led
   case' true=>simp only[nv,cn,if_false]
   case' false=>
    simp only[Bool.not_false,if_true];refine aa (XQ hb _ ?_ ?_)
    ·intro y hy;obtain⟨e1,he1,rfl⟩:=bu.mp hy;have he2:=(Array.mem_filter.mp (Ag.mp he1)).1;have he3:e1∈gH prog w kb:=by rw[<-P.es];exact Ag.mpr he2
     obtain⟨q,hq,rfl⟩:=bu.mp he3;exact⟨q.1,q.2,rfl,T q hq⟩
    simp only[cn,if_false]
   all_goals
    rw[P.at_ ep'];dsimp only;refine aa (gv (wpAny_eqBool_tuple hu hp hb ?_));refine aa (jd P.obj P.data P.fits ?_);dsimp only
    by_cases hpk:p.1=k
    ·rw[decide_eq_true hpk];simp only[Bool.true_and,if_true];exact ai (hin (mem_keys.mpr ⟨i2,p.2,by rw[ep',<-hpk]⟩))
    ·rw[decide_eq_false hpk];simp only[pb,cn,if_false];rw[es1];dsimp only;simp only[if_true];rw[e2];dsimp only;rw[P.at_ ep'];dsimp only;refine aa (wpAny_isSame_ref_self ?_);refine aa (ai ?_);simp only[if_true];exact nxt hpk
theorem XS (P:Parts prog w s.heap a kb o es ep t) (T:wL prog w s.heap kb) (hb:fw (intKind prog w) s.heap k b) (hu:A.units<cLine) {Q:SetFound->ag->Prop}
  (hin:k∈kb.map dy->Q (.there none) s)
  (hout:k∉kb.map dy->∀n,pr t.mask (hk prog w k) n∉t.place.toList->(∀m,m<n->pr t.mask (hk prog w k) m∈t.place.toList)->Q (.free (pr t.mask (hk prog w k) n) false) s):
  wpAny (model prog w) A (setSearch a (.ref b) (hk prog w k) true) Q E s:=by
 obtain⟨N,hN,hNe⟩:=P.tab.stops (hk prog w k);have hm:10*rn t.mask<=1420:=by
  unfold rn
  rcases P.tab.msk with e|e|e <;> rw[e] <;> decide
 exact XR P T hb hu hin hout N hN hNe 100000 0 none rfl (jg _) (by omega) λl hl=>absurd hl (by omega)
theorem XT {Q:Bool->ag->Prop}(hb:fw (intKind prog w) s.heap k b) (h:Q true s):wpAny (model prog w) A (hashByValue 8 (.ref b)) Q E s:=by
 have hT:=hb.typeIs;obtain⟨o,items,n,ho,hc,hd,hi⟩:=hb;unfold hashByValue;refine aa (wpAny_specialOf hT F.slot_tuple_hash.lookup ?_);dsimp only;refine aa (jb ho hd ?_);refine aa ?_;show wpAny _ _ (forIn items _ _) _ _ s;rw[<-Ax];have hv:∀v∈items.toList,∃i t,v=.int i t:=by
  clear hd ho
  generalize items.toList=l at hi
  induction hi with
  |nil=>intro v h;cases h
  |cons h1 _ ih=>
   intro v hv
   rcases bg.mp hv with rfl|hv
   ·obtain⟨t,e⟩:=lr h1;exact⟨_,t,e⟩
   ·exact ih v hv
 refine sy _ (λrest r s'=>r.1=none/\s'=s/\∀v∈rest,∃i t,v=.int i t) _ ?_ ?_ _ _ ⟨rfl,rfl,hv⟩
 ·rintro v rest r s' ⟨hr,rfl,hall⟩
  obtain⟨i,t,rfl⟩:=hall v bh;refine aa (ai ?_);simp only[nv,cn,if_false];exact ai ⟨rfl,rfl,λu hu'=>hall u (ax _ hu')⟩
 ·rintro ⟨r1,r2⟩ s' ⟨hr,rfl,_⟩
  simp only at hr;subst hr;exact ai h
end
end SR
namespace SR
open PySem PySem.Spec PyProof.Rows SM
section
variable{prog:bo}{w:cw}{A:cx}{E:af->ag->Prop}{s:ag}{a:ah}{kb:KB}{o:Obj}{es:Array (Int×af)}{ep:Nat}{t:gr}{k:List Int}{b:ah}
theorem XU (p:Nat):(gH prog w kb).take p++(hk prog w k,gn b)::(gH prog w kb).drop p=gH prog w (kb.take p++(k,b)::kb.drop p):=by simp[gH,zh,uf]
theorem XW (p:Nat):(kb.map λq=>hk prog w q.1).take p++hk prog w k::(kb.map λq=>hk prog w q.1).drop p=(kb.take p++(k,b)::kb.drop p).map λq=>hk prog w q.1:=by simp[zh,uf]
theorem wO {α:Type}(l:List α) (x:α) (p:Nat):(l.take p++x::l.drop p).Perm (x::l):=by have h:(l.take p++x::l.drop p).Perm (x::(l.take p++l.drop p)):=List.perm_middle;rwa [Af]at h
theorem BW {p:Nat}(h:(kb.map dy).Nodup) (hk:k∉kb.map dy):((kb.take p++(k,b)::kb.drop p).map dy).Nodup:=by have q:=(wO kb (k,b) p).map dy;exact q.nodup_iff.mpr (jz.mpr ⟨hk,h⟩)
theorem K4 {es':Array (Int×af)}{t':gr}(hd:o.data=.set es ep t) (ho:s.heap.get? a=some o):(s.heap.update a (Obj.putSet es' t')).get? a=some { o with data:=.set es' (ep+1) t' }:=by have:=my (Obj.putSet es' t') ho (by rw[putSet_of es' t' hd];rfl);rw[putSet_of es' t' hd]at this;exact this
theorem K5 {α:Type}:∀(l:List α),(ay l.length).filterMap (λi=>l[i]?)=l
 | []=>rfl
 |x::l=>by
  rw[cg,zq,ck];simp only[rf,List.filterMap_map]
  congr 1
  exact K5 l
theorem K6 {kb:KB}{mask' wanted:Nat}{Q:Unit->ag->Prop}(ho:s.heap.get? a=some o) (hex:o.ExactSet) (hd:o.data=.set es ep t) (hes:es.toList=gH prog w kb) (hT:TOk t (kb.map λp=>hk prog w p.1)) (nd:(kb.map dy).Nodup) (hled:t.led=!w.params.followText "set-order")
  (hw:zu wanted - 1=mask') (hg:lD mask') (hl:kb.length*5<mask'*3) (hz:zu wanted<=cj)
  (h:∀h' kb',gz a s.heap h'->kN prog w h' a kb'->kb'.Perm kb->Q () { s with heap:=h' }):
  wpAny (model prog w) A (setRelay a wanted) Q E s:=by
 have hsz:es.size=kb.length:=by have:=congrArg qc hes;simpa[gH]using this
 have hfit:t.fits es.size=true:=by have:=hT.fits;rw[bj]at this;rw[hsz];exact this
 have eh:(es.map (·.1)).toList=kb.map λp=>hk prog w p.1:=by rw[Array.toList_map,hes];simp[gH]
 have hs':(es.map (·.1)).size=kb.length:=by simp[hsz]
 unfold setRelay;refine aa (jd ho hd hfit ?_);dsimp only;rw[if_neg (by omega)];obtain⟨t',order,e1,e2,e3,e4,e5⟩:=XO (mask:=mask') (finger:=t.finger) (moves:=t.movedTo mask') (led:=t.led) (hs:=es.map (·.1)) hg (by rw[hs'];omega);have er:t.relaid (es.map (·.1)) wanted=some (t',order):=by unfold SetTable.relaid;rw[hw,hT.plain];exact e1
 rw[er];have hlt:∀i∈order.toList,i<kb.length:=λi hi=>by have:=bw.mp (e4.mem_iff.mp hi);omega
 have hfm:∀(l:List Nat),(∀i∈l,i<kb.length)->l.filterMap (λi=>es[i]?)=gH prog w (l.filterMap λi=>kb[i]?):=by
  intro l hl
  induction l with
  |nil=>rfl
  |cons i l ih=>
   have hi:=hl i bh;have q1:kb[i]?=some kb[i]:=aw hi;have q2:es[i]?=some (hk prog w kb[i].1,gn kb[i].2):=by
    have:es.toList[i]?=some (hk prog w kb[i].1,gn kb[i].2):=by rw[hes];simp[gH,q1]
    simpa using this
   rw[ck,ck,q1,q2];simp only;rw[ih λj hj=>hl j (ax _ hj)];rfl
 have hkey:∀(l:List Nat),(∀i∈l,i<kb.length)->l.filterMap (λi=>(es.map (·.1)).toList[i]?)=(l.filterMap λi=>kb[i]?).map λp=>hk prog w p.1:=by
  intro l hl
  induction l with
  |nil=>rfl
  |cons i l ih=>
   have hi:=hl i bh;have q1:kb[i]?=some kb[i]:=aw hi;have q2:(es.map (·.1)).toList[i]?=some (hk prog w kb[i].1):=by rw[eh];simp[q1]
   rw[ck,ck,q1,q2];simp only;rw[ih λj hj=>hl j (ax _ hj)];rfl
 have hperm:(order.toList.filterMap λi=>kb[i]?).Perm kb:=by have q:=e4.filterMap (λi=>kb[i]?);rw[hs']at q;exact q.trans (List.Perm.of_eq (K5 kb))
 have hes2:(order.filterMap (es[·]?)).toList=gH prog w (order.toList.filterMap λi=>kb[i]?):=by rw[Array.toList_filterMap];exact hfm _ hlt
 have hsz2:(order.filterMap (es[·]?)).size=es.size:=by have:=congrArg qc hes2;rw[kz]at this;rw[this,hsz];simp[gH,hperm.length_eq]
 show wpAny _ _ ((if((order.filterMap (es[·]?)).size != es.size)=true then(unsupported "internal:set-table-lost-an-element" >>= λ_=>pure (order.filterMap (es[·]?),t'))else pure (order.filterMap (es[·]?),t')) >>= _) _ _ s;rw[if_neg (by rw[hsz2];simp)];refine aa (ai ?_);dsimp only;refine wpAny_storeSet_of ho hd ?_ (by rw[hsz2,hsz];rcases hg with q|q|q <;> (rw[q]at hl;rw[jn];omega));refine h _ (order.toList.filterMap λi=>kb[i]?) (mr ..) ⟨_,_,_,t',K4 hd ho,hex,rfl,hes2, ?_, ?_, ?_,e3.trans hled⟩ hperm
 ·rw[<-hkey _ hlt];exact e5
 ·exact(hperm.map dy).nodup_iff.mpr nd
 ·rw[hperm.length_eq,e2];exact hl
theorem XX (P:Parts prog w s.heap a kb o es ep t) (T:wL prog w s.heap kb) (hb:fw (intKind prog w) s.heap k b) (hu:A.units<cLine) (h76:k∉kb.map dy->kb.length+1<=76) {Q:Bool->ag->Prop}
  (h:∀h' kb' r,gz a s.heap h'->kN prog w h' a kb'->(k∈kb.map dy->kb'.Perm kb)->(k∉kb.map dy->kb'.Perm ((k,b)::kb))->Q r { s with heap:=h' }):
  wpAny (model prog w) A (setAddHashed a (.ref b) (hk prog w k)) Q E s:=by
 unfold setAddHashed;refine gv ?_;unfold setAddHashedIn;refine aa (jd P.obj P.data P.fits ?_);dsimp only;have hbs:byScan (.ref b) es=false:=by simp[byScan,Value.scannable]
 rw[hbs];simp only[cn,if_false];refine aa (XS P T hb hu (λhin=>?_) λhout n hn hw=>?_)
 ·dsimp only;refine ai ?_;have:=h s.heap kb false (sv ..) ⟨o,es,ep,t,P⟩ (λ_=>.refl _) λq=>absurd hin q;exact this
 ·dsimp only;refine aa (jd P.obj P.data P.fits ?_);dsimp only;rw[XH P.tab.nod];dsimp only;rw[if_pos P.tab.plain];refine aa (XT hb ?_);simp only[if_true];have hlen:=P.nf;have hmask:=P.tab.msk;have hroom:(kb.map λp=>hk prog w p.1).length+1<=t.mask:=by
   rw[bj]
   rcases hmask with q|q|q <;> (rw[q]at hlen ⊢;omega)
  have T2:=P.tab.put (h:=hk prog w k) (n:=n) hn hw hroom;have hbl:=(sR (j:=pr t.mask (hk prog w k) n) P.tab.rise).2.2;generalize hp:rp t.place (pr t.mask (hk prog w k) n)=p at T2 hbl ⊢;rw[XW (b:=b)]at T2;have hesl:(ik es p (hk prog w k,gn b)).toList=gH prog w (kb.take p++(k,b)::kb.drop p):=by rw[sT _ _ _ (by rw[P.size,<-show t.place.size=kb.length from by have:=P.tab.size;simpa using this];exact hbl),P.es,XU]
  have hsz:(ik es p (hk prog w k,gn b)).size=kb.length+1:=by have:=congrArg qc hesl;simp only[gH,bj,kz]at this;rw[this,(wO kb (k,b) p).length_eq];rfl
  refine aa (wpAny_storeSet_of P.obj P.data ?_ (by rw[hsz,jn];have:=h76 hout;omega));have hlen2:(kb.take p++(k,b)::kb.drop p).length=kb.length+1:=(wO kb (k,b) p).length_eq;have ho2:=K4 (s:=s) (es':=ik es p (hk prog w k,gn b)) (t':={ t with place:=ik t.place p (pr t.mask (hk prog w k) n) }) P.data P.obj;have fill:({ t with place:=ik t.place p (pr t.mask (hk prog w k) n) }:gr).tooFull=decide ((kb.length+1)*5>=t.mask*3):=by unfold SetTable.tooFull SetTable.fill;have e1:=T2.size;rw[bj,hlen2]at e1;have e1':(ik t.place p (pr t.mask (hk prog w k) n)).size=kb.length+1:=e1;dsimp only;rw[P.tab.nod,e1'];rfl
  simp only[Bool.not_false,Bool.true_and];rw[fill];have fin:∀h' kb',gz a (s.heap.update a (Obj.putSet (ik es p (hk prog w k,gn b)) { t with place:=ik t.place p (pr t.mask (hk prog w k) n) })) h'->kN prog w h' a kb'->
    kb'.Perm (kb.take p++(k,b)::kb.drop p)->Q true { s with heap:=h' }:=λh' kb' sb st pm=>
   h h' kb' true ((mr ..).trans sb) st (λq=>absurd q hout) λ_=>pm.trans (wO kb (k,b) p)
  by_cases full:(kb.length+1)*5>=t.mask*3
  ·rw[decide_eq_true full,if_pos rfl];have h76':=h76 hout;have hcase:(t.mask=7/\kb.length=4)∨(t.mask=31/\kb.length=18):=by
    rcases hmask with q|q|q
    ·left;rw[q]at hlen full;exact⟨q,by omega⟩
    ·right;rw[q]at hlen full;exact⟨q,by omega⟩
    ·rw[q]at full;omega
   have es0:es.size=kb.length:=P.size
   rcases hcase with⟨q1,q2⟩|⟨q1,q2⟩
   ·refine aa (K6 (mask':=31) (kb:=kb.take p++(k,b)::kb.drop p) ho2 P.ex rfl hesl T2 (BW P.nd hout) P.led (by rw[es0,q2];decide) (.inr (.inl rfl)) (by rw[hlen2,q2];decide) (by rw[es0,q2,jn];decide) λh' kb' sb st pm=>ai (fin h' kb' sb st pm))
   ·refine aa (K6 (mask':=127) (kb:=kb.take p++(k,b)::kb.drop p) ho2 P.ex rfl hesl T2 (BW P.nd hout) P.led (by rw[es0,q2];decide) (.inr (.inr rfl)) (by rw[hlen2,q2];decide) (by rw[es0,q2,jn];decide) λh' kb' sb st pm=>ai (fin h' kb' sb st pm))
  ·rw[decide_eq_false full,if_neg fz];refine ai (fin _ _ (sv ..) ⟨_,_,_,_,ho2,P.ex,rfl,hesl,T2,BW P.nd hout, ?_,P.led⟩ (.refl _));rw[hlen2];exact Nat.lt_of_not_le full
end
end SR
namespace SR
open PySem PySem.Spec PyProof.Rows SM
theorem Parts.keep {prog:bo}{w:cw}{h h':cz}{a:ah}{kb:KB}(S:kN prog w h a kb) (k:∀o,h.get? a=some o->h'.get? a=some o):kN prog w h' a kb:=by obtain⟨o,es,ep,t,P⟩:=S;exact⟨o,es,ep,t,k o P.obj,P.ex,P.data,P.es,P.tab,P.nd,P.nf,P.led⟩
theorem wQ {prog:bo}{w:cw}{h h':cz}{ks:List Int}{a:ah}(x:fw (intKind prog w) h ks a) (k:∀o,h.get? a=some o->h'.get? a=some o):fw (intKind prog w) h' ks a:=by obtain⟨o,items,n,ho,r⟩:=x;exact⟨o,items,n,k o ho,r⟩
section
variable{prog:bo}{w:cw}{A:cx}{R:zw->ag->Prop}{I:ah}{fp wr:List ah}{n:Nat}{P:Nat->af->Prop}{St:Nat->cz->Prop}
structure Upto (ky:Nat->List Int) (ad:Nat->ah) (i:Nat) (kb:KB):Prop where
 from_:∀p∈kb,∃j,j<i/\p=(ky j,ad j)
 all:∀j,j<i->ky j∈kb.map dy
theorem XY (W:Walks prog w A.in1 I fp wr n P St) (S:ah) (hSf:S∉fp) (ad:Nat->ah) (ky:Nat->List Int) (hval:∀i v,P i v->v=.ref (ad i)) (hu:A.units+2<cLine)
  (U:List (List Int)) (hU:U.length<=76) (hky:∀i,i<n->ky i∈U) (hS:∀i,i<n->ad i≠S/\ad i∉wr):
  ∀(m i:Nat) (s:ag) (kb:KB),n - i=m->i<=n->St i s.heap->kN prog w s.heap S kb->Upto ky ad i kb->(∀j,j<n->fw (intKind prog w) s.heap (ky j) (ad j))->
   (∀h' tk kb',(∀b o,b∉S::wr->s.heap.get? b=some o->h'.get? b=some o)->kN prog w h' S kb'->Upto ky ad n kb'->R (.ok (.ret .none)) { s with heap:=h',toks:=tk })->
   codeAny (model prog w) A (.builtin "set.update.loop" ⟨[.ref S,.ref I],[]⟩) R s:=by
 have hSw:S∉wr:=λh=>hSf (W.sub _ h);intro m
 induction m with
 |zero=>
  intro i s kb hk hi hst hT hup hkeys hR;have hin:i=n:=by omega
  subst hin;refine pv F.entry_set_update_loop ?_;rw[nh F.plain_set_update_loop _];show wpAny _ A.in1 (pyNext (.ref I) >>= _) _ _ s;refine aa (W.done s _ _ hst λh' tk hm=>?_);exact ai (hR h' tk kb (λb o hb e=>hm b o (λz=>hb (ax _ z)) e) (Parts.keep hT λo e=>hm S o hSw e) hup)
 |succ m ih=>
  intro i s kb hk hi hst hT hup hkeys hR;have hlt:i<n:=by omega
  refine pv F.entry_set_update_loop ?_;rw[nh F.plain_set_update_loop _];show wpAny _ A.in1 (pyNext (.ref I) >>= _) _ _ s;refine aa (W.item i s _ _ hlt hst λv h' tk hP hst' hm=>?_);have ev:=hval i v hP;subst ev;have hT':kN prog w h' S kb:=Parts.keep hT λo e=>hm S o hSw e;have hkeys':∀j,j<n->fw (intKind prog w) h' (ky j) (ad j):=λj hj=>wQ (hkeys j hj) λo e=>hm _ o (hS j hj).2 e;show wpAny _ A.in1 (holding [gn (ad i)] (setAdd S (.ref (ad i))) >>= _) _ _ _;refine aa (gv ?_);unfold setAdd;refine gv ?_;refine aa (wpAny_pyHash_tuple (s:={ s with heap:=h',toks:=tk }) (show A.in1.units<cLine by show A.units+1<cLine;omega) (hkeys' i hlt) ?_);obtain⟨o,es,ep,t,Pt⟩:=hT';have tups:wL prog w h' kb:=λp hp=>by obtain⟨j,hj,rfl⟩:=hup.from_ p hp;exact hkeys' j (by omega)
  have hsub:∀x∈kb.map dy,x∈U:=λx hx=>by obtain⟨p,hp,rfl⟩:=bu.mp hx;obtain⟨j,hj,rfl⟩:=hup.from_ p hp;exact hky j (by omega)
  refine XX (s:={ s with heap:=h',toks:=tk+((ky i).length+1) }) (a:=S) (k:=ky i) (b:=ad i) Pt tups (hkeys' i hlt) (by show A.units+1<cLine;omega) (λhout=>?_) λh2 kb2 r sb hT2 q1 q2=>?_
  ·have nd:(ky i::kb.map dy).Nodup:=jz.mpr ⟨hout,Pt.nd⟩;have:=nd.length_le_of_subset (l₂:=U) λx hx=>by
    rcases bg.mp hx with rfl|hx
    ·exact hky i hlt
    ·exact hsub x hx
   simp at this;omega
  ·have hup2:Upto ky ad (i+1) kb2:=by
    by_cases hin:ky i∈kb.map dy
    ·have pm:=q1 hin;refine⟨λp hp=>?_,λj hj=>?_⟩
     ·obtain⟨j,hj,e⟩:=hup.from_ p (pm.mem_iff.mp hp);exact⟨j,by omega,e⟩
     ·rw[(pm.map dy).mem_iff]
      rcases jf j i with z|z
      ·exact hup.all j z
      ·have:j=i:=by omega
       subst this;exact hin
    ·have pm:=q2 hin;refine⟨λp hp=>?_,λj hj=>?_⟩
     ·rcases bg.mp (pm.mem_iff.mp hp)with z|z
      ·exact⟨i,by omega,z⟩
      ·obtain⟨j,hj,e⟩:=hup.from_ p z;exact⟨j,by omega,e⟩
     ·rw[(pm.map dy).mem_iff,dg,bg]
      rcases jf j i with z|z
      ·exact .inr (hup.all j z)
      ·have:j=i:=by omega
       subst this;exact .inl rfl
   refine ai ⟨plainId_quiet F.plain_set_update_loop _,ih (i+1) _ kb2 (by omega) hlt (W.frame _ _ _ hst' λb hb o e=>?_) hT2 hup2 (λj hj=>?_) λh3 tk3 kb3 k3 hT3 hup3=>?_⟩
   ·rw[sb.2 b (λz:b=S=>hSf (by rw[<-z];exact hb))];exact e
   ·exact wQ (hkeys' j hj) λo e=>(sb.2 _ (hS j hj).1).trans e
   ·refine hR h3 tk3 kb3 (λb o hb e=>k3 b o hb ?_) hT3 hup3;exact(sb.2 b λz=>hb (by rw[z];exact bh)).trans (hm b o (λz=>hb (ax _ z)) e)
end
end SR
namespace SR
open PySem PySem.Spec PyProof.Rows SM
theorem walk_slots:Slot "set" "__iter__" "set.__iter__"/\Slot "set_iterator" "__next__" "set_iterator.__next__"/\Slot "set_iterator" "__iter__" "set_iterator.__iter__"/\Slot "set" "__len__" "set.__len__":=by
 refine⟨Slot.of (owner := "set") (n := "__iter__") ?_ ?_ ?_ ?_ ?_ ?_,Slot.of (owner := "set_iterator") (n := "__next__") ?_ ?_ ?_ ?_ ?_ ?_,Slot.of (owner := "set_iterator") (n := "__iter__") ?_ ?_ ?_ ?_ ?_ ?_,Slot.of (owner := "set") (n := "__len__") ?_ ?_ ?_ ?_ ?_ ?_⟩
 all_goals first
  |decide +kernel
  |(rw[typeLookup_type,builtinLookup_eq_fast];kernel_rfl)
  |(rw[isSubtype_type];kernel_rfl)
  |(left;decide +kernel)
  |(right;decide +kernel)
theorem wR (a:af):argsOk "set.__iter__" ⟨[a],[]⟩/\argsOk "set_iterator.__next__" ⟨[a],[]⟩/\argsOk "set_iterator.__iter__" ⟨[a],[]⟩:=by refine⟨?_, ?_, ?_⟩ <;> unfold argsOk <;> kernel_rfl
theorem K7:entryFor table "set_iterator.__next__" = some mf.«set_iterator.__next__»:=entryFor_of_fast (by kernel_rfl)
theorem XZ:entryFor table "set.__iter__" = some mf.«frozenset.__iter__»:=entryFor_alias (id' := "frozenset.__iter__") (by kernel_rfl) rfl (by decide +kernel) (by kernel_rfl)
theorem X0:entryFor table "set_iterator.__iter__" = some mf.«dict_keyiterator.__iter__»:=entryFor_alias (id' := "dict_keyiterator.__iter__") (by kernel_rfl) rfl (by decide +kernel) (by kernel_rfl)
end SR
namespace SR
open PySem PySem.Spec PyProof.Rows SM
theorem erase_perm {α:Type}:∀(l:List α) (i:Nat) (h:i<l.length),(l[i]::l.eraseIdx i).Perm l
 | [],_,h=>absurd h (by simp)
 |x::r,0,_=>.refl _
 |x::r,i+1,h=>by have ih:=erase_perm r i (by simpa using h);show((r[i]'(by simpa using h))::x::r.eraseIdx i).Perm (x::r);exact(List.Perm.swap _ _ _).trans (ih.cons x)
theorem K8 {α:Type}(next:Nat->Nat):∀(fuel k:Nat) (l:List α) (out:Array α),l.length<=fuel->(we next fuel k l out).toList.Perm (out.toList++l)
 |0,k,l,out,h=>by have:l=[]:=zl.mp (by omega);subst this;rw[we];simp
 |fuel+1,k,l,out,h=>by
  rw[we]
  cases l with
  |nil=>simp
  |cons x r=>have hlt:next k % (x::r).length<(x::r).length:=Nat.mod_lt _ (by simp);rw[aw hlt];dsimp only;refine(K8 next fuel (k+1) _ _ (by rw[xk hlt];omega)).trans ?_;rw[Array.toList_push,qf];refine xl _ ?_;exact erase_perm _ _ hlt
theorem X1 {α:Type}(next:Nat->Nat) (xs:Array α):(pickOrder next xs).toList.Perm xs.toList:=by unfold pickOrder;have:=K8 next xs.size 0 xs.toList #[] (by simp);simpa using this
section
variable{prog:bo}{w:cw}
def iJ (w:cw) (a:ah) (ep:Nat) (es:Array (Int×af)):Array (Int×af):=if w.params.followText "set-order" then pickOrder (w.params.setOrder a ep) es else es
theorem K9 (w:cw) (a:ah) (ep:Nat) (es:Array (Int×af)):(iJ w a ep es).toList.Perm es.toList:=by
 unfold iJ
 split
 ·exact X1 _ _
 ·exact .refl _
theorem wU (w:cw) (a:ah) (ep:Nat) (es:Array (Int×af)):(iJ w a ep es).size=es.size:=by simpa using(K9 w a ep es).length_eq
def gI (w:cw) (t:gr) (i:Nat):Nat:=if w.params.followText "set-order" then 0 else match i with|0=>0|j+1=>t.place.getD j 0+1
def jX (a:ah) (slot i n ep:Nat):Obj:={ cls:=.type "set_iterator",data:=.fields #[rawInt slot,rawInt i,.ref a,rawInt n,rawInt ep] }
theorem X2 {t:gr}{hs:List Int}(T:TOk t hs) (hb:w.params.followText "set-order" = false) {i:Nat}(hi:i<=t.place.size):rp t.place (gI w t i)=i:=by
 obtain⟨h1,h2,h3⟩:=sR (j:=gI w t i) T.rise;have mono:∀a b (ha:a<t.place.size) (hb:b<t.place.size),a<b->t.place[a]<t.place[b]:=by intro a b ha hb hab;have:=gj.mp T.rise a b (by simpa using ha) (by simpa using hb) hab;simpa using this
 unfold gI at h1 h2 h3 ⊢;rw[hb]at h1 h2 h3 ⊢;simp only[cn,if_false]at h1 h2 h3 ⊢
 cases i with
 |zero=>
  dsimp only at h1 h2 h3 ⊢;generalize rp t.place 0=r at h1 h2 h3 ⊢
  cases r with
  |zero=>rfl
  |succ r=>have:=h1 r (by omega) (by omega);omega
 |succ j=>
  dsimp only at h1 h2 h3 ⊢;have hj:j<t.place.size:=by omega
  have ej:t.place.getD j 0=t.place[j]:=by simp[jv,hj]
  rw[ej]at h1 h2 h3 ⊢;generalize rp t.place (t.place[j]+1)=r at h1 h2 h3 ⊢
  rcases Nat.lt_trichotomy r (j+1)with q|q|q
  ·have:=h2 j hj (by omega);omega
  ·exact q
  ·have:=h1 (j+1) (by omega) q;have:=mono j (j+1) hj (by omega) (by omega);omega
end
section
variable{prog:bo}{w:cw}{A:cx}{E:af->ag->Prop}{s:ag}{a it:ah}{kb:KB}{o:Obj}{es:Array (Int×af)}{ep:Nat}{t:gr}
theorem X3 {Q:Bool->ag->Prop}(P:Parts prog w s.heap a kb o es ep t) (h:Q false s):wpAny (model prog w) A (setDrawn a) Q E s:=by
 unfold setDrawn setsByText;refine aa (jd P.obj P.data P.fits ?_);dsimp only;refine aa (aa (lh (ai ?_)));have e:(!(w.params.followText "set-order")&&((!t.plain)&&decide (es.size>1)))=false:=by rw[P.tab.plain];simp
 show wpAny _ _ (pure (!(w.params.followText "set-order")&&((!t.plain)&&decide (es.size>1)))) _ _ s;rw[e];exact ai h
theorem X4 {Q:af->ag->Prop}(P:Parts prog w s.heap a kb o es ep t) (h:Q (.ref s.heap.objs.size) { s with heap:=s.heap.push (jX a 0 0 es.size ep) }):
  wpAny (model prog w) A (pyIter (.ref a)) Q E s:=by
 have hT:s.TypeIs (.ref a) "set" := ⟨o,P.obj,P.ex.1⟩;refine wpAny_pyIter_slot hT walk_slots.1 (gm walk_slots.1 hT XZ ?_ (wR _).1);unfold mf.«frozenset.__iter__» Builtin.Frozenset.slot0;refine aa (m:=(do Builtin.Frozenset.addrOf (<-slotArgs "__iter__" 0 ⟨[.ref a],[]⟩).1:Sem ah)) (ai ?_);unfold Builtin.Frozenset.sizeOf;refine aa (aa (vc P.obj P.data P.fits (ai ?_)));refine aa (X3 P ?_);simp only[cn,if_false];refine aa (ai ?_);refine aa (wpAny_setEpoch_of P.obj P.data P.fits ?_);refine aa (fy ?_ (by size_fits));refine ai ⟨_,rfl,"set_iterator",_,⟨_,bc _ rfl,rfl⟩,walk_slots.2.1.lookup,h⟩
end
end SR
namespace SR
open PySem PySem.Spec PyProof.Rows SM
section
variable{prog:bo}{w:cw}{A:cx}{E:af->ag->Prop}{s:ag}{a it:ah}{kb:KB}{o:Obj}{es:Array (Int×af)}{ep:Nat}{t:gr}
theorem LA {i:Nat}{Q:Option (af×Nat)->ag->Prop}(P:Parts prog w s.heap a kb o es ep t) (hi:i<=es.size)
  (h:Q (((iJ w a ep es)[i]?).map λe=>(e.2,gI w t (i+1))) s):wpAny (model prog w) A (setNext a (gI w t i) i ep) Q E s:=by
 unfold setNext setsByText;refine aa (jd P.obj P.data P.fits ?_);dsimp only;refine aa (aa (lh (ai ?_)));have hps:t.place.size=es.size:=by have:=P.tab.size;rw[P.size];simpa using this
 show wpAny _ _ (if w.params.followText "set-order" = true then _ else _) _ _ s
 by_cases hb:w.params.followText "set-order" = true
 ·rw[if_pos hb,if_neg (by simp)];refine aa ?_;unfold setWalk setsByText;refine aa (jd P.obj P.data P.fits ?_);dsimp only;refine aa (aa (lh (ai ?_)));show wpAny _ _ (if w.params.followText "set-order" = true then _ else _) _ _ s;rw[if_pos hb];refine aa (lh (ai (ai ?_)));unfold iJ gI at h;unfold gI;rw[if_pos hb]at h ⊢;rw[if_pos hb]at h;exact h
 ·have hb':w.params.followText "set-order" = false:=by simpa using hb
  rw[if_neg hb];have hl:t.led=true:=by rw[P.led,hb'];rfl
  have hd:((!t.plain)&&decide (es.size>1))=false:=by rw[P.tab.plain];rfl
  show wpAny _ _ (if((!t.plain)&&decide (es.size>1))=true then _ else _) _ _ s;rw[hd];simp only[cn,if_false];show wpAny _ _ ((if((!t.led)&&!es.isEmpty)=true then _ else _) >>= _) _ _ s;rw[hl];simp only[nv,Bool.false_and,cn,if_false];refine aa (ai ?_);have hbl:=X2 (w:=w) P.tab hb' (i:=i) (by omega);rw[hbl];unfold iJ at h;rw[if_neg hb]at h;refine ai ?_
  by_cases hlt:i<es.size
  ·have e1:es[i]?=some es[i]:=fi hlt;have e2:t.place[i]?=some t.place[i]:=fi (by omega);rw[e1]at h;rw[e1,e2];have e3:gI w t (i+1)=t.place[i]+1:=by unfold gI;rw[if_neg hb];simp[jv,show i<t.place.size by omega]
   rw[e3]at h;exact h
  ·have e1:es[i]?=none:=lx (by omega);rw[e1]at h ⊢;exact h
theorem X5 {i:Nat}{x:Int×af}{Q:Option af->ag->Prop}(P:Parts prog w s.heap a kb o es ep t) (hit:s.heap.get? it=some (jX a (gI w t i) i es.size ep)) (hx:(iJ w a ep es)[i]?=some x)
  (hQ:∀h',h'.get? it=some (jX a (gI w t (i+1)) (i+1) es.size ep)->gz it s.heap h'->Q (some x.2) { s with heap:=h' }):wpAny (model prog w) A (pyNext (.ref it)) Q E s:=by
 have hT:s.TypeIs (.ref it) "set_iterator" := ⟨_,hit,rfl⟩;have hlt:i<es.size:=by rw[<-wU w a ep es];exact(dh.mp hx).1
 unfold pyNext;refine aa (vf (gi (name:=lb "__next__") hT walk_slots.2.1 (gm walk_slots.2.1 hT K7 ?_ (wR _).2.1)));unfold mf.«set_iterator.__next__»;refine aa (m:=slotArgs "__next__" 0 ⟨[.ref it],[]⟩) (ai ?_);refine aa (wpAny_fieldsOf hit rfl ?_);dsimp only;show wpAny _ _ (setEntries a >>= _) _ _ s;refine aa (vc P.obj P.data P.fits ?_);rw[if_neg (by simp)];show wpAny _ _ (setNext a ((gI w t i:Nat):Int).toNat ((i:Nat):Int).toNat ((ep:Nat):Int).toNat >>= _) _ _ s;rw[fe,fe,fe];refine aa (LA P (gu hlt) ?_);rw[hx];show wpAny _ _ (setField (.ref it) 0 (rawInt ((gI w t (i+1):Nat):Int)) >>= _) _ _ s;refine aa (iw hit (by simp) λh1 g1 b1=>?_);refine aa (iw g1 (by simp) λh2 g2 b2=>?_);refine ai ⟨_,rfl,ai (hQ h2 ?_ (b1.trans b2))⟩;rw[g2];rfl
theorem X6 {i:Nat}{Q:Option af->ag->Prop}(hh:A.handled=none) (P:Parts prog w s.heap a kb o es ep t) (hit:s.heap.get? it=some (jX a (gI w t i) i es.size ep)) (hi:i=es.size)
  (hQ:∀h',An it s.heap h'->Q none { s with heap:=h' }):wpAny (model prog w) A (pyNext (.ref it)) Q E s:=by
 have hT:s.TypeIs (.ref it) "set_iterator" := ⟨_,hit,rfl⟩;unfold pyNext;refine aa (vf (gi (name:=lb "__next__") hT walk_slots.2.1 (gm walk_slots.2.1 hT K7 ?_ (wR _).2.1)));unfold mf.«set_iterator.__next__»;refine aa (m:=slotArgs "__next__" 0 ⟨[.ref it],[]⟩) (ai ?_);refine aa (wpAny_fieldsOf hit rfl ?_);dsimp only;show wpAny _ _ (setEntries a >>= _) _ _ s;refine aa (vc P.obj P.data P.fits ?_);rw[if_neg (by simp)];show wpAny _ _ (setNext a ((gI w t i:Nat):Int).toNat ((i:Nat):Int).toNat ((ep:Nat):Int).toNat >>= _) _ _ s;rw[fe,fe,fe];refine aa (LA P (oz hi) ?_);rw[lx (by rw[wU];omega)];show wpAny _ _ (setField (.ref it) 2 jh >>= _) _ _ s;refine aa (iw hit (by simp) λh1 g1 b1=>?_);show wpAny _ _ (newExc (.type "StopIteration") [] >>= _) _ _ _;refine aa ?_;simp only[newExc,newTuple];refine aa (fy ?_ (by size_fits));refine aa (m:=firstArgMember _ _) (yy (a:=jh) (by first|rfl|(simp only[firstArgMember];rfl)) ?_);refine fy ?_ (by size_fits);simp only[raiseNew];refine aa (wpAny_handled ?_);rw[show A.in1.handled=none from hh];refine aa (ai (wpAny_throw ?_));refine aa (yu (T := "StopIteration") (b:=true) ⟨_,bc _ rfl,rfl⟩ isSubtype_stop ?_);exact ai (hQ _ ((b1.extBut.push _).push _))
end
end SR
namespace SR
open PySem PySem.Spec PyProof.Rows SM
section
variable{prog:bo}{w:cw}{A:cx}{E:af->ag->Prop}{s:ag}{a:ah}{kb:KB}{o:Obj}{es:Array (Int×af)}{ep:Nat}{t:gr}
theorem Parts.at' {h h':cz}(P:Parts prog w h a kb o es ep t) (k:h'.get? a=some o):Parts prog w h' a kb o es ep t:=⟨k,P.ex,P.data,P.es,P.tab,P.nd,P.nf,P.led⟩
theorem X7 (hh:A.handled=none) (I:ah) (hne:a≠I):
  Walks prog w A I [I,a] [I] es.size (λi v=>∃x,(iJ w a ep es)[i]?=some x/\v=x.2) (λi h=>Parts prog w h a kb o es ep t/\h.get? I=some (jX a (gI w t i) i es.size ep)) where
 sub:=λb hb=>by rw[cp.mp hb];exact bh ..
 frame:=λi h h' ⟨p,q⟩ k=>⟨p.at' (k a (by simp) _ p.obj),k I (by simp) _ q⟩
 item:=λi s Q E hi ⟨p,q⟩ hQ=>by
  have hi':i<(iJ w a ep es).size:=by rw[wU];exact hi
  have hx:(iJ w a ep es)[i]?=some (iJ w a ep es)[i]:=fi hi';refine X5 p q hx λh' q' sb=>hQ _ h' s.toks ⟨_,hx,rfl⟩ ⟨p.at' ((sb.2 a hne).trans p.obj),q'⟩ λb o hb e=>?_;exact(sb.2 b λz=>hb (by rw[z];exact bh ..)).trans e
 done:=λs Q E ⟨p,q⟩ hQ=>X6 hh p q rfl λh' x=>hQ h' s.toks λb o hb e=>x b o (λz=>hb (by rw[z];exact bh ..)) e
 self:=λi s Q E ⟨_,q⟩ hQ=>by have hT:s.TypeIs (.ref I) "set_iterator" := ⟨_,q,rfl⟩;refine wpAny_pyIter_slot hT walk_slots.2.2.1 (gm walk_slots.2.2.1 hT X0 ?_ (wR _).2.2);exact ai ⟨_,rfl,"set_iterator",_,⟨_,q,rfl⟩,walk_slots.2.1.lookup,hQ⟩
theorem X8 {S:ah}{n:Nat}{Q:Unit->ag->Prop}(h:s.heap.get? S=some (seqObj "list" #[] n)) (q:∀h' c,h'.get? S=some (seqObj "list" #[] c)->(∀b o,b≠S->s.heap.get? b=some o->h'.get? b=some o)->Q () { s with heap:=h' }):
  wpAny (model prog w) A (vg (.ref S)) Q E s:=by
 unfold vg;refine aa (vh h rfl ?_);have h1:=ua h (λx=>x.push jh);refine vh h1 rfl ?_;have h2:=ua h1 (λx=>x.pop);refine q _ _ h2 λb o hb e=>?_;rw[oq _ _ _ _ hb,oq _ _ _ _ hb];exact e
theorem X9 {Q:List af->ag->Prop}(hh:A.handled=none) (P:Parts prog w s.heap a kb o es ep t) (hn:es.size<=cj)
  (q:∀(h':cz) (tk:Nat),(∀b o,s.heap.get? b=some o->h'.get? b=some o)->s.heap.objs.size<=h'.objs.size->Q ((iJ w a ep es).toList.map (·.2)) { s with heap:=h',toks:=tk }):wpAny (model prog w) A (collect (.ref a)) Q E s:=by
 have la:a<s.heap.objs.size:=aq P.obj;have up1:∀b o,s.heap.get? b=some o->(s.heap.push (seqObj "list" #[] 0)).get? b=some o:=λb o e=>ak _ e;have hS1:(s.heap.push (seqObj "list" #[] 0)).get? s.heap.objs.size=some (seqObj "list" #[] 0):=bc _ rfl;have P1:Parts prog w (s.heap.push (seqObj "list" #[] 0)) a kb o es ep t:=P.at' (up1 a o P.obj);have hT1:tq { s with heap:=s.heap.push (seqObj "list" #[] 0) } (.ref a) "set" := ⟨o,P1.obj,P1.ex.1⟩;unfold collect;refine aa (wpAny_runValue (pv entry_proto_collect' ?_));rw[nh F.plain_proto_collect _];refine aa (m:=newList []) (Ay (ai ⟨Code.quiet_builtin _ (by decide +kernel),pv entry_list_iadd' ?_⟩));rw[nh F.plain_list_iadd _];show wpAny _ A.in1 (ug (.ref s.heap.objs.size) (.ref a) (.ref s.heap.objs.size)) _ _ { s with heap:=s.heap.push (seqObj "list" #[] 0) };unfold ug;refine aa (qe hT1 ?_);have ne:uw (.ref s.heap.objs.size) (.ref a)=false:=by simp[uw,je la]
 rw[if_neg (by rw[ne];decide)];refine aa (X4 P1 ?_);have sz:(s.heap.push (seqObj "list" #[] 0)).objs.size=s.heap.objs.size+1:=size_push' _ _;rw[sz];have up2:∀b o,(s.heap.push (seqObj "list" #[] 0)).get? b=some o->((s.heap.push (seqObj "list" #[] 0)).push (jX a 0 0 es.size ep)).get? b=some o:=λb o e=>ak _ e;have P2:Parts prog w ((s.heap.push (seqObj "list" #[] 0)).push (jX a 0 0 es.size ep)) a kb o es ep t:=P1.at' (up2 a o P1.obj);have hT2:tq { s with heap:=(s.heap.push (seqObj "list" #[] 0)).push (jX a 0 0 es.size ep) } (.ref a) "set" := ⟨o,P2.obj,P2.ex.1⟩;have hI2:((s.heap.push (seqObj "list" #[] 0)).push (jX a 0 0 es.size ep)).get? (s.heap.objs.size+1)=some (jX a 0 0 es.size ep):=by rw[<-sz];exact bc _ rfl
 refine aa (gv ?_);unfold Builtin.List.listLengthHint;refine aa (wpAny_specialOf hT2 walk_slots.2.2.2.lookup ?_);have spl:splitId "set.__len__" = some ("set","__len__"):=by decide +kernel
 dsimp only;rw[spl];dsimp only;refine aa (yu (b:=true) hT2 sub_set_self ?_);rw[if_neg (by decide),if_pos (by decide +kernel)];refine aa (qe hT2 (ai ?_));rw[if_pos (by decide +kernel)];refine aa (tm ?_);refine aa (X8 (s:={ s with heap:=(s.heap.push (seqObj "list" #[] 0)).push (jX a 0 0 es.size ep) }) (up2 _ _ hS1) λh3 c hS3 up3=>?_);have neS:∀b o,s.heap.get? b=some o->b≠s.heap.objs.size:=λb o e=>bf (aq e);have P3:Parts prog w h3 a kb o es ep t:=P2.at' (up3 a o (bf la) P2.obj);have hI3:h3.get? (s.heap.objs.size+1)=some (jX a 0 0 es.size ep):=up3 _ _ (nu _) hI2;have hz:gI w t 0=0:=by unfold gI;split <;> rfl
 have hh2:A.in1.handled=none:=by simp[hh]
 have nin:s.heap.objs.size∉[s.heap.objs.size+1,a]:=λm=>by
  rcases bg.mp m with e|m
  ·exact nu _ e.symm
  ·exact je la (cp.mp m)
 refine ai ⟨plainId_quiet F.plain_extend_loop _,codeAny_extend_loopS (A:=A) ((X7 (kb:=kb) (o:=o) (t:=t) (ep:=ep) (es:=es) hh2 (s.heap.objs.size+1) (a:=a) (bf (ja la))).toS) hn s.heap.objs.size nin _ es.size 0 { s with heap:=h3 } #[] c rfl (jg _)
  ⟨P3,by rw[hz];exact hI3⟩ hS3 (ItemsOf.nil _) λs' acc c' mv hS' ia=>?_⟩
 have eacc:acc.toList=(iJ w a ep es).toList.map (·.2):=by
  apply mn
  intro i;rw[mw,dk,mw]
  cases q:acc[i]? with
  |some v=>obtain⟨x,h1,h2⟩:=ia.2 i v q;rw[h1,h2];rfl
  |none=>have h1:acc.size<=i:=Array.getElem?_eq_none_iff.mp q;rw[lx (by rw[wU,<-ia.1];exact h1)];rfl
 obtain⟨hp,gs,dr,tk,os⟩:=s';have e1:gs=s.gens:=mv.gens;have e2:dr=s.drawn:=mv.drawn;have e3:os=s.os:=mv.os;subst e1;subst e2;subst e3;show wpAny _ A (load s.heap.objs.size >>= _) _ _ _;refine aa (wpAny_load hS' (ai ?_));rw[eacc];refine q hp tk (λb o e=>mv.heap b o (λm=>?_) (up3 b o (neS b o e) (up2 b o (up1 b o e)))) (gu (aq hS'))
 rcases bg.mp m with z|m
 ·exact neS b o e z
 ·exact bf (ja (aq e)) (cp.mp m)
end
end SR
namespace SR
open PySem PySem.Spec PySem.W PyProof.Rows SoM L2
section
variable{prog:bo}{w:cw}{A:cx}{E:af->ag->Prop}{s:ag}
theorem LB {fin:Bool}{Q:Bool->ag->Prop}:∀{kx ky:List Int}{vx vy:List af}(i:Nat),ItemsAre (intKind prog w) kx vx->ItemsAre (intKind prog w) ky vy->fin=decide (vx.length<vy.length)->Q (cX kx ky) s->KatLex prog w A true fin Q (vx.zip vy) i s
 |_,_,_,_,i,.nil,.nil,hf,h=>by subst hf;exact kat_nil h
 |_,_,_,_,i,.nil,.cons _ _,hf,h=>by subst hf;refine kat_nil ?_;rw[decide_eq_true (by simp)];exact h
 |_,_,_,_,i,.cons _ _,.nil,hf,h=>by subst hf;refine kat_nil ?_;rw[decide_eq_false (by simp)];exact h
 |_,_,_,_,i,.cons (k:=a) hu hx,.cons (k:=b) hv hy,hf,h=>by
  obtain⟨t,rfl⟩:=lr hu;obtain⟨t',rfl⟩:=lr hv;refine kat_cons (wpAny_eqBool_int (kat_go (λe=>?_) λe=>?_))
  ·refine kat_yes (LB (i+1) hx hy (hf.trans (by simp)) ?_);rw[cX,if_pos e]at h;exact h
  ·have h':Q (decide (a<b)) s:=by rw[cX,if_neg (by rw[e];simp)]at h;exact h
   refine kat_no ?_
   cases q:i==0 with
   |true=>exact oneLt_int h'
   |false=>exact kat_one _ _ (vv h')
theorem YA {x y:ah}{kx ky:List Int}{Q:Bool->ag->Prop}(hx:fw (intKind prog w) s.heap kx x) (hy:fw (intKind prog w) s.heap ky y) (h:Q (cX kx ky) s):wpAny (model prog w) A (keyLt' (tuples' true) (.ref x) (.ref y)) Q E s:=by obtain⟨ox,ix,nx,e1,_,d1,i1⟩:=hx;obtain⟨oy,iy,ny,e2,_,d2,i2⟩:=hy;exact kat_lt e1 d1 e2 d2 (LB 0 i1 i2 (by simp) h)
def KeysAt (prog:bo) (w:cw) (h:cz) (n:Nat) (ad:Nat->ah) (ky:Nat->List Int):Prop:=∀i,i<n->fw (intKind prog w) h (ky i) (ad i)/\ky i≠[]
def bZ (n:Nat) (ad:Nat->ah):List af:=(ay n).map λi=>.ref (ad i)
theorem kP (n:Nat) (ad:Nat->ah):(bZ n ad).length=n:=by simp[bZ]
theorem BX {n:Nat}{ad:Nat->ah}{i:Nat}(h:i<n):(bZ n ad).getD i jh=.ref (ad i):=by simp[bZ,h]
theorem LC:∀(l:List Nat) {ad:Nat->ah}{ky:Nat->List Int},(∀i∈l,fw (intKind prog w) s.heap (ky i) (ad i)/\ky i≠[])->∃fs:List af,KatTups s.heap (l.map λi=>.ref (ad i)) fs/\fs.length=l.length/\∀v∈fs,∃a t,v=.int a t
 | [],_,_,_=>⟨[],trivial,rfl,by simp⟩
 |i::l,ad,ky,h=>by
  obtain⟨fs,t,hl,hv⟩:=LC l (ad:=ad) (ky:=ky) λj hj=>h j (ax _ hj);obtain⟨⟨o,its,n,e,c,d,r⟩,ne⟩:=h i (bh ..)
  cases q:its.toList with
  |nil=>rw[q]at r;cases hk:ky i with
   |nil=>exact absurd hk ne
   |cons a b=>rw[hk]at r;cases r
  |cons v vs=>
   rw[q]at r
   cases hk:ky i with
   |nil=>exact absurd hk ne
   |cons a b=>
    rw[hk]at r
    cases r with
    |cons hu _=>
     obtain⟨tk,rfl⟩:=lr hu;refine⟨.int a tk::fs,KatTups.cons e c d (by rw[<-mw,q];rfl) t,by simp[hl],λv hv'=>?_⟩
     rcases bg.mp hv' with rfl|hv'
     ·exact⟨_,_,rfl⟩
     ·exact hv v hv'
theorem YB {n:Nat}{ad:Nat->ah}{ky:Nat->List Int}{G:Array Nat->ag->Prop}(h2:2<=n) (hk:KeysAt prog w s.heap n ad ky)
  (h:∀p,Ent n p->gG cX (p.toList.map ky)->G p s):
  wpAny (model prog w) A (keyKind' (bZ n ad).toArray) (λκ s'=>(kas_sort (bZ n ad).length).kasWp (kas_ask prog w A κ (bZ n ad)) G s') (λ_ _=>False) s:=by
 obtain⟨fs,t,hl,hv⟩:=LC (prog:=prog) (w:=w) (s:=s) (ay n) (ad:=ad) (ky:=ky) λi hi=>hk i (bw.mp hi);refine kat_kind (T:=.type "int") t (by rw[hl,ib];omega) (λv hv'=>?_) (by decide) ?_
 ·obtain⟨a,tk,rfl⟩:=hv v hv';exact .now
 ·rw[kP]
  let ks:=(ay n).map ky
  have mem:∀i,i<n->ky i∈ks:=λi hi=>bu.mpr ⟨i,bw.mpr hi,rfl⟩;refine J2 (n:=n) (f:=λi=>rk cX ks (ky i)) (I:=λs'=>s'=s) (λi j C s' hs hi hj hC=>?_) (kas_sort n) (λp=>Ent n p/\gG cX (p.toList.map ky)) G s s (WY (by omega) λp e inc=>⟨e, ?_⟩) rfl λp s' hp hs=>by subst hs;exact h p hp.1 hp.2
  ·subst hs;show wpAny (model prog w) A (keyLt' (tuples' true) ((bZ n ad).getD i jh) ((bZ n ad).getD j jh)) C (λ_ _=>False) s';rw[BX hi,BX hj];refine YA (hk i hi).1 (hk j hj).1 ?_;have:=hC s' rfl;rwa [J7 stoL (mem i hi)]at this
  ·refine gj.mpr λi j hi hj hij=>?_;have hj':j<p.size:=by simpa using hj
   have hi':i<p.size:=by omega
   have z:=inc i j (gu hij) (by rw[<-e.1];exact hj');unfold SoM.F at z;have ei:p.getD i 0=p[i]:=by simp[jv,hi']
   have ej:p.getD j 0=p[j]:=by simp[jv,hj']
   rw[ei,ej]at z;have lt:∀k (hk:k<p.size),p[k]<n:=λk hk=>bw.mp (e.2.mem_iff.mp (by simp));have:=W2 stoL (mem _ (lt j hj')) z;simpa using this
end
end SR
namespace SR
open PySem PySem.Spec PySem.W PyProof.Rows SoM L2
section
variable{prog:bo}{w:cw}{A:cx}{E:af->ag->Prop}{s:ag}
abbrev wV (h h':cz):Prop:=∀b o,h.get? b=some o->h'.get? b=some o
def Sorted (n:Nat) (ad:Nat->ah) (ky:Nat->List Int) (out:List af):Prop:=∃p:List Nat,p.Perm (ay n)/\gG cX (p.map ky)/\out=p.map λi=>.ref (ad i)
theorem Sorted.len {n:Nat}{ad:Nat->ah}{ky:Nat->List Int}{out:List af}(h:Sorted n ad ky out):out.length=n:=by obtain⟨p,pp,_,e⟩:=h;rw[e,bj,pp.length_eq,ib]
theorem KeysAt.keep {h h':cz}{n:Nat}{ad:Nat->ah}{ky:Nat->List Int}(k:KeysAt prog w h n ad ky) (g:∀i,i<n->∀o,h.get? (ad i)=some o->h'.get? (ad i)=some o):KeysAt prog w h' n ad ky:=λi hi=>⟨wQ (k i hi).1 (g i hi),(k i hi).2⟩
theorem YC {a:ah}{n c:Nat}{ad:Nat->ah}{ky:Nat->List Int}{P:Fin->ag->Prop}(ho:s.heap.get? a=some (seqObj "list" (bZ n ad).toArray c)) (h64:n<64) (hk:KeysAt prog w s.heap n ad ky)
  (q:∀h' e out,Sorted n ad ky out->h'.get? a=some (seqObj "list" out.toArray e)->(∀b o,b≠a->s.heap.get? b=some o->h'.get? b=some o)->P (.done (.ret .none)) { s with heap:=h' }):
  wpAny (model prog w) A (mf.«list.sort» ⟨[.ref a],[]⟩) P E s:=by
 have la:a<s.heap.objs.size:=aq ho;obtain⟨e1,g1⟩:∃e1,(s.heap.update a (nr λ_=>(#[]:Array af))).get? a=some (seqObj "list" #[] e1):=⟨_,ua ho λ_=>#[]⟩
 have k1:∀b o,b≠a->s.heap.get? b=some o->(s.heap.update a (nr λ_=>(#[]:Array af))).get? b=some o:=λb o hb e=>by rw[oq _ _ _ _ hb];exact e
 generalize hH1:s.heap.update a (nr λ_=>(#[]:Array af))=H1 at g1 k1;have k3:wV H1 ((H1.push (seqObj "tuple" (bZ n ad).toArray 0)).push (seqObj "list" #[] 0)):=λb o e=>ak _ (ak _ e);have ne:∀i,i<n->ad i≠a:=λi hi e=>by obtain⟨⟨o,its,m,e1,c1,_⟩,_⟩:=hk i hi;rw[e,ho]at e1;cases e1;exact absurd (Value.type.inj c1) (by decide)
 have K3:KeysAt prog w ((H1.push (seqObj "tuple" (bZ n ad).toArray 0)).push (seqObj "list" #[] 0)) n ad ky:=hk.keep λi hi o e=>k3 _ o (k1 _ o (ne i hi) e);have g3:=k3 a _ g1;have kk:∀b o,b≠a->s.heap.get? b=some o->((H1.push (seqObj "tuple" (bZ n ad).toArray 0)).push (seqObj "list" #[] 0)).get? b=some o:=λb o hb e=>k3 b o (k1 b o hb e);have sl:n<=cj:=by rw[jn];omega
 have fin:∀(out:List af),Sorted n ad ky out->wpAny (model prog w) A (do
   let touched:=(<-seqEpoch a) != e1
   Builtin.List.listUpdate (.ref a) λ_=>out.toArray
   if let some e:=(none:Option af)then rule "list.sort.comparison-raised"; throw e
   if touched then rule "list.sort.modified"; raiseError "ValueError" "list modified during sort"
   ret .none) P E { s with heap:=(H1.push (seqObj "tuple" (bZ n ad).toArray 0)).push (seqObj "list" #[] 0) }:=λout ho'=>by
  refine aa (seqEpoch_at g3 rfl ?_);refine aa (vh g3 rfl ?_ (jg _) (by rw[ar,ho'.len];omega));simp only[bne_self_eq_false,cn,if_false];exact ai (q _ _ out ho' (ua g3 λ_=>out.toArray) λb o hb e=>by rw[oq _ _ _ _ hb];exact kk b o hb e)
 generalize hH3:(H1.push (seqObj "tuple" (bZ n ad).toArray 0)).push (seqObj "list" #[] 0)=H3 at k3 K3 g3 kk fin;rw[list_sort_plain];refine aa (listItems_at ho rfl (aa (vh ho rfl ?_ (by rw[ar,kP];exact sl) (jg _))));rw[hH1];refine aa (seqEpoch_at g1 rfl (aa (wpAny_newTuple (aa (Ay (gv ?_) (jg _))) (by show(bZ n ad).length<=_;rw[kP];exact sl))));show wpAny (model prog w) A _ P E { s with heap:=(H1.push (seqObj "tuple" (bZ n ad).toArray 0)).push (seqObj "list" #[] 0) };rw[hH3];have hz:(bZ n ad).toArray.size=n:=by rw[ar,kP]
 dsimp only
 by_cases h2:n<2
 ·rw[if_pos (by rw[hz];exact h2),if_pos (by rw[hz];exact h2)];refine aa (ai ?_);rw[StateT.run_pure];refine aa (ai ?_);have e:(arrOf (SortSt.mk' general' ((bZ n ad).toArray.zip (bZ n ad).toArray) #[] 7 none)).map (·.2)=(bZ n ad).toArray:=by show(((bZ n ad).toArray.zip (bZ n ad).toArray)).map (·.2)=_;rw[Array.map_snd_zip (aj _)]
  dsimp only;rw[e];refine fin _ ⟨ay n,.refl _, ?_,rfl⟩;refine gj.mpr λi j hi hj hij=>?_;rw[bj,ib]at hj;omega
 ·have h2':2<=n:=by omega
  rw[if_neg (by rw[hz];exact h2),if_neg (by rw[hz];exact h2)];refine aa (kg (YB (A:=A) (s:={ s with heap:=H3 }) (G:=λp s'=>s'={ s with heap:=H3 }/\Ent n p/\gG cX (p.toList.map ky)) h2' K3 λp e r=>⟨rfl,e,r⟩) (λκ s0 hκ=>?_) λ_ _ x=>x.elim);refine aa (kg (kat_run (ks:=bZ n ad) (vs:=bZ n ad) (Q:=λst' s'=>∃p:Array Nat,p.size=(bZ n ad).length/\arrOf st'=p.map (kas_item ((bZ n ad).toArray.zip (bZ n ad).toArray))/\failedOf st'=none/\s'={ s with heap:=H3 }/\Ent n p/\gG cX (p.toList.map ky))
   rfl (by rw[kP];exact h2') (by rw[kP];exact h64) (λp st' s' z1 z2 z3 z4=>⟨p,z1,z2,z3,z4⟩) hκ) ?_ λ_ _ e=>e)
  rintro ⟨⟨⟩,st'⟩ s' ⟨p,_,z2,z3,rfl,z5,z6⟩
  dsimp only;rw[kat_snds rfl z2,z3];have e:(p.toList.map λi=>(bZ n ad).getD i jh)=p.toList.map λi=>.ref (ad i):=List.map_congr_left λi hi=>BX (bw.mp (z5.2.mem_iff.mp hi));rw[e];exact fin _ ⟨p.toList,z5.2,z6,rfl⟩
theorem YD {x:af}{n:Nat}{ad:Nat->ah}{ky:Nat->List Int}{Q:af->ag->Prop}(h64:n<64) (hk:KeysAt prog w s.heap n ad ky)
  (hc:∀(Q':List af->ag->Prop) (E':af->ag->Prop),(∀h' tk,wV s.heap h'->s.heap.objs.size<=h'.objs.size->Q' (bZ n ad) { s with heap:=h',toks:=tk })->wpAny (model prog w) A.in1 (collect x) Q' E' s)
  (q:∀h' tk D e out,Sorted n ad ky out->s.heap.objs.size<=D->h'.get? D=some (seqObj "list" out.toArray e)->wV s.heap h'->Q (.ref D) { s with heap:=h',toks:=tk }):
  wpAny (model prog w) A (call (.builtin "sorted") [x]) Q E s:=by
 refine Calls.call_function_entry kind_sorted plain_sorted entry_sorted (args_sorted1 _) ?_;unfold mf.«sorted»;refine aa (m:=checkCount "sorted" 1 1 _) (ai (aa (hc _ _ λh1 tk k1 sz=>aa (Ay ?_ (by rw[kP,jn];omega)))));have g:(h1.push (seqObj "list" (bZ n ad).toArray 0)).get? h1.objs.size=some (seqObj "list" (bZ n ad).toArray 0):=bc _ rfl;have k2:wV s.heap (h1.push (seqObj "list" (bZ n ad).toArray 0)):=λb o e=>ak _ (k1 b o e);refine aa (gv (gm slot_list_sort ⟨_,g,rfl⟩ entry_list_sort (YC (s:={ s with heap:=h1.push (seqObj "list" (bZ n ad).toArray 0),toks:=tk }) g h64 (hk.keep λi hi o e=>k2 _ o e) λh' e out so ho ke=>⟨_,rfl, ?_⟩) (args_list_sort _)));exact ai ⟨_,rfl,q h' tk h1.objs.size e out so sz ho λb o e=>ke b o (bf (av (aq e) sz)) (k2 b o e)⟩
end
end SR
namespace SR
open PySem PySem.Spec PyProof.Rows SM
def bare (w:cw):Obj:={ cls:=.type "set",dict:=none,data:=.set #[] 0 (.fresh 0 0 (!w.params.followText "set-order")) }
section
variable{prog:bo}{w:cw}{A:cx}{E:af->ag->Prop}{s:ag}
theorem YE {h:cz}{a:ah}(e:h.get? a=some (bare w)):kN prog w h a []:=by
 have tok:∀led:Bool,TOk (.fresh 0 0 led) []:=λled=>⟨rfl,.nil,rfl,(λj hj=>nomatch hj),jg _,.inl rfl,(λi h j e=>nomatch e),rfl⟩
 exact⟨bare w,#[],0,_,e,⟨rfl,rfl,rfl⟩,rfl,rfl,tok _,.nil,(by show 0*5<7*3;decide),rfl⟩
theorem YF (a:af) {Q:af->ag->Prop}(q:Q (.ref s.heap.objs.size) { s with heap:=s.heap.push (bare w) }):
  codeAny (model prog w) A (.call (.builtin "set.__new__") ⟨[.type "set",a],[]⟩) (wants Q E) s:=by
 refine uk F.plain_set_new F.entry_set_new (yy (F.newCall_set_1 a) ?_);have self:=sub_set_self;unfold mf.«set.__new__» Builtin.Frozenset.newClass;cases s
 wp_walk
 exact lh (ai (aa (wpAny_alloc (ai (ai q)))))
theorem YG {v:af}{Q N:af->ag->Prop}(hn:codeAny (model prog w) A.in1 (.call (.builtin "set.__new__") ⟨[.type "set",v],[]⟩) (wants N E) s)
  (hi:∀x s1,N x s1->s1.TypeIs x "set"/\codeAny (model prog w) A.in1 (.call (.builtin "set.__init__") ⟨[x,v],[]⟩) (wants (λr s2=>r=.none/\Q x s2) E) s1):wpAny (model prog w) A (call (.type "set") [v]) Q E s:=by
 have f:=F.called_set;obtain⟨_,_,fm⟩:=f.mro;have fd:=f.made;have fs:=f.sub;have ft:=f.notType;have fc:=f.canCreate;have fk:=F.typeCall_set_1 v;have fl:=f.init.lookup;have q:(Code.builtin "type.__call__" ⟨[.type "set",v],[]⟩).quiet=true:=Code.quiet_builtin _ (by decide +kernel);refine zx (codeAny_of_tree (ai ⟨q,pv F.entry_type_call ?_⟩));rw[Around.under_plain (weight_type_call_type "set" [v] []) rfl]
 repeat (any_goals (first|assumption|wp_step))
 refine nj hn ?_
 rintro (e|fl1) s1 h1
 ·exact h1
 ·cases fl1 <;> try exact h1.elim
  rename_i x;obtain⟨hx,hr⟩:=hi x s1 h1;have fb:=f.init.bind x
  repeat (any_goals (first|assumption|wp_step))
  refine nj hr ?_
  rintro (e|fl2) s2 h2
  ·exact h2
  ·cases fl2 <;> try exact h2.elim
   obtain⟨rfl,h3⟩:=h2
   repeat (any_goals (first|assumption|wp_step))
theorem LD {l:ah}{T:String}{it:Obj}{n:Nat}{P:Nat->af->Prop}{St:Nat->cz->Prop}{fp wr:List ah}(ad:Nat->ah) (ky:Nat->List Int) (U:List (List Int)) {Q:af->ag->Prop}
  (hu:A.units+8<cLine) (hT:s.TypeIs (.ref l) T) (n1:isSubtype (.type T) (.type "set")=pure false) (n2:isSubtype (.type T) (.type "frozenset")=pure false) (n3:(Aq T==Aq "dict")=false)
  (hi:∀(B:cx) (Q':af->ag->Prop) (E':af->ag->Prop),Q' (.ref (s.heap.objs.size+1)) { s with heap:=(s.heap.push (bare w)).push it }->wpAny (model prog w) B (pyIter (.ref l)) Q' E' { s with heap:=s.heap.push (bare w) })
  (W:Walks prog w A.in1.in1.in1 (s.heap.objs.size+1) fp wr n P St) (hfp:s.heap.objs.size∉fp) (hwr:∀b∈wr,s.heap.objs.size<b) (h0:St 0 ((s.heap.push (bare w)).push it))
  (hval:∀i v,P i v->v=.ref (ad i)) (hU:U.length<=76) (hky:∀i,i<n->ky i∈U) (hkeys:∀j,j<n->fw (intKind prog w) s.heap (ky j) (ad j))
  (q:∀(h':cz) (tk:Nat) kb,kN prog w h' s.heap.objs.size kb->Upto ky ad n kb->(∀b o,s.heap.get? b=some o->h'.get? b=some o)->Q (.ref s.heap.objs.size) { s with heap:=h',toks:=tk }):
  wpAny (model prog w) A (call (.type "set") [.ref l]) Q E s:=by
 refine YG (N:=λx s1=>x=.ref s.heap.objs.size/\s1={ s with heap:=s.heap.push (bare w) }) (YF _ ⟨rfl,rfl⟩) ?_
 rintro x s1 ⟨rfl,rfl⟩
 have up:∀b o,s.heap.get? b=some o->(s.heap.push (bare w)).get? b=some o:=λb o e=>ak _ e;have hb:(s.heap.push (bare w)).get? s.heap.objs.size=some (bare w):=bc _ rfl;have hS:tq { s with heap:=s.heap.push (bare w) } (.ref s.heap.objs.size) "set" := ⟨_,hb,rfl⟩;refine⟨hS,uk F.called_set.init.plain F.entry_set_init (check_set_init_1 hS ?_)⟩;obtain⟨ol,el,cl⟩:=hT;have hl1:tq { s with heap:=s.heap.push (bare w) } (.ref l) T:=⟨ol,up l ol el,cl⟩
 have lt:∀j,j<n->ad j<s.heap.objs.size:=λj hj=>let ⟨_,_,_,e,_⟩:=hkeys j hj;aq e;have hb2:((s.heap.push (bare w)).push it).get? s.heap.objs.size=some (bare w):=ak _ hb;have run:∀(R:zw->ag->Prop),(∀h' tk kb,kN prog w h' s.heap.objs.size kb->Upto ky ad n kb->(∀b o,s.heap.get? b=some o->h'.get? b=some o)->R (.ok (.ret .none)) { s with heap:=h',toks:=tk })->
   codeAny (model prog w) A.in1.in1 (.builtin "set.update.loop" ⟨[.ref s.heap.objs.size,.ref (s.heap.objs.size+1)],[]⟩) R { s with heap:=(s.heap.push (bare w)).push it }:=λR hR=>by
  refine XY W s.heap.objs.size hfp ad ky hval (by show A.units+1+1+2<cLine;omega) U hU hky (λj hj=>⟨bf (lt j hj),λm=>Nat.lt_asymm (lt j hj) (hwr _ m)⟩) n 0 _ [] rfl (jg _) h0 (YE hb2)
   ⟨(λp hp=>nomatch hp),λj hj=>absurd hj (Nat.not_lt_zero j)⟩ (λj hj=>wQ (hkeys j hj) λo e=>ak _ (up _ o e)) λh' tk kb keep S u=>hR h' tk kb S u λb o e=>?_
  have hlt:=aq e;exact keep b o (λm=>(bg.mp m).elim (bf hlt) λm=>Nat.lt_asymm hlt (hwr b m)) (ak _ (up b o e))
 unfold mf.«set.__init__» noKeywords Builtin.Frozenset.updateFrom;generalize hPI:pyIter=PI;unfold bare at hb
 wp_walk
 subst hPI;refine hi _ _ _ ?_;refine aa (wpAny_runValue (run _ λh' tk kb S u keep=>?_));exact ai (ai ⟨rfl,q h' tk kb S u keep⟩)
end
end SR
namespace L2.Mr
open PySem PySem.Spec PyProof.Rows SR
def TupsAre (H:Hp):List V->List (List Int)->Prop
 | [],[]=>True
 |v::vs,k::ks=>(∃b,v=.ref b/\H b=some (.tup (k.map V.int)))/\TupsAre H vs ks
 |_,_=>False
def YH:V->ah
 | .ref b=>b
 |_=>0
def fB (vs:List V) (i:Nat):ah:=YH (vs.getD i .non)
section
variable{X:Cx}{pins:List (ah×Obj)}{σ:St}{H H':Hp}{s:ag}
theorem TupsAre.len:∀{vs:List V}{ks:List (List Int)},TupsAre H vs ks->vs.length=ks.length
 | [],[],_=>rfl
 | [],_::_,h=>h.elim
 |_::_,[],h=>h.elim
 |v::vs,k::ks,h=>by rw[cg,cg,TupsAre.len h.2]
theorem TupsAre.at_:∀{vs:List V}{ks:List (List Int)}{i:Nat},TupsAre H vs ks->i<ks.length->vs[i]?=some (.ref (fB vs i))/\H (fB vs i)=some (.tup ((ks.getD i []).map V.int))
 | [],[],_,_,h=>by simp at h
 | [],_::_,_,h,_=>h.elim
 |_::_,[],_,h,_=>h.elim
 |v::vs,k::ks,0,h,_=>by obtain⟨⟨b,rfl,e⟩,_⟩:=h;exact⟨rfl,e⟩
 |v::vs,k::ks,i+1,h,hi=>by
  obtain⟨e1,e2⟩:=TupsAre.at_ (i:=i) h.2 (by simpa using hi);have ea:fB (v::vs) (i+1)=fB vs i:=by simp[fB]
  exact⟨by rw[ea];simpa using e1,by rw[ea];simpa using e2⟩
theorem LF:∀{k:List Int}{its:List af}{prog:bo}{w:cw},Vals (k.map V.int) its->ItemsAre (intKind prog w) k its
 | [],_,_,_,.nil=>.nil
 |n::k,_,_,_,.cons h1 h2=>by obtain⟨t,rfl⟩:=h1;exact .cons (intKind_is _ _ _ _) (LF h2)
theorem BY (I:Inv X pins σ H s) {b:ah}{k:List Int}(e:H b=some (.tup (k.map V.int))):fw (intKind X.prog X.w) s.heap k b:=by obtain⟨_,its,r,o,e1,c,_,n,d⟩:=I.hok b _ e;exact⟨o,its.toArray,n,e1,c,d,LF r⟩
theorem LG {vs:List V}{ks:List (List Int)}{its:List af}(h:TupsAre H vs ks) (r:Vals vs its):its=bZ ks.length (fB vs):=by
 have hl:=r.length;have hl2:=h.len
 apply mn
 intro i
 by_cases hi:i<ks.length
 ·obtain⟨e1,_⟩:=h.at_ hi;obtain⟨u,e2,e3⟩:=r.get e1;cases e3;rw[e2];simp[bZ,hi]
 ·rw[Ah (by omega),Ah (by rw[kP];omega)]
theorem YI {n:Nat}{ad:Nat->ah}{ky:Nat->List Int}{out:List af}(so:Sorted n ad ky out) (hH:∀i,i<n->H (ad i)=some (.tup ((ky i).map V.int))):
  ∃(p:List Nat) (vs':List V),p.Perm (ay n)/\gG cX (p.map ky)/\Vals vs' out/\TupsAre H vs' (p.map ky):=by
 obtain⟨p,pp,r,rfl⟩:=so;refine⟨p,p.map λi=>V.ref (ad i),pp,r, ?_, ?_⟩
 ·clear pp r
  induction p with
  |nil=>exact .nil
  |cons i p ih=>exact .cons rfl ih
 ·have:∀q:List Nat,(∀i∈q,i<n)->TupsAre H (q.map λi=>V.ref (ad i)) (q.map ky):=λq=>by
   induction q with
   |nil=>intro _;trivial
   |cons i q ih=>exact λh=>⟨⟨_,rfl,hH i (h i (bh ..))⟩,ih λj hj=>h j (ax _ hj)⟩
  exact this p λi hi=>bw.mp (pp.mem_iff.mp hi)
theorem YJ {α:Type}{p:List Nat}{n:Nat}{l:List α}{d:α}(h:p.Perm (ay n)) (hl:l.length=n):(p.map λi=>l.getD i d).Perm l:=by
 refine(h.map _).trans ?_;have:(ay n).map (λi=>l.getD i d)=l:=by
  apply rg (by simp[hl])
  intro i h1 h2;simp[h2]
 rw[this]
def wW (prog:bo) (w:cw) (l:ah) (o:Obj) (kb:KB):Prop:=∃es ep t,∀h:cz,h.get? l=some o->Parts prog w h l kb o es ep t
structure KbOk (H:Hp) (kb:KB) (ks:List (List Int)):Prop where
 tup:∀p∈kb,H p.2=some (.tup (p.1.map V.int))
 frm:∀p∈kb,p.1∈ks
 all:∀k∈ks,k∈kb.map dy
abbrev LH (X:Cx):List V->Hp->VK->Prop:=λxs H Q=>∃(p:ah) (vs:List V) (ks:List (List Int)),xs=[.ref p]/\H p=some (.lst vs)/\TupsAre H vs ks/\(dZ cX ks).length<=76/\∀l o kb,H l=none->wW X.prog X.w l o kb->KbOk H kb ks->Q (.ref l) (aW H l (.frz o (.own 0)))
theorem sub_list:isSubtype (.type "list") (.type "set")=pure false/\isSubtype (.type "list") (.type "frozenset")=pure false:=⟨F.sub_list_set,F.sub_list_frozenset⟩
theorem YK {k:Nat}(rm:Room k X.A):CallR X (.type "set") (LH X):=by
 intro pins s σ H xs us Q I rv ⟨p,vs,ks,e,hp,ht,hU,q⟩;subst e;obtain⟨u,rfl,ru⟩:=iL rv;cases ru;obtain⟨its,rits,pl,hz⟩:=I.list (SqL.of hp);have hits:=LG ht rits;have lp:=I.hok.lt hp;have hI:s.heap.IsList p (bZ ks.length (fB vs)).toArray:=by rw[<-hits];exact pl.isList
 have hsz:(bZ ks.length (fB vs)).toArray.size=ks.length:=by rw[ar,kP]
 have hh:X.A.in1.in1.in1.handled=none:=rm.hd;have hne:p≠s.heap.objs.size+1:=bf (ja lp);have hb:(s.heap.push (bare X.w)).IsList p (bZ ks.length (fB vs)).toArray:=hI.push _;have hs1:(s.heap.push (bare X.w)).objs.size=s.heap.objs.size+1:=size_push' _ _;have W:=ue (prog:=X.prog) (w:=X.w) (A:=X.A.in1.in1.in1) hh (s.heap.objs.size+1) p hne (bZ ks.length (fB vs)).toArray;rw[hsz]at W;refine LD (T := "list") (it:={ cls:=.type "list_iterator",data:=.fields #[.ref p,.int 0 0] }) (fB vs) (λi=>ks.getD i []) (dZ cX ks) (by have:=rm.un;omega) hI.typeIs sub_list.1 sub_list.2 (by decide) (λB Q' E' hQ=>?_) W ?_ ?_ ?_ (λi v hv=>?_) hU (λi hi=>?_) (λj hj=>?_) λh' tk kb hS hup k=>?_
 ·refine ku hb ?_;rw[<-hs1]at hQ;exact hQ
 ·intro m
  rcases bg.mp m with z|m
  ·exact nu _ z.symm
  ·exact je lp (cp.mp m)
 ·intro b hb;rw[cp.mp hb];exact ji _
 ·refine⟨⟨{ cls:=.type "list_iterator",data:=.fields #[.ref p,.int 0 0] }, ?_,rfl,rfl⟩,hb.push _⟩;rw[<-hs1];exact bc _ rfl
 ·have hi:i<ks.length:=by have:=(dh.mp hv).1;rwa [hsz]at this
  have:(bZ ks.length (fB vs))[i]?=some (.ref (fB vs i)):=by simp[bZ,hi]
  rw[Ai,this]at hv;exact(cy hv).symm
 ·refine(pU stoL _ _).mpr ?_;show ks.getD i []∈ks;simp[hi]
 ·exact BY I (ht.at_ hj).2
 ·obtain⟨o,es,ep,t,P⟩:=hS;refine⟨.ref s.heap.objs.size,_,I.laid (t':=tk) (o:=.frz o (.own 0)) k (aj _) ⟨P.obj,o,P.obj⟩,rfl,q _ o kb (I.hok.fresh (aj _)) ⟨es,ep,t,λh e=>P.at' e⟩ ⟨λz hz=>?_,λz hz=>?_,λz hz=>?_⟩⟩
  ·obtain⟨j,hj,rfl⟩:=hup.from_ z hz;exact(ht.at_ hj).2
  ·obtain⟨j,hj,rfl⟩:=hup.from_ z hz;show ks.getD j []∈ks;simp[hj]
  ·obtain⟨j,hj,rfl⟩:=jo hz;have:=hup.all j hj;simpa[hj]using this
abbrev LI (X:Cx):List V->Hp->VK->Prop:=λxs H Q=>∃(l:ah) (o:Obj) (kb:KB) (ks:List (List Int)),xs=[.ref l]/\H l=some (.frz o (.own 0))/\wW X.prog X.w l o kb/\KbOk H kb ks/\(∀k∈ks,k≠[])/\(dZ cX ks).length<64/\∀D vs',H D=none->TupsAre H vs' (dZ cX ks)->Q (.ref D) (aW H D (.lst vs'))
theorem YL {α β:Type}{f:α->β}:∀{l:List β}{l':List β},l.Perm l'->∀xs:List α,l'=xs.map f->∃ys:List α,ys.Perm xs/\l=ys.map f:=by
 intro l l' h
 induction h with
 |nil=>intro xs e;exact⟨xs,.refl _,e⟩
 |cons a _ ih=>
  intro xs e
  cases xs with
  |nil=>cases e
  |cons x xs=>simp only[dg,Ao]at e;obtain⟨ys,p,e'⟩:=ih xs e.2;exact⟨x::ys,p.cons x,by simp[e.1,e']⟩
 |swap a b l=>
  intro xs e
  cases xs with
  |nil=>cases e
  |cons x xs=>
   cases xs with
   |nil=>simp at e
   |cons y xs=>simp only[dg,Ao]at e;exact⟨y::x::xs,.swap ..,by simp[e.1,e.2.1,e.2.2]⟩
 |trans _ _ ih1 ih2=>intro xs e;obtain⟨ys,p,e'⟩:=ih2 xs e;obtain⟨zs,p',e''⟩:=ih1 ys e';exact⟨zs,p'.trans p,e''⟩
theorem YM {k:Nat}(rm:Room k X.A):CallR X (.builtin "sorted") (LI X):=by
 intro pins s σ H xs us Q I rv ⟨l,o,kb,ks,e,hl,⟨es,ep,t,hP⟩,kO,ne,h64,q⟩;subst e;obtain⟨u,rfl,ru⟩:=iL rv;cases ru;have P:=hP s.heap (I.hok l _ hl).1;have pe:(iJ X.w l ep es).toList.Perm (gH X.prog X.w kb):=by rw[<-P.es];exact K9 _ _ _ _
 obtain⟨kc,pk,ek⟩:=YL pe kb rfl;have mem:∀i,i<kc.length->kc.getD i ([],0)∈kb:=λi hi=>pk.mem_iff.mp (by simp[hi]);have hn:(kb.map dy).length=(dZ cX ks).length:=by refine List.Perm.length_eq ((pd P.nd (wH stoL (wG stoL ks))).mpr λz=>?_);rw[pU stoL];refine⟨λh=>?_,λh=>kO.all z h⟩;obtain⟨p,hp,rfl⟩:=bu.mp h;exact kO.frm p hp
 have hlen:kc.length<64:=by rw[pk.length_eq];rw[bj]at hn;omega
 have hes:es.size=kc.length:=by rw[P.size,pk.length_eq]
 have KA:KeysAt X.prog X.w s.heap kc.length (λi=>(kc.getD i ([],0)).2) (λi=>(kc.getD i ([],0)).1):=λi hi=>⟨BY I (kO.tup _ (mem i hi)),ne _ (kO.frm _ (mem i hi))⟩
 have er:(iJ X.w l ep es).toList.map (·.2)=bZ kc.length (λi=>(kc.getD i ([],0)).2):=by
  rw[ek,rz]
  apply rg (by simp[kP])
  intro i h1 h2;have hi:i<kc.length:=by simpa using h1
  simp[bZ,hi]
 refine YD hlen KA (λQ' E' hQ=>?_) λh' tk D e out so hD ho k=>?_
 ·refine X9 (show X.A.in1.handled=none from rm.hd) P (by rw[hes,jn];omega) λh' tk kk sz=>?_;rw[er];exact hQ h' tk kk sz
 ·obtain⟨pp,vs',h1,h2,h3,h4⟩:=YI (H:=H) so λi hi=>kO.tup _ (mem i hi);have pm:(pp.map λi=>(kc.getD i ([],0)).1).Perm (kb.map dy):=by have:=((YJ (d:=(([],0):List Int×ah)) h1 rfl).trans pk).map dy;rwa [rz]at this
  have nd:(pp.map λi=>(kc.getD i ([],0)).1).Nodup:=pm.nodup_iff.mpr P.nd;have rs:iI cX (pp.map λi=>(kc.getD i ([],0)).1):=by
   refine(h2.and nd).imp λ{a b} ⟨x,y⟩=>?_
   cases q:cX a b with
   |true=>rfl
   |false=>exact absurd (stoL.tot a b q x) y
  have e1:(pp.map λi=>(kc.getD i ([],0)).1)=dZ cX ks:=W0 stoL rs λz=>by rw[pm.mem_iff];refine⟨λh=>?_,λh=>kO.all z h⟩;obtain⟨p,hp,rfl⟩:=bu.mp h;exact kO.frm p hp
  rw[e1]at h4;refine⟨.ref D,_,I.laid (t':=tk) k hD (show ObjOk X.prog X.w _ _ _ (.lst vs') from⟨?_,out,e,h3,ho⟩),rfl,q D vs' (I.hok.fresh hD) h4⟩;rw[h4.len,jn];omega
end
def pW:Dv->Option (List Int)
 | .tup xs=>bW iH xs
 |_=>none
def wX (k:List Int):Dv:=.tup (k.map Dv.int)
section
variable{X:Cx}{G:Cfg}{E:XK}{k:Nat}{e a b:bp}{es:List bp}{ma mb:M Dv}{aV:M (List Dv)}{p p2 pos pos2:Pos}
theorem BZ {μ:Nat->ah}{n:Nat}{H:Hp}:∀{xs:List Dv}{vs:List V}{ks:List (List Int)},RelDL G μ n H xs vs->bW pW xs=some ks->TupsAre H vs ks
 | [],_,ks,r,e=>by cases e;rw[RelDL]at r;subst r;trivial
 |x::xs,_,ks,r,e=>by
  rw[RelDL]at r;obtain⟨v,rr,rfl,r1,r2⟩:=r;unfold bW at e
  cases x with
  |tup ds=>
   dsimp only[pW]at e
   cases q:bW iH ds with
   |none=>rw[q]at e;cases e
   |some zs=>
    rw[q]at e;dsimp only at e
    cases q2:bW pW xs with
    |none=>rw[q2]at e;cases e
    |some ys=>rw[q2]at e;cases e;rw[RelD]at r1;obtain⟨b,us,rfl,h1,h2⟩:=r1;rw[sG h2 q]at h1;exact⟨⟨b,rfl,h1⟩,BZ r2 q2⟩
  |_=>cases e
theorem LJ {μ:Nat->ah}{n:Nat}{H:Hp}:∀{vs:List V}{ks:List (List Int)},TupsAre H vs ks->RelDL G μ n H (ks.map wX) vs
 | [],[],_=>RelDL.nil
 | [],_::_,h=>h.elim
 |_::_,[],h=>h.elim
 |v::vs,k::ks,h=>by obtain⟨⟨b,rfl,e⟩,h2⟩:=h;refine RelDL.cons ?_ (LJ h2);unfold wX;rw[RelD];exact⟨b,_,rfl,e,rJ k⟩
def wY (ks:List (List Int)):Bool:=ks.all λk=>!k.isEmpty
theorem YN {ks:List (List Int)}(h:wY ks=true):∀k∈ks,k≠[]:=λk hk e=>by have:=ed.mp h k hk;rw[e]at this;cases this
theorem YO:df "set" = some (.type "set"):=by decide +kernel
end
open PySem.SeqAt PySem.MeetsSeq PySem.MeetsSeq2 PySem.MeetsSeq3
section
variable{X:Cx}{G:Cfg}{E:XK}{k:Nat}{e a b o:bp}{es:List bp}{mo me ma mb:M Dv}{aV:M (List Dv)}{p p2 pos pos2 apos cpos np:Pos}{y:Str}
theorem YQ {prog:bo}{w:cw}{A:cx}{Ee:af->ag->Prop}{s:ag}{t sl:ah}{items:Array af}{vl vu:af}{lo hi:Option Int}{Q:af->ag->Prop}(ht:IsTup s.heap t items) (hs:s.heap.IsSliceOf sl vl vu .none) (pl:ui vl lo) (pu:ui vu hi)
  (h0:HT.sIx items.size 0 lo=0) (h1:HT.sIx items.size items.size hi=items.size) (h:Q (.ref t) s):wpAny (model prog w) A (getItem (.ref t) (.ref sl)) Q Ee s:=by
 obtain⟨os,hos,hcs,hds⟩:=id hs;have hTs:s.TypeIs (.ref sl) "slice" := ⟨os,hos,hcs⟩;have tt:=ht.typeIs;obtain⟨ot,et,ct,_⟩:=id ht;unfold getItem
 try with_reducible refine gv ?_
 first|refine aa (ai ?_)|skip
 refine aa (wpAny_sequenceKey tt (by decide) (aa (gi (name:=lb "__getitem__") tt fv (gm fv tt PySem.F.entry_tuple_getitem ?_ (PySem.F.args_tuple_getitem_2 _ _)))));refine aa (m:=slotArgs "__getitem__" 1 ⟨[.ref t,.ref sl],[]⟩) (ai (aa (tupleItemsOf_ ht (aa (qe hTs ?_)))));rw[if_pos (by decide)];refine aa (HT.sliceApplied_gen hs pl pu ?_);rw[h0,h1];show wpAny _ _ (if(((0:Nat):Int)==0&&(1:Int)==1&&(items.size - 0)==items.size)=true then _ else _) _ _ s;rw[if_pos (by simp)];unfold Builtin.Tuple.tupleIsExact;refine aa (aa (qe tt (ai ?_)));rw[if_pos (by decide)];refine aa (tm (ai ⟨_,rfl,ai h⟩))
theorem YR:SlR X (λx lo hi H Q=>∃a xs,x=.ref a/\SqT X.K H a xs/\HT.sIx xs.length 0 lo=0/\HT.sIx xs.length xs.length hi=xs.length/\Q (.ref a) H):=by
 intro pins s σ H x v vl vu lo hi sl Q I rx hs pl pu ⟨a,xs,ex,hx,h0,h1,q⟩;subst ex;cases rx;obtain⟨its,r,ht,hz⟩:=I.tuple hx;have hlen:its.toArray.size=xs.length:=by rw[ar];exact r.length.symm
 exact⟨"tuple",_,fv.lookup,ht.typeIs,YQ ht hs pl pu (by rw[hlen];exact h0) (by rw[hlen];exact h1) ⟨.ref a,H,I,rfl,q⟩⟩
def wZ (x:Dv) (lo hi:Option Int) (h:Hs):Rs Dv:=match x with
 | .ref j=>match getL h j with
  |some xs=>.ok (.ref h.length) (h++[.lst (mU xs lo hi)])
  |none=>.bad
 | .tup xs=>.ok (.tup (mU xs lo hi)) h
 |_=>.bad
theorem YS {xs:List Dv}{lo hi:Option Int}(h0:HT.sIx xs.length 0 lo=0) (h1:HT.sIx xs.length xs.length hi=xs.length):mU xs lo hi=xs:=by unfold mU;rw[h0,h1];simp
def sV (m:M Dv) (lo hi:MO):M Dv:=λρ h=>(m ρ h).bind λx h1=>(lo ρ h1).bind λl h2=>(hi ρ h2).bind λu h3=>wZ x l u h3
theorem YT {lo hi:Option bp}{ml mh:MO}(ho:aL X G E o mo) (hl:vT X G E lo ml) (hh:vT X G E hi mh):aL X G E (.Subscript o (.Slice lo hi none p2) pos) (sV mo ml mh):=λhK=>
 PE.imp (Q2 (SlR.or (SlR.or RF Q4) YR) (ho hK) (hl hK) (hh hK)) λσ H Q ⟨μ,ρ,h,rs,s,oo⟩=>eX rs s oo λμ1 x h1 vx H1 x1 rs1 s1 r1 o1=>by
  refine⟨μ1,ρ,h1,rs1,s1,(o1.bind (R1:=λ_ _ _ a b=>b=a)).mono λl' H2 ⟨μ2,l,h2,x2,s2,el,o2⟩=>?_⟩;subst el;refine⟨μ2,ρ,h2,rs1.mono x2,s2,(o2.bind (R1:=λ_ _ _ a b=>b=a)).mono λu' H3 ⟨μ3,u,h3,x3,s3,eu,o3⟩=>?_⟩;subst eu;have r3:=RelD.mono (x2.trans x3) _ _ r1
  cases x with
  |ref j=>
   dsimp only[wZ]at o3
   cases q:getL h3 j with
   |none=>rw[q]at o3;exact o3.elim
   |some xs=>rw[q]at o3;obtain⟨vs,ea,ra⟩:=s3.ob j _ (cY q);obtain⟨_,rfl⟩:=r3;exact .inl (.inl ⟨_,vs,rfl,SqL.of ea,λp hp=>nO s3 (JI ra _ _) hp o3⟩)
  |tup xs=>
   dsimp only[wZ]at o3;obtain⟨a,vs,rfl,ea,ra⟩:=r3
   by_cases hw:HT.sIx xs.length 0 l'=0/\HT.sIx xs.length xs.length u'=xs.length
   ·refine .inr ⟨a,vs,rfl,SqT.of ea,by rw[ra.length];exact hw.1,by rw[ra.length];exact hw.2,o3 μ3 _ _ Ext.refl s3 ?_⟩;rw[YS hw.1 hw.2];exact⟨a,vs,rfl,ea,ra⟩
   ·exact .inl (.inr ⟨a,vs,rfl,SqT.of ea,by rw[ra.length];exact hw,λp hp=>o3 μ3 _ _ (Ext.same (cR hp)) (s3.same (cR hp)) ⟨p,_,rfl,cU,RelDL.mono (Ext.same (cR hp)) _ _ (JI ra _ _)⟩⟩)
  |_=>exact o3.elim
def fR (x y:Dv) (h:Hs):Rs Dv:=match x,y with
 | .int i,.int j=>.ok (.bl (decide (i<j))) h
 | .tup xs,.tup ys=>match bW iH xs,bW iH ys with
  |some ns,some ms=>.ok (.bl (HT.lexLt ns ms)) h
  |_,_=>.bad
 |_,_=>.bad
theorem LK:∀x y:List Int,HT.lexLt x y=cX x y
 | [],[]=>rfl
 | [],_::_=>rfl
 |_::_,[]=>rfl
 |a::x,b::y=>by
  rw[HT.lexLt_cons,cX,LK x y]
  by_cases h:a=b <;> simp[h]
theorem LL:fH G (λx y H Q=>(jP λi j=>.bl (decide (i<j))) x y H Q∨F9 G.K x y H Q) fR:=by
 intro E μ h H x y vx vy Q s rx ry o;unfold fR at o
 split at o
 ·rename_i i j;exact .inl (mJ E μ h H (.int i) (.int j) vx vy Q s rx ry o)
 ·rename_i xs ys
  cases q1:bW iH xs with
  |none=>rw[q1]at o;exact o.elim
  |some ns=>
   cases q2:bW iH ys with
   |none=>rw[q1,q2]at o;exact o.elim
   |some ms=>rw[q1,q2]at o;obtain⟨a,us,rfl,ea,ra⟩:=rx;obtain⟨b,ws,rfl,eb,rb⟩:=ry;exact .inr ⟨a,b,ns,ms,rfl,rfl,SqT.of (by rw[ea,sG ra q1]),SqT.of (by rw[eb,sG rb q2]),o.val s rfl⟩
 ·exact o.elim
theorem CA (g:Good X G E k) (ha:aL X G E a ma) (hb:aL X G E b mb):aL X G E (.Compare a [.Lt] [b] pos) (m2 fR ma mb):=λhK=>rA (OpR.or zQ (GA (by have:=g.room.un;omega))) (by rw[hK];exact LL) ha hb (lL _) hK
theorem LM (g:Good X G E k) (ha:aL X G E a ma) (hb:aL X G E b mb):fO X G E (.Compare a [.Lt] [b] pos) (mB (m2 fR ma mb)):=λhK=>mH (OpR.or zQ (GA (by have:=g.room.un;omega))) (by rw[hK];exact LL) ha hb (lL _) hK
def cG (j:Int):List Int:=(ay j.toNat).map λk:Nat=>(k:Int)
theorem YU:CallR X (.type "range") (λxs H Q=>∃j:Int,xs=[.int j]/\∀l,H l=none->Q (.ref l) (aW H l (.rng 0 j))):=by intro pins s σ H xs us Q I rv ⟨j,e,q⟩;subst e;obtain⟨u,rfl,ru⟩:=iL rv;obtain⟨t,rfl⟩:=ru;refine call_range_1 ⟨.ref s.heap.objs.size,_,I.laid (t':=s.toks+1+1) (o:=.rng 0 j) (λb ob q=>ak _ q) (aj _) ⟨_,_,_,bc _ rfl⟩,rfl,q _ (I.hok.fresh (aj _))⟩
theorem YV (rm:Room k X.A):CallR X (.type "list") (λxs H Q=>∃(l:ah) (j:Int),xs=[.ref l]/\H l=some (.rng 0 j)/\0<=j/\j<=1000/\∀D,H D=none->Q (.ref D) (aW H D (.lst ((cG j).map V.int)))):=by
 intro pins s σ H xs us Q I rv ⟨l,j,e,hl,h0,h1,q⟩;subst e;obtain⟨u,rfl,ru⟩:=iL rv;cases ru;obtain⟨t,u,v,hr⟩:=I.hok l _ hl;refine call_list_range (n:=j.toNat) (a:=0) (b:=j) (c:=1) rm.hd hr (small_one (by omega) (by omega) (by omega) (by omega)) ?_ (by omega) λh' tk acc c ke ho ia=>?_
 ·rw[rangeSize_one]
  split <;> omega
 ·have hv:Vals ((cG j).map V.int) acc.toList:=by
   have:∀(n:Nat) (as:List af),as.length=n->(∀(i:Nat) (v:af),as[i]?=some v->∃t,v=Value.int (0+(i:Int)*1) t)->Vals (((ay n).map λk:Nat=>(k:Int)).map V.int) as:=λn=>by
    induction n with
    |zero=>intro as hl _;rw[zl.mp hl];exact .nil
    |succ n ih=>
     intro as hl hi;have hne:as≠[]:=λz=>by rw[z]at hl;cases hl
     have e:=vq hne;rw[<-e,List.range_succ,ic,ic];have hlast:as[n]?=some (as.getLast hne):=by
      rw[List.getLast_eq_getElem,aw (by omega)]
      congr 2;omega
     obtain⟨t,ht⟩:=hi n _ hlast;refine Vals.append (ih as.dropLast (by simp[hl]) λi v hv=>hi i v ?_) ?_
     ·rw[List.getElem?_dropLast]at hv
      split at hv
      ·exact hv
      ·cases hv
     ·refine .cons ?_ .nil;show RelV (.int (n:Int)) _;rw[ht];exact⟨t,by simp⟩
   refine this j.toNat acc.toList (by simpa using ia.1) λi v hv=>?_;exact ia.2 i v (by simpa using hv)
  refine⟨.ref s.heap.objs.size,_,I.laid (t':=tk) ke (aj _) (show ObjOk X.prog X.w _ _ _ (.lst ((cG j).map V.int)) from⟨?_,acc.toList,c,hv, ?_⟩),rfl,q _ (I.hok.fresh (aj _))⟩
  ·rw[bj,cG,bj,ib,jn];omega
  ·rw[ho]
def oH:Dv->Hs->Rs Dv
 | .int j,h=>if(decide (0<=j)&&decide (j<=1000))=true then .ok (.ref h.length) (h++[.lst ((cG j).map Dv.int)])else .bad
 |_,_=>.bad
theorem YW (g:Good X G E k) (hg:Gl X "list") (hm:X.mg "list" = none) (hg2:Gl X "range") (hm2:X.mg "range" = none) (ha:eC X G E [e] aV)
  (he:au [e] X.env=[(false,eval e X.env)]:=by rfl) (he2:au [Expr.Call (.Name "range" p2) [e] [] pos2] X.env=[(false,eval (.Call (.Name "range" p2) [e] [] pos2) X.env)]:=by rfl):
  aL X G E (.Call (.Name "list" p) [.Call (.Name "range" p2) [e] [] pos2] [] pos) (aH (f1 oH) aV):=λhK=>
 PE.imp (qR (YV g.room) hg hm vB (gW (qR YU hg2 hm2 boot_range (ha hK) (by decide) (by decide) he rfl) jA he2) (by decide) (by decide) he2 rfl) λσ H Q ⟨μ,ρ,h,rs,s,o⟩=>by
  refine kA rs s o λμ1 ds h1 vs H1 x1 rs1 s1 r1 o1=>?_;unfold f1 at o1
  split at o1
  ·rename_i d;obtain⟨v,rfl,rv⟩:=pG r1
   cases d with
   |int j=>
    dsimp only[oH]at o1
    split at o1
    ·rename_i h0;rw[dj]at h0;have j0:0<=j:=by simpa using h0.1
     have j1:j<=1000:=by simpa using h0.2
     rw[RelD]at rv;subst rv;refine⟨j,rfl,λl hl=>?_⟩;have sm:=cR (o:=.rng 0 j) hl;refine⟨l,j,rfl,cU,j0,j1,λD hD=>?_⟩;exact nO (E:=E) (s1.same sm) (rJ _) hD (λμ' H' v x'=>o1 μ' H' v ((Ext.same sm).trans x'))
    ·exact o1.elim
   |_=>exact o1.elim
  ·exact o1.elim
end
section
variable{mo me:M Dv}{ml mh:MO}
end
section
variable{X:Cx}{G:Cfg}{E:XK}{k:Nat}{e a b o:bp}{es:List bp}{mo me ma mb:M Dv}{aV:M (List Dv)}{p p2 pos pos2 apos cpos np:Pos}{y:Str}
theorem sub_tuple:isSubtype (.type "tuple") (.type "set")=pure false/\isSubtype (.type "tuple") (.type "frozenset")=pure false:=by constructor <;> (rw[isSubtype_type];kernel_rfl)
abbrev LN (X:Cx):List V->Hp->VK->Prop:=λxs H Q=>∃(p:ah) (vs:List V) (ks:List (List Int)),xs=[.ref p]/\H p=some (.tup vs)/\TupsAre H vs ks/\(dZ cX ks).length<=76/\∀l o kb,H l=none->wW X.prog X.w l o kb->KbOk H kb ks->Q (.ref l) (aW H l (.frz o (.own 0)))
theorem YX (rm:Room k X.A):CallR X (.type "set") (LN X):=by
 intro pins s σ H xs us Q I rv ⟨p,vs,ks,e,hp,ht,hU,q⟩;subst e;obtain⟨u,rfl,ru⟩:=iL rv;cases ru;obtain⟨its,rits,pl,hz⟩:=I.tuple (SqT.of hp);have hits:=LG ht rits;have lp:=I.hok.lt hp;have hI:s.heap.IsTuple p (bZ ks.length (fB vs)).toArray:=by rw[<-hits];exact pl
 have hsz:(bZ ks.length (fB vs)).toArray.size=ks.length:=by rw[ar,kP]
 have hne:p≠s.heap.objs.size+1:=bf (ja lp);have hb:(s.heap.push (bare X.w)).IsTuple p (bZ ks.length (fB vs)).toArray:=IsTup.push (items:=(bZ ks.length (fB vs)).toArray) hI _;have hs1:(s.heap.push (bare X.w)).objs.size=s.heap.objs.size+1:=size_push' _ _;have W:=Walks.tuple (prog:=X.prog) (w:=X.w) (A:=X.A.in1.in1.in1) (show X.A.in1.in1.in1.handled=none from rm.hd) (s.heap.objs.size+1) p hne (bZ ks.length (fB vs)).toArray;rw[hsz]at W;refine LD (T := "tuple") (it:={ cls:=.type "tuple_iterator",data:=.fields #[.ref p,.int 0 0] }) (fB vs) (λi=>ks.getD i []) (dZ cX ks) (by have:=rm.un;omega) hI.typeIs sub_tuple.1 sub_tuple.2 (by decide) (λB Q' E' hQ=>?_) W (λm=>?_) (λb hb=>?_) ⟨⟨{ cls:=.type "tuple_iterator",data:=.fields #[.ref p,.int 0 0] }, ?_,rfl,rfl⟩,IsTup.push (items:=(bZ ks.length (fB vs)).toArray) hb _⟩ (λi v hv=>?_) hU (λi hi=>?_) (λj hj=>BY I (ht.at_ hj).2) λh' tk kb hS hup k=>?_
 ·refine qp hb ?_;rw[<-hs1]at hQ;exact hQ
 ·rcases bg.mp m with z|m
  ·exact nu _ z.symm
  ·exact je lp (cp.mp m)
 ·rw[cp.mp hb];exact ji _
 ·rw[<-hs1];exact bc _ rfl
 ·have hi:i<ks.length:=by have:=(dh.mp hv).1;rwa [hsz]at this
  have:(bZ ks.length (fB vs))[i]?=some (.ref (fB vs i)):=by simp[bZ,hi]
  rw[Ai,this]at hv;exact(cy hv).symm
 ·refine(pU stoL _ _).mpr ?_;show ks.getD i []∈ks;simp[hi]
 ·obtain⟨o,es,ep,t,P⟩:=hS;refine⟨.ref s.heap.objs.size,_,I.laid (t':=tk) (o:=.frz o (.own 0)) k (aj _) ⟨P.obj,o,P.obj⟩,rfl,q _ o kb (I.hok.fresh (aj _)) ⟨es,ep,t,λh e=>P.at' e⟩ ⟨λz hz=>?_,λz hz=>?_,λz hz=>?_⟩⟩
  ·obtain⟨j,hj,rfl⟩:=hup.from_ z hz;exact(ht.at_ hj).2
  ·obtain⟨j,hj,rfl⟩:=hup.from_ z hz;show ks.getD j []∈ks;simp[hj]
  ·obtain⟨j,hj,rfl⟩:=jo hz;have:=hup.all j hj;simpa[hj]using this
theorem YY (rm:Room k X.A):CallR X (.type "set") (λxs H Q=>LH X xs H Q∨LN X xs H Q):=by
 intro pins s σ H xs us Q I rv h
 rcases h with h|h
 ·exact YK rm pins s σ H xs us Q I rv h
 ·exact YX rm pins s σ H xs us Q I rv h
def pX (x:Dv) (h:Hs):Option (List (List Int)):=match x with
 | .ref i=>match getL h i with
  |some xs=>bW pW xs
  |none=>none
 | .tup xs=>bW pW xs
 |_=>none
def pY (x:Dv) (h:Hs):Rs Dv:=match pX x h with
 |some ks=>if(wY ks&&decide ((dZ cX ks).length<64))=true then .ok (.ref h.length) (h++[.lst ((dZ cX ks).map wX)])else .bad
 |none=>.bad
theorem YZ (g:Good X G E k) (hg:Gl X "sorted") (hm:X.mg "sorted" = none) (hg2:Gl X "set") (hm2:X.mg "set" = none) (ha:eC X G E [e] aV)
  (he:au [e] X.env=[(false,eval e X.env)]:=by rfl) (he2:au [Expr.Call (.Name "set" p2) [e] [] pos2] X.env=[(false,eval (.Call (.Name "set" p2) [e] [] pos2) X.env)]:=by rfl):
  aL X G E (.Call (.Name "sorted" p) [.Call (.Name "set" p2) [e] [] pos2] [] pos) (aH (f1 pY) aV):=λhK=>
 PE.imp (qQ (YM g.room) hg hm WQ (gW (qR (YY g.room) hg2 hm2 YO (ha hK) (by decide) (by decide) he rfl) jA he2) (by decide) (by decide) he2 rfl) λσ H Q ⟨μ,ρ,h,rs,s,o⟩=>by
  refine kA rs s o λμ1 ds h1 vs H1 x1 rs1 s1 r1 o1=>?_;unfold f1 at o1
  split at o1
  ·rename_i d;obtain⟨v,rfl,rv⟩:=pG r1;unfold pY at o1
   cases q:pX d h1 with
   |none=>rw[q]at o1;exact o1.elim
   |some ks=>
    rw[q]at o1;dsimp only at o1
    split at o1
    ·rename_i h0;rw[dj]at h0;have h64:(dZ cX ks).length<64:=by simpa using h0.2
     have fin:∀(l:ah) (o:Obj) (kb:KB),H1 l=none->wW X.prog X.w l o kb->KbOk H1 kb ks->LI X [.ref l] (aW H1 l (.frz o (.own 0))) Q:=λl o kb hl so ko=>by have sm:=cR (o:=.frz o (.own 0)) hl;refine⟨l,o,kb,ks,rfl,cU,so,⟨λp hp=>sm _ _ (ko.tup p hp),ko.frm,ko.all⟩,YN h0.1,h64,λD vs' hD ht=>?_⟩;exact nO (E:=E) (s1.same sm) (LJ ht) hD (λμ' H' v x'=>o1 μ' H' v ((Ext.same sm).trans x'))
     cases d with
     |ref i=>
      dsimp only[pX]at q
      cases q1:getL h1 i with
      |none=>rw[q1]at q;cases q
      |some xs=>rw[q1]at q;obtain⟨vs,e1,r2⟩:=s1.ob i _ (cY q1);obtain⟨_,rfl⟩:=rv;exact .inl ⟨_,vs,ks,rfl,e1,BZ r2 q,by omega,fin⟩
     |tup xs=>obtain⟨a,vs,rfl,e1,r2⟩:=rv;exact .inr ⟨_,vs,ks,rfl,e1,BZ r2 q,by omega,fin⟩
     |_=>cases q
    ·exact o1.elim
  ·exact o1.elim
end
theorem CB {α β:Type}{f g:α->Option β}:∀l:List α,(∀x∈l,f x=g x)->l.filterMap f=l.filterMap g
 | [],_=>rfl
 |x::l,h=>by rw[ck,ck,h x (by simp),CB l λy hy=>h y (by simp[hy])]
section
variable{X:Cx}{G:Cfg}{E:XK}{o:bp}{mo:M Dv}{ms:MO}{se:bp}{p2 pos:Pos}
end
end L2.Mr
namespace L2.Mr.Com
open PySem PySem.Spec PyProof.Rows L2 L2.Mr
def xA:MS:=(aT (dF (m1 (bG mX) (aA 0)) (m1 mI (m1 (bG jV) (aA 0)))))
def F_qx:List Dv->Hs->Rs Dv:=aZ 1 1 (xA)
def sW:MS:=(aT (dF (aH F_qx (aB (aA 0) aC)) (kX hW hW (aA 1) (aA 0) (aA 2))))
def F_qi:List Dv->Hs->Rs Dv:=aZ 3 3 (sW)
def CC:MS:=(aT (mL iF (bX (aV mR (aB (aA 0) (aB (sV (aA 0) (sE (mC (.int 1))) sD) aC))) [none,none] (cV 2 (bL (aG 0) (bL (aG 1) cW))) cT (bP (m2 fR (aA 0) (aA 1))))))
def F_qr:List Dv->Hs->Rs Dv:=aZ 1 1 (CC)
def xB:MS:=(aT (aH F_qi (aB (aA 1) (aB (mC (.int 0)) (aB (m2 fQ (aA 0) (mC (.int 1))) aC)))))
def F_qy:List Dv->Hs->Rs Dv:=aZ 2 2 (xB)
def sX:MS:=(aT (dF (m1 (bG gD) (aA 1)) (mL iF (bX (bO dU (aA 1)) [none,some 0] (aG 0) cT (bP (aH F_qy (aB (aA 1) (aB (aA 0) aC))))))))
def F_qj:List Dv->Hs->Rs Dv:=aZ 2 2 (sX)
def oI:MS:=(aT (dF (aH F_qj (aB (aA 0) (aB (aA 1) aC))) (m2 cD (aH (f1 eZ) (aB (aA 1) aC)) (mC (.int 2)))))
def F_q3:List Dv->Hs->Rs Dv:=aZ 2 2 (oI)
def xC:MS:=(aT (mL iF (bX (bO dU (aA 1)) [none,some 0] (aG 0) cT (bP (aH F_q3 (aB (aA 1) (aB (aA 0) aC)))))))
def F_qs:List Dv->Hs->Rs Dv:=aZ 2 2 (xC)
def CD:MS:=(aT (mL rQ (bX (bO dU (aA 0)) [none,none] (cV 2 (bL (aG 0) (bL (aG 1) cW))) cT (bP (m2 cD (aA 0) (aA 1))))))
def F_qt:List Dv->Hs->Rs Dv:=aZ 1 1 (CD)
def CF:MS:=(aT (mL iF (bX (bO dU (aA 0)) [none,none,none,none,some 0] (cV 2 (bL (aG 0) (bL (aG 1) cW))) cT (jS (bO dU (aA 4)) (cV 2 (bL (aG 2) (bL (aG 3) cW))) (mB (m2 cD (aA 1) (aA 2))) (bP (m2 (eR false) (aR (aB (aA 0) (aB (aA 3) aC))) (aA 4)))))))
def F_qg:List Dv->Hs->Rs Dv:=aZ 1 1 (CF)
def nB:MS:=(aM (aY (gJ (dJ (bV (m1 (bG gD) (aA 0)))) (mB (m2 cP (aH (f1 eZ) (aB (aA 0) aC)) (mC (.int 2))))) (aT (mC (.bl false))) bH) (aM (aQ (aA 0) (cV 2 (bL (aG 1) (bL (aG 2) cW)))) (aM (aY (gJ (dJ (bV (aH F_qi (aB (aA 1) (aB (mC (.int 1)) (aB (mC (.int 6)) aC)))))) (dJ (bV (m1 (bG gD) (aA 2))))) (aT (mC (.bl false))) bH) (aM (aY (gJ (dJ (bV (aH F_qs (aB (aA 1) (aB (aA 2) aC))))) (dJ (bV (aH F_qr (aB (aA 2) aC))))) (aT (mC (.bl false))) bH) (aT (dF (m1 mI (aH F_qt (aB (aA 2) aC))) (aH F_qg (aB (aA 2) aC))))))))
def F_qz:List Dv->Hs->Rs Dv:=aZ 1 3 (nB)
def xD (scr:List Int):MS:=(aM (aY (mB (m2 fR (aA 1) (aH (f1 (iN scr)) (aB (aA 0) aC)))) (aT (m2 (fJ scr) (aA 0) (aA 1))) bH) (aT (mC (.int 0))))
def F_qe (scr:List Int):List Dv->Hs->Rs Dv:=aZ 2 2 (xD scr)
def xE (scr:List Int):MS:=(aM (aQ (aH (F_qe scr) (aB (aA 0) (aB (aA 1) aC))) (aG 2)) (aM (aY (mB (m2 jU (aA 2) (m2 mV (mC (.int 10)) (mC (.int 18))))) (aT (aX (aB (m2 fQ (aA 2) (m2 mV (mC (.int 10)) (mC (.int 18)))) (aB (mC (.bl true)) aC)))) bH) (aT (aX (aB (m2 hV (aA 2) (mC (.int 2147483647))) (aB (mC (.bl false)) aC))))))
def F_qo (scr:List Int):List Dv->Hs->Rs Dv:=aZ 2 3 (xE scr)
def xF:MS:=(aM (aY (bV (m2 aN (aA 0) (mC (.int 1)))) (aM (aQ (m2 hV (m2 aN (aA 0) (mC (.int 0))) (aA 1)) (aG 2)) (aM (jG (aA 0) (mC (.int 0)) (m2 sJ (m2 aN (aA 0) (mC (.int 0))) (aA 1))) (aT (aA 2)))) bH) (aM (jG (aA 0) (mC (.int 0)) (m2 hV (m2 bQ (m2 jJ (m2 aN (aA 0) (mC (.int 0))) (mC (.int 48271))) (mC (.int 29))) (mC (.int 2147483647)))) (aM (aQ (m2 hV (m2 bQ (m2 bQ (m2 jJ (m2 aN (aA 0) (mC (.int 0))) (m2 aN (aA 0) (mC (.int 0)))) (m2 jJ (mC (.int 39373)) (m2 aN (aA 0) (mC (.int 0))))) (mC (.int 7))) (mC (.int 2147483629))) (aG 3)) (aM (aQ (m2 hV (m2 bQ (m2 jJ (aA 3) (aA 3)) (m2 jJ (mC (.int 16807)) (aA 3))) (mC (.int 2147483587))) (aG 3)) (aT (m2 hV (m2 sJ (aA 3) (mC (.int 8))) (aA 1)))))))
def F_qv:List Dv->Hs->Rs Dv:=aZ 2 4 (xF)
def sY (Fs:List Dv->Hs->Rs Dv):MS:=(aM (aY (bV (m1 (bG pP) (aA 1))) (aM (aY (gJ (mB (m2 cP (m1 (bG gD) (aA 0)) (m1 (bG gD) (aA 1)))) (mB (m2 cP (m1 (bG sF) (aA 0)) (m1 (bG sF) (aA 1))))) (aT (mC (.bl false))) bH) (aM (aY (mB (m2 cP (aH (f1 eZ) (aB (aA 0) aC)) (aH (f1 eZ) (aB (aA 1) aC)))) (aT (mC (.bl false))) bH) (aT (mL iF (bX (aV mR (aB (aA 0) (aB (aA 1) aC))) [none,none] (cV 2 (bL (aG 0) (bL (aG 1) cW))) cT (bP (aH Fs (aB (aA 0) (aB (aA 1) aC))))))))) bH) (aT (dF (m2 cD (aA 0) (aA 1)) (m2 cD (m1 (bG jV) (aA 0)) (m1 (bG jV) (aA 1))))))
def F_qw:Nat->List Dv->Hs->Rs Dv
 |0=>λ_ _=>.bad
 |n+1=>aZ 2 2 (sY (F_qw n))
end L2.Mr.Com
namespace L2.Mr.Cod
open PySem PySem.Spec PyProof.Rows L2 L2.Mr L2.Mr.Com
def xG:MS:=(aY (dJ (bV (aH F_qi (aB (aA 0) (aB (aA 1) (aB (aA 2) aC)))))) (vK 1 [1,2]) bH)
def F_qd:List Dv->Hs->Rs Dv:=aZ 3 3 (xG)
def xH:MS:=(aY (dJ (bV (aH F_qz (aB (aA 0) aC)))) (A2 0 (aB (mC (.str "this is no order")) aC)) bH)
def F_qk:List Dv->Hs->Rs Dv:=aZ 1 1 (xH)
def sZ:MS:=(aM (aQ (m2 aN (aA 0) (mC (.int 1))) (aG 3)) (aT (dF (m2 cP (aA 1) (aA 2)) (dF (m2 (eR true) (aR (aB (aA 1) (aB (aA 2) aC))) (aA 3)) (m2 (eR true) (aR (aB (aA 2) (aB (aA 1) aC))) (aA 3))))))
def F_qu:List Dv->Hs->Rs Dv:=aZ 3 4 (sZ)
def xI:MS:=(aM (aQ (aA 0) (cV 2 (bL (aG 2) (bL (aG 3) cW)))) (aM (aQ (cH (bX (bO dU (aA 3)) [none,none] (cV 2 (bL (aG 0) (bL (aG 1) cW))) cT (bP (aR (aB (aA 0) (aB (aA 1) (aB (mC (.int 1)) aC))))))) (aG 4)) (aM (aQ (cH (bX (aV cC (aB (aA 2) aC)) [none,none,some 1,some 0,some 2] (aG 0) cT (jS (aV cC (aB (aA 4) aC)) (aG 1) (bV (aH F_qu (aB (aA 3) (aB (aA 0) (aB (aA 1) aC))))) (bP (aR (aB (aA 0) (aB (aA 1) (aB (m1 lT (aA 2)) aC)))))))) (aG 5)) (aT (m2 bQ (aA 4) (aA 5))))))
def F_q0:List Dv->Hs->Rs Dv:=aZ 2 6 (xI)
def xJ:MS:=(aT (cH (bX (aV pS (aB (aA 0) aC)) [none,none,some 1,some 0] (cV 2 (bL (aG 0) (bL (aG 1) cW))) cT (bP (aH (f1 (eS cO)) (aB (m2 bQ (aX (aB (aA 1) aC)) (cH (bX (bO cZ (aA 2)) [none,none,none,some 3,some 0] (cV 3 (bL (aG 0) (bL (aG 1) (bL (aG 2) cW)))) (mB (m2 cD (aA 1) (aA 4))) (bP (m2 bQ (m2 aN (aA 3) (aA 0)) (aA 2)))))) aC))))))
def F_q4:List Dv->Hs->Rs Dv:=aZ 2 2 (xJ)
def pZ:MS:=(aM (dY (aH F_qk (aB (aA 0) aC))) (aM (dY (aH F_qd (aB (aA 1) (aB (mC (.int 0)) (aB (mC (.int 5)) aC))))) (aM (aQ (aH F_q0 (aB (aA 0) (aB (aA 1) aC))) (aG 2)) (aM (aQ (m2 kH (aX (aB (mC (.int 0)) aC)) (m2 aN (aA 0) (mC (.int 0)))) (aG 3)) (aM (hO (mB (m2 fR (aH (f1 (eS cO)) (aB (aA 3) aC)) (m2 aN (aA 0) (mC (.int 0))))) (aM (aQ (aH F_q4 (aB (aA 3) (aB (aA 2) aC))) (aG 4)) (aM (aY (mB (m2 cD (aA 4) (aA 3))) (aT (aH (f1 gZ) (aB (aA 3) aC))) bH) (aQ (aA 4) (aG 3)))) 40) (aT (mC .non)))))))
def F_q5:List Dv->Hs->Rs Dv:=aZ 2 5 (pZ)
def xK:MS:=(aM (aQ (aH (f1 oH) (aB (aA 1) aC)) (aG 2)) (aM (aQ (aX aC) (aG 3)) (aM (hO (mB (m2 cP (aA 2) (aX aC))) (dY (hG (aA 3) (rZ (aA 2) (aH F_qv (aB (aA 0) (aB (aH (f1 eZ) (aB (aA 2) aC)) aC)))))) 40) (aT (aH (f1 gZ) (aB (aA 3) aC))))))
def F_qp:List Dv->Hs->Rs Dv:=aZ 2 4 (xK)
def xM:MS:=(aM (aQ (aH (f1 kG) (aB (aA 1) aC)) (aG 2)) (aM (cK (aV cC (aB (aA 0) aC)) (aG 3) (cK (aV cC (aB (aA 0) aC)) (aG 4) (cK (aV cC (aB (aA 0) aC)) (aG 5) (aY (iB (mB (m2 (eR false) (aR (aB (aA 4) (aB (aA 3) aC))) (aA 2))) (iB (mB (m2 (eR false) (aR (aB (aA 3) (aB (aA 5) aC))) (aA 2))) (mB (m2 (eR true) (aR (aB (aA 4) (aB (aA 5) aC))) (aA 2))))) (dY (hG (aA 2) (aR (aB (aA 4) (aB (aA 5) aC))))) bH)))) (aT (aH (f1 gZ) (aB (aH (f1 pY) (aB (aA 2) aC)) aC)))))
def F_qh:List Dv->Hs->Rs Dv:=aZ 2 6 (xM)
def xN:MS:=(aM (aQ (m2 fQ (aA 1) (m2 aN (aX (aB (mC (.int 0)) (aB (mC (.int 0)) (aB (mC (.int 1)) (aB (mC (.int 0)) (aB (mC (.int 2)) (aB (mC (.int 1)) (aB (mC (.int 3)) (aB (m2 fQ (aA 1) (mC (.int 1))) aC))))))))) (aH F_qv (aB (aA 0) (aB (mC (.int 8)) aC))))) (aG 2)) (aM (aQ (aH gL (aB (mC (.int 1)) (aB (aA 2) aC))) (aG 2)) (aM (aQ (aH F_qp (aB (aA 0) (aB (aA 2) aC))) (aG 3)) (aM (aQ (aH F_qv (aB (aA 0) (aB (mC (.int 5)) aC))) (aG 4)) (aM (aQ (cH (bX (bO dU (aA 3)) [none,some 0] (aG 0) cT (bP (aH F_qv (aB (aA 1) (aB (mC (.int 3)) aC)))))) (aG 5)) (aM (aQ (aX aC) (aG 6)) (aM (cK (aV cC (aB (aA 2) aC)) (aG 7) (cK (aV jR (aB (m2 bQ (aA 7) (mC (.int 1))) (aB (aA 2) aC))) (aG 8) (aM (aQ (m2 fR (aH F_qv (aB (aA 0) (aB (mC (.int 4)) aC))) (m2 aN (aX (aB (mC (.int 1)) (aB (mC (.int 2)) (aB (mC (.int 3)) aC)))) (m2 hV (aA 4) (mC (.int 3))))) (aG 9)) (aM (aY (mB (m2 cD (aA 4) (mC (.int 3)))) (aQ (m2 cD (m2 aN (aA 5) (aA 7)) (m2 aN (aA 5) (aA 8))) (aG 9)) bH) (aM (aY (mB (m2 cD (aA 4) (mC (.int 4)))) (aQ (m2 fR (m2 aN (aA 5) (aA 7)) (m2 aN (aA 5) (aA 8))) (aG 9)) bH) (aY (bV (aA 9)) (dY (hG (aA 6) (aR (aB (m2 aN (aA 3) (aA 7)) (aB (m2 aN (aA 3) (aA 8)) aC))))) bH)))))) (aT (aR (aB (aA 2) (aB (aH F_qh (aB (aA 2) (aB (aA 6) aC))) aC)))))))))))
def F_qq:List Dv->Hs->Rs Dv:=aZ 2 10 (xN)
def xO:MS:=(aM (aQ (aX aC) (aG 1)) (aM (cK (aV cC (aB (m2 aN (aA 0) (mC (.int 0))) aC)) (aG 2) (cK (aV jR (aB (m2 bQ (aA 2) (mC (.int 1))) (aB (m2 aN (aA 0) (mC (.int 0))) aC))) (aG 3) (aY (iB (mB (m2 (eR true) (aR (aB (aA 2) (aB (aA 3) aC))) (m2 aN (aA 0) (mC (.int 1))))) (mB (m2 (eR true) (aR (aB (aA 3) (aB (aA 2) aC))) (m2 aN (aA 0) (mC (.int 1)))))) (dY (hG (aA 1) (aR (aB (aA 2) (aB (aA 3) aC))))) bH))) (aT (aA 1))))
def F_qm:List Dv->Hs->Rs Dv:=aZ 1 4 (xO)
def LO:MS:=(aM (aQ (m2 kH (aX (aB (mC (.int 0)) aC)) (m2 aN (aA 0) (mC (.int 0)))) (aG 2)) (aM (cK (aV cC (aB (m2 bQ (m2 jJ (m2 aN (aA 0) (mC (.int 0))) (m2 aN (aA 0) (mC (.int 0)))) (mC (.int 2))) aC)) (aG 3) (aM (aQ (aH (f1 kG) (aB (aA 2) aC)) (aG 4)) (aM (cK (bO dU (m2 aN (aA 0) (mC (.int 1)))) (cV 2 (bL (aG 5) (bL (aG 6) cW))) (jG (aA 4) (aA 6) (aH gL (aB (m2 aN (aA 4) (aA 6)) (aB (m2 bQ (m2 aN (aA 2) (aA 5)) (mC (.int 1))) aC))))) (aM (cK (bO cZ (aH F_qm (aB (aA 0) aC))) (cV 2 (bL (aG 5) (bL (aG 6) cW))) (aM (jG (aA 4) (aA 5) (aH gL (aB (m2 aN (aA 4) (aA 5)) (aB (m2 fQ (m2 aN (aA 2) (aA 6)) (aA 1)) aC)))) (jG (aA 4) (aA 6) (aH gL (aB (m2 aN (aA 4) (aA 6)) (aB (m2 fQ (m2 aN (aA 2) (aA 5)) (aA 1)) aC)))))) (aM (aY (mB (m2 cD (aA 4) (aA 2))) (aT (aH (f1 gZ) (aB (aA 2) aC))) bH) (aM (aQ (aA 4) (aG 2)) (aY (mB (m2 jU (aH (f1 (eS cO)) (aB (aA 2) aC)) (m2 aN (aA 0) (mC (.int 0))))) (aT (mC .non)) bH))))))) (aT (mC .non))))
def F_qb:List Dv->Hs->Rs Dv:=aZ 2 7 (LO)
def xP:MS:=(aM (aQ (aX (aB (mC .non) (aB (aR aC) (aB (aR (aB (mC (.int 0)) (aB (aR aC) aC))) (aB (aR (aB (mC (.int 7)) (aB (aR aC) aC))) (aB (aR (aB (mC (.bl true)) (aB (aR aC) aC))) (aB (aR (aB (mC (.int 2)) (aB (aX (aB (aR (aB (mC (.int 0)) (aB (mC (.int 1)) aC))) aC)) aC))) (aB (aR (aB (mC (.int 2)) (aB (aR (aB (aR (aB (mC (.int 1)) (aB (mC (.int 0)) aC))) (aB (aR (aB (mC (.int 0)) (aB (mC (.int 1)) aC))) aC))) aC))) (aB (aR (aB (mC (.int 2)) (aB (aR (aB (aR (aB (mC (.int 0)) (aB (mC (.int 0)) aC))) aC)) aC))) (aB (aX (aB (mC (.int 2)) (aB (aR aC) aC))) aC)))))))))) (aG 1)) (aM (aQ (m2 bQ (aA 1) (aX (aB (aR (aB (mC (.int 3)) (aB (aR (aB (aR (aB (mC (.int 0)) (aB (mC (.int 1)) aC))) (aB (aR (aB (mC (.int 1)) (aB (mC (.int 2)) aC))) aC))) aC))) (aB (aR (aB (mC (.int 2)) (aB (aR (aB (aR (aB (mC (.int 0)) (aB (mC (.int 1)) aC))) (aB (aR (aB (mC (.int 0)) (aB (mC (.int 1)) aC))) aC))) aC))) (aB (aR (aB (mC (.int 2)) (aB (aR (aB (aR (aB (mC (.int 0)) (aB (mC (.int 2)) aC))) aC)) aC))) (aB (aR (aB (mC (.int 2)) (aB (aR (aB (aR (aB (mC (.int 0)) (aB (mC (.bl true)) aC))) aC)) aC))) (aB (aR (aB (mC (.int 2)) aC)) (aB (aR (aB (mC (.int 2)) (aB (aR aC) (aB (aR aC) aC)))) aC)))))))) (aG 1)) (aM (aQ (m2 bQ (aA 1) (aX (aB (aR (aB (mC (.int 3)) (aB (aR (aB (aR (aB (mC (.int 0)) (aB (mC (.int 2)) aC))) (aB (aR (aB (mC (.int 0)) (aB (mC (.int 1)) aC))) aC))) aC))) (aB (mC (.str "2: 0<1")) (aB (mC .edc) (aB (aR (aB (mC (.int 2)) (aB (aR (aB (aR (aB (mC (.int 0)) (aB (mC (.int 1)) (aB (mC (.int 1)) aC)))) aC)) aC))) (aB (aR (aB (mC (.int 2)) (aB (aR (aB (aR (aB (mC (.int 0)) (aB (mC (.int 1)) aC))) (aB (aR (aB (mC (.int 1)) (aB (mC (.int 0)) aC))) aC))) aC))) aC))))))) (aG 1)) (aT (m2 aN (aA 1) (aH F_qv (aB (aA 0) (aB (mC (.int 20)) aC))))))))
def F_qc:List Dv->Hs->Rs Dv:=aZ 1 2 (xP)
end L2.Mr.Cod
namespace L2.Mr
open PySem PySem.Spec PyProof.Rows L2
section
variable{X:Cx}{G:Cfg}{E:XK}{pos:Pos}
end
def nE:M Dv:=λ_ _=>.bad
def xQ (f:bp->M Dv):List bp->M (List Dv)
 | []=>aC
 |e::es=>aB (f e) (xQ f es)
def lX (lk:Str->Option Nat):Nat->bp->M Dv
 |0,_=>nE
 |n+1,e=>match e with
  | .Constant c _ _=>match c with
   | .int i=>mC (.int i)
   | .bool b=>mC (.bl b)
   | .none=>mC .non
   | .str x=>mC (.str x)
   |_=>nE
  | .Tuple es _ _=>aR (xQ (lX lk n) es)
  | .List es _=>aX (xQ (lX lk n) es)
  | .Dict [] [] _=>mC .edc
  | .Name x _=>match lk x with
   |some i=>aA i
   |none=>nE
  | .UnaryOp .USub a _=>m1 lT (lX lk n a)
  |_=>nE
def LP (e:bp):Prop:=∀es env,au (e::es) env=(false,eval e env)::au es env
section
variable{X:Cx}{G:Cfg}{E:XK}{lk:Str->Option Nat}
theorem xR {e:bp}:aL X G E e nE:=λ_ pins s σ H Q _ ⟨_,_,_,_,_,o⟩=>o.elim
theorem Y0 {e:bp}{es:List bp}{ms:M (List Dv)}:eC X G E (e::es) (aB nE ms):=λ_ pos pins s σ H Q _ ⟨_,_,_,_,_,o⟩=>o.elim
theorem CG {f:bp->M Dv}(hf:∀e,aL X G E e (f e)/\(LP e∨f e=nE)):∀es,eC X G E es (xQ f es)
 | []=>aU
 |e::es=>by
  obtain⟨a,b|b⟩:=hf e
  ·exact aJ a (CG hf es) (b es X.env)
  ·show eC X G E (e::es) (aB (f e) _);rw[b];exact Y0
theorem xS (hv:∀x i pos,lk x=some i->aL X G E (.Name x pos) (aA i)):∀n e,aL X G E e (lX lk n e)/\(LP e∨lX lk n e=nE)
 |0,_=>⟨xR,.inr rfl⟩
 |n+1,e=>by
  unfold lX
  split
  ·split
   ·exact⟨bA,.inl λ_ _=>rfl⟩
   ·exact⟨iA,.inl λ_ _=>rfl⟩
   ·exact⟨nM,.inl λ_ _=>rfl⟩
   ·exact⟨AL,.inl λ_ _=>rfl⟩
   ·exact⟨xR,.inr rfl⟩
  ·exact⟨gY (CG (xS hv n) _),.inl λ_ _=>rfl⟩
  ·exact⟨fZ (CG (xS hv n) _),.inl λ_ _=>rfl⟩
  ·exact⟨VO,.inl λ_ _=>rfl⟩
  ·rename_i x pos
   split
   ·rename_i i q;exact⟨hv x i pos q,.inl λ_ _=>rfl⟩
   ·exact⟨xR,.inr rfl⟩
  ·exact⟨BE (xS hv n _).1,.inl λ_ _=>rfl⟩
  ·exact⟨xR,.inr rfl⟩
theorem kQ (n:Nat) {e:bp}{m:M Dv}(h:lX (λ_=>none) n e=m:=by rfl):aL X G E e m:=h▸(xS (λ_ _ _ h=>by cases h) n e).1
end
structure SW (X:Cx) (G:Cfg) (E:XK) (st:gp) (m:MS):Prop where
 ok:iC X G E st m
structure SWs (X:Cx) (G:Cfg) (E:XK) (st:List gp) (m:MS):Prop where
 ok:jC X G E st m
section
variable{X:Cx}{G:Cfg}{E:XK}{st:gp}{rest:List gp}{m u:MS}{pos:Pos}
theorem CH (a:SW X G E st m) (b:SWs X G E rest u):SWs X G E (st::rest) (aM m u):=⟨bE a.ok b.ok⟩
theorem Y1 (a:SW X G E st m):SWs X G E [st] m:=⟨bF a.ok⟩
theorem Y2 (n:Nat) {i:Nat}{x:Str}{pos':Pos}{e:bp}{me:M Dv}(hN:X.N.Nodup) (hi:X.N[i]?=some x) (hx:mF X.env.scope x) (h:lX (λ_=>none) n e=me:=by rfl) (hs:swapsWith e (some (.Name x pos')) pos.line X.env=pure false:=by rfl) (hf:X.fn x=true∨X.env.scope.names.lookup x=some .local:=by first|exact .inl rfl|exact .inr rfl|assumption):
  SW X G E (.Assign [.Name x pos'] e pos) (aQ me (aG i)):=⟨cM hN hi hx (kQ n h) hs hf⟩
theorem LQ (n:Nat) {i:Nat}{x:Str}{pos' p2 p3:Pos}{e:bp}{me:M Dv}(hN:X.N.Nodup) (hi:X.N[i]?=some x) (hx:mF X.env.scope x) (hv:aL X G E (.Name x p2) (aA i)) (h:lX (λ_=>none) n e=me:=by rfl) (hs:swapsWith (.BinOp (.Name x p2) .Add e p3) (some (.Name x pos')) pos.line X.env=pure false:=by rfl) (hf:X.fn x=true∨X.env.scope.names.lookup x=some .local:=by first|exact .inl rfl|exact .inr rfl|assumption):
  SW X G E (.Assign [.Name x pos'] (.BinOp (.Name x p2) .Add e p3) pos) (aQ (m2 bQ (aA i) me) (aG i)):=⟨cM hN hi hx (gO hv (kQ n h)) hs hf⟩
end
section
variable{P:bo}{w:cw}{K:ao}{mg:Str->Option af}{base:cz}{G:Cfg}{N:List Str}{f:ah}{k:Nat}
theorem Y3 {x qual:Str}{st:gp}{fd:br}{ps:List Str}{mb:MS}(Fn:Fun K x qual st f fd) (S:FnScope N ps (bC st)) (hK:K=G.K)
  (hbody:∀(cdv:af) (A:cx) (outer:List Env) (s:ag) (H:Hp) (E₀ E:XK),Good (fS (bR P w base) P w K mg base N qual (bC st) f cdv A outer s H E₀) G E k->SWs (fS (bR P w base) P w K mg base N qual (bC st) f cdv A outer s H E₀) G E (jZ st) mb):
  FnOk P w K mg base (bR P w base) (k+1) f fd ps (cN G (aZ ps.length N.length mb)):=dQ Fn S hK λcdv A outer s H E₀ E g=>(hbody cdv A outer s H E₀ E g).ok
end
end L2.Mr
namespace L2.Mr.K51
open PySem PySem.Spec PyProof.Rows L2 L2.Mr L2.Mr.Cod
open L2.Mr.Com
def tblV:List (Nat×Bool):=[(0,true),(1,true)]
def tbl0:List (Nat×Bool):=[(0,true),(1,false)]
def tbl1:List (Nat×Bool):=[(0,false),(1,true)]
def tbl2:List (Nat×Bool):=[(0,false),(1,false)]
def tbl3:List (Nat×Bool):=[(0,false),(1,false)]
def tbl4:List (Nat×Bool):=[(0,false),(1,false)]
def tbl5:List (Nat×Bool):=[(0,false),(1,false)]
def tbl6:List (Nat×Bool):=[(0,false),(1,false)]
def tbl7:List (Nat×Bool):=[(0,false),(1,false)]
def tbl8:List (Nat×Bool):=[(0,false),(1,false)]
def tbl9:List (Nat×Bool):=[(0,false),(1,false)]
def tbl10:List (Nat×Bool):=[(0,false),(1,false)]
def tbl11:List (Nat×Bool):=[(0,false),(1,false)]
def tbl12:List (Nat×Bool):=[(0,false),(1,false)]
def tbl13:List (Nat×Bool):=[(0,false),(1,false)]
def CI:MS:=(aT (dF (m1 (bG mX) (aA 0)) (m1 mI (m1 (bG jV) (aA 0)))))
def F_ql:List Dv->Hs->Rs Dv:=aZ 1 1 (CI)
def xT:MS:=(aM (aY (gJ (dJ (bV (m1 (bG gD) (aA 1)))) (mB (m2 cP (aH (f1 eZ) (aB (aA 1) aC)) (m2 aN (aA 0) (mC (.int 0)))))) (aT (mC (.bl false))) bH) (aM (aY (dJ (bV (mL iF (bX (bO dU (aA 1)) [none,some 0] (aG 0) cT (bP (dF (aH F_ql (aB (aA 0) aC)) (kX hW vU (mC (.int 0)) (aA 0) (m2 aN (aA 1) (mC (.int 0)))))))))) (aT (mC (.bl false))) bH) (aT (m2 cD (cH (bX (bO dU (m2 aN (aA 0) (mC (.int 1)))) [none,some 1] (aG 0) (mB (m2 jU (m2 aN (aA 1) (m2 aN (aA 0) (mC (.int 0)))) (m2 aN (aA 1) (m2 aN (aA 0) (mC (.int 1)))))) (bP (aA 0)))) (aX aC)))))
def F_qa:List Dv->Hs->Rs Dv:=aZ 2 2 (xT)
def xU:MS:=(aM (aQ (aX (aB (mC (.int 0)) aC)) (aG 2)) (aM (cK (bO cZ (aH F_qm (aB (aA 0) aC))) (cV 2 (bL (aG 3) (bL (aG 4) cW))) (dY (hG (aA 2) (aH (f1 rK) (aB (m2 fQ (m2 aN (aA 1) (aA 3)) (m2 aN (aA 1) (aA 4))) aC))))) (aT (aH (f1 (eS cO)) (aB (aA 2) aC)))))
def F_qn:List Dv->Hs->Rs Dv:=aZ 2 5 (xU)
def jK:MS:=(aM (aQ (aX (aB (m1 (bG (dM none tbl0)) (aA 1)) (aB (m1 (bG (dM none tbl1)) (aA 1)) (aB (m1 (bG (dM none tbl2)) (aA 1)) aC)))) (aG 3)) (aM (aQ (m2 bQ (aA 3) (aX (aB (m1 (bG (dM none tbl3)) (aA 1)) (aB (m1 (bG (dM none tbl4)) (aA 1)) (aB (m1 (bG (dM none tbl5)) (aA 1)) aC))))) (aG 3)) (aM (aQ (m2 bQ (aA 3) (aX (aB (m1 (bG (dM none tbl6)) (aA 1)) (aB (m1 (bG (dM none tbl7)) (aA 1)) (aB (m1 (bG (dM none tbl8)) (aA 1)) aC))))) (aG 3)) (aM (aQ (m2 bQ (aA 3) (aX (aB (m1 (bG (dM none tbl9)) (aA 1)) (aB (m1 (bG (dM none tbl10)) (aA 1)) (aB (m1 (bG (dM none tbl11)) (aA 1)) aC))))) (aG 3)) (aM (aQ (m2 bQ (aA 3) (aX (aB (m1 (bG (dM none tbl12)) (aA 1)) (aB (m1 (bG (dM none tbl13)) (aA 1)) aC)))) (aG 3)) (aM (aY (dJ (bV (m1 (bG (dM none tblV)) (aA 1)))) (aT (mC .non)) bH) (aT (cH (bX (aV cC (aB (mC (.int 14)) aC)) [none,some 3] (aG 0) (bV (m2 aN (aA 1) (aA 0))) (bP (aA 0)))))))))))
def xV:MS:=(aM (aQ (aX (aB (aR aC) aC)) (aG 1)) (aM (cK (aV cC (aB (m2 aN (aA 0) (mC (.int 0))) aC)) (aG 2) (aM (aQ (aX aC) (aG 3)) (aM (cK (bO cZ (aA 1)) (aG 4) (dY (vM (aA 3) (bX (aV cC (aB (m2 aN (aA 0) (mC (.int 0))) aC)) [none,some 4] (aG 0) cT (bP (m2 bQ (aA 1) (aR (aB (aA 0) aC)))))))) (aQ (aA 3) (aG 1))))) (aT (cH (bX (bO cZ (aA 1)) [none,some 0] (aG 0) (bV (aH F_qa (aB (aA 1) (aB (aA 0) aC)))) (bP (aA 0)))))))
def F_q1:List Dv->Hs->Rs Dv:=aZ 1 5 (xV)
def xW:MS:=(aM (aY (mB (m2 pM (m2 aN (aA 0) (mC (.int 0))) (mC (.int 4)))) (aT (aH F_qb (aB (aA 0) (aB (aA 1) aC)))) bH) (aM (aQ (cH (bX (bO cZ (aH F_q1 (aB (aA 0) aC))) [none,some 1,some 0] (aG 0) (mB (m2 hW (aH F_qn (aB (aA 2) (aB (aA 0) aC))) (aA 1))) (bP (aA 0)))) (aG 2)) (aM (aY (mB (m2 cD (aA 2) (aX aC))) (aT (mC .non)) bH) (aT (mL A6 (bX (aV cC (aB (m2 aN (aA 0) (mC (.int 0))) aC)) [none,some 2] (aG 0) cT (bP (aH (f1 (eS gF)) (aB (cH (bX (bO cZ (aA 1)) [none,some 0] (aG 0) cT (bP (m2 aN (aA 0) (aA 1))))) aC)))))))))
def F_q2:List Dv->Hs->Rs Dv:=aZ 2 3 (xW)
def tD:M Dv:=(aH F_q5 (aB (aA 0) (aB (aA 1) aC)))
def tE:M Dv:=(aH F_q5 (aB (aA 0) (aB (aA 1) aC)))
def xX (scr:List Int):MS:=(aM (aQ (aH (F_qo scr) (aB (aA 0) (aB (aA 1) aC))) (aG 2)) (aM (aQ (aH F_qq (aB (aA 2) (aB (mC (.int 6)) aC))) (aG 3)) (aM (cK (aV cC (aB (mC (.int 6)) aC)) (aG 4) (aY (dJ (bV (aH (F_qw 6) (aB (aH F_q5 (aB (aA 3) (aB (aA 4) aC))) (aB (aH F_q2 (aB (aA 3) (aB (aA 4) aC))) aC))))) (aT (mC (.bl false))) bH)) (aM (aQ (m2 aN (aX (aB (m1 lT (mC (.int 1))) (aB (mC (.int 6)) (aB (mC (.bl true)) (aB (mC .non) (aB (mC (.str "1")) (aB (aR (aB (mC (.int 1)) aC)) (aB (aX (aB (mC (.int 0)) aC)) (aB (m2 mV (mC (.int 10)) (mC (.int 29))) aC))))))))) (aH F_qv (aB (aA 2) (aB (mC (.int 8)) aC)))) (aG 5)) (aM (aQ (aH F_qc (aB (aA 2) aC)) (aG 6)) (aM (aY (mB (m2 cP (kF [3,5] 4 14 jK tD) (aX (aB (mC (.int 1)) aC)))) (aT (mC (.bl false))) bH) (aY (mB (m2 cP (kF [6,5] 4 14 jK tE) (aX (aB (mC (.int 0)) aC)))) (aT (mC (.bl false))) bH)))))))
def LR (scr:List Int):MS:=(cK (aV cC (aB (aH gL (aB (mC (.int 1)) (aB (aH pH (aB (aH (f1 (iN scr)) (aB (aA 0) aC)) (aB (mC (.int 6)) aC))) aC))) aC)) (aG 1) (xX scr))
def Y4:MS:=(aT (mC (.bl true)))
def xY (scr:List Int):MS:=(aM (LR scr) Y4)
def F_q6 (scr:List Int):List Dv->Hs->Rs Dv:=aZ 1 7 (xY scr)
def dH (i:Nat):gp:=ae.main.body.getD i (.Pass ⟨0,0,0,0⟩)
abbrev CJ:gp:=dH 17
abbrev CK:gp:=dH 18
abbrev CL:gp:=dH 19
abbrev xZ:gp:=dH 20
abbrev CM:gp:=dH 24
abbrev yA:gp:=dH 25
abbrev CN:gp:=dH 26
abbrev yB:gp:=dH 27
abbrev yC:gp:=dH 28
abbrev yD:gp:=dH 29
abbrev CO:gp:=dH 30
abbrev CP:gp:=dH 31
abbrev CQ:gp:=dH 32
abbrev tF:gp:=dH 34
abbrev yE:gp:=dH 35
abbrev CS:gp:=dH 36
abbrev CT:gp:=dH 38
abbrev tG:gp:=dH 39
abbrev CU:gp:=dH 40
abbrev CV:gp:=dH 41
abbrev CW:gp:=dH 42
abbrev CY:gp:=dH 43
abbrev CZ:gp:=dH 44
abbrev DB:gp:=dH 45
abbrev DC:gp:=dH 46
abbrev DD:gp:=dH 47
abbrev yF:gp:=dH 48
abbrev yG:gp:=dH 49
abbrev DE:gp:=dH 50
abbrev oJ:gp:=dH 51
abbrev tH:gp:=dH 52
abbrev tJ:gp:=dH 53
abbrev tK:gp:=dH 54
structure Ad where
 f_qx:ah
 fd_qx:br
 f_qi:ah
 fd_qi:br
 f_qd:ah
 fd_qd:br
 f_qr:ah
 fd_qr:br
 f_qy:ah
 fd_qy:br
 f_qj:ah
 fd_qj:br
 f_q3:ah
 fd_q3:br
 f_qs:ah
 fd_qs:br
 f_qt:ah
 fd_qt:br
 f_qg:ah
 fd_qg:br
 f_qz:ah
 fd_qz:br
 f_qk:ah
 fd_qk:br
 f_qu:ah
 fd_qu:br
 f_q0:ah
 fd_q0:br
 f_q4:ah
 fd_q4:br
 f_q5:ah
 fd_q5:br
 f_ql:ah
 fd_ql:br
 f_qa:ah
 fd_qa:br
 f_qm:ah
 fd_qm:br
 f_qb:ah
 fd_qb:br
 f_qn:ah
 fd_qn:br
 f_qe:ah
 fd_qe:br
 f_qo:ah
 fd_qo:br
 f_qv:ah
 fd_qv:br
 f_qp:ah
 fd_qp:br
 f_qh:ah
 fd_qh:br
 f_qq:ah
 fd_qq:br
 f_qw:ah
 fd_qw:br
 f_qc:ah
 fd_qc:br
 f_qf:ah
 fd_qf:br
 f_q1:ah
 fd_q1:br
 f_q2:ah
 fd_q2:br
 f_q6:ah
 fd_q6:br
 c_NoOrder:ah
 c_NoNumber:ah
 c_NoPairs:ah
 c_Round:ah
 c_NoThing:ah
 c_NoRow:ah
 c_TooMany:ah
 c_TooFew:ah
 c_NoText:ah
 c_NoLine:ah
 c_NoDeed:ah
 c_NoSeating:ah
 c_NoRing:ah
 c_NoSizes:ah
 t_MOST_THINGS:Tok
 t_MOST_APART:Tok
 NE:ah
 cc:ah
 P:ah
structure Tx (K:ao) (mg:Str->Option af) (G:Cfg) (A:Ad):Prop where
 hK:K=G.K
 F_qx:Fun K "is_whole" "is_whole" CJ A.f_qx A.fd_qx
 B_qx:Binds K A.fd_qx ["thing"] []
 m_qx:mg "is_whole" = some (.ref A.f_qx)
 F_qi:Fun K "is_between" "is_between" CK A.f_qi A.fd_qi
 B_qi:Binds K A.fd_qi ["thing","low","high"] []
 m_qi:mg "is_between" = some (.ref A.f_qi)
 F_qd:Fun K "need_between" "need_between" CL A.f_qd A.fd_qd
 B_qd:Binds K A.fd_qd ["thing","low","high"] []
 m_qd:mg "need_between" = some (.ref A.f_qd)
 F_qr:Fun K "is_rising" "is_rising" xZ A.f_qr A.fd_qr
 B_qr:Binds K A.fd_qr ["parts"] []
 m_qr:mg "is_rising" = some (.ref A.f_qr)
 F_qy:Fun K "is_thing" "is_thing" CM A.f_qy A.fd_qy
 B_qy:Binds K A.fd_qy ["many","thing"] []
 m_qy:mg "is_thing" = some (.ref A.f_qy)
 F_qj:Fun K "are_things" "are_things" yA A.f_qj A.fd_qj
 B_qj:Binds K A.fd_qj ["many","thing"] []
 m_qj:mg "are_things" = some (.ref A.f_qj)
 F_q3:Fun K "is_pair" "is_pair" CN A.f_q3 A.fd_q3
 B_q3:Binds K A.fd_q3 ["many","thing"] []
 m_q3:mg "is_pair" = some (.ref A.f_q3)
 F_qs:Fun K "are_pairs" "are_pairs" yB A.f_qs A.fd_qs
 B_qs:Binds K A.fd_qs ["many","things"] []
 m_qs:mg "are_pairs" = some (.ref A.f_qs)
 F_qt:Fun K "has_alike" "has_alike" yC A.f_qt A.fd_qt
 B_qt:Binds K A.fd_qt ["pairs"] []
 m_qt:mg "has_alike" = some (.ref A.f_qt)
 F_qg:Fun K "is_complete" "is_complete" yD A.f_qg A.fd_qg
 B_qg:Binds K A.fd_qg ["pairs"] []
 m_qg:mg "is_complete" = some (.ref A.f_qg)
 F_qz:Fun K "is_order" "is_order" CO A.f_qz A.fd_qz
 B_qz:Binds K A.fd_qz ["thing"] []
 m_qz:mg "is_order" = some (.ref A.f_qz)
 F_qk:Fun K "need_order" "need_order" CP A.f_qk A.fd_qk
 B_qk:Binds K A.fd_qk ["order"] []
 m_qk:mg "need_order" = some (.ref A.f_qk)
 F_qu:Fun K "are_loose" "are_loose" CQ A.f_qu A.fd_qu
 B_qu:Binds K A.fd_qu ["order","one","other"] []
 m_qu:mg "are_loose" = some (.ref A.f_qu)
 F_q0:Fun K "needs_of" "needs_of" tF A.f_q0 A.fd_q0
 B_q0:Binds K A.fd_q0 ["order","reach"] []
 m_q0:mg "needs_of" = some (.ref A.f_q0)
 F_q4:Fun K "raised" "raised" yE A.f_q4 A.fd_q4
 B_q4:Binds K A.fd_q4 ["places","needs"] []
 m_q4:mg "raised" = some (.ref A.f_q4)
 F_q5:Fun K "seated" "seated" CS A.f_q5 A.fd_q5
 B_q5:Binds K A.fd_q5 ["order","reach"] []
 m_q5:mg "seated" = some (.ref A.f_q5)
 F_ql:Fun K "_law_whole" "_law_whole" CT A.f_ql A.fd_ql
 B_ql:Binds K A.fd_ql ["_law_thing"] []
 m_ql:mg "_law_whole" = some (.ref A.f_ql)
 F_qa:Fun K "_law_is_seating" "_law_is_seating" tG A.f_qa A.fd_qa
 B_qa:Binds K A.fd_qa ["_law_order_here","_law_thing"] []
 m_qa:mg "_law_is_seating" = some (.ref A.f_qa)
 F_qm:Fun K "_law_loose" "_law_loose" CU A.f_qm A.fd_qm
 B_qm:Binds K A.fd_qm ["_law_order_here"] []
 m_qm:mg "_law_loose" = some (.ref A.f_qm)
 F_qb:Fun K "_law_least_with" "_law_least_with" CV A.f_qb A.fd_qb
 B_qb:Binds K A.fd_qb ["_law_order_here","_law_reach_here"] []
 m_qb:mg "_law_least_with" = some (.ref A.f_qb)
 F_qn:Fun K "_law_reach" "_law_reach" CW A.f_qn A.fd_qn
 B_qn:Binds K A.fd_qn ["_law_order_here","_law_seating"] []
 m_qn:mg "_law_reach" = some (.ref A.f_qn)
 F_qe:Fun K "_law_cell_at" "_law_cell_at" CY A.f_qe A.fd_qe
 B_qe:Binds K A.fd_qe ["_law_script","_law_k"] []
 m_qe:mg "_law_cell_at" = some (.ref A.f_qe)
 F_qo:Fun K "_law_state" "_law_state" CZ A.f_qo A.fd_qo
 B_qo:Binds K A.fd_qo ["_law_script","_law_k"] []
 m_qo:mg "_law_state" = some (.ref A.f_qo)
 F_qv:Fun K "_law_take" "_law_take" DB A.f_qv A.fd_qv
 B_qv:Binds K A.fd_qv ["_law_state_here","_law_many"] []
 m_qv:mg "_law_take" = some (.ref A.f_qv)
 F_qp:Fun K "_law_mixed" "_law_mixed" DC A.f_qp A.fd_qp
 B_qp:Binds K A.fd_qp ["_law_state_here","_law_many"] []
 m_qp:mg "_law_mixed" = some (.ref A.f_qp)
 F_qh:Fun K "_law_closed" "_law_closed" DD A.f_qh A.fd_qh
 B_qh:Binds K A.fd_qh ["_law_many","_law_pairs"] []
 m_qh:mg "_law_closed" = some (.ref A.f_qh)
 F_qq:Fun K "_law_order" "_law_order" yF A.f_qq A.fd_qq
 B_qq:Binds K A.fd_qq ["_law_state_here","_law_most"] []
 m_qq:mg "_law_order" = some (.ref A.f_qq)
 F_qw:Fun K "_law_same" "_law_same" yG A.f_qw A.fd_qw
 B_qw:Binds K A.fd_qw ["_law_found","_law_due_here"] []
 m_qw:mg "_law_same" = some (.ref A.f_qw)
 F_qc:Fun K "_law_bad_order" "_law_bad_order" DE A.f_qc A.fd_qc
 B_qc:Binds K A.fd_qc ["_law_state_here"] []
 m_qc:mg "_law_bad_order" = some (.ref A.f_qc)
 F_qf:Fun K "_law_refused" "_law_refused" oJ A.f_qf A.fd_qf
 B_qf:Binds K A.fd_qf ["_law_call"] []
 m_qf:mg "_law_refused" = some (.ref A.f_qf)
 F_q1:Fun K "_law_all" "_law_all" tH A.f_q1 A.fd_q1
 B_q1:Binds K A.fd_q1 ["_law_order_here"] []
 m_q1:mg "_law_all" = some (.ref A.f_q1)
 F_q2:Fun K "_law_due" "_law_due" tJ A.f_q2 A.fd_q2
 B_q2:Binds K A.fd_q2 ["_law_order_here","_law_reach_here"] []
 m_q2:mg "_law_due" = some (.ref A.f_q2)
 F_q6:Fun K "law" "law" tK A.f_q6 A.fd_q6
 B_q6:Binds K A.fd_q6 ["_law_script"] []
 m_q6:mg "law" = some (.ref A.f_q6)
 z_ValueError:mg "ValueError" = none
 z_abs:mg "abs" = none
 z_all:mg "all" = none
 z_any:mg "any" = none
 z_bool:mg "bool" = none
 z_enumerate:mg "enumerate" = none
 z_int:mg "int" = none
 z_isinstance:mg "isinstance" = none
 z_len:mg "len" = none
 z_list:mg "list" = none
 z_max:mg "max" = none
 z_min:mg "min" = none
 z_range:mg "range" = none
 z_set:mg "set" = none
 z_sorted:mg "sorted" = none
 z_tuple:mg "tuple" = none
 z_zip:mg "zip" = none
 c_MOST_THINGS:mg "MOST_THINGS" = some (.int 6 A.t_MOST_THINGS)
 c_MOST_APART:mg "MOST_APART" = some (.int 5 A.t_MOST_APART)
 n_NoOrder:mg "NoOrder" = some (.ref A.c_NoOrder)
 n_NoNumber:mg "NoNumber" = some (.ref A.c_NoNumber)
 n_NoPairs:mg "NoPairs" = some (.ref A.c_NoPairs)
 n_Round:mg "Round" = some (.ref A.c_Round)
 n_NoThing:mg "NoThing" = some (.ref A.c_NoThing)
 n_NoRow:mg "NoRow" = some (.ref A.c_NoRow)
 n_TooMany:mg "TooMany" = some (.ref A.c_TooMany)
 n_TooFew:mg "TooFew" = some (.ref A.c_TooFew)
 n_NoText:mg "NoText" = some (.ref A.c_NoText)
 n_NoLine:mg "NoLine" = some (.ref A.c_NoLine)
 n_NoDeed:mg "NoDeed" = some (.ref A.c_NoDeed)
 n_NoSeating:mg "NoSeating" = some (.ref A.c_NoSeating)
 n_NoRing:mg "NoRing" = some (.ref A.c_NoRing)
 n_NoSizes:mg "NoSizes" = some (.ref A.c_NoSizes)
 ns_NoOrder:qt K du "NoOrder" = some (some (.ref A.c_NoOrder))
 x_NoOrder:pj K A.c_NoOrder rP "ValueError.__new__" = true
 ce_NoOrder:A.c_NoOrder=G.cl 0
 ns_NoNumber:qt K du "NoNumber" = some (some (.ref A.c_NoNumber))
 x_NoNumber:pj K A.c_NoNumber rP "ValueError.__new__" = true
 ce_NoNumber:A.c_NoNumber=G.cl 1
 ktV:∀c b,tblV.lookup c=some b->cu G.K (.ref (G.cl c)) (.type "ValueError")=some b/\ExK G.K (G.cl c)
 kt0:∀c b,tbl0.lookup c=some b->cu G.K (.ref (G.cl c)) (.ref A.c_NoOrder)=some b/\ExK G.K (G.cl c)
 kt1:∀c b,tbl1.lookup c=some b->cu G.K (.ref (G.cl c)) (.ref A.c_NoNumber)=some b/\ExK G.K (G.cl c)
 kt2:∀c b,tbl2.lookup c=some b->cu G.K (.ref (G.cl c)) (.ref A.c_NoPairs)=some b/\ExK G.K (G.cl c)
 kt3:∀c b,tbl3.lookup c=some b->cu G.K (.ref (G.cl c)) (.ref A.c_Round)=some b/\ExK G.K (G.cl c)
 kt4:∀c b,tbl4.lookup c=some b->cu G.K (.ref (G.cl c)) (.ref A.c_NoThing)=some b/\ExK G.K (G.cl c)
 kt5:∀c b,tbl5.lookup c=some b->cu G.K (.ref (G.cl c)) (.ref A.c_NoRow)=some b/\ExK G.K (G.cl c)
 kt6:∀c b,tbl6.lookup c=some b->cu G.K (.ref (G.cl c)) (.ref A.c_TooMany)=some b/\ExK G.K (G.cl c)
 kt7:∀c b,tbl7.lookup c=some b->cu G.K (.ref (G.cl c)) (.ref A.c_TooFew)=some b/\ExK G.K (G.cl c)
 kt8:∀c b,tbl8.lookup c=some b->cu G.K (.ref (G.cl c)) (.ref A.c_NoText)=some b/\ExK G.K (G.cl c)
 kt9:∀c b,tbl9.lookup c=some b->cu G.K (.ref (G.cl c)) (.ref A.c_NoLine)=some b/\ExK G.K (G.cl c)
 kt10:∀c b,tbl10.lookup c=some b->cu G.K (.ref (G.cl c)) (.ref A.c_NoDeed)=some b/\ExK G.K (G.cl c)
 kt11:∀c b,tbl11.lookup c=some b->cu G.K (.ref (G.cl c)) (.ref A.c_NoSeating)=some b/\ExK G.K (G.cl c)
 kt12:∀c b,tbl12.lookup c=some b->cu G.K (.ref (G.cl c)) (.ref A.c_NoRing)=some b/\ExK G.K (G.cl c)
 kt13:∀c b,tbl13.lookup c=some b->cu G.K (.ref (G.cl c)) (.ref A.c_NoSizes)=some b/\ExK G.K (G.cl c)
 n_NearError:mg "NearError" = some (.ref A.NE)
 e1:jl K (.ref A.NE) (.type "BaseException")=some true
 e2:jl K (.type "type") (.type "tuple")=some false
 e3:vm K (.ref A.NE) (.ref A.NE)=some true
 e4:∀c,c<14->jl K (.ref (G.cl c)) (.ref A.NE)=some true
 lq:(("law" : Str) ++ ".<locals>.") ++ "<lambda>" = G.lq
 tab:G.tab=some A.P
 code:A.fd_q6.code=.ref A.cc
theorem LU:(["one","other"]:List Str).Nodup:=by decide +kernel
theorem Y5:(["part","many"]:List Str).Nodup:=by decide +kernel
theorem Y6:(["thing","many"]:List Str).Nodup:=by decide +kernel
theorem yH:(["a","b"]:List Str).Nodup:=by decide +kernel
theorem yI:(["a","b","middle","c","pairs"]:List Str).Nodup:=by decide +kernel
theorem LV:(["thing","many","pairs"]:List Str).Nodup:=by decide +kernel
theorem Y7:(["order","one","other","pairs"]:List Str).Nodup:=by decide +kernel
theorem yJ:(["order","reach","many","pairs","up","aside"]:List Str).Nodup:=by decide +kernel
theorem LW:(["a","b","reach","order","many"]:List Str).Nodup:=by decide +kernel
theorem LX:(["thing","place","needs","places"]:List Str).Nodup:=by decide +kernel
theorem DF:(["a","b","by","places","thing"]:List Str).Nodup:=by decide +kernel
theorem yK:(["order","reach","needs","places","higher"]:List Str).Nodup:=by decide +kernel
theorem Y8:(["_law_place","_law_order_here"]:List Str).Nodup:=by decide +kernel
theorem Y9:(["_law_pair","_law_thing"]:List Str).Nodup:=by decide +kernel
theorem DG:(["_law_order_here","_law_found","_law_a","_law_b"]:List Str).Nodup:=by decide +kernel
theorem nF:(["_law_order_here","_law_reach_here","_law_found","_law_turn","_law_up","_law_a","_law_b"]:List Str).Nodup:=by decide +kernel
theorem DH:(["_law_order_here","_law_seating","_law_far","_law_a","_law_b"]:List Str).Nodup:=by decide +kernel
theorem ZA:(["_law_script","_law_k","_law_cell"]:List Str).Nodup:=by decide +kernel
theorem DI:(["_law_state_here","_law_many","_law_found","_law_stirred"]:List Str).Nodup:=by decide +kernel
theorem LY:(["_law_state_here","_law_many","_law_left","_law_found"]:List Str).Nodup:=by decide +kernel
theorem yL:(["_law_many","_law_pairs","_law_found","_law_middle","_law_a","_law_b"]:List Str).Nodup:=by decide +kernel
theorem kR:(["_law_state_here","_law_most","_law_many","_law_row","_law_way","_law_kind","_law_pairs","_law_at","_law_later","_law_linked"]:List Str).Nodup:=by decide +kernel
theorem ZC:(["_law_thing","_law_state_here"]:List Str).Nodup:=by decide +kernel
theorem LZ:(["_law_one","_law_other"]:List Str).Nodup:=by decide +kernel
theorem DJ:(["_law_state_here","_law_some"]:List Str).Nodup:=by decide +kernel
theorem tL:(["_law_call","_law_error","e","_law_marks"]:List Str).Nodup:=by decide +kernel
theorem ZD:(["_law_k","_law_marks"]:List Str).Nodup:=by decide +kernel
theorem tM:(["_law_order_here","_law_found","_law_turn","_law_longer","_law_some"]:List Str).Nodup:=by decide +kernel
theorem ZE:(["_law_place","_law_some"]:List Str).Nodup:=by decide +kernel
theorem ZF:(["_law_some","_law_order_here"]:List Str).Nodup:=by decide +kernel
theorem ZG:(["_law_order_here","_law_reach_here","_law_some"]:List Str).Nodup:=by decide +kernel
theorem ZH:(["_law_seating","_law_reach_here","_law_order_here"]:List Str).Nodup:=by decide +kernel
theorem ZI:(["_law_thing","_law_some"]:List Str).Nodup:=by decide +kernel
theorem ZJ:(["_law_seating","_law_thing"]:List Str).Nodup:=by decide +kernel
theorem qA:(["_law_script","_law_k","_law_state_here","_law_order_here","_law_reach_here","_law_bad","_law_none"]:List Str).Nodup:=by decide +kernel
section
variable{P:bo}{w:cw}{K:ao}{mg:Str->Option af}{base:cz}{G:Cfg}{A:Ad}
theorem ZK:FnScope ["thing"] ["thing"] (bC CJ):=⟨rfl,rfl,rfl,by decide +kernel,rfl,by decide +kernel,by decide +kernel⟩
theorem ZL (T:Tx K mg G A):FnOk P w K mg base (bR P w base) 1 A.f_qx A.fd_qx ["thing"] (cN G F_qx):=dQ (k:=0) (N:=["thing"]) (mb:=xA) T.F_qx ZK T.hK λcdv Ar outer s H E₀ E g=>(bF (cA (kZ (JL rfl T.z_isinstance rfl T.z_int (aD 0)) (lN (AN (vV rfl T.z_isinstance rfl T.z_bool (aD 0)))))))
theorem ZM:FnScope ["thing","low","high"] ["thing","low","high"] (bC CK):=⟨rfl,rfl,rfl,by decide +kernel,rfl,by decide +kernel,by decide +kernel⟩
theorem DK (T:Tx K mg G A):FnOk P w K mg base (bR P w base) 2 A.f_qi A.fd_qi ["thing","low","high"] (cN G F_qi):=dQ (k:=1) (N:=["thing","low","high"]) (mb:=sW) T.F_qi ZM T.hK λcdv Ar outer s H E₀ E g=>(bF (cA (kZ (cI g (ZL T) (by decide) rfl T.m_qx T.F_qx.kp T.B_qx (aJ (aD 0) aU)) (lN (VV (aD 1) (aD 0) (aD 2))))))
theorem ZN:FnScope ["thing","low","high"] ["thing","low","high"] (bC CL):=⟨rfl,rfl,rfl,by decide +kernel,rfl,by decide +kernel,by decide +kernel⟩
theorem ZO (T:Tx K mg G A):FnOk P w K mg base (bR P w base) 3 A.f_qd A.fd_qd ["thing","low","high"] (cN G F_qd):=dQ (k:=2) (N:=["thing","low","high"]) (mb:=xG) T.F_qd ZN T.hK λcdv Ar outer s H E₀ E g=>(bF (eF (kB (gK (cI g (DK T) (by decide) rfl T.m_qi T.F_qi.kp T.B_qi (aJ (aD 0) (aJ (aD 1) (aJ (aD 2) aU)))))) (bF (TQ (slots:=[1,2]) g rfl T.n_NoNumber T.ns_NoNumber T.x_NoNumber T.ce_NoNumber (PTxs.cons (IG (by decide)) (PTxs.cons (II (qL (i:=1) rfl (by first|exact Al rfl|exact Or.inr (Al rfl)))) (PTxs.cons (IG (by decide)) (PTxs.cons (II (qL (i:=2) rfl (by first|exact Al rfl|exact Or.inr (Al rfl)))) PTxs.nil)))) (λσ hh=>⟨trivial,hh 1 (by decide),trivial,hh 2 (by decide),trivial⟩))) eE))
theorem ZP:FnScope ["parts"] ["parts"] (bC xZ):=⟨rfl,rfl,rfl,by decide +kernel,rfl,by decide +kernel,by decide +kernel⟩
theorem ZQ (T:Tx K mg G A):FnOk P w K mg base (bR P w base) 1 A.f_qr A.fd_qr ["parts"] (cN G F_qr):=dQ (k:=0) (N:=["parts"]) (mb:=CC) T.F_qr ZP T.hK λcdv Ar outer s H E₀ E g=>(bF (cA (pK g.calm rfl T.z_all (iE g.calm (fT (N:=["one","other"]) (cap:=[none,none]) (os:=(bC xZ)) (oN:=["parts"]) rfl rfl rfl (by decide +kernel) rfl (by decide +kernel) (by decide +kernel) (by decide +kernel)) (IU rfl T.z_zip (aJ (aD 0) (aJ (YT (aD 0) (VN bA) VM) aU))) (λs H ex=>(jE (eK g).calm (eG (bY (i:=0) LU rfl (by first|exact .inl rfl|exact .inr rfl)) (eG (bY (i:=1) LU rfl (by first|exact .inl rfl|exact .inr rfl)) jD)))) (λs H ex=>iQ) (λs H ex=>(CA (eK g) (aD 0) (aD 1)))))))
theorem ZR:FnScope ["many","thing"] ["many","thing"] (bC CM):=⟨rfl,rfl,rfl,by decide +kernel,rfl,by decide +kernel,by decide +kernel⟩
theorem ZS (T:Tx K mg G A):FnOk P w K mg base (bR P w base) 3 A.f_qy A.fd_qy ["many","thing"] (cN G F_qy):=dQ (k:=2) (N:=["many","thing"]) (mb:=xB) T.F_qy ZR T.hK λcdv Ar outer s H E₀ E g=>(bF (cA (cI g (DK T) (by decide) rfl T.m_qi T.F_qi.kp T.B_qi (aJ (aD 1) (aJ bA (aJ (oD (aD 0) bA) aU))))))
theorem ZT:FnScope ["many","thing"] ["many","thing"] (bC yA):=⟨rfl,rfl,rfl,by decide +kernel,rfl,by decide +kernel,by decide +kernel⟩
theorem ZU (T:Tx K mg G A):FnOk P w K mg base (bR P w base) 4 A.f_qj A.fd_qj ["many","thing"] (cN G F_qj):=dQ (k:=3) (N:=["many","thing"]) (mb:=sX) T.F_qj ZT T.hK λcdv Ar outer s H E₀ E g=>(bF (cA (kZ (pQ rfl T.z_isinstance rfl T.z_tuple (aD 1)) (lN (pK g.calm rfl T.z_all (iE g.calm (fT (N:=["part","many"]) (cap:=[none,some 0]) (os:=(bC yA)) (oN:=["many","thing"]) rfl rfl rfl (by decide +kernel) rfl (by decide +kernel) (by decide +kernel) (by decide +kernel)) (lB (aD 1)) (λs H ex=>(bY (i:=0) Y5 rfl (by first|exact .inl rfl|exact .inr rfl))) (λs H ex=>iQ) (λs H ex=>(cI (eK g) (ZS T) (by decide) rfl T.m_qy T.F_qy.kp T.B_qy (aJ (aD 1) (aJ (aD 0) aU))))))))))
theorem ZV:FnScope ["many","thing"] ["many","thing"] (bC CN):=⟨rfl,rfl,rfl,by decide +kernel,rfl,by decide +kernel,by decide +kernel⟩
theorem ZW (T:Tx K mg G A):FnOk P w K mg base (bR P w base) 5 A.f_q3 A.fd_q3 ["many","thing"] (cN G F_q3):=dQ (k:=4) (N:=["many","thing"]) (mb:=oI) T.F_q3 ZV T.hK λcdv Ar outer s H E₀ E g=>(bF (cA (kZ (cI g (ZU T) (by decide) rfl T.m_qj T.F_qj.kp T.B_qj (aJ (aD 0) (aJ (aD 1) aU))) (lN (pO g (pR rfl T.z_len (aJ (aD 1) aU)) bA)))))
theorem ZX:FnScope ["many","things"] ["many","things"] (bC yB):=⟨rfl,rfl,rfl,by decide +kernel,rfl,by decide +kernel,by decide +kernel⟩
theorem ZY (T:Tx K mg G A):FnOk P w K mg base (bR P w base) 6 A.f_qs A.fd_qs ["many","things"] (cN G F_qs):=dQ (k:=5) (N:=["many","things"]) (mb:=xC) T.F_qs ZX T.hK λcdv Ar outer s H E₀ E g=>(bF (cA (pK g.calm rfl T.z_all (iE g.calm (fT (N:=["thing","many"]) (cap:=[none,some 0]) (os:=(bC yB)) (oN:=["many","things"]) rfl rfl rfl (by decide +kernel) rfl (by decide +kernel) (by decide +kernel) (by decide +kernel)) (lB (aD 1)) (λs H ex=>(bY (i:=0) Y6 rfl (by first|exact .inl rfl|exact .inr rfl))) (λs H ex=>iQ) (λs H ex=>(cI (eK g) (ZW T) (by decide) rfl T.m_q3 T.F_q3.kp T.B_q3 (aJ (aD 1) (aJ (aD 0) aU))))))))
theorem ZZ:FnScope ["pairs"] ["pairs"] (bC yC):=⟨rfl,rfl,rfl,by decide +kernel,rfl,by decide +kernel,by decide +kernel⟩
theorem Z0 (T:Tx K mg G A):FnOk P w K mg base (bR P w base) 1 A.f_qt A.fd_qt ["pairs"] (cN G F_qt):=dQ (k:=0) (N:=["pairs"]) (mb:=CD) T.F_qt ZZ T.hK λcdv Ar outer s H E₀ E g=>(bF (cA (UE g.calm rfl T.z_any (iE g.calm (fT (N:=["a","b"]) (cap:=[none,none]) (os:=(bC yC)) (oN:=["pairs"]) rfl rfl rfl (by decide +kernel) rfl (by decide +kernel) (by decide +kernel) (by decide +kernel)) (lB (aD 0)) (λs H ex=>(jE (eK g).calm (eG (bY (i:=0) yH rfl (by first|exact .inl rfl|exact .inr rfl)) (eG (bY (i:=1) yH rfl (by first|exact .inl rfl|exact .inr rfl)) jD)))) (λs H ex=>iQ) (λs H ex=>(pO (eK g) (aD 0) (aD 1)))))))
theorem Z1:FnScope ["pairs"] ["pairs"] (bC yD):=⟨rfl,rfl,rfl,by decide +kernel,rfl,by decide +kernel,by decide +kernel⟩
theorem Z2 (T:Tx K mg G A):FnOk P w K mg base (bR P w base) 1 A.f_qg A.fd_qg ["pairs"] (cN G F_qg):=dQ (k:=0) (N:=["pairs"]) (mb:=CF) T.F_qg Z1 T.hK λcdv Ar outer s H E₀ E g=>(bF (cA (pK g.calm rfl T.z_all (S5 g.calm (fT (N:=["a","b","middle","c","pairs"]) (cap:=[none,none,none,none,some 0]) (os:=(bC yD)) (oN:=["pairs"]) rfl rfl rfl (by decide +kernel) rfl (by decide +kernel) (by decide +kernel) (by decide +kernel)) (lB (aD 0)) (λs H ex=>(jE (eK g).calm (eG (bY (i:=0) yI rfl (by first|exact .inl rfl|exact .inr rfl)) (eG (bY (i:=1) yI rfl (by first|exact .inl rfl|exact .inr rfl)) jD)))) (λs H ex=>iQ) (λs H ex=>(lB (aD 4))) (λs H ex=>(jE (eK g).calm (eG (bY (i:=2) yI rfl (by first|exact .inl rfl|exact .inr rfl)) (eG (bY (i:=3) yI rfl (by first|exact .inl rfl|exact .inr rfl)) jD)))) (λs H ex=>(nZ (oF (eK g) (aD 1) (aD 2)))) (λs H ex=>(WV (eK g) (gY (aJ (aD 0) (aJ (aD 3) aU))) (aD 4)))))))
theorem Z3:FnScope ["thing","many","pairs"] ["thing"] (bC CO):=⟨rfl,rfl,rfl,by decide +kernel,rfl,by decide +kernel,by decide +kernel⟩
theorem Z4 (T:Tx K mg G A):FnOk P w K mg base (bR P w base) 7 A.f_qz A.fd_qz ["thing"] (cN G F_qz):=dQ (k:=6) (N:=["thing","many","pairs"]) (mb:=nB) T.F_qz Z3 T.hK λcdv Ar outer s H E₀ E g=>(bE (eF (SndW.t (rF (kB (gK (pQ rfl T.z_isinstance rfl T.z_tuple (aD 0)))) (rD (mW g (pR rfl T.z_len (aJ (aD 0) aU)) bA)))) (bF (cA iA)) eE) (bE (HU (aD 0) (jE g.calm (eG (bY (i:=1) LV rfl (by first|exact .inl rfl|exact .inr rfl)) (eG (bY (i:=2) LV rfl (by first|exact .inl rfl|exact .inr rfl)) jD)))) (bE (eF (SndW.t (rF (kB (gK (cI g (DK T) (by decide) rfl T.m_qi T.F_qi.kp T.B_qi (aJ (aD 1) (aJ bA (aJ (JK rfl T.c_MOST_THINGS) aU)))))) (rD (kB (gK (pQ rfl T.z_isinstance rfl T.z_tuple (aD 2))))))) (bF (cA iA)) eE) (bE (eF (SndW.t (rF (kB (gK (cI g (ZY T) (by decide) rfl T.m_qs T.F_qs.kp T.B_qs (aJ (aD 1) (aJ (aD 2) aU))))) (rD (kB (gK (cI g (ZQ T) (by decide) rfl T.m_qr T.F_qr.kp T.B_qr (aJ (aD 2) aU))))))) (bF (cA iA)) eE) (bF (cA (kZ (AN (cI g (Z0 T) (by decide) rfl T.m_qt T.F_qt.kp T.B_qt (aJ (aD 2) aU))) (lN (cI g (Z2 T) (by decide) rfl T.m_qg T.F_qg.kp T.B_qg (aJ (aD 2) aU))))))))))
theorem Z5:FnScope ["order"] ["order"] (bC CP):=⟨rfl,rfl,rfl,by decide +kernel,rfl,by decide +kernel,by decide +kernel⟩
theorem Z6 (T:Tx K mg G A):FnOk P w K mg base (bR P w base) 8 A.f_qk A.fd_qk ["order"] (cN G F_qk):=dQ (k:=7) (N:=["order"]) (mb:=xH) T.F_qk Z5 T.hK λcdv Ar outer s H E₀ E g=>(bF (eF (kB (gK (cI g (Z4 T) (by decide) rfl T.m_qz T.F_qz.kp T.B_qz (aJ (aD 0) aU)))) (bF (TL g rfl T.n_NoOrder T.ns_NoOrder T.x_NoOrder T.ce_NoOrder (aJ AL aU))) eE))
theorem Z7:FnScope ["order","one","other","pairs"] ["order","one","other"] (bC CQ):=⟨rfl,rfl,rfl,by decide +kernel,rfl,by decide +kernel,by decide +kernel⟩
theorem Z8 (T:Tx K mg G A):FnOk P w K mg base (bR P w base) 1 A.f_qu A.fd_qu ["order","one","other"] (cN G F_qu):=dQ (k:=0) (N:=["order","one","other","pairs"]) (mb:=sZ) T.F_qu Z7 T.hK λcdv Ar outer s H E₀ E g=>(bE (cM (i:=3) Y7 rfl (by first|exact .inl rfl|exact .inr rfl) (cB (aD 0) bA)) (bF (cA (kZ (VS g (aD 1) (aD 2)) (kZ (JU g (gY (aJ (aD 1) (aJ (aD 2) aU))) (aD 3)) (lN (JU g (gY (aJ (aD 2) (aJ (aD 1) aU))) (aD 3))))))))
theorem Z9:FnScope ["order","reach","many","pairs","up","aside"] ["order","reach"] (bC tF):=⟨rfl,rfl,rfl,by decide +kernel,rfl,by decide +kernel,by decide +kernel⟩
theorem a9 (T:Tx K mg G A):FnOk P w K mg base (bR P w base) 2 A.f_q0 A.fd_q0 ["order","reach"] (cN G F_q0):=dQ (k:=1) (N:=["order","reach","many","pairs","up","aside"]) (mb:=xI) T.F_q0 Z9 T.hK λcdv Ar outer s H E₀ E g=>(bE (HU (aD 0) (jE g.calm (eG (bY (i:=2) yJ rfl (by first|exact .inl rfl|exact .inr rfl)) (eG (bY (i:=3) yJ rfl (by first|exact .inl rfl|exact .inr rfl)) jD)))) (bE (JX (i:=4) yJ rfl g.calm (fT (N:=["a","b"]) (cap:=[none,none]) (os:=(bC tF)) (oN:=["order","reach","many","pairs","up","aside"]) rfl rfl rfl (by decide +kernel) rfl (by decide +kernel) (by decide +kernel) (by decide +kernel)) (lB (aD 3)) (λs H ex=>(jE (eK g).calm (eG (bY (i:=0) yH rfl (by first|exact .inl rfl|exact .inr rfl)) (eG (bY (i:=1) yH rfl (by first|exact .inl rfl|exact .inr rfl)) jD)))) (λs H ex=>iQ) (λs H ex=>(gY (aJ (aD 0) (aJ (aD 1) (aJ bA aU)))))) (bE (WW (i:=5) yJ rfl g.calm (fT (N:=["a","b","reach","order","many"]) (cap:=[none,none,some 1,some 0,some 2]) (os:=(bC tF)) (oN:=["order","reach","many","pairs","up","aside"]) rfl rfl rfl (by decide +kernel) rfl (by decide +kernel) (by decide +kernel) (by decide +kernel)) (iO rfl T.z_range (aJ (aD 2) aU)) (λs H ex=>(bY (i:=0) LW rfl (by first|exact .inl rfl|exact .inr rfl))) (λs H ex=>iQ) (λs H ex=>(iO rfl T.z_range (aJ (aD 4) aU))) (λs H ex=>(bY (i:=1) LW rfl (by first|exact .inl rfl|exact .inr rfl))) (λs H ex=>(nZ (gK (cI (eK g) (Z8 T) (by decide) rfl T.m_qu T.F_qu.kp T.B_qu (aJ (aD 3) (aJ (aD 0) (aJ (aD 1) aU))))))) (λs H ex=>(gY (aJ (aD 0) (aJ (aD 1) (aJ (BE (aD 2)) aU)))))) (bF (cA (gO (aD 4) (aD 5)))))))
theorem b9:FnScope ["places","needs"] ["places","needs"] (bC yE):=⟨rfl,rfl,rfl,by decide +kernel,rfl,by decide +kernel,by decide +kernel⟩
theorem c6 (T:Tx K mg G A):FnOk P w K mg base (bR P w base) 1 A.f_q4 A.fd_q4 ["places","needs"] (cN G F_q4):=dQ (k:=0) (N:=["places","needs"]) (mb:=xJ) T.F_q4 b9 T.hK λcdv Ar outer s H E₀ E g=>(bF (cA (nY (iE g.calm (fT (N:=["thing","place","needs","places"]) (cap:=[none,none,some 1,some 0]) (os:=(bC yE)) (oN:=["places","needs"]) rfl rfl rfl (by decide +kernel) rfl (by decide +kernel) (by decide +kernel) (by decide +kernel)) (WM rfl T.z_enumerate (aJ (aD 0) aU)) (λs H ex=>(jE (eK g).calm (eG (bY (i:=0) LX rfl (by first|exact .inl rfl|exact .inr rfl)) (eG (bY (i:=1) LX rfl (by first|exact .inl rfl|exact .inr rfl)) jD)))) (λs H ex=>iQ) (λs H ex=>(vY (eK g).calm rfl T.z_max (aJ (gO (fZ (aJ (aD 1) aU)) (nY (iE (eK g).calm (fT (N:=["a","b","by","places","thing"]) (cap:=[none,none,none,some 3,some 0]) (os:={ kind:=.function,names:=[(".0",.local),("thing",.cell),("place",.local),("max",.globalImplicit),("needs",.cell),("places",.cell)],isGenerator:=false,isCoroutine:=false }) (oN:=["thing","place","needs","places"]) rfl rfl rfl (by decide +kernel) rfl (by decide +kernel) (by decide +kernel) (by decide +kernel)) (nX (aD 2)) (λs H ex=>(jE (eK (eK g)).calm (eG (bY (i:=0) DF rfl (by first|exact .inl rfl|exact .inr rfl)) (eG (bY (i:=1) DF rfl (by first|exact .inl rfl|exact .inr rfl)) (eG (bY (i:=2) DF rfl (by first|exact .inl rfl|exact .inr rfl)) jD))))) (λs H ex=>(nZ (oF (eK (eK g)) (aD 1) (aD 4)))) (λs H ex=>(gO (cB (aD 3) (aD 0)) (aD 2)))))) aU)))))))
theorem c7:FnScope ["order","reach","needs","places","higher"] ["order","reach"] (bC CS):=⟨rfl,rfl,rfl,by decide +kernel,rfl,by decide +kernel,by decide +kernel⟩
theorem DL (T:Tx K mg G A):FnOk P w K mg base (bR P w base) 9 A.f_q5 A.fd_q5 ["order","reach"] (cN G F_q5):=dQ (k:=8) (N:=["order","reach","needs","places","higher"]) (mb:=pZ) T.F_q5 c7 T.hK λcdv Ar outer s H E₀ E g=>(bE (mK (cI g (Z6 T) (by decide) rfl T.m_qk T.F_qk.kp T.B_qk (aJ (aD 0) aU))) (bE (mK (cI g (ZO T) (by decide) rfl T.m_qd T.F_qd.kp T.B_qd (aJ (aD 1) (aJ bA (aJ (JK rfl T.c_MOST_APART) aU))))) (bE (cM (i:=2) yK rfl (by first|exact .inl rfl|exact .inr rfl) (cI g (a9 T) (by decide) rfl T.m_q0 T.F_q0.kp T.B_q0 (aJ (aD 0) (aJ (aD 1) aU)))) (bE (cM (i:=3) yK rfl (by first|exact .inl rfl|exact .inr rfl) (JP (kQ 2) (cB (aD 0) bA))) (bE (JG 40 g.own (LM g (vY g.calm rfl T.z_max (aJ (aD 3) aU)) (cB (aD 0) bA)) (bE (cM (i:=4) yK rfl (by first|exact .inl rfl|exact .inr rfl) (cI g (c6 T) (by decide) rfl T.m_q4 T.F_q4.kp T.B_q4 (aJ (aD 3) (aJ (aD 2) aU)))) (bE (eF (oF g (aD 4) (aD 3)) (bF (cA (vC rfl T.z_tuple (aJ (aD 3) aU)))) eE) (bF (cM (i:=3) yK rfl (by first|exact .inl rfl|exact .inr rfl) (aD 4)))))) (bF (cA nM)))))))
theorem c8:FnScope ["_law_thing"] ["_law_thing"] (bC CT):=⟨rfl,rfl,rfl,by decide +kernel,rfl,by decide +kernel,by decide +kernel⟩
theorem c9 (T:Tx K mg G A):FnOk P w K mg base (bR P w base) 1 A.f_ql A.fd_ql ["_law_thing"] (cN G F_ql):=dQ (k:=0) (N:=["_law_thing"]) (mb:=CI) T.F_ql c8 T.hK λcdv Ar outer s H E₀ E g=>(bF (cA (kZ (JL rfl T.z_isinstance rfl T.z_int (aD 0)) (lN (AN (vV rfl T.z_isinstance rfl T.z_bool (aD 0)))))))
theorem d3:FnScope ["_law_order_here","_law_thing"] ["_law_order_here","_law_thing"] (bC tG):=⟨rfl,rfl,rfl,by decide +kernel,rfl,by decide +kernel,by decide +kernel⟩
theorem d4 (T:Tx K mg G A):FnOk P w K mg base (bR P w base) 2 A.f_qa A.fd_qa ["_law_order_here","_law_thing"] (cN G F_qa):=dQ (k:=1) (N:=["_law_order_here","_law_thing"]) (mb:=xT) T.F_qa d3 T.hK λcdv Ar outer s H E₀ E g=>(bE (eF (SndW.t (rF (kB (gK (pQ rfl T.z_isinstance rfl T.z_tuple (aD 1)))) (rD (mW g (pR rfl T.z_len (aJ (aD 1) aU)) (cB (aD 0) bA))))) (bF (cA iA)) eE) (bE (eF (kB (gK (pK g.calm rfl T.z_all (iE g.calm (fT (N:=["_law_place","_law_order_here"]) (cap:=[none,some 0]) (os:=(bC tG)) (oN:=["_law_order_here","_law_thing"]) rfl rfl rfl (by decide +kernel) rfl (by decide +kernel) (by decide +kernel) (by decide +kernel)) (lB (aD 1)) (λs H ex=>(bY (i:=0) Y8 rfl (by first|exact .inl rfl|exact .inr rfl))) (λs H ex=>iQ) (λs H ex=>(kZ (cI (eK g) (c9 T) (by decide) rfl T.m_ql T.F_ql.kp T.B_ql (aJ (aD 0) aU)) (lN (VW bA (aD 0) (cB (aD 1) bA))))))))) (bF (cA iA)) eE) (bF (cA (pO g (nY (iE g.calm (fT (N:=["_law_pair","_law_thing"]) (cap:=[none,some 1]) (os:=(bC tG)) (oN:=["_law_order_here","_law_thing"]) rfl rfl rfl (by decide +kernel) rfl (by decide +kernel) (by decide +kernel) (by decide +kernel)) (lB (cB (aD 0) bA)) (λs H ex=>(bY (i:=0) Y9 rfl (by first|exact .inl rfl|exact .inr rfl))) (λs H ex=>(nZ (BF (cB (aD 1) (cB (aD 0) bA)) (cB (aD 1) (cB (aD 0) bA))))) (λs H ex=>(aD 0)))) (fZ aU))))))
theorem d6:FnScope ["_law_order_here","_law_found","_law_a","_law_b"] ["_law_order_here"] (bC CU):=⟨rfl,rfl,rfl,by decide +kernel,rfl,by decide +kernel,by decide +kernel⟩
theorem L0 (T:Tx K mg G A):FnOk P w K mg base (bR P w base) 1 A.f_qm A.fd_qm ["_law_order_here"] (cN G F_qm):=dQ (k:=0) (N:=["_law_order_here","_law_found","_law_a","_law_b"]) (mb:=xO) T.F_qm d6 T.hK λcdv Ar outer s H E₀ E g=>(bE (cM (i:=1) DG rfl (by first|exact .inl rfl|exact .inr rfl) (fZ aU)) (bE (iD g.own g.calm (iO rfl T.z_range (aJ (cB (aD 0) bA) aU)) (bY (i:=2) DG rfl (by first|exact .inl rfl|exact .inr rfl)) (bF (iD g.own g.calm (HV rfl T.z_range (aJ (gO (aD 2) bA) (aJ (cB (aD 0) bA) aU))) (bY (i:=3) DG rfl (by first|exact .inl rfl|exact .inr rfl)) (bF (eF (SndW.t (AM (BK g (gY (aJ (aD 2) (aJ (aD 3) aU))) (cB (aD 0) bA)) (HC (BK g (gY (aJ (aD 3) (aJ (aD 2) aU))) (cB (aD 0) bA))))) (bF (mK (rR (aD 1) (gY (aJ (aD 2) (aJ (aD 3) aU)))))) eE))))) (bF (cA (aD 1)))))
theorem d7:FnScope ["_law_order_here","_law_reach_here","_law_found","_law_turn","_law_up","_law_a","_law_b"] ["_law_order_here","_law_reach_here"] (bC CV):=⟨rfl,rfl,rfl,by decide +kernel,rfl,by decide +kernel,by decide +kernel⟩
theorem d8 (T:Tx K mg G A):FnOk P w K mg base (bR P w base) 2 A.f_qb A.fd_qb ["_law_order_here","_law_reach_here"] (cN G F_qb):=dQ (k:=1) (N:=["_law_order_here","_law_reach_here","_law_found","_law_turn","_law_up","_law_a","_law_b"]) (mb:=LO) T.F_qb d7 T.hK λcdv Ar outer s H E₀ E g=>(bE (cM (i:=2) nF rfl (by first|exact .inl rfl|exact .inr rfl) (JP (kQ 2) (cB (aD 0) bA))) (bE (iD g.own g.calm (iO rfl T.z_range (aJ (gO (pN (cB (aD 0) bA) (cB (aD 0) bA)) bA) aU)) (bY (i:=3) nF rfl (by first|exact .inl rfl|exact .inr rfl)) (bE (cM (i:=4) nF rfl (by first|exact .inl rfl|exact .inr rfl) (JO rfl T.z_list (aJ (aD 2) aU))) (bE (iD g.own g.calm (lB (cB (aD 0) bA)) (jE g.calm (eG (bY (i:=5) nF rfl (by first|exact .inl rfl|exact .inr rfl)) (eG (bY (i:=6) nF rfl (by first|exact .inl rfl|exact .inr rfl)) jD))) (bF (rT (aD 4) (aD 6) (rL g.calm rfl T.z_max (aJ (cB (aD 4) (aD 6)) (aJ (gO (cB (aD 2) (aD 5)) bA) aU)))))) (bE (iD g.own g.calm (nX (cI g (L0 T) (by decide) rfl T.m_qm T.F_qm.kp T.B_qm (aJ (aD 0) aU))) (jE g.calm (eG (bY (i:=5) nF rfl (by first|exact .inl rfl|exact .inr rfl)) (eG (bY (i:=6) nF rfl (by first|exact .inl rfl|exact .inr rfl)) jD))) (bE (rT (aD 4) (aD 5) (rL g.calm rfl T.z_max (aJ (cB (aD 4) (aD 5)) (aJ (oD (cB (aD 2) (aD 6)) (aD 1)) aU)))) (bF (rT (aD 4) (aD 6) (rL g.calm rfl T.z_max (aJ (cB (aD 4) (aD 6)) (aJ (oD (cB (aD 2) (aD 5)) (aD 1)) aU))))))) (bE (eF (oF g (aD 4) (aD 2)) (bF (cA (vC rfl T.z_tuple (aJ (aD 2) aU)))) eE) (bE (cM (i:=2) nF rfl (by first|exact .inl rfl|exact .inr rfl) (aD 4)) (bF (eF (BF (vY g.calm rfl T.z_max (aJ (aD 2) aU)) (cB (aD 0) bA)) (bF (cA nM)) eE)))))))) (bF (cA nM))))
theorem d9:FnScope ["_law_order_here","_law_seating","_law_far","_law_a","_law_b"] ["_law_order_here","_law_seating"] (bC CW):=⟨rfl,rfl,rfl,by decide +kernel,rfl,by decide +kernel,by decide +kernel⟩
theorem h8 (T:Tx K mg G A):FnOk P w K mg base (bR P w base) 2 A.f_qn A.fd_qn ["_law_order_here","_law_seating"] (cN G F_qn):=dQ (k:=1) (N:=["_law_order_here","_law_seating","_law_far","_law_a","_law_b"]) (mb:=xU) T.F_qn d9 T.hK λcdv Ar outer s H E₀ E g=>(bE (cM (i:=2) DH rfl (by first|exact .inl rfl|exact .inr rfl) (kQ 2)) (bE (iD g.own g.calm (nX (cI g (L0 T) (by decide) rfl T.m_qm T.F_qm.kp T.B_qm (aJ (aD 0) aU))) (jE g.calm (eG (bY (i:=3) DH rfl (by first|exact .inl rfl|exact .inr rfl)) (eG (bY (i:=4) DH rfl (by first|exact .inl rfl|exact .inr rfl)) jD))) (bF (mK (rR (aD 2) (SQ rfl T.z_abs (aJ (oD (cB (aD 1) (aD 3)) (cB (aD 1) (aD 4))) aU)))))) (bF (cA (vY g.calm rfl T.z_max (aJ (aD 2) aU))))))
theorem h9:FnScope ["_law_script","_law_k"] ["_law_script","_law_k"] (bC CY):=⟨rfl,rfl,rfl,by decide +kernel,rfl,by decide +kernel,by decide +kernel⟩
theorem i0 (T:Tx K mg G A):FnOk P w K mg base (bR P w base) 1 A.f_qe A.fd_qe ["_law_script","_law_k"] (cN G (F_qe G.scr)):=dQ (k:=0) (N:=["_law_script","_law_k"]) (mb:=(xD G.scr)) T.F_qe h9 T.hK λcdv Ar outer s H E₀ E g=>(bE (eF (LM g (aD 1) (HQ rfl T.z_len (aJ (aD 0) aU))) (bF (cA (SK (aD 0) (aD 1)))) eE) (bF (cA bA)))
theorem i6:FnScope ["_law_script","_law_k","_law_cell"] ["_law_script","_law_k"] (bC CZ):=⟨rfl,rfl,rfl,by decide +kernel,rfl,by decide +kernel,by decide +kernel⟩
theorem i7 (T:Tx K mg G A):FnOk P w K mg base (bR P w base) 2 A.f_qo A.fd_qo ["_law_script","_law_k"] (cN G (F_qo G.scr)):=dQ (k:=1) (N:=["_law_script","_law_k","_law_cell"]) (mb:=(xE G.scr)) T.F_qo i6 T.hK λcdv Ar outer s H E₀ E g=>(bE (cM (i:=2) ZA rfl (by first|exact .inl rfl|exact .inr rfl) (cI g (i0 T) (by decide) rfl T.m_qe T.F_qe.kp T.B_qe (aJ (aD 0) (aJ (aD 1) aU)))) (bE (eF (BF (aD 2) (BD bA bA)) (bF (cA (fZ (aJ (oD (aD 2) (BD bA bA)) (aJ iA aU))))) eE) (bF (cA (fZ (aJ (oE (aD 2) bA) (aJ iA aU)))))))
theorem i8:FnScope ["_law_state_here","_law_many","_law_found","_law_stirred"] ["_law_state_here","_law_many"] (bC DB):=⟨rfl,rfl,rfl,by decide +kernel,rfl,by decide +kernel,by decide +kernel⟩
theorem oK (T:Tx K mg G A):FnOk P w K mg base (bR P w base) 1 A.f_qv A.fd_qv ["_law_state_here","_law_many"] (cN G F_qv):=dQ (k:=0) (N:=["_law_state_here","_law_many","_law_found","_law_stirred"]) (mb:=xF) T.F_qv i8 T.hK λcdv Ar outer s H E₀ E g=>(bE (eF (gK (cB (aD 0) bA)) (bE (cM (i:=2) DI rfl (by first|exact .inl rfl|exact .inr rfl) (oE (cB (aD 0) bA) (aD 1))) (bE (rT (aD 0) bA (JS (cB (aD 0) bA) (aD 1))) (bF (cA (aD 2))))) eE) (bE (rT (aD 0) bA (oE (gO (pN (cB (aD 0) bA) bA) bA) bA)) (bE (cM (i:=3) DI rfl (by first|exact .inl rfl|exact .inr rfl) (oE (gO (gO (pN (cB (aD 0) bA) (cB (aD 0) bA)) (pN bA (cB (aD 0) bA))) bA) bA)) (bE (cM (i:=3) DI rfl (by first|exact .inl rfl|exact .inr rfl) (oE (gO (pN (aD 3) (aD 3)) (pN bA (aD 3))) bA)) (bF (cA (oE (JS (aD 3) bA) (aD 1))))))))
theorem i9:FnScope ["_law_state_here","_law_many","_law_left","_law_found"] ["_law_state_here","_law_many"] (bC DC):=⟨rfl,rfl,rfl,by decide +kernel,rfl,by decide +kernel,by decide +kernel⟩
theorem j3 (T:Tx K mg G A):FnOk P w K mg base (bR P w base) 2 A.f_qp A.fd_qp ["_law_state_here","_law_many"] (cN G F_qp):=dQ (k:=1) (N:=["_law_state_here","_law_many","_law_left","_law_found"]) (mb:=xK) T.F_qp i9 T.hK λcdv Ar outer s H E₀ E g=>(bE (cM (i:=2) LY rfl (by first|exact .inl rfl|exact .inr rfl) (YW g rfl T.z_list rfl T.z_range (aJ (aD 1) aU))) (bE (cM (i:=3) LY rfl (by first|exact .inl rfl|exact .inr rfl) (fZ aU)) (bE (JG 40 g.own (mW g (aD 2) (fZ aU)) (bF (mK (rR (aD 3) (VJ (aD 2) (cI g (oK T) (by decide) rfl T.m_qv T.F_qv.kp T.B_qv (aJ (aD 0) (aJ (pR rfl T.z_len (aJ (aD 2) aU)) aU)))))))) (bF (cA (vC rfl T.z_tuple (aJ (aD 3) aU)))))))
theorem j5:FnScope ["_law_many","_law_pairs","_law_found","_law_middle","_law_a","_law_b"] ["_law_many","_law_pairs"] (bC DD):=⟨rfl,rfl,rfl,by decide +kernel,rfl,by decide +kernel,by decide +kernel⟩
theorem j6 (T:Tx K mg G A):FnOk P w K mg base (bR P w base) 1 A.f_qh A.fd_qh ["_law_many","_law_pairs"] (cN G F_qh):=dQ (k:=0) (N:=["_law_many","_law_pairs","_law_found","_law_middle","_law_a","_law_b"]) (mb:=xM) T.F_qh j5 T.hK λcdv Ar outer s H E₀ E g=>(bE (cM (i:=2) yL rfl (by first|exact .inl rfl|exact .inr rfl) (JO rfl T.z_list (aJ (aD 1) aU))) (bE (iD g.own g.calm (iO rfl T.z_range (aJ (aD 0) aU)) (bY (i:=3) yL rfl (by first|exact .inl rfl|exact .inr rfl)) (bF (iD g.own g.calm (iO rfl T.z_range (aJ (aD 0) aU)) (bY (i:=4) yL rfl (by first|exact .inl rfl|exact .inr rfl)) (bF (iD g.own g.calm (iO rfl T.z_range (aJ (aD 0) aU)) (bY (i:=5) yL rfl (by first|exact .inl rfl|exact .inr rfl)) (bF (eF (SndW.t (AM (JV g (gY (aJ (aD 4) (aJ (aD 3) aU))) (aD 2)) (AM (JV g (gY (aJ (aD 3) (aJ (aD 5) aU))) (aD 2)) (HC (BK g (gY (aJ (aD 4) (aJ (aD 5) aU))) (aD 2)))))) (bF (mK (rR (aD 2) (gY (aJ (aD 4) (aJ (aD 5) aU)))))) eE))))))) (bF (cA (vC rfl T.z_tuple (aJ (YZ g rfl T.z_sorted rfl T.z_set (aJ (aD 2) aU)) aU))))))
theorem j7:FnScope ["_law_state_here","_law_most","_law_many","_law_row","_law_way","_law_kind","_law_pairs","_law_at","_law_later","_law_linked"] ["_law_state_here","_law_most"] (bC yF):=⟨rfl,rfl,rfl,by decide +kernel,rfl,by decide +kernel,by decide +kernel⟩
theorem j8 (T:Tx K mg G A):FnOk P w K mg base (bR P w base) 3 A.f_qq A.fd_qq ["_law_state_here","_law_most"] (cN G F_qq):=dQ (k:=2) (N:=["_law_state_here","_law_most","_law_many","_law_row","_law_way","_law_kind","_law_pairs","_law_at","_law_later","_law_linked"]) (mb:=xN) T.F_qq j7 T.hK λcdv Ar outer s H E₀ E g=>(bE (cM (i:=2) kR rfl (by first|exact .inl rfl|exact .inr rfl) (oD (aD 1) (cB (fZ (aJ bA (aJ bA (aJ bA (aJ bA (aJ bA (aJ bA (aJ bA (aJ (oD (aD 1) bA) aU))))))))) (cI g (oK T) (by decide) rfl T.m_qv T.F_qv.kp T.B_qv (aJ (aD 0) (aJ bA aU)))))) (bE (cM (i:=2) kR rfl (by first|exact .inl rfl|exact .inr rfl) (rL g.calm rfl T.z_max (aJ bA (aJ (aD 2) aU)))) (bE (cM (i:=3) kR rfl (by first|exact .inl rfl|exact .inr rfl) (cI g (j3 T) (by decide) rfl T.m_qp T.F_qp.kp T.B_qp (aJ (aD 0) (aJ (aD 2) aU)))) (bE (cM (i:=4) kR rfl (by first|exact .inl rfl|exact .inr rfl) (cI g (oK T) (by decide) rfl T.m_qv T.F_qv.kp T.B_qv (aJ (aD 0) (aJ bA aU)))) (bE (JX (i:=5) kR rfl g.calm (fT (N:=["_law_thing","_law_state_here"]) (cap:=[none,some 0]) (os:=(bC yF)) (oN:=["_law_state_here","_law_most","_law_many","_law_row","_law_way","_law_kind","_law_pairs","_law_at","_law_later","_law_linked"]) rfl rfl rfl (by decide +kernel) rfl (by decide +kernel) (by decide +kernel) (by decide +kernel)) (lB (aD 3)) (λs H ex=>(bY (i:=0) ZC rfl (by first|exact .inl rfl|exact .inr rfl))) (λs H ex=>iQ) (λs H ex=>(cI (eK g) (oK T) (by decide) rfl T.m_qv T.F_qv.kp T.B_qv (aJ (aD 1) (aJ bA aU))))) (bE (cM (i:=6) kR rfl (by first|exact .inl rfl|exact .inr rfl) (fZ aU)) (bE (iD g.own g.calm (iO rfl T.z_range (aJ (aD 2) aU)) (bY (i:=7) kR rfl (by first|exact .inl rfl|exact .inr rfl)) (bF (iD g.own g.calm (HV rfl T.z_range (aJ (gO (aD 7) bA) (aJ (aD 2) aU))) (bY (i:=8) kR rfl (by first|exact .inl rfl|exact .inr rfl)) (bE (cM (i:=9) kR rfl (by first|exact .inl rfl|exact .inr rfl) (CA g (cI g (oK T) (by decide) rfl T.m_qv T.F_qv.kp T.B_qv (aJ (aD 0) (aJ bA aU))) (cB (kQ 2) (oE (aD 4) bA)))) (bE (eF (oF g (aD 4) bA) (bF (cM (i:=9) kR rfl (by first|exact .inl rfl|exact .inr rfl) (pO g (cB (aD 5) (aD 7)) (cB (aD 5) (aD 8))))) eE) (bE (eF (oF g (aD 4) bA) (bF (cM (i:=9) kR rfl (by first|exact .inl rfl|exact .inr rfl) (CA g (cB (aD 5) (aD 7)) (cB (aD 5) (aD 8))))) eE) (bF (eF (gK (aD 9)) (bF (mK (rR (aD 6) (gY (aJ (cB (aD 3) (aD 7)) (aJ (cB (aD 3) (aD 8)) aU)))))) eE)))))))) (bF (cA (gY (aJ (aD 2) (aJ (cI g (j6 T) (by decide) rfl T.m_qh T.F_qh.kp T.B_qh (aJ (aD 2) (aJ (aD 6) aU))) aU))))))))))))
theorem j9:FnScope ["_law_found","_law_due_here"] ["_law_found","_law_due_here"] (bC yG):=⟨rfl,rfl,rfl,by decide +kernel,rfl,by decide +kernel,by decide +kernel⟩
theorem L6 (T:Tx K mg G A):∀n,FnOk P w K mg base (bR P w base) n A.f_qw A.fd_qw ["_law_found","_law_due_here"] (cN G (F_qw n))
 |0=>V9
 |n+1=>by have okS:=L6 T n;exact dQ (N:=["_law_found","_law_due_here"]) (mb:=sY (F_qw n)) T.F_qw j9 T.hK λcdv Ar outer s H E₀ E g=>(bE (eF (gK (V6 rfl T.z_isinstance rfl T.z_tuple rfl T.z_list (aD 1))) (bE (eF (SndW.t (rF (mW g (pQ rfl T.z_isinstance rfl T.z_tuple (aD 0)) (pQ rfl T.z_isinstance rfl T.z_tuple (aD 1))) (rD (mW g (JM rfl T.z_isinstance rfl T.z_list (aD 0)) (JM rfl T.z_isinstance rfl T.z_list (aD 1)))))) (bF (cA iA)) eE) (bE (eF (mW g (pR rfl T.z_len (aJ (aD 0) aU)) (pR rfl T.z_len (aJ (aD 1) aU))) (bF (cA iA)) eE) (bF (cA (pK g.calm rfl T.z_all (iE g.calm (fT (N:=["_law_one","_law_other"]) (cap:=[none,none]) (os:=(bC yG)) (oN:=["_law_found","_law_due_here"]) rfl rfl rfl (by decide +kernel) rfl (by decide +kernel) (by decide +kernel) (by decide +kernel)) (IU rfl T.z_zip (aJ (aD 0) (aJ (aD 1) aU))) (λs H ex=>(jE (eK g).calm (eG (bY (i:=0) LZ rfl (by first|exact .inl rfl|exact .inr rfl)) (eG (bY (i:=1) LZ rfl (by first|exact .inl rfl|exact .inr rfl)) jD)))) (λs H ex=>iQ) (λs H ex=>(cI (eK g) okS (aj _) rfl T.m_qw T.F_qw.kp T.B_qw (aJ (aD 0) (aJ (aD 1) aU)))))))))) eE) (bF (cA (kZ (pO g (aD 0) (aD 1)) (lN (pO g (vV rfl T.z_isinstance rfl T.z_bool (aD 0)) (vV rfl T.z_isinstance rfl T.z_bool (aD 1))))))))
theorem k6:FnScope ["_law_state_here","_law_some"] ["_law_state_here"] (bC DE):=⟨rfl,rfl,rfl,by decide +kernel,rfl,by decide +kernel,by decide +kernel⟩
theorem k7 (T:Tx K mg G A):FnOk P w K mg base (bR P w base) 2 A.f_qc A.fd_qc ["_law_state_here"] (cN G F_qc):=Y3 (k:=1) (N:=["_law_state_here","_law_some"]) (mb:=xP) T.F_qc k6 T.hK λcdv Ar outer s H E₀ E g=>(CH (Y2 5 (i:=1) DJ rfl (by first|exact .inl rfl|exact .inr rfl)) (CH (LQ 5 (i:=1) DJ rfl (by first|exact .inl rfl|exact .inr rfl) (aD 1)) (CH (LQ 5 (i:=1) DJ rfl (by first|exact .inl rfl|exact .inr rfl) (aD 1)) (Y1 (SW.mk (cA (cB (aD 1) (cI g (oK T) (by decide) rfl T.m_qv T.F_qv.kp T.B_qv (aJ (aD 0) (aJ bA aU))))))))))
theorem k8:FnScope ["_law_call","_law_error","e","_law_marks"] ["_law_call"] (bC oJ):=⟨rfl,rfl,rfl,by decide +kernel,rfl,by decide +kernel,by decide +kernel⟩
theorem k9 {k:Nat}(T:Tx K mg G A) (cdv:af) (Ar:cx) (outer:List Env) (s:ag) (H:Hp) (E₀ E:XK) (g:Good (fS (bR P w base) P w K mg base ["_law_call","_law_error","e","_law_marks"] "_law_refused" (bC oJ) A.f_qf cdv Ar outer s H E₀) G E k):jC (fS (bR P w base) P w K mg base ["_law_call","_law_error","e","_law_marks"] "_law_refused" (bC oJ) A.f_qf cdv Ar outer s H E₀) G E ((jZ oJ).drop 2) jK:=(bE (cM (i:=3) tL rfl (by first|exact .inl rfl|exact .inr rfl) (fZ (aJ (iT rfl T.z_isinstance rfl T.n_NoOrder (aD 1) (λ_ h=>by cases h) T.kt0) (aJ (iT rfl T.z_isinstance rfl T.n_NoNumber (aD 1) (λ_ h=>by cases h) T.kt1) (aJ (iT rfl T.z_isinstance rfl T.n_NoPairs (aD 1) (λ_ h=>by cases h) T.kt2) aU))))) (bE (cM (i:=3) tL rfl (by first|exact .inl rfl|exact .inr rfl) (gO (aD 3) (fZ (aJ (iT rfl T.z_isinstance rfl T.n_Round (aD 1) (λ_ h=>by cases h) T.kt3) (aJ (iT rfl T.z_isinstance rfl T.n_NoThing (aD 1) (λ_ h=>by cases h) T.kt4) (aJ (iT rfl T.z_isinstance rfl T.n_NoRow (aD 1) (λ_ h=>by cases h) T.kt5) aU)))))) (bE (cM (i:=3) tL rfl (by first|exact .inl rfl|exact .inr rfl) (gO (aD 3) (fZ (aJ (iT rfl T.z_isinstance rfl T.n_TooMany (aD 1) (λ_ h=>by cases h) T.kt6) (aJ (iT rfl T.z_isinstance rfl T.n_TooFew (aD 1) (λ_ h=>by cases h) T.kt7) (aJ (iT rfl T.z_isinstance rfl T.n_NoText (aD 1) (λ_ h=>by cases h) T.kt8) aU)))))) (bE (cM (i:=3) tL rfl (by first|exact .inl rfl|exact .inr rfl) (gO (aD 3) (fZ (aJ (iT rfl T.z_isinstance rfl T.n_NoLine (aD 1) (λ_ h=>by cases h) T.kt9) (aJ (iT rfl T.z_isinstance rfl T.n_NoDeed (aD 1) (λ_ h=>by cases h) T.kt10) (aJ (iT rfl T.z_isinstance rfl T.n_NoSeating (aD 1) (λ_ h=>by cases h) T.kt11) aU)))))) (bE (cM (i:=3) tL rfl (by first|exact .inl rfl|exact .inr rfl) (gO (aD 3) (fZ (aJ (iT rfl T.z_isinstance rfl T.n_NoRing (aD 1) (λ_ h=>by cases h) T.kt12) (aJ (iT rfl T.z_isinstance rfl T.n_NoSizes (aD 1) (λ_ h=>by cases h) T.kt13) aU))))) (bE (eF (kB (gK (V7 rfl T.z_isinstance rfl T.z_ValueError (aD 1) (λ_ h=>by cases h) T.ktV))) (bF (cA nM)) eE) (bF (cA (nY (iE g.calm (fT (N:=["_law_k","_law_marks"]) (cap:=[none,some 3]) (os:=(bC oJ)) (oN:=["_law_call","_law_error","e","_law_marks"]) rfl rfl rfl (by decide +kernel) rfl (by decide +kernel) (by decide +kernel) (by decide +kernel)) (iO rfl T.z_range (aJ bA aU)) (λs H ex=>(bY (i:=0) ZD rfl (by first|exact .inl rfl|exact .inr rfl))) (λs H ex=>(nZ (gK (cB (aD 1) (aD 0))))) (λs H ex=>(aD 0))))))))))))
theorem L7 {k:Nat}{Nl:List Str}{params:kq}{body:bp}{scope:gy}{me:M Dv}(T:Tx K mg G A) (LS:LamScope Nl scope) (hb:∀(cl:List (Str×ah)) (pm cdv ct:af),bindArgs (om "<lambda>" G.lq params body scope cl pm cdv ct) ⟨[],[]⟩=pure [])
  (hbody:∀(f:ah) (cdv:af) (cl:List (Str×ah)) (A:cx) (outer:List Env) (s:ag) (H:Hp) (E₀ E:XK),Good (jH P w K mg base Nl G.lq scope f cdv cl A outer s H E₀) G E k->aL (jH P w K mg base Nl G.lq scope f cdv cl A outer s H E₀) G E body me):
  FnOk P w K mg base (bR P w base) (k+2) A.f_qf A.fd_qf ["_law_call"] (vP G base Nl params body scope me 4 14 jK):=
 VD T.F_qf k8 T.hK rfl rfl rfl rfl rfl rfl rfl (by decide) (by decide) (by decide) (by decide) (by decide) (λ_ _=>rfl) (λ_ _=>rfl) (λ_ _=>rfl) rfl T.n_NearError T.e1 T.e2 T.e3 T.e4 LS hb hbody (k9 T)
theorem l6:FnScope ["_law_order_here","_law_found","_law_turn","_law_longer","_law_some"] ["_law_order_here"] (bC tH):=⟨rfl,rfl,rfl,by decide +kernel,rfl,by decide +kernel,by decide +kernel⟩
theorem l8 (T:Tx K mg G A):FnOk P w K mg base (bR P w base) 3 A.f_q1 A.fd_q1 ["_law_order_here"] (cN G F_q1):=dQ (k:=2) (N:=["_law_order_here","_law_found","_law_turn","_law_longer","_law_some"]) (mb:=xV) T.F_q1 l6 T.hK λcdv Ar outer s H E₀ E g=>(bE (cM (i:=1) tM rfl (by first|exact .inl rfl|exact .inr rfl) (kQ 3)) (bE (iD g.own g.calm (iO rfl T.z_range (aJ (cB (aD 0) bA) aU)) (bY (i:=2) tM rfl (by first|exact .inl rfl|exact .inr rfl)) (bE (cM (i:=3) tM rfl (by first|exact .inl rfl|exact .inr rfl) (fZ aU)) (bE (iD g.own g.calm (nX (aD 1)) (bY (i:=4) tM rfl (by first|exact .inl rfl|exact .inr rfl)) (bF (mK (UI (aD 3) (iE g.calm (fT (N:=["_law_place","_law_some"]) (cap:=[none,some 4]) (os:=(bC tH)) (oN:=["_law_order_here","_law_found","_law_turn","_law_longer","_law_some"]) rfl rfl rfl (by decide +kernel) rfl (by decide +kernel) (by decide +kernel) (by decide +kernel)) (iO rfl T.z_range (aJ (cB (aD 0) bA) aU)) (λs H ex=>(bY (i:=0) ZE rfl (by first|exact .inl rfl|exact .inr rfl))) (λs H ex=>iQ) (λs H ex=>(gO (aD 1) (gY (aJ (aD 0) aU))))))))) (bF (cM (i:=1) tM rfl (by first|exact .inl rfl|exact .inr rfl) (aD 3)))))) (bF (cA (nY (iE g.calm (fT (N:=["_law_some","_law_order_here"]) (cap:=[none,some 0]) (os:=(bC tH)) (oN:=["_law_order_here","_law_found","_law_turn","_law_longer","_law_some"]) rfl rfl rfl (by decide +kernel) rfl (by decide +kernel) (by decide +kernel) (by decide +kernel)) (nX (aD 1)) (λs H ex=>(bY (i:=0) ZF rfl (by first|exact .inl rfl|exact .inr rfl))) (λs H ex=>(nZ (gK (cI (eK g) (d4 T) (by decide) rfl T.m_qa T.F_qa.kp T.B_qa (aJ (aD 1) (aJ (aD 0) aU)))))) (λs H ex=>(aD 0))))))))
theorem l9:FnScope ["_law_order_here","_law_reach_here","_law_some"] ["_law_order_here","_law_reach_here"] (bC tJ):=⟨rfl,rfl,rfl,by decide +kernel,rfl,by decide +kernel,by decide +kernel⟩
theorem m6 (T:Tx K mg G A):FnOk P w K mg base (bR P w base) 4 A.f_q2 A.fd_q2 ["_law_order_here","_law_reach_here"] (cN G F_q2):=dQ (k:=3) (N:=["_law_order_here","_law_reach_here","_law_some"]) (mb:=xW) T.F_q2 l9 T.hK λcdv Ar outer s H E₀ E g=>(bE (eF (VU (cB (aD 0) bA) bA) (bF (cA (cI g (d8 T) (by decide) rfl T.m_qb T.F_qb.kp T.B_qb (aJ (aD 0) (aJ (aD 1) aU))))) eE) (bE (cM (i:=2) ZG rfl (by first|exact .inl rfl|exact .inr rfl) (nY (iE g.calm (fT (N:=["_law_seating","_law_reach_here","_law_order_here"]) (cap:=[none,some 1,some 0]) (os:=(bC tJ)) (oN:=["_law_order_here","_law_reach_here","_law_some"]) rfl rfl rfl (by decide +kernel) rfl (by decide +kernel) (by decide +kernel) (by decide +kernel)) (nX (cI g (l8 T) (by decide) rfl T.m_q1 T.F_q1.kp T.B_q1 (aJ (aD 0) aU))) (λs H ex=>(bY (i:=0) ZH rfl (by first|exact .inl rfl|exact .inr rfl))) (λs H ex=>(nZ (VT (cI (eK g) (h8 T) (by decide) rfl T.m_qn T.F_qn.kp T.B_qn (aJ (aD 2) (aJ (aD 0) aU))) (aD 1)))) (λs H ex=>(aD 0))))) (bE (eF (oF g (aD 2) (fZ aU)) (bF (cA nM)) eE) (bF (cA (UG rfl T.z_tuple (iE g.calm (fT (N:=["_law_thing","_law_some"]) (cap:=[none,some 2]) (os:=(bC tJ)) (oN:=["_law_order_here","_law_reach_here","_law_some"]) rfl rfl rfl (by decide +kernel) rfl (by decide +kernel) (by decide +kernel) (by decide +kernel)) (iO rfl T.z_range (aJ (cB (aD 0) bA) aU)) (λs H ex=>(bY (i:=0) ZI rfl (by first|exact .inl rfl|exact .inr rfl))) (λs H ex=>iQ) (λs H ex=>(WR (eK g).calm rfl T.z_min (aJ (nY (iE (eK g).calm (fT (N:=["_law_seating","_law_thing"]) (cap:=[none,some 0]) (os:={ kind:=.function,names:=[(".0",.local),("_law_thing",.cell),("min",.globalImplicit),("_law_some",.cell)],isGenerator:=false,isCoroutine:=false }) (oN:=["_law_thing","_law_some"]) rfl rfl rfl (by decide +kernel) rfl (by decide +kernel) (by decide +kernel) (by decide +kernel)) (nX (aD 1)) (λs H ex=>(bY (i:=0) ZJ rfl (by first|exact .inl rfl|exact .inr rfl))) (λs H ex=>iQ) (λs H ex=>(cB (aD 0) (aD 1))))) aU))))))))))
theorem m7:FnScope ["_law_script","_law_k","_law_state_here","_law_order_here","_law_reach_here","_law_bad","_law_none"] ["_law_script"] (bC tK):=⟨rfl,rfl,rfl,by decide +kernel,rfl,by decide +kernel,by decide +kernel⟩
theorem m8 (T:Tx K mg G A) (hC:kj base A.cc A.P) (hB:lS mg base):FnOk P w K mg base (bR P w base) 13 A.f_q6 A.fd_q6 ["_law_script"] (cN G (F_q6 G.scr)):=V8 (k:=12) (N:=["_law_script","_law_k","_law_state_here","_law_order_here","_law_reach_here","_law_bad","_law_none"]) (mb:=xY G.scr) T.F_q6 m7 T.hK λcdv Ar outer s H E₀ E hcd g=>(bE (iD g.own g.calm (iO rfl T.z_range (aJ (rL g.calm rfl T.z_max (aJ bA (aJ (S0 g.calm rfl T.z_min (aJ (HQ rfl T.z_len (aJ (aD 0) aU)) (aJ bA aU))) aU))) aU)) (bY (i:=1) qA rfl (by first|exact .inl rfl|exact .inr rfl)) (bE (cM (i:=2) qA rfl (by first|exact .inl rfl|exact .inr rfl) (cI g (i7 T) (by decide) rfl T.m_qo T.F_qo.kp T.B_qo (aJ (aD 0) (aJ (aD 1) aU)))) (bE (cM (i:=3) qA rfl (by first|exact .inl rfl|exact .inr rfl) (cI g (j8 T) (by decide) rfl T.m_qq T.F_qq.kp T.B_qq (aJ (aD 2) (aJ bA aU)))) (bE (iD g.own g.calm (iO rfl T.z_range (aJ bA aU)) (bY (i:=4) qA rfl (by first|exact .inl rfl|exact .inr rfl)) (bF (eF (kB (gK (cI g (L6 T 6) (by decide) rfl T.m_qw T.F_qw.kp T.B_qw (aJ (cI g (DL T) (by decide) rfl T.m_q5 T.F_q5.kp T.B_q5 (aJ (aD 3) (aJ (aD 4) aU))) (aJ (cI g (m6 T) (by decide) rfl T.m_q2 T.F_q2.kp T.B_q2 (aJ (aD 3) (aJ (aD 4) aU))) aU))))) (bF (cA iA)) eE))) (bE (cM (i:=5) qA rfl (by first|exact .inl rfl|exact .inr rfl) (cB (fZ (aJ (BE bA) (aJ bA (aJ iA (aJ nM (aJ AL (aJ (kQ 2) (aJ (kQ 2) (aJ (BD bA bA) aU))))))))) (cI g (oK T) (by decide) rfl T.m_qv T.F_qv.kp T.B_qv (aJ (aD 2) (aJ bA aU))))) (bE (cM (i:=6) qA rfl (by first|exact .inl rfl|exact .inr rfl) (cI g (k7 T) (by decide) rfl T.m_qc T.F_qc.kp T.B_qc (aJ (aD 2) aU))) (bE (eF (mW g (JN (Nl:=["_law_order_here","_law_bad"]) (caps:=[3,5]) (me:=tD) (os:=bC tK) (oN:=["_law_script","_law_k","_law_state_here","_law_order_here","_law_reach_here","_law_bad","_law_none"]) g (j:=9+2) (by decide) (λ_=>rfl) (λbase _ _=>L7 (k:=9) T ⟨rfl,rfl,rfl,by decide +kernel,by decide +kernel,by decide +kernel⟩ (λ_ _ _ _=>rfl) (λf cdv cl Ar outer s H E₀ E g=>(cI g (DL T) (by decide) rfl T.m_q5 T.F_q5.kp T.B_q5 (aJ (aD 0) (aJ (aD 1) aU))))) rfl T.m_qf T.F_qf.kp T.B_qf rfl T.lq T.tab (hcd.symm.trans T.code) hC hB ⟨rfl,rfl,rfl,by decide +kernel,by decide +kernel,by decide +kernel⟩ rfl rfl (by decide +kernel) rfl (by decide +kernel)) (kQ 2)) (bF (cA iA)) eE) (bF (eF (mW g (JN (Nl:=["_law_none","_law_bad"]) (caps:=[6,5]) (me:=tE) (os:=bC tK) (oN:=["_law_script","_law_k","_law_state_here","_law_order_here","_law_reach_here","_law_bad","_law_none"]) g (j:=9+2) (by decide) (λ_=>rfl) (λbase _ _=>L7 (k:=9) T ⟨rfl,rfl,rfl,by decide +kernel,by decide +kernel,by decide +kernel⟩ (λ_ _ _ _=>rfl) (λf cdv cl Ar outer s H E₀ E g=>(cI g (DL T) (by decide) rfl T.m_q5 T.F_q5.kp T.B_q5 (aJ (aD 0) (aJ (aD 1) aU))))) rfl T.m_qf T.F_qf.kp T.B_qf rfl T.lq T.tab (hcd.symm.trans T.code) hC hB ⟨rfl,rfl,rfl,by decide +kernel,by decide +kernel,by decide +kernel⟩ rfl rfl (by decide +kernel) rfl (by decide +kernel)) (kQ 2)) (bF (cA iA)) eE))))))))) (bF (cA iA)))
end
end L2.Mr.K51
namespace L2.Mr
open PySem PySem.Spec PyProof.Rows L2
def bump (up:List Int) (b v:Int):Option (List Int):=match eB up.length b with
 |none=>none
 |some k=>match up[k]? with
  |none=>none
  |some u=>some (up.set k (if v>u then v else u))
def lY (fs:List Int):List Int->List (Int×Int)->Option (List Int)
 |up,[]=>some up
 |up,p::ps=>match cQ fs p.1 with
  |none=>none
  |some f=>match bump up p.2 (f+1)with
   |none=>none
   |some up1=>lY fs up1 ps
def nG (r:Int) (fs:List Int):List Int->List (Int×Int)->Option (List Int)
 |up,[]=>some up
 |up,p::ps=>match cQ fs p.2 with
  |none=>none
  |some f2=>match bump up p.1 (f2 - r)with
   |none=>none
   |some up1=>match cQ fs p.1 with
    |none=>none
    |some f1=>match bump up1 p.2 (f1 - r)with
     |none=>none
     |some up2=>nG r fs up2 ps
theorem L8 {α β:Type}(f:α->β) (xs:List α) (i:Int):cQ (xs.map f) i=(cQ xs i).map f:=by
 unfold cQ;rw[bj]
 cases eB xs.length i with
 |none=>rfl
 |some k=>simp
section
variable{H:Hs}{j:Nat}{up up1:List Int}{b v:Int}{ρ:Ev}{x:Nat}
theorem DM {mv:M Dv}(hj:getL H j=some (up.map Dv.int)) (h4:ρ[4]?=some (some (.ref j))) (hx:ρ[x]?=some (some (.int b))) (hv:mv ρ H=.ok (.int v) H) (h:bump up b v=some up1):
  jG (aA 4) (aA x) (aH gL (aB (m2 aN (aA 4) (aA x)) (aB mv aC))) ρ H=.nx ρ (H.set j (.lst (up1.map Dv.int))):=by
 unfold bump at h
 split at h
 ·cases h
 ·rename_i k hk
  split at h
  ·cases h
  ·rename_i u hu;cases h;have ha:cQ (up.map Dv.int) b=some (.int u):=by rw[L8];unfold cQ;rw[hk];simp[hu]
   have hk':eB (up.map Dv.int).length b=some k:=by rw[bj];exact hk
   simp only[jG,aH,aB,m2,aA,h4,hx,Rs.bind_ok,aN,eY,fJ,hj,iM,ha,hv,aC,gL,if_true];simp only[Rs.thenS,rS,hj,hk',List.map_set]
end
theorem L9 {H:Hs}{j:Nat}{xs:List Dv}(e:getL H j=some xs):H.set j (.lst xs)=H:=by
 apply mn
 intro k
 by_cases hk:j=k
 ·subst hk;rw[de (mY e),cY e]
 ·rw[di hk]
def b1:MS:=jG (aA 4) (aA 6) (aH gL (aB (m2 aN (aA 4) (aA 6)) (aB (m2 bQ (m2 aN (aA 2) (aA 5)) (mC (.int 1))) aC)))
def b2:MS:=aM (jG (aA 4) (aA 5) (aH gL (aB (m2 aN (aA 4) (aA 5)) (aB (m2 fQ (m2 aN (aA 2) (aA 6)) (aA 1)) aC)))) (jG (aA 4) (aA 6) (aH gL (aB (m2 aN (aA 4) (aA 6)) (aB (m2 fQ (m2 aN (aA 2) (aA 5)) (aA 1)) aC))))
def qB:dP:=cV 2 (bL (aG 5) (bL (aG 6) cW))
section
variable{d:Dv}{r:Int}{i j:Nat}{fs:List Int}
theorem yM {H:Hs}{a f:Int}(e:getL H i=some (fs.map Dv.int)) (h:cQ fs a=some f):aN (.ref i) (.int a) H=.ok (.int f) H:=by
 have:cQ (fs.map Dv.int) a=some (.int f):=by rw[L8,h];rfl
 simp only[aN,eY,fJ,e,iM,this,if_true]
theorem m9 {H:Hs}{x3:Option Dv}{up up1:List Int}{a b f:Int}(ei:getL H i=some (fs.map Dv.int)) (ej:getL H j=some (up.map Dv.int)) (hf:cQ fs a=some f) (h:bump up b (f+1)=some up1):
  b1 [some d,some (.int r),some (.ref i),x3,some (.ref j),some (.int a),some (.int b)] H=.nx [some d,some (.int r),some (.ref i),x3,some (.ref j),some (.int a),some (.int b)] (H.set j (.lst (up1.map Dv.int))):=
 DM (x:=6) ej rfl rfl (by simp[m2,aA,yM ei hf,mC,bQ,lA]) h
theorem n9 {H:Hs}{x3:Option Dv}{up up1 up2:List Int}{a b f f2:Int}(hij:j≠i) (ei:getL H i=some (fs.map Dv.int)) (ej:getL H j=some (up.map Dv.int)) (hf:cQ fs a=some f) (hf2:cQ fs b=some f2) (h:bump up a (f2 - r)=some up1) (h2:bump up1 b (f - r)=some up2):
  b2 [some d,some (.int r),some (.ref i),x3,some (.ref j),some (.int a),some (.int b)] H=.nx [some d,some (.int r),some (.ref i),x3,some (.ref j),some (.int a),some (.int b)] (H.set j (.lst (up2.map Dv.int))):=by
 unfold b2;rw[bJ (DM (x:=5) ej rfl rfl (by simp[m2,aA,yM ei hf2,fQ,fI]) h)];have ei':getL (H.set j (.lst (up1.map Dv.int))) i=some (fs.map Dv.int):=by rw[kK hij];exact ei
 rw[DM (x:=6) (iU ej) rfl rfl (by simp[m2,aA,yM ei' hf,fQ,fI]) h2,ux]
theorem o6 {H H1:Hs}{x3 x5 x6:Option Dv}{up v:List Int}{ps:List (Int×Int)}{mi:M Src}(hij:j≠i) (ei:getL H i=some (fs.map Dv.int)) (ej:getL H j=some (up.map Dv.int)) (h:lY fs up ps=some v)
  (hi:mi [some d,some (.int r),some (.ref i),x3,some (.ref j),x5,x6] H=.ok (cJ (ps.map aK)) H):
  ∃y5 y6,cK mi qB b1 [some d,some (.int r),some (.ref i),x3,some (.ref j),x5,x6] H=.nx [some d,some (.int r),some (.ref i),x3,some (.ref j),y5,y6] (H.set j (.lst (v.map Dv.int))):=by
 have hn:(cJ (ps.map aK)).n=ps.length:=by simp[cJ]
 obtain⟨ρ',H',h1,y5,y6,up',h2,h3,h4⟩:=kL (b:=b1) (sg:=qB) hi (λk ρ H'=>∃(y5 y6:Option Dv) (up':List Int),ρ=[some d,some (.int r),some (.ref i),x3,some (.ref j),y5,y6]/\H'=H.set j (.lst (up'.map Dv.int))/\lY fs up' (ps.drop k)=some v)
  (λk ρ H' hk ⟨y5,y6,up',e1,e2,e3⟩=>by
   subst e1;subst e2;rw[hn]at hk;rw[pz hk]at e3;unfold lY at e3
   cases hf:cQ fs ps[k].1 with
   |none=>rw[hf]at e3;cases e3
   |some f=>
    rw[hf]at e3;dsimp only at e3
    cases hb:bump up' ps[k].2 (f+1)with
    |none=>rw[hb]at e3;cases e3
    |some up1=>
     rw[hb]at e3;dsimp only at e3;have ei':getL (H.set j (.lst (up'.map Dv.int))) i=some (fs.map Dv.int):=by rw[kK hij];exact ei
     refine⟨aK ps[k],[some d,some (.int r),some (.ref i),x3,some (.ref j),some (.int ps[k].1),some (.int ps[k].2)],_,_,by simp[cJ,hk],rfl,m9 ei' (iU ej) hf hb,_,_,up1,rfl,by rw[ux],e3⟩) (λ_ _ _=>rfl) ⟨x5,x6,up,rfl,(L9 ej).symm,h⟩
 rw[hn,List.drop_length]at h4;have:up'=v:=by simpa[lY]using h4
 subst this;exact⟨y5,y6,by rw[h1,h2,h3]⟩
theorem o7 {H:Hs}{x3 x5 x6:Option Dv}{q:Nat}{up v:List Int}{qs:List (Int×Int)}{mi:M Src}{H0:Hs}(hij:j≠i) (hqj:j≠q) (ei:getL H i=some (fs.map Dv.int)) (ej:getL H j=some (up.map Dv.int)) (eq:getL H q=some (qs.map aK)) (h:nG r fs up qs=some v)
  (hi:mi [some d,some (.int r),some (.ref i),x3,some (.ref j),x5,x6] H0=.ok (eI q qs.length) H):
  ∃y5 y6,cK mi qB b2 [some d,some (.int r),some (.ref i),x3,some (.ref j),x5,x6] H0=.nx [some d,some (.int r),some (.ref i),x3,some (.ref j),y5,y6] (H.set j (.lst (v.map Dv.int))):=by
 have hn:(eI q qs.length).n=qs.length:=rfl;obtain⟨ρ',H',h1,y5,y6,up',h2,h3,h4⟩:=kL (b:=b2) (sg:=qB) hi (λk ρ H'=>∃(y5 y6:Option Dv) (up':List Int),ρ=[some d,some (.int r),some (.ref i),x3,some (.ref j),y5,y6]/\H'=H.set j (.lst (up'.map Dv.int))/\nG r fs up' (qs.drop k)=some v)
  (λk ρ H' hk ⟨y5,y6,up',e1,e2,e3⟩=>by
   subst e1;subst e2;rw[hn]at hk;rw[pz hk]at e3;unfold nG at e3;have ei':getL (H.set j (.lst (up'.map Dv.int))) i=some (fs.map Dv.int):=by rw[kK hij];exact ei
   have eq':getL (H.set j (.lst (up'.map Dv.int))) q=some (qs.map aK):=by rw[kK hqj];exact eq
   cases hf:cQ fs qs[k].2 with
   |none=>rw[hf]at e3;cases e3
   |some f=>
    rw[hf]at e3;dsimp only at e3
    cases hb:bump up' qs[k].1 (f - r)with
    |none=>rw[hb]at e3;cases e3
    |some up1=>
     rw[hb]at e3;dsimp only at e3
     cases hf2:cQ fs qs[k].1 with
     |none=>rw[hf2]at e3;cases e3
     |some f2=>
      rw[hf2]at e3;dsimp only at e3
      cases hb2:bump up1 qs[k].2 (f2 - r)with
      |none=>rw[hb2]at e3;cases e3
      |some up2=>
       rw[hb2]at e3;dsimp only at e3;have eg:(eI q qs.length).get k (H.set j (.lst (up'.map Dv.int)))=some (aK qs[k]):=by simp[eI,eq',hk]
       refine⟨aK qs[k],[some d,some (.int r),some (.ref i),x3,some (.ref j),some (.int qs[k].1),some (.int qs[k].2)],_,_,eg,rfl,n9 hij ei' (iU ej) hf2 hf hb hb2,_,_,up2,rfl,by rw[ux],e3⟩)
  (λρ H' ⟨_,_,up',_,e2,_⟩=>by
   subst e2;have eq':getL (H.set j (.lst (up'.map Dv.int))) q=some (qs.map aK):=by rw[kK hqj];exact eq
   simp[eI,eq']) ⟨x5,x6,up,rfl,(L9 ej).symm,h⟩
 rw[hn,List.drop_length]at h4;have:up'=v:=by simpa[nG]using h4
 subst this;exact⟨y5,y6,by rw[h1,h2,h3]⟩
end
theorem MA:∀xs ys:List Int,eW (xs.map Dt.int) (ys.map Dt.int)=decide (xs=ys)
 | [],[]=>by simp[eW]
 | [],y::ys=>by simp[eW]
 |x::xs,[]=>by simp[eW]
 |x::xs,y::ys=>by simp only[dg,eW,MA xs ys,bS];rw[gg];simp
theorem MB {H:Hs}{i j:Nat}{xs ys:List Int}(ei:getL H i=some (xs.map Dv.int)) (ej:getL H j=some (ys.map Dv.int)):cD (.ref i) (.ref j) H=.ok (.bl (decide (xs=ys))) H:=by
 have p:∀(i:Nat) (xs:List Int),getL H i=some (xs.map Dv.int)->bN cE H (.ref i)=some (.lst (xs.map Dt.int)):=λi xs e=>by show bN (28+1+1) H (.ref i)=_;rw[bN];simp only[e,BM]
 unfold cD;rw[p i xs ei,p j ys ej];simp only[bS,MA]
def oM (ps qs:List (Int×Int)) (r:Int) (fs:List Int):Option (List Int):=match lY fs fs ps with
 |none=>none
 |some up=>nG r fs up qs
def oO (n:Int) (ps qs:List (Int×Int)) (r:Int):Nat->List Int->Option (Option (List Int))
 |0,fs=>some none
 |f+1,fs=>match oM ps qs r fs with
  |none=>none
  |some up=>if up=fs then some (some fs)else if up.length=0 then none else if cO up>=n then some none else oO n ps qs r f up
def lE:Option (List Int)->Dv
 |none=>.non
 |some fs=>.tup (fs.map Dv.int)
def jL (Fl:List Dv->Hs->Rs Dv):MS:=aM (aQ (aH (f1 kG) (aB (aA 2) aC)) (aG 4)) (aM (cK (bO dU (m2 aN (aA 0) (mC (.int 1)))) qB b1) (aM (cK (bO cZ (aH Fl (aB (aA 0) aC))) qB b2) (aM (aY (mB (m2 cD (aA 4) (aA 2))) (aT (aH (f1 gZ) (aB (aA 2) aC))) bH) (aM (aQ (aA 4) (aG 2)) (aY (mB (m2 jU (aH (f1 (eS cO)) (aB (aA 2) aC)) (m2 aN (aA 0) (mC (.int 0))))) (aT (mC .non)) bH)))))
def yN (Fl:List Dv->Hs->Rs Dv):MS:=aM (aQ (m2 kH (aX (aB (mC (.int 0)) aC)) (m2 aN (aA 0) (mC (.int 0)))) (aG 2)) (aM (cK (aV cC (aB (m2 bQ (m2 jJ (m2 aN (aA 0) (mC (.int 0))) (m2 aN (aA 0) (mC (.int 0)))) (mC (.int 2))) aC)) (aG 3) (jL Fl)) (aT (mC .non)))
theorem DN:∀ns:List Int,bW iH (ns.map Dv.int)=some ns
 | []=>rfl
 |n::ns=>by simp[bW,iH,DN ns]
section
variable{d:Dv}{n r:Int}{ps qs:List (Int×Int)}{Fl:List Dv->Hs->Rs Dv}
theorem o8 (hx0:∀H,aN d (.int 0) H=.ok (.int n) H) (hx1:∀H,aN d (.int 1) H=.ok (.tup (ps.map aK)) H) (hL:∀H,Fl [d] H=.ok (.ref H.length) (H++[Ob.lst (qs.map aK)]))
  {H:Hs}{i:Nat}{x3 x4 x5 x6:Option Dv}{fs up:List Int}(ei:getL H i=some (fs.map Dv.int)) (ht:oM ps qs r fs=some up):
  ∃(H':Hs),Fr [] H H'/\(up=fs->jL Fl [some d,some (.int r),some (.ref i),x3,x4,x5,x6] H=.rt (.tup (fs.map Dv.int)) H') /\
   (up≠fs->up.length≠0->if cO up>=n then jL Fl [some d,some (.int r),some (.ref i),x3,x4,x5,x6] H=.rt .non H' else ∃(j:Nat) (y4 y5 y6:Option Dv),jL Fl [some d,some (.int r),some (.ref i),x3,x4,x5,x6] H=.nx [some d,some (.int r),some (.ref j),x3,y4,y5,y6] H'/\getL H' j=some (up.map Dv.int)):=by
 unfold oM at ht
 cases hp:lY fs fs ps with
 |none=>rw[hp]at ht;cases ht
 |some u1=>
  rw[hp]at ht;dsimp only at ht;have li:=mY ei;have w0:aQ (aH (f1 kG) (aB (aA 2) aC)) (aG 4) [some d,some (.int r),some (.ref i),x3,x4,x5,x6] H=.nx [some d,some (.int r),some (.ref i),x3,some (.ref H.length),x5,x6] (H++[Ob.lst (fs.map Dv.int)]):=by simp[aQ,aH,aB,aA,aC,f1,kG,eY,pI,gA,ei,aG]
  have f0:Fr [] H (H++[Ob.lst (fs.map Dv.int)]):=Fr.app;have ei0:=gQ (l:=[Ob.lst (fs.map Dv.int)]) ei;have ej0:getL (H++[Ob.lst (fs.map Dv.int)]) H.length=some (fs.map Dv.int):=by simp[getL]
  have hl0:(H++[Ob.lst (fs.map Dv.int)]).length=H.length+1:=by simp
  generalize hH0:H++[Ob.lst (fs.map Dv.int)]=H0 at w0 f0 ei0 ej0 hl0;obtain⟨y5,y6,w1⟩:=o6 (d:=d) (r:=r) (i:=i) (j:=H.length) (H:=H0) (H1:=H0) (x3:=x3) (x5:=x5) (x6:=x6) (mi:=bO dU (m2 aN (aA 0) (mC (.int 1)))) (by omega) ei0 ej0 hp (by simp[bO,m2,aA,mC,hx1,dU]);have ei1:getL (H0.set H.length (Ob.lst (u1.map Dv.int))) i=some (fs.map Dv.int):=by rw[kK (by omega)];exact ei0
  have ej1:getL (H0.set H.length (Ob.lst (u1.map Dv.int))) H.length=some (u1.map Dv.int):=iU ej0;have f1':Fr [] H (H0.set H.length (Ob.lst (u1.map Dv.int))):=f0.trans (T:=[H.length]) Fr.set (by simp);have hl1:(H0.set H.length (Ob.lst (u1.map Dv.int))).length=H.length+1:=by simp[hl0]
  generalize H0.set H.length (Ob.lst (u1.map Dv.int))=H1 at w1 ei1 ej1 f1' hl1;have eq2:getL (H1++[Ob.lst (qs.map aK)]) H1.length=some (qs.map aK):=by simp[getL]
  obtain⟨z5,z6,w2⟩:=o7 (d:=d) (r:=r) (i:=i) (j:=H.length) (H:=H1++[Ob.lst (qs.map aK)]) (H0:=H1) (x3:=x3) (x5:=y5) (x6:=y6) (q:=H1.length) (mi:=bO cZ (aH Fl (aB (aA 0) aC))) (by omega) (by omega) (gQ ei1) (gQ ej1) eq2 ht (by simp[bO,aH,aB,aA,aC,hL,cZ,eq2]);have ei2:getL ((H1++[Ob.lst (qs.map aK)]).set H.length (Ob.lst (up.map Dv.int))) i=some (fs.map Dv.int):=by rw[kK (by omega)];exact gQ ei1
  have ej2:getL ((H1++[Ob.lst (qs.map aK)]).set H.length (Ob.lst (up.map Dv.int))) H.length=some (up.map Dv.int):=iU (gQ ej1);have f2':Fr [] H ((H1++[Ob.lst (qs.map aK)]).set H.length (Ob.lst (up.map Dv.int))):=(f1'.trans (T:=[]) Fr.app (by simp)).trans (T:=[H.length]) Fr.set (by simp);generalize (H1++[Ob.lst (qs.map aK)]).set H.length (Ob.lst (up.map Dv.int))=H2 at w2 ei2 ej2 f2';have t:mB (m2 cD (aA 4) (aA 2)) [some d,some (.int r),some (.ref i),x3,some (.ref H.length),z5,z6] H2=.ok (decide (up=fs)) H2:=by simp[mB,m2,aA,MB ej2 ei2,cS]
  refine⟨H2,f2',λh=>?_,λh hz=>?_⟩
  ·unfold jL;rw[bJ w0,bJ w1,bJ w2];unfold aM;rw[sM (t.trans (by rw[decide_eq_true h]))];simp[aT,aH,aB,aA,aC,f1,gZ,ei2,Rs.thenS]
  ·have hz':0<up.length:=by omega
   have w3:aY (mB (m2 cD (aA 4) (aA 2))) (aT (aH (f1 gZ) (aB (aA 2) aC))) bH [some d,some (.int r),some (.ref i),x3,some (.ref H.length),z5,z6] H2=.nx [some d,some (.int r),some (.ref i),x3,some (.ref H.length),z5,z6] H2:=by rw[pT (t.trans (by rw[decide_eq_false h]))];rfl
   have w4:aQ (aA 4) (aG 2) [some d,some (.int r),some (.ref i),x3,some (.ref H.length),z5,z6] H2=.nx [some d,some (.int r),some (.ref H.length),x3,some (.ref H.length),z5,z6] H2:=rfl;have t2:mB (m2 jU (aH (f1 (eS cO)) (aB (aA 2) aC)) (m2 aN (aA 0) (mC (.int 0)))) [some d,some (.int r),some (.ref H.length),x3,some (.ref H.length),z5,z6] H2=.ok (decide (cO up>=n)) H2:=by simp[mB,m2,aH,aB,aA,aC,f1,eS,ej2,DN,hz',mC,hx0,jU,fI,cS]
   split
   ·rename_i hm;unfold jL;rw[bJ w0,bJ w1,bJ w2,bJ w3,bJ w4,sM (t2.trans (by rw[decide_eq_true hm]))];rfl
   ·rename_i hm;refine⟨H.length,some (.ref H.length),z5,z6, ?_,ej2⟩;unfold jL;rw[bJ w0,bJ w1,bJ w2,bJ w3,bJ w4,pT (t2.trans (by rw[decide_eq_false hm]))];rfl
theorem MD {m:Int}(hx0:∀H,aN d (.int 0) H=.ok (.int n) H) (hx1:∀H,aN d (.int 1) H=.ok (.tup (ps.map aK)) H) (hL:∀H,Fl [d] H=.ok (.ref H.length) (H++[Ob.lst (qs.map aK)])) (res:Option (List Int)):
  ∀(f k:Nat) (fs:List Int) (H:Hs) (i:Nat) (x3 x4 x5 x6:Option Dv),getL H i=some (fs.map Dv.int)->oO n ps qs r f fs=some res->
   ∃H',Fr [] H H'/\(fP (cF 0 m) (aG 3) (jL Fl) f k [some d,some (.int r),some (.ref i),x3,x4,x5,x6] H=.rt (lE res) H'∨res=none/\∃ρ',fP (cF 0 m) (aG 3) (jL Fl) f k [some d,some (.int r),some (.ref i),x3,x4,x5,x6] H=.nx ρ' H')
 |0,k,fs,H,i,x3,x4,x5,x6,ei,h=>by cases h;exact⟨H,Fr.refl,.inr ⟨rfl,_,rfl⟩⟩
 |f+1,k,fs,H,i,x3,x4,x5,x6,ei,h=>by
  unfold oO at h
  cases ht:oM ps qs r fs with
  |none=>rw[ht]at h;cases h
  |some up=>
   rw[ht]at h;dsimp only at h;obtain⟨H1,f1,c1,c2⟩:=o8 (x3:=some (.int (0+(k:Int)))) (x4:=x4) (x5:=x5) (x6:=x6) hx0 hx1 hL ei ht;have ex:∀(rr:Sr),(∀ρ h,rr≠.nx ρ h)->(∀ρ h,rr≠.ct ρ h)->(∀ρ h,rr≠.bk ρ h)->jL Fl [some d,some (.int r),some (.ref i),some (.int (0+(k:Int))),x4,x5,x6] H=rr->fP (cF 0 m) (aG 3) (jL Fl) (f+1) k [some d,some (.int r),some (.ref i),x3,x4,x5,x6] H=rr:=λrr h1 h2 h3 e=>by
    rw[fP];have e':jL Fl (List.set [some d,some (.int r),some (.ref i),x3,x4,x5,x6] 3 (some (.int (0+(k:Int))))) H=rr:=e;simp only[cF,aG];rw[e']
    cases rr with
    |nx ρ h=>exact absurd rfl (h1 ρ h)
    |ct ρ h=>exact absurd rfl (h2 ρ h)
    |bk ρ h=>exact absurd rfl (h3 ρ h)
    |_=>rfl
   split at h
   ·rename_i he;cases h;exact⟨H1,f1,.inl (ex _ (by simp) (by simp) (by simp) (c1 he))⟩
   ·rename_i he
    split at h
    ·cases h
    ·rename_i hz;have c:=c2 he hz
     split at h
     ·rename_i hm;cases h;rw[if_pos hm]at c;exact⟨H1,f1,.inl (ex _ (by simp) (by simp) (by simp) c)⟩
     ·rename_i hm;rw[if_neg hm]at c;obtain⟨j,y4,y5,y6,c3,ej⟩:=c;obtain⟨H2,f2,q⟩:=MD hx0 hx1 hL res f (k+1) up H1 j (some (.int (0+(k:Int)))) y4 y5 y6 ej h;refine⟨H2,f1.trans f2 (by simp), ?_⟩;rw[BL (d:=.int (0+(k:Int))) (ρ1:=[some d,some (.int r),some (.ref i),some (.int (0+(k:Int))),x4,x5,x6]) rfl rfl c3];exact q
theorem o9 (N:Nat) (hn:n=N) (h6:N<=6) (hx0:∀H,aN d (.int 0) H=.ok (.int n) H) (hx1:∀H,aN d (.int 1) H=.ok (.tup (ps.map aK)) H) (hL:∀H,Fl [d] H=.ok (.ref H.length) (H++[Ob.lst (qs.map aK)])) {res:Option (List Int)}{H:Hs}
  (h:oO n ps qs r (N*N+2) (ba N 0)=some res):∃H',aZ 2 7 (yN Fl) [d,.int r] H=.ok (lE res) H'/\Fr [] H H':=by
 have n0:0<=n:=by omega
 have n6:n<=6:=by omega
 have w0:aQ (m2 kH (aX (aB (mC (.int 0)) aC)) (m2 aN (aA 0) (mC (.int 0)))) (aG 2) [some d,some (.int r),none,none,none,none,none] H=.nx [some d,some (.int r),some (.ref (H.length+1)),none,none,none,none] (H++[Ob.lst [.int 0]]++[Ob.lst ((ba N (0:Int)).map Dv.int)]):=by
  have e0:getL (H++[Ob.lst [.int 0]]) H.length=some [.int 0]:=by simp[getL]
  have c0:eV n=true:=by simp[eV];omega
  have c1:n<9223372036854775808:=by omega
  have c2 : -9223372036854775808<=n:=by omega
  have c3:n.toNat=N:=by omega
  have c4:N<=1000000:=by omega
  have c5:(ba N [Dv.int 0]).flatten=ba N (Dv.int 0):=by simp
  simp[aQ,m2,aX,aB,mC,aC,lim,aA,hx0,kH,e0,c0,c1,c2,c3,c4,aG]
 have ei:getL (H++[Ob.lst [.int 0]]++[Ob.lst ((ba N (0:Int)).map Dv.int)]) (H.length+1)=some ((ba N (0:Int)).map Dv.int):=by simp[getL]
 have f0:Fr [] H (H++[Ob.lst [.int 0]]++[Ob.lst ((ba N (0:Int)).map Dv.int)]):=Fr.trans (T:=[]) Fr.app Fr.app (by simp);generalize H++[Ob.lst [.int 0]]++[Ob.lst ((ba N (0:Int)).map Dv.int)]=H0 at w0 ei f0;have hi:aV cC (aB (m2 bQ (m2 jJ (m2 aN (aA 0) (mC (.int 0))) (m2 aN (aA 0) (mC (.int 0)))) (mC (.int 2))) aC) [some d,some (.int r),some (.ref (H.length+1)),none,none,none,none] H0=.ok (cF 0 (n*n+2)) H0:=by
  have c0:eV n=true:=by simp[eV];omega
  have q:aB (m2 bQ (m2 jJ (m2 aN (aA 0) (mC (.int 0))) (m2 aN (aA 0) (mC (.int 0)))) (mC (.int 2))) aC [some d,some (.int r),some (.ref (H.length+1)),none,none,none,none] H0=.ok [.int (n*n+2)] H0:=by simp[aB,m2,aA,mC,hx0,jJ,kC,rG,c0,bQ,lA,aC]
  have b1:n*n<=36:=by have:=Int.mul_le_mul n6 n6 n0 (by omega);omega
  have b0:0<=n*n:=Int.mul_nonneg n0 n0;have b2:kE (n*n+2)=true:=by
   generalize n*n=m at b1 b0;have h1:(-4611686018427387904:Int)<=m+2:=by omega
   have h2:m+2<4611686018427387904:=by omega
   unfold kE;rw[decide_eq_true h1,decide_eq_true h2];rfl
  unfold aV;rw[q,Rs.bind_ok];simp only[cC,b2,if_true]
 have hN:(cF 0 (n*n+2)).n=N*N+2:=by
  show(n*n+2 - 0).toNat=_;rw[hn];have:((N:Int)*(N:Int))=((N*N:Nat):Int):=by simp
  omega
 obtain⟨H',f1,q⟩:=MD (m:=n*n+2) hx0 hx1 hL res (N*N+2) 0 (ba N 0) H0 (H.length+1) none none none none ei h;refine⟨H', ?_,f0.trans f1 (by simp)⟩;show bM (yN Fl [some d,some (.int r),none,none,none,none,none] H)=_;unfold yN;rw[bJ w0]
 rcases q with q|⟨rfl,ρ',q⟩
 ·have:cK (aV cC (aB (m2 bQ (m2 jJ (m2 aN (aA 0) (mC (.int 0))) (m2 aN (aA 0) (mC (.int 0)))) (mC (.int 2))) aC)) (aG 3) (jL Fl) [some d,some (.int r),some (.ref (H.length+1)),none,none,none,none] H0=.rt (lE res) H':=by rw[vZ hi,hN];exact q
  unfold aM;rw[this];rfl
 ·rw[bJ ((vZ hi).trans (by rw[hN];exact q))];rfl
end
theorem yO {α:Type}{src:Src}{sg:dP}{t:M Bool}{m:MC}(xs:List α) (out:α->List Dv) (S:Ev->Hs->Prop)
  (fin:∀ρ h,S ρ h->src.fin h=true)
  (step:∀k (hk:k<xs.length) ρ h,S ρ h->∃d ρ1,src.get k h=some d/\sg d ρ=some ρ1 /\
   ((∃h2,t ρ1 h=.ok false h2/\out xs[k]=[]/\S ρ1 h2)∨∃h2,t ρ1 h=.ok true h2/\∀acc:List Dv,acc.length+(out xs[k]).length<=900000->∃ρ3 h3,m ρ1 h2 acc=.ok (ρ3,acc++out xs[k]) h3/\S ρ3 h3)):
  ∀(f k:Nat) (ρ:Ev) (h:Hs) (acc:List Dv),f+k=xs.length->S ρ h->acc.length+((xs.drop k).flatMap out).length<=900000->∃ρ' h',gB src sg t m f k ρ h acc=.ok (ρ',acc++(xs.drop k).flatMap out) h'/\S ρ' h'
 |0,k,ρ,h,acc,e,s,hl=>by have:xs.drop k=[]:=List.drop_eq_nil_of_le (by omega);exact⟨ρ,h,by simp[gB,fin ρ h s,this],s⟩
 |f+1,k,ρ,h,acc,e,s,hl=>by
  have hk:k<xs.length:=by omega
  obtain⟨d,ρ1,e1,e2,e3⟩:=step k hk ρ h s;rw[pz hk,fh]at hl ⊢;rw[bq]at hl
  rcases e3 with⟨h2,e3,e4,s2⟩|⟨h2,e3,e4⟩
  ·obtain⟨ρ',h',e5,s5⟩:=yO xs out S fin step f (k+1) ρ1 h2 acc (by omega) s2 (by omega);exact⟨ρ',h',by simp[gB,e1,e2,e3,e4,e5],s5⟩
  ·obtain⟨ρ3,h3,e6,s3⟩:=e4 acc (by omega);obtain⟨ρ',h',e5,s5⟩:=yO xs out S fin step f (k+1) ρ3 h3 (acc++out xs[k]) (by omega) s3 (by rw[bq];omega);exact⟨ρ',h',by simp[gB,e1,e2,e3,e6,e5],s5⟩
theorem yP {α:Type}{mi:M Src}{cap:List (Option Nat)}{src:Src}{sg:dP}{t:M Bool}{m:MC}{ρ:Ev}{H H1:Hs}(xs:List α) (out:α->List Dv) (S:Ev->Hs->Prop)
  (hi:mi ρ H=.ok src H1) (hn:src.n=xs.length) (s0:S (iP cap ρ) H1) (fin:∀ρ h,S ρ h->src.fin h=true)
  (step:∀k (hk:k<xs.length) ρ h,S ρ h->∃d ρ1,src.get k h=some d/\sg d ρ=some ρ1 /\
   ((∃h2,t ρ1 h=.ok false h2/\out xs[k]=[]/\S ρ1 h2)∨∃h2,t ρ1 h=.ok true h2/\∀acc:List Dv,acc.length+(out xs[k]).length<=900000->∃ρ3 h3,m ρ1 h2 acc=.ok (ρ3,acc++out xs[k]) h3/\S ρ3 h3))
  (hl:(xs.flatMap out).length<=900000):∃ρ' H',bX mi cap sg t m ρ H=.ok (xs.flatMap out) H'/\S ρ' H':=by
 obtain⟨ρ',h',e,s⟩:=yO xs out S fin step xs.length 0 (iP cap ρ) H1 [] (by omega) s0 (by simpa using hl);refine⟨ρ',h', ?_,s⟩;unfold bX;rw[hi,Rs.bind_ok,hn,e];simp
theorem ME {e:M Dv}{ρ:Ev}{h h1:Hs}{d:Dv}{acc:List Dv}(he:e ρ h=.ok d h1) (hl:acc.length+[d].length<=900000):bP e ρ h acc=.ok (ρ,acc++[d]) h1:=by
 have:acc.length<1000000:=by simp at hl;omega
 simp[bP,he,this]
theorem iV {α:Type}{mi:M Src}{cap:List (Option Nat)}{src:Src}{sg:dP}{t:M Bool}{e:M Dv}{ρ:Ev}{H H1:Hs}(xs:List α) (g:α->Option Dv) (S:Ev->Prop)
  (hi:mi ρ H=.ok src H1) (hn:src.n=xs.length) (s0:S (iP cap ρ)) (fin:src.fin H1=true)
  (step:∀k (hk:k<xs.length) ρ,S ρ->∃d ρ1,src.get k H1=some d/\sg d ρ=some ρ1/\S ρ1/\match g xs[k]with
   |none=>t ρ1 H1=.ok false H1
   |some v=>t ρ1 H1=.ok true H1/\e ρ1 H1=.ok v H1)
  (hl:xs.length<=900000):bX mi cap sg t (bP e) ρ H=.ok (xs.filterMap g) H1:=by
 have fm:∀l:List α,l.flatMap (λx=>(g x).toList)=l.filterMap g:=λl=>by
  induction l with
  |nil=>rfl
  |cons x l ih=>rw[fh,ih,ck];cases g x <;> rfl
 have len:(xs.filterMap g).length<=xs.length:=ij g xs;obtain⟨ρ',H',h,_,rfl⟩:=yP (mi:=mi) (cap:=cap) (src:=src) (sg:=sg) (t:=t) (m:=bP e) (ρ:=ρ) (H:=H) (H1:=H1) xs (λx=>(g x).toList) (λρ h=>S ρ/\h=H1) hi hn ⟨s0,rfl⟩ (λρ h s=>by rw[s.2];exact fin)
  (λk hk ρ h ⟨s,e1⟩=>by
   subst e1;obtain⟨d,ρ1,e1,e2,s1,e3⟩:=step k hk ρ s;refine⟨d,ρ1,e1,e2, ?_⟩
   cases q:g xs[k]with
   |none=>rw[q]at e3;exact .inl ⟨h,e3,rfl,s1,rfl⟩
   |some v=>rw[q]at e3;exact .inr ⟨h,e3.1,λacc hl=>⟨ρ1,h,ME e3.2 hl,s1,rfl⟩⟩) (by rw[fm];omega)
 rw[h,fm]
theorem MF {α β:Type}{mi mj:M Src}{cap:List (Option Nat)}{src:Src}{sg sg2:dP}{t2:M Bool}{e:M Dv}{ρ:Ev}{H H1:Hs}(xs:List α) (ys:α->List β) (g:α->β->Option Dv) (S:Ev->Prop)
  (hi:mi ρ H=.ok src H1) (hn:src.n=xs.length) (s0:S (iP cap ρ)) (fin:src.fin H1=true)
  (step:∀k (hk:k<xs.length) ρ,S ρ->∃(d:Dv) (ρ1:Ev) (src2:Src) (S2:Ev->Prop),src.get k H1=some d/\sg d ρ=some ρ1/\S2 ρ1/\(∀ρ,S2 ρ->S ρ)/\mj ρ1 H1=.ok src2 H1/\src2.n=(ys xs[k]).length/\src2.fin H1=true /\
   ∀j (hj:j<(ys xs[k]).length) ρ,S2 ρ->∃d ρ2,src2.get j H1=some d/\sg2 d ρ=some ρ2/\S2 ρ2/\match g xs[k] (ys xs[k])[j]with
    |none=>t2 ρ2 H1=.ok false H1
    |some v=>t2 ρ2 H1=.ok true H1/\e ρ2 H1=.ok v H1)
  (hl:(xs.flatMap λx=>(ys x).filterMap (g x)).length<=900000):bX mi cap sg cT (jS mj sg2 t2 (bP e)) ρ H=.ok (xs.flatMap λx=>(ys x).filterMap (g x)) H1:=by
 have fm:∀(x:α) (l:List β),l.flatMap (λy=>(g x y).toList)=l.filterMap (g x):=λx l=>by
  induction l with
  |nil=>rfl
  |cons y l ih=>rw[fh,ih,ck];cases g x y <;> rfl
 obtain⟨ρ',H',h,_,rfl⟩:=yP (mi:=mi) (cap:=cap) (src:=src) (sg:=sg) (t:=cT) (m:=jS mj sg2 t2 (bP e)) (ρ:=ρ) (H:=H) (H1:=H1) xs (λx=>(ys x).filterMap (g x)) (λρ h=>S ρ/\h=H1) hi hn ⟨s0,rfl⟩ (λρ h s=>by rw[s.2];exact fin)
  (λk hk ρ h ⟨s,e1⟩=>by
   subst e1;obtain⟨d,ρ1,src2,S2,e1,e2,s1,sS,e3,e4,e5,e6⟩:=step k hk ρ s;refine⟨d,ρ1,e1,e2,.inr ⟨h,rfl,λacc hl=>?_⟩⟩;obtain⟨ρ3,h3,r,s3,rfl⟩:=yO (src:=src2) (sg:=sg2) (t:=t2) (m:=bP e) (ys xs[k]) (λy=>(g xs[k] y).toList) (λρ hh=>S2 ρ/\hh=h) (λρ hh s=>by rw[s.2];exact e5)
    (λj hj ρ hh ⟨s,e1⟩=>by
     subst e1;obtain⟨d,ρ2,z1,z2,z3,z4⟩:=e6 j hj ρ s;refine⟨d,ρ2,z1,z2, ?_⟩
     cases q:g xs[k] (ys xs[k])[j]with
     |none=>rw[q]at z4;exact .inl ⟨hh,z4,rfl,z3,rfl⟩
     |some v=>rw[q]at z4;exact .inr ⟨hh,z4.1,λacc hl=>⟨ρ2,hh,ME z4.2 hl,z3,rfl⟩⟩) (ys xs[k]).length 0 ρ1 h acc (by omega) ⟨s1,rfl⟩ (by rw[List.drop_zero,fm];exact hl)
   refine⟨ρ3,h3, ?_,sS ρ3 s3,rfl⟩;unfold jS;rw[e3];dsimp only;rw[e4,r,List.drop_zero,fm]) hl
 exact h
theorem MG {c:M Bool}{b:MS}{f:Nat}{ρ:Ev}{h h1:Hs}(e:c ρ h=.ok false h1):hO c b (f+1) ρ h=.nx ρ h1:=by show(c ρ h).thenS _=_;rw[e];rfl
theorem DO {c:M Bool}{b:MS}{f:Nat}{ρ ρ2:Ev}{h h1 h2:Hs}(e:c ρ h=.ok true h1) (q:b ρ h1=.nx ρ2 h2):hO c b (f+1) ρ h=hO c b f ρ2 h2:=by show(c ρ h).thenS _=_;rw[e];simp[Rs.thenS,q]
theorem p0 {c:M Bool}{b:MS}{f:Nat}{ρ:Ev}{d:Dv}{h h1 h2:Hs}(e:c ρ h=.ok true h1) (q:b ρ h1=.rt d h2):hO c b (f+1) ρ h=.rt d h2:=by show(c ρ h).thenS _=_;rw[e];simp[Rs.thenS,q]
theorem yQ:∀bs:List Bool,bW mP (bs.map Dv.bl)=some bs
 | []=>rfl
 |b::bs=>by rw[dg,bW,yQ bs];rfl
end L2.Mr
namespace L2.Mr.Com
open PySem PySem.Spec PyProof.Rows L2 L2.Mr
def bB (n:Nat) (ps:List (Int×Int)):Dv:=.tup [.int n,.tup (ps.map aK)]
theorem qC {n:Nat}{ps:List (Int×Int)}(H:Hs):aN (bB n ps) (.int 0) H=.ok (.int n) H:=rfl
theorem tN {n:Nat}{ps:List (Int×Int)}(H:Hs):aN (bB n ps) (.int 1) H=.ok (.tup (ps.map aK)) H:=rfl
theorem oP {α:Type}{ml:M (List Dv)}{ρ:Ev}{H H1:Hs}{xs:List α}{f:α->Bool}(h:ml ρ H=.ok (xs.filterMap λx=>some (.bl (f x))) H1):mL iF ml ρ H=.ok (.bl (xs.all f)) H1:=by
 have e:(xs.filterMap λx=>some (Dv.bl (f x)))=(xs.map f).map Dv.bl:=by simp
 unfold mL;rw[h,Rs.bind_ok,e];unfold iF;rw[yQ];simp[List.all_map]
theorem p6 {α:Type}{ml:M (List Dv)}{ρ:Ev}{H H1:Hs}{xs:List α}{f:α->Bool}(h:ml ρ H=.ok (xs.filterMap λx=>some (.bl (f x))) H1):mL rQ ml ρ H=.ok (.bl (xs.any f)) H1:=by
 have e:(xs.filterMap λx=>some (Dv.bl (f x)))=(xs.map f).map Dv.bl:=by simp
 unfold mL;rw[h,Rs.bind_ok,e];unfold rQ;rw[yQ];simp[zt]
section
variable{H:Hs}{n x:Int}{ps:List (Int×Int)}
theorem MH:F_qx [.int x] H=.ok (.bl true) H:=by simp[F_qx,xA,aZ,bU,aT,dF,m1,aA,bG,gM,mX,jV,mI,bM]
theorem yR {lo hi:Int}:F_qi [.int x,.int lo,.int hi] H=.ok (.bl (decide (lo<=x)&&decide (x<=hi))) H:=by
 by_cases h:lo<=x
 ·simp[F_qi,sW,aZ,bU,aT,dF,aH,aB,aA,aC,MH,kX,hW,fI,h,bM]
 ·simp[F_qi,sW,aZ,bU,aT,dF,aH,aB,aA,aC,MH,kX,hW,fI,h,bM]
def eO (n x:Int):Bool:=decide (0<=x)&&decide (x<=n - 1)
theorem p7:F_qy [.int n,.int x] H=.ok (.bl (eO n x)) H:=by simp[F_qy,xB,aZ,bU,aT,aH,aB,aA,aC,mC,m2,fQ,fI,yR,bM,eO]
theorem p8 {xs:List Int}(hl:xs.length<=1000):F_qj [.int n,.tup (xs.map Dv.int)] H=.ok (.bl (xs.all (eO n))) H:=by have h:bX (bO dU (aA 1)) [none,some 0] (aG 0) cT (bP (aH F_qy (aB (aA 1) (aB (aA 0) aC)))) [some (.int n),some (.tup (xs.map Dv.int))] H=.ok (xs.filterMap λx=>some (.bl (eO n x))) H:=iV xs (λx=>some (.bl (eO n x))) (λρ=>∃a,ρ=[a,some (.int n)]) rfl (by simp[cJ]) ⟨_,rfl⟩ rfl (λk hk ρ ⟨a,e⟩=>by subst e;exact⟨.int xs[k],_,by simp[cJ,hk],rfl,⟨_,rfl⟩,rfl,by simp[aH,aB,aA,aC,p7]⟩) (by omega);simp[F_qj,sX,aZ,bU,aT,dF,m1,bG,aA,gM,gD,oP h,bM]
def lF (n:Int) (p:Int×Int):Bool:=eO n p.1&&eO n p.2
theorem p9 (p:Int×Int):F_q3 [.int n,aK p] H=.ok (.bl (lF n p)) H:=by
 have h:F_qj [.int n,aK p] H=.ok (.bl (lF n p)) H:=by have:=p8 (H:=H) (n:=n) (xs:=[p.1,p.2]) (by simp);simpa[aK,lF]using this
 have hlen:f1 eZ [aK p] H=.ok (.int 2) H:=rfl
 cases q:lF n p with
 |false=>simp[F_q3,oI,aZ,bU,aT,dF,aH,aB,aA,aC,h,q,bM]
 |true=>simp[F_q3,oI,aZ,bU,aT,dF,aH,aB,aA,aC,h,q,bM,m2,hlen,mC,cD,cE,bN,bS]
theorem q9 (hl:ps.length<=1000):F_qs [.int n,.tup (ps.map aK)] H=.ok (.bl (ps.all (lF n))) H:=by have h:bX (bO dU (aA 1)) [none,some 0] (aG 0) cT (bP (aH F_q3 (aB (aA 1) (aB (aA 0) aC)))) [some (.int n),some (.tup (ps.map aK))] H=.ok (ps.filterMap λp=>some (.bl (lF n p))) H:=iV ps (λp=>some (.bl (lF n p))) (λρ=>∃a,ρ=[a,some (.int n)]) rfl (by simp[cJ]) ⟨_,rfl⟩ rfl (λk hk ρ ⟨a,e⟩=>by subst e;exact⟨aK ps[k],_,by simp[cJ,hk],rfl,⟨_,rfl⟩,rfl,by simp[aH,aB,aA,aC,p9]⟩) (by omega);simp[F_qs,xC,aZ,bU,aT,oP h,bM]
theorem r8 (hl:ps.length<=1000):F_qt [.tup (ps.map aK)] H=.ok (.bl (ps.any λp=>decide (p.1=p.2))) H:=by have h:bX (bO dU (aA 0)) [none,none] (cV 2 (bL (aG 0) (bL (aG 1) cW))) cT (bP (m2 cD (aA 0) (aA 1))) [some (.tup (ps.map aK))] H=.ok (ps.filterMap λp=>some (.bl (decide (p.1=p.2)))) H:=iV ps (λp=>some (.bl (decide (p.1=p.2)))) (λρ=>∃a b,ρ=[a,b]) rfl (by simp[cJ]) ⟨_,_,rfl⟩ rfl (λk hk ρ ⟨a,b,e⟩=>by subst e;refine⟨aK ps[k],[some (.int ps[k].1),some (.int ps[k].2)],by simp[cJ,hk],rfl,⟨_,_,rfl⟩,rfl, ?_⟩;simp[m2,aA,cD,cE,bN,bS];rw[gg];simp) (by omega);simp[F_qt,CD,aZ,bU,aT,p6 h,bM]
theorem r9 (p q:Int×Int):fR (aK p) (aK q) H=.ok (.bl (fK p q)) H:=by simp only[fR,aK,bW,iH,LK];rw[<-sQ];rfl
def lG (ps:List (Int×Int)):Bool:=(ps.zip (ps.drop 1)).all λq=>fK q.1 q.2
theorem rising_of:∀{ps:List (Int×Int)},lG ps=true↔iI fK ps
 | []=>by simp[lG,iI]
 | [p]=>by simp[lG,iI]
 |p::q::r=>by
  have ih:=rising_of (ps:=q::r);have e:lG (p::q::r)=(fK p q&&lG (q::r)):=by simp[lG]
  rw[e,dj,ih];constructor
  ·rintro ⟨h1,h2⟩
   refine fj.mpr ⟨λz hz=>?_,h2⟩
   rcases bg.mp hz with rfl|hz
   ·exact h1
   ·exact stoP.tr _ _ _ h1 ((fj.mp h2).1 z hz)
  ·intro h;have:=fj.mp h;exact⟨this.1 q (by simp),this.2⟩
theorem t9 (ds:List Dv):mU ds (some 1) none=ds.drop 1:=by
 unfold mU;rw[show HT.sIx ds.length 0 (some 1)=min 1 ds.length from HT.sIx_nat ds.length 0 1,HT.sIx_none]
 cases ds with
 |nil=>rfl
 |cons a r=>simp
theorem u0 (hl:ps.length<=1000):F_qr [.tup (ps.map aK)] H=.ok (.bl (lG ps)) H:=by
 have hi:aV mR (aB (aA 0) (aB (sV (aA 0) (sE (mC (.int 1))) sD) aC)) [some (.tup (ps.map aK))] H=.ok (mQ (ps.map aK) ((ps.drop 1).map aK)) H:=by simp[aV,aB,aA,sV,sE,mC,JJ,sD,wZ,aC,mR,t9,uf]
 have hz:((ps.map aK).zip ((ps.drop 1).map aK)).map (λq=>Dv.tup [q.1,q.2])=(ps.zip (ps.drop 1)).map λq=>Dv.tup [aK q.1,aK q.2]:=by rw[List.zip_map,rz];rfl
 have h:bX (aV mR (aB (aA 0) (aB (sV (aA 0) (sE (mC (.int 1))) sD) aC))) [none,none] (cV 2 (bL (aG 0) (bL (aG 1) cW))) cT (bP (m2 fR (aA 0) (aA 1))) [some (.tup (ps.map aK))] H=.ok ((ps.zip (ps.drop 1)).filterMap λq=>some (.bl (fK q.1 q.2))) H:=
  iV (ps.zip (ps.drop 1)) (λq=>some (.bl (fK q.1 q.2))) (λρ=>∃a b,ρ=[a,b]) hi (by simp[mQ,cJ]) ⟨_,_,rfl⟩ rfl (λk hk ρ ⟨a,b,e⟩=>by
   subst e;refine⟨.tup [aK (ps.zip (ps.drop 1))[k].1,aK (ps.zip (ps.drop 1))[k].2],[some (aK (ps.zip (ps.drop 1))[k].1),some (aK (ps.zip (ps.drop 1))[k].2)], ?_,rfl,⟨_,_,rfl⟩,rfl, ?_⟩
   ·show(((ps.map aK).zip ((ps.drop 1).map aK)).map (λq=>Dv.tup [q.1,q.2]))[k]?=_;rw[hz,dk,aw hk];rfl
   ·simp only[m2,aA];exact r9 _ _) (by rw[List.length_zip];omega)
 simp[F_qr,CC,aZ,bU,aT,oP h,bM,lG]
def tO (ps:List (Int×Int)):Bool:=ps.all λp=>ps.all λq=>!decide (p.2=q.1)||decide ((p.1,q.2)∈ps)
theorem u5 (hl:ps.length<=900):F_qg [.tup (ps.map aK)] H=.ok (.bl (tO ps)) H:=by
 let g:Int×Int->Int×Int->Option Dv:=λp q=>if p.2=q.1 then some (.bl (decide ((p.1,q.2)∈ps)))else none
 have h:bX (bO dU (aA 0)) [none,none,none,none,some 0] (cV 2 (bL (aG 0) (bL (aG 1) cW))) cT (jS (bO dU (aA 4)) (cV 2 (bL (aG 2) (bL (aG 3) cW))) (mB (m2 cD (aA 1) (aA 2))) (bP (m2 (eR false) (aR (aB (aA 0) (aB (aA 3) aC))) (aA 4)))) [some (.tup (ps.map aK))] H=.ok (ps.flatMap λp=>ps.filterMap (g p)) H:=
  MF ps (λ_=>ps) g (λρ=>∃a b c d,ρ=[a,b,c,d,some (.tup (ps.map aK))]) rfl (by simp[cJ]) ⟨_,_,_,_,rfl⟩ rfl (λk hk ρ ⟨a,b,c,d,e⟩=>by
   subst e;refine⟨aK ps[k],[some (.int ps[k].1),some (.int ps[k].2),c,d,some (.tup (ps.map aK))],cJ (ps.map aK),λρ=>∃c d,ρ=[some (.int ps[k].1),some (.int ps[k].2),c,d,some (.tup (ps.map aK))],by simp[cJ,hk],rfl,⟨_,_,rfl⟩,λρ ⟨c,d,e⟩=>⟨_,_,_,_,e⟩,rfl,by simp[cJ],rfl,λj hj ρ ⟨c,d,e⟩=>?_⟩;subst e;refine⟨aK ps[j],[some (.int ps[k].1),some (.int ps[k].2),some (.int ps[j].1),some (.int ps[j].2),some (.tup (ps.map aK))],by simp[cJ,hj],rfl,⟨_,_,rfl⟩, ?_⟩;have te:mB (m2 cD (aA 1) (aA 2)) [some (.int ps[k].1),some (.int ps[k].2),some (.int ps[j].1),some (.int ps[j].2),some (.tup (ps.map aK))] H=.ok (decide (ps[k].2=ps[j].1)) H:=by simp[mB,m2,aA,cD,cE,bN,bS,cS];rw[gg];simp
   by_cases c1:ps[k].2=ps[j].1
   ·rw[decide_eq_true c1]at te;have hg:g ps[k] ps[j]=some (.bl (decide ((ps[k].1,ps[j].2)∈ps))):=if_pos c1;rw[hg];refine⟨te, ?_⟩;have hx:aR (aB (aA 0) (aB (aA 3) aC)) [some (.int ps[k].1),some (.int ps[k].2),some (.int ps[j].1),some (.int ps[j].2),some (.tup (ps.map aK))] H=.ok (aK (ps[k].1,ps[j].2)) H:=rfl;unfold m2;rw[hx,Rs.bind_ok];show(Rs.ok (Dv.tup (ps.map aK)) H).bind _=_;rw[Rs.bind_ok,lU];rfl
   ·rw[decide_eq_false c1]at te;have hg:g ps[k] ps[j]=none:=if_neg c1;rw[hg];exact te) (by
   have:∀l:List (Int×Int),(l.flatMap λp=>ps.filterMap (g p)).length<=l.length*ps.length:=λl=>by
    induction l with
    |nil=>simp
    |cons p l ih=>rw[fh,bq,cg,lg];have:=ij (g p) ps;omega
   have h2:=this ps;have h3:ps.length*ps.length<=900*900:=jt hl hl;omega)
 have hb:(ps.flatMap λp=>ps.filterMap (g p))=(ps.flatMap λp=>ps.filterMap λq=>if p.2=q.1 then some (decide ((p.1,q.2)∈ps))else none).map Dv.bl:=by
  rw[List.map_flatMap]
  congr 1
  funext p
  rw[uh]
  congr 1
  funext q
  show(if p.2=q.1 then some (Dv.bl (decide ((p.1,q.2)∈ps)))else none)=_
  split <;> rfl
 have hall:mL iF (bX (bO dU (aA 0)) [none,none,none,none,some 0] (cV 2 (bL (aG 0) (bL (aG 1) cW))) cT (jS (bO dU (aA 4)) (cV 2 (bL (aG 2) (bL (aG 3) cW))) (mB (m2 cD (aA 1) (aA 2))) (bP (m2 (eR false) (aR (aB (aA 0) (aB (aA 3) aC))) (aA 4))))) [some (.tup (ps.map aK))] H=.ok (.bl (tO ps)) H:=by
  unfold mL;rw[h,Rs.bind_ok,hb];unfold iF;rw[yQ];dsimp only
  congr 2
  rw[gg];unfold tO;simp only[ed,ni,ie,id];constructor
  ·intro h p hp q hq
   by_cases c:p.2=q.1
   ·have:=h (decide ((p.1,q.2)∈ps)) ⟨p,hp,q,hq,if_pos c⟩;simp[c,this]
   ·simp[c]
  ·rintro h b ⟨p,hp,q,hq,e⟩
   have:=h p hp q hq
   by_cases c:p.2=q.1
   ·rw[if_pos c]at e;cases e;simpa[c]using this
   ·rw[if_neg c]at e;cases e
 simp[F_qg,CF,aZ,bU,aT,hall,bM]
def qD (n:Int) (ps:List (Int×Int)):Bool:=decide (1<=n)&&decide (n<=6)&&ps.all (lF n)&&lG ps&&!(ps.any λp=>decide (p.1=p.2))&&tO ps
theorem MI {n:Int}(hl:ps.length<=900):F_qz [.tup [.int n,.tup (ps.map aK)]] H=.ok (.bl (qD n ps)) H:=by
 have b:=yR (H:=H) (x:=n) (lo:=1) (hi:=6);have p1:=q9 (H:=H) (n:=n) (ps:=ps) (by omega);have p2:=u0 (H:=H) (ps:=ps) (by omega);have p3:=r8 (H:=H) (ps:=ps) (by omega);have p4:=u5 (H:=H) (ps:=ps) hl;have hlen:f1 eZ [.tup [.int n,.tup (ps.map aK)]] H=.ok (.int 2) H:=rfl;unfold qD;generalize (decide (1<=n)&&decide (n<=6))=c0 at b ⊢;generalize ps.all (lF n)=c1 at p1 ⊢;generalize lG ps=c2 at p2 ⊢;generalize (ps.any λp=>decide (p.1=p.2))=c3 at p3 ⊢;generalize tO ps=c4 at p4 ⊢
 cases c0 <;> cases c1 <;> cases c2 <;> cases c3 <;> cases c4 <;>
  simp[F_qz,nB,aZ,bU,aM,aY,gJ,dJ,bV,m1,bG,aA,gM,gD,eQ,mB,m2,aH,aB,aC,hlen,mC,cP,cE,bN,bS,cS,bH,aQ,cV,bL,aG,cW,b,p1,p2,p3,p4,aT,dF,mI,bM]
end
structure OrdP (n:Nat) (ps:List (Int×Int)):Prop where
 n1:1<=n
 n6:n<=6
 rng:∀p∈ps,0<=p.1/\p.1<n/\0<=p.2/\p.2<n
 rise:iI fK ps
 irr:∀p∈ps,p.1≠p.2
 tr:∀p∈ps,∀q∈ps,p.2=q.1->(p.1,q.2)∈ps
section
variable{n:Nat}{ps:List (Int×Int)}{H:Hs}
def DP (n:Nat):List (Int×Int):=(ay n).flatMap λa:Nat=>(ay n).map λb:Nat=>((a:Int),(b:Int))
theorem u6 (n:Nat):(DP n).length=n*n:=by
 unfold DP;have:∀l:List Nat,(l.flatMap λa:Nat=>(ay n).map λb:Nat=>((a:Int),(b:Int))).length=l.length*n:=λl=>by
  induction l with
  |nil=>simp
  |cons a l ih=>rw[fh,bq,ih,cg,lg];simp;omega
 rw[this];simp
theorem u7 {p:Int×Int}(h:0<=p.1/\p.1<n/\0<=p.2/\p.2<n):p∈DP n:=by obtain⟨a,b⟩:=p;simp only at h;refine ni.mpr ⟨a.toNat,bw.mpr (by omega),bu.mpr ⟨b.toNat,bw.mpr (by omega), ?_⟩⟩;simp;omega
theorem u9 (hr:iI fK ps) (hp:∀p∈ps,0<=p.1/\p.1<n/\0<=p.2/\p.2<n):ps.length<=n*n:=by rw[<-u6 n];exact(wH stoP hr).length_le_of_subset λp h=>u7 (hp p h)
theorem OrdP.len (o:OrdP n ps):ps.length<=36:=by have h1:=u9 o.rise o.rng;have h2:n*n<=6*6:=jt o.n6 o.n6;omega
theorem OrdP.b (o:OrdP n ps):qD n ps=true:=by
 have h1:=o.n1;have h6:=o.n6;unfold qD;simp only[dj,decide_eq_true_eq,Bool.not_eq_true'];refine⟨⟨⟨⟨⟨by omega,by omega⟩, ?_⟩,rising_of.mpr o.rise⟩, ?_⟩, ?_⟩
 ·refine ed.mpr λp hp=>?_;have:=o.rng p hp;simp[lF,eO];omega
 ·refine List.any_eq_false.mpr λp hp=>?_;simpa using o.irr p hp
 ·refine ed.mpr λp hp=>ed.mpr λq hq=>?_
  by_cases c:p.2=q.1
  ·simp[c,o.tr p hp q hq c]
  ·simp[c]
theorem v5 (o:OrdP n ps):F_qz [bB n ps] H=.ok (.bl true) H:=by have:=MI (H:=H) (n:=(n:Int)) (ps:=ps) (by have:=o.len;omega);rw[o.b]at this;exact this
end
theorem v9 (H:Hs) (n:Nat) (a:Int) (b:Bool) (m:Int) (h0:0<m) (h1:m<18446744073709551616) (e:getL H n=some [.int a,.bl b]):
  ∃r a',0<=r/\r<m/\F_qv [.ref n,.int m] H=.ok (.int r) (H.set n (.lst [.int a',.bl b])):=by
 cases b with
 |true=>refine⟨a % m,a / m,Int.emod_nonneg _ (by omega),Int.emod_lt_of_pos _ h0, ?_⟩;simp[F_qv,xF,aZ,bU,aM,aY,bV,m2,aA,mC,aN,eY,fJ,e,iM,cQ,eB,eQ,aQ,hV,kC,pF,h0,aG,jG,sJ,sH,h1,rS,aT,bM]
 |false=>
  have q1:∀ys,getL (H.set n (.lst ys)) n=some ys:=λys=>iU e;generalize hs:(a*48271+29) % 2147483647=s;have s0:0<=s:=by omega
  have s1:s<2147483647:=by omega
  generalize ht:(s*s+39373*s+7) % 2147483629=t;have t0:0<=t:=by omega
  have t1:t<2147483629:=by omega
  generalize hu:(t*t+16807*t) % 2147483587=u;refine⟨u / 8 % m,s,Int.emod_nonneg _ (by omega),Int.emod_lt_of_pos _ h0, ?_⟩;have w1:eV s=true:=by simp[eV];omega
  have w2:eV t=true:=by simp[eV];omega
  have w3:eV 48271=true:=by decide
  have w4:eV 39373=true:=by decide
  have w5:eV 16807=true:=by decide
  simp[F_qv,xF,aZ,bU,aM,aY,bV,m2,aA,mC,aN,eY,fJ,e,iM,cQ,eB,eQ,aQ,hV,kC,pF,h0,aG,jG,sJ,sH,h1,rS,aT,bM,bH,bQ,lA,jJ,rG,w1,w2,w3,w4,w5,q1,hs,ht,hu]
def St (n:Nat) (H:Hs):Prop:=∃a b,getL H n=some [.int a,.bl b]
theorem St.fr {n:Nat}{S:List Nat}{H H':Hs}(s:St n H) (f:Fr S H H') (h:n∉S):St n H':=let ⟨a,b,e⟩:=s;⟨a,b,f.getL e h⟩
theorem oQ {H:Hs}{n:Nat}(m:Int) (s:St n H) (h0:0<m:=by decide) (h1:m<18446744073709551616:=by decide):
  ∃r H',0<=r/\r<m/\F_qv [.ref n,.int m] H=.ok (.int r) H'/\Fr [n] H H'/\St n H':=by
 obtain⟨a,b,e⟩:=s;obtain⟨r,a',r0,r1,ht⟩:=v9 H n a b m h0 h1 e;exact⟨r,_,r0,r1,ht,Fr.set,a',b,iU e⟩
theorem y7 (scr:List Int) (k:Nat) (h:Hs):∃H',F_qo scr [.scr,.int k] h=.ok (.ref h.length) H'/\Fr [] h H'/\St h.length H':=by
 have cell:∃c,F_qe scr [.scr,.int k] h=.ok (.int c) h:=by
  by_cases hk:k<scr.length
  ·refine⟨scr[k], ?_⟩;have hk':(k:Int)<scr.length:=by omega
   simp[F_qe,xD,aZ,bU,aM,aY,mB,m2,aA,mC,fR,aH,f1,iN,gA,aB,aC,cS,hk',hk,fJ,iM,cQ,eB,aT,bM]
  ·refine⟨0, ?_⟩;have hk':¬ (k:Int)<scr.length:=by omega
   simp[F_qe,xD,aZ,bU,aM,aY,mB,m2,aA,mC,fR,aH,f1,iN,gA,aB,aC,cS,hk',hk,fJ,iM,cQ,eB,aT,bM,bH]
 obtain⟨c,hc⟩:=cell;have fin:∀a b,Fr [] h (h++[Ob.lst [.int a,.bl b]])/\St h.length (h++[Ob.lst [.int a,.bl b]]):=λa b=>⟨Fr.app,a,b,by rw[WE];rfl⟩
 by_cases hg:c>=1000000000000000000
 ·refine⟨_, ?_,fin (c - 1000000000000000000) true⟩;simp[F_qo,xE,aZ,bU,aM,aQ,aH,aB,aA,aC,hc,aG,aY,mB,m2,jU,fI,mV,kC,rH,mC,cS,hg,aT,aX,fQ,lim,bM]
 ·refine⟨_, ?_,fin (c % 2147483647) false⟩;simp[F_qo,xE,aZ,bU,aM,aQ,aH,aB,aA,aC,hc,aG,aY,mB,m2,jU,fI,mV,kC,rH,mC,cS,hg,aT,aX,fQ,lim,bM,bH,hV,pF]
theorem St.lt {st:Nat}{H:Hs}(s:St st H):st<H.length:=let ⟨_,_,e⟩:=s;mY e
theorem y8 {H:Hs}{q:Nat}{ks:List Int}(e:getL H q=some (ks.map Dv.int)):cP (.ref q) (.ref H.length) (H++[.lst []])=.ok (.bl (!ks.isEmpty)) (H++[.lst []]):=by
 have p1:bN cE (H++[.lst []]) (.ref q)=some (.lst (ks.map Dt.int)):=by show bN (28+1+1) (H++[.lst []]) (.ref q)=_;rw[bN];simp only[gQ (l:=[.lst []]) e,BM]
 have p2:bN cE (H++[.lst []]) (.ref H.length)=some (.lst []):=by
  show bN (28+1+1) (H++[.lst []]) (.ref H.length)=_;rw[bN];have:getL (H++[.lst []]) H.length=some []:=by simp[getL]
  simp only[this];rfl
 unfold cP;rw[p1,p2]
 cases ks <;> simp[bS,eW]
def yS:M Bool:=mB (m2 cP (aA 2) (aX aC))
def yT:MS:=dY (hG (aA 3) (rZ (aA 2) (aH F_qv (aB (aA 0) (aB (aH (f1 eZ) (aB (aA 2) aC)) aC)))))
section
variable{st a b:Nat}{d:Dv}
theorem MJ (hab:a≠b) (has:a≠st) (hbs:b≠st):∀(f:Nat) (ls fs:List Int) (H:Hs),ls.length<f->ls.length+fs.length<=100->getL H a=some (ls.map Dv.int)->getL H b=some (fs.map Dv.int)->St st H->
  ∃(H':Hs) (ys:List Int),hO yS yT f [some (.ref st),some d,some (.ref a),some (.ref b)] H=.nx [some (.ref st),some d,some (.ref a),some (.ref b)] H'/\getL H' b=some (ys.map Dv.int)/\ys.Perm (fs++ls)/\St st H'/\Fr [st,a,b] H H'
 |0,ls,fs,H,h,_,_,_,_=>by omega
 |f+1,ls,fs,H,h,hl,ea,eb,s=>by
  have tc:yS [some (.ref st),some d,some (.ref a),some (.ref b)] H=.ok (!ls.isEmpty) (H++[.lst []]):=by simp[yS,mB,m2,aA,aX,aC,lim,y8 ea,cS]
  have ea1:=gQ (l:=[Ob.lst []]) ea;have eb1:=gQ (l:=[Ob.lst []]) eb;have g1:Fr [st,a,b] H (H++[Ob.lst []]):=Fr.app;have s1:=s.fr (Fr.app (S:=[]) (l:=[Ob.lst []])) (by simp);generalize H++[Ob.lst []]=H1 at tc ea1 eb1 g1 s1
  cases hls:ls with
  |nil=>subst hls;refine⟨H1,fs, ?_,eb1,by simp,s1,g1⟩;exact MG tc
  |cons x r=>
   have hne:ls.isEmpty=false:=by rw[hls];rfl
   have hpos:(0:Int)<ls.length:=by rw[hls];simp
   obtain⟨k,H2,k0,k1,ht,f2,s2⟩:=oQ (ls.length:Int) s1 hpos (by omega);have ea2:=f2.getL ea1 (by simpa using has);have eb2:=f2.getL eb1 (by simpa using hbs);have hk:k.toNat<ls.length:=by omega
   have ixk:eB (ls.map Dv.int).length k=some k.toNat:=by unfold eB;rw[if_pos k0,bj,if_pos k1]
   have getk:(ls.map Dv.int)[k.toNat]?=some (.int ls[k.toNat]):=by simp[hk]
   have hlen:f1 eZ [.ref a] H1=.ok (.int ls.length) H1:=by show(if eY (.ref a)=true then iN [] (.ref a) H1 else .bad)=_;simp[eY,iN,gA,ea1]
   have hz:(ls.map Dv.int).length<=1000000:=by rw[bj];omega
   have pop:vS (.ref a) (.int k) H2=.ok (.int ls[k.toNat]) (H2.set a (.lst ((ls.eraseIdx k.toNat).map Dv.int))):=by
    simp only[vS,ea2,ixk,getk,hz,if_true];have em:(ls.map Dv.int).eraseIdx k.toNat=(ls.eraseIdx k.toNat).map Dv.int:=by rw[ve,ve,ic,zh,uf]
    rw[em]
   have eb3:getL (H2.set a (.lst ((ls.eraseIdx k.toNat).map Dv.int))) b=some (fs.map Dv.int):=by rw[kK hab];exact eb2
   have ea3:getL (H2.set a (.lst ((ls.eraseIdx k.toNat).map Dv.int))) a=some ((ls.eraseIdx k.toNat).map Dv.int):=iU ea2;have f3:Fr [st,a,b] H2 (H2.set a (.lst ((ls.eraseIdx k.toNat).map Dv.int))):=Fr.set.mono (by simp);have s3:St st (H2.set a (.lst ((ls.eraseIdx k.toNat).map Dv.int))):=s2.fr Fr.set (by simpa using da has);generalize hH3:H2.set a (.lst ((ls.eraseIdx k.toNat).map Dv.int))=H3 at pop eb3 ea3 f3 s3;have hfl:(fs.map Dv.int).length<1000000:=by rw[bj];omega
   have body:yT [some (.ref st),some d,some (.ref a),some (.ref b)] H1=.nx [some (.ref st),some d,some (.ref a),some (.ref b)] (H3.set b (.lst ((fs++[ls[k.toNat]]).map Dv.int))):=by
    have isA:iR (.ref a) H1=true:=by simp[iR,ea1]
    have isB:iR (.ref b) H1=true:=by simp[iR,eb1]
    have hpop:rZ (aA 2) (aH F_qv (aB (aA 0) (aB (aH (f1 eZ) (aB (aA 2) aC)) aC))) [some (.ref st),some d,some (.ref a),some (.ref b)] H1=.ok (.int ls[k.toNat]) H3:=by simp[rZ,aA,isA,aH,aB,aC,hlen,ht,pop]
    have happ:lR (.ref b) (.int ls[k.toNat]) H3=.ok .non (H3.set b (.lst ((fs++[ls[k.toNat]]).map Dv.int))):=by simp only[lR,eb3,hfl,if_true,ic];rfl
    simp[yT,dY,hG,aA,isB,hpop,happ]
   have hlen2:(ls.eraseIdx k.toNat).length=ls.length - 1:=xk hk;obtain⟨H',ys,w,e',pm,s',f'⟩:=MJ hab has hbs f (ls.eraseIdx k.toNat) (fs++[ls[k.toNat]]) (H3.set b (.lst ((fs++[ls[k.toNat]]).map Dv.int))) (by omega) (by rw[bq];simp;omega) (by rw[kK (da hab)];exact ea3) (iU eb3) (s3.fr Fr.set (by simpa using da hbs));refine⟨H',ys, ?_,e', ?_,s', ?_⟩
   ·rw[hne]at tc;rw[DO tc body];exact w
   ·rw[<-hls];refine pm.trans ?_;rw[qf];refine xl fs ?_;have:=SR.erase_perm ls k.toNat hk;simpa using this
   ·exact(((g1.trans f2 (by simp)).trans f3 (by simp)).trans (T:=[b]) Fr.set (by simp)).trans f' (by simp)
end
def y9 (n:Nat) (ps:List (Int×Int)):Prop:=∀p∈ps,0<=p.1/\p.1<n/\0<=p.2/\p.2<n
theorem MK:∀ps:List (Int×Int),bW pW (ps.map aK)=some (ps.map jW)
 | []=>rfl
 |p::ps=>by rw[dg,bW,MK ps];rfl
theorem z00 (ps:List (Int×Int)):wY (ps.map jW)=true:=by simp[wY,jW]
theorem z01 (ps:List (Int×Int)):(ps.map jW).map wX=ps.map aK:=by rw[rz];rfl
section
variable{H:Hs}{ps:List (Int×Int)}{d:Dv}
theorem z02 (h:pX d H=some (ps.map jW)) (hl:(dZ fK ps).length<64):pY d H=.ok (.ref H.length) (H++[.lst ((dZ fK ps).map aK)]):=by unfold pY;rw[h];dsimp only;rw[J9 sQ,bj,if_pos (by rw[z00];simpa using hl),z01]
theorem z03 {i j:Nat}{ps qs:List (Int×Int)}(ei:getL H i=some (ps.map aK)) (ej:getL H j=some (qs.map aK)):cD (.ref i) (.ref j) H=.ok (.bl (decide (ps=qs))) H:=by
 have p:∀(i:Nat) (ps:List (Int×Int)),getL H i=some (ps.map aK)->bN cE H (.ref i)=some (.lst (ps.map hY)):=λi ps e=>by show bN (27+2+1) H (.ref i)=_;rw[bN];simp only[e,wD]
 have dq:∀ps qs:List (Int×Int),eW (ps.map hY) (qs.map hY)=decide (ps=qs):=λps=>by
  induction ps with
  |nil=>intro qs;cases qs <;> simp[eW]
  |cons p ps ih=>
   intro qs
   cases qs with
   |nil=>simp[eW]
   |cons q qs=>simp only[dg,eW,BO,ih];rw[gg];simp
 unfold cD;rw[p i ps ei,p j qs ej];simp only[bS,dq]
end
section
variable{H:Hs}{ps:List (Int×Int)}
theorem z04 {i:Nat}(e:getL H i=some (ps.map aK)):pX (.ref i) H=some (ps.map jW):=by simp only[pX,e,MK]
end
theorem DQ {H:Hs}{i k:Nat}{xs:List Int}(e:getL H i=some (xs.map Dv.int)) (hk:k<xs.length):aN (.ref i) (.int (k:Int)) H=.ok (.int xs[k]) H:=by
 have h1:eB (xs.map Dv.int).length (k:Int)=some k:=by unfold eB;rw[bj,if_pos (by omega),if_pos (by omega)];simp
 have h2:cQ (xs.map Dv.int) (k:Int)=some (.int xs[k]):=by unfold cQ;rw[h1];simp[hk]
 simp only[aN,eY,fJ,e,iM,h2,if_true]
theorem eq_int (x y:Int) (H:Hs):cD (.int x) (.int y) H=.ok (.bl (x==y)) H:=by simp[cD,cE,bN,bS]
theorem DR:∀{ys:List Int},ys.Nodup->∀i (h:i<ys.length),sL ys[i] ys=some i
 | [],_,i,h=>by simp at h
 |y::ys,nd,0,h=>by simp[sL]
 |y::ys,nd,i+1,h=>by
  have h1:=jz.mp nd;have hi:i<ys.length:=by simpa using h
  have ne:y≠ys[i]:=λz=>h1.1 (by rw[z];exact dm hi);simp[sL,ne,DR h1.2 i hi]
def ML (n:Nat) (ps:List (Int×Int)):Prop:=y9 n ps/\∃f:Int->Int,∀p∈ps,f p.1<f p.2
section
variable{st ir ip im n:Nat}{ys ms:List Int}{w:Int}{d1:Dv}
end
theorem DS {m:Int}(h0:0<=m) (h:m<=100):kE m=true:=by
 have h1:(-4611686018427387904:Int)<=m:=by omega
 have h2:m<4611686018427387904:=by omega
 unfold kE;rw[decide_eq_true h1,decide_eq_true h2];rfl
theorem tP {H:Hs}{j:Int}(h0:0<=j) (h1:j<=100):cC [.int j] H=.ok (cF 0 j) H:=by simp only[cC,DS h0 h1,if_true]
theorem MM {H:Hs}{i j:Int}(h0:0<=i) (h1:i<=100) (h2:0<=j) (h3:j<=100):jR [.int i,.int j] H=.ok (cF i j) H:=by simp only[jR,DS h0 h1,DS h2 h3,and_self,if_true]
def qE (ys:List Int) (n:Nat) (ps:List (Int×Int)):Prop:=∀p∈ps,∃i j,i<j/\j<n/\p=(ys.getD i 0,ys.getD j 0)
section
variable{st ir ip im n:Nat}{ys ms:List Int}{w:Int}{d1:Dv}
theorem z05 (pm:ys.Perm (cG n)) {ps:List (Int×Int)}(h:qE ys n ps):ML n ps:=by
 have hl:ys.length=n:=by rw[pm.length_eq];simp[cG]
 have nd:ys.Nodup:=by refine pm.nodup_iff.mpr ?_;unfold cG;simp only[fe];refine List.Pairwise.map _ ?_ (qz (n:=n));intro a b h e;exact h (by omega)
 have mem:∀i,i<n->0<=ys.getD i 0/\ys.getD i 0<n:=λi hi=>by have hm:ys.getD i 0∈cG n:=pm.mem_iff.mp (by simp[show i<ys.length by omega]);simp only[cG,bu,bw,fe]at hm;obtain⟨k,hk,e⟩:=hm;omega
 refine⟨λp hp=>?_,λa=>((sL a ys).getD 0:Nat),λp hp=>?_⟩
 ·obtain⟨i,j,hij,hj,rfl⟩:=h p hp;exact⟨(mem i (by omega)).1,(mem i (by omega)).2,(mem j hj).1,(mem j hj).2⟩
 ·obtain⟨i,j,hij,hj,rfl⟩:=h p hp;have hi':i<ys.length:=by omega
  have hj':j<ys.length:=by omega
  have e1:ys.getD i 0=ys[i]:=by simp[hi']
  have e2:ys.getD j 0=ys[j]:=by simp[hj']
  simp only[e1,e2,DR nd i hi',DR nd j hj',Option.getD_some];omega
end
section
variable{st:Nat}
end
end L2.Mr.Com
namespace L2.Mr.Cod
open PySem PySem.Spec PyProof.Rows L2 L2.Mr
open L2.Mr.Com
section
variable{st n:Nat}
theorem z06 {H:Hs}(hn:n<=6):oH (.int n) H=.ok (.ref H.length) (H++[.lst ((cG n).map Dv.int)]):=by
 have c:(decide (0<=(n:Int))&&decide ((n:Int)<=1000))=true:=by simp;omega
 simp only[oH,c,if_true]
theorem z07:xK=aM (aQ (aH (f1 oH) (aB (aA 1) aC)) (aG 2)) (aM (aQ (aX aC) (aG 3)) (aM (hO yS yT 40) (aT (aH (f1 gZ) (aB (aA 3) aC))))):=rfl
theorem z08 {H:Hs}(s:Com.St st H) (hn:n<=6):∃(ys:List Int) (H':Hs),F_qp [.ref st,.int n] H=.ok (.tup (ys.map Dv.int)) H'/\ys.Perm (cG n)/\Com.St st H'/\Fr [st] H H':=by
 have lt:=s.lt;have hL:=z06 (H:=H) hn;have hlen:(cG n).length<=6:=by simp[cG];omega
 generalize cG n=xs at hL hlen;have w0:aQ (aH (f1 oH) (aB (aA 1) aC)) (aG 2) [some (.ref st),some (.int n),none,none] H=.nx [some (.ref st),some (.int n),some (.ref H.length),none] (H++[.lst (xs.map Dv.int)]):=by generalize (n:Int)=z at hL;simp[aQ,aH,L2.Mr.f1,aB,aA,aC,hL,aG]
 have w1:aQ (aX aC) (aG 3) [some (.ref st),some (.int n),some (.ref H.length),none] (H++[.lst (xs.map Dv.int)])=.nx [some (.ref st),some (.int n),some (.ref H.length),some (.ref (H.length+1))] (H++[.lst (xs.map Dv.int)]++[.lst []]):=by simp[aQ,aX,aC,lim,aG]
 have ea:getL (H++[.lst (xs.map Dv.int)]++[.lst []]) H.length=some (xs.map Dv.int):=gQ (by simp[getL]);have eb:getL (H++[.lst (xs.map Dv.int)]++[.lst []]) (H.length+1)=some (([]:List Int).map Dv.int):=by simp[getL]
 have f0:Fr [st] H (H++[.lst (xs.map Dv.int)]++[.lst []]):=Fr.trans (T:=[]) Fr.app Fr.app (by simp);have s0:Com.St st (H++[.lst (xs.map Dv.int)]++[.lst []]):=(s.fr (Fr.app (S:=[]) (l:=[.lst (xs.map Dv.int)])) (by simp)).fr (Fr.app (S:=[])) (by simp);obtain⟨H',ys,w2,e2,pm,s2,f2⟩:=MJ (st:=st) (a:=H.length) (b:=H.length+1) (d:=.int n) (by omega) (by omega) (by omega) 40 xs [] _ (by omega) (by simp;omega) ea eb s0;refine⟨ys,H', ?_,by simpa using pm,s2,f0.trans f2 (by simp)⟩;show bM (xK [some (.ref st),some (.int n),none,none] H)=_;rw[z07,bJ w0,bJ w1,bJ w2];simp[aT,aH,L2.Mr.f1,gZ,aB,aA,aC,e2,bM]
def wS (m:Int) (S:List (Int×Int)) (a b:Int):List (Int×Int):=if(a,m)∈S/\(m,b)∈S/\(a,b)∉S then S++[(a,b)]else S
def wB (m a:Int) (bs:List Int) (S:List (Int×Int)):List (Int×Int):=bs.foldl (λS b=>wS m S a b) S
def wA (m:Int) (as bs:List Int) (S:List (Int×Int)):List (Int×Int):=as.foldl (λS a=>wB m a bs S) S
def wM (ms xs:List Int) (S:List (Int×Int)):List (Int×Int):=ms.foldl (λS m=>wA m xs xs S) S
theorem tQ {m a b:Int}{S:List (Int×Int)}{p:Int×Int}(h:p∈S):p∈wS m S a b:=by unfold wS;split <;> simp[h]
theorem DT {m a b:Int}{S:List (Int×Int)}{p:Int×Int}(h:p∈wS m S a b):p∈S∨(p=(a,b)/\(a,m)∈S/\(m,b)∈S):=by
 unfold wS at h
 split at h
 ·rename_i c
  rcases bx.mp h with h|h
  ·exact .inl h
  ·exact .inr ⟨cp.mp h,c.1,c.2.1⟩
 ·exact .inl h
theorem wS_in {m a b x:Int}{S:List (Int×Int)}:(x,m)∈wS m S a b↔(x,m)∈S:=by
 refine⟨λh=>?_,tQ⟩
 rcases DT h with h|⟨e,h1,_⟩
 ·exact h
 ·cases e;exact h1
theorem wS_out {m a b x:Int}{S:List (Int×Int)}:(m,x)∈wS m S a b↔(m,x)∈S:=by
 refine⟨λh=>?_,tQ⟩
 rcases DT h with h|⟨e,_,h1⟩
 ·exact h
 ·cases e;exact h1
theorem tR {m a:Int}{p:Int×Int}:∀{bs:List Int}{S:List (Int×Int)},p∈S->p∈wB m a bs S
 | [],_,h=>h
 |b::bs,S,h=>tR (bs:=bs) (tQ (b:=b) h)
theorem wB_in {m a x:Int}:∀{bs:List Int}{S:List (Int×Int)},(x,m)∈wB m a bs S↔(x,m)∈S
 | [],_=>Iff.rfl
 |b::bs,S=>(wB_in (bs:=bs) (S:=wS m S a b)).trans wS_in
theorem wB_out {m a x:Int}:∀{bs:List Int}{S:List (Int×Int)},(m,x)∈wB m a bs S↔(m,x)∈S
 | [],_=>Iff.rfl
 |b::bs,S=>(wB_out (bs:=bs) (S:=wS m S a b)).trans wS_out
theorem MN {m a:Int}{p:Int×Int}:∀{bs:List Int}{S:List (Int×Int)},p∈wB m a bs S->p∈S∨(p.1,m)∈S/\(m,p.2)∈S
 | [],_,h=>.inl h
 |b::bs,S,h=>by
  rcases MN (bs:=bs) (S:=wS m S a b) h with h|⟨h1,h2⟩
  ·rcases DT h with h|⟨e,h1,h2⟩
   ·exact .inl h
   ·subst e;exact .inr ⟨h1,h2⟩
  ·exact .inr ⟨wS_in.mp h1,wS_out.mp h2⟩
theorem MP {m a b:Int}:∀{bs:List Int}{S:List (Int×Int)},b∈bs->(a,m)∈S->(m,b)∈S->(a,b)∈wB m a bs S
 |c::bs,S,hb,h1,h2=>by
  rcases bg.mp hb with rfl|hb
  ·refine tR (bs:=bs) ?_;show(a,b)∈wS m S a b;unfold wS
   by_cases q:(a,b)∈S
   ·rw[if_neg (λz=>z.2.2 q)];exact q
   ·rw[if_pos ⟨h1,h2,q⟩];simp
  ·exact MP (bs:=bs) hb (tQ h1) (tQ h2)
theorem yU {m:Int}{bs:List Int}{p:Int×Int}:∀{as:List Int}{S:List (Int×Int)},p∈S->p∈wA m as bs S
 | [],_,h=>h
 |a::as,S,h=>yU (as:=as) (tR h)
theorem wA_in {m x:Int}{bs:List Int}:∀{as:List Int}{S:List (Int×Int)},(x,m)∈wA m as bs S↔(x,m)∈S
 | [],_=>Iff.rfl
 |a::as,S=>(wA_in (as:=as) (S:=wB m a bs S)).trans wB_in
theorem wA_out {m x:Int}{bs:List Int}:∀{as:List Int}{S:List (Int×Int)},(m,x)∈wA m as bs S↔(m,x)∈S
 | [],_=>Iff.rfl
 |a::as,S=>(wA_out (as:=as) (S:=wB m a bs S)).trans wB_out
theorem tS {m:Int}{bs:List Int}{p:Int×Int}:∀{as:List Int}{S:List (Int×Int)},p∈wA m as bs S->p∈S∨(p.1,m)∈S/\(m,p.2)∈S
 | [],_,h=>.inl h
 |a::as,S,h=>by
  rcases tS (as:=as) (S:=wB m a bs S) h with h|⟨h1,h2⟩
  ·exact MN h
  ·exact .inr ⟨wB_in.mp h1,wB_out.mp h2⟩
theorem tT {m a b:Int}{bs:List Int}(hb:b∈bs):∀{as:List Int}{S:List (Int×Int)},a∈as->(a,m)∈S->(m,b)∈S->(a,b)∈wA m as bs S
 |c::as,S,ha,h1,h2=>by
  rcases bg.mp ha with rfl|ha
  ·exact yU (as:=as) (MP hb h1 h2)
  ·exact tT hb (as:=as) ha (tR h1) (tR h2)
def qF (xs:List Int) (S:List (Int×Int)):Prop:=∀p∈S,p.1∈xs/\p.2∈xs
theorem z09 {m:Int}{xs as bs:List Int}{S:List (Int×Int)}(h:qF xs S):qF xs (wA m as bs S):=λp hp=>by
 rcases tS hp with hp|⟨h1,h2⟩
 ·exact h p hp
 ·exact⟨(h _ h1).1,(h _ h2).2⟩
theorem z0a {m k:Int}{xs:List Int}{S:List (Int×Int)}(hX:qF xs S) (hk:∀a b,(a,k)∈S->(k,b)∈S->(a,b)∈S):∀a b,(a,k)∈wA m xs xs S->(k,b)∈wA m xs xs S->(a,b)∈wA m xs xs S:=λa b h1 h2=>by
 rcases tS h1 with h1|⟨h1,h1'⟩ <;> rcases tS h2 with h2|⟨h2,h2'⟩
 ·exact yU (hk a b h1 h2)
 ·exact tT (hX _ h2').2 (hX _ h1).1 (hk _ _ h1 h2) h2'
 ·exact tT (hX _ h2).2 (hX _ h1).1 h1 (hk _ _ h1' h2)
 ·exact tT (hX _ h2').2 (hX _ h1).1 h1 h2'
theorem MQ {xs:List Int}:∀{ms:List Int}{S:List (Int×Int)}(D:Int->Prop),qF xs S->(∀k,D k->∀a b,(a,k)∈S->(k,b)∈S->(a,b)∈S)->
  qF xs (wM ms xs S)/\(∀p∈S,p∈wM ms xs S)/\∀k,D k∨k∈ms->∀a b,(a,k)∈wM ms xs S->(k,b)∈wM ms xs S->(a,b)∈wM ms xs S
 | [],S,D,hX,h=>⟨hX,λ_ hp=>hp,λk hk=>h k (hk.resolve_right (by simp))⟩
 |m::ms,S,D,hX,h=>by
  obtain⟨h1,h2,h3⟩:=MQ (ms:=ms) (S:=wA m xs xs S) (λk=>D k∨k=m) (z09 hX) (λk hk=>by
   rcases hk with hk|rfl
   ·exact z0a hX (h k hk)
   ·exact λa b q1 q2=>tT (hX _ (wA_out.mp q2)).2 (hX _ (wA_in.mp q1)).1 (wA_in.mp q1) (wA_out.mp q2))
  refine⟨h1,λp hp=>h2 p (yU hp),λk hk=>h3 k ?_⟩
  rcases hk with hk|hk
  ·exact .inl (.inl hk)
  ·rcases bg.mp hk with hk|hk
   ·exact .inl (.inr hk)
   ·exact .inr hk
theorem MR {xs:List Int}{f:Int->Int}:∀{ms:List Int}{S:List (Int×Int)},(∀p∈S,f p.1<f p.2)->∀p∈wM ms xs S,f p.1<f p.2
 | [],_,h=>h
 |m::ms,S,h=>MR (ms:=ms) (S:=wA m xs xs S) λp hp=>by
  rcases tS hp with hp|⟨h1,h2⟩
  ·exact h p hp
  ·have:=h _ h1;have:=h _ h2;simp only at *;omega
end
section
variable{n i:Nat}{H:Hs}{S:List (Int×Int)}{m a b:Int}{x0 x1 x3 x4 x5:Option Dv}
theorem DU (neg:Bool) (p:Int×Int) (e:getL H i=some (S.map aK)):eR neg (aK p) (.ref i) H=.ok (.bl (if neg then !decide (p∈S)else decide (p∈S))) H:=by
 have e':(S.map hY).any (λt=>bS t (hY p))=decide (p∈S):=by
  rw[gg];simp only[zt,qv,vp,BO,decide_eq_true_eq];constructor
  ·rintro ⟨q,hq,rfl⟩;exact hq
  ·intro h;exact⟨p,h,rfl⟩
 have h1:bW (bN cE H) (S.map aK)=some (S.map hY):=wD 28 H S;have h2:bN cE H (aK p)=some (hY p):=BN 28 H p;show mT [] neg (aK p) (.ref i) H=_;simp only[mT,gA,e,h1,h2,e']
def oR:MS:=aY (iB (mB (m2 (eR false) (aR (aB (aA 4) (aB (aA 3) aC))) (aA 2))) (iB (mB (m2 (eR false) (aR (aB (aA 3) (aB (aA 5) aC))) (aA 2))) (mB (m2 (eR true) (aR (aB (aA 4) (aB (aA 5) aC))) (aA 2))))) (dY (hG (aA 2) (aR (aB (aA 4) (aB (aA 5) aC))))) bH
def DV:MS:=cK (aV cC (aB (aA 0) aC)) (aG 5) oR
def DW:MS:=cK (aV cC (aB (aA 0) aC)) (aG 4) DV
theorem z0b:xM=aM (aQ (aH (f1 kG) (aB (aA 1) aC)) (aG 2)) (aM (cK (aV cC (aB (aA 0) aC)) (aG 3) DW) (aT (aH (f1 gZ) (aB (aH (f1 pY) (aB (aA 2) aC)) aC)))):=rfl
theorem z0c (e:getL H i=some (S.map aK)) (hl:S.length<=500):
  ∃H',oR [x0,x1,some (.ref i),some (.int m),some (.int a),some (.int b)] H=.nx [x0,x1,some (.ref i),some (.int m),some (.int a),some (.int b)] H'/\getL H' i=some ((wS m S a b).map aK)/\Fr [i] H H':=by
 have t1:=DU false (a,m) e;have t2:=DU false (m,b) e;have t3:=DU true (a,b) e;simp only[aK,cn,if_false,if_true]at t1 t2 t3;have hz:S.length<1000000:=by omega
 by_cases c1:(a,m)∈S
 ·by_cases c2:(m,b)∈S
  ·by_cases c3:(a,b)∈S
   ·refine⟨H, ?_,by unfold wS;rw[if_neg (λz=>z.2.2 c3)];exact e,Fr.refl⟩;simp[oR,aY,iB,mB,m2,aR,aB,aA,aC,lim,t1,t2,t3,c1,c2,c3,cS,bH]
   ·refine⟨H.set i (.lst (S.map aK++[aK (a,b)])), ?_, ?_,Fr.set⟩
    ·simp[oR,aY,iB,mB,m2,aR,aB,aA,aC,lim,t1,t2,t3,c1,c2,c3,cS,dY,hG,iR,e,lR,hz,aK]
    ·unfold wS;rw[if_pos ⟨c1,c2,c3⟩,ic];exact iU e
  ·refine⟨H, ?_,by unfold wS;rw[if_neg (λz=>c2 z.2.1)];exact e,Fr.refl⟩;simp[oR,aY,iB,mB,m2,aR,aB,aA,aC,lim,t1,t2,c1,c2,cS,bH]
 ·refine⟨H, ?_,by unfold wS;rw[if_neg (λz=>c1 z.1)];exact e,Fr.refl⟩;simp[oR,aY,iB,mB,m2,aR,aB,aA,aC,lim,t1,c1,cS,bH]
theorem DX {bd:MS}{k:Nat}{ρ:Ev}(h0:∀H,aV cC (aB (aA 0) aC) ρ H=.ok (cF 0 n) H) (P:Nat->List (Int×Int)->Ev->Hs->Prop) (g:List (Int×Int)->Int->List (Int×Int))
  (step:∀(j:Nat) S ρ H,j<n->P j S ρ H->∃ρ1 ρ2 H',aG k (.int j) ρ=some ρ1/\bd ρ1 H=.nx ρ2 H'/\P (j+1) (g S j) ρ2 H') (hP:P 0 S ρ H):
  ∃ρ' H',cK (aV cC (aB (aA 0) aC)) (aG k) bd ρ H=.nx ρ' H'/\P n ((cG n).foldl g S) ρ' H':=by
 obtain⟨ρ',H',w,h⟩:=kL (sg:=aG k) (b:=bd) (h0 H) (λj ρ H=>P j (((cG n).take j).foldl g S) ρ H)
  (λj ρ H hj h=>by
   have hj':j<n:=by simpa[cF]using hj
   obtain⟨ρ1,ρ2,H',e1,e2,e3⟩:=step j _ ρ H hj' h;refine⟨.int j,ρ1,ρ2,H',by simp[cF],e1,e2, ?_⟩;have hq:(cG n).take (j+1)=(cG n).take j++[(j:Int)]:=by
    have hl:j<(cG n).length:=by simp[cG];omega
    rw[qj];have:(cG n)[j]?=some (j:Int):=by rw[aw hl];simp[cG]
    rw[this];rfl
   rw[hq,List.foldl_append];exact e3) (λ_ _ _=>rfl) (by simpa using hP)
 refine⟨ρ',H',w, ?_⟩;have:(cF 0 (n:Int)).n=n:=by simp[cF]
 rw[this,jw (by simp[cG])]at h;exact h
theorem DY (hn:n<=6) {ρ:Ev}:∀H,aV cC (aB (aA 0) aC) (some (.int n)::ρ) H=.ok (cF 0 n) H:=λH=>by have q:aB (aA 0) aC (some (.int (n:Int))::ρ) H=.ok [.int n] H:=rfl;unfold aV;rw[q,Rs.bind_ok];exact tP (by omega) (by omega)
theorem z0d:(wS m S a b).length<=S.length+1:=by unfold wS;split <;> simp
theorem z0e (hn:n<=6) (e:getL H i=some (S.map aK)) (hl:S.length<=400):
  ∃y5 H',DV [some (.int n),x1,some (.ref i),some (.int m),some (.int a),x5] H=.nx [some (.int n),x1,some (.ref i),some (.int m),some (.int a),y5] H'/\getL H' i=some ((wB m a (cG n) S).map aK)/\(wB m a (cG n) S).length<=S.length+n/\Fr [i] H H':=by
 obtain⟨ρ',H',w,y5,e1,e2,e3,e4⟩:=DX (S:=S) (H:=H) (bd:=oR) (k:=5) (ρ:=[some (.int n),x1,some (.ref i),some (.int m),some (.int a),x5]) (DY hn) (λj S' ρ H'=>∃y5,ρ=[some (.int n),x1,some (.ref i),some (.int m),some (.int a),y5]/\getL H' i=some (S'.map aK)/\S'.length<=S.length+j/\Fr [i] H H') (λS b=>wS m S a b)
  (λj S' ρ H' hj ⟨y5,e1,e2,e3,e4⟩=>by subst e1;obtain⟨H2,w2,e5,f5⟩:=z0c (x0:=some (.int n)) (x1:=x1) (m:=m) (a:=a) (b:=(j:Int)) e2 (by omega);have:=z0d (m:=m) (a:=a) (b:=(j:Int)) (S:=S');exact⟨_,_,H2,rfl,w2,_,rfl,e5,by omega,e4.trans f5 (by simp)⟩) ⟨x5,rfl,e,by omega,Fr.refl⟩
 subst e1;exact⟨y5,H',w,e2,e3,e4⟩
theorem z0f (hn:n<=6) (e:getL H i=some (S.map aK)) (hl:S.length<=300):
  ∃y4 y5 H',DW [some (.int n),x1,some (.ref i),some (.int m),x4,x5] H=.nx [some (.int n),x1,some (.ref i),some (.int m),y4,y5] H'/\getL H' i=some ((wA m (cG n) (cG n) S).map aK)/\(wA m (cG n) (cG n) S).length<=S.length+6*n/\Fr [i] H H':=by
 obtain⟨ρ',H',w,y4,y5,e1,e2,e3,e4⟩:=DX (S:=S) (H:=H) (bd:=DV) (k:=4) (ρ:=[some (.int n),x1,some (.ref i),some (.int m),x4,x5]) (DY hn) (λj S' ρ H'=>∃y4 y5,ρ=[some (.int n),x1,some (.ref i),some (.int m),y4,y5]/\getL H' i=some (S'.map aK)/\S'.length<=S.length+6*j/\Fr [i] H H') (λS a=>wB m a (cG n) S)
  (λj S' ρ H' hj ⟨y4,y5,e1,e2,e3,e4⟩=>by subst e1;obtain⟨z5,H2,w2,e5,l5,f5⟩:=z0e (x1:=x1) (x5:=y5) (m:=m) (a:=(j:Int)) hn e2 (by omega);exact⟨_,_,H2,rfl,w2,_,_,rfl,e5,by omega,e4.trans f5 (by simp)⟩) ⟨x4,x5,rfl,e,by omega,Fr.refl⟩
 subst e1;exact⟨y4,y5,H',w,e2,e3,e4⟩
theorem z0g {j:Nat}{ps:List (Int×Int)}(n1:1<=n) (hn:n<=6) (e:getL H j=some (ps.map aK)) (hl:ps.length<=40) (g:ML n ps):
  ∃(cs:List (Int×Int)) (H':Hs),F_qh [.int n,.ref j] H=.ok (.tup (cs.map aK)) H'/\OrdP n cs/\Fr [] H H':=by
 have w0:aQ (aH (f1 kG) (aB (aA 1) aC)) (aG 2) [some (.int n),some (.ref j),none,none,none,none] H=.nx [some (.int n),some (.ref j),some (.ref H.length),none,none,none] (H++[.lst (ps.map aK)]):=by simp[aQ,aH,f1,kG,eY,pI,gA,aB,aA,aC,e,aG]
 have g0:getL (H++[Ob.lst (ps.map aK)]) H.length=some (ps.map aK):=by simp[getL]
 have f0:Fr [] H (H++[Ob.lst (ps.map aK)]):=Fr.app;obtain⟨q,hq⟩:∃q,q=H.length:=⟨_,rfl⟩
 rw[<-hq]at w0 g0;obtain⟨H0,hH0⟩:∃H0,H0=H++[Ob.lst (ps.map aK)]:=⟨_,rfl⟩
 rw[<-hH0]at w0 g0 f0;obtain⟨ρ',H1,w1,y3,y4,y5,e1,e2,e3,e4⟩:=DX (S:=ps) (H:=H0) (bd:=DW) (k:=3) (ρ:=[some (.int n),some (.ref j),some (.ref q),none,none,none]) (DY hn) (λk S' ρ H'=>∃y3 y4 y5,ρ=[some (.int n),some (.ref j),some (.ref q),y3,y4,y5]/\getL H' q=some (S'.map aK)/\S'.length<=ps.length+36*k/\Fr [q] H0 H') (λS m=>wA m (cG n) (cG n) S)
  (λk S' ρ H' hj ⟨y3,y4,y5,e1,e2,e3,e4⟩=>by subst e1;obtain⟨z4,z5,H2,w2,e5,l5,f5⟩:=z0f (x1:=some (.ref j)) (x4:=y4) (x5:=y5) (m:=(k:Int)) hn e2 (by omega);exact⟨_,_,H2,rfl,w2,_,_,_,rfl,e5,by omega,e4.trans f5 (by simp)⟩) ⟨none,none,none,rfl,g0,by omega,Fr.refl⟩
 subst e1;have hX:qF (cG n) ps:=λp hp=>by have:=g.1 p hp;simp only[cG,bu,bw,fe];exact⟨⟨p.1.toNat,by omega,by omega⟩,p.2.toNat,by omega,by omega⟩
 obtain⟨k1,k2,k3⟩:=MQ (xs:=cG n) (ms:=cG n) (S:=ps) (λ_=>False) hX (λ_ h=>h.elim);obtain⟨f,hf⟩:=g.2;have k4:=MR (xs:=cG n) (ms:=cG n) (f:=f) hf;change getL H1 q=some ((wM (cG n) (cG n) ps).map aK)at e2;generalize wM (cG n) (cG n) ps=W at e2 k1 k2 k3 k4;have hr:=wG stoP W;have hm:∀p,p∈dZ fK W↔p∈W:=λp=>pU stoP p W;have o:OrdP n (dZ fK W):=by
  refine⟨n1,hn,λp hp=>?_,hr,λp hp e=>?_,λp hp r hr' e=>?_⟩
  ·have:=k1 p ((hm p).mp hp);simp only[cG,bu,bw,fe]at this;obtain⟨⟨k,hk,e⟩,k',hk',e'⟩:=this;omega
  ·have:=k4 p ((hm p).mp hp);rw[e]at this;omega
  ·refine(hm _).mpr (k3 p.2 (.inr (k1 p ((hm p).mp hp)).2) p.1 r.2 ((hm p).mp hp) ?_);rw[e];exact(hm r).mp hr'
 have hs:=z02 (z04 e2) (by have:=o.len;omega);have f1':Fr [] H1 (H1++[Ob.lst ((dZ fK W).map aK)]):=Fr.app;have g2:getL (H1++[Ob.lst ((dZ fK W).map aK)]) H1.length=some ((dZ fK W).map aK):=by simp[getL]
 refine⟨dZ fK W,H1++[Ob.lst ((dZ fK W).map aK)], ?_,o,(f0.trans e4 (λx hx=>.inr (by rw[cp.mp hx,hq];exact aj _))).trans f1' (by simp)⟩;show bM (xM [some (.int n),some (.ref j),none,none,none,none] H)=_;rw[z0b,bJ w0,bJ w1];generalize H1++[Ob.lst ((dZ fK W).map aK)]=H2 at hs g2;simp[aT,aH,f1,gZ,aB,aA,aC,hs,g2,bM]
end
theorem DZ {H:Hs}{ys:List Int}{k:Nat}(hk:k<ys.length):aN (.tup (ys.map Dv.int)) (.int k) H=.ok (.int (ys.getD k 0)) H:=by
 have h1:eB (ys.map Dv.int).length (k:Int)=some k:=by
  unfold eB;have hl:(ys.map Dv.int).length=ys.length:=by simp
  rw[hl,if_pos (by omega),if_pos (by omega)];simp
 have h2:cQ (ys.map Dv.int) (k:Int)=some (.int (ys.getD k 0)):=by unfold cQ;rw[h1];simp[hk]
 simp only[aN,eY,fJ,iM,h2,if_true]
section
variable{st ip im n:Nat}{ys ms:List Int}{w:Int}{d1:Dv}
abbrev ev (st ip im n:Nat) (w:Int) (d1:Dv) (ys:List Int) (x7 x8 x9:Option Dv):Ev:=[some (.ref st),some d1,some (.int n),some (.tup (ys.map Dv.int)),some (.int w),some (.ref im),some (.ref ip),x7,x8,x9]
def q1:MS:=aQ (m2 fR (aH F_qv (aB (aA 0) (aB (mC (.int 4)) aC))) (m2 aN (aX (aB (mC (.int 1)) (aB (mC (.int 2)) (aB (mC (.int 3)) aC)))) (m2 hV (aA 4) (mC (.int 3))))) (aG 9)
def q2:MS:=aY (mB (m2 cD (aA 4) (mC (.int 3)))) (aQ (m2 cD (m2 aN (aA 5) (aA 7)) (m2 aN (aA 5) (aA 8))) (aG 9)) bH
def q3:MS:=aY (mB (m2 cD (aA 4) (mC (.int 4)))) (aQ (m2 fR (m2 aN (aA 5) (aA 7)) (m2 aN (aA 5) (aA 8))) (aG 9)) bH
def q4:MS:=aY (bV (aA 9)) (dY (hG (aA 6) (aR (aB (m2 aN (aA 3) (aA 7)) (aB (m2 aN (aA 3) (aA 8)) aC))))) bH
def oB:MS:=aM q1 (aM q2 (aM q3 q4))
structure Sd (st im:Nat) (ms:List Int) (H:Hs):Prop where
 s:Com.St st H
 m:getL H im=some (ms.map Dv.int)
theorem Sd.fr {H H':Hs}{S:List Nat}(h:Sd st im ms H) (f:Fr S H H') (s':Com.St st H') (h2:im∉S):Sd st im ms H':=⟨s',f.getL h.m h2⟩
theorem z0h {H:Hs}{x9:Option Dv}{ps:List (Int×Int)}{i j:Nat}(D:Sd st im ms H) (ep:getL H ip=some (ps.map aK)) (hw:0<=w/\w<5) (hi:i<n) (hj:j<n) (hy:ys.length=n) (hm:ms.length=n) (hl:ps.length<=1000)
  (h2:im≠st) (h3:ip≠st) (h5:im≠ip):
  ∃(x9':Option Dv) (H':Hs) (ps':List (Int×Int)),oB (ev st ip im n w d1 ys (some (.int i)) (some (.int j)) x9) H=.nx (ev st ip im n w d1 ys (some (.int i)) (some (.int j)) x9') H'/\getL H' ip=some (ps'.map aK)/\(ps'=ps∨ps'=ps++[(ys.getD i 0,ys.getD j 0)])/\Sd st im ms H'/\Fr [st,ip] H H':=by
 obtain⟨r0,H0,_,_,t0,f0,s0⟩:=oQ 4 D.s;have D0:=D.fr f0 s0 (by simpa using h2);have ep0:=f0.getL ep (by simpa using h3);have fA:Fr [] H0 (H0++[Ob.lst [.int 1,.int 2,.int 3]]):=Fr.app;have eA:getL (H0++[Ob.lst [.int 1,.int 2,.int 3]]) H0.length=some [.int 1,.int 2,.int 3]:=by simp[getL]
 have near:∃c,aN (.ref H0.length) (.int (w % 3)) (H0++[Ob.lst [.int 1,.int 2,.int 3]])=.ok (.int c) (H0++[Ob.lst [.int 1,.int 2,.int 3]]):=by
  have hw':w=0∨w=1∨w=2∨w=3∨w=4:=by omega
  rcases hw' with rfl|rfl|rfl|rfl|rfl
  ·exact⟨1,by simp only[aN,eY,fJ,eA];rfl⟩
  ·exact⟨2,by simp only[aN,eY,fJ,eA];rfl⟩
  ·exact⟨3,by simp only[aN,eY,fJ,eA];rfl⟩
  ·exact⟨1,by simp only[aN,eY,fJ,eA];rfl⟩
  ·exact⟨2,by simp only[aN,eY,fJ,eA];rfl⟩
 obtain⟨c,hc⟩:=near;have hmod:hV (.int w) (.int 3) (H0++[Ob.lst [.int 1,.int 2,.int 3]])=.ok (.int (w % 3)) (H0++[Ob.lst [.int 1,.int 2,.int 3]]):=by
  have hw':w=0∨w=1∨w=2∨w=3∨w=4:=by omega
  rcases hw' with rfl|rfl|rfl|rfl|rfl <;> rfl
 have hlst:aX (aB (mC (.int 1)) (aB (mC (.int 2)) (aB (mC (.int 3)) aC))) (ev st ip im n w d1 ys (some (.int i)) (some (.int j)) x9) H0=.ok (.ref H0.length) (H0++[Ob.lst [.int 1,.int 2,.int 3]]):=rfl;have DA:=D0.fr fA (s0.fr fA (by simp)) (by simp);have epA:=fA.getL ep0 (by simp);have fHA:Fr [st] H (H0++[Ob.lst [.int 1,.int 2,.int 3]]):=f0.trans fA (by simp);generalize H0++[Ob.lst [.int 1,.int 2,.int 3]]=HA at hc hmod hlst DA epA fHA;have w1:q1 (ev st ip im n w d1 ys (some (.int i)) (some (.int j)) x9) H=.nx (ev st ip im n w d1 ys (some (.int i)) (some (.int j)) (some (.bl (decide (r0<c))))) HA:=by
  have a1:aH F_qv (aB (aA 0) (aB (mC (.int 4)) aC)) (ev st ip im n w d1 ys (some (.int i)) (some (.int j)) x9) H=.ok (.int r0) H0:=by simp[aH,aB,aA,mC,aC,t0]
  have a2:m2 hV (aA 4) (mC (.int 3)) (ev st ip im n w d1 ys (some (.int i)) (some (.int j)) x9) HA=.ok (.int (w % 3)) HA:=by simp[m2,aA,mC,hmod]
  have a3:m2 aN (aX (aB (mC (.int 1)) (aB (mC (.int 2)) (aB (mC (.int 3)) aC)))) (m2 hV (aA 4) (mC (.int 3))) (ev st ip im n w d1 ys (some (.int i)) (some (.int j)) x9) H0=.ok (.int c) HA:=by show(aX _ _ H0).bind _=_;rw[hlst,Rs.bind_ok,a2,Rs.bind_ok,hc]
  unfold q1 aQ;have a4:m2 fR (aH F_qv (aB (aA 0) (aB (mC (.int 4)) aC))) (m2 aN (aX (aB (mC (.int 1)) (aB (mC (.int 2)) (aB (mC (.int 3)) aC)))) (m2 hV (aA 4) (mC (.int 3)))) (ev st ip im n w d1 ys (some (.int i)) (some (.int j)) x9) H=.ok (.bl (decide (r0<c))) HA:=by show(aH _ _ _ H).bind _=_;rw[a1,Rs.bind_ok,a3,Rs.bind_ok];rfl
  rw[a4];rfl
 have hmi:=DQ DA.m (k:=i) (by omega);have hmj:=DQ DA.m (k:=j) (by omega);generalize ms[i]=va at hmi;generalize ms[j]=vb at hmj;have w2:∀b,∃b',q2 (ev st ip im n w d1 ys (some (.int i)) (some (.int j)) (some (.bl b))) HA=.nx (ev st ip im n w d1 ys (some (.int i)) (some (.int j)) (some (.bl b'))) HA:=λb=>by
  by_cases q:w=3
  ·subst q;refine⟨va==vb, ?_⟩;simp[q2,aY,mB,m2,aA,mC,Com.eq_int,cS,aQ,hmi,hmj,aG]
  ·refine⟨b, ?_⟩;have q':(w==3)=false:=by simpa using q
   simp[q2,aY,mB,m2,aA,mC,Com.eq_int,q',cS,bH]
 have w3:∀b,∃b',q3 (ev st ip im n w d1 ys (some (.int i)) (some (.int j)) (some (.bl b))) HA=.nx (ev st ip im n w d1 ys (some (.int i)) (some (.int j)) (some (.bl b'))) HA:=λb=>by
  by_cases q:w=4
  ·subst q;refine⟨decide (va<vb), ?_⟩;simp[q3,aY,mB,m2,aA,mC,Com.eq_int,cS,aQ,hmi,hmj,fR,aG]
  ·refine⟨b, ?_⟩;have q':(w==4)=false:=by simpa using q
   simp[q3,aY,mB,m2,aA,mC,Com.eq_int,q',cS,bH]
 obtain⟨b2,w2⟩:=w2 (decide (r0<c));obtain⟨b,w3⟩:=w3 b2;have t:bV (aA 9) (ev st ip im n w d1 ys (some (.int i)) (some (.int j)) (some (.bl b))) HA=.ok b HA:=rfl;unfold oB;rw[bJ w1,bJ w2,bJ w3];unfold q4
 cases b with
 |false=>refine⟨some (.bl false),HA,ps, ?_,epA,.inl rfl,DA,fHA.mono (by simp)⟩;rw[pT t];rfl
 |true=>
  have hyi:=DZ (H:=HA) (ys:=ys) (k:=i) (by omega);have hyj:=DZ (H:=HA) (ys:=ys) (k:=j) (by omega);generalize ys.getD i 0=va at hyi ⊢;generalize ys.getD j 0=vb at hyj ⊢;have hz:(ps.map aK).length<1000000:=by rw[bj];omega
  have fC:Fr [ip] HA (HA.set ip (.lst ((ps++[(va,vb)]).map aK))):=Fr.set;refine⟨some (.bl true),HA.set ip (.lst ((ps++[(va,vb)]).map aK)),ps++[(va,vb)], ?_,iU epA,.inr rfl,DA.fr fC (DA.s.fr fC (by simpa using da h3)) (by simpa using h5),(fHA.mono (T:=[st,ip]) (by simp)).trans fC (by simp)⟩;rw[sM t];have isP':iR (.ref ip) HA=true:=by simp[iR,epA]
  have happ:lR (.ref ip) (.tup [.int (va),.int (vb)]) HA=.ok .non (HA.set ip (.lst ((ps++[(va,vb)]).map aK))):=by simp only[lR,epA,hz,if_true,ic];rfl
  simp[dY,hG,aA,isP',aR,aB,m2,hyi,hyj,aC,lim,happ]
def yV:MS:=cK (aV jR (aB (m2 bQ (aA 7) (mC (.int 1))) (aB (aA 2) aC))) (aG 8) oB
theorem z0i {H:Hs}{x8 x9:Option Dv}{ps:List (Int×Int)}{i:Nat}(D:Sd st im ms H) (ep:getL H ip=some (ps.map aK)) (hw:0<=w/\w<5) (hi:i<n) (hn:n<=6) (hy:ys.length=n) (hm:ms.length=n) (hl:ps.length<=500) (hb:qE ys n ps)
  (h2:im≠st) (h3:ip≠st) (h5:im≠ip):
  ∃(x8' x9':Option Dv) (H':Hs) (ps':List (Int×Int)),yV (ev st ip im n w d1 ys (some (.int i)) x8 x9) H=.nx (ev st ip im n w d1 ys (some (.int i)) x8' x9') H'/\getL H' ip=some (ps'.map aK)/\qE ys n ps'/\ps'.length<=ps.length+6/\Sd st im ms H'/\Fr [st,ip] H H':=by
 have hi0:aV jR (aB (m2 bQ (aA 7) (mC (.int 1))) (aB (aA 2) aC)) (ev st ip im n w d1 ys (some (.int i)) x8 x9) H=.ok (cF ((i:Int)+1) n) H:=by have q:aB (m2 bQ (aA 7) (mC (.int 1))) (aB (aA 2) aC) (ev st ip im n w d1 ys (some (.int i)) x8 x9) H=.ok [.int ((i:Int)+1),.int n] H:=rfl;unfold aV;rw[q,Rs.bind_ok];exact MM (by omega) (by omega) (by omega) (by omega)
 have hN:(cF ((i:Int)+1) (n:Int)).n=n - (i+1):=by show((n:Int) - ((i:Int)+1)).toNat=_;omega
 obtain⟨ρ',H',r1,x8',x9',ps',e1,e2,e3,e4,e5,e6⟩:=kL (b:=oB) (sg:=aG 8) hi0 (λk ρ H'=>∃(x8' x9':Option Dv) (ps':List (Int×Int)),ρ=ev st ip im n w d1 ys (some (.int i)) x8' x9'/\getL H' ip=some (ps'.map aK)/\qE ys n ps'/\ps'.length<=ps.length+k/\Sd st im ms H'/\Fr [st,ip] H H')
  (λk ρ H' hk ⟨x8',x9',ps',e1,e2,e3,e4,e5,e6⟩=>by
   subst e1;rw[hN]at hk;have hj:i+1+k<n:=by omega
   obtain⟨x9n,H2,ps2,b1,b2,b3,b4,b5⟩:=z0h (x9:=x9') (w:=w) (d1:=d1) (ip:=ip) (n:=n) (i:=i) (j:=i+1+k) (ys:=ys) e5 e2 hw hi hj hy hm (by omega) h2 h3 h5;have ej:(((i+1+k:Nat)):Int)=(i:Int)+1+(k:Int):=by omega
   rw[ej]at b1;refine⟨.int ((i:Int)+1+(k:Int)),ev st ip im n w d1 ys (some (.int i)) (some (.int ((i:Int)+1+(k:Int)))) x9',_,H2,rfl,rfl,b1,_,_,ps2,rfl,b2, ?_, ?_,b4,e6.trans b5 λj hj=>.inl hj⟩
   ·rcases b3 with rfl|rfl
    ·exact e3
    ·intro p hp
     rcases bx.mp hp with hp|hp
     ·exact e3 p hp
     ·rw[cp.mp hp];exact⟨i,i+1+k,by omega,hj,rfl⟩
   ·rcases b3 with rfl|rfl
    ·omega
    ·rw[bq];simp;omega) (λ_ _ _=>rfl) ⟨x8,x9,ps,rfl,ep,hb,by omega,D,Fr.refl⟩
 rw[hN]at e4;exact⟨x8',x9',H',ps',by unfold yV;rw[r1,e1],e2,e3,by omega,e5,e6⟩
def EA:MS:=cK (aV cC (aB (aA 2) aC)) (aG 7) yV
theorem z0j {H:Hs}{x7 x8 x9:Option Dv}(D:Sd st im ms H) (ep:getL H ip=some (([]:List (Int×Int)).map aK)) (hw:0<=w/\w<5) (hn:n<=6) (hy:ys.length=n) (hm:ms.length=n)
  (h2:im≠st) (h3:ip≠st) (h5:im≠ip):
  ∃(x7' x8' x9':Option Dv) (H':Hs) (ps':List (Int×Int)),EA (ev st ip im n w d1 ys x7 x8 x9) H=.nx (ev st ip im n w d1 ys x7' x8' x9') H'/\getL H' ip=some (ps'.map aK)/\qE ys n ps'/\ps'.length<=36/\Sd st im ms H'/\Fr [st,ip] H H':=by
 have hi0:aV cC (aB (aA 2) aC) (ev st ip im n w d1 ys x7 x8 x9) H=.ok (cF 0 n) H:=by have q:aB (aA 2) aC (ev st ip im n w d1 ys x7 x8 x9) H=.ok [.int n] H:=rfl;unfold aV;rw[q,Rs.bind_ok];exact tP (by omega) (by omega)
 have hN:(cF 0 (n:Int)).n=n:=by simp[cF]
 obtain⟨ρ',H',r1,x7',x8',x9',ps',e1,e2,e3,e4,e5,e6⟩:=kL (b:=yV) (sg:=aG 7) hi0 (λk ρ H'=>∃(x7' x8' x9':Option Dv) (ps':List (Int×Int)),ρ=ev st ip im n w d1 ys x7' x8' x9'/\getL H' ip=some (ps'.map aK)/\qE ys n ps'/\ps'.length<=6*k/\Sd st im ms H'/\Fr [st,ip] H H')
  (λk ρ H' hk ⟨x7',x8',x9',ps',e1,e2,e3,e4,e5,e6⟩=>by
   subst e1;rw[hN]at hk;obtain⟨x8n,x9n,H2,ps2,b1,b2,b3,b4,b5,b6⟩:=z0i (x8:=x8') (x9:=x9') (w:=w) (d1:=d1) (ip:=ip) (n:=n) (i:=k) (ys:=ys) e5 e2 hw hk hn hy hm (by omega) e3 h2 h3 h5;have ek:(0:Int)+(k:Int)=(k:Int):=by omega
   refine⟨.int (0+(k:Int)),ev st ip im n w d1 ys (some (.int k)) x8' x9',_,H2,rfl,by rw[ek];rfl,b1,_,_,_,ps2,rfl,b2,b3,by omega,b5,e6.trans b6 λj hj=>.inl hj⟩) (λ_ _ _=>rfl) ⟨x7,x8,x9,[],rfl,ep,λp hp=>by simp at hp,by simp,D,Fr.refl⟩
 rw[hN]at e4;exact⟨x7',x8',x9',H',ps',by unfold EA;rw[r1,e1],e2,e3,by omega,e5,e6⟩
end
def MT:M (List Dv):=(aB (mC (.int 0)) (aB (mC (.int 0)) (aB (mC (.int 1)) (aB (mC (.int 0)) (aB (mC (.int 2)) (aB (mC (.int 1)) (aB (mC (.int 3)) (aB (m2 fQ (aA 1) (mC (.int 1))) aC))))))))
def z1:MS:=aQ (m2 fQ (aA 1) (m2 aN (aX MT) (aH F_qv (aB (aA 0) (aB (mC (.int 8)) aC))))) (aG 2)
def z2:MS:=aQ (aH gL (aB (mC (.int 1)) (aB (aA 2) aC))) (aG 2)
def z3:MS:=aQ (aH F_qp (aB (aA 0) (aB (aA 2) aC))) (aG 3)
def z4:MS:=aQ (aH F_qv (aB (aA 0) (aB (mC (.int 5)) aC))) (aG 4)
def EC:M (List Dv):=bX (bO dU (aA 3)) [none,some 0] (aG 0) cT (bP (aH F_qv (aB (aA 1) (aB (mC (.int 3)) aC))))
def z5:MS:=aQ (cH EC) (aG 5)
def z6:MS:=aQ (aX aC) (aG 6)
def z9:MS:=aT (aR (aB (aA 2) (aB (aH F_qh (aB (aA 2) (aB (aA 6) aC))) aC)))
theorem z0k:xN=aM z1 (aM z2 (aM z3 (aM z4 (aM z5 (aM z6 (aM EA z9)))))):=rfl
section
variable{st:Nat}
theorem z0l {H:Hs}{x2 x3 x4 x5 x6 x7 x8 x9:Option Dv}(s:Com.St st H):∃(v:Int) (H':Hs),0<=v/\v<=5/\z1 [some (.ref st),some (.int 6),x2,x3,x4,x5,x6,x7,x8,x9] H=.nx [some (.ref st),some (.int 6),some (.int (6 - v)),x3,x4,x5,x6,x7,x8,x9] H'/\Com.St st H'/\Fr [st] H H':=by
 have fA:Fr [] H (H++[Ob.lst [.int 0,.int 0,.int 1,.int 0,.int 2,.int 1,.int 3,.int 5]]):=Fr.app;have eA:getL (H++[Ob.lst [.int 0,.int 0,.int 1,.int 0,.int 2,.int 1,.int 3,.int 5]]) H.length=some (([0,0,1,0,2,1,3,5]:List Int).map Dv.int):=by simp[getL]
 have sA:=s.fr fA (by simp);have lt:=s.lt;have hd:aX MT [some (.ref st),some (.int 6),x2,x3,x4,x5,x6,x7,x8,x9] H=.ok (.ref H.length) (H++[Ob.lst [.int 0,.int 0,.int 1,.int 0,.int 2,.int 1,.int 3,.int 5]]):=rfl;generalize H++[Ob.lst [.int 0,.int 0,.int 1,.int 0,.int 2,.int 1,.int 3,.int 5]]=HA at fA eA sA hd;obtain⟨r,H1,r0,r1,t1,f1,s1⟩:=oQ 8 sA;have e1:=f1.getL eA (by simp;omega);obtain⟨k,rfl⟩:∃k:Nat,r=k:=⟨r.toNat,by omega⟩
 have hk:k<8:=by omega
 have hx:=DQ e1 (k:=k) (by simpa using hk);have hv:0<=([0,0,1,0,2,1,3,5]:List Int)[k]/\([0,0,1,0,2,1,3,5]:List Int)[k]<=5:=by
  match k,hk with
  |0,_=>simp
  |1,_=>simp
  |2,_=>simp
  |3,_=>simp
  |4,_=>simp
  |5,_=>simp
  |6,_=>simp
  |7,_=>simp
 generalize ([0,0,1,0,2,1,3,5]:List Int)[k]=v at hx hv;refine⟨v,H1,hv.1,hv.2, ?_,s1,fA.mono (T:=[st]) (by simp) |>.trans f1 (by simp)⟩;have ht:aH F_qv (aB (aA 0) (aB (mC (.int 8)) aC)) [some (.ref st),some (.int 6),x2,x3,x4,x5,x6,x7,x8,x9] HA=.ok (.int k) H1:=by simp[aH,aB,aA,mC,aC,t1]
 unfold z1 aQ m2;show((Rs.ok (Dv.int 6) H).bind _).thenS _=_;rw[Rs.bind_ok,hd,Rs.bind_ok,ht,Rs.bind_ok,hx,Rs.bind_ok];rfl
theorem z0m {H:Hs}{ys:List Int}{x1 x2 x4 x5 x6 x7 x8 x9:Option Dv}(s:Com.St st H) (hl:ys.length<=100):∃(ms:List Int) (H':Hs),ms.length=ys.length/\z5 [some (.ref st),x1,x2,some (.tup (ys.map Dv.int)),x4,x5,x6,x7,x8,x9] H=.nx [some (.ref st),x1,x2,some (.tup (ys.map Dv.int)),x4,some (.ref H'.length),x6,x7,x8,x9] (H'++[.lst (ms.map Dv.int)])/\Com.St st H'/\Fr [st] H H':=by
 have hi:bO dU (aA 3) [some (.ref st),x1,x2,some (.tup (ys.map Dv.int)),x4,x5,x6,x7,x8,x9] H=.ok (cJ (ys.map Dv.int)) H:=rfl;obtain⟨ρ',H',acc',h1,a,ms,h2,h3,h4,h5,h6⟩:=wC (src:=cJ (ys.map Dv.int)) (sg:=aG 0) (t:=cT) (m:=bP (aH F_qv (aB (aA 1) (aB (mC (.int 3)) aC))))
  (λk ρ H' acc=>∃(a:Option Dv) (ms:List Int),ρ=[a,some (.ref st)]/\acc=ms.map Dv.int/\ms.length=k/\Com.St st H'/\Fr [st] H H')
  (λk ρ H' acc hk ⟨a,ms,e1,e2,e3,e4,e5⟩=>by
   subst e1;subst e2;have hk':k<ys.length:=by simpa[cJ]using hk
   obtain⟨r,H1,r0,r1,t1,f1,s1⟩:=oQ 3 e4;refine⟨.int ys[k],[some (.int ys[k]),some (.ref st)],by simp[cJ,hk'],rfl,.inr ⟨H',[some (.int ys[k]),some (.ref st)],(ms++[r]).map Dv.int,H1,rfl, ?_,_,ms++[r],rfl,rfl,by simp[e3],s1,e5.trans f1 (by simp)⟩⟩;have hz:ms.length<1000000:=by omega
   simp[bP,aH,aB,aA,mC,aC,t1,hz]) (λρ H' acc _=>rfl) ys.length 0 [none,some (.ref st)] H [] (by simp[cJ]) ⟨none,[],rfl,rfl,rfl,s,Fr.refl⟩
 refine⟨ms,H',by simpa[cJ]using h4, ?_,h5,h6⟩;have hc:EC [some (.ref st),x1,x2,some (.tup (ys.map Dv.int)),x4,x5,x6,x7,x8,x9] H=.ok (ms.map Dv.int) H':=by unfold EC bX;rw[hi,Rs.bind_ok];have hcap:iP [none,some 0] [some (.ref st),x1,x2,some (.tup (ys.map Dv.int)),x4,x5,x6,x7,x8,x9]=[none,some (.ref st)]:=rfl;rw[hcap,show(cJ (ys.map Dv.int)).n=ys.length by simp[cJ],h1];dsimp only;rw[h3]
 unfold z5 aQ cH;rw[hc];rfl
theorem z0n {H:Hs}(s:Com.St st H):∃(n:Nat) (cs:List (Int×Int)) (H':Hs),F_qq [.ref st,.int 6] H=.ok (bB n cs) H'/\OrdP n cs/\Com.St st H'/\Fr [st] H H':=by
 have lt:=s.lt;obtain⟨v,H1,v0,v1,w1,s1,f1'⟩:=z0l (x2:=none) (x3:=none) (x4:=none) (x5:=none) (x6:=none) (x7:=none) (x8:=none) (x9:=none) s;obtain⟨n,hn⟩:∃n:Nat,(6:Int) - v=n:=⟨(6 - v).toNat,by omega⟩
 have n1:1<=n:=by omega
 have n6:n<=6:=by omega
 rw[hn]at w1;have w2:z2 [some (.ref st),some (.int 6),some (.int n),none,none,none,none,none,none,none] H1=.nx [some (.ref st),some (.int 6),some (.int n),none,none,none,none,none,none,none] H1:=by
  have hm:gL [.int 1,.int (n:Int)] H1=.ok (.int n) H1:=by
   show Rs.ok (Dv.int (if(n:Int)>1 then(n:Int)else 1)) H1=_
   split
   ·rfl
   ·rw[show(1:Int)=n by omega]
  simp[z2,aQ,aH,aB,mC,aA,aC,hm,aG]
 obtain⟨ys,H2,t2,pm,s2,f2⟩:=z08 s1 n6;have hy:ys.length=n:=by rw[pm.length_eq];simp[cG]
 have w3:z3 [some (.ref st),some (.int 6),some (.int n),none,none,none,none,none,none,none] H1=.nx [some (.ref st),some (.int 6),some (.int n),some (.tup (ys.map Dv.int)),none,none,none,none,none,none] H2:=by generalize ys.map Dv.int=Y at t2;simp[z3,aQ,aH,aB,aA,aC,t2,aG]
 obtain⟨w,H3,w0,w5,t3,f3,s3⟩:=oQ 5 s2;have w4:z4 [some (.ref st),some (.int 6),some (.int n),some (.tup (ys.map Dv.int)),none,none,none,none,none,none] H2=.nx [some (.ref st),some (.int 6),some (.int n),some (.tup (ys.map Dv.int)),some (.int w),none,none,none,none,none] H3:=by simp[z4,aQ,aH,aB,aA,mC,aC,t3,aG]
 obtain⟨ms,H4,hm,w6,s4,f4⟩:=z0m (ys:=ys) (x1:=some (.int 6)) (x2:=some (.int n)) (x4:=some (.int w)) (x5:=none) (x6:=none) (x7:=none) (x8:=none) (x9:=none) s3 (by omega);have fN:Fr [] H4 (H4++[Ob.lst (ms.map Dv.int)]):=Fr.app;have gN:getL (H4++[Ob.lst (ms.map Dv.int)]) H4.length=some (ms.map Dv.int):=by simp[getL]
 have l4:=s4.lt;obtain⟨im,him⟩:∃im,im=H4.length:=⟨_,rfl⟩
 rw[<-him]at w6 gN;have s5:=s4.fr fN (by simp);have hle5:(H4++[Ob.lst (ms.map Dv.int)]).length=im+1:=by simp[him]
 generalize H4++[Ob.lst (ms.map Dv.int)]=H5 at w6 gN s5 fN hle5;have w7:z6 [some (.ref st),some (.int 6),some (.int n),some (.tup (ys.map Dv.int)),some (.int w),some (.ref im),none,none,none,none] H5=.nx [some (.ref st),some (.int 6),some (.int n),some (.tup (ys.map Dv.int)),some (.int w),some (.ref im),some (.ref H5.length),none,none,none] (H5++[.lst []]):=rfl;have fM:Fr [] H5 (H5++[Ob.lst []]):=Fr.app;have eP:getL (H5++[Ob.lst []]) H5.length=some (([]:List (Int×Int)).map aK):=by simp[getL]
 have D:Sd st im ms (H5++[Ob.lst []]):=⟨s5.fr fM (by simp),fM.getL gN (by simp)⟩
 obtain⟨x7,x8,x9,H6,ps,w8,eP6,hb,hlp,D6,f6⟩:=z0j (d1:=.int 6) (w:=w) (ip:=H5.length) (n:=n) (ys:=ys) (x7:=none) (x8:=none) (x9:=none) D eP ⟨w0,w5⟩ n6 hy (by omega) (by omega) (by omega) (by omega);obtain⟨cs,H7,t7,o,f7⟩:=z0g n1 n6 eP6 (by omega) (z05 pm hb);have hfall:Fr [st] H H7:=by
  have g1:Fr [st] H H3:=(f1'.trans f2 (by simp)).trans f3 (by simp);have g2:Fr [st] H (H5++[Ob.lst []]):=((g1.trans f4 (by simp)).trans fN (by simp)).trans fM (by simp);refine(g2.trans f6 λj hj=>?_).trans f7 (by simp)
  rcases bg.mp hj with rfl|hj
  ·exact .inl (by simp)
  ·rw[cp.mp hj];have:=g1.le;have:=f4.le;right;omega
 refine⟨n,cs,H7, ?_,o,D6.s.fr f7 (by simp),hfall⟩;show bM (xN [some (.ref st),some (.int 6),none,none,none,none,none,none,none,none] H)=_;rw[z0k,bJ w1,bJ w2,bJ w3,bJ w4,bJ w6,bJ w7,bJ w8];have w9:z9 (ev st H5.length im n w (.int 6) ys x7 x8 x9) H6=.rt (bB n cs) H7:=by
  have h1:aH F_qh (aB (aA 2) (aB (aA 6) aC)) (ev st H5.length im n w (.int 6) ys x7 x8 x9) H6=.ok (.tup (cs.map aK)) H7:=by show(aB (aA 2) (aB (aA 6) aC) (ev st H5.length im n w (.int 6) ys x7 x8 x9) H6).bind _=_;have:aB (aA 2) (aB (aA 6) aC) (ev st H5.length im n w (.int 6) ys x7 x8 x9) H6=.ok [.int n,.ref H5.length] H6:=rfl;rw[this,Rs.bind_ok,t7]
  unfold z9 aT aR aB;show((((Rs.ok (Dv.int n) H6).bind _).bind _).thenS _)=_;rw[Rs.bind_ok];show(((((aH F_qh (aB (aA 2) (aB (aA 6) aC)) (ev st H5.length im n w (.int 6) ys x7 x8 x9) H6).bind _).bind _).bind _).thenS _)=_;rw[h1];rfl
 rw[w9];rfl
end
end L2.Mr.Cod
namespace L2.Mr.K01
open PySem PySem.Spec PyProof.Rows L2 L2.Mr L2.Mr.Com
end L2.Mr.K01
namespace L2.Mr.Com
open PySem PySem.Spec PyProof.Rows L2 L2.Mr
def T0 (H:Hs):Dv->Prop
 | .ref i=>∃xs,getL H i=some xs
 | .exc _=>False
 | .scr=>False
 |_=>True
def TK:Nat->Hs->Dv->Prop
 |0,H,d=>T0 H d
 |k+1,H,d=>T0 H d/\∀ds,d=.tup ds->ds.length<=500/\∀x∈ds,TK k H x
theorem TK.t0:∀{k:Nat}{H:Hs}{d:Dv},TK k H d->T0 H d
 |0,_,_,h=>h
 |_+1,_,_,h=>h.1
theorem TK.tup {k:Nat}{H:Hs}{ds:List Dv}(hl:ds.length<=500) (h:∀x∈ds,TK k H x):TK (k+1) H (.tup ds):=⟨trivial,λ_ e=>by cases e;exact⟨hl,h⟩⟩
theorem TK.of {k:Nat}{H:Hs}{d:Dv}(h0:T0 H d) (h:∀ds,d≠.tup ds):TK k H d:=by
 cases k with
 |zero=>exact h0
 |succ k=>exact⟨h0,λds e=>absurd e (h ds)⟩
theorem T0.fr {st:Nat}{H H':Hs}{d:Dv}(h:T0 H d) (f:Fr [st] H H') (s:St st H'):T0 H' d:=by
 cases d with
 |ref i=>
  obtain⟨xs,e⟩:=h
  by_cases c:i=st
  ·subst c;obtain⟨a,b,e⟩:=s;exact⟨_,e⟩
  ·exact⟨xs,f.getL e (by simpa using c)⟩
 |_=>exact h
theorem TK.fr {st:Nat}{H H':Hs}(f:Fr [st] H H') (s:St st H'):∀{k:Nat}{d:Dv},TK k H d->TK k H' d
 |0,_,h=>T0.fr h f s
 |k+1,_,h=>⟨h.1.fr f s,λds e=>⟨(h.2 ds e).1,λx hx=>TK.fr f s ((h.2 ds e).2 x hx)⟩⟩
def oS:Dv->Bool
 | .tup _=>true
 |_=>false
def isInt:Dv->Bool
 | .int _=>true
 |_=>false
section
variable{H:Hs}{d:Dv}{n:Int}
theorem ED (h:T0 H d):bG gD d H=.ok (.bl (oS d)) H:=by
 cases d with
 |ref i=>obtain⟨xs,e⟩:=h;simp[bG,gM,e,gD,oS]
 |exc c=>exact h.elim
 |scr=>exact h.elim
 |_=>rfl
theorem z0o (h:T0 H d):bG mX d H=.ok (.bl (match d with | .int _=>true | .bl _=>true|_=>false)) H:=by
 cases d with
 |ref i=>obtain⟨xs,e⟩:=h;simp[bG,gM,e,mX]
 |exc c=>exact h.elim
 |scr=>exact h.elim
 |_=>rfl
theorem z0p (h:T0 H d):bG jV d H=.ok (.bl (match d with | .bl _=>true|_=>false)) H:=by
 cases d with
 |ref i=>obtain⟨xs,e⟩:=h;simp[bG,gM,e,jV]
 |exc c=>exact h.elim
 |scr=>exact h.elim
 |_=>rfl
theorem z0q (h:T0 H d):F_qx [d] H=.ok (.bl (isInt d)) H:=by
 have e1:=z0o h;have e2:=z0p h
 cases d <;> simp[F_qx,xA,aZ,bU,aT,dF,m1,aA,e1,e2,mI,bM,isInt]
def lZ (lo hi:Int):Dv->Bool
 | .int x=>decide (lo<=x)&&decide (x<=hi)
 |_=>false
theorem EE {lo hi:Int}(h:T0 H d):F_qi [d,.int lo,.int hi] H=.ok (.bl (lZ lo hi d)) H:=by
 have w:=z0q h
 cases d with
 |int x=>exact yR
 |_=>simp[F_qi,sW,aZ,bU,aT,dF,aH,aB,aA,aC,w,isInt,bM,lZ]
def tB (n:Int) (d:Dv):Bool:=lZ 0 (n - 1) d
theorem z0r (h:T0 H d):F_qy [.int n,d] H=.ok (.bl (tB n d)) H:=by simp[F_qy,xB,aZ,bU,aT,aH,aB,aA,aC,mC,m2,fQ,fI,EE h,bM,tB]
def qG (n:Int):Dv->Bool
 | .tup ys=>ys.all (tB n)
 |_=>false
theorem z0s (h:TK 1 H d):F_qj [.int n,d] H=.ok (.bl (qG n d)) H:=by
 have e:=ED h.1
 cases d with
 |tup xs=>obtain⟨hl,hx⟩:=h.2 xs rfl;have h:bX (bO dU (aA 1)) [none,some 0] (aG 0) cT (bP (aH F_qy (aB (aA 1) (aB (aA 0) aC)))) [some (.int n),some (.tup xs)] H=.ok (xs.filterMap λx=>some (.bl (tB n x))) H:=iV xs (λx=>some (.bl (tB n x))) (λρ=>∃a,ρ=[a,some (.int n)]) rfl (by simp[cJ]) ⟨_,rfl⟩ rfl (λk hk ρ ⟨a,e⟩=>by subst e;exact⟨xs[k],_,by simp[cJ,hk],rfl,⟨_,rfl⟩,rfl,by simp[aH,aB,aA,aC,z0r (hx xs[k] (dm hk))]⟩) (by omega);simp[F_qj,sX,aZ,bU,aT,dF,m1,bG,aA,gM,gD,oP h,bM,qG]
 |_=>simp[F_qj,sX,aZ,bU,aT,dF,m1,aA,e,oS,bM,qG]
def pB (n:Int):Dv->Bool
 | .tup ys=>ys.all (tB n)&&decide (ys.length=2)
 |_=>false
theorem z0t (ys:List Dv):f1 eZ [.tup ys] H=.ok (.int ys.length) H:=rfl
theorem z0u (h:TK 1 H d):F_q3 [.int n,d] H=.ok (.bl (pB n d)) H:=by
 have h1:=z0s (n:=n) h
 cases d with
 |tup ys=>
  cases q:ys.all (tB n)with
  |false=>simp[F_q3,oI,aZ,bU,aT,dF,aH,aB,aA,aC,h1,qG,pB,q,bM]
  |true=>
   have e:((ys.length:Int)==2)=decide (ys.length=2):=by rw[gg];simp;omega
   simp[F_q3,oI,aZ,bU,aT,dF,aH,aB,aA,aC,h1,qG,pB,q,bM,m2,z0t,mC,eq_int,e]
 |_=>simp[F_q3,oI,aZ,bU,aT,dF,aH,aB,aA,aC,h1,qG,pB,bM]
theorem z0v {xs:List Dv}(h:TK 2 H (.tup xs)):F_qs [.int n,.tup xs] H=.ok (.bl (xs.all (pB n))) H:=by obtain⟨hl,hx⟩:=h.2 xs rfl;have h:bX (bO dU (aA 1)) [none,some 0] (aG 0) cT (bP (aH F_q3 (aB (aA 1) (aB (aA 0) aC)))) [some (.int n),some (.tup xs)] H=.ok (xs.filterMap λp=>some (.bl (pB n p))) H:=iV xs (λp=>some (.bl (pB n p))) (λρ=>∃a,ρ=[a,some (.int n)]) rfl (by simp[cJ]) ⟨_,rfl⟩ rfl (λk hk ρ ⟨a,e⟩=>by subst e;exact⟨xs[k],_,by simp[cJ,hk],rfl,⟨_,rfl⟩,rfl,by simp[aH,aB,aA,aC,z0u (hx xs[k] (dm hk))]⟩) (by omega);simp[F_qs,xC,aZ,bU,aT,oP h,bM]
def oU:Dv->Option (Int×Int)
 | .tup [.int a,.int b]=>some (a,b)
 |_=>none
theorem z0w {x:Dv}(h:pB n x=true):∃p,x=aK p/\oU x=some p:=by
 match x,h with
 | .tup [.int a,.int b],_=>exact⟨(a,b),rfl,rfl⟩
 | .tup [a,b],h=>
  simp[pB]at h;obtain⟨h1,h2⟩:=h
  cases a <;> first|(cases h1;done)|skip
  cases b <;> first|(cases h2;done)|skip
  exact⟨_,rfl,rfl⟩
 | .tup [],h=>simp[pB]at h
 | .tup [_],h=>simp[pB]at h
 | .tup (_::_::_::_),h=>simp[pB]at h
theorem MU:∀{xs:List Dv},(∀x∈xs,∃p,x=aK p/\oU x=some p)->xs=(xs.filterMap oU).map aK
 | [],_=>rfl
 |x::xs,h=>by obtain⟨p,e,q⟩:=h x (by simp);rw[List.filterMap_cons_some q,dg,<-MU λy hy=>h y (by simp[hy]),<-e]
def gS:Dv->Bool
 | .tup [.int n,.tup xs]=>xs.all (pB n)&&qD n (xs.filterMap oU)
 |_=>false
theorem hJ {ds:List Dv}(h:ds.length≠2):∃L:Int,f1 eZ [.tup ds] H=.ok (.int L) H/\cP (.int L) (.int 2) H=.ok (.bl true) H:=by
 refine⟨ds.length,rfl, ?_⟩;have:((ds.length:Int)==2)=false:=by simp;omega
 simp[cP,cE,bN,bS,this]
theorem EF {ds:List Dv}(h:ds.length≠2):F_qz [.tup ds] H=.ok (.bl false) H:=by obtain⟨L,hlen,hne⟩:=hJ (H:=H) h;have e:bG gD (.tup ds) H=.ok (.bl true) H:=rfl;simp[F_qz,nB,aZ,bU,aM,aY,gJ,dJ,bV,m1,aA,mB,m2,aH,aB,aC,mC,aT,e,eQ,hlen,hne,cS,bM]
theorem EG {ds:List Dv}(h:ds.length≠2):gS (.tup ds)=false:=by
 unfold gS
 split
 ·rename_i e;cases e;simp at h
 ·rfl
theorem z0x (h:TK 3 H d):F_qz [d] H=.ok (.bl (gS d)) H:=by
 have e:=ED h.1
 cases d with
 |tup ds=>
  obtain⟨hl,hx⟩:=h.2 ds rfl
  match ds,hl,hx,e,h with
  | [a,b],hl,hx,e,h=>
   have ha:=hx a (by simp);have hb:=hx b (by simp);have b1:=EE (lo:=1) (hi:=6) ha.t0;have b2:=ED hb.t0;have hlen:f1 eZ [.tup [a,b]] H=.ok (.int 2) H:=rfl
   cases q1:lZ 1 6 a with
   |false=>
    rw[q1]at b1;have:gS (.tup [a,b])=false:=by
     cases a with
     |int n=>
      cases b with
      |tup xs=>
       have:¬ (1<=n/\n<=6):=by simpa[lZ]using q1
       simp only[gS,Bool.and_eq_false_iff];right;unfold qD
       by_cases c:1<=n
       ·have:¬ n<=6:=λc'=>this ⟨c,c'⟩;simp[this]
       ·simp[c]
      |_=>rfl
     |_=>rfl
    rw[this];simp[F_qz,nB,aZ,bU,aM,aY,gJ,dJ,bV,m1,aA,e,oS,eQ,mB,m2,aH,aB,aC,hlen,mC,cP,cE,bN,bS,cS,bH,aQ,cV,bL,aG,cW,b1,aT,bM]
   |true=>
    rw[q1]at b1
    cases a with
    |int n=>
     cases b with
     |tup xs=>
      have p1:=z0v (n:=n) hb
      cases q2:xs.all (pB n)with
      |false=>rw[q2]at p1;simp[gS,q2,F_qz,nB,aZ,bU,aM,aY,gJ,dJ,bV,m1,aA,e,b2,oS,eQ,mB,m2,aH,aB,aC,hlen,mC,cP,cE,bN,bS,cS,bH,aQ,cV,bL,aG,cW,b1,p1,aT,bM]
      |true=>
       have ex:=MU λx hx=>z0w (ed.mp q2 x hx);have hle:(xs.filterMap oU).length<=900:=by have:=ij oU xs;have:=(hb.2 xs rfl).1;omega
       have:=MI (H:=H) (n:=n) (ps:=xs.filterMap oU) hle;rw[<-ex]at this;rw[this];simp[gS,q2]
     |_=>simp[gS,F_qz,nB,aZ,bU,aM,aY,gJ,dJ,bV,m1,aA,e,b2,oS,eQ,mB,m2,aH,aB,aC,hlen,mC,cP,cE,bN,bS,cS,bH,aQ,cV,bL,aG,cW,b1,aT,bM]
    |_=>cases q1
  | [],hl,hx,e,h=>exact(EF (by simp)).trans (by rw[EG (by simp)])
  | [a],hl,hx,e,h=>exact(EF (by simp)).trans (by rw[EG (by simp)])
  |a::b::c::r,hl,hx,e,h=>exact(EF (by simp)).trans (by rw[EG (by simp)])
 |_=>simp[F_qz,nB,aZ,bU,aM,aY,gJ,dJ,bV,m1,aA,e,oS,eQ,mC,aT,bM,gS]
end
section
variable{H:Hs}{d:Dv}{n:Int}
end
section
variable{H:Hs}{d:Dv}
end
theorem T0.fr0 {H H':Hs}{d:Dv}(h:T0 H d) (f:Fr [] H H'):T0 H' d:=by
 cases d with
 |ref i=>obtain⟨xs,e⟩:=h;exact⟨xs,f.getL e (by simp)⟩
 |_=>exact h
theorem TK.fr0 {H H':Hs}(f:Fr [] H H'):∀{k:Nat}{d:Dv},TK k H d->TK k H' d
 |0,_,h=>T0.fr0 h f
 |k+1,_,h=>⟨h.1.fr0 f,λds e=>⟨(h.2 ds e).1,λx hx=>TK.fr0 f ((h.2 ds e).2 x hx)⟩⟩
def MV (P:Ev->Hs->Prop):Prop:=∀ρ H H',P ρ H->Fr [] H H'->P ρ H'
def Wr (P:Ev->Hs->Prop) (k:Nat) (m:M Dv):Prop:=∀ρ H,P ρ H->∃d H',m ρ H=.ok d H'/\Fr [] H H'/\TK k H' d
def lI (P:Ev->Hs->Prop) (k n:Nat) (ms:M (List Dv)):Prop:=∀ρ H,P ρ H->∃ds H',ms ρ H=.ok ds H'/\Fr [] H H'/\ds.length=n/\∀x∈ds,TK k H' x
section
variable{P:Ev->Hs->Prop}{k n m':Nat}{m:M Dv}{ms:M (List Dv)}
theorem EH:lI P k 0 aC:=λρ H _=>⟨[],H,rfl,Fr.refl,rfl,λx hx=>by cases hx⟩
theorem EI (hP:MV P) (h:Wr P k m) (hs:lI P k n ms):lI P k (n+1) (aB m ms):=λρ H p=>by
 obtain⟨d,H1,e1,f1,t1⟩:=h ρ H p;obtain⟨ds,H2,e2,f2,l2,t2⟩:=hs ρ H1 (hP ρ H H1 p f1);refine⟨d::ds,H2, ?_,f1.trans f2 (by simp),by simp[l2],λx hx=>?_⟩
 ·unfold aB;rw[e1,Rs.bind_ok,e2,Rs.bind_ok]
 ·rcases bg.mp hx with rfl|hx
  ·exact t1.fr0 f2
  ·exact t2 x hx
theorem tU (h:∀ρ H,P ρ H->∃d,m ρ H=.ok d H/\TK k H d):Wr P k m:=λρ H p=>let ⟨d,e,t⟩:=h ρ H p;⟨d,H,e,Fr.refl,t⟩
theorem EJ {i:Int}:Wr P k (mC (.int i)):=tU λρ H _=>⟨_,rfl,TK.of trivial λ_ e=>by cases e⟩
theorem EK {i:Bool}:Wr P k (mC (.bl i)):=tU λρ H _=>⟨_,rfl,TK.of trivial λ_ e=>by cases e⟩
theorem EL:Wr P k (mC .non):=tU λρ H _=>⟨_,rfl,TK.of trivial λ_ e=>by cases e⟩
theorem EM {s}:Wr P k (mC (.str s)):=tU λρ H _=>⟨_,rfl,TK.of trivial λ_ e=>by cases e⟩
theorem EN:Wr P k (mC .edc):=tU λρ H _=>⟨_,rfl,TK.of trivial λ_ e=>by cases e⟩
theorem yW (h:lI P k n ms) (hn:n<=500):Wr P (k+1) (aR ms):=λρ H p=>by obtain⟨ds,H1,e1,f1,l1,t1⟩:=h ρ H p;refine⟨.tup ds,H1, ?_,f1,TK.tup (by omega) t1⟩;unfold aR lim;rw[e1,Rs.bind_ok,if_pos (by omega)]
theorem EO (h:lI P 0 n ms) (hn:n<=500):Wr P 0 (aR ms):=λρ H p=>let ⟨d,H',e,f,t⟩:=yW h hn ρ H p;⟨d,H',e,f,t.1⟩
theorem ER (h:lI P 0 n ms) (hn:n<=500):Wr P k (aX ms):=λρ H p=>by obtain⟨ds,H1,e1,f1,l1,t1⟩:=h ρ H p;refine⟨.ref H1.length,H1++[.lst ds], ?_,f1.trans (T:=[]) Fr.app (by simp),TK.of ⟨ds,by simp[getL]⟩ λ_ e=>by cases e⟩;unfold aX lim;rw[e1,Rs.bind_ok,if_pos (by omega)]
end
theorem ES {ρ:Ev}{H H1 H2:Hs}{st i j:Nat}{ml:M Dv}(hv:aA st ρ H=.ok (.ref i) H) (e1:ml ρ H=.ok (.ref j) H1) (e2:bQ (.ref i) (.ref j) H1=.ok (.ref H1.length) H2):m2 bQ (aA st) ml ρ H=.ok (.ref H1.length) H2:=by unfold m2;rw[hv,Rs.bind_ok,e1,Rs.bind_ok,e2]
end L2.Mr.Com
namespace L2.Mr.Cod
open PySem PySem.Spec PyProof.Rows L2 L2.Mr
open L2.Mr.Com
section
variable{H:Hs}
theorem z0y {n:Nat}{x:Int}:F_qw (n+1) [.int x,.int x] H=.ok (.bl true) H:=by simp[F_qw,sY,aZ,bU,aM,aY,bV,m1,bG,aA,gM,pP,eQ,bH,aT,dF,m2,cD,cE,bN,bS,jV,bM]
theorem z0z {n:Nat}{xs:List Dv}(hl:xs.length<=1000) (h:∀x∈xs,F_qw n [x,x] H=.ok (.bl true) H):F_qw (n+1) [.tup xs,.tup xs] H=.ok (.bl true) H:=by
 have hc:bX (aV mR (aB (aA 0) (aB (aA 1) aC))) [none,none] (cV 2 (bL (aG 0) (bL (aG 1) cW))) cT (bP (aH (F_qw n) (aB (aA 0) (aB (aA 1) aC)))) [some (.tup xs),some (.tup xs)] H=.ok (xs.filterMap λx=>some (.bl ((λ_=>true) x))) H:=iV xs (λx=>some (.bl ((λ_=>true) x))) (λρ=>∃a b,ρ=[a,b]) rfl (by simp[mQ,cJ]) ⟨_,_,rfl⟩ rfl (λk hk ρ ⟨a,b,e⟩=>by subst e;refine⟨.tup [xs[k],xs[k]],[some xs[k],some xs[k]],by simp[mQ,cJ,hk],rfl,⟨_,_,rfl⟩,rfl, ?_⟩;simp[aH,aB,aA,aC,h xs[k] (dm hk)]) (by omega);have hz:=oP hc;have ht:xs.all (λ_=>true)=true:=by simp
 rw[ht]at hz;have e1:bG pP (.tup xs) H=.ok (.bl true) H:=rfl;have e2:bG gD (.tup xs) H=.ok (.bl true) H:=rfl;have e3:bG sF (.tup xs) H=.ok (.bl false) H:=rfl;have e4:f1 eZ [.tup xs] H=.ok (.int xs.length) H:=rfl;have n1:cP (.bl true) (.bl true) H=.ok (.bl false) H:=rfl;have n2:cP (.bl false) (.bl false) H=.ok (.bl false) H:=rfl;have n3:∀i:Int,cP (.int i) (.int i) H=.ok (.bl false) H:=λi=>by simp[cP,cE,bN,bS]
 simp[F_qw,sY,aZ,bU,aM,aY,bV,m1,aA,e1,e2,e3,eQ,gJ,mB,m2,n1,n2,cS,bH,aH,aB,aC,e4,n3,aT,hz,bM]
theorem z10 {n:Nat}{xs:List Int}(hl:xs.length<=1000):F_qw (n+2) [.tup (xs.map Dv.int),.tup (xs.map Dv.int)] H=.ok (.bl true) H:=z0z (by simpa using hl) λy hy=>by obtain⟨p,_,rfl⟩:=bu.mp hy;exact z0y
theorem yX {i j:Nat}{xs ys:List Dv}(e1:getL H i=some xs) (e2:getL H j=some ys) (hl:xs.length+ys.length<=500):bQ (.ref i) (.ref j) H=.ok (.ref H.length) (H++[.lst (xs++ys)]):=by simp[bQ,lA,e1,e2,lim];omega
theorem ET {i j:Nat}{ds:List Dv}(e:getL H i=some ds) (hj:j<ds.length):aN (.ref i) (.int j) H=.ok ds[j] H:=by
 have h1:eB ds.length (j:Int)=some j:=by unfold eB;rw[if_pos (by omega),if_pos (by omega)];simp
 have h2:cQ ds (j:Int)=some ds[j]:=by unfold cQ;rw[h1];simp[hj]
 simp only[aN,eY,fJ,e,iM,h2,if_true]
theorem eN {x:List Dv}:getL (H++[.lst x]) H.length=some x:=by simp[getL]
end
def tV:M (List Dv):=(aB (mC .non) (aB (aR aC) (aB (aR (aB (mC (.int 0)) (aB (aR aC) aC))) (aB (aR (aB (mC (.int 7)) (aB (aR aC) aC))) (aB (aR (aB (mC (.bl true)) (aB (aR aC) aC))) (aB (aR (aB (mC (.int 2)) (aB (aX (aB (aR (aB (mC (.int 0)) (aB (mC (.int 1)) aC))) aC)) aC))) (aB (aR (aB (mC (.int 2)) (aB (aR (aB (aR (aB (mC (.int 1)) (aB (mC (.int 0)) aC))) (aB (aR (aB (mC (.int 0)) (aB (mC (.int 1)) aC))) aC))) aC))) (aB (aR (aB (mC (.int 2)) (aB (aR (aB (aR (aB (mC (.int 0)) (aB (mC (.int 0)) aC))) aC)) aC))) (aB (aX (aB (mC (.int 2)) (aB (aR aC) aC))) aC)))))))))
def tW:M (List Dv):=(aB (aR (aB (mC (.int 3)) (aB (aR (aB (aR (aB (mC (.int 0)) (aB (mC (.int 1)) aC))) (aB (aR (aB (mC (.int 1)) (aB (mC (.int 2)) aC))) aC))) aC))) (aB (aR (aB (mC (.int 2)) (aB (aR (aB (aR (aB (mC (.int 0)) (aB (mC (.int 1)) aC))) (aB (aR (aB (mC (.int 0)) (aB (mC (.int 1)) aC))) aC))) aC))) (aB (aR (aB (mC (.int 2)) (aB (aR (aB (aR (aB (mC (.int 0)) (aB (mC (.int 2)) aC))) aC)) aC))) (aB (aR (aB (mC (.int 2)) (aB (aR (aB (aR (aB (mC (.int 0)) (aB (mC (.bl true)) aC))) aC)) aC))) (aB (aR (aB (mC (.int 2)) aC)) (aB (aR (aB (mC (.int 2)) (aB (aR aC) (aB (aR aC) aC)))) aC))))))
def tX:M (List Dv):=(aB (aR (aB (mC (.int 3)) (aB (aR (aB (aR (aB (mC (.int 0)) (aB (mC (.int 2)) aC))) (aB (aR (aB (mC (.int 0)) (aB (mC (.int 1)) aC))) aC))) aC))) (aB (mC (.str "2: 0<1")) (aB (mC .edc) (aB (aR (aB (mC (.int 2)) (aB (aR (aB (aR (aB (mC (.int 0)) (aB (mC (.int 1)) (aB (mC (.int 1)) aC)))) aC)) aC))) (aB (aR (aB (mC (.int 2)) (aB (aR (aB (aR (aB (mC (.int 0)) (aB (mC (.int 1)) aC))) (aB (aR (aB (mC (.int 1)) (aB (mC (.int 0)) aC))) aC))) aC))) aC)))))
theorem z11:xP=aM (aQ (aX tV) (aG 1)) (aM (aQ (m2 bQ (aA 1) (aX tW)) (aG 1)) (aM (aQ (m2 bQ (aA 1) (aX tX)) (aG 1)) (aT (m2 aN (aA 1) (aH F_qv (aB (aA 0) (aB (mC (.int 20)) aC))))))):=rfl
theorem z12 {ρ:Ev}{H H':Hs}{ds:List Dv}(e:tV ρ H=.ok ds H'):∀x∈ds,gS x=false:=by
 have e2:Rs.ok _ _=Rs.ok ds H':=e;injection e2 with e3 e4;subst e3
 repeat' (first|exact ou _|refine ey.mpr ⟨rfl, ?_⟩)
theorem z13 {ρ:Ev}{H H':Hs}{ds:List Dv}(e:tW ρ H=.ok ds H'):∀x∈ds,gS x=false:=by
 have e2:Rs.ok _ _=Rs.ok ds H':=e;injection e2 with e3 e4;subst e3
 repeat' (first|exact ou _|refine ey.mpr ⟨rfl, ?_⟩)
theorem z14 {ρ:Ev}{H H':Hs}{ds:List Dv}(e:tX ρ H=.ok ds H'):∀x∈ds,gS x=false:=by
 have e2:Rs.ok _ _=Rs.ok ds H':=e;injection e2 with e3 e4;subst e3
 repeat' (first|exact ou _|refine ey.mpr ⟨rfl, ?_⟩)
def MnB (n:Nat) (H:Hs) (i:Nat):Prop:=∃ds,getL H i=some ds/\ds.length=n/\(∀x∈ds,TK 3 H x)/\∀x∈ds,gS x=false
section
variable{n m:Nat}{H H':Hs}{i j:Nat}
theorem MnB.fr0 (h:MnB n H i) (f:Fr [] H H'):MnB n H' i:=by obtain⟨ds,e,l,t,b⟩:=h;exact⟨ds,f.getL e (by simp),l,λx hx=>(t x hx).fr0 f,b⟩
theorem MnB.fr {st:Nat}(h:MnB n H i) (f:Fr [st] H H') (s:Com.St st H') (hi:i≠st):MnB n H' i:=by obtain⟨ds,e,l,t,b⟩:=h;exact⟨ds,f.getL e (by simpa using hi),l,λx hx=>(t x hx).fr f s,b⟩
theorem EU {ms:M (List Dv)}{ρ:Ev}(h:lI (λ_ _=>True) 3 n ms) (hb:∀{ρ:Ev}{H H':Hs}{ds:List Dv},ms ρ H=.ok ds H'->∀x∈ds,gS x=false) (hn:n<=500):∃i H',aX ms ρ H=.ok (.ref i) H'/\MnB n H' i/\Fr [] H H'/\H.length<=i:=by obtain⟨ds,H1,e1,f1,l1,t1⟩:=h ρ H trivial;refine⟨H1.length,H1++[.lst ds], ?_,⟨ds,eN,l1,λx hx=>(t1 x hx).fr0 Fr.app,hb e1⟩,f1.trans (T:=[]) Fr.app (by simp),f1.le⟩;unfold aX lim;rw[e1,Rs.bind_ok,if_pos (by omega)]
theorem MW (a:MnB n H i) (b:MnB m H j) (hn:n+m<=500):∃H',bQ (.ref i) (.ref j) H=.ok (.ref H.length) H'/\MnB (n+m) H' H.length/\Fr [] H H':=by
 obtain⟨ds,e1,l1,t1,b1⟩:=a;obtain⟨es,e2,l2,t2,b2⟩:=b;refine⟨_,yX e1 e2 (by omega),⟨ds++es,eN,by simp[l1,l2],λx hx=>?_,λx hx=>?_⟩,Fr.app⟩
 ·rcases bx.mp hx with hx|hx
  ·exact(t1 x hx).fr0 Fr.app
  ·exact(t2 x hx).fr0 Fr.app
 ·rcases bx.mp hx with hx|hx
  ·exact b1 x hx
  ·exact b2 x hx
end
theorem z15 {st:Nat}{H:Hs}(s:Com.St st H):∃d H',F_qc [.ref st] H=.ok d H'/\TK 3 H' d/\gS d=false/\Com.St st H'/\Fr [st] H H':=by
 have hP:MV λ_ _=>True:=λ_ _ _ _ _=>trivial;have lt:=s.lt;have k1:lI (λ_ _=>True) 3 9 tV:=(by
   unfold tV
   repeat' (first|exact EH|apply EI hP|exact EJ|exact EK|exact EL|exact EM|exact EN|apply yW|apply EO|apply ER)
   all_goals decide)
 have k2:lI (λ_ _=>True) 3 6 tW:=(by
   unfold tW
   repeat' (first|exact EH|apply EI hP|exact EJ|exact EK|exact EL|exact EM|exact EN|apply yW|apply EO|apply ER)
   all_goals decide)
 have k3:lI (λ_ _=>True) 3 5 tX:=(by
   unfold tX
   repeat' (first|exact EH|apply EI hP|exact EJ|exact EK|exact EL|exact EM|exact EN|apply yW|apply EO|apply ER)
   all_goals decide)
 obtain⟨i1,H1,e1,m1,f1,l1⟩:=EU (ρ:=[some (.ref st),none]) (H:=H) k1 z12 (by decide);obtain⟨j2,H2,e2,m2',f2,l2⟩:=EU (ρ:=[some (.ref st),some (.ref i1)]) (H:=H1) k2 z13 (by decide);obtain⟨H3,e3,m3,f3⟩:=MW (m1.fr0 f2) m2' (by decide);obtain⟨j4,H4,e4,m4,f4,l4⟩:=EU (ρ:=[some (.ref st),some (.ref H2.length)]) (H:=H3) k3 z14 (by decide);obtain⟨H5,e5,m5,f5⟩:=MW (m3.fr0 f4) m4 (by decide);have g:Fr [] H H5:=(((f1.trans f2 (by simp)).trans f3 (by simp)).trans f4 (by simp)).trans f5 (by simp);obtain⟨r,H6,r0,r1,t6,f6,s6⟩:=oQ 20 (s.fr g (by simp));have hle:H.length<=H4.length:=((f1.trans (f2.trans (f3.trans f4 (by simp)) (by simp)) (by simp)):Fr [] H H4).le;obtain⟨ds,e7,l7,t7,b7⟩:=m5.fr f6 s6 (by omega);obtain⟨j,rfl⟩:∃j:Nat,r=j:=⟨r.toNat,by omega⟩
 have hj:j<ds.length:=by omega
 have e8:=ET e7 hj;refine⟨ds[j],H6, ?_,t7 _ (dm hj),b7 _ (dm hj),s6,(g.mono (T:=[st]) (by simp)).trans f6 (by simp)⟩;show bM (xP [some (.ref st),none] H)=_;have w1:aQ (aX tV) (aG 1) [some (.ref st),none] H=.nx [some (.ref st),some (.ref i1)] H1:=by unfold aQ;rw[e1];rfl
 have w2:aQ (L2.Mr.m2 bQ (aA 1) (aX tW)) (aG 1) [some (.ref st),some (.ref i1)] H1=.nx [some (.ref st),some (.ref H2.length)] H3:=by unfold aQ;rw[ES rfl e2 e3];rfl
 have w3:aQ (L2.Mr.m2 bQ (aA 1) (aX tX)) (aG 1) [some (.ref st),some (.ref H2.length)] H3=.nx [some (.ref st),some (.ref H4.length)] H5:=by unfold aQ;rw[ES rfl e4 e5];rfl
 rw[z11,bJ w1,bJ w2,bJ w3];simp[aT,L2.Mr.m2,aA,aH,aB,mC,aC,t6,e8,bM]
end L2.Mr.Cod
namespace L2.Mr
open PySem PySem.Spec PyProof.Rows L2
def IsMx (x:Int) (P:Int->Prop):Prop:=P x/\∀y,P y->y<=x
theorem IsMx.uniq {x y:Int}{P Q:Int->Prop}(a:IsMx x P) (b:IsMx y Q) (h:∀z,P z↔Q z):x=y:=by have h1:=a.2 y ((h y).mpr b.1);have h2:=b.2 x ((h x).mp a.1);omega
theorem MX {f:Nat->Int}:∀k,(∃i,i<=k/\gE (λa b=>decide (a>b)) f k=f i)/\∀i,i<=k->f i<=gE (λa b=>decide (a>b)) f k
 |0=>⟨⟨0,aj _,rfl⟩,λi hi=>by
  have:i=0:=by omega
  subst this;exact tu _⟩
 |k+1=>by
  obtain⟨⟨i,hi,e⟩,h⟩:=MX (f:=f) k;have he:gE (λa b=>decide (a>b)) f (k+1)=if decide (f (k+1)>gE (λa b=>decide (a>b)) f k)then f (k+1)else gE (λa b=>decide (a>b)) f k:=rfl
  generalize gE (λa b=>decide (a>b)) f k=z at e h he;rw[he]
  by_cases c:f (k+1)>z
  ·rw[if_pos (decide_eq_true c)];refine⟨⟨k+1,aj _,rfl⟩,λj hj=>?_⟩
   by_cases q:j=k+1
   ·subst q;exact tu _
   ·have:=h j (by omega);omega
  ·rw[if_neg (by simpa using c)];refine⟨⟨i,by omega,e⟩,λj hj=>?_⟩
   by_cases q:j=k+1
   ·subst q;omega
   ·exact h j (by omega)
theorem MY {f:Nat->Int}:∀k,(∃i,i<=k/\gE (λa b=>decide (a<b)) f k=f i)/\∀i,i<=k->gE (λa b=>decide (a<b)) f k<=f i
 |0=>⟨⟨0,aj _,rfl⟩,λi hi=>by
  have:i=0:=by omega
  subst this;exact tu _⟩
 |k+1=>by
  obtain⟨⟨i,hi,e⟩,h⟩:=MY (f:=f) k;have he:gE (λa b=>decide (a<b)) f (k+1)=if decide (f (k+1)<gE (λa b=>decide (a<b)) f k)then f (k+1)else gE (λa b=>decide (a<b)) f k:=rfl
  generalize gE (λa b=>decide (a<b)) f k=z at e h he;rw[he]
  by_cases c:f (k+1)<z
  ·rw[if_pos (decide_eq_true c)];refine⟨⟨k+1,aj _,rfl⟩,λj hj=>?_⟩
   by_cases q:j=k+1
   ·subst q;exact tu _
   ·have:=h j (by omega);omega
  ·rw[if_neg (by simpa using c)];refine⟨⟨i,by omega,e⟩,λj hj=>?_⟩
   by_cases q:j=k+1
   ·subst q;omega
   ·exact h j (by omega)
theorem qH {ns:List Int}(h:ns≠[]):IsMx (cO ns) (·∈ns):=by
 have hl:0<ns.length:=ow.mpr h;obtain⟨⟨i,hi,e⟩,hx⟩:=MX (f:=λi=>ns.getD i 0) (ns.length - 1);refine⟨?_,λy hy=>?_⟩
 ·show cO ns∈ns;unfold cO;rw[e];have:i<ns.length:=by omega
  simp[this]
 ·obtain⟨k,hk,rfl⟩:=iu.mp hy;have:=hx k (by omega);have e2:ns.getD k 0=ns[k]:=by simp[hk]
  rw[e2]at this;exact this
theorem z16 {ns:List Int}(h:ns≠[]):gF ns∈ns/\∀y∈ns,gF ns<=y:=by
 have hl:0<ns.length:=ow.mpr h;obtain⟨⟨i,hi,e⟩,hx⟩:=MY (f:=λi=>ns.getD i 0) (ns.length - 1);refine⟨?_,λy hy=>?_⟩
 ·unfold gF;rw[e];have:i<ns.length:=by omega
  simp[this]
 ·obtain⟨k,hk,rfl⟩:=iu.mp hy;have:=hx k (by omega);have e2:ns.getD k 0=ns[k]:=by simp[hk]
  rw[e2]at this;exact this
def Up (fs:List Int) (L:List (Int×Int)) (up:List Int):Prop:=up.length=fs.length/\∀t,t<fs.length->IsMx (up.getD t 0) (λy=>y=fs.getD t 0∨((t:Int),y)∈L)
theorem Up.nil {fs:List Int}:Up fs [] fs:=⟨rfl,λt _=>⟨.inl rfl,λy hy=>by
 rcases hy with rfl|hy
 ·exact tu _
 ·simp at hy⟩⟩
theorem Up.bump {fs up:List Int}{L:List (Int×Int)}{b v:Int}(h:Up fs L up) (b0:0<=b) (b1:b<fs.length):∃up1,bump up b v=some up1/\Up fs (L++[(b,v)]) up1:=by
 obtain⟨hl,hu⟩:=h;obtain⟨k,rfl⟩:∃k:Nat,b=k:=⟨b.toNat,by omega⟩
 have hk:k<up.length:=by omega
 have e1:eB up.length (k:Int)=some k:=by unfold eB;rw[if_pos (by omega),if_pos (by omega)];simp
 have e2:up[k]?=some (up.getD k 0):=by simp[hk]
 refine⟨up.set k (if v>up.getD k 0 then v else up.getD k 0),by unfold L2.Mr.bump;rw[e1];dsimp only;rw[e2],by simp[hl],λt ht=>?_⟩;have hh:=hu t ht
 by_cases q:k=t
 ·subst q;have es:(up.set k (if v>up.getD k 0 then v else up.getD k 0)).getD k 0=if v>up.getD k 0 then v else up.getD k 0:=by simp[hk]
  rw[es];generalize up.getD k 0=u at hh ⊢
  by_cases c:v>u
  ·rw[if_pos c];refine⟨.inr (by simp),λy hy=>?_⟩
   rcases hy with hy|hy
   ·have:=hh.2 y (.inl hy);omega
   ·rcases bx.mp hy with hy|hy
    ·have:=hh.2 y (.inr hy);omega
    ·simp only[cp,wg]at hy;omega
  ·rw[if_neg c];refine⟨?_,λy hy=>?_⟩
   ·rcases hh.1 with z|z
    ·exact .inl z
    ·exact .inr (bx.mpr (.inl z))
   ·rcases hy with hy|hy
    ·exact hh.2 y (.inl hy)
    ·rcases bx.mp hy with hy|hy
     ·exact hh.2 y (.inr hy)
     ·simp only[cp,wg]at hy;omega
 ·have es:(up.set k (if v>up.getD k 0 then v else up.getD k 0)).getD t 0=up.getD t 0:=by simp[kv,di q]
  rw[es];refine⟨?_,λy hy=>?_⟩
  ·rcases hh.1 with z|z
   ·exact .inl z
   ·exact .inr (bx.mpr (.inl z))
  ·rcases hy with hy|hy
   ·exact hh.2 y (.inl hy)
   ·rcases bx.mp hy with hy|hy
    ·exact hh.2 y (.inr hy)
    ·simp only[cp,wg]at hy;omega
theorem yY {fs:List Int}{a:Int}(h0:0<=a) (h1:a<fs.length):cQ fs a=some (fs.getD a.toNat 0):=by
 obtain⟨k,rfl⟩:∃k:Nat,a=k:=⟨a.toNat,by omega⟩
 have hk:k<fs.length:=by omega
 unfold cQ eB;rw[if_pos (by omega),if_pos (by omega)];simp[hk]
def oV (N:Nat) (ps:List (Int×Int)):Prop:=∀p∈ps,0<=p.1/\p.1<N/\0<=p.2/\p.2<N
theorem MZ {fs:List Int}:∀{ps:List (Int×Int)}{up:List Int}{L:List (Int×Int)},oV fs.length ps->Up fs L up->∃up1,lY fs up ps=some up1/\Up fs (L++ps.map λp=>(p.2,fs.getD p.1.toNat 0+1)) up1
 | [],up,L,_,h=>⟨up,rfl,by simpa using h⟩
 |p::ps,up,L,hp,h=>by have hq:=hp p (by simp);obtain⟨u1,e1,h1⟩:=h.bump (b:=p.2) (v:=fs.getD p.1.toNat 0+1) hq.2.2.1 hq.2.2.2;obtain⟨u2,e2,h2⟩:=MZ (ps:=ps) (λq hq=>hp q (by simp[hq])) h1;refine⟨u2, ?_,by simpa using h2⟩;unfold lY;rw[yY hq.1 hq.2.1];dsimp only;rw[e1];exact e2
theorem M1 {fs:List Int}{r:Int}:∀{ps:List (Int×Int)}{up:List Int}{L:List (Int×Int)},oV fs.length ps->Up fs L up->∃up1,nG r fs up ps=some up1/\Up fs (L++ps.flatMap λp=>[(p.1,fs.getD p.2.toNat 0 - r),(p.2,fs.getD p.1.toNat 0 - r)]) up1
 | [],up,L,_,h=>⟨up,rfl,by simpa using h⟩
 |p::ps,up,L,hp,h=>by have hq:=hp p (by simp);obtain⟨u1,e1,h1⟩:=h.bump (b:=p.1) (v:=fs.getD p.2.toNat 0 - r) hq.1 hq.2.1;obtain⟨u1',e1',h1'⟩:=h1.bump (b:=p.2) (v:=fs.getD p.1.toNat 0 - r) hq.2.2.1 hq.2.2.2;obtain⟨u2,e2,h2⟩:=M1 (ps:=ps) (λq hq=>hp q (by simp[hq])) h1';refine⟨u2, ?_,by simpa using h2⟩;unfold nG;rw[yY hq.2.2.1 hq.2.2.2];dsimp only;rw[e1];dsimp only;rw[yY hq.1 hq.2.1];dsimp only;rw[e1'];exact e2
theorem z17 {fs:List Int}{r:Int}{ps qs:List (Int×Int)}(hp:oV fs.length ps) (hq:oV fs.length qs):∃up,oM ps qs r fs=some up/\Up fs ((ps.map λp=>(p.2,fs.getD p.1.toNat 0+1))++qs.flatMap λp=>[(p.1,fs.getD p.2.toNat 0 - r),(p.2,fs.getD p.1.toNat 0 - r)]) up:=by obtain⟨u1,e1,h1⟩:=MZ hp (Up.nil (fs:=fs));obtain⟨u2,e2,h2⟩:=M1 (r:=r) hq h1;refine⟨u2, ?_,by simpa using h2⟩;unfold oM;rw[e1];exact e2
theorem Up.ext {fs L1 L2 u1 u2} (a:Up fs L1 u1) (b:Up fs L2 u2) (h:∀(t:Nat) (y:Int),t<fs.length->(((t:Int),y)∈L1↔((t:Int),y)∈L2)):u1=u2:=by
 apply rg (by rw[a.1,b.1])
 intro t h1 h2;have ht:t<fs.length:=by rw[<-a.1];exact h1
 have:=(a.2 t ht).uniq (b.2 t ht) λz=>by rw[h t z ht]
 simpa[h1,h2]using this
end L2.Mr
namespace L2.Mr.Cod
open PySem PySem.Spec PyProof.Rows L2 L2.Mr
open L2.Mr.Com
def iW (ps:List (Int×Int)) (a:Nat):Nat->List (Int×Int)
 |0=>[]
 |k+1=>iW ps a k++if((a:Int),(a:Int)+1+(k:Int))∈ps∨((a:Int)+1+(k:Int),(a:Int))∈ps then[]else[((a:Int),(a:Int)+1+(k:Int))]
def jM (n:Nat) (ps:List (Int×Int)):Nat->List (Int×Int)
 |0=>[]
 |k+1=>jM n ps k++iW ps k (n - (k+1))
def fL (n:Nat) (ps:List (Int×Int)):List (Int×Int):=jM n ps n
theorem EV (ps:List (Int×Int)) (a:Nat):∀k,(iW ps a k).length<=k
 |0=>aj _
 |k+1=>by
  have:=EV ps a k;unfold iW
  split <;> simp <;> omega
theorem EW (n:Nat) (ps:List (Int×Int)):∀k,(jM n ps k).length<=k*n
 |0=>by simp[jM]
 |k+1=>by have h1:=EW n ps k;have h2:=EV ps k (n - (k+1));unfold jM;rw[bq,lg];omega
section
variable{n:Nat}{ps:List (Int×Int)}{i:Nat}
def nI:MS:=aY (iB (mB (m2 (eR true) (aR (aB (aA 2) (aB (aA 3) aC))) (m2 aN (aA 0) (mC (.int 1))))) (mB (m2 (eR true) (aR (aB (aA 3) (aB (aA 2) aC))) (m2 aN (aA 0) (mC (.int 1)))))) (dY (hG (aA 1) (aR (aB (aA 2) (aB (aA 3) aC))))) bH
theorem z18 {H:Hs}{a b:Int}{acc:List (Int×Int)}(e:getL H i=some (acc.map aK)) (hl:acc.length<1000):
  nI [some (bB n ps),some (.ref i),some (.int a),some (.int b)] H=.nx [some (bB n ps),some (.ref i),some (.int a),some (.int b)] (H.set i (.lst ((acc++if(a,b)∈ps∨(b,a)∈ps then[]else[(a,b)]).map aK))):=by
 have self:H.set i (.lst (acc.map aK))=H:=by
  apply mn
  intro k
  by_cases hk:i=k
  ·subst hk;rw[de (mY e),cY e]
  ·rw[di hk]
 have t1:∀(x y:Int),mB (m2 (eR true) (λ_ h=>.ok (aK (x,y)) h) (λ_ h=>.ok (.tup (ps.map aK)) h)) [] H=.ok (!decide ((x,y)∈ps)) H:=λx y=>by simp[mB,m2,lU,cS]
 have hl':acc.length<1000000:=by omega
 by_cases h1:(a,b)∈ps
 ·simp[nI,aY,iB,mB,m2,aR,aB,aA,aC,lim,mC,tN];rw[show Dv.tup [.int a,.int b]=aK (a,b) from rfl,lU];simp[h1,cS,bH,self]
 ·by_cases h2:(b,a)∈ps
  ·simp[nI,aY,iB,mB,m2,aR,aB,aA,aC,lim,mC,tN];rw[show Dv.tup [.int a,.int b]=aK (a,b) from rfl,show Dv.tup [.int b,.int a]=aK (b,a) from rfl,lU];simp[h1,cS,lU,h2,bH,self]
  ·simp[nI,aY,iB,mB,m2,aR,aB,aA,aC,lim,mC,tN];rw[show Dv.tup [.int a,.int b]=aK (a,b) from rfl,show Dv.tup [.int b,.int a]=aK (b,a) from rfl,lU];simp only[h1,Rs.bind_ok,cS,lU];simp[h2,h1,dY,hG,aA,iR,e,aR,aB,aC,lim,lR,hl'];rfl
theorem z19 {a:Nat}{x3:Option Dv}{H:Hs}{acc:List (Int×Int)}(hn:n<=10) (ha:a<n) (hl:acc.length<=200) (e:getL H i=some (acc.map aK)):
  ∃y3,cK (aV jR (aB (m2 bQ (aA 2) (mC (.int 1))) (aB (m2 aN (aA 0) (mC (.int 0))) aC))) (aG 3) nI [some (bB n ps),some (.ref i),some (.int a),x3] H =
   .nx [some (bB n ps),some (.ref i),some (.int a),y3] (H.set i (.lst ((acc++iW ps a (n - (a+1))).map aK))):=by
 have hi:aV jR (aB (m2 bQ (aA 2) (mC (.int 1))) (aB (m2 aN (aA 0) (mC (.int 0))) aC)) [some (bB n ps),some (.ref i),some (.int a),x3] H=.ok (cF ((a:Int)+1) n) H:=by have q:aB (m2 bQ (aA 2) (mC (.int 1))) (aB (m2 aN (aA 0) (mC (.int 0))) aC) [some (bB n ps),some (.ref i),some (.int a),x3] H=.ok [.int ((a:Int)+1),.int n] H:=rfl;unfold aV;rw[q,Rs.bind_ok];exact MM (by omega) (by omega) (by omega) (by omega)
 have hN:(cF ((a:Int)+1) n).n=n - (a+1):=by show((n:Int) - ((a:Int)+1)).toNat=_;omega
 obtain⟨ρ',H',h1,y3,h2,h3⟩:=kL (b:=nI) (sg:=aG 3) hi (λk ρ H'=>∃y3,ρ=[some (bB n ps),some (.ref i),some (.int a),y3]/\H'=H.set i (.lst ((acc++iW ps a k).map aK)))
  (λk ρ H' hk ⟨y3,e1,e2⟩=>by
   subst e1;subst e2;have e':getL (H.set i (.lst ((acc++iW ps a k).map aK))) i=some ((acc++iW ps a k).map aK):=iU e;refine⟨.int ((a:Int)+1+(k:Int)),_,_,_,rfl,rfl,z18 e' (by have:=EV ps a k;rw[bq];omega),_,rfl, ?_⟩;rw[ux,iW,qf]) (λ_ _ _=>rfl) ⟨x3,rfl,by
   have self:H.set i (.lst (acc.map aK))=H:=by
    apply mn
    intro k
    by_cases hk:i=k
    ·subst hk;rw[de (mY e),cY e]
    ·rw[di hk]
   rw[iW,jy,self]⟩
 rw[hN]at h3;exact⟨y3,by rw[h1,h2,h3]⟩
theorem M3 {H:Hs}(hn:n<=10):F_qm [bB n ps] H=.ok (.ref H.length) (H++[.lst ((fL n ps).map aK)]):=by
 have e0:getL (H++[.lst []]) H.length=some (([]:List (Int×Int)).map aK):=by simp[getL]
 have w0:aQ (aX aC) (aG 1) [some (bB n ps),none,none,none] H=.nx [some (bB n ps),some (.ref H.length),none,none] (H++[.lst []]):=rfl;have hi:aV cC (aB (m2 aN (aA 0) (mC (.int 0))) aC) [some (bB n ps),some (.ref H.length),none,none] (H++[.lst []])=.ok (cF 0 n) (H++[.lst []]):=by have q:aB (m2 aN (aA 0) (mC (.int 0))) aC [some (bB n ps),some (.ref H.length),none,none] (H++[.lst []])=.ok [.int n] (H++[.lst []]):=rfl;unfold aV;rw[q,Rs.bind_ok];exact tP (by omega) (by omega)
 have hN:(cF 0 (n:Int)).n=n:=by simp[cF]
 obtain⟨ρ',H',h1,y2,y3,h2,h3⟩:=kL (b:=cK (aV jR (aB (m2 bQ (aA 2) (mC (.int 1))) (aB (m2 aN (aA 0) (mC (.int 0))) aC))) (aG 3) nI) (sg:=aG 2) hi
  (λk ρ H'=>∃y2 y3,ρ=[some (bB n ps),some (.ref H.length),y2,y3]/\H'=H++[.lst ((jM n ps k).map aK)])
  (λk ρ H' hk ⟨y2,y3,e1,e2⟩=>by
   subst e1;subst e2;rw[hN]at hk;have e':getL (H++[.lst ((jM n ps k).map aK)]) H.length=some ((jM n ps k).map aK):=by simp[getL]
   have hb:(jM n ps k).length<=200:=by have h1:=EW n ps k;have h2:k*n<=10*10:=jt (by omega) hn;omega
   obtain⟨z3,hz⟩:=z19 (x3:=y3) (ps:=ps) hn hk hb e';refine⟨.int (0+(k:Int)),[some (bB n ps),some (.ref H.length),some (.int (k:Int)),y3],_,_,rfl,by simp[aG],hz,_,_,rfl, ?_⟩;rw[WH,jM];rfl) (λ_ _ _=>rfl) ⟨none,none,rfl,rfl⟩
 rw[hN]at h3;show bM (xO [some (bB n ps),none,none,none] H)=_;have z:xO [some (bB n ps),none,none,none] H=.rt (.ref H.length) (H++[.lst ((fL n ps).map aK)]):=by show aM (aQ (aX aC) (aG 1)) (aM (cK (aV cC (aB (m2 aN (aA 0) (mC (.int 0))) aC)) (aG 2) (cK (aV jR (aB (m2 bQ (aA 2) (mC (.int 1))) (aB (m2 aN (aA 0) (mC (.int 0))) aC))) (aG 3) nI)) (aT (aA 1))) _ _=_;rw[bJ w0,bJ h1,h2,h3];rfl
 rw[z];rfl
end
def fU (ps:List (Int×Int)) (a b:Int):Prop:=a≠b/\(a,b)∉ps/\(b,a)∉ps
instance (ps:List (Int×Int)) (a b:Int):Decidable (fU ps a b):=by unfold fU;infer_instance
theorem mem_looseB {ps:List (Int×Int)}{a:Nat}{q:Int×Int}:∀{k:Nat},q∈iW ps a k↔∃j,j<k/\q=((a:Int),(a:Int)+1+(j:Int))/\q∉ps/\(q.2,q.1)∉ps
 |0=>by simp[iW]
 |k+1=>by
  unfold iW;rw[bx,mem_looseB (k:=k)];constructor
  ·rintro (⟨j,hj,h⟩|h)
   ·exact⟨j,by omega,h⟩
   ·split at h
    ·simp at h
    ·rename_i c;rw[cp]at h;subst h;exact⟨k,by omega,rfl,λz=>c (.inl z),λz=>c (.inr z)⟩
  ·rintro ⟨j,hj,h,h1,h2⟩
   by_cases q:j=k
   ·subst q;right;subst h;rw[if_neg (λz=>z.elim h1 h2)];simp
   ·exact .inl ⟨j,by omega,h,h1,h2⟩
theorem M4 {n:Nat}{ps:List (Int×Int)}{q:Int×Int}:∀{k:Nat},q∈jM n ps k↔∃a,a<k/\q∈iW ps a (n - (a+1))
 |0=>by simp[jM]
 |k+1=>by
  unfold jM;rw[bx,M4 (k:=k)];constructor
  ·rintro (⟨a,ha,h⟩|h)
   ·exact⟨a,by omega,h⟩
   ·exact⟨k,by omega,h⟩
  ·rintro ⟨a,ha,h⟩
   by_cases q:a=k
   ·subst q;exact .inr h
   ·exact .inl ⟨a,by omega,h⟩
theorem mem_loose {n:Nat}{ps:List (Int×Int)}{q:Int×Int}:q∈fL n ps↔0<=q.1/\q.1<q.2/\q.2<n/\fU ps q.1 q.2:=by
 unfold fL;rw[M4];constructor
 ·rintro ⟨a,ha,h⟩
  obtain⟨j,hj,rfl,h1,h2⟩:=mem_looseB.mp h;exact⟨by omega,by simp only;omega,by simp only;omega,by simp only[ne_eq];omega,h1,h2⟩
 ·rintro ⟨h0,h1,h2,_,h3,h4⟩
  refine⟨q.1.toNat,by omega,mem_looseB.mpr ⟨(q.2 - q.1 - 1).toNat,by omega, ?_,h3,h4⟩⟩
  apply Aj <;> simp only <;> omega
def iX (n:Nat) (ps:List (Int×Int)) (r:Int):List (Int×Int×Int):=(ay n).flatMap λa:Nat=>(ay n).filterMap λb:Nat=>if fU ps a b then some ((a:Int),(b:Int),-r)else none
def eU (n:Nat) (ps:List (Int×Int)) (r:Int):List (Int×Int×Int):=ps.map (λp=>(p.1,p.2,1))++iX n ps r
def eM (fs:List Int) (nd:List (Int×Int×Int)) (t:Int):List Int:=nd.filterMap λq=>if q.2.1=t then some (fs.getD q.1.toNat 0+q.2.2)else none
def RR (fs:List Int) (nd:List (Int×Int×Int)):List Int:=(ay fs.length).map λt:Nat=>cO (fs.getD t 0::eM fs nd t)
theorem mem_asd {n:Nat}{ps:List (Int×Int)}{r:Int}{q:Int×Int×Int}:q∈iX n ps r↔(0<=q.1/\q.1<n/\0<=q.2.1/\q.2.1<n)/\fU ps q.1 q.2.1/\q.2.2 = -r:=by
 unfold iX;simp only[ni,bw,ie];constructor
 ·rintro ⟨a,ha,b,hb,h⟩
  split at h
  ·rename_i c;cases h;exact⟨by simp only;omega,c,rfl⟩
  ·cases h
 ·rintro ⟨⟨h0,h1,h2,h3⟩,h4,h5⟩
  refine⟨q.1.toNat,by omega,q.2.1.toNat,by omega, ?_⟩;have e1:((q.1.toNat:Nat):Int)=q.1:=by omega
  have e2:((q.2.1.toNat:Nat):Int)=q.2.1:=by omega
  rw[e1,e2,if_pos h4,<-h5]
theorem iK {fs:List Int}{nd:List (Int×Int×Int)}:(RR fs nd).length=fs.length:=by simp[RR]
theorem tY {fs:List Int}{nd:List (Int×Int×Int)}:Up fs (nd.map λq=>(q.2.1,fs.getD q.1.toNat 0+q.2.2)) (RR fs nd):=by
 refine⟨iK,λt ht=>?_⟩;have e:(RR fs nd).getD t 0=cO (fs.getD t 0::eM fs nd t):=by simp[RR,ht]
 rw[e];have h:=qH (ns:=fs.getD t 0::eM fs nd t) (by simp);have hm:∀y,y∈fs.getD t 0::eM fs nd t↔(y=fs.getD t 0∨((t:Int),y)∈nd.map λq=>(q.2.1,fs.getD q.1.toNat 0+q.2.2)):=λy=>by
  rw[bg];refine or_congr_right ?_;unfold eM;simp only[ie,bu];constructor
  ·rintro ⟨q,hq,h⟩
   split at h
   ·rename_i c;cases h;exact⟨q,hq,by rw[c]⟩
   ·cases h
  ·rintro ⟨q,hq,h⟩
   obtain⟨h1,h2⟩:=si h;exact⟨q,hq,by rw[if_pos h1,h2]⟩
 exact⟨(hm _).mp h.1,λy hy=>h.2 y ((hm y).mpr hy)⟩
section
variable{n:Nat}{ps:List (Int×Int)}{r:Int}{fs:List Int}
theorem z1a (hp:oV n ps) (hl:fs.length=n):oM ps (fL n ps) r fs=some (RR fs (eU n ps r)):=by
 have hq:oV n (fL n ps):=λq hq=>by obtain⟨h0,h1,h2,_⟩:=mem_loose.mp hq;omega
 obtain⟨up,e,h⟩:=z17 (r:=r) (by rw[hl];exact hp) (by rw[hl];exact hq);rw[e]
 congr 1
 refine h.ext tY λt y ht=>?_;rw[hl]at ht;unfold eU;rw[ic,bx,bx];refine or_congr ?_ ?_
 ·simp only[rz,bu,vp]
 ·simp only[ni,bu,bg,List.not_mem_nil,or_false];constructor
  ·rintro ⟨q,hq,h⟩
   obtain⟨h0,h1,h2,h3,h4,h5⟩:=mem_loose.mp hq
   rcases h with h|h
   ·obtain⟨e1,e2⟩:=si h;refine⟨(q.2,q.1,-r),mem_asd.mpr ⟨by simp only;omega,⟨λz=>h3 z.symm,h5,h4⟩,rfl⟩, ?_⟩;simp only[e1,e2];rfl
   ·obtain⟨e1,e2⟩:=si h;refine⟨(q.1,q.2,-r),mem_asd.mpr ⟨by simp only;omega,⟨h3,h4,h5⟩,rfl⟩, ?_⟩;simp only[e1,e2];rfl
  ·rintro ⟨q,hq,h⟩
   obtain⟨⟨h0,h1,h2,h3⟩,⟨h4,h5,h6⟩,h7⟩:=mem_asd.mp hq;obtain⟨e1,e2⟩:=si h
   by_cases c:q.1<q.2.1
   ·refine⟨(q.1,q.2.1),mem_loose.mpr ⟨h0,c,h3,h4,h5,h6⟩,.inr ?_⟩;rw[<-e1,<-e2,h7];rfl
   ·refine⟨(q.2.1,q.1),mem_loose.mpr ⟨h2,by simp only;omega,h1,λz=>h4 z.symm,h6,h5⟩,.inl ?_⟩;rw[<-e1,<-e2,h7];rfl
def fV (n:Int) (nd:List (Int×Int×Int)):Nat->List Int->Option (Option (List Int))
 |0,_=>none
 |f+1,fs=>if RR fs nd=fs then some (some fs)else if cO (RR fs nd)>=n then some none else fV n nd f (RR fs nd)
theorem M5 (hp:oV n ps) (n1:1<=n) {res:Option (List Int)}:∀{f:Nat}{fs:List Int},fs.length=n->fV n (eU n ps r) f fs=some res->oO n ps (fL n ps) r f fs=some res
 |0,_,_,h=>by cases h
 |f+1,fs,hl,h=>by
  unfold fV at h;unfold oO;rw[z1a hp hl];dsimp only
  split at h
  ·rename_i c;rw[if_pos c];exact h
  ·rename_i c;rw[if_neg c,if_neg (by rw[iK];omega)]
   split at h
   ·rename_i c2;rw[if_pos c2];exact h
   ·rename_i c2;rw[if_neg c2];exact M5 hp n1 (by rw[iK];exact hl) h
theorem EX {m:Int}{nd:List (Int×Int×Int)}{res:Option (List Int)}:∀{f:Nat}{fs:List Int}(k:Nat),fV m nd f fs=some res->fV m nd (f+k) fs=some res
 |0,_,_,h=>by cases h
 |f+1,fs,k,h=>by
  rw[Nat.add_right_comm];unfold fV at h ⊢
  split at h
  ·rename_i c;rw[if_pos c];exact h
  ·rename_i c;rw[if_neg c]
   split at h
   ·rename_i c2;rw[if_pos c2];exact h
   ·rename_i c2;rw[if_neg c2];exact EX k h
theorem M6:∀{xs ys:List Int},xs.length=ys.length->(∀t,t<xs.length->xs.getD t 0<=ys.getD t 0)->xs.sum<=ys.sum/\(xs≠ys->xs.sum<ys.sum)
 | [],[],_,_=>by simp
 |x::xs,y::ys,hl,h=>by
  have h0:=h 0 (by simp);simp only[List.getD_cons_zero]at h0;obtain⟨h1,h2⟩:=M6 (xs:=xs) (ys:=ys) (by simpa using hl) λt ht=>by have:=h (t+1) (by simp;omega);simpa using this
  rw[zi,zi];refine⟨by omega,λne=>?_⟩
  by_cases q:xs=ys
  ·subst q;have:x≠y:=λz=>ne (by rw[z]);omega
  ·have:=h2 q;omega
theorem M7:∀{xs:List Int}{b:Int},(∀x∈xs,x<=b)->xs.sum<=xs.length*b
 | [],_,_=>by simp
 |x::xs,b,h=>by
  have h0:=h x (by simp);have h1:=M7 (xs:=xs) (b:=b) λy hy=>h y (by simp[hy]);rw[zi,cg];have e:((xs.length+1:Nat):Int)*b=xs.length*b+b:=by rw[Int.natCast_add,Int.add_mul];simp
  omega
theorem M8 {nd:List (Int×Int×Int)}(n1:1<=n):∀(f:Nat) (fs:List Int),fs.length=n->(∀x∈fs,x<n)->(n:Int)*(n - 1) - fs.sum<f->∃res,fV n nd f fs=some res
 |0,fs,hl,hx,h=>by
  have:=M7 (xs:=fs) (b:=(n:Int) - 1) λx hx'=>by have:=hx x hx';omega
  rw[hl]at this;omega
 |f+1,fs,hl,hx,h=>by
  unfold fV
  by_cases c:RR fs nd=fs
  ·exact⟨_,by rw[if_pos c]⟩
  ·rw[if_neg c]
   by_cases c2:cO (RR fs nd)>=n
   ·exact⟨_,by rw[if_pos c2]⟩
   ·rw[if_neg c2];have up:=tY (fs:=fs) (nd:=nd);have hs:=(M6 (xs:=fs) (ys:=RR fs nd) (by rw[iK]) λt ht=>(up.2 t ht).2 _ (.inl rfl)).2 (da c);refine M8 n1 f (RR fs nd) (by rw[iK];exact hl) (λx hx'=>?_) (by omega);have:=(qH (ns:=RR fs nd) (λz=>by rw[z]at hx';cases hx')).2 x hx';omega
end
section
variable{n:Nat}{ps:List (Int×Int)}{r:Int}{fs:List Int}
theorem z1b (o:OrdP n ps) (r:Int):∃res,fV n (eU n ps r) (n*n+1) (ba n 0)=some res:=by
 have n1:=o.n1;refine M8 n1 _ _ (by simp) (λx hx=>?_) ?_
 ·rw[qo hx];omega
 ·have e:(ba n (0:Int)).sum=0:=by simp
  rw[e];have e2:(n:Int)*(n - 1)=n*n - n:=by rw[Int.mul_sub,Int.mul_one]
  rw[e2,Int.natCast_add,Int.natCast_mul];omega
def iY (n:Nat) (ps:List (Int×Int)) (r:Int):Option (List Int):=(fV n (eU n ps r) (n*n+1) (ba n 0)).getD none
theorem tZ (o:OrdP n ps) (r:Int):fV n (eU n ps r) (n*n+1) (ba n 0)=some (iY n ps r):=by obtain⟨res,e⟩:=z1b o r;unfold iY;rw[e];rfl
theorem z1c (o:OrdP n ps) (r:Int):oO n ps (fL n ps) r (n*n+2) (ba n 0)=some (iY n ps r):=M5 o.rng o.n1 (by simp) (EX 1 (tZ o r))
end
section
variable{n:Nat}{ps:List (Int×Int)}{r:Int}{H:Hs}
theorem z1d:F_qb=aZ 2 7 (yN F_qm):=rfl
theorem z1e (o:OrdP n ps) (r:Int) (H:Hs):∃H',F_qb [bB n ps,.int r] H=.ok (lE (iY n ps r)) H'/\Fr [] H H':=by rw[z1d];exact o9 n rfl o.n6 (λH=>qC H) (λH=>tN H) (λH=>M3 (by have:=o.n6;omega)) (z1c o r)
theorem z1f {a b:Int}:F_qu [bB n ps,.int a,.int b] H=.ok (.bl (decide (fU ps a b))) H:=by
 have h1:=tN (n:=n) (ps:=ps) H;have t1:=lU true H (a,b) ps;have t2:=lU true H (b,a) ps;simp only[aK,if_true]at t1 t2;have hne:cP (.int a) (.int b) H=.ok (.bl (!(a==b))) H:=by simp[cP,cE,bN,bS]
 generalize bB n ps=d at h1;simp only[fU]
 by_cases c0:a=b
 ·subst c0;simp[F_qu,sZ,aZ,bU,aM,aQ,m2,aA,mC,h1,aG,aT,dF,hne,bM]
 ·have c0':(a==b)=false:=by simpa using c0
  by_cases c1:(a,b)∈ps
  ·simp[F_qu,sZ,aZ,bU,aM,aQ,m2,aA,mC,h1,aG,aT,dF,hne,c0',aR,aB,aC,lim,t1,c1,bM]
  ·simp[F_qu,sZ,aZ,bU,aM,aQ,m2,aA,mC,h1,aG,aT,dF,hne,c0',c0,aR,aB,aC,lim,t1,c1,t2,bM]
def dR (q:Int×Int×Int):Dv:=.tup [.int q.1,.int q.2.1,.int q.2.2]
def nU:M (List Dv):=bX (bO dU (aA 3)) [none,none] (cV 2 (bL (aG 0) (bL (aG 1) cW))) cT (bP (aR (aB (aA 0) (aB (aA 1) (aB (mC (.int 1)) aC)))))
def nA:M (List Dv):=bX (aV cC (aB (aA 2) aC)) [none,none,some 1,some 0,some 2] (aG 0) cT (jS (aV cC (aB (aA 4) aC)) (aG 1) (bV (aH F_qu (aB (aA 3) (aB (aA 0) (aB (aA 1) aC))))) (bP (aR (aB (aA 0) (aB (aA 1) (aB (m1 lT (aA 2)) aC))))))
theorem z1g:xI=aM (aQ (aA 0) (cV 2 (bL (aG 2) (bL (aG 3) cW)))) (aM (aQ (cH nU) (aG 4)) (aM (aQ (cH nA) (aG 5)) (aT (m2 bQ (aA 4) (aA 5))))):=rfl
theorem z1h {x0 x1 x2 x4 x5:Option Dv}(hl:ps.length<=1000):nU [x0,x1,x2,some (.tup (ps.map aK)),x4,x5] H=.ok ((ps.map λp=>(p.1,p.2,(1:Int))).map dR) H:=by have h:nU [x0,x1,x2,some (.tup (ps.map aK)),x4,x5] H=.ok (ps.filterMap λp=>some (dR (p.1,p.2,1))) H:=iV ps (λp=>some (dR (p.1,p.2,1))) (λρ=>∃a b,ρ=[a,b]) rfl (by simp[cJ]) ⟨_,_,rfl⟩ rfl (λk hk ρ ⟨a,b,e⟩=>by subst e;exact⟨aK ps[k],[some (.int ps[k].1),some (.int ps[k].2)],by simp[cJ,hk],rfl,⟨_,_,rfl⟩,rfl,rfl⟩) (by omega);rw[h];simp
theorem z1i {x3 x4 x5:Option Dv}(hn:n<=6):nA [some (bB n ps),some (.int r),some (.int n),x3,x4,x5] H=.ok ((iX n ps r).map dR) H:=by
 have hr:∀{ρ:Ev}{m:M (List Dv)},m ρ H=.ok [.int n] H->aV cC m ρ H=.ok (cF 0 n) H:=λ{ρ m} e=>by unfold aV;rw[e,Rs.bind_ok];exact tP (by omega) (by omega)
 have hcap:iP [none,none,some 1,some 0,some 2] [some (bB n ps),some (.int r),some (.int n),x3,x4,x5]=[none,none,some (.int r),some (bB n ps),some (.int n)]:=rfl;have h0:aV cC (aB (aA 2) aC) [some (bB n ps),some (.int r),some (.int n),x3,x4,x5] H=.ok (cF 0 n) H:=hr rfl;have hL:=λa b=>z1f (n:=n) (ps:=ps) (H:=H) (a:=a) (b:=b);unfold nA;generalize bB n ps=d at hcap h0 hL;have h:=MF (mi:=aV cC (aB (aA 2) aC)) (mj:=aV cC (aB (aA 4) aC)) (cap:=[none,none,some 1,some 0,some 2]) (sg:=aG 0) (sg2:=aG 1) (t2:=bV (aH F_qu (aB (aA 3) (aB (aA 0) (aB (aA 1) aC))))) (e:=aR (aB (aA 0) (aB (aA 1) (aB (m1 lT (aA 2)) aC)))) (ρ:=[some d,some (.int r),some (.int n),x3,x4,x5]) (H:=H) (H1:=H)
  (ay n) (λ_=>ay n) (λa b:Nat=>if fU ps a b then some (dR ((a:Int),(b:Int),-r))else none) (λρ=>∃a b,ρ=[a,b,some (.int r),some d,some (.int n)]) h0 (by simp[cF]) (by rw[hcap];exact⟨_,_,rfl⟩) rfl
  (λk hk ρ ⟨a,b,e⟩=>by
   subst e;refine⟨.int (0+(k:Int)),[some (.int (0+(k:Int))),b,some (.int r),some d,some (.int n)],cF 0 n,λρ=>∃b,ρ=[some (.int (0+(k:Int))),b,some (.int r),some d,some (.int n)],rfl,rfl,⟨_,rfl⟩,λρ ⟨b,e⟩=>⟨_,_,e⟩,hr rfl,by simp[cF],rfl,λj hj ρ ⟨b,e⟩=>?_⟩;subst e;refine⟨.int (0+(j:Int)),[some (.int (0+(k:Int))),some (.int (0+(j:Int))),some (.int r),some d,some (.int n)],rfl,rfl,⟨_,rfl⟩, ?_⟩;have e1:(0+(k:Int))=(k:Int):=by omega
   have e2:(0+(j:Int))=(j:Int):=by omega
   rw[e1,e2,jk,jk];have ht:bV (aH F_qu (aB (aA 3) (aB (aA 0) (aB (aA 1) aC)))) [some (.int (k:Int)),some (.int (j:Int)),some (.int r),some d,some (.int n)] H=.ok (decide (fU ps k j)) H:=by simp[bV,aH,aB,aA,aC,hL,eQ]
   by_cases c:fU ps k j
   ·rw[if_pos c];exact⟨by rw[ht,decide_eq_true c],rfl⟩
   ·rw[if_neg c];show _=_;rw[ht,decide_eq_false c]) (by
   have:((ay n).flatMap λa:Nat=>(ay n).filterMap λb:Nat=>if fU ps a b then some (dR ((a:Int),(b:Int),-r))else none).length<=n*n:=by
    have hb:∀l:List Nat,(l.flatMap λa:Nat=>(ay n).filterMap λb:Nat=>if fU ps a b then some (dR ((a:Int),(b:Int),-r))else none).length<=l.length*n:=λl=>by
     induction l with
     |nil=>simp
     |cons a l ih=>rw[fh,bq,cg,lg];have:=ij (λb:Nat=>if fU ps a b then some (dR ((a:Int),(b:Int),-r))else none) (ay n);simp only[ib]at this;omega
    simpa using hb (ay n)
   have:n*n<=6*6:=jt hn hn;omega)
 have e:((ay n).flatMap λa:Nat=>(ay n).filterMap λb:Nat=>if fU ps a b then some (dR ((a:Int),(b:Int),-r))else none)=(iX n ps r).map dR:=by
  have e1:∀a:Nat,((ay n).filterMap λb:Nat=>if fU ps a b then some ((a:Int),(b:Int),-r)else none).map dR=(ay n).filterMap λb:Nat=>if fU ps a b then some (dR ((a:Int),(b:Int),-r))else none:=λa=>by
   rw[uh];refine CB _ λb _=>?_
   split <;> rfl
  unfold iX;rw[List.map_flatMap];simp only[e1]
 rw[h,e]
theorem M9 (hn:n<=6):(iX n ps r).length<=36:=by
 have hb:∀l:List Nat,(l.flatMap λa:Nat=>(ay n).filterMap λb:Nat=>if fU ps a b then some ((a:Int),(b:Int),-r)else none).length<=l.length*n:=λl=>by
  induction l with
  |nil=>simp
  |cons a l ih=>rw[fh,bq,cg,lg];have:=ij (λb:Nat=>if fU ps a b then some ((a:Int),(b:Int),-r)else none) (ay n);simp only[ib]at this;omega
 have h1:=hb (ay n);have:n*n<=6*6:=jt hn hn;simp only[ib]at h1;unfold iX;omega
theorem z1j (o:OrdP n ps):∃i H',F_q0 [bB n ps,.int r] H=.ok (.ref i) H'/\getL H' i=some ((eU n ps r).map dR)/\Fr [] H H':=by
 have w0:aQ (aA 0) (cV 2 (bL (aG 2) (bL (aG 3) cW))) [some (bB n ps),some (.int r),none,none,none,none] H=.nx [some (bB n ps),some (.int r),some (.int n),some (.tup (ps.map aK)),none,none] H:=rfl;have l0:=o.len;have c1:=z1h (H:=H) (x0:=some (bB n ps)) (x1:=some (.int r)) (x2:=some (.int n)) (x4:=none) (x5:=none) (ps:=ps) (by omega);have w1:aQ (cH nU) (aG 4) [some (bB n ps),some (.int r),some (.int n),some (.tup (ps.map aK)),none,none] H=.nx [some (bB n ps),some (.int r),some (.int n),some (.tup (ps.map aK)),some (.ref H.length),none] (H++[.lst ((ps.map λp=>(p.1,p.2,(1:Int))).map dR)]):=by unfold aQ cH;rw[c1];rfl
 have g1:getL (H++[Ob.lst ((ps.map λp=>(p.1,p.2,(1:Int))).map dR)]) H.length=some ((ps.map λp=>(p.1,p.2,(1:Int))).map dR):=eN;have f1':Fr [] H (H++[Ob.lst ((ps.map λp=>(p.1,p.2,(1:Int))).map dR)]):=Fr.app;obtain⟨i,hi⟩:∃i,i=H.length:=⟨_,rfl⟩
 rw[<-hi]at w1 g1;generalize H++[Ob.lst ((ps.map λp=>(p.1,p.2,(1:Int))).map dR)]=H1 at w1 g1 f1';have c2:=z1i (H:=H1) (x3:=some (.tup (ps.map aK))) (x4:=some (.ref i)) (x5:=none) (ps:=ps) (r:=r) o.n6;have w2:aQ (cH nA) (aG 5) [some (bB n ps),some (.int r),some (.int n),some (.tup (ps.map aK)),some (.ref i),none] H1=.nx [some (bB n ps),some (.int r),some (.int n),some (.tup (ps.map aK)),some (.ref i),some (.ref H1.length)] (H1++[.lst ((iX n ps r).map dR)]):=by unfold aQ cH;rw[c2];rfl
 have g2:getL (H1++[Ob.lst ((iX n ps r).map dR)]) H1.length=some ((iX n ps r).map dR):=eN;have g1':=gQ (l:=[Ob.lst ((iX n ps r).map dR)]) g1;have f2:Fr [] H1 (H1++[Ob.lst ((iX n ps r).map dR)]):=Fr.app;obtain⟨j,hj⟩:∃j,j=H1.length:=⟨_,rfl⟩
 rw[<-hj]at w2 g2;generalize H1++[Ob.lst ((iX n ps r).map dR)]=H2 at w2 g2 g1' f2;have la:=M9 (ps:=ps) (r:=r) o.n6;have a:=yX g1' g2 (by simp only[bj];omega);refine⟨H2.length,H2++[.lst ((eU n ps r).map dR)], ?_,eN,(f1'.trans f2 (by simp)).trans (T:=[]) Fr.app (by simp)⟩;show bM (xI [some (bB n ps),some (.int r),none,none,none,none] H)=_;rw[z1g,bJ w0,bJ w1,bJ w2];rw[<-ic]at a;have a':m2 bQ (aA 4) (aA 5) [some (bB n ps),some (.int r),some (.int n),some (.tup (ps.map aK)),some (.ref i),some (.ref j)] H2=.ok (.ref H2.length) (H2++[.lst ((eU n ps r).map dR)]):=a;unfold aT;rw[a'];rfl
end
section
variable{n:Nat}{ps:List (Int×Int)}{r:Int}{H:Hs}{i j:Nat}{fs:List Int}{nd:List (Int×Int×Int)}
def rI:M (List Dv):=bX (bO cZ (aA 2)) [none,none,none,some 3,some 0] (cV 3 (bL (aG 0) (bL (aG 1) (bL (aG 2) cW)))) (mB (m2 cD (aA 1) (aA 4))) (bP (m2 bQ (m2 aN (aA 3) (aA 0)) (aA 2)))
def rE:M Dv:=aH (f1 (eS cO)) (aB (m2 bQ (aX (aB (aA 1) aC)) (cH rI)) aC)
def rC:M (List Dv):=bX (aV pS (aB (aA 0) aC)) [none,none,some 1,some 0] (cV 2 (bL (aG 0) (bL (aG 1) cW))) cT (bP rE)
theorem z1k:xJ=aT (cH rC):=rfl
def uA (N:Nat) (nd:List (Int×Int×Int)):Prop:=∀q∈nd,0<=q.1/\q.1<N
theorem ixg {k:Int}(e:getL H j=some (fs.map Dv.int)) (h0:0<=k) (h1:k<fs.length):aN (.ref j) (.int k) H=.ok (.int (fs.getD k.toNat 0)) H:=yM e (yY h0 h1)
theorem z1l {t:Int}{x1:Option Dv}(ei:getL H i=some (nd.map dR)) (ej:getL H j=some (fs.map Dv.int)) (hN:uA fs.length nd) (hl:nd.length<=1000):rI [some (.int t),x1,some (.ref i),some (.ref j)] H=.ok ((eM fs nd t).map Dv.int) H:=by
 have hi:bO cZ (aA 2) [some (.int t),x1,some (.ref i),some (.ref j)] H=.ok (eI i nd.length) H:=by simp[bO,aA,cZ,ei]
 have h:rI [some (.int t),x1,some (.ref i),some (.ref j)] H=.ok (nd.filterMap λq=>if q.2.1=t then some (Dv.int (fs.getD q.1.toNat 0+q.2.2))else none) H:=
  iV nd (λq=>if q.2.1=t then some (Dv.int (fs.getD q.1.toNat 0+q.2.2))else none) (λρ=>∃a b c,ρ=[a,b,c,some (.ref j),some (.int t)]) hi rfl ⟨_,_,_,rfl⟩ (by simp[eI,ei]) (λk hk ρ ⟨a,b,c,e⟩=>by
   subst e;have hq:=hN nd[k] (dm hk);refine⟨dR nd[k],[some (.int nd[k].1),some (.int nd[k].2.1),some (.int nd[k].2.2),some (.ref j),some (.int t)],by simp[eI,ei,hk],rfl,⟨_,_,_,rfl⟩, ?_⟩;generalize nd[k]=q at hq;have hx:=ixg ej hq.1 hq.2
   by_cases c:q.2.1=t
   ·rw[if_pos c];have c':(q.2.1==t)=true:=by simpa using c
    exact⟨by simp[mB,m2,aA,Com.eq_int,c',cS],by simp[m2,aA,hx,bQ,lA]⟩
   ·rw[if_neg c];have c':(q.2.1==t)=false:=by simpa using c
    simp[mB,m2,aA,Com.eq_int,c',cS]) (by omega)
 rw[h];have e:(nd.filterMap λq=>if q.2.1=t then some (Dv.int (fs.getD q.1.toNat 0+q.2.2))else none)=(eM fs nd t).map Dv.int:=by
  unfold eM;rw[uh];refine CB _ λq _=>?_
  split <;> rfl
 rw[e]
theorem yZ:∀ns:List Int,bW iH (ns.map Dv.int)=some ns:=DN
theorem z1m {t:Int}:(eM fs nd t).length<=nd.length:=ij _ _
theorem z1n {t x:Int}(ei:getL H i=some (nd.map dR)) (ej:getL H j=some (fs.map Dv.int)) (hN:uA fs.length nd) (hl:nd.length<=400):∃H',rE [some (.int t),some (.int x),some (.ref i),some (.ref j)] H=.ok (.int (cO (x::eM fs nd t))) H'/\Fr [] H H':=by
 have f1':Fr [] H (H++[Ob.lst [.int x]]):=Fr.app;have g1:getL (H++[Ob.lst [.int x]]) H.length=some [.int x]:=eN;have w1:aX (aB (aA 1) aC) [some (.int t),some (.int x),some (.ref i),some (.ref j)] H=.ok (.ref H.length) (H++[Ob.lst [.int x]]):=rfl;have ei1:=f1'.getL ei (by simp);have ej1:=f1'.getL ej (by simp);obtain⟨p,hp⟩:∃p,p=H.length:=⟨_,rfl⟩
 rw[<-hp]at g1 w1;generalize H++[Ob.lst [.int x]]=H1 at f1' g1 w1 ei1 ej1;have c2:=z1l (t:=t) (x1:=some (.int x)) ei1 ej1 hN (by omega);have w2:cH rI [some (.int t),some (.int x),some (.ref i),some (.ref j)] H1=.ok (.ref H1.length) (H1++[Ob.lst ((eM fs nd t).map Dv.int)]):=by unfold cH;rw[c2];rfl
 have f2:Fr [] H1 (H1++[Ob.lst ((eM fs nd t).map Dv.int)]):=Fr.app;have g2:getL (H1++[Ob.lst ((eM fs nd t).map Dv.int)]) H1.length=some ((eM fs nd t).map Dv.int):=eN;have g1':=f2.getL g1 (by simp);obtain⟨p2,hp2⟩:∃p2,p2=H1.length:=⟨_,rfl⟩
 rw[<-hp2]at g2 w2;generalize H1++[Ob.lst ((eM fs nd t).map Dv.int)]=H2 at f2 g2 g1' w2;have hv:=z1m (fs:=fs) (nd:=nd) (t:=t);have a:=yX g1' g2 (by simp;omega);have ec:[Dv.int x]++(eM fs nd t).map Dv.int=(x::eM fs nd t).map Dv.int:=rfl;rw[ec]at a;have g3:getL (H2++[Ob.lst ((x::eM fs nd t).map Dv.int)]) H2.length=some ((x::eM fs nd t).map Dv.int):=eN;refine⟨H2++[Ob.lst ((x::eM fs nd t).map Dv.int)], ?_,(f1'.trans f2 (by simp)).trans (T:=[]) Fr.app (by simp)⟩;obtain⟨p3,hp3⟩:∃p3,p3=H2.length:=⟨_,rfl⟩
 rw[<-hp3]at a g3;generalize H2++[Ob.lst ((x::eM fs nd t).map Dv.int)]=H3 at a g3;have w3:m2 bQ (aX (aB (aA 1) aC)) (cH rI) [some (.int t),some (.int x),some (.ref i),some (.ref j)] H=.ok (.ref p3) H3:=by unfold m2;rw[w1,Rs.bind_ok,w2,Rs.bind_ok,a]
 have hm:eS cO (.ref p3) H3=.ok (.int (cO (x::eM fs nd t))) H3:=by simp only[eS,g3,yZ];rw[if_pos (by simp)]
 unfold rE;generalize m2 bQ (aX (aB (aA 1) aC)) (cH rI)=M at w3;simp[aH,aB,aC,w3,f1,hm]
theorem z1o (ei:getL H i=some (nd.map dR)) (ej:getL H j=some (fs.map Dv.int)) (hN:uA fs.length nd) (hl:nd.length<=400) (hf:fs.length<=100):∃k H',F_q4 [.ref j,.ref i] H=.ok (.ref k) H'/\getL H' k=some ((RR fs nd).map Dv.int)/\Fr [] H H':=by
 have hi:aV pS (aB (aA 0) aC) [some (.ref j),some (.ref i)] H=.ok (kJ j fs.length) H:=by simp[aV,aB,aA,aC,pS,ej]
 obtain⟨ρ',H',acc',h1,a,b,h2,h3,h4⟩:=wC (src:=kJ j fs.length) (sg:=cV 2 (bL (aG 0) (bL (aG 1) cW))) (t:=cT) (m:=bP rE)
  (λk ρ H' acc=>∃(a b:Option Dv),ρ=[a,b,some (.ref i),some (.ref j)]/\acc=((RR fs nd).take k).map Dv.int/\Fr [] H H')
  (λk ρ H' acc hk ⟨a,b,e1,e2,e3⟩=>by
   subst e1;subst e2;have hk':k<fs.length:=hk;have ei':=e3.getL ei (by simp);have ej':=e3.getL ej (by simp);obtain⟨H2,w,f⟩:=z1n (t:=(k:Int)) (x:=fs.getD k 0) ei' ej' hN hl;have hg:(kJ j fs.length).get k H'=some (.tup [.int k,.int (fs.getD k 0)]):=by simp[kJ,ej',hk']
   refine⟨.tup [.int k,.int (fs.getD k 0)],[some (.int k),some (.int (fs.getD k 0)),some (.ref i),some (.ref j)],hg,rfl,.inr ⟨H',[some (.int k),some (.int (fs.getD k 0)),some (.ref i),some (.ref j)],((RR fs nd).take (k+1)).map Dv.int,H2,rfl, ?_,_,_,rfl,rfl,e3.trans f (by simp)⟩⟩;have hq:(RR fs nd).take (k+1)=(RR fs nd).take k++[cO (fs.getD k 0::eM fs nd k)]:=by
    have hl:k<(RR fs nd).length:=by rw[iK];exact hk'
    rw[qj,aw hl];simp[RR]
   have hz:(((RR fs nd).take k).map Dv.int).length<1000000:=by simp[iK];omega
   rw[hq,ic];generalize ((RR fs nd).take k).map Dv.int=A at hz ⊢;generalize fs.getD k 0=xx at w ⊢;simp[bP,w,hz]) (λρ H' acc ⟨_,_,_,_,e5⟩=>by simp[kJ,e5.getL ej (by simp)]) fs.length 0 [none,none,some (.ref i),some (.ref j)] H [] (by simp[kJ]) ⟨none,none,rfl,by simp,Fr.refl⟩
 have ht:(RR fs nd).take (kJ j fs.length).n=RR fs nd:=jw (by rw[iK];exact aj _);rw[ht]at h3;have hc:rC [some (.ref j),some (.ref i)] H=.ok ((RR fs nd).map Dv.int) H':=by unfold rC bX;rw[hi,Rs.bind_ok];have hcap:iP [none,none,some 1,some 0] [some (.ref j),some (.ref i)]=[none,none,some (.ref i),some (.ref j)]:=rfl;rw[hcap,show(kJ j fs.length).n=fs.length from rfl,h1];dsimp only;rw[h3]
 refine⟨H'.length,H'++[.lst ((RR fs nd).map Dv.int)], ?_,eN,h4.trans (T:=[]) Fr.app (by simp)⟩;show bM (xJ [some (.ref j),some (.ref i)] H)=_;rw[z1k];unfold aT cH;rw[hc];rfl
end
section
variable{n:Nat}{ps:List (Int×Int)}{r:Int}{H:Hs}{i j:Nat}{fs:List Int}{nd:List (Int×Int×Int)}{d:Dv}
theorem NA (o:OrdP n ps):F_qk [bB n ps] H=.ok .non H:=by simp[F_qk,xH,aZ,bU,aY,dJ,bV,aH,aB,aA,aC,v5 o,eQ,bH,bM]
theorem z1p (h:TK 3 H d) (hb:gS d=false):F_qk [d] H=.ex 0 H:=by have e:=z0x h;rw[hb]at e;simp[F_qk,xH,aZ,bU,aY,dJ,bV,aH,aB,aA,aC,e,eQ,A2,mC,bM]
theorem z1q {lo hi:Int}(h0:lo<=r) (h1:r<=hi):F_qd [.int r,.int lo,.int hi] H=.ok .non H:=by have e:=yR (H:=H) (x:=r) (lo:=lo) (hi:=hi);rw[decide_eq_true h0,decide_eq_true h1]at e;simp[F_qd,xG,aZ,bU,aY,dJ,bV,aH,aB,aA,aC,e,eQ,bH,bM]
def sC:M Bool:=mB (m2 fR (aH (f1 (eS cO)) (aB (aA 3) aC)) (m2 aN (aA 0) (mC (.int 0))))
def sB:MS:=aM (aQ (aH F_q4 (aB (aA 3) (aB (aA 2) aC))) (aG 4)) (aM (aY (mB (m2 cD (aA 4) (aA 3))) (aT (aH (f1 gZ) (aB (aA 3) aC))) bH) (aQ (aA 4) (aG 3)))
theorem z1r:pZ=aM (dY (aH F_qk (aB (aA 0) aC))) (aM (dY (aH F_qd (aB (aA 1) (aB (mC (.int 0)) (aB (mC (.int 5)) aC))))) (aM (aQ (aH F_q0 (aB (aA 0) (aB (aA 1) aC))) (aG 2)) (aM (aQ (m2 kH (aX (aB (mC (.int 0)) aC)) (m2 aN (aA 0) (mC (.int 0)))) (aG 3)) (aM (hO sC sB 40) (aT (mC .non)))))):=rfl
theorem NB {x1 x2 x4:Option Dv}(hx:∀H,aN d (.int 0) H=.ok (.int n) H) (ej:getL H j=some (fs.map Dv.int)) (hl:fs≠[]):sC [some d,x1,x2,some (.ref j),x4] H=.ok (decide (cO fs<n)) H:=by
 have hm:eS cO (.ref j) H=.ok (.int (cO fs)) H:=by simp only[eS,ej,yZ];rw[if_pos (ow.mpr hl)]
 have q:=hx H;generalize (n:Int)=z at q;simp[sC,mB,m2,aH,aB,aA,aC,L2.Mr.f1,hm,mC,q,fR,cS]
theorem NC (n1:1<=n) (hx:∀H,aN d (.int 0) H=.ok (.int n) H) (hN:uA n nd) (hl:nd.length<=400) (h6:n<=6) {x1:Option Dv}{res:Option (List Int)}:∀(f:Nat) (fs:List Int) (H:Hs) (j:Nat) (x4:Option Dv),fs.length=n->cO fs<n->fV n nd f fs=some res->getL H i=some (nd.map dR)->getL H j=some (fs.map Dv.int)->
  ∃H',Fr [] H H'/\((∃gs,res=some gs/\hO sC sB (f+1) [some d,x1,some (.ref i),some (.ref j),x4] H=.rt (.tup (gs.map Dv.int)) H')∨(res=none/\∃ρ',hO sC sB (f+1) [some d,x1,some (.ref i),some (.ref j),x4] H=.nx ρ' H'))
 |0,fs,H,j,x4,_,_,h,_,_=>by cases h
 |f+1,fs,H,j,x4,hf,hm,h,ei,ej=>by
  have hne:fs≠[]:=λz=>by rw[z]at hf;simp at hf;omega
  have tc:=NB (x1:=x1) (x2:=some (.ref i)) (x4:=x4) hx ej hne;rw[decide_eq_true hm]at tc;obtain⟨k,H1,w1,ek,f1'⟩:=z1o ei ej (by rw[hf];exact hN) hl (by omega);have ej1:=f1'.getL ej (by simp);have ei1:=f1'.getL ei (by simp);have a1:aQ (aH F_q4 (aB (aA 3) (aB (aA 2) aC))) (aG 4) [some d,x1,some (.ref i),some (.ref j),x4] H=.nx [some d,x1,some (.ref i),some (.ref j),some (.ref k)] H1:=by simp[aQ,aH,aB,aA,aC,w1,aG]
  have te:mB (m2 cD (aA 4) (aA 3)) [some d,x1,some (.ref i),some (.ref j),some (.ref k)] H1=.ok (decide (RR fs nd=fs)) H1:=by have:=MB ek ej1;simp[mB,m2,aA,this,cS]
  unfold fV at h
  by_cases c:RR fs nd=fs
  ·rw[if_pos c]at h;cases h;refine⟨H1,f1',.inl ⟨fs,rfl, ?_⟩⟩;refine p0 tc ?_;unfold sB;rw[bJ a1];unfold aM;rw[sM (te.trans (by rw[decide_eq_true c]))];simp[aT,aH,aB,aA,aC,L2.Mr.f1,gZ,ej1]
  ·rw[if_neg c]at h;have hb:sB [some d,x1,some (.ref i),some (.ref j),x4] H=.nx [some d,x1,some (.ref i),some (.ref k),some (.ref k)] H1:=by unfold sB;rw[bJ a1,bJ (ρ1:=[some d,x1,some (.ref i),some (.ref j),some (.ref k)]) (h1:=H1) (by rw[pT (te.trans (by rw[decide_eq_false c]))];rfl)];rfl
   have hne':RR fs nd≠[]:=λz=>by have:=iK (fs:=fs) (nd:=nd);rw[z,hf]at this;simp at this;omega
   by_cases c2:cO (RR fs nd)>=n
   ·rw[if_pos c2]at h;cases h;refine⟨H1,f1',.inr ⟨rfl,[some d,x1,some (.ref i),some (.ref k),some (.ref k)], ?_⟩⟩;rw[DO tc hb];have t2:=NB (x1:=x1) (x2:=some (.ref i)) (x4:=some (.ref k)) hx ek hne';rw[decide_eq_false (by omega)]at t2;exact MG t2
   ·rw[if_neg c2]at h;obtain⟨H2,f2,h2⟩:=NC n1 hx hN hl h6 f (RR fs nd) H1 k (some (.ref k)) (by rw[iK];exact hf) (by omega) h ei1 ek;refine⟨H2,f1'.trans f2 (by simp), ?_⟩;rw[DO tc hb];exact h2
theorem z1s (o:OrdP n ps):uA n (eU n ps r):=λq hq=>by
 rcases bx.mp hq with hq|hq
 ·obtain⟨p,hp,rfl⟩:=bu.mp hq;have:=o.rng p hp;exact⟨this.1,this.2.1⟩
 ·obtain⟨⟨h0,h1,_,_⟩,_⟩:=mem_asd.mp hq;exact⟨h0,h1⟩
theorem z1t (n1:1<=n):cO (ba n (0:Int))<n:=by have:=(qH (ns:=ba n (0:Int)) (by intro z;have:=congrArg qc z;simp at this;omega)).1;rw[qo this];omega
theorem z1u (o:OrdP n ps) (r0:0<=r) (r5:r<=5):∃H',F_q5 [bB n ps,.int r] H=.ok (lE (iY n ps r)) H'/\Fr [] H H':=by
 have n1:=o.n1;have n6:=o.n6;have hx0:=λH=>qC (n:=n) (ps:=ps) H;have hn:=λH=>NA (H:=H) o;obtain⟨i,H1,w3,ei,f1'⟩:=z1j (H:=H) (r:=r) o;generalize bB n ps=d at hx0 hn w3;have a1:dY (aH F_qk (aB (aA 0) aC)) [some d,some (.int r),none,none,none] H=.nx [some d,some (.int r),none,none,none] H:=by simp[dY,aH,aB,aA,aC,hn]
 have a2:dY (aH F_qd (aB (aA 1) (aB (mC (.int 0)) (aB (mC (.int 5)) aC)))) [some d,some (.int r),none,none,none] H=.nx [some d,some (.int r),none,none,none] H:=by simp[dY,aH,aB,aA,mC,aC,z1q r0 r5]
 have a3:aQ (aH F_q0 (aB (aA 0) (aB (aA 1) aC))) (aG 2) [some d,some (.int r),none,none,none] H=.nx [some d,some (.int r),some (.ref i),none,none] H1:=by simp[aQ,aH,aB,aA,aC,w3,aG]
 have a4:aQ (m2 kH (aX (aB (mC (.int 0)) aC)) (m2 aN (aA 0) (mC (.int 0)))) (aG 3) [some d,some (.int r),some (.ref i),none,none] H1=.nx [some d,some (.int r),some (.ref i),some (.ref (H1.length+1)),none] (H1++[Ob.lst [.int 0]]++[Ob.lst ((ba n (0:Int)).map Dv.int)]):=by
  have e0:getL (H1++[Ob.lst [.int 0]]) H1.length=some [.int 0]:=by simp[getL]
  have q:=hx0 (H1++[Ob.lst [.int 0]]);have c0:eV (n:Int)=true:=by simp[eV];omega
  have c1:(n:Int)<9223372036854775808:=by omega
  have c2 : -9223372036854775808<=(n:Int):=by omega
  have c4:n<=1000000:=by omega
  simp[aQ,m2,aX,aB,mC,aC,lim,aA,q,kH,e0,c0,c1,c2,c4,aG]
 have f2:Fr [] H1 (H1++[Ob.lst [.int 0]]++[Ob.lst ((ba n (0:Int)).map Dv.int)]):=Fr.trans (T:=[]) Fr.app Fr.app (by simp);have e2:getL (H1++[Ob.lst [.int 0]]++[Ob.lst ((ba n (0:Int)).map Dv.int)]) (H1.length+1)=some ((ba n (0:Int)).map Dv.int):=by simp[getL]
 have ei2:=f2.getL ei (by simp);generalize H1++[Ob.lst [.int 0]]++[Ob.lst ((ba n (0:Int)).map Dv.int)]=H2 at a4 f2 e2 ei2;have hit:fV n (eU n ps r) 39 (ba n 0)=some (iY n ps r):=by
  have h:=tZ o r;have:n*n<=6*6:=jt n6 n6;have e:39=n*n+1+(38 - n*n):=by omega
  rw[e];exact EX _ h
 have hlen:(eU n ps r).length<=400:=by have:=M9 (ps:=ps) (r:=r) n6;have:=o.len;unfold eU;rw[bq,bj];omega
 obtain⟨H3,f3,h3⟩:=NC (d:=d) (i:=i) (x1:=some (.int r)) n1 hx0 (z1s o) hlen n6 39 (ba n 0) H2 (H1.length+1) none (by simp) (z1t n1) hit ei2 e2;refine⟨H3, ?_,(f1'.trans f2 (by simp)).trans f3 (by simp)⟩;show bM (pZ [some d,some (.int r),none,none,none] H)=_;rw[z1r,bJ a1,bJ a2,bJ a3,bJ a4]
 rcases h3 with⟨gs,e,w⟩|⟨e,ρ',w⟩
 ·rw[e];unfold aM;rw[w];rfl
 ·rw[e,bJ w];rfl
end
section
variable{n:Nat}{ps:List (Int×Int)}{r:Int}{fs gs s:List Int}{nd:List (Int×Int×Int)}
abbrev pl (s:List Int) (a:Int):Int:=s.getD a.toNat 0
structure Feas (n:Nat) (ps:List (Int×Int)) (r:Int) (s:List Int):Prop where
 len:s.length=n
 bd:∀x∈s,0<=x/\x<n
 up:∀p∈ps,pl s p.1<pl s p.2
 near:∀a b:Int,0<=a->a<n->0<=b->b<n->fU ps a b->pl s a - r<=pl s b
def qI (n:Nat) (fs s:List Int):Prop:=∀t,t<n->fs.getD t 0<=s.getD t 0
theorem z1v (o:OrdP n ps) (F:Feas n ps r s) (hl:fs.length=n) (h:qI n fs s):qI n (RR fs (eU n ps r)) s:=λt ht=>by
 have up:=tY (fs:=fs) (nd:=eU n ps r)
 rcases(up.2 t (by rw[hl];exact ht)).1 with e|e
 ·rw[e];exact h t ht
 ·obtain⟨q,hq,e⟩:=bu.mp e;obtain⟨e1,e2⟩:=si e;rw[<-e2]
  rcases bx.mp hq with hq|hq
  ·obtain⟨p,hp,rfl⟩:=bu.mp hq;have hr:=o.rng p hp;have h1:=h p.1.toNat (by omega);have h2:=F.up p hp;simp only at e1;have e3:p.2.toNat=t:=by omega
   unfold pl at h2;rw[e3]at h2;simp only;omega
  ·obtain⟨⟨h0,h1,h2,h3⟩,hL,h7⟩:=mem_asd.mp hq;have hb:=h q.1.toNat (by omega);have h4:=F.near q.1 q.2.1 h0 h1 h2 h3 hL;have e3:q.2.1.toNat=t:=by omega
   unfold pl at h4;rw[e3]at h4;omega
theorem EY {t:Nat}(ht:t<s.length):s.getD t 0∈s:=by simp[ht]
theorem EZ (o:OrdP n ps) (F:Feas n ps r s):∀(f:Nat) (fs:List Int),fs.length=n->qI n fs s->fV n (eU n ps r) f fs≠some none/\∀gs,fV n (eU n ps r) f fs=some (some gs)->qI n gs s
 |0,fs,_,_=>⟨λh=>(by cases h),λ_ h=>(by cases h)⟩
 |f+1,fs,hl,h=>by
  have h':=z1v o F hl h;unfold fV
  by_cases c:RR fs (eU n ps r)=fs
  ·rw[if_pos c];exact⟨λz=>(by cases z),λgs z=>by cases z;exact h⟩
  ·rw[if_neg c];have n1:=o.n1;have c2:¬ cO (RR fs (eU n ps r))>=n:=λz=>by
    have hne:RR fs (eU n ps r)≠[]:=λq=>by have:=iK (fs:=fs) (nd:=eU n ps r);rw[q,hl]at this;simp at this;omega
    obtain⟨t,ht,e⟩:=iu.mp (qH hne).1;have ht':t<n:=by rw[iK,hl]at ht;exact ht
    have h1:=h' t ht';have e2:(RR fs (eU n ps r)).getD t 0=(RR fs (eU n ps r))[t]:=by simp[ht]
    rw[e2,e]at h1;have:=(F.bd _ (EY (s:=s) (t:=t) (by rw[F.len];exact ht'))).2;omega
   rw[if_neg c2];exact EZ o F f _ (by rw[iK];exact hl) h'
theorem ND (n1:1<=n):∀(f:Nat) (fs:List Int),fs.length=n->(∀x∈fs,0<=x/\x<n)->fV n nd f fs=some (some gs)->gs.length=n/\(∀x∈gs,0<=x/\x<n)/\RR gs nd=gs
 |0,fs,_,_,h=>by cases h
 |f+1,fs,hl,hb,h=>by
  unfold fV at h
  by_cases c:RR fs nd=fs
  ·rw[if_pos c]at h;cases h;exact⟨hl,hb,c⟩
  ·rw[if_neg c]at h
   by_cases c2:cO (RR fs nd)>=n
   ·rw[if_pos c2]at h;cases h
   ·rw[if_neg c2]at h;refine ND n1 f (RR fs nd) (by rw[iK];exact hl) (λx hx=>?_) h;have h1:=(qH (ns:=RR fs nd) (λz=>by rw[z]at hx;cases hx)).2 x hx;refine⟨?_,by omega⟩;obtain⟨t,ht,e⟩:=iu.mp hx;have ht':t<fs.length:=by rw[iK]at ht;exact ht
    have h2:=(tY (fs:=fs) (nd:=nd)).2 t ht' |>.2 _ (.inl rfl)
    have e2:(RR fs nd).getD t 0=(RR fs nd)[t]:=by simp[ht]
    rw[e2,e]at h2;have:=(hb _ (EY ht')).1;omega
theorem z1w (n1:1<=n):∀x∈ba n (0:Int),0<=x/\x<n:=λx hx=>by rw[qo hx];omega
theorem NF (o:OrdP n ps) (h:iY n ps r=some gs):Feas n ps r gs:=by
 have e:=tZ o r;rw[h]at e;obtain⟨h1,h2,h3⟩:=ND o.n1 _ _ (by simp) (z1w o.n1) e;have up:=tY (fs:=gs) (nd:=eU n ps r);rw[h3]at up;refine⟨h1,h2,λp hp=>?_,λa b a0 a1 b0 b1 hL=>?_⟩
 ·have hr:=o.rng p hp;have:=(up.2 p.2.toNat (by omega)).2 (pl gs p.1+1) (.inr (bu.mpr ⟨(p.1,p.2,1),bx.mpr (.inl (bu.mpr ⟨p,hp,rfl⟩)),by
   apply Aj
   ·simp only;omega
   ·rfl⟩))
  unfold pl at this ⊢;omega
 ·have:=(up.2 b.toNat (by omega)).2 (pl gs a + -r) (.inr (bu.mpr ⟨(a,b,-r),bx.mpr (.inr (mem_asd.mpr ⟨⟨a0,a1,b0,b1⟩,hL,rfl⟩)),by
   apply Aj
   ·simp only;omega
   ·rfl⟩))
  unfold pl at this ⊢;omega
theorem zero_le (F:Feas n ps r s):qI n (ba n 0) s:=λt ht=>by have:=(F.bd _ (EY (s:=s) (t:=t) (by rw[F.len];exact ht))).1;simpa[ht]using this
theorem z1x (o:OrdP n ps) (h:iY n ps r=some gs) (F:Feas n ps r s):qI n gs s:=by have e:=tZ o r;rw[h]at e;exact(EZ o F _ _ (by simp) (zero_le F)).2 gs e
theorem z1y (o:OrdP n ps) (h:iY n ps r=none) (F:Feas n ps r s):False:=by have e:=tZ o r;rw[h]at e;exact(EZ o F _ _ (by simp) (zero_le F)).1 e
def iZ (n:Nat):Nat->List (List Int)
 |0=>[[]]
 |k+1=>(iZ n k).flatMap λs=>(ay n).map λx:Nat=>s++[(x:Int)]
theorem mem_allS:∀{k:Nat}{s:List Int},s∈iZ n k↔s.length=k/\∀x∈s,0<=x/\x<n
 |0,s=>by
  simp only[iZ,cp];constructor
  ·rintro rfl;simp
  ·rintro ⟨h,_⟩;exact List.eq_nil_of_length_eq_zero h
 |k+1,s=>by
  simp only[iZ,ni,bu,bw];constructor
  ·rintro ⟨u,hu,x,hx,rfl⟩
   obtain⟨h1,h2⟩:=mem_allS.mp hu;refine⟨by simp[h1],λy hy=>?_⟩
   rcases bx.mp hy with hy|hy
   ·exact h2 y hy
   ·rw[cp.mp hy];omega
  ·rintro ⟨h1,h2⟩
   have hne:s≠[]:=λz=>by rw[z]at h1;simp at h1
   have hlast:=h2 (s.getLast hne) (List.getLast_mem hne);refine⟨s.dropLast,mem_allS.mpr ⟨by simp[h1],λx hx=>h2 x (List.dropLast_subset s hx)⟩,(s.getLast hne).toNat,by omega, ?_⟩;have e:(((s.getLast hne).toNat:Nat):Int)=s.getLast hne:=by omega
   rw[e];exact vq hne
theorem NG (n:Nat):∀k,(iZ n k).length=n ^ k
 |0=>rfl
 |k+1=>by
  have h:=NG n k;have:∀l:List (List Int),(l.flatMap λs=>(ay n).map λx:Nat=>s++[(x:Int)]).length=l.length*n:=λl=>by
   induction l with
   |nil=>simp
   |cons a l ih=>rw[fh,bq,ih,cg,lg];simp;omega
  rw[iZ,this,h,Nat.pow_succ]
def nJ (ps:List (Int×Int)) (s:List Int):Bool:=ps.all λp=>decide (pl s p.1<pl s p.2)
def oW (n:Nat) (ps:List (Int×Int)) (s:List Int):Int:=cO (0::(fL n ps).map λq=>if pl s q.1 - pl s q.2<0 then -(pl s q.1 - pl s q.2)else pl s q.1 - pl s q.2)
def fW (n:Nat) (ps:List (Int×Int)) (r:Int):List (List Int):=((iZ n n).filter (nJ ps)).filter λs=>decide (oW n ps s<=r)
theorem E1 (r0:0<=r):s∈fW n ps r↔Feas n ps r s:=by
 unfold fW;rw[iz,iz,mem_allS];have hm:decide (oW n ps s<=r)=true↔∀q∈fL n ps,pl s q.1 - r<=pl s q.2/\pl s q.2 - r<=pl s q.1:=by
  rw[decide_eq_true_eq];have hx:=qH (ns:=0::(fL n ps).map λq=>if pl s q.1 - pl s q.2<0 then -(pl s q.1 - pl s q.2)else pl s q.1 - pl s q.2) (by simp);constructor
  ·intro h q hq;have:=hx.2 _ (bg.mpr (.inr (bu.mpr ⟨q,hq,rfl⟩)));unfold oW at h
   split at this <;> omega
  ·intro h;unfold oW
   rcases bg.mp hx.1 with e|e
   ·rw[e];exact r0
   ·obtain⟨q,hq,e⟩:=bu.mp e;rw[<-e];have:=h q hq
    split <;> omega
 rw[hm];unfold nJ;rw[ed];constructor
 ·rintro ⟨⟨⟨h1,h2⟩,h3⟩,h4⟩
  refine⟨h1,h2,λp hp=>of_decide_eq_true (h3 p hp),λa b a0 a1 b0 b1 hL=>?_⟩
  by_cases c:a<b
  ·exact(h4 (a,b) (mem_loose.mpr ⟨a0,c,b1,hL⟩)).1
  ·exact(h4 (b,a) (mem_loose.mpr ⟨b0,by have:=hL.1;simp only;omega,a1,λz=>hL.1 z.symm,hL.2.2,hL.2.1⟩)).2
 ·rintro ⟨h1,h2,h3,h4⟩
  refine⟨⟨⟨h1,h2⟩,λp hp=>decide_eq_true (h3 p hp)⟩,λq hq=>?_⟩;obtain⟨q0,q1,q2,hL⟩:=mem_loose.mp hq;exact⟨h4 q.1 q.2 q0 (by omega) (by omega) q2 hL,h4 q.2 q.1 (by omega) q2 q0 (by omega) ⟨λz=>hL.1 z.symm,hL.2.2,hL.2.1⟩⟩
theorem z1z (o:OrdP n ps) (r0:0<=r):iY n ps r=if fW n ps r=[]then none else some ((ay n).map λt:Nat=>gF ((fW n ps r).map λs=>s.getD t 0)):=by
 cases q:iY n ps r with
 |none=>have:fW n ps r=[]:=List.eq_nil_iff_forall_not_mem.mpr λs hs=>z1y o q ((E1 r0).mp hs);rw[if_pos this]
 |some gs=>
  have F:=NF o q;have hg:gs∈fW n ps r:=(E1 r0).mpr F;rw[if_neg (λz=>by rw[z]at hg;cases hg)]
  congr 1
  apply rg (by simp[F.len])
  intro t h1 h2;have ht:t<n:=by rw[<-F.len];exact h1
  simp only[List.getElem_map,jk];have hm:=z16 (ns:=(fW n ps r).map λs=>s.getD t 0) (λz=>by have:gs.getD t 0∈(fW n ps r).map λs=>s.getD t 0:=bu.mpr ⟨gs,hg,rfl⟩;rw[z]at this;cases this);have a1:=hm.2 (gs.getD t 0) (bu.mpr ⟨gs,hg,rfl⟩);obtain⟨s,hs,e⟩:=bu.mp hm.1;have a2:=z1x o q ((E1 r0).mp hs) t ht;have e2:gs.getD t 0=gs[t]:=by simp[h1]
  rw[e2]at a1 a2;rw[e]at a2;omega
end
end L2.Mr.Cod
namespace L2.Mr.K51
open PySem PySem.Spec PyProof.Rows L2 L2.Mr L2.Mr.Cod
open L2.Mr.Com
section
variable{n:Nat}{ps:List (Int×Int)}{r:Int}{H:Hs}{s:List Int}{i j:Nat}
def tI (s:List Int):Dv:=.tup (s.map Dv.int)
theorem z20 {x:Int}:F_ql [.int x] H=.ok (.bl true) H:=by simp[F_ql,CI,aZ,bU,aT,dF,m1,aA,bG,gM,mX,jV,mI,bM]
theorem uB {a:Int}(h0:0<=a) (h1:a<s.length):aN (tI s) (.int a) H=.ok (.int (pl s a)) H:=by
 obtain⟨k,rfl⟩:∃k:Nat,a=k:=⟨a.toNat,by omega⟩
 have:=DZ (H:=H) (ys:=s) (k:=k) (by omega);simpa[tI,pl]using this
def sA:M (List Dv):=bX (bO dU (aA 1)) [none,some 0] (aG 0) cT (bP (dF (aH F_ql (aB (aA 0) aC)) (kX hW vU (mC (.int 0)) (aA 0) (m2 aN (aA 1) (mC (.int 0))))))
def sP:M (List Dv):=bX (bO dU (m2 aN (aA 0) (mC (.int 1)))) [none,some 1] (aG 0) (mB (m2 jU (m2 aN (aA 1) (m2 aN (aA 0) (mC (.int 0)))) (m2 aN (aA 1) (m2 aN (aA 0) (mC (.int 1)))))) (bP (aA 0))
theorem z21:xT=aM (aY (gJ (dJ (bV (m1 (bG gD) (aA 1)))) (mB (m2 cP (aH (f1 eZ) (aB (aA 1) aC)) (m2 aN (aA 0) (mC (.int 0)))))) (aT (mC (.bl false))) bH) (aM (aY (dJ (bV (mL iF sA))) (aT (mC (.bl false))) bH) (aT (m2 cD (cH sP) (aX aC)))):=rfl
theorem z22 (hl:s.length<=100) (hb:∀x∈s,0<=x/\x<n):sA [some (bB n ps),some (tI s)] H=.ok (s.filterMap λx=>some (.bl ((λ_=>true) x))) H:=by have q0:=λH=>qC (n:=n) (ps:=ps) H;have hcap:iP [none,some 0] [some (bB n ps),some (tI s)]=[none,some (bB n ps)]:=rfl;unfold sA;have hi:bO dU (aA 1) [some (bB n ps),some (tI s)] H=.ok (cJ (s.map Dv.int)) H:=rfl;generalize bB n ps=d at q0 hcap hi;exact iV s (λx=>some (.bl ((λ_=>true) x))) (λρ=>∃a,ρ=[a,some d]) hi (by simp[cJ]) (by rw[hcap];exact⟨_,rfl⟩) rfl (λk hk ρ ⟨a,e⟩=>by subst e;have hx:=hb s[k] (dm hk);refine⟨.int s[k],[some (.int s[k]),some d],by simp[cJ,hk],rfl,⟨_,rfl⟩,rfl, ?_⟩;have q:=q0 H;generalize s[k]=x at hx;generalize (n:Int)=z at q hx;simp[dF,aH,aB,aA,aC,z20,kX,mC,hW,vU,fI,m2,q,hx.1,hx.2]) (by omega)
theorem z23 (o:OrdP n ps) (hl:s.length=n):sP [some (bB n ps),some (tI s)] H=.ok ((ps.filter λp=>decide (pl s p.1>=pl s p.2)).map aK) H:=by
 have hi:bO dU (m2 aN (aA 0) (mC (.int 1))) [some (bB n ps),some (tI s)] H=.ok (cJ (ps.map aK)) H:=rfl;have h:sP [some (bB n ps),some (tI s)] H=.ok (ps.filterMap λp=>if pl s p.1>=pl s p.2 then some (aK p)else none) H:=
  iV ps (λp=>if pl s p.1>=pl s p.2 then some (aK p)else none) (λρ=>∃a,ρ=[a,some (tI s)]) hi (by simp[cJ]) ⟨_,rfl⟩ rfl (λk hk ρ ⟨a,e⟩=>by
   subst e;have hp:=o.rng ps[k] (dm hk);refine⟨aK ps[k],[some (aK ps[k]),some (tI s)],by simp[cJ,hk],rfl,⟨_,rfl⟩, ?_⟩;generalize ps[k]=p at hp;have a1:aN (aK p) (.int 0) H=.ok (.int p.1) H:=rfl;have a2:aN (aK p) (.int 1) H=.ok (.int p.2) H:=rfl;have b1:=uB (s:=s) (H:=H) hp.1 (by rw[hl];exact hp.2.1);have b2:=uB (s:=s) (H:=H) hp.2.2.1 (by rw[hl];exact hp.2.2.2);generalize aK p=d at a1 a2;generalize tI s=e at b1 b2;generalize pl s p.1=u at b1;generalize pl s p.2=v at b2;have ht:mB (m2 jU (m2 aN (aA 1) (m2 aN (aA 0) (mC (.int 0)))) (m2 aN (aA 1) (m2 aN (aA 0) (mC (.int 1))))) [some d,some e] H=.ok (decide (u>=v)) H:=by simp[mB,m2,aA,mC,a1,a2,b1,b2,jU,fI,cS]
   by_cases c:u>=v
   ·rw[if_pos c];exact⟨by rw[ht,decide_eq_true c],rfl⟩
   ·rw[if_neg c];show _=_;rw[ht,decide_eq_false c]) (by have:=o.len;omega)
 rw[h];have e:(ps.filterMap λp=>if pl s p.1>=pl s p.2 then some (aK p)else none)=(ps.filter λp=>decide (pl s p.1>=pl s p.2)).map aK:=by
  generalize ps=l
  induction l with
  |nil=>rfl
  |cons p l ih=>
   rw[ck,List.filter_cons,ih]
   by_cases c:pl s p.1>=pl s p.2
   ·rw[if_pos c,if_pos (decide_eq_true c)];rfl
   ·rw[if_neg c,if_neg (by simpa using c)]
 rw[e]
theorem z24 (o:OrdP n ps) (hl:s.length=n) (hb:∀x∈s,0<=x/\x<n):∃H',F_qa [bB n ps,tI s] H=.ok (.bl (nJ ps s)) H'/\Fr [] H H':=by
 have q0:=qC (n:=n) (ps:=ps) H;have n6:=o.n6;have c1:=oP (z22 (H:=H) (ps:=ps) (by omega) hb);have ht:s.all (λ_=>true)=true:=by simp
 rw[ht]at c1;have c2:=z23 (H:=H) (s:=s) o hl;have hlen:f1 eZ [tI s] H=.ok (.int s.length) H:=by simp[L2.Mr.f1,eZ,tI,eY,iN,gA]
 rw[hl]at hlen;have hty:bG gD (tI s) H=.ok (.bl true) H:=rfl;generalize bB n ps=d at q0 c1 c2;generalize tI s=e at c1 c2 hlen hty;have w1:aY (gJ (dJ (bV (m1 (bG gD) (aA 1)))) (mB (m2 cP (aH (f1 eZ) (aB (aA 1) aC)) (m2 aN (aA 0) (mC (.int 0)))))) (aT (mC (.bl false))) bH [some d,some e] H=.nx [some d,some e] H:=by
  have hne:cP (.int (n:Int)) (.int (n:Int)) H=.ok (.bl false) H:=by simp[cP,cE,bN,bS]
  generalize (n:Int)=z at q0 hlen hne;simp[aY,gJ,dJ,bV,m1,aA,hty,eQ,mB,m2,aH,aB,aC,hlen,mC,q0,hne,cS,bH]
 have w2:aY (dJ (bV (mL iF sA))) (aT (mC (.bl false))) bH [some d,some e] H=.nx [some d,some e] H:=by generalize mL iF sA=M at c1;simp[aY,dJ,bV,c1,eQ,bH]
 have a1:cH sP [some d,some e] H=.ok (.ref H.length) (H++[.lst ((ps.filter λp=>decide (pl s p.1>=pl s p.2)).map aK)]):=by unfold cH;rw[c2];rfl
 have g1:getL (H++[Ob.lst ((ps.filter λp=>decide (pl s p.1>=pl s p.2)).map aK)]) H.length=some ((ps.filter λp=>decide (pl s p.1>=pl s p.2)).map aK):=eN;have f1':Fr [] H (H++[Ob.lst ((ps.filter λp=>decide (pl s p.1>=pl s p.2)).map aK)]):=Fr.app;generalize H++[Ob.lst ((ps.filter λp=>decide (pl s p.1>=pl s p.2)).map aK)]=H1 at a1 g1 f1';have a2:aX aC [some d,some e] H1=.ok (.ref H1.length) (H1++[Ob.lst []]):=rfl;have g2:getL (H1++[Ob.lst []]) H1.length=some (([]:List (Int×Int)).map aK):=eN;have g1':=gQ (l:=[Ob.lst []]) g1;have he:=z03 g1' g2;have hs:decide ((ps.filter λp=>decide (pl s p.1>=pl s p.2))=[])=nJ ps s:=by
  rw[gg,decide_eq_true_eq];unfold nJ;rw[ed,List.filter_eq_nil_iff];constructor
  ·intro h p hp;have:=h p hp;simp only[decide_eq_true_eq]at this ⊢;omega
  ·intro h p hp;have:=h p hp;simp only[decide_eq_true_eq]at this ⊢;omega
 rw[hs]at he;refine⟨H1++[Ob.lst []], ?_,f1'.trans (T:=[]) Fr.app (by simp)⟩;show bM (xT [some d,some e] H)=_;rw[z21,bJ w1,bJ w2];unfold aT m2;rw[a1,Rs.bind_ok,a2,Rs.bind_ok,he];rfl
end
section
variable{n:Nat}{ps:List (Int×Int)}{r:Int}{H:Hs}{s:List Int}{i j:Nat}
def kS (s:List Int) (q:Int×Int):Int:=if pl s q.1 - pl s q.2<0 then -(pl s q.1 - pl s q.2)else pl s q.1 - pl s q.2
def rB:MS:=dY (hG (aA 2) (aH (f1 rK) (aB (m2 fQ (m2 aN (aA 1) (aA 3)) (m2 aN (aA 1) (aA 4))) aC)))
theorem z25:xU=aM (aQ (aX (aB (mC (.int 0)) aC)) (aG 2)) (aM (cK (bO cZ (aH F_qm (aB (aA 0) aC))) (cV 2 (bL (aG 3) (bL (aG 4) cW))) rB) (aT (aH (f1 (eS cO)) (aB (aA 2) aC)))):=rfl
theorem z26 {x0:Option Dv}{a b:Int}{fs:List Int}(e:getL H i=some (fs.map Dv.int)) (hl:fs.length<=1000) (a0:0<=a) (a1:a<s.length) (b0:0<=b) (b1:b<s.length):
  rB [x0,some (tI s),some (.ref i),some (.int a),some (.int b)] H=.nx [x0,some (tI s),some (.ref i),some (.int a),some (.int b)] (H.set i (.lst ((fs++[kS s (a,b)]).map Dv.int))):=by
 have h1:=uB (s:=s) (H:=H) a0 a1;have h2:=uB (s:=s) (H:=H) b0 b1;have hz:fs.length<1000000:=by omega
 unfold kS;simp only;generalize pl s a=u at h1 ⊢;generalize pl s b=v at h2 ⊢;generalize tI s=e' at h1 h2 ⊢;simp[rB,dY,hG,aA,iR,e,aH,aB,m2,h1,h2,fQ,fI,aC,L2.Mr.f1,rK,lR,hz]
theorem z27:∀q∈fL n ps,0<=q.1/\q.1<n/\0<=q.2/\q.2<n:=λq hq=>by obtain⟨h0,h1,h2,_⟩:=mem_loose.mp hq;omega
theorem z28 (hn:n<=6):(fL n ps).length<=36:=by have:=EW n ps n;have:n*n<=6*6:=jt hn hn;unfold fL;omega
theorem z29 {d:Dv}{qs:List (Int×Int)}{q:Nat}{H0 H1:Hs}(hl:s.length=n) (hlen:qs.length<=36) (hN:∀q∈qs,0<=q.1/\q.1<(n:Int)/\0<=q.2/\q.2<(n:Int)) (hiq:q≠i) (hi0:bO cZ (aH F_qm (aB (aA 0) aC)) [some d,some (tI s),some (.ref i),none,none] H0=.ok (eI q qs.length) H1)
  (g1:getL H1 i=some (([0]:List Int).map Dv.int)) (gq:getL H1 q=some (qs.map aK)):
  ∃y3 y4 H2,cK (bO cZ (aH F_qm (aB (aA 0) aC))) (cV 2 (bL (aG 3) (bL (aG 4) cW))) rB [some d,some (tI s),some (.ref i),none,none] H0=.nx [some d,some (tI s),some (.ref i),y3,y4] H2/\getL H2 i=some ((0::qs.map (kS s)).map Dv.int)/\Fr [i] H1 H2:=by
 obtain⟨ρ',H2,w1,y3,y4,e1,e2,e3,e4⟩:=kL (sg:=cV 2 (bL (aG 3) (bL (aG 4) cW))) (b:=rB) hi0 (λk ρ H'=>∃y3 y4,ρ=[some d,some (tI s),some (.ref i),y3,y4]/\getL H' i=some ((0::(qs.map (kS s)).take k).map Dv.int)/\getL H' q=some (qs.map aK)/\Fr [i] H1 H')
  (λk ρ H' hk ⟨y3,y4,e1,e2,e3,e4⟩=>by
   subst e1;have hk':k<qs.length:=hk;have hb:=hN qs[k] (dm hk');have hz:(0::(qs.map (kS s)).take k).length<=1000:=by simp;omega
   have hsz:((s.length:Nat):Int)=(n:Int):=by rw[hl]
   have hB:=z26 (x0:=some d) (H:=H') e2 hz hb.1 (by rw[hsz];exact hb.2.1) hb.2.2.1 (by rw[hsz];exact hb.2.2.2);have hq2:(0::(qs.map (kS s)).take (k+1))=(0::(qs.map (kS s)).take k)++[kS s (qs[k].1,qs[k].2)]:=by rw[qj,dk,aw hk'];rfl
   exact⟨aK qs[k],[some d,some (tI s),some (.ref i),some (.int qs[k].1),some (.int qs[k].2)],_,_,by simp[eI,e3,hk'],rfl,hB,_,_,rfl,by rw[hq2];exact iU e2,by rw[kK (da hiq)];exact e3,e4.trans Fr.set (by simp)⟩) (λρ H' ⟨_,_,_,_,e3,_⟩=>by simp[eI,e3]) ⟨none,none,rfl,by simpa using g1,gq,Fr.refl⟩
 subst e1;have ht:(eI q qs.length).n=qs.length:=rfl;rw[ht,jw (by simp)]at e2;exact⟨y3,y4,H2,w1,e2,e4⟩
theorem z2a {d:Dv}{qs:List (Int×Int)}(hl:s.length=n) (hlen:qs.length<=36) (hN:∀q∈qs,0<=q.1/\q.1<(n:Int)/\0<=q.2/\q.2<(n:Int)) (hL:∀H,F_qm [d] H=.ok (.ref H.length) (H++[Ob.lst (qs.map aK)])) (H:Hs):
  ∃H',F_qn [d,tI s] H=.ok (.int (cO (0::qs.map (kS s)))) H'/\Fr [] H H':=by
 have w0:aQ (aX (aB (mC (.int 0)) aC)) (aG 2) [some d,some (tI s),none,none,none] H=.nx [some d,some (tI s),some (.ref H.length),none,none] (H++[.lst [.int 0]]):=rfl;have g0:getL (H++[Ob.lst [.int 0]]) H.length=some (([0]:List Int).map Dv.int):=eN;have f0:Fr [] H (H++[Ob.lst [.int 0]]):=Fr.app;obtain⟨i,hi⟩:∃i,i=H.length:=⟨_,rfl⟩
 rw[<-hi]at w0 g0;have l0:(H++[Ob.lst [.int 0]]).length=i+1:=by simp[hi]
 generalize H++[Ob.lst [.int 0]]=H0 at w0 g0 f0 l0;have hq:=hL H0;have g1:getL (H0++[Ob.lst (qs.map aK)]) i=some (([0]:List Int).map Dv.int):=gQ g0;have gq:getL (H0++[Ob.lst (qs.map aK)]) H0.length=some (qs.map aK):=eN;have f1':Fr [] H0 (H0++[Ob.lst (qs.map aK)]):=Fr.app;obtain⟨q,hqq⟩:∃q,q=H0.length:=⟨_,rfl⟩
 rw[<-hqq]at gq hq;have hiq:q≠i:=by omega
 generalize H0++[Ob.lst (qs.map aK)]=H1 at g1 gq f1' hq;have hi0:bO cZ (aH F_qm (aB (aA 0) aC)) [some d,some (tI s),some (.ref i),none,none] H0=.ok (eI q qs.length) H1:=by generalize tI s=e;simp[bO,aH,aB,aA,aC,hq,cZ,gq]
 obtain⟨y3,y4,H2,w1,e2,e4⟩:=z29 hl hlen hN hiq hi0 g1 gq;refine⟨H2, ?_,(f0.trans f1' (by simp)).trans e4 (λx hx=>.inr (by rw[cp.mp hx,hi];exact aj _))⟩;have hm:eS cO (.ref i) H2=.ok (.int (cO (0::qs.map (kS s)))) H2:=by simp only[eS,e2,yZ];rw[if_pos (by simp)]
 show bM (xU [some d,some (tI s),none,none,none] H)=_;rw[z25,bJ w0,bJ w1];generalize cO (0::qs.map (kS s))=z at hm;generalize tI s=e;simp[aT,aH,aB,aA,aC,L2.Mr.f1,hm,bM]
theorem z2b (o:OrdP n ps) (hl:s.length=n):∃H',F_qn [bB n ps,tI s] H=.ok (.int (oW n ps s)) H'/\Fr [] H H':=z2a hl (z28 o.n6) z27 (λH=>M3 (by have:=o.n6;omega)) H
def aE:M (List Dv):=bX (aV cC (aB (m2 aN (aA 0) (mC (.int 0))) aC)) [none,some 4] (aG 0) cT (bP (m2 bQ (aA 1) (aR (aB (aA 0) aC))))
def aI:MS:=dY (vM (aA 3) aE)
def aO:MS:=aM (aQ (aX aC) (aG 3)) (aM (cK (bO cZ (aA 1)) (aG 4) aI) (aQ (aA 3) (aG 1)))
def aF:M (List Dv):=bX (bO cZ (aA 1)) [none,some 0] (aG 0) (bV (aH F_qa (aB (aA 1) (aB (aA 0) aC)))) (bP (aA 0))
theorem z2c:xV=aM (aQ (aX (aB (aR aC) aC)) (aG 1)) (aM (cK (aV cC (aB (m2 aN (aA 0) (mC (.int 0))) aC)) (aG 2) aO) (aT (cH aF))):=rfl
theorem E2 {d:Dv}{ρ:Ev}(hn:n<=6) (hx:∀H,aN d (.int 0) H=.ok (.int n) H):aV cC (aB (m2 aN (aA 0) (mC (.int 0))) aC) (some d::ρ) H=.ok (cF 0 n) H:=by
 have q:aB (m2 aN (aA 0) (mC (.int 0))) aC (some d::ρ) H=.ok [.int n] H:=by have:=hx H;generalize (n:Int)=z at this;simp[aB,m2,aA,mC,aC,this]
 unfold aV;rw[q,Rs.bind_ok];exact tP (by omega) (by omega)
theorem z2d {x:Int}(hl:s.length<=100):bQ (tI s) (.tup [.int x]) H=.ok (tI (s++[x])) H:=by
 cases s with
 |nil=>rfl
 |cons a s=>
  have h:(s.length+1+1)<=1000000:=by simp at hl;omega
  simp[tI,bQ,lA,lim];omega
theorem z2e {d:Dv}{x1 x2 x3:Option Dv}(hn:n<=6) (hx:∀H,aN d (.int 0) H=.ok (.int n) H) (hl:s.length<=100):aE [some d,x1,x2,x3,some (tI s)] H=.ok (((ay n).map λx:Nat=>s++[(x:Int)]).map tI) H:=by
 have h:aE [some d,x1,x2,x3,some (tI s)] H=.ok ((ay n).filterMap λx:Nat=>some (tI (s++[(x:Int)]))) H:=
  iV (ay n) (λx:Nat=>some (tI (s++[(x:Int)]))) (λρ=>∃a,ρ=[a,some (tI s)]) (E2 hn hx) (by simp[cF]) ⟨_,rfl⟩ rfl (λk hk ρ ⟨a,e⟩=>by
   subst e;refine⟨.int (0+(k:Int)),[some (.int (0+(k:Int))),some (tI s)],rfl,rfl,⟨_,rfl⟩,rfl, ?_⟩;have e1:(0+(k:Int))=(k:Int):=by omega
   rw[e1,jk];have a:=z2d (H:=H) (x:=(k:Int)) hl;generalize tI s=e at a;generalize tI (s++[(k:Int)])=e2 at a;simp[m2,aA,aR,aB,aC,lim,a]) (by simp;omega)
 rw[h];simp
end
section
variable{n:Nat}{ps:List (Int×Int)}{r:Int}{H:Hs}{s:List Int}{i j:Nat}
abbrev jN (n:Nat) (s:List Int):List (List Int):=(ay n).map λx:Nat=>s++[(x:Int)]
theorem NH (n:Nat):∀l:List (List Int),(l.flatMap (jN n)).length=l.length*n
 | []=>by simp
 |a::l=>by rw[fh,bq,NH n l,cg,lg];simp;omega
theorem z2f {d:Dv}{x2 x4:Option Dv}{l:List (List Int)}(hn:n<=6) (hx:∀H,aN d (.int 0) H=.ok (.int n) H) (hl:l.length<=1300) (hs:∀s∈l,s.length<=100) (hij:i≠j) (ei:getL H i=some (l.map tI)) (ej:getL H j=some []):
  ∃y4 H',cK (bO cZ (aA 1)) (aG 4) aI [some d,some (.ref i),x2,some (.ref j),x4] H=.nx [some d,some (.ref i),x2,some (.ref j),y4] H'/\getL H' j=some ((l.flatMap (jN n)).map tI)/\Fr [j] H H':=by
 have hi:bO cZ (aA 1) [some d,some (.ref i),x2,some (.ref j),x4] H=.ok (eI i l.length) H:=by simp[bO,aA,cZ,ei]
 obtain⟨ρ',H',w,y4,e1,_,e3,e4⟩:=kL (sg:=aG 4) (b:=aI) hi (λk ρ H'=>∃y4,ρ=[some d,some (.ref i),x2,some (.ref j),y4]/\getL H' i=some (l.map tI)/\getL H' j=some (((l.take k).flatMap (jN n)).map tI)/\Fr [j] H H')
  (λk ρ H' hk ⟨y4,e1,e2,e3,e4⟩=>by
   subst e1;have hk':k<l.length:=hk;have hE:=z2e (x1:=some (.ref i)) (x2:=x2) (x3:=some (.ref j)) (H:=H') hn hx (hs l[k] (dm hk'));have hq:(l.take (k+1)).flatMap (jN n)=(l.take k).flatMap (jN n)++jN n l[k]:=by rw[qj,aw hk',List.flatMap_append];simp
   have hB:aI [some d,some (.ref i),x2,some (.ref j),some (tI l[k])] H'=.nx [some d,some (.ref i),x2,some (.ref j),some (tI l[k])] (H'.set j (.lst (((l.take (k+1)).flatMap (jN n)).map tI))):=by
    have hm:(((l.take k).flatMap (jN n)).map tI).length+((jN n l[k]).map tI).length<=1000000:=by
     have he:(jN n l[k]).length=n:=by simp
     rw[bj,NH,bj,he];have:(l.take k).length*n<=1300*6:=jt (by simp;omega) hn;omega
    rw[hq,ic];change aE _ H'=.ok ((jN n l[k]).map tI) H' at hE;generalize ((l.take k).flatMap (jN n)).map tI=A at e3 hm;generalize (jN n l[k]).map tI=B at hE hm;generalize tI l[k]=e at hE;simp only[aI,dY,vM,aA,jr,rf,iR,e3,Rs.bind_ok,Rs.bind,hE,A8,lim,hm,if_true,Ak];rfl
   exact⟨tI l[k],[some d,some (.ref i),x2,some (.ref j),some (tI l[k])],_,_,by simp[eI,e2,hk'],rfl,hB,_,rfl,by rw[kK (da hij)];exact e2,iU e3,e4.trans Fr.set (by simp)⟩) (λρ H' ⟨_,_,e2,_⟩=>by simp[eI,e2]) ⟨x4,rfl,ei,by simpa using ej,Fr.refl⟩
 subst e1;have ht:(eI i l.length).n=l.length:=rfl;rw[ht,jw (aj _)]at e3;exact⟨y4,H',w,e3,e4⟩
theorem zA {k:Nat}(h4:n<=4) (hk:k<=4):(iZ n k).length<=256:=by rw[NG];exact cq (Nat.pow_le_pow_left h4 k) (Aw (n:=4) (by omega) hk)
theorem z2g {d:Dv}(h4:n<=4) (hx:∀H,aN d (.int 0) H=.ok (.int n) H) (ei:getL H i=some ([[]].map tI)):
  ∃i' y2 y3 y4 H',cK (aV cC (aB (m2 aN (aA 0) (mC (.int 0))) aC)) (aG 2) aO [some d,some (.ref i),none,none,none] H=.nx [some d,some (.ref i'),y2,y3,y4] H'/\getL H' i'=some ((iZ n n).map tI)/\Fr [] H H':=by
 obtain⟨ρ',H',w,i',y2,y3,y4,e1,e2,e3⟩:=kL (sg:=aG 2) (b:=aO) (E2 (ρ:=[some (.ref i),none,none,none]) (H:=H) (by omega) hx) (λk ρ H'=>∃i' y2 y3 y4,ρ=[some d,some (.ref i'),y2,y3,y4]/\getL H' i'=some ((iZ n k).map tI)/\Fr [] H H')
  (λk ρ H' hk ⟨i',y2,y3,y4,e1,e2,e3⟩=>by
   subst e1;have hk':k<n:=by simpa[cF]using hk
   have w1:aQ (aX aC) (aG 3) [some d,some (.ref i'),some (.int (0+(k:Int))),y3,y4] H'=.nx [some d,some (.ref i'),some (.int (0+(k:Int))),some (.ref H'.length),y4] (H'++[.lst []]):=rfl;obtain⟨z4,H2,w2,g2,f2⟩:=z2f (d:=d) (x2:=some (.int (0+(k:Int)))) (x4:=y4) (n:=n) (H:=H'++[.lst []]) (i:=i') (j:=H'.length) (l:=iZ n k) (by omega) hx (cq (zA h4 (by omega)) (by omega)) (λs hs=>by have:=(mem_allS.mp hs).1;omega) (by have:=mY e2;omega) (gQ e2) eN;have w3:aQ (aA 3) (aG 1) [some d,some (.ref i'),some (.int (0+(k:Int))),some (.ref H'.length),z4] H2=.nx [some d,some (.ref H'.length),some (.int (0+(k:Int))),some (.ref H'.length),z4] H2:=rfl;refine⟨.int (0+(k:Int)),[some d,some (.ref i'),some (.int (0+(k:Int))),y3,y4],[some d,some (.ref H'.length),some (.int (0+(k:Int))),some (.ref H'.length),z4],H2,rfl,rfl, ?_,H'.length,some (.int (0+(k:Int))),some (.ref H'.length),z4,rfl,g2,e3.trans ((Fr.app (S:=[])).trans f2 (λx hx=>.inr (by rw[cp.mp hx];exact aj _))) (by simp)⟩;unfold aO;rw[bJ w1,bJ w2,w3]) (λρ H' _=>rfl) ⟨i,none,none,none,rfl,ei,Fr.refl⟩
 subst e1;have ht:(cF 0 (n:Int)).n=n:=by simp[cF]
 rw[ht]at e2;exact⟨i',y2,y3,y4,H',w,e2,e3⟩
theorem E3 {α β:Type}(p:α->Bool) (f:α->β):∀l:List α,l.flatMap (λs=>if p s=true then[f s]else[])=(l.filter p).map f
 | []=>rfl
 |a::l=>by
  rw[fh,E3 p f l,List.filter_cons]
  split <;> simp
theorem z2h {α β:Type}(p:α->Bool) (f:α->β) (l:List α):((l.filter p).map f).length<=l.length:=by rw[bj];exact mz _ _
theorem NI {α:Type}{mi:M Src}{cap:List (Option Nat)}{ρ:Ev}{t:M Bool}{e:List (Option Dv)}(xs:List α) (f:α->Dv) (p:α->Bool) {H1:Hs}(hi:mi ρ H=.ok (eI i xs.length) H1) (hc:iP cap ρ=none::e) (ei:getL H1 i=some (xs.map f)) (hl:xs.length<=1000)
  (ht:∀x∈xs,∀h,Fr [] H1 h->∃h',t (some (f x)::e) h=.ok (p x) h'/\Fr [] h h'):
  ∃H',bX mi cap (aG 0) t (bP (aA 0)) ρ H=.ok ((xs.filter p).map f) H'/\Fr [] H1 H':=by
 obtain⟨ρ',H',w,_,fr⟩:=yP (cap:=cap) (sg:=aG 0) (t:=t) (m:=bP (aA 0)) xs (λs=>if p s=true then[f s]else[]) (λρ h=>(∃a,ρ=a::e)/\Fr [] H1 h) hi rfl ⟨⟨none,hc⟩,Fr.refl⟩ (λρ h ⟨_,fr⟩=>by simp[eI,fr.getL ei (by simp)])
  (λk hk ρ h ⟨⟨a,e1⟩,fr⟩=>by
   subst e1;obtain⟨h',w,f'⟩:=ht xs[k] (dm hk) h fr;refine⟨f xs[k],some (f xs[k])::e,by simp[eI,fr.getL ei (by simp),hk],rfl, ?_⟩
   cases q:p xs[k]with
   |false=>rw[q]at w;exact .inl ⟨h',w,by simp,⟨_,rfl⟩,fr.trans f' (by simp)⟩
   |true=>
    rw[q]at w;refine .inr ⟨h',w,λacc ha=>⟨some (f xs[k])::e,h', ?_,⟨_,rfl⟩,fr.trans f' (by simp)⟩⟩;simp at ha;have:acc.length<1000000:=by omega
    simp[bP,aA,this]) (by rw[E3];have:=z2h p f xs;omega)
 rw[E3]at w;exact⟨H',w,fr⟩
abbrev qJ (n:Nat) (ps:List (Int×Int)):List (List Int):=(iZ n n).filter (nJ ps)
theorem z2i (o:OrdP n ps) (h4:n<=4):∃i H',F_q1 [bB n ps] H=.ok (.ref i) H'/\getL H' i=some ((qJ n ps).map tI)/\Fr [] H H':=by
 have w0:aQ (aX (aB (aR aC) aC)) (aG 1) [some (bB n ps),none,none,none,none] H=.nx [some (bB n ps),some (.ref H.length),none,none,none] (H++[.lst [.tup []]]):=rfl;have hs:∀s∈iZ n n,∀h,∃h',bV (aH F_qa (aB (aA 1) (aB (aA 0) aC))) [some (tI s),some (bB n ps)] h=.ok (nJ ps s) h'/\Fr [] h h':=λs hs h=>by obtain⟨h1,h2⟩:=mem_allS.mp hs;obtain⟨h',w,f⟩:=z24 (H:=h) o h1 h2;refine⟨h', ?_,f⟩;generalize tI s=e at w ⊢;generalize bB n ps=d at w ⊢;simp[bV,aH,aB,aA,aC,w,eQ]
 have hx:=λH=>qC (n:=n) (ps:=ps) H;show ∃i H',bM (xV [some (bB n ps),none,none,none,none] H)=_/\_;generalize bB n ps=d at w0 hs hx ⊢;obtain⟨i,y2,y3,y4,H1,w1,g1,f1⟩:=z2g (d:=d) (n:=n) (H:=H++[Ob.lst [.tup []]]) (i:=H.length) h4 hx eN;have f0:Fr [] H H1:=(Fr.app (S:=[])).trans f1 (by simp);obtain⟨H2,w2,f2⟩:=NI (i:=i) (H:=H1) (H1:=H1) (ρ:=[some d,some (.ref i),y2,y3,y4]) (mi:=bO cZ (aA 1)) (cap:=[none,some 0]) (e:=[some d]) (iZ n n) tI (nJ ps) (by simp[bO,aA,cZ,g1]) rfl g1 (cq (zA h4 h4) (by omega)) (λs hs' h _=>hs s hs' h);refine⟨H2.length,H2++[.lst ((qJ n ps).map tI)], ?_,eN,f0.trans (f2.trans (T:=[]) Fr.app (by simp)) (by simp)⟩;rw[z2c,bJ w0,bJ w1];unfold aT cH;change aF _ _=_ at w2;rw[w2];rfl
end
section
variable{n:Nat}{ps:List (Int×Int)}{r:Int}{H:Hs}{s:List Int}{i j:Nat}{l:List (List Int)}
def dC:M (List Dv):=bX (bO cZ (aH F_q1 (aB (aA 0) aC))) [none,some 1,some 0] (aG 0) (mB (m2 hW (aH F_qn (aB (aA 2) (aB (aA 0) aC))) (aA 1))) (bP (aA 0))
def dI:M (List Dv):=bX (bO cZ (aA 1)) [none,some 0] (aG 0) cT (bP (m2 aN (aA 0) (aA 1)))
def dE:M Dv:=aH (f1 (eS gF)) (aB (cH dI) aC)
def dT:M (List Dv):=bX (aV cC (aB (m2 aN (aA 0) (mC (.int 0))) aC)) [none,some 2] (aG 0) cT (bP dE)
theorem NJ:xW=aM (aY (mB (m2 pM (m2 aN (aA 0) (mC (.int 0))) (mC (.int 4)))) (aT (aH F_qb (aB (aA 0) (aB (aA 1) aC)))) bH) (aM (aQ (cH dC) (aG 2)) (aM (aY (mB (m2 cD (aA 2) (aX aC))) (aT (mC .non)) bH) (aT (mL A6 dT)))):=rfl
theorem z2j {t:Nat}(e:getL H i=some (l.map tI)) (hl:l.length<=1000) (hs:∀s∈l,t<s.length):dI [some (.int t),some (.ref i)] H=.ok ((l.map λs=>s.getD t 0).map Dv.int) H:=by
 have hi:bO cZ (aA 1) [some (.int t),some (.ref i)] H=.ok (eI i l.length) H:=by simp[bO,aA,cZ,e]
 have h:dI [some (.int t),some (.ref i)] H=.ok (l.filterMap λs=>some (Dv.int (s.getD t 0))) H:=iV l (λs=>some (Dv.int (s.getD t 0))) (λρ=>∃a,ρ=[a,some (.int t)]) hi rfl ⟨_,rfl⟩ (by simp[eI,e]) (λk hk ρ ⟨a,e'⟩=>by subst e';refine⟨tI l[k],[some (tI l[k]),some (.int t)],by simp[eI,e,hk],rfl,⟨_,rfl⟩,rfl, ?_⟩;have hx:=uB (s:=l[k]) (H:=H) (a:=(t:Int)) (by omega) (by have:=hs l[k] (dm hk);omega);have ht:pl l[k] (t:Int)=l[k].getD t 0:=rfl;rw[ht]at hx;generalize tI l[k]=e at hx;simp only[m2,aA,jr,rf,Rs.bind_ok,Rs.bind,hx]) (by omega);rw[h];simp
theorem z2k {t:Nat}(e:getL H i=some (l.map tI)) (hl:l.length<=1000) (hn:l≠[]) (hs:∀s∈l,t<s.length):∃H',dE [some (.int t),some (.ref i)] H=.ok (.int (gF (l.map λs=>s.getD t 0))) H'/\Fr [] H H':=by
 have h:=z2j e hl hs;have hz:0<(l.map λs=>s.getD t 0).length:=by rw[bj];exact ow.mpr hn
 generalize (l.map λs=>s.getD t 0)=ns at h hz ⊢;refine⟨H++[.lst (ns.map Dv.int)], ?_,Fr.app⟩;have g:getL (H++[Ob.lst (ns.map Dv.int)]) H.length=some (ns.map Dv.int):=eN;have hm:eS gF (.ref H.length) (H++[Ob.lst (ns.map Dv.int)])=.ok (.int (gF ns)) (H++[Ob.lst (ns.map Dv.int)]):=by simp only[eS,g,yZ];rw[if_pos hz]
 have ha:cH dI [some (.int t),some (.ref i)] H=.ok (.ref H.length) (H++[Ob.lst (ns.map Dv.int)]):=by unfold cH;rw[h];rfl
 generalize H++[Ob.lst (ns.map Dv.int)]=H1 at hm ha ⊢;generalize gF ns=z at hm ⊢;simp[dE,aH,aB,ha,aC,L2.Mr.f1,hm]
theorem z2l {d:Dv}{x1:Option Dv}(hn:n<=6) (hx:∀H,aN d (.int 0) H=.ok (.int n) H) (e:getL H i=some (l.map tI)) (hl:l.length<=1000) (hne:l≠[]) (hs:∀s∈l,s.length=n):∃H',dT [some d,x1,some (.ref i)] H=.ok (((ay n).map λt:Nat=>gF (l.map λs=>s.getD t 0)).map Dv.int) H'/\Fr [] H H':=by
 obtain⟨ρ',H',w,_,fr⟩:=yP (cap:=[none,some 2]) (sg:=aG 0) (t:=cT) (m:=bP dE) (ay n) (λt:Nat=>[Dv.int (gF (l.map λs=>s.getD t 0))]) (λρ h=>(∃a,ρ=[a,some (.ref i)])/\Fr [] H h) (E2 (ρ:=[x1,some (.ref i)]) (H:=H) hn hx) (by simp[cF]) ⟨⟨none,rfl⟩,Fr.refl⟩ (λ_ _ _=>rfl)
  (λk hk ρ h ⟨⟨a,e1⟩,fr⟩=>by
   subst e1;have hk':k<n:=by simpa using hk
   have e0:(0+(k:Int))=(k:Int):=by omega
   obtain⟨h',w,f'⟩:=z2k (t:=k) (H:=h) (i:=i) (l:=l) (fr.getL e (by simp)) hl hne (λs h=>by rw[hs s h];exact hk');refine⟨.int (0+(k:Int)),[some (.int (k:Int)),some (.ref i)],rfl,by rw[e0];rfl,.inr ⟨h,rfl,λacc ha=>⟨[some (.int (k:Int)),some (.ref i)],h', ?_,⟨_,rfl⟩,fr.trans f' (by simp)⟩⟩⟩;rw[jk];simp at ha;have:acc.length<1000000:=by omega
   simp only[bP,w,this,if_true]) (by
    have:∀m:List Nat,(m.flatMap λt:Nat=>[Dv.int (gF (l.map λs=>s.getD t 0))]).length=m.length:=λm=>by
     induction m with
     |nil=>rfl
     |cons a m ih=>rw[fh,bq,ih];simp;omega
    rw[this,ib];omega)
 refine⟨H', ?_,fr⟩;have:∀m:List Nat,(m.flatMap λt:Nat=>[Dv.int (gF (l.map λs=>s.getD t 0))])=(m.map λt:Nat=>gF (l.map λs=>s.getD t 0)).map Dv.int:=λm=>by
  induction m with
  |nil=>rfl
  |cons a m ih=>rw[fh,ih];rfl
 rw[this]at w;exact w
theorem z2m (e:getL H i=some (l.map tI)) (ej:getL H j=some []):cD (.ref i) (.ref j) H=.ok (.bl (decide (l=[]))) H:=by
 have p1:∀s:List Int,bW (bN 28 H) (s.map Dv.int)=some (s.map Dt.int):=λs=>by
  induction s with
  |nil=>rfl
  |cons a s ih=>rw[dg,bW,ih];rfl
 have p2:∀l:List (List Int),bW (bN 29 H) (l.map tI)=some (l.map λs=>Dt.tup (s.map Dt.int)):=λl=>by
  induction l with
  |nil=>rfl
  |cons a l ih=>
   have:bN 29 H (tI a)=some (Dt.tup (a.map Dt.int)):=by show bN (28+1) H (.tup (a.map Dv.int))=_;rw[bN];simp only[p1]
   rw[dg,bW,ih,this];rfl
 have q1:bN cE H (.ref i)=some (.lst (l.map λs=>Dt.tup (s.map Dt.int))):=by show bN (29+1) H (.ref i)=_;rw[bN];simp only[e,p2]
 have q2:bN cE H (.ref j)=some (.lst []):=by show bN (29+1) H (.ref j)=_;rw[bN];simp only[ej];rfl
 unfold cD;rw[q1,q2]
 cases l <;> simp[bS,eW]
theorem z2n (h4:n<=4):(fW n ps r).length<=256:=cq (mz _ _) (cq (mz _ _) (zA h4 h4))
theorem z2o {F:List Dv->Hs->Rs Dv}{d:Dv}{ρ:Ev}{H H1:Hs}{xs:List Dv}(w:F [d] H=.ok (.ref i) H1) (g:getL H1 i=some xs):bO cZ (aH F (aB (aA 0) aC)) (some d::ρ) H=.ok (eI i xs.length) H1:=by simp[bO,aH,aB,aA,aC,w,cZ,g]
theorem hr0 {z:Int}{e d:Dv}{h h':Hs}(w:F_qn [d,e] h=.ok (.int z) h'):mB (m2 hW (aH F_qn (aB (aA 2) (aB (aA 0) aC))) (aA 1)) [some e,some (.int r),some d] h=.ok (decide (z<=r)) h':=by
 have w':aH F_qn (aB (aA 2) (aB (aA 0) aC)) [some e,some (.int r),some d] h=.ok (.int z) h':=by simp[aH,aB,aA,aC,w]
 generalize aH F_qn (aB (aA 2) (aB (aA 0) aC))=m at w' ⊢;simp[mB,m2,aA,w',hW,fI,cS]
theorem hr1 (o:OrdP n ps) (h:Hs) (hs:s∈qJ n ps):∃h',mB (m2 hW (aH F_qn (aB (aA 2) (aB (aA 0) aC))) (aA 1)) [some (tI s),some (.int r),some (bB n ps)] h=.ok (decide (oW n ps s<=r)) h'/\Fr [] h h':=by obtain⟨h',w,f⟩:=z2b (H:=h) o (mem_allS.mp (iz.mp hs).1).1;exact⟨h',hr0 w,f⟩
theorem z2p (o:OrdP n ps) (r0:0<=r):∃H',F_q2 [bB n ps,.int r] H=.ok (lE (iY n ps r)) H'/\Fr [] H H':=by
 have hx:=λH=>qC (n:=n) (ps:=ps) H;have hg:pM (.int (n:Int)) (.int 4) H=.ok (.bl (decide ((n:Int)>4))) H:=by simp[pM,fI]
 show ∃H',bM (xW [some (bB n ps),some (.int r),none] H)=_/\_
 by_cases c:n<=4
 ·obtain⟨k,H1,w1,g1,f1⟩:=z2i (H:=H) o c;have hr:=λ(s:List Int) (hs:s∈qJ n ps) (h:Hs)=>hr1 (r:=r) o h hs;have hd:=z1z (r:=r) o r0;generalize bB n ps=d at hx w1 hr;have wI:aY (mB (m2 pM (m2 aN (aA 0) (mC (.int 0))) (mC (.int 4)))) (aT (aH F_qb (aB (aA 0) (aB (aA 1) aC)))) bH [some d,some (.int r),none] H=.nx [some d,some (.int r),none] H:=by have hg':decide ((n:Int)>4)=false:=decide_eq_false (by omega);rw[hg']at hg;have:=hx H;generalize (n:Int)=z at this hg;simp[aY,mB,m2,aA,mC,this,hg,cS,bH]
  have hL:(qJ n ps).length<=256:=cq (mz _ _) (zA c c);obtain⟨H2,w2,f2⟩:=NI (i:=k) (H:=H) (H1:=H1) (ρ:=[some d,some (.int r),none]) (mi:=bO cZ (aH F_q1 (aB (aA 0) aC))) (cap:=[none,some 1,some 0]) (e:=[some (.int r),some d]) (qJ n ps) tI (λs=>decide (oW n ps s<=r)) (by have:=z2o (ρ:=[some (.int r),none]) w1 g1;rw[bj]at this;exact this) rfl g1 (cq hL (by omega)) (λs hs' h _=>hr s hs' h);change dC _ _=.ok ((fW n ps r).map tI) H2 at w2;have wA:aQ (cH dC) (aG 2) [some d,some (.int r),none] H=.nx [some d,some (.int r),some (.ref H2.length)] (H2++[.lst ((fW n ps r).map tI)]):=by unfold aQ cH;rw[w2];rfl
  have g3:getL (H2++[Ob.lst ((fW n ps r).map tI)]) H2.length=some ((fW n ps r).map tI):=eN;have f3:Fr [] H (H2++[Ob.lst ((fW n ps r).map tI)]):=(f1.trans f2 (by simp)).trans (T:=[]) Fr.app (by simp);generalize H2++[Ob.lst ((fW n ps r).map tI)]=H3 at wA g3 f3;generalize H2.length=q at wA g3;have a4:aX aC [some d,some (.int r),some (.ref q)] H3=.ok (.ref H3.length) (H3++[Ob.lst []]):=rfl;have g4:getL (H3++[Ob.lst []]) H3.length=some []:=eN;have g3':getL (H3++[Ob.lst []]) q=some ((fW n ps r).map tI):=gQ g3;have f4:Fr [] H (H3++[Ob.lst []]):=f3.trans (T:=[]) Fr.app (by simp);have he:=z2m g3' g4;generalize H3++[Ob.lst []]=H4 at a4 g4 g3' f4 he;have wE:mB (m2 cD (aA 2) (aX aC)) [some d,some (.int r),some (.ref q)] H3=.ok (decide (fW n ps r=[])) H4:=by generalize aX aC=m at a4;simp[mB,m2,aA,a4,he,cS]
  rw[NJ,bJ wI,bJ wA]
  by_cases c2:fW n ps r=[]
  ·rw[if_pos c2]at hd;rw[decide_eq_true c2]at wE;refine⟨H4, ?_,f4⟩;rw[hd];unfold aM;rw[sM wE];rfl
  ·rw[if_neg c2]at hd;rw[decide_eq_false c2]at wE;obtain⟨H5,w5,f5⟩:=z2l (x1:=some (.int r)) o.n6 hx g3' (cq (z2n c) (by omega)) c2 (λs hs=>by unfold fW at hs;exact(mem_allS.mp (iz.mp (iz.mp hs).1).1).1);refine⟨H5, ?_,f4.trans f5 (by simp)⟩;have wN:aY (mB (m2 cD (aA 2) (aX aC))) (aT (mC .non)) bH [some d,some (.int r),some (.ref q)] H3=.nx [some d,some (.int r),some (.ref q)] H4:=by rw[pT wE];rfl
   rw[hd,bJ wN];unfold aT mL;rw[w5];rfl
 ·obtain⟨H',w,f⟩:=z1e o r H;refine⟨H', ?_,f⟩;generalize bB n ps=d at hx w;have hg':decide ((n:Int)>4)=true:=decide_eq_true (by omega);rw[hg']at hg;have:=hx H;rw[NJ];generalize (n:Int)=z at this hg;generalize lE (iY n ps r)=y at w;simp[aM,aY,mB,m2,aA,mC,this,hg,cS,aT,aH,aB,aC,w,bM]
end
def rq (a b c:Nat):List Dv:=[.bl (a==c),.bl (a+1==c),.bl (a+2==c)].take b
def rs1:M (List Dv):=(aB (m1 (bG (dM none tbl0)) (aA 1)) (aB (m1 (bG (dM none tbl1)) (aA 1)) (aB (m1 (bG (dM none tbl2)) (aA 1)) aC)))
def rs2:M (List Dv):=(aB (m1 (bG (dM none tbl3)) (aA 1)) (aB (m1 (bG (dM none tbl4)) (aA 1)) (aB (m1 (bG (dM none tbl5)) (aA 1)) aC)))
def rs3:M (List Dv):=(aB (m1 (bG (dM none tbl6)) (aA 1)) (aB (m1 (bG (dM none tbl7)) (aA 1)) (aB (m1 (bG (dM none tbl8)) (aA 1)) aC)))
def nK:M (List Dv):=(aB (m1 (bG (dM none tbl9)) (aA 1)) (aB (m1 (bG (dM none tbl10)) (aA 1)) (aB (m1 (bG (dM none tbl11)) (aA 1)) aC)))
def E4:M (List Dv):=(aB (m1 (bG (dM none tbl12)) (aA 1)) (aB (m1 (bG (dM none tbl13)) (aA 1)) aC))
def zB:M (List Dv):=bX (aV cC (aB (mC (.int 14)) aC)) [none,some 3] (aG 0) (bV (m2 aN (aA 1) (aA 0))) (bP (aA 0))
def NK:MS:=aY (dJ (bV (m1 (bG (dM none tblV)) (aA 1)))) (aT (mC .non)) bH
theorem z2q:jK=aM (aQ (aX rs1) (aG 3)) (aM (aQ (m2 bQ (aA 3) (aX rs2)) (aG 3)) (aM (aQ (m2 bQ (aA 3) (aX rs3)) (aG 3)) (aM (aQ (m2 bQ (aA 3) (aX nK)) (aG 3)) (aM (aQ (m2 bQ (aA 3) (aX E4)) (aG 3)) (aM NK (aT (cH zB))))))):=rfl
section
variable{c:Nat}(hc:c=0∨c=1) {H:Hs}{x0 x2 x3:Option Dv}
include hc
theorem z2r:aX rs1 [x0,some (.exc c),x2,x3] H=.ok (.ref H.length) (H++[.lst (rq 0 3 c)]):=by rcases hc with rfl|rfl <;> rfl
theorem z2s:aX rs2 [x0,some (.exc c),x2,x3] H=.ok (.ref H.length) (H++[.lst (rq 3 3 c)]):=by rcases hc with rfl|rfl <;> rfl
theorem z2t:aX rs3 [x0,some (.exc c),x2,x3] H=.ok (.ref H.length) (H++[.lst (rq 6 3 c)]):=by rcases hc with rfl|rfl <;> rfl
theorem z2u:aX nK [x0,some (.exc c),x2,x3] H=.ok (.ref H.length) (H++[.lst (rq 9 3 c)]):=by rcases hc with rfl|rfl <;> rfl
theorem z2v:aX E4 [x0,some (.exc c),x2,x3] H=.ok (.ref H.length) (H++[.lst (rq 12 2 c)]):=by rcases hc with rfl|rfl <;> rfl
theorem z2w:NK [x0,some (.exc c),x2,x3] H=.nx [x0,some (.exc c),x2,x3] H:=by rcases hc with rfl|rfl <;> rfl
theorem z2x {i:Nat}(e:getL H i=some ((ay 14).map λk=>Dv.bl (k==c))):zB [x0,some (.exc c),x2,some (.ref i)] H=.ok [.int c] H:=by
 have h:zB [x0,some (.exc c),x2,some (.ref i)] H=.ok ((ay 14).filterMap λk=>if k==c then some (.int k)else none) H:=
  iV (ay 14) (λk=>if k==c then some (.int (k:Nat))else none) (λρ=>∃a,ρ=[a,some (.ref i)]) (src:=cF 0 14) rfl rfl ⟨_,rfl⟩ rfl (λk hk ρ ⟨a,e'⟩=>by
   subst e';have hk':k<14:=by simpa using hk
   refine⟨.int (0+k),[some (.int (0+k)),some (.ref i)],rfl,rfl,⟨_,rfl⟩, ?_⟩;have ht:=ET (H:=H) (j:=k) e (by simpa using hk');rw[List.getElem_map,jk]at ht;have h0:(0+(k:Int))=(k:Int):=by omega
   rw[h0,jk]
   cases q:k==c with
   |true=>simp[bV,m2,aA,ht,q,eQ]
   |false=>simp[bV,m2,aA,ht,q,eQ]) (by simp)
 rw[h]
 rcases hc with rfl|rfl <;> rfl
theorem z2y:∃i H',rX 4 14 jK (.ex c H)=.ok (.ref i) H'/\getL H' i=some [.int c]/\Fr [] H H':=by
 obtain⟨H1,hH1⟩:∃H1,H1=H++[Ob.lst (rq 0 3 c)]:=⟨_,rfl⟩
 have g1:getL H1 H.length=some (rq 0 3 c):=by rw[hH1];exact eN
 have f1:Fr [] H H1:=by rw[hH1];exact Fr.app
 have w1:∀x0 x2 x3,aQ (aX rs1) (aG 3) [x0,some (.exc c),x2,x3] H=.nx [x0,some (.exc c),x2,some (.ref H.length)] H1:=λx0 x2 x3=>by unfold aQ;rw[z2r hc,hH1];rfl
 have step:∀(G0:Hs) (i:Nat) (xs ys:List Dv) (m:M (List Dv)),getL G0 i=some xs->(∀x0 x2 x3 (G:Hs),aX m [x0,some (.exc c),x2,x3] G=.ok (.ref G.length) (G++[.lst ys]))->xs.length+ys.length<=500->
   ∃G' j,(∀x0 x2,aQ (m2 bQ (aA 3) (aX m)) (aG 3) [x0,some (.exc c),x2,some (.ref i)] G0=.nx [x0,some (.exc c),x2,some (.ref j)] G')/\getL G' j=some (xs++ys)/\Fr [] G0 G':=by
  intro G0 i xs ys m e hm hl;refine⟨_,_,λx0 x2=>?_,eN (H:=G0++[.lst ys]) (x:=xs++ys),Fr.trans (T:=[]) Fr.app Fr.app (by simp)⟩;have a:=yX (H:=G0++[.lst ys]) (gQ e) (eN (H:=G0) (x:=ys)) hl;unfold aQ;rw[ES rfl (hm _ _ _ _) a];rfl
 obtain⟨H2,i2,w2,g2,f2⟩:=step H1 H.length (rq 0 3 c) (rq 3 3 c) rs2 g1 (λ_ _ _ _=>z2s hc) (by simp[rq]);obtain⟨H3,i3,w3,g3,f3⟩:=step H2 i2 _ (rq 6 3 c) rs3 g2 (λ_ _ _ _=>z2t hc) (by simp[rq]);obtain⟨H4,i4,w4,g4,f4⟩:=step H3 i3 _ (rq 9 3 c) nK g3 (λ_ _ _ _=>z2u hc) (by simp[rq]);obtain⟨H5,i5,w5,g5,f5⟩:=step H4 i4 _ (rq 12 2 c) E4 g4 (λ_ _ _ _=>z2v hc) (by simp[rq]);have g5':getL H5 i5=some ((ay 14).map λk=>Dv.bl (k==c)):=by rw[g5];rfl
 refine⟨H5.length,H5++[.lst [.int c]], ?_,eN,(((f1.trans f2 (by simp)).trans f3 (by simp)).trans f4 (by simp)).trans (T:=[]) (f5.trans (T:=[]) Fr.app (by simp)) (by simp)⟩;have hlt:c<14:=by omega
 show(if c<14 then rW (jK (mS 4 (.exc c)) H)else .bad)=_;rw[if_pos hlt,z2q];show rW (aM _ _ [none,some (.exc c),none,none] H)=_;rw[bJ (w1 _ _ _),bJ (w2 _ _),bJ (w3 _ _),bJ (w4 _ _),bJ (w5 _ _),bJ (z2w hc)];have hr:cH zB [none,some (.exc c),none,some (.ref i5)] H5=.ok (.ref H5.length) (H5++[.lst [.int c]]):=by unfold cH;rw[z2x hc g5'];rfl
 unfold aT;rw[hr];rfl
theorem NL {caps:List Nat}{vs:List Dv}{me:M Dv}{ρ:Ev}(hρ:oC caps ρ=some vs) (hm:me (vs.map some) H=.ex c H):
  ∃H',aY (mB (m2 cP (kF caps 4 14 jK me) (aX (aB (mC (.int c)) aC)))) (aT (mC (.bl false))) bH ρ H=.nx ρ H'/\Fr [] H H':=by
 obtain⟨i,H1,e1,g1,f1⟩:=z2y hc (H:=H);refine⟨H1++[.lst [.int c]], ?_,f1.trans (T:=[]) Fr.app (by simp)⟩;have a:kF caps 4 14 jK me ρ H=.ok (.ref i) H1:=by unfold kF;rw[hρ];show rX 4 14 jK (me (vs.map some) H)=_;rw[hm,e1]
 have b:aX (aB (mC (.int c)) aC) ρ H1=.ok (.ref H1.length) (H1++[.lst [.int c]]):=rfl;have d:cP (.ref i) (.ref H1.length) (H1++[.lst [.int c]])=.ok (.bl false) (H1++[.lst [.int c]]):=by have q1:=gQ (l:=[.lst [.int c]]) g1;have q2:=eN (H:=H1) (x:=[.int c]);simp[cP,cE,bN,q1,q2,bW,bS,eW]
 have t:mB (m2 cP (kF caps 4 14 jK me) (aX (aB (mC (.int c)) aC))) ρ H=.ok false (H1++[.lst [.int c]]):=by unfold mB m2;rw[a,Rs.bind_ok,b,Rs.bind_ok,d];rfl
 rw[pT t];rfl
end
def kT (k:Nat):List Dv:=[.int (-1),.int 6,.bl true,.non,.str "1",.tup [.int 1],.ref k,.int (10 ^ 29)]
theorem z2z {k:Nat}{H:Hs}(h:∃xs,getL H k=some xs):∀y∈kT k,T0 H y/\lZ 0 5 y=false:=by refine ey.mpr ⟨⟨trivial,rfl⟩,ey.mpr ⟨⟨trivial,rfl⟩,ey.mpr ⟨⟨trivial,rfl⟩,ey.mpr ⟨⟨trivial,rfl⟩,ey.mpr ⟨⟨trivial,rfl⟩,ey.mpr ⟨⟨trivial,rfl⟩,ey.mpr ⟨⟨h,rfl⟩,ey.mpr ⟨⟨trivial,rfl⟩,ou _⟩⟩⟩⟩⟩⟩⟩⟩
def uC:M (List Dv):=(aB (m1 lT (mC (.int 1))) (aB (mC (.int 6)) (aB (mC (.bl true)) (aB (mC .non) (aB (mC (.str "1")) (aB (aR (aB (mC (.int 1)) aC)) (aB (aX (aB (mC (.int 0)) aC)) (aB (m2 mV (mC (.int 10)) (mC (.int 29))) aC))))))))
theorem z30 {st:Nat}{H:Hs}{ρ:Ev}(s:Com.St st H) (h2:aA 2 ρ=λH=>.ok (.ref st) H):∃y H',m2 aN (aX uC) (aH F_qv (aB (aA 2) (aB (mC (.int 8)) aC))) ρ H=.ok y H'/\T0 H' y/\lZ 0 5 y=false/\Com.St st H'/\Fr [st] H H':=by
 have e1:aX uC ρ H=.ok (.ref (H++[Ob.lst [.int 0]]).length) ((H++[.lst [.int 0]])++[.lst (kT H.length)]):=by have hp:∀H,mV (.int 10) (.int 29) H=.ok (.int (10 ^ 29)) H:=λH=>rfl;have hg:lT (.int 1) H=.ok (.int (-1)) H:=rfl;simp[aX,uC,aB,m2,m1,mC,aR,aC,hp,hg,lim,kT]
 have lt:=s.lt;have f0:Fr [] H (H++[Ob.lst [.int 0]]):=Fr.app;have g0:getL (H++[Ob.lst [.int 0]]) H.length=some [.int 0]:=eN;have l0:H.length<=(H++[Ob.lst [.int 0]]).length:=f0.le;generalize hk:H.length=kk at e1 g0 l0 lt;generalize H++[Ob.lst [.int 0]]=H0 at e1 f0 g0 l0;have f1:Fr [] H0 (H0++[Ob.lst (kT kk)]):=Fr.app;have g1:getL (H0++[Ob.lst (kT kk)]) H0.length=some (kT kk):=eN;have g0':getL (H0++[Ob.lst (kT kk)]) kk=some [.int 0]:=gQ g0;generalize H0++[Ob.lst (kT kk)]=H1 at e1 f1 g1 g0';have f01:=f0.trans f1 (by simp);have s1:=s.fr f01 (by simp);obtain⟨r,H2,r0,r1,t2,f2,s2⟩:=oQ 8 s1;have g2:=f2.getL g1 (by simp;omega);have g3:=f2.getL g0' (by simp;omega);obtain⟨j,rfl⟩:∃j:Nat,r=j:=⟨r.toNat,by omega⟩
 have hj:j<(kT kk).length:=by simp[kT];omega
 have z:=z2z (H:=H2) ⟨_,g3⟩ _ (dm hj);refine⟨(kT kk)[j],H2, ?_,z.1,z.2,s2,(f01.mono (T:=[st]) (by simp)).trans f2 (by simp)⟩;have e3:aH F_qv (aB (aA 2) (aB (mC (.int 8)) aC)) ρ H1=.ok (.int j) H2:=by simp[aH,aB,h2,mC,aC,t2]
 have e4:=ET g2 hj;unfold m2;rw[e1,Rs.bind_ok,e3,Rs.bind_ok,e4]
section
variable{n:Nat}{ps:List (Int×Int)}{H:Hs}{d y:Dv}
theorem z31 (h:T0 H y) (hb:lZ 0 5 y=false):F_qd [y,.int 0,.int 5] H=.ex 1 H:=by have e:=EE (lo:=0) (hi:=5) h;rw[hb]at e;simp[F_qd,xG,aZ,bU,aY,dJ,bV,aH,aB,aA,aC,e,eQ,vK,eV,bM]
theorem z32 (o:OrdP n ps) (h:T0 H y) (hb:lZ 0 5 y=false):F_q5 [bB n ps,y] H=.ex 1 H:=by have e:=NA (H:=H) o;have e2:=z31 h hb;generalize bB n ps=d at e;simp[F_q5,pZ,aZ,bU,aM,dY,aH,aB,aA,mC,aC,e,e2,bM]
theorem z33 (h:TK 3 H d) (hb:gS d=false):F_q5 [d,y] H=.ex 0 H:=by simp[F_q5,pZ,aZ,bU,aM,dY,aH,aB,aA,aC,z1p h hb,bM]
theorem z34 {k:Nat}{x:Option (List Int)}(hl:∀xs,x=some xs->xs.length<=1000):F_qw (k+2) [lE x,lE x] H=.ok (.bl true) H:=by
 cases x with
 |none=>simp[lE,F_qw,sY,aZ,bU,aM,aY,bV,m1,bG,aA,gM,pP,eQ,bH,aT,dF,m2,cD,cE,bN,bS,jV,bM]
 |some xs=>exact z10 (hl xs rfl)
end
def aS:MS:=aY (dJ (bV (aH (F_qw 6) (aB (aH F_q5 (aB (aA 3) (aB (aA 4) aC))) (aB (aH F_q2 (aB (aA 3) (aB (aA 4) aC))) aC))))) (aT (mC (.bl false))) bH
def NM:MS:=aY (mB (m2 cP (kF [3,5] 4 14 jK tD) (aX (aB (mC (.int 1)) aC)))) (aT (mC (.bl false))) bH
def NN:MS:=aY (mB (m2 cP (kF [6,5] 4 14 jK tE) (aX (aB (mC (.int 0)) aC)))) (aT (mC (.bl false))) bH
theorem z35 (scr:List Int):xX scr=aM (aQ (aH (F_qo scr) (aB (aA 0) (aB (aA 1) aC))) (aG 2)) (aM (aQ (aH F_qq (aB (aA 2) (aB (mC (.int 6)) aC))) (aG 3)) (aM (cK (aV cC (aB (mC (.int 6)) aC)) (aG 4) aS) (aM (aQ (m2 aN (aX uC) (aH F_qv (aB (aA 2) (aB (mC (.int 8)) aC)))) (aG 5)) (aM (aQ (aH F_qc (aB (aA 2) aC)) (aG 6)) (aM NM NN))))):=rfl
section
variable{n:Nat}{ps:List (Int×Int)}{x0 x1 x2 x5 x6:Option Dv}{H:Hs}
theorem NO {F:List Dv->Hs->Rs Dv}{d e v:Dv}{H H':Hs}{x0 x1 x2 x5 x6:Option Dv}(h:F [d,e] H=.ok v H'):aH F (aB (aA 3) (aB (aA 4) aC)) [x0,x1,x2,some d,some e,x5,x6] H=.ok v H':=by simp[aH,aB,aA,aC,h]
theorem z36 {A B S:List Dv->Hs->Rs Dv}{ma mb:M Dv}{v:Dv}{ρ:Ev}{H H1 H2:Hs}(ha:ma ρ H=.ok v H1) (hb:mb ρ H1=.ok v H2) (hs:S [v,v] H2=.ok (.bl true) H2):
  aY (dJ (bV (aH S (aB ma (aB mb aC))))) (aT (mC (.bl false))) bH ρ H=.nx ρ H2:=by
 simp[aY,dJ,bV,aH,aB,ha,hb,aC,hs,eQ,bH]
theorem z37 (o:OrdP n ps) {x:Nat}(hx:x<6):∃H1,aS [x0,x1,x2,some (bB n ps),some (.int x),x5,x6] H=.nx [x0,x1,x2,some (bB n ps),some (.int x),x5,x6] H1/\Fr [] H H1:=by obtain⟨H1,e1,f1⟩:=z1u (H:=H) (r:=(x:Int)) o (by omega) (by omega);obtain⟨H2,e2,f2⟩:=z2p (H:=H1) (r:=(x:Int)) o (by omega);have hs:=z34 (k:=4) (H:=H2) (x:=iY n ps x) (λxs h=>by have:=(NF o h).len;have:=o.n6;omega);refine⟨H2, ?_,f1.trans f2 (by simp)⟩;exact z36 (A:=F_q5) (B:=F_q5) (NO e1) (NO e2) hs
theorem z38 (scr:List Int) (k:Nat) (H:Hs) (x2 x3 x4 x5 x6:Option Dv):∃H' y2 y3 y4 y5 y6,xX scr [some .scr,some (.int k),x2,x3,x4,x5,x6] H=.nx [some .scr,some (.int k),y2,y3,y4,y5,y6] H':=by
 obtain⟨H1,h1,f1',s1⟩:=y7 scr k H;have w1:aQ (aH (F_qo scr) (aB (aA 0) (aB (aA 1) aC))) (aG 2) [some .scr,some (.int k),x2,x3,x4,x5,x6] H=.nx [some .scr,some (.int k),some (.ref H.length),x3,x4,x5,x6] H1:=by simp[aQ,aH,aB,aA,aC,h1,aG]
 obtain⟨n,cs,H2,h2,o,s2,f2⟩:=z0n s1;have w2:aQ (aH F_qq (aB (aA 2) (aB (mC (.int 6)) aC))) (aG 3) [some .scr,some (.int k),some (.ref H.length),x3,x4,x5,x6] H1=.nx [some .scr,some (.int k),some (.ref H.length),some (bB n cs),x4,x5,x6] H2:=by simp[aQ,aH,aB,aA,mC,aC,h2,aG]
 have w3:aV cC (aB (mC (.int 6)) aC) [some .scr,some (.int k),some (.ref H.length),some (bB n cs),x4,x5,x6] H2=.ok (cF 0 6) H2:=rfl;generalize H.length=st at s1 s2 f2 h2 w1 w2 w3;obtain⟨ρ',H3,w4,y4,e4,s3,f3⟩:=kL (sg:=aG 4) (b:=aS) w3 (λ_ ρ Hx=>∃y4,ρ=[some .scr,some (.int k),some (.ref st),some (bB n cs),y4,x5,x6]/\Com.St st Hx/\Fr [] H2 Hx)
  (λj ρ H' hj ⟨y4,e,s,f⟩=>by subst e;have hj':j<6:=hj;obtain⟨Hy,eb,fb⟩:=z37 (x0:=some .scr) (x1:=some (.int k)) (x2:=some (.ref st)) (x5:=x5) (x6:=x6) (H:=H') o hj';exact⟨.int j,[some .scr,some (.int k),some (.ref st),some (bB n cs),some (.int j),x5,x6],_,Hy,by simp[cF],rfl,eb,_,rfl,s.fr fb (by simp),f.trans fb (by simp)⟩) (λρ H' _=>rfl) ⟨x4,rfl,s2,Fr.refl⟩
 subst e4;obtain⟨y,H4,w5,ty,tn,s4,f4⟩:=z30 (ρ:=[some .scr,some (.int k),some (.ref st),some (bB n cs),y4,x5,x6]) s3 rfl;have w5':aQ (m2 aN (aX uC) (aH F_qv (aB (aA 2) (aB (mC (.int 8)) aC)))) (aG 5) [some .scr,some (.int k),some (.ref st),some (bB n cs),y4,x5,x6] H3=.nx [some .scr,some (.int k),some (.ref st),some (bB n cs),y4,some y,x6] H4:=by unfold aQ;rw[w5];rfl
 obtain⟨d,H5,h5,td,bd,s5,f5⟩:=z15 s4;have w6:aQ (aH F_qc (aB (aA 2) aC)) (aG 6) [some .scr,some (.int k),some (.ref st),some (bB n cs),y4,some y,x6] H4=.nx [some .scr,some (.int k),some (.ref st),some (bB n cs),y4,some y,some d] H5:=by simp[aQ,aH,aB,aA,aC,h5,aG]
 have ty5:=ty.fr f5 s5;have q4:=z32 (H:=H5) o ty5 tn;obtain⟨H6,w7,f6⟩:=NL (c:=1) (.inr rfl) (H:=H5) (caps:=[3,5]) (vs:=[bB n cs,y]) (me:=tD) (ρ:=[some .scr,some (.int k),some (.ref st),some (bB n cs),y4,some y,some d]) rfl (by generalize bB n cs=z at q4;simp[tD,aH,aB,aA,aC,q4]);have q5:=z33 (y:=y) (td.fr0 f6) bd;obtain⟨H7,w8,f7⟩:=NL (c:=0) (.inl rfl) (H:=H6) (caps:=[6,5]) (vs:=[d,y]) (me:=tE) (ρ:=[some .scr,some (.int k),some (.ref st),some (bB n cs),y4,some y,some d]) rfl (by simp[tE,aH,aB,aA,aC,q5]);refine⟨H7,some (.ref st),some (bB n cs),y4,some y,some d, ?_⟩;rw[z35,bJ w1,bJ w2,bJ w4,bJ w5',bJ w6];have v7:NM [some .scr,some (.int k),some (.ref st),some (bB n cs),y4,some y,some d] H5=.nx [some .scr,some (.int k),some (.ref st),some (bB n cs),y4,some y,some d] H6:=w7;have v8:NN [some .scr,some (.int k),some (.ref st),some (bB n cs),y4,some y,some d] H6=.nx [some .scr,some (.int k),some (.ref st),some (bB n cs),y4,some y,some d] H7:=w8;rw[bJ v7,v8]
end
theorem loop (scr:List Int) (m:Int):∀(f k:Nat) (H:Hs) (x1 x2 x3 x4 x5 x6:Option Dv),∃ρ' H',fP (cF 0 m) (aG 1) (xX scr) f k [some .scr,x1,x2,x3,x4,x5,x6] H=.nx ρ' H'
 |0,k,H,x1,x2,x3,x4,x5,x6=>⟨_,H,rfl⟩
 |f+1,k,H,x1,x2,x3,x4,x5,x6=>by obtain⟨H1,y2,y3,y4,y5,y6,h⟩:=z38 scr k H x2 x3 x4 x5 x6;obtain⟨ρ',H2,h2⟩:=loop scr m f (k+1) H1 (some (.int k)) y2 y3 y4 y5 y6;refine⟨ρ',H2, ?_⟩;rw[<-h2];exact BL (d:=.int k) (ρ1:=[some .scr,some (.int k),x2,x3,x4,x5,x6]) (by simp[cF]) rfl h
theorem z39 (scr:List Int):∃hh,F_q6 scr [.scr] []=.ok (.bl true) hh:=by
 have hi:∃m:Int,aV cC (aB (aH gL (aB (mC (.int 1)) (aB (aH pH (aB (aH (f1 (iN scr)) (aB (aA 0) aC)) (aB (mC (.int 6)) aC))) aC))) aC) [some .scr,none,none,none,none,none,none] []=.ok (cF 0 m) []:=by
  generalize hz:(if(6:Int)<scr.length then(6:Int)else scr.length)=z;have z0:0<=z:=by split at hz <;> omega
  have z1:z<=6:=by split at hz <;> omega
  generalize hm:(if z>(1:Int)then z else 1)=m;have m0:1<=m:=by split at hm <;> omega
  have m1':m<=6:=by split at hm <;> omega
  have hr:kE m=true:=by simp[kE];omega
  refine⟨m, ?_⟩;have e1:pH [.int scr.length,.int 6] []=.ok (.int z) []:=by rw[<-hz];rfl
  have e2:gL [.int 1,.int z] []=.ok (.int m) []:=by rw[<-hm];rfl
  simp[aV,aB,aH,mC,aA,aC,f1,iN,gA,e1,e2,cC,hr]
 obtain⟨m,hi⟩:=hi;obtain⟨ρ',H',h⟩:=loop scr m (cF 0 m).n 0 [] none none none none none none;refine⟨H', ?_⟩;show bM (xY scr [some .scr,none,none,none,none,none,none] [])=_;unfold xY LR;rw[bJ ((vZ hi).trans h)];rfl
open PySem PySem.Spec PySem.Calls PySem.W PyProof.Rows L2 L2.Mr
theorem mk_of {l:OpenLaw}{w:cw}{K:Frag}{h:cz}{mg:Str->Option af}{fa:ah}(hob:ob K=obE) (hnt:noTabs K=true) (X:K.In h) (G:h.Ns du mg) (hfa:mg "law" = some (.ref fa)):
  ∃(fd:br) (c P:ah),(∀(s:ag) (u:af),BindsTo s fd ⟨[u],[]⟩ [("_law_script",u)])/\tabIn K "law" = some (c,P)/\noTabs K=true /\
   ∀(base:cz) (a:ah) (ns:List Int),ns.length<=63->K.In base->base.Ns du mg->CodeHd base c P->lS mg base->Lawful l.prog w K mg base 13 fa fd "_law_script" P a ns:=by
 have hc:obF.all (λf=>f K)=true:=congrArg dy hob;have hf:zD K=zE:=congrArg pf hob;have e:=hfa.symm.trans (mg_of X G (v:=.ref 400) (dA hc 32 rfl));cases e;refine(λ(z:∀R:Prop,(_->R)->R)=>z _ id) λR hR=>?_;obtain⟨g0,U0,B0,C0,D0⟩:=dG (st:=CJ) (n := "is_whole") (c:=201) (ps:=["thing"]) (dB hf 0 (a:=bK K 202) rfl rfl) (bI hc 65 rfl) (bI hc 98 rfl) λ_ _ _ _ _ _=>jT λ_=>rfl;obtain⟨g1,U1,B1,C1,D1⟩:=dG (st:=CK) (n := "is_between") (c:=208) (ps:=["thing","low","high"]) (dB hf 1 (a:=bK K 209) rfl rfl) (bI hc 66 rfl) (bI hc 99 rfl) λ_ _ _ _ _ _=>BB λ_ _ _=>rfl;obtain⟨g2,U2,B2,C2,D2⟩:=dG (st:=CL) (n := "need_between") (c:=215) (ps:=["thing","low","high"]) (dB hf 2 (a:=bK K 216) rfl rfl) (bI hc 67 rfl) (bI hc 100 rfl) λ_ _ _ _ _ _=>BB λ_ _ _=>rfl;obtain⟨g3,U3,B3,C3,D3⟩:=dG (st:=xZ) (n := "is_rising") (c:=220) (ps:=["parts"]) (dB hf 3 (a:=bK K 221) rfl rfl) (bI hc 68 rfl) (bI hc 101 rfl) λ_ _ _ _ _ _=>jT λ_=>rfl;obtain⟨g4,U4,B4,C4,D4⟩:=dG (st:=CM) (n := "is_thing") (c:=227) (ps:=["many","thing"]) (dB hf 4 (a:=bK K 228) rfl rfl) (bI hc 69 rfl) (bI hc 102 rfl) λ_ _ _ _ _ _=>gC λ_ _=>rfl;obtain⟨g5,U5,B5,C5,D5⟩:=dG (st:=yA) (n := "are_things") (c:=232) (ps:=["many","thing"]) (dB hf 5 (a:=bK K 233) rfl rfl) (bI hc 70 rfl) (bI hc 103 rfl) λ_ _ _ _ _ _=>gC λ_ _=>rfl;obtain⟨g6,U6,B6,C6,D6⟩:=dG (st:=CN) (n := "is_pair") (c:=239) (ps:=["many","thing"]) (dB hf 6 (a:=bK K 240) rfl rfl) (bI hc 71 rfl) (bI hc 104 rfl) λ_ _ _ _ _ _=>gC λ_ _=>rfl;obtain⟨g7,U7,B7,C7,D7⟩:=dG (st:=yB) (n := "are_pairs") (c:=244) (ps:=["many","things"]) (dB hf 7 (a:=bK K 245) rfl rfl) (bI hc 72 rfl) (bI hc 105 rfl) λ_ _ _ _ _ _=>gC λ_ _=>rfl;obtain⟨g8,U8,B8,C8,D8⟩:=dG (st:=yC) (n := "has_alike") (c:=249) (ps:=["pairs"]) (dB hf 8 (a:=bK K 250) rfl rfl) (bI hc 73 rfl) (bI hc 106 rfl) λ_ _ _ _ _ _=>jT λ_=>rfl;obtain⟨g9,U9,B9,C9,D9⟩:=dG (st:=yD) (n := "is_complete") (c:=254) (ps:=["pairs"]) (dB hf 9 (a:=bK K 255) rfl rfl) (bI hc 74 rfl) (bI hc 107 rfl) λ_ _ _ _ _ _=>jT λ_=>rfl;obtain⟨g10,U10,B10,C10,D10⟩:=dG (st:=CO) (n := "is_order") (c:=261) (ps:=["thing"]) (dB hf 10 (a:=bK K 262) rfl rfl) (bI hc 75 rfl) (bI hc 108 rfl) λ_ _ _ _ _ _=>jT λ_=>rfl;obtain⟨g11,U11,B11,C11,D11⟩:=dG (st:=CP) (n := "need_order") (c:=268) (ps:=["order"]) (dB hf 11 (a:=bK K 269) rfl rfl) (bI hc 76 rfl) (bI hc 109 rfl) λ_ _ _ _ _ _=>jT λ_=>rfl;obtain⟨g12,U12,B12,C12,D12⟩:=dG (st:=CQ) (n := "are_loose") (c:=275) (ps:=["order","one","other"]) (dB hf 12 (a:=bK K 276) rfl rfl) (bI hc 77 rfl) (bI hc 110 rfl) λ_ _ _ _ _ _=>BB λ_ _ _=>rfl;obtain⟨g13,U13,B13,C13,D13⟩:=dG (st:=tF) (n := "needs_of") (c:=280) (ps:=["order","reach"]) (dB hf 13 (a:=bK K 281) rfl rfl) (bI hc 78 rfl) (bI hc 111 rfl) λ_ _ _ _ _ _=>gC λ_ _=>rfl;obtain⟨g14,U14,B14,C14,D14⟩:=dG (st:=yE) (n := "raised") (c:=285) (ps:=["places","needs"]) (dB hf 14 (a:=bK K 286) rfl rfl) (bI hc 79 rfl) (bI hc 112 rfl) λ_ _ _ _ _ _=>gC λ_ _=>rfl;obtain⟨g15,U15,B15,C15,D15⟩:=dG (st:=CS) (n := "seated") (c:=292) (ps:=["order","reach"]) (dB hf 15 (a:=bK K 293) rfl rfl) (bI hc 80 rfl) (bI hc 113 rfl) λ_ _ _ _ _ _=>gC λ_ _=>rfl;obtain⟨g16,U16,B16,C16,D16⟩:=dG (st:=CT) (n := "_law_whole") (c:=299) (ps:=["_law_thing"]) (dB hf 16 (a:=bK K 300) rfl rfl) (bI hc 81 rfl) (bI hc 114 rfl) λ_ _ _ _ _ _=>jT λ_=>rfl;obtain⟨g17,U17,B17,C17,D17⟩:=dG (st:=tG) (n := "_law_is_seating") (c:=304) (ps:=["_law_order_here","_law_thing"]) (dB hf 17 (a:=bK K 305) rfl rfl) (bI hc 82 rfl) (bI hc 115 rfl) λ_ _ _ _ _ _=>gC λ_ _=>rfl;obtain⟨g18,U18,B18,C18,D18⟩:=dG (st:=CU) (n := "_law_loose") (c:=311) (ps:=["_law_order_here"]) (dB hf 18 (a:=bK K 312) rfl rfl) (bI hc 83 rfl) (bI hc 116 rfl) λ_ _ _ _ _ _=>jT λ_=>rfl;obtain⟨g19,U19,B19,C19,D19⟩:=dG (st:=CV) (n := "_law_least_with") (c:=318) (ps:=["_law_order_here","_law_reach_here"]) (dB hf 19 (a:=bK K 319) rfl rfl) (bI hc 84 rfl) (bI hc 117 rfl) λ_ _ _ _ _ _=>gC λ_ _=>rfl;obtain⟨g20,U20,B20,C20,D20⟩:=dG (st:=CW) (n := "_law_reach") (c:=325) (ps:=["_law_order_here","_law_seating"]) (dB hf 20 (a:=bK K 326) rfl rfl) (bI hc 85 rfl) (bI hc 118 rfl) λ_ _ _ _ _ _=>gC λ_ _=>rfl;obtain⟨g21,U21,B21,C21,D21⟩:=dG (st:=CY) (n := "_law_cell_at") (c:=332) (ps:=["_law_script","_law_k"]) (dB hf 21 (a:=bK K 333) rfl rfl) (bI hc 86 rfl) (bI hc 119 rfl) λ_ _ _ _ _ _=>gC λ_ _=>rfl;obtain⟨g22,U22,B22,C22,D22⟩:=dG (st:=CZ) (n := "_law_state") (c:=339) (ps:=["_law_script","_law_k"]) (dB hf 22 (a:=bK K 340) rfl rfl) (bI hc 87 rfl) (bI hc 120 rfl) λ_ _ _ _ _ _=>gC λ_ _=>rfl;obtain⟨g23,U23,B23,C23,D23⟩:=dG (st:=DB) (n := "_law_take") (c:=346) (ps:=["_law_state_here","_law_many"]) (dB hf 23 (a:=bK K 347) rfl rfl) (bI hc 88 rfl) (bI hc 121 rfl) λ_ _ _ _ _ _=>gC λ_ _=>rfl;obtain⟨g24,U24,B24,C24,D24⟩:=dG (st:=DC) (n := "_law_mixed") (c:=353) (ps:=["_law_state_here","_law_many"]) (dB hf 24 (a:=bK K 354) rfl rfl) (bI hc 89 rfl) (bI hc 122 rfl) λ_ _ _ _ _ _=>gC λ_ _=>rfl;obtain⟨g25,U25,B25,C25,D25⟩:=dG (st:=DD) (n := "_law_closed") (c:=360) (ps:=["_law_many","_law_pairs"]) (dB hf 25 (a:=bK K 361) rfl rfl) (bI hc 90 rfl) (bI hc 123 rfl) λ_ _ _ _ _ _=>gC λ_ _=>rfl;obtain⟨g26,U26,B26,C26,D26⟩:=dG (st:=yF) (n := "_law_order") (c:=365) (ps:=["_law_state_here","_law_most"]) (dB hf 26 (a:=bK K 366) rfl rfl) (bI hc 91 rfl) (bI hc 124 rfl) λ_ _ _ _ _ _=>gC λ_ _=>rfl;obtain⟨g27,U27,B27,C27,D27⟩:=dG (st:=yG) (n := "_law_same") (c:=370) (ps:=["_law_found","_law_due_here"]) (dB hf 27 (a:=bK K 371) rfl rfl) (bI hc 92 rfl) (bI hc 125 rfl) λ_ _ _ _ _ _=>gC λ_ _=>rfl;obtain⟨g28,U28,B28,C28,D28⟩:=dG (st:=DE) (n := "_law_bad_order") (c:=377) (ps:=["_law_state_here"]) (dB hf 28 (a:=bK K 378) rfl rfl) (bI hc 93 rfl) (bI hc 126 rfl) λ_ _ _ _ _ _=>jT λ_=>rfl;obtain⟨g29,U29,B29,C29,D29⟩:=dG (st:=oJ) (n := "_law_refused") (c:=382) (ps:=["_law_call"]) (dB hf 29 (a:=bK K 383) rfl rfl) (bI hc 94 rfl) (bI hc 127 rfl) λ_ _ _ _ _ _=>jT λ_=>rfl;obtain⟨g30,U30,B30,C30,D30⟩:=dG (st:=tH) (n := "_law_all") (c:=387) (ps:=["_law_order_here"]) (dB hf 30 (a:=bK K 388) rfl rfl) (bI hc 95 rfl) (bI hc 128 rfl) λ_ _ _ _ _ _=>jT λ_=>rfl;obtain⟨g31,U31,B31,C31,D31⟩:=dG (st:=tJ) (n := "_law_due") (c:=392) (ps:=["_law_order_here","_law_reach_here"]) (dB hf 31 (a:=bK K 393) rfl rfl) (bI hc 96 rfl) (bI hc 129 rfl) λ_ _ _ _ _ _=>gC λ_ _=>rfl;obtain⟨g32,U32,B32,C32,D32⟩:=dG (st:=tK) (n := "law") (c:=399) (ps:=["_law_script"]) (dB hf 32 (a:=bK K 400) rfl rfl) (bI hc 97 rfl) (bI hc 130 rfl) λ_ _ _ _ _ _=>jT λ_=>rfl;obtain⟨t_MOST_THINGS,c_MOST_THINGS⟩:=E6 (n := "MOST_THINGS") (v:=6) (bI hc 131 rfl);obtain⟨t_MOST_APART,c_MOST_APART⟩:=E6 (n := "MOST_APART") (v:=5) (bI hc 132 rfl);have ex_NoOrder:ExK K 37:=⟨dA hc 176 rfl,dA hc 177 rfl,dA hc 178 rfl,dA hc 179 rfl,dA hc 180 rfl,dA hc 181 rfl,E5 (bI hc 182 rfl)⟩
 have ex_NoNumber:ExK K 49:=⟨dA hc 183 rfl,dA hc 184 rfl,dA hc 185 rfl,dA hc 186 rfl,dA hc 187 rfl,dA hc 188 rfl,E5 (bI hc 189 rfl)⟩
 refine hR ⟨g32,399,395,λs v=>.of_eq (D32 [v] rfl),dA hc 133 rfl,hnt,λbase a ns hlen _ _ hC hB=>⟨?_⟩⟩;obtain⟨hh,hl⟩:=z39 ns;refine⟨{ K:=K,cl:=λc=>match c with|0=>37|1=>49|2=>61|3=>73|4=>85|5=>97|6=>145|7=>157|8=>169|9=>181|10=>193|11=>109|12=>121|13=>133|_=>24,scr:=ns,sa:=a,tab:=some 395,lq:=(("law" : Str) ++ ".<locals>.") ++ "<lambda>" },F_q6 ns,hh,rfl,rfl,rfl,rfl,hl, ?_⟩;refine m8 (A:={ f_qx:=202,fd_qx:=g0,f_qi:=209,fd_qi:=g1,f_qd:=216,fd_qd:=g2,f_qr:=221,fd_qr:=g3,f_qy:=228,fd_qy:=g4,f_qj:=233,fd_qj:=g5,f_q3:=240,fd_q3:=g6,f_qs:=245,fd_qs:=g7,f_qt:=250,fd_qt:=g8,f_qg:=255,fd_qg:=g9,f_qz:=262,fd_qz:=g10,f_qk:=269,fd_qk:=g11,f_qu:=276,fd_qu:=g12,f_q0:=281,fd_q0:=g13,f_q4:=286,fd_q4:=g14,f_q5:=293,fd_q5:=g15,f_ql:=300,fd_ql:=g16,f_qa:=305,fd_qa:=g17,f_qm:=312,fd_qm:=g18,f_qb:=319,fd_qb:=g19,f_qn:=326,fd_qn:=g20,f_qe:=333,fd_qe:=g21,f_qo:=340,fd_qo:=g22,f_qv:=347,fd_qv:=g23,f_qp:=354,fd_qp:=g24,f_qh:=361,fd_qh:=g25,f_qq:=366,fd_qq:=g26,f_qw:=371,fd_qw:=g27,f_qc:=378,fd_qc:=g28,f_qf:=383,fd_qf:=g29,f_q1:=388,fd_q1:=g30,f_q2:=393,fd_q2:=g31,f_q6:=400,fd_q6:=g32,c_NoOrder:=37,c_NoNumber:=49,c_NoPairs:=61,c_Round:=73,c_NoThing:=85,c_NoRow:=97,c_TooMany:=145,c_TooFew:=157,c_NoText:=169,c_NoLine:=181,c_NoDeed:=193,c_NoSeating:=109,c_NoRing:=121,c_NoSizes:=133,t_MOST_THINGS:=t_MOST_THINGS,t_MOST_APART:=t_MOST_APART,NE:=24,cc:=399,P:=395 }) ?_ hC hB;exact{ hK:=rfl,F_qx:=U0,B_qx:=B0,m_qx:=mg_of X G (dA hc 0 rfl),F_qi:=U1,B_qi:=B1,m_qi:=mg_of X G (dA hc 1 rfl),F_qd:=U2,B_qd:=B2,m_qd:=mg_of X G (dA hc 2 rfl),F_qr:=U3,B_qr:=B3,m_qr:=mg_of X G (dA hc 3 rfl),F_qy:=U4,B_qy:=B4,m_qy:=mg_of X G (dA hc 4 rfl),F_qj:=U5,B_qj:=B5,m_qj:=mg_of X G (dA hc 5 rfl),F_q3:=U6,B_q3:=B6,m_q3:=mg_of X G (dA hc 6 rfl),F_qs:=U7,B_qs:=B7,m_qs:=mg_of X G (dA hc 7 rfl),F_qt:=U8,B_qt:=B8,m_qt:=mg_of X G (dA hc 8 rfl),F_qg:=U9,B_qg:=B9,m_qg:=mg_of X G (dA hc 9 rfl),F_qz:=U10,B_qz:=B10,m_qz:=mg_of X G (dA hc 10 rfl),F_qk:=U11,B_qk:=B11,m_qk:=mg_of X G (dA hc 11 rfl),F_qu:=U12,B_qu:=B12,m_qu:=mg_of X G (dA hc 12 rfl),F_q0:=U13,B_q0:=B13,m_q0:=mg_of X G (dA hc 13 rfl),F_q4:=U14,B_q4:=B14,m_q4:=mg_of X G (dA hc 14 rfl),F_q5:=U15,B_q5:=B15,m_q5:=mg_of X G (dA hc 15 rfl),F_ql:=U16,B_ql:=B16,m_ql:=mg_of X G (dA hc 16 rfl),F_qa:=U17,B_qa:=B17,m_qa:=mg_of X G (dA hc 17 rfl),F_qm:=U18,B_qm:=B18,m_qm:=mg_of X G (dA hc 18 rfl),F_qb:=U19,B_qb:=B19,m_qb:=mg_of X G (dA hc 19 rfl),F_qn:=U20,B_qn:=B20,m_qn:=mg_of X G (dA hc 20 rfl),F_qe:=U21,B_qe:=B21,m_qe:=mg_of X G (dA hc 21 rfl),F_qo:=U22,B_qo:=B22,m_qo:=mg_of X G (dA hc 22 rfl),F_qv:=U23,B_qv:=B23,m_qv:=mg_of X G (dA hc 23 rfl),F_qp:=U24,B_qp:=B24,m_qp:=mg_of X G (dA hc 24 rfl),F_qh:=U25,B_qh:=B25,m_qh:=mg_of X G (dA hc 25 rfl),F_qq:=U26,B_qq:=B26,m_qq:=mg_of X G (dA hc 26 rfl),F_qw:=U27,B_qw:=B27,m_qw:=mg_of X G (dA hc 27 rfl),F_qc:=U28,B_qc:=B28,m_qc:=mg_of X G (dA hc 28 rfl),F_qf:=U29,B_qf:=B29,m_qf:=mg_of X G (dA hc 29 rfl),F_q1:=U30,B_q1:=B30,m_q1:=mg_of X G (dA hc 30 rfl),F_q2:=U31,B_q2:=B31,m_q2:=mg_of X G (dA hc 31 rfl),F_q6:=U32,B_q6:=B32,m_q6:=mg_of X G (dA hc 32 rfl),z_ValueError:=mg_none_of X G (dA hc 48 rfl),z_abs:=mg_none_of X G (dA hc 49 rfl),z_all:=mg_none_of X G (dA hc 50 rfl),z_any:=mg_none_of X G (dA hc 51 rfl),z_bool:=mg_none_of X G (dA hc 52 rfl),z_enumerate:=mg_none_of X G (dA hc 53 rfl),z_int:=mg_none_of X G (dA hc 54 rfl),z_isinstance:=mg_none_of X G (dA hc 55 rfl),z_len:=mg_none_of X G (dA hc 56 rfl),z_list:=mg_none_of X G (dA hc 57 rfl),z_max:=mg_none_of X G (dA hc 58 rfl),z_min:=mg_none_of X G (dA hc 59 rfl),z_range:=mg_none_of X G (dA hc 60 rfl),z_set:=mg_none_of X G (dA hc 61 rfl),z_sorted:=mg_none_of X G (dA hc 62 rfl),z_tuple:=mg_none_of X G (dA hc 63 rfl),z_zip:=mg_none_of X G (dA hc 64 rfl),c_MOST_THINGS:=mg_of X G c_MOST_THINGS,c_MOST_APART:=mg_of X G c_MOST_APART,n_NoOrder:=mg_of X G (dA hc 33 rfl),n_NoNumber:=mg_of X G (dA hc 34 rfl),n_NoPairs:=mg_of X G (dA hc 35 rfl),n_Round:=mg_of X G (dA hc 36 rfl),n_NoThing:=mg_of X G (dA hc 37 rfl),n_NoRow:=mg_of X G (dA hc 38 rfl),n_TooMany:=mg_of X G (dA hc 39 rfl),n_TooFew:=mg_of X G (dA hc 40 rfl),n_NoText:=mg_of X G (dA hc 41 rfl),n_NoLine:=mg_of X G (dA hc 42 rfl),n_NoDeed:=mg_of X G (dA hc 43 rfl),n_NoSeating:=mg_of X G (dA hc 44 rfl),n_NoRing:=mg_of X G (dA hc 45 rfl),n_NoSizes:=mg_of X G (dA hc 46 rfl),ns_NoOrder:=dA hc 33 rfl,x_NoOrder:=bI hc 190 rfl,ce_NoOrder:=rfl,ns_NoNumber:=dA hc 34 rfl,x_NoNumber:=bI hc 191 rfl,ce_NoNumber:=rfl,ktV:=dW ⟨dA hc 192 rfl,ex_NoOrder⟩ (dW ⟨dA hc 193 rfl,ex_NoNumber⟩ iG),kt0:=dW ⟨dA hc 148 rfl,ex_NoOrder⟩ (dW ⟨dA hc 162 rfl,ex_NoNumber⟩ iG),kt1:=dW ⟨dA hc 149 rfl,ex_NoOrder⟩ (dW ⟨dA hc 163 rfl,ex_NoNumber⟩ iG),kt2:=dW ⟨dA hc 150 rfl,ex_NoOrder⟩ (dW ⟨dA hc 164 rfl,ex_NoNumber⟩ iG),kt3:=dW ⟨dA hc 151 rfl,ex_NoOrder⟩ (dW ⟨dA hc 165 rfl,ex_NoNumber⟩ iG),kt4:=dW ⟨dA hc 152 rfl,ex_NoOrder⟩ (dW ⟨dA hc 166 rfl,ex_NoNumber⟩ iG),kt5:=dW ⟨dA hc 153 rfl,ex_NoOrder⟩ (dW ⟨dA hc 167 rfl,ex_NoNumber⟩ iG),kt6:=dW ⟨dA hc 154 rfl,ex_NoOrder⟩ (dW ⟨dA hc 168 rfl,ex_NoNumber⟩ iG),kt7:=dW ⟨dA hc 155 rfl,ex_NoOrder⟩ (dW ⟨dA hc 169 rfl,ex_NoNumber⟩ iG),kt8:=dW ⟨dA hc 156 rfl,ex_NoOrder⟩ (dW ⟨dA hc 170 rfl,ex_NoNumber⟩ iG),kt9:=dW ⟨dA hc 157 rfl,ex_NoOrder⟩ (dW ⟨dA hc 171 rfl,ex_NoNumber⟩ iG),kt10:=dW ⟨dA hc 158 rfl,ex_NoOrder⟩ (dW ⟨dA hc 172 rfl,ex_NoNumber⟩ iG),kt11:=dW ⟨dA hc 159 rfl,ex_NoOrder⟩ (dW ⟨dA hc 173 rfl,ex_NoNumber⟩ iG),kt12:=dW ⟨dA hc 160 rfl,ex_NoOrder⟩ (dW ⟨dA hc 174 rfl,ex_NoNumber⟩ iG),kt13:=dW ⟨dA hc 161 rfl,ex_NoOrder⟩ (dW ⟨dA hc 175 rfl,ex_NoNumber⟩ iG),n_NearError:=mg_of X G (dA hc 47 rfl),e1:=dA hc 194 rfl,e2:=dA hc 195 rfl,e3:=dA hc 196 rfl,e4:=iS (dA hc 134 rfl) (iS (dA hc 135 rfl) (iS (dA hc 136 rfl) (iS (dA hc 137 rfl) (iS (dA hc 138 rfl) (iS (dA hc 139 rfl) (iS (dA hc 140 rfl) (iS (dA hc 141 rfl) (iS (dA hc 142 rfl) (iS (dA hc 143 rfl) (iS (dA hc 144 rfl) (iS (dA hc 145 rfl) (iS (dA hc 146 rfl) (iS (dA hc 147 rfl) VR))))))))))))),lq:=rfl,tab:=rfl,code:=C32 }
end L2.Mr.K51
open PySem PySem.W PyProof.Rows
set_option maxRecDepth 100000 in
set_option maxHeartbeats 0 in
theorem PySem.Challenge.cw_nearorders_k51_seated_so_near_holds : PySem.Challenge.rw_nearorders_k51_seated_so_near.Holds := by
  w_on; o_law
  refine holds_open (XP := XL L2.Mr.K51.vw []) (YP := L2.Mr.Ys L2.Mr.K51.ob L2.Mr.K51.obE) L2.Mr.K51.left L2.Mr.ys_of L2.Mr.ys_keeps (fun s e => xl_of s (Bool.and_eq_true_iff.mp e).1) XL.keeps (by rfl) (by rfl) (by rfl) (fun s e => recFacts_of (Bool.and_eq_true_iff.mp e).2) (by rfl) (by first | assumption | decide +kernel) (by decide +kernel) ⟨rfl,rfl,rfl,rfl,rfl,by decide +kernel⟩ ?hw ?hc
  case hw => w_witness2
  case hc => exact L2.Mr.walkK (l := PySem.Challenge.rw_nearorders_k51_seated_so_near) (n := 63) (k := 13) (x := "_law_script") rfl (by decide) rfl ⟨rfl,by decide,by decide⟩ rfl (fun K w mg fa h hob hnt X G hmg => L2.Mr.K51.mk_of hob hnt X G hmg)