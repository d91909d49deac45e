import PyProof.Rows.All
import Wide.All
import OpenK.AllK
import Wide.FinOn
import Lean
import PyProof.EqAt
import PyProof.EqKinds
import PyProof.TupleCall
import PyProof.NeKinds
import PyProof.StationsW
import PyProof.ExcClass3
import PyProof.ExcBaseAll.ValueError
import PyProof.ExcArgsOwn
import KE.KIsAll
import PyProof.ZipIter
import PyProof.RulesAs
import KE.KLam
import PyProof.NsDelKeeps
import PyProof.Rows.Range3
import PyProof.SumWalkG
import PyProof.EnumMake
import PyProof.EnumFor
import PyProof.WalkInts
import PyProof.Rows.SortWalk
import KE.KSortAsk
import PySem.SetOps
import KE.KSortTup
import PySem.Challenge.RW_nearorders_k52_least_reaches
open Array renaming getElem?_eq_some_iff->cj,getElem?_setIfInBounds_self_of_lt->df,getElem?_eq_getElem->dz,getD->jq,length_toList->kj,getElem?_eq_none->kv,getElem?_toList->md,getElem?_setIfInBounds_ne->uj,perm_iff_toList_perm->we,getElem?_replicate->zb,mem_toList_iff->Al,forIn_toList->Az
open Bool renaming false_eq_true->cg,and_eq_true->dj,false_ne_true->fz,eq_iff_iff->gy,not_true->nc,and_false->sf
open Classical renaming em->pw
open False renaming elim->gj
open ForInStep renaming yield->pz
open Function renaming comp->vn
open Int renaming toNat_natCast->ey,le_refl->sk,natCast_add->wk
open List renaming mem_cons_of_mem->av,size_toArray->aw,replicate->ax,getElem?_eq_some_iff->az,getElem?_eq_getElem->ba,range->bf,mem_cons->bg,mem_cons_self->bh,mem_append_right->bo,mem_append->bq,length_map->br,mem_range->bw,mem_of_getElem?->bx,length_cons->cf,mem_map->ck,length_append->cm,filterMap_cons->cp,getElem?_set_self->da,mem_singleton->de,getElem?_set_ne->dg,getElem?_map->du,map_cons->dw,getElem?_append_left->ed,pairwise_cons->fh,all_eq_true->fi,mem_append_left->fy,getElem?_append_right->gb,pairwise_iff_getElem->gi,map_append->gq,lookup_cons->gv,length_range->gw,mem_filterMap->gz,getElem_mem->ib,length_filterMap_le->ie,mem_iff_getElem->iq,replicate_succ->jb,append_nil->jg,flatMap_cons->ji,getElem_of_mem->jl,length_take->jm,nodup_cons->js,length_set->ju,flatten_cons->jx,getD->ki,mem_filter->kn,ext_getElem?->lj,length_drop->mm,length_nil->ni,forIn_cons->nq,length_pos_iff->nv,perm_ext_iff_of_nodup->oi,getElem_range->om,getElem?_zip_eq_some->pb,drop_eq_getElem_cons->pd,length->pf,append_assoc->pj,eq_of_mem_replicate->qd,getElem?_replicate->qh,any_eq_true->qi,getElem?_cons_succ->qj,countP_cons->qk,nodup_range->ql,mem_flatMap->qo,take_of_length_le->qt,map_map->qw,forall_mem_cons->sh,forall_mem_nil->sy,map_drop->ua,map_filterMap->uc,pairwise_map->uk,set_set->uq,eraseIdx_eq_take_drop_succ->ux,ext_getElem->ve,filter_cons->vf,of_mem_zip->vm,range_succ->vp,nodup_iff_pairwise_ne->xq,length_eraseIdx_of_lt->xr,getElem?_take_of_lt->zd,map_take->zm,sum_cons->zo,length_eq_zero_iff->zt,range_succ_eq_map->zw,any_map->zy,length_singleton->Ah,take_append_drop->Ak,getElem?_eq_none->Am,getElem?_toArray->An
open List.Pairwise renaming imp_of_mem->uh,nil->wo
open List.Perm renaming append_left->xu
open List.cons renaming injEq->Av
open Nat renaming le_refl->ak,lt_of_lt_of_le->ar,ne_of_lt->bc,le_trans->dk,lt_irrefl->fj,le_of_lt->gr,lt_succ_self->ic,ne_of_gt->ig,zero_le->iu,lt_succ_of_lt->iz,lt_or_ge->jd,le_of_eq->lr,mul_le_mul->ly,succ_ne_self->mz,succ_mul->oh,le_add_right->qp,zero_add->Ai
open Ne renaming symm->cy
open Option renaming isSome_iff_exists->wm,isSome_some->Ap
open Option.some renaming inj->cz,injEq->zc
open Or renaming inl->Aq
open Prod renaming fst->dy,snd->oj,ext->Ao
open Prod.mk renaming inj->rh,injEq->wj
open PyProof.Rows renaming slot_tuple_getitem->fq,callWith_type1->ik,IntsAre->lb,AllBare->qr,get?_update_seq->sv,listUpdate_at->vc,lt_int->vv
open PySem renaming wpAny_bind->aa,Value->af,Shared->ag,Addr->ah,wpAny_pure->ai,starEach->au,Program->bj,Expr->bp,FuncData->bu,sizeLine->cn,World->cq,Around->cu,Heap->cw,bootBuiltins->dh,wpAny_field->di,mainGlobals->dm,mem_of_lookup->ff,wpAny_newObj_type->fg,IsTupleKey->fw,wpAny_callSpecial?_slot->gg,Scope->gh,wpAny_call_entry->gk,SetTable->gn,Stmt->gp,wpAny_holding->gu,wpAny_setField_rec->iw,wpAny_seqItems->ja,wpAny_setState_of->jc,Comprehension->jf,sizeLine_eq->jk,wpAny_mono->jn,NameKind->jr,wpAny_passesOwn->jz,pushCells_keeps->ka,Arguments->kd,wpAny_truthy_bool->kg,wpAny_pyIter_list->kh,wpAny_askSetting->kq,wpAny_execs_nil->kz,Builtin->lg,wpAny_Call_Name_kw->ll,codeAny_mono->mq,IsPair->my,wpAny_execs_cons->nr,wpAny_standAt->og,codeAny_builtin->oz,wpAny_typeOf->ph,wpAny_pyIter_tuple->qe,wpAny_onRaise->qz,wpAny_comprehension_free->rf,wpAny_forIn_list->sd,wpAny_rule->si,IsPart->ud,codeAny_call_builtin->uf,wpAny_updateSeq_pair->ug,TriplesOk->ui,wpAny_setEntries_of->uw,wpAny_attempt->uy,call_meets->vh,Model->vq,PassesOwn->xv,Result->xw,noFill_tuple_add->yb,wpAny_isInstance->yz,wpAny_of_eq->ze,IsZip->zl,wpAny_call->Ac,wpAny_setField->Aj,seq_tuple_add->Ax,wpAny_newList->Ba
open PySem.Around renaming under_plainId->mn,frames_deeper->zv
open PySem.Builtin.List renaming listTooLong->nj,listExtendWith->ub,listSameRef->um,listTouch->uz
open PySem.Builtin.Slice renaming slicePlaces->jt,sliceAdjust->mr,sliceApplied->tu
open PySem.Builtin.SmallTypes renaming nextOf->fe,ownedTupleIsFree->ow,stopIteration->qc
open PySem.Builtin.Tuple renaming tupleExact->jw
open PySem.Calls renaming Name_function_global->vt,evalArgs_plain->Af
open PySem.Challenge renaming pw_nearorders_k52_least_reaches->ae
open PySem.EntryCells renaming newEntry->yy
open PySem.F renaming args_tuple_add_2->oq,entry_tuple_add->pg,slot_tuple_add->qf,excBase_ValueError->vj,plainAttrs_list->xm
open PySem.Heap renaming get?_push_of_some->aj,lt_size->ao,get?_push_size->ay,size_push->dv,SameBut->fv,get?_update_other->lh,get?_update_self->mf,get?_update_ne->nu,ExtBut->Au
open PySem.Heap.SameBut renaming update->lx,refl->rz
open PySem.IsL renaming update->Ag
open PySem.NameKind renaming free->bz,cell->dq
open PySem.Obj renaming mapSeq->mw,data_mapFields->ue,isFreed_of_fields->As
open PySem.PassesOwn renaming leaving->zx
open PySem.SeqAt renaming EqAt->tq,RcAt->Ay
open PySem.SeqAt.EqAt renaming same->pq,int_str->rj,str_int->rn,int_int->rp,none_tuple->wb,bool_tuple->wd,none_bool->wu,none_list->wy,bool_none->xa,bool_bool->xc,bool_list->xg,int_tuple->xj,str_tuple->xl,none_int->yd,none_str->yf,bool_int->yh,bool_str->yj,int_none->ym,int_bool->yo,int_list->yq,str_none->yt,str_bool->yv,str_list->yx,str_str->zj,of_refs->zk
open PySem.SeqAt.RcAt renaming none_tuple->vz,bool_tuple->wc,none_none->wq,none_bool->wt,none_list->wx,bool_none->wz,bool_bool->xb,bool_list->xf,int_tuple->xi,str_tuple->xk,none_int->yc,none_str->ye,bool_int->yg,bool_str->yi,int_none->yk,int_bool->yn,int_list->yp,str_none->yr,str_bool->yu,str_list->yw,int_int->zf,int_str->zg,str_int->zh,str_str->zi
open PySem.SetTable renaming insertAt->ij,turns->qu,below->qv,sizeAbove->Aa
open PySem.Shared renaming TypeIs->sj
open PySem.Str renaming ofString->km
open PySem.Value renaming ref->gm,none->je,isInt_shape->ku,builtin->sr,bool->tj,type->Aw
open PySem.W renaming Frag->aq,kitOne->cx,subIn->jh,kla_obj->jo,keepIn->jv,CodeHd->jy,envX->kr,fnOf->nh,kla_fn->nt,excIn->ou,nsIn->qg,tabObj->rg,methodObj->tm,codeIn->vg,kitCls->vk,cellsFrom_some->ya,hideAll_size->zq,hideAll_none->zr,hideAll_get->zu,of_hideAll->Ab,callWith_K->Ae
open PySem.Walks renaming list->tw
open PySem.pickOrder renaming go->wg
open Sum renaming inl->ur,inr->uv
set_option Elab.async false
set_option linter.all false
set_option maxRecDepth 100000
set_option maxHeartbeats 4000000
namespace L2.Mr
open PySem PySem.Spec PySem.Calls PyProof.Rows PySem.W
def NN (o:Obj):Bool:=match o.cls,o.data with
 | .none,.fields _=>false
 |_,_=>true
def lJ (h:cw):List ah->Frag
 | []=>[]
 |a::as=>match h.get? a with
  |some o=>match NN o with
   |true=>(a,o)::lJ h as
   |false=>lJ h as
  |none=>lJ h as
def pV (h:cw):Frag:=lJ h (bf h.objs.size)
theorem tN (h:cw):∀as,(lJ h as).In h
 | [],_,_,e=>nomatch e
 |a::as,b,o,e=>by
  unfold lJ at e
  split at e
  ·rename_i o' q
   split at e
   ·rw[gv]at e
    cases z:b==a with
    |true=>rw[z]at e;cases e;rw[eq_of_beq z];exact q
    |false=>rw[z]at e;exact tN h as b o e
   ·exact tN h as b o e
  ·exact tN h as b o e
theorem tO (h:cw):∀as,noTabs (lJ h as)=true
 | []=>rfl
 |a::as=>by
  unfold lJ
  split
  ·split
   ·rename_i q;show(_&&_)=true;rw[dj];refine⟨?_,tO h as⟩;exact q
   ·exact tO h as
  ·exact tO h as
def bI (K:Frag) (f:ah):Option bu:=match K.lookup f with
 |some o=>match o.data with
  | .func fd=>some { fd with kwdefaults:=.none,doc:=.none,pyModule:=.none,annotations:=none,closureTuple:=.none }
  |_=>none
 |none=>none
theorem NO {K:Frag}{f:ah}{n q:Str}{A:kd}{B:List gp}{S:gh}{dV cd:af}(h:bI K f=some (fnOf n q A B S dV .none .none .none none cd .none)):
  ∃(oc:af) (od:Option ah) (kV dc pm:af) (an:Option ah) (ct:af) (sl:Array (Option af)),K.lookup f=some ⟨oc,od,.func (fnOf n q A B S dV kV dc pm an cd ct),sl⟩:=by
 unfold bI at h
 split at h
 ·rename_i o e
  split at h
  ·rename_i fd q;obtain⟨oc,od,dt,sl⟩:=o;cases fd;simp only[zc,FuncData.mk.injEq]at h;obtain⟨rfl,rfl,rfl,rfl,rfl,rfl,rfl,rfl,_,_,_,_,rfl,_,rfl⟩:=h;simp only at q;subst q;exact⟨_,_,_,_,_,_,_,_,e⟩
  ·cases h
 ·cases h
theorem bC {F:List (Frag->Bool)}{K:Frag}(h:F.all (λf=>f K)=true) (i:Nat) {f:Frag->Bool}(e:F[i]?=some f):f K=true:=fi.mp h f (bx e)
theorem dC {l m:List (Option bu)}(h:l=m) (i:Nat) {a b:Option bu}(e:l[i]?=some a) (e':m[i]?=some b):a=b:=by subst h;rw[e]at e';exact cz e'
def tP (K:Frag) (q:ah):Bool:=match K.lookup q with
 |some ⟨_,_,.cls _,_⟩=>true
 |_=>false
theorem DZ {K:Frag}{q:ah}(h:tP K q=true):∃lo ld lc ls,K.lookup q=some ⟨lo,ld,.cls lc,ls⟩:=by
 unfold tP at h
 split at h
 ·exact⟨_,_,_,_,by assumption⟩
 ·cases h
def tQ (K:Frag) (n:Str) (v:Int):Bool:=match nsIn K dm n with
 |some (some (.int i _))=>i==v
 |_=>false
theorem EA {K:Frag}{n:Str}{v:Int}(h:tQ K n v=true):∃t,nsIn K dm n=some (some (.int v t)):=by
 unfold tQ at h
 split at h
 ·rename_i i t e;rw[eq_of_beq h]at e;exact⟨t,e⟩
 ·cases h
theorem yI (p:bj) (w:cq) (N:Nat) {α:Type}(f:ag->α):(openEnds treeTable p w N).map f=(((Fast.tw10274390034422433532 Fast.tw14364793385576792824 (opening p) w N (PySem.start (opening p)).1 (PySem.start (opening p)).2).bind (Fast.tw14289696077712309145 p)).bind λs₀=>match s₀.heap.isNs dm&&s₀.gens.size==0 with
 |true=>(Fast.tw14082659384304107361 Fast.tw14364793385576792824 p w s₀.heap.objs.size (s₀.heap.nsMap dm "__annotations__") N s₀ (topStub p)).bind λs₁=>match staticsOk (importedModules p.main.body) s₀.heap s₁.heap&&namesBound p s₁.heap&&gensDone s₁&&laidKept s₀.heap s₁.heap with
   |true=>some s₁
   |false=>none
 |false=>none).map f:=by
 rw[<-Fast.te10274390034422433532,<-Fast.te14364793385576792824,<-Fast.te14289696077712309145,<-Fast.te14082659384304107361];rfl
abbrev EC:List af:=[.type "ValueError",.type "Exception",.type "BaseException",.type "object"]
def NP (s:gp) (cd:ah):Option bu:=match s with
 | .FunctionDef n a b _ _ _ sc _ _ _=>some (fnOf n n a b sc .none .none .none .none none (.ref cd) .none)
 |_=>none
def fE (p:bj) (i:Nat) (cd:ah):Option bu:=NP (p.main.body.getD i (.Pass ⟨0,0,0,0⟩)) cd
def nR (K:Frag) (n:Str) (a:ah):Bool:=decide (nsIn K dm n=some (some (.ref a)))
def nN (K:Frag) (n:Str):Bool:=decide (nsIn K dm n=some none)
def sI (K:Frag) (a b:af) (v:Bool):Bool:=decide (subIn K a b=some v)
def kI (K:Frag) (a b:ah) (v:Bool):Bool:=decide (kitOne K (.ref a) (.ref b)=some v)
theorem dA {F:List (Frag->Bool)}{K:Frag}(h:F.all (λf=>f K)=true) (i:Nat) {g:Frag->Prop}[∀K,Decidable (g K)] (e:F[i]?=some (λK=>decide (g K))):g K:=of_decide_eq_true (bC h i e)
end L2.Mr
namespace L2.Mr.K52
open PySem PySem.Spec PySem.Calls PySem.W PyProof.Rows L2.Mr
def vw:bj:={ ae with main:={ ae.main with body:=List.filterMap (λi=>ae.main.body[i]?) [1,2,3,4,5,6,7,8,9,10,11,12,13,14,15,17,18,19,20,22,23,24,25,26,27,28,29,30,31,32,34,35,36,37,38,40,41,42,43,44,45,46,47,48,49,50,51,52] } }
def Xw:ag->Bool:=λs=>xlAt vw [] s&&recOk (RowW.records (OpenRow.toRowW PySem.Challenge.rw_nearorders_k52_least_reaches.row)) s
def obF:List (Frag->Bool):=[(nR · "is_whole" 202),(nR · "is_between" 209),(nR · "need_between" 216),(nR · "is_rising" 221),(nR · "is_thing" 228),(nR · "are_things" 233),(nR · "is_pair" 240),(nR · "are_pairs" 245),(nR · "has_alike" 250),(nR · "is_complete" 255),(nR · "is_order" 262),(nR · "need_order" 269),(nR · "are_loose" 276),(nR · "needs_of" 281),(nR · "raised" 286),(nR · "seated" 293),(nR · "least_reach" 298),(nR · "least_seating" 305),(nR · "_law_cell_at" 312),(nR · "_law_state" 319),(nR · "_law_take" 326),(nR · "_law_mixed" 333),(nR · "_law_closed" 340),(nR · "_law_order" 345),(nR · "_law_loose" 352),(nR · "_law_least_with" 359),(nR · "_law_least_reach" 366),(nR · "_law_same" 371),(nR · "_law_bad_order" 378),(nR · "_law_refused" 383),(nR · "law" 390),(nR · "NoOrder" 37),(nR · "NoNumber" 49),(nR · "NoPairs" 61),(nR · "Round" 73),(nR · "NoThing" 85),(nR · "NoRow" 97),(nR · "TooMany" 145),(nR · "TooFew" 157),(nR · "NoText" 169),(nR · "NoLine" 181),(nR · "NoDeed" 193),(nR · "NoSeating" 109),(nR · "NoRing" 121),(nR · "NoSizes" 133),(nR · "NearError" 24),(nN · "ValueError"),(nN · "all"),(nN · "any"),(nN · "bool"),(nN · "enumerate"),(nN · "int"),(nN · "isinstance"),(nN · "len"),(nN · "list"),(nN · "max"),(nN · "min"),(nN · "range"),(nN · "set"),(nN · "sorted"),(nN · "tuple"),(nN · "zip"),(codeIn · (.ref 201) "is_whole"),(codeIn · (.ref 208) "is_between"),(codeIn · (.ref 215) "need_between"),(codeIn · (.ref 220) "is_rising"),(codeIn · (.ref 227) "is_thing"),(codeIn · (.ref 232) "are_things"),(codeIn · (.ref 239) "is_pair"),(codeIn · (.ref 244) "are_pairs"),(codeIn · (.ref 249) "has_alike"),(codeIn · (.ref 254) "is_complete"),(codeIn · (.ref 261) "is_order"),(codeIn · (.ref 268) "need_order"),(codeIn · (.ref 275) "are_loose"),(codeIn · (.ref 280) "needs_of"),(codeIn · (.ref 285) "raised"),(codeIn · (.ref 292) "seated"),(codeIn · (.ref 297) "least_reach"),(codeIn · (.ref 304) "least_seating"),(codeIn · (.ref 311) "_law_cell_at"),(codeIn · (.ref 318) "_law_state"),(codeIn · (.ref 325) "_law_take"),(codeIn · (.ref 332) "_law_mixed"),(codeIn · (.ref 339) "_law_closed"),(codeIn · (.ref 344) "_law_order"),(codeIn · (.ref 351) "_law_loose"),(codeIn · (.ref 358) "_law_least_with"),(codeIn · (.ref 365) "_law_least_reach"),(codeIn · (.ref 370) "_law_same"),(codeIn · (.ref 377) "_law_bad_order"),(codeIn · (.ref 382) "_law_refused"),(codeIn · (.ref 389) "law"),(keepIn · (.ref 202)),(keepIn · (.ref 209)),(keepIn · (.ref 216)),(keepIn · (.ref 221)),(keepIn · (.ref 228)),(keepIn · (.ref 233)),(keepIn · (.ref 240)),(keepIn · (.ref 245)),(keepIn · (.ref 250)),(keepIn · (.ref 255)),(keepIn · (.ref 262)),(keepIn · (.ref 269)),(keepIn · (.ref 276)),(keepIn · (.ref 281)),(keepIn · (.ref 286)),(keepIn · (.ref 293)),(keepIn · (.ref 298)),(keepIn · (.ref 305)),(keepIn · (.ref 312)),(keepIn · (.ref 319)),(keepIn · (.ref 326)),(keepIn · (.ref 333)),(keepIn · (.ref 340)),(keepIn · (.ref 345)),(keepIn · (.ref 352)),(keepIn · (.ref 359)),(keepIn · (.ref 366)),(keepIn · (.ref 371)),(keepIn · (.ref 378)),(keepIn · (.ref 383)),(keepIn · (.ref 390)),(tQ · "MOST_THINGS" 6),(tQ · "MOST_APART" 5),λK=>decide (tabIn K "law" = some (389,385)),(sI · (.ref 37) (.ref 24) true),(sI · (.ref 49) (.ref 24) true),(sI · (.ref 61) (.ref 24) true),(sI · (.ref 73) (.ref 24) true),(sI · (.ref 85) (.ref 24) true),(sI · (.ref 97) (.ref 24) true),(sI · (.ref 145) (.ref 24) true),(sI · (.ref 157) (.ref 24) true),(sI · (.ref 169) (.ref 24) true),(sI · (.ref 181) (.ref 24) true),(sI · (.ref 193) (.ref 24) true),(sI · (.ref 109) (.ref 24) true),(sI · (.ref 121) (.ref 24) true),(sI · (.ref 133) (.ref 24) true),(kI · 37 37 true),(kI · 37 49 false),(kI · 37 61 false),(kI · 37 73 false),(kI · 37 85 false),(kI · 37 97 false),(kI · 37 145 false),(kI · 37 157 false),(kI · 37 169 false),(kI · 37 181 false),(kI · 37 193 false),(kI · 37 109 false),(kI · 37 121 false),(kI · 37 133 false),(kI · 49 37 false),(kI · 49 49 true),(kI · 49 61 false),(kI · 49 73 false),(kI · 49 85 false),(kI · 49 97 false),(kI · 49 145 false),(kI · 49 157 false),(kI · 49 169 false),(kI · 49 181 false),(kI · 49 193 false),(kI · 49 109 false),(kI · 49 121 false),(kI · 49 133 false),λK=>decide (findIn K (.ref 37) "__getattribute__" = some (some (.builtin "BaseException.__getattribute__"))),λK=>decide (findIn K (.ref 37) "__getattr__" = some none),λK=>decide (findIn K (.ref 37) "__class__" = some (some (.builtin "object.__class__"))),λK=>decide (mroIn K 37 (.type "object")=some true),(sI · (.ref 37) (.type "BaseException") true),λK=>decide (kitCls K (.ref 37) (.ref 37)=some true),(tP · 37),λK=>decide (findIn K (.ref 49) "__getattribute__" = some (some (.builtin "BaseException.__getattribute__"))),λK=>decide (findIn K (.ref 49) "__getattr__" = some none),λK=>decide (findIn K (.ref 49) "__class__" = some (some (.builtin "object.__class__"))),λK=>decide (mroIn K 49 (.type "object")=some true),(sI · (.ref 49) (.type "BaseException") true),λK=>decide (kitCls K (.ref 49) (.ref 49)=some true),(tP · 49),(excIn · 37 EC "ValueError.__new__"),(excIn · 49 EC "ValueError.__new__"),λK=>decide (kitOne K (.ref 37) (.type "ValueError")=some true),λK=>decide (kitOne K (.ref 49) (.type "ValueError")=some true),(sI · (.ref 24) (.type "BaseException") true),(sI · (.type "type") (.type "tuple") false),λK=>decide (kitCls K (.ref 24) (.ref 24)=some true)]
def yJ (K:Frag):List (Option bu):=[bI K 202,bI K 209,bI K 216,bI K 221,bI K 228,bI K 233,bI K 240,bI K 245,bI K 250,bI K 255,bI K 262,bI K 269,bI K 276,bI K 281,bI K 286,bI K 293,bI K 298,bI K 305,bI K 312,bI K 319,bI K 326,bI K 333,bI K 340,bI K 345,bI K 352,bI K 359,bI K 366,bI K 371,bI K 378,bI K 383,bI K 390]
def yK:List (Option bu):=[fE ae 17 201,fE ae 18 208,fE ae 19 215,fE ae 20 220,fE ae 24 227,fE ae 25 232,fE ae 26 239,fE ae 27 244,fE ae 28 249,fE ae 29 254,fE ae 30 261,fE ae 31 268,fE ae 32 275,fE ae 34 280,fE ae 35 285,fE ae 36 292,fE ae 37 297,fE ae 38 304,fE ae 40 311,fE ae 41 318,fE ae 42 325,fE ae 43 332,fE ae 44 339,fE ae 45 344,fE ae 46 351,fE ae 47 358,fE ae 48 365,fE ae 49 370,fE ae 50 377,fE ae 51 382,fE ae 52 389]
def ob (K:Frag):Bool×List (Option bu):=(obF.all (λf=>f K),yJ K)
abbrev obE:Bool×List (Option bu):=(true,yK)
theorem ED {α β γ:Type}{o:Option α}{f:α->β}{g:α->γ}{a:β}{b:γ}(h1:o.map f=some a) (h2:o.map g=some b):o.map (λs=>(f s,g s))=some (a,b):=by
 cases o with
 |none=>cases h1
 |some s=>cases h1;cases h2;rfl
theorem NQ (w:cq):(openEnds treeTable ae w 8000).map (λs=>openSeen vw [] (importedModules (ae).main.body) Xw true s)=some (openGood vw []):=by rw[yI,Fast.te4187177175401517315];kernel_rfl
theorem NR (w:cq):(openEnds treeTable ae w 8000).map (λs=>obF.all (λf=>f (pV s.heap)))=some true:=by rw[yI];kernel_rfl
theorem NS (w:cq):(openEnds treeTable ae w 8000).map (λs=>yJ (pV s.heap))=some yK:=by rw[yI];kernel_rfl
theorem left:LeftO ae vw [] Xw (λs=>ob (pV s.heap)) (λ_=>obE) 8000:=λw=>ED (NQ w) (ED (NR w) (NS w))
end L2.Mr.K52
namespace L2
open PySem PySem.Spec PyProof.Rows
abbrev gE:=Sum Int Str
def EE:gE->af->Bool
 | .inl k,v=>Value.isInt k v
 | .inr x,v=>Value.isStrOf x v
def NT (w:cq):gE->Int
 | .inl k=>hashInt k
 | .inr x=>hashStr w x
theorem kS:∀{k:gE}{v:af},EE k v=true->(∃i t,k=ur i/\v=Value.int i t)∨(∃x t,k=uv x/\v=Value.str x t)
 | .inl i,v,h=>by obtain⟨t,e⟩:=ku (k:=i) (v:=v) h;exact .inl ⟨i,t,rfl,e⟩
 | .inr x,v,h=>by obtain⟨t,e⟩:=Value.isStrOf_shape (x:=x) (v:=v) h;exact .inr ⟨x,t,rfl,e⟩
theorem NU (a b:Int):decide ((ur a:gE)=ur b)=(a==b):=by
 by_cases e:a=b
 ·subst e;simp
 ·have h:¬ (ur a:gE)=ur b:=λq=>e (Sum.inl.inj q);rw[decide_eq_false h];exact(beq_eq_false_iff_ne.mpr e).symm
theorem NV (a b:Str):decide ((uv a:gE)=uv b)=decide (a=b):=by
 by_cases e:a=b
 ·subst e;simp
 ·have h:¬ (uv a:gE)=uv b:=λq=>e (Sum.inr.inj q);rw[decide_eq_false h,decide_eq_false e]
theorem NW (a:Int) (b:Str):decide ((ur a:gE)=uv b)=false:=decide_eq_false (λq=>nomatch q)
theorem NX (a:Str) (b:Int):decide ((uv a:gE)=ur b)=false:=decide_eq_false (λq=>nomatch q)
def yL (prog:bj) (w:cq):PySem.KeyKind prog w gE where
 is:=EE
 hash:=NT w
 inj:=λv a b ha hb=>by
  rcases kS ha with⟨i,t,rfl,rfl⟩|⟨x,t,rfl,rfl⟩
  ·rcases kS hb with⟨j,u,rfl,e⟩|⟨y,u,rfl,e⟩
   ·injection e with e1 _;rw[e1]
   ·exact nomatch e
  ·rcases kS hb with⟨j,u,rfl,e⟩|⟨y,u,rfl,e⟩
   ·exact nomatch e
   ·injection e with e1 _;rw[e1]
 byValue:=λk v h=>by rcases kS h with⟨i,t,rfl,rfl⟩|⟨x,t,rfl,rfl⟩ <;> rfl
 pyHash:=λhv h=>by
  rcases kS hv with⟨i,t,rfl,rfl⟩|⟨x,t,rfl,rfl⟩
  ·exact wpAny_pyHash_int h
  ·exact wpAny_pyHash_str h
 eqBool:=λhu hv h=>by
  rcases kS hu with⟨i,t,rfl,rfl⟩|⟨x,t,rfl,rfl⟩
  ·rcases kS hv with⟨j,u,rfl,rfl⟩|⟨y,u,rfl,rfl⟩
   ·rw[NU]at h;exact wpAny_eqBool_int h
   ·rw[NW]at h;exact rj i t y u _ _ _ _ h
  ·rcases kS hv with⟨j,u,rfl,rfl⟩|⟨y,u,rfl,rfl⟩
   ·rw[NX]at h;exact rn x t j u _ _ _ _ h
   ·rw[NV]at h;exact wpAny_eqBool_str h
 «strs»:=λk x t v h=>by
  rcases kS h with⟨i,u,rfl,e⟩|⟨y,u,rfl,e⟩
  ·exact nomatch e
  ·injection e with e1 _;subst e1
   cases v <;> rfl
inductive V where
 |non|bl (b:Bool)|int (i:Int)|str (x:Str)|byt (b:Array UInt8)|flt (b:UInt64)|ref (a:ah)|ty (n:String)
 deriving DecidableEq
def RelV:V->af->Prop
 | .non,u=>u=je
 | .bl b,u=>u=tj b
 | .int i,u=>∃t,u=Value.int i t
 | .str x,u=>∃t,u=Value.str x t
 | .byt b,u=>∃t,u=Value.bytes b t
 | .flt b,u=>∃t,u=Value.float b t
 | .ref a,u=>u=gm a
 | .ty n,u=>u=Aw n
abbrev Vals:List V->List af->Prop:=Paired RelV
theorem Vals.length {xs:List V}{us:List af}(r:Vals xs us):xs.length=us.length:=Paired.length r
theorem Vals.get:∀{xs:List V}{us:List af}{i:Nat}{x:V},Vals xs us->xs[i]?=some x->∃u,us[i]?=some u/\RelV x u
 |_,_,_,_,.nil,e=>by simp at e
 |_,_,0,_,.cons r _,e=>by simp at e;subst e;exact⟨_,rfl,r⟩
 |_,_,i+1,x,.cons _ t,e=>by obtain⟨u,h1,h2⟩:=Vals.get (i:=i) (x:=x) t (by simpa using e);exact⟨u,by simpa using h1,h2⟩
theorem Vals.set {x:V}{u:af}(r:RelV x u):∀{xs:List V}{us:List af}(i:Nat),Vals xs us->Vals (xs.set i x) (us.set i u)
 |_,_,_,.nil=>.nil
 |_,_,0,.cons _ t=>.cons r t
 |_,_,i+1,.cons q t=>.cons q (Vals.set r i t)
theorem Vals.append:∀{xs ys:List V}{us ws:List af},Vals xs us->Vals ys ws->Vals (xs++ys) (us++ws)
 |_,_,_,_,.nil,s=>s
 |_,_,_,_,.cons r t,s=>.cons r (Vals.append t s)
theorem Vals.take:∀{xs:List V}{us:List af}(n:Nat),Vals xs us->Vals (xs.take n) (us.take n)
 |_,_,0,_=>.nil
 |_,_,_+1,.nil=>.nil
 |_,_,n+1,.cons r t=>.cons r (Vals.take n t)
theorem Vals.drop:∀{xs:List V}{us:List af}(n:Nat),Vals xs us->Vals (xs.drop n) (us.drop n)
 |_,_,0,r=>r
 |_,_,_+1,.nil=>.nil
 |_,_,n+1,.cons _ t=>Vals.drop n t
def EF:Option V->Option af->Prop
 |some v,some u=>RelV v u
 |none,none=>True
 |_,_=>False
def KV {κ:Type}:List (κ×V)->List (κ×af)->Prop:=Paired λ(p:κ×V) (q:κ×af)=>p.1=q.1/\RelV p.2 q.2
def kV:gE->V
 | .inl i=>.int i
 | .inr x=>.str x
inductive HO where
 |lst (xs:List V)
 |tup (xs:List V)
 |dK (kvs:List (gE×V))|dT (kvs:List (List gE×V))
 |set (S:Int->Bool) (n:Nat)
 |ins (C dx:ah) (fs:List (Str×V))
 |own (x:ah)
 |xd (fs:List (Str×V))
 |met (f x:ah)
 |rng (lo hi:Int)
 |frz (o:Obj) (u:HO)
 |tbl (ps:Array af)
 |ext (φ:cw->Prop)
abbrev Hp:=ah->Option HO
def aM (H:Hp) (a:ah) (o:HO):Hp:=λb=>if b=a then some o else H b
theorem bT {H:Hp}{a:ah}{o:HO}:aM H a o a=some o:=by unfold aM;rw[if_pos rfl]
theorem bA {H:Hp}{a b:ah}{o:HO}(h:b≠a):aM H a o b=H b:=by unfold aM;rw[if_neg h]
theorem eO {H:Hp}{a b:ah}{o u:HO}(h:H a=some o) (h':H b=some u) (d:o≠u):a≠b:=by intro e;subst e;rw[h]at h';exact d (cz h')
theorem cW {H:Hp}{a b:ah}{o:HO}(h:H a=some o) (h':H b=none):a≠b:=by intro e;subst e;rw[h]at h';cases h'
def IsTupX (h:cw) (a:ah) (items:Array af):Prop:=∃o,h.get? a=some o/\o.cls=.type "tuple"/\o.dict=none/\∃n,o.data=.seq items n
theorem IsTupX.tup {h:cw}{a:ah}{items:Array af}(x:IsTupX h a items):IsTup h a items:=let ⟨o,e,c,_,d⟩:=x;⟨o,e,c,d⟩
theorem IsTupX.lt {h:cw}{a:ah}{items:Array af}(x:IsTupX h a items):a<h.objs.size:=let ⟨_,e,_⟩:=x;ao e
theorem IsTupX.new (h:cw) (items:Array af):IsTupX (h.push { cls:=.type "tuple",data:=.seq items }) h.objs.size items:=⟨_,ay _ rfl,rfl,rfl,_,rfl⟩
section
variable(P:bj) (w:cq)
def ObjOk (H:Hp) (h:cw) (a:ah):HO->Prop
 | .lst xs=>xs.length<=cn/\∃(its:List af) (n:Nat),Vals xs its/\h.get? a=some { cls:=.type "list",data:=.seq its.toArray n }
 | .tup xs=>xs.length<=cn/\∃its:List af,Vals xs its/\IsTupX h a its.toArray
 | .dK kvs=>kvs.length<=cn/\(a==sysModules)=false/\∃vs,KV kvs vs/\h.DictOf (yL P w) a vs
 | .dT kvs=>kvs.length<=cn/\(a==sysModules)=false/\∃xs:List (List gE×ah×af),
   Paired (λ(p:List gE×V) (q:List gE×ah×af)=>p.1=q.1/\H q.2.1=some (.tup (p.1.map kV))/\RelV p.2 q.2.2) kvs xs /\
   ∃o es ep,h.get? a=some o/\o.ExactDict/\o.data=.dict es ep/\es.toList=xs.map (entryOfKey (tupleKind (yL P w)))/\(xs.map (·.1)).Nodup
 | .set S n=>h.SetOf (intKind P w) a S n
 | .ins C dx fs=>H dx=some (.own a)/\fs.length<=1000/\dx≠a/\h.get? a=some (PySem.W.instObj C dx) /\
   ∃mA,h.Ns1 dx mA/\(∀f,EF (fs.lookup f) (mA f))/\PySem.Within mA (fs.map (·.1))
 | .own _=>∃o,h.get? a=some o
 | .xd fs=>∃mA,h.Ns1 a mA/\∀f,EF (fs.lookup f) (mA f)
 | .rng lo hi=>∃t u v,h.get? a=some { cls:=.type "range",data:=.fields #[.int lo t,.int hi u,.int 1 v] }
 | .frz o u=>h.get? a=some o/\ObjOk H h a u
 | .tbl ps=>h.get? a=some { cls:=.none,data:=.fields ps }
 | .met f x=>h.get? a=some (tm (.ref f) (.ref x))
 | .ext φ=>φ h/\(∃o,h.get? a=some o)/\∀h1 h2:cw,φ h1->(∀o,h1.get? a=some o->h2.get? a=some o)->φ h2
def HOk (H:Hp) (h:cw):Prop:=∀a o,H a=some o->ObjOk P w H h a o
end
section
variable{P:bj}{w:cq}{H H':Hp}{h h':cw}{a:ah}{o:HO}
theorem ObjOk.lt (x:ObjOk P w H h a o):a<h.objs.size:=by
 cases o with
 |lst xs=>obtain⟨_,_,_,_,e⟩:=x;exact ao e
 |tup xs=>obtain⟨_,_,_,p⟩:=x;exact p.lt
 |dK kvs=>obtain⟨_,_,_,_,o,_,_,e,_⟩:=x;exact ao e
 |dT kvs=>obtain⟨_,_,_,_,o,_,_,e,_⟩:=x;exact ao e
 |set S n=>obtain⟨o,_,_,_,e,_⟩:=x;exact ao e
 |ins C dx fs=>obtain⟨_,_,_,e,_⟩:=x;exact ao e
 |own y=>obtain⟨_,e⟩:=x;exact ao e
 |xd fs=>obtain⟨_,⟨_,_,_,e,_⟩,_⟩:=x;exact ao e
 |rng lo hi=>obtain⟨_,_,_,e⟩:=x;exact ao e
 |frz ob u=>obtain⟨e,_⟩:=x;exact ao e
 |tbl ps=>exact ao (show h.get? a=some _ from x)
 |met f y=>exact ao (show h.get? a=some _ from x)
 |ext φ=>obtain⟨_,⟨_,e⟩,_⟩:=x;exact ao e
theorem Paired.mapP {α β:Type}{F G:α->β->Prop}:∀{l₁:List α}{l₂:List β},Paired F l₁ l₂->(∀a b,F a b->G a b)->Paired G l₁ l₂
 |_,_,.nil,_=>.nil
 |_,_,.cons r t,f=>.cons (f _ _ r) (Paired.mapP t f)
theorem ObjOk.stay (x:ObjOk P w H h a o) (k:∀b u,(b=a∨H b=some (.own a))->h.get? b=some u->h'.get? b=some u)
  (ho:∀b,H b=some (.own a)->H' b=some (.own a)) (ht:∀b xs,H b=some (.tup xs)->H' b=some (.tup xs)):ObjOk P w H' h' a o:=by
 induction o with
 |lst xs=>obtain⟨z,its,n,r,e⟩:=x;exact⟨z,its,n,r,k _ _ (.inl rfl) e⟩
 |tup xs=>obtain⟨z,its,r,ob,e,c⟩:=x;exact⟨z,its,r,ob,k _ _ (.inl rfl) e,c⟩
 |dK kvs=>obtain⟨z,y,vs,r,ob,es,ep,e,c⟩:=x;exact⟨z,y,vs,r,ob,es,ep,k _ _ (.inl rfl) e,c⟩
 |dT kvs=>obtain⟨z,y,xs,r,ob,es,ep,e,c⟩:=x;exact⟨z,y,xs,Paired.mapP r λp q z=>⟨z.1,ht _ _ z.2.1,z.2.2⟩,ob,es,ep,k _ _ (.inl rfl) e,c⟩
 |set S n=>obtain⟨ob,es,ep,t,e,c⟩:=x;exact⟨ob,es,ep,t,k _ _ (.inl rfl) e,c⟩
 |ins C dx fs=>obtain⟨d,z,ne,e,mA,⟨od,es,ep,e2,c⟩,r⟩:=x;exact⟨ho _ d,z,ne,k _ _ (.inl rfl) e,mA,⟨od,es,ep,k _ _ (.inr d) e2,c⟩,r⟩
 |own y=>obtain⟨ob,e⟩:=x;exact⟨ob,k _ _ (.inl rfl) e⟩
 |xd fs=>obtain⟨mA,⟨od,es,ep,e,c⟩,r⟩:=x;exact⟨mA,⟨od,es,ep,k _ _ (.inl rfl) e,c⟩,r⟩
 |rng lo hi=>obtain⟨t,u,v,e⟩:=x;exact⟨t,u,v,k _ _ (.inl rfl) e⟩
 |frz ob u ih=>obtain⟨e,q⟩:=x;exact⟨k _ _ (.inl rfl) e,ih q⟩
 |tbl ps=>have e:h.get? a=some { cls:=.none,data:=.fields ps }:=x;show h'.get? a=some { cls:=.none,data:=.fields ps };exact k a _ (.inl rfl) e
 |met f y=>have e:h.get? a=some (tm (.ref f) (.ref y)):=x;show h'.get? a=some (tm (.ref f) (.ref y));exact k a _ (.inl rfl) e
 |ext φ=>obtain⟨p,⟨o,e⟩,st⟩:=x;exact⟨st _ _ p λo q=>k _ _ (.inl rfl) q,⟨o,k _ _ (.inl rfl) e⟩,st⟩
theorem HOk.lt (x:HOk P w H h) (e:H a=some o):a<h.objs.size:=(x a o e).lt
theorem HOk.fresh (x:HOk P w H h) (e:h.objs.size<=a):H a=none:=by
 cases q:H a with
 |none=>rfl
 |some u=>exact absurd (ar (x.lt q) e) (fj _)
theorem HOk.kept (x:HOk P w H h) (k:∀b u,h.get? b=some u->h'.get? b=some u):HOk P w H h':=λa o e=>(x a o e).stay (λb u _ q=>k b u q) (λ_ q=>q) λ_ _ q=>q
theorem HOk.laid (x:HOk P w H h) (k:∀b u,h.get? b=some u->h'.get? b=some u) (hp:h.objs.size<=a) (new:ObjOk P w (aM H a o) h' a o):HOk P w (aM H a o) h':=λb u e=>by
 have hn:=x.fresh hp
 by_cases hb:b=a
 ·subst hb;rw[bT]at e;cases e;exact new
 ·rw[bA hb]at e;exact(x b u e).stay (λc v _ q=>k c v q) (λc q=>by rw[bA (cW q hn)];exact q) λc xs q=>by rw[bA (cW q hn)];exact q
end
def Rd (H:Hp) (a:ah) (u:HO):Prop:=H a=some u∨∃o,H a=some (.frz o u)
theorem Rd.ok {P:bj}{w:cq}{H:Hp}{h:cw}{a:ah}{u:HO}(r:Rd H a u) (x:HOk P w H h):ObjOk P w H h a u:=by
 rcases r with r|⟨o,r⟩
 ·exact x a u r
 ·obtain⟨_,q⟩:=x a _ r;exact q
def tR:Option HO->Prop
 |some (.lst _)=>True
 |some (.dK _)=>True
 |some (.dT _)=>True
 |some (.set _ _)=>True
 |some (.ins _ _ _)=>True
 |some (.ext _)=>True
 |_=>False
section
variable{P:bj}{w:cq}{H:Hp}{h h':cw}{x e:ah}{o':HO}
theorem HOk.write (ok:HOk P w H h) (mu:tR (H x)) (he:e=x∨H e=some (.own x)) (k:∀b u,b≠e->h.get? b=some u->h'.get? b=some u) (heo:∃u,h'.get? e=some u)
  (new:ObjOk P w (aM H x o') h' x o'):HOk P w (aM H x o') h':=λb u q=>by
 have nown:∀c y,H c=some (.own y)->c≠x:=λc y r z=>by subst z;rw[r]at mu;exact mu
 have ntup:∀c xs,H c=some (.tup xs)->c≠x:=λc xs r z=>by subst z;rw[r]at mu;exact mu
 by_cases hb:b=x
 ·subst hb;rw[bT]at q;cases q;exact new
 ·rw[bA hb]at q
  by_cases hbe:b=e
  ·have q':H b=some (.own x):=by
    rcases he with z|z
    ·exact absurd (hbe.trans z) hb
    ·rw[hbe];exact z
   rw[q]at q';cases q';obtain⟨v,hv⟩:=heo;exact⟨v,by rw[hbe];exact hv⟩
  ·refine(ok b u q).stay (λc v hc r=>k c v ?_ r) (λc r=>by rw[bA (nown c b r)];exact r) λc xs r=>by rw[bA (ntup c xs r)];exact r
   rcases hc with rfl|hc
   ·exact hbe
   ·rintro rfl
    rcases he with z|z
    ·exact nown c b hc z
    ·rw[hc]at z;cases z;exact hb rfl
end
structure Un (fs ex:List ah) (H H':Hp) (h h':cw):Prop where
 keep:∀b o,h.get? b=some o->H b=none->b∉fs->b∉ex->h'.get? b=some o
 slot:∀b o,h.get? b=some o->H b=none->b∈fs->b∉ex->∃sl,h'.get? b=some { o with slots:=sl }
 free:∀b o,h.get? b=some o->H b=none->b∉ex->H' b=none
 there:∀b o,h.get? b=some o->b∉ex->∃o',h'.get? b=some o'
 tups:∀b xs,H b=some (.tup xs)->H' b=some (.tup xs)
 frzs:∀b o u,H b=some (.frz o u)->H' b=some (.frz o u)
 tbls:∀b ps,H b=some (.tbl ps)->∃more,H' b=some (.tbl (ps++more))
section
variable{fs fs' ex ex':List ah}{H H1 H2:Hp}{h h1 h2 h':cw}{a x e:ah}{o:HO}
theorem Un.any (u:Un fs ex H H1 h h1) {b:ah}{ob:Obj}(q:h.get? b=some ob) (n:H b=none) (hx:b∉ex):∃sl,h1.get? b=some { ob with slots:=sl }:=by
 by_cases hb:b∈fs
 ·exact u.slot b ob q n hb hx
 ·exact⟨ob.slots,u.keep b ob q n hb hx⟩
theorem Un.kept (k:∀b u,h.get? b=some u->h'.get? b=some u):Un fs ex H H h h':=⟨λb ob q _ _ _=>k b ob q,λb ob q _ _ _=>⟨ob.slots,k b ob q⟩,λ_ _ _ n _=>n,λb ob q _=>⟨ob,k b ob q⟩,λ_ _ q=>q,λ_ _ _ q=>q,λ_ ps q=>⟨#[],by rw[q];simp⟩⟩
theorem Un.refl:Un fs ex H H h h:=Un.kept λ_ _ q=>q
theorem Un.laid (k:∀b u,h.get? b=some u->h'.get? b=some u) (hp:h.objs.size<=a) (hn:H a=none):Un fs ex H (aM H a o) h h' where
 keep:=λb u q _ _ _=>k b u q
 slot:=λb u q _ _ _=>⟨u.slots,k b u q⟩
 free:=λb u q n _=>by rw[bA (bc (ar (ao q) hp))];exact n
 there:=λb u q _=>⟨u,k b u q⟩
 tups:=λb xs q=>by rw[bA (cW q hn)];exact q
 frzs:=λb u xs q=>by rw[bA (cW q hn)];exact q
 tbls:=λb ps q=>⟨#[],by rw[bA (cW q hn),q];simp⟩
theorem Un.write (mu:tR (H x)) (he:e=x∨H e=some (.own x)) (k:∀b u,b≠e->h.get? b=some u->h'.get? b=some u) (heo:∃u,h'.get? e=some u):Un fs ex H (aM H x o) h h':=by
 have hx:∀b,H b=none->b≠x:=λb n z=>by subst z;rw[n]at mu;exact mu
 have hb:∀b,H b=none->b≠e:=λb n z=>by
  subst z
  rcases he with r|r
  ·exact hx b n r
  ·rw[n]at r;cases r
 have hm:∀b u,H b=some u->¬ tR (some u)->b≠x:=λb u q nm z=>by subst z;rw[q]at mu;exact nm mu
 refine⟨λb u q n _ _=>k b u (hb b n) q,λb u q n _ _=>⟨u.slots,k b u (hb b n) q⟩,λb u q n _=>by rw[bA (hx b n)];exact n,λb u q _=>?_,
  λb xs q=>by rw[bA (hm b _ q λz=>z)];exact q,λb u xs q=>by rw[bA (hm b _ q λz=>z)];exact q,λb ps q=>⟨#[],by rw[bA (hm b _ q λz=>z),q];simp⟩⟩
 by_cases hbe:b=e
 ·subst hbe;exact heo
 ·exact⟨u,k b u hbe q⟩
end
def tS (h:cw) (H:Hp):List ah:=(bf h.objs.size).filter λa=>(H a).isSome
def jL (h:cw) (H:Hp):cw:=PySem.W.hideAll h (tS h H)
theorem NY (h:cw) (H:Hp):(jL h H).objs.size=h.objs.size:=zq _ _
theorem NZ {h:cw}{H:Hp}{b:ah}{o:Obj}(e:h.get? b=some o) (n:H b=none):(jL h H).get? b=some o:=zu _ e λhm=>by have q:(H b).isSome=true:=(kn.mp hm).2;rw[n]at q;simp at q
theorem N0 {h:cw}{H:Hp}{b:ah}{o:Obj}(e:(jL h H).get? b=some o):h.get? b=some o/\H b=none:=by
 have e':h.get? b=some o:=Ab (tS h H) e;refine⟨e', ?_⟩
 cases q:H b with
 |none=>rfl
 |some x=>have hm:b∈tS h H:=kn.mpr ⟨bw.mpr (ao e'),by simp[q]⟩;have z:(jL h H).get? b=none:=zr (tS h H) hm;rw[z]at e;cases e
structure Mod (K:aq) (mg:Str->Option af) (base:cw):Prop where
 kin:K.In base
 glob:base.Ns dm mg
 blt:∃mb,base.Ns builtinsNs mb/\∀x:Str,x ≠ "__name__"->mb x=dh x
 nolimit:base.NoLimit
structure Cx where
 prog:bj
 w:cq
 K:aq
 mg:Str->Option af
 base:cw
 A:cu
 N:List Str
 s₀:ag
 H₀:Hp
 env:Env
 outer:List Env
 stack:List Env
 ex:List ah
 fn:Str->Bool
 calm:Bool
 pn:List (ah×Obj)
 xe:af->ag->Prop
def cH (l:List Env):List ah:=l.filterMap (·.frame)
abbrev Cx.fs (X:Cx):List ah:=cH X.outer
def oC (sc:gh) (x:Str):Prop:=sc.names.lookup x=some .local∨sc.names.lookup x=some .cell∨sc.names.lookup x=some .free
def lK (sc:gh) (x:Str):Prop:=sc.names.lookup x=some .local∨sc.names.lookup x=some .cell
def EG (env:Env) (h:cw) (m:Str->Option af) (x:Str) (u:af):Prop:=(env.kindOf x=some .local/\m x=some u)∨((env.kindOf x=some .cell∨env.kindOf x=some .free)/\∃c,env.cells.lookup x=some c/\h.IsCell c (some u))
structure Cx.Ok (X:Cx):Prop where
 mod:Mod X.K X.mg X.base
 kind:X.env.scope.kind=.function
 glob:X.env.globals=dm
 blt:X.env.builtins=builtinsNs
 above:X.s₀.heap.objs.size<=X.env.locals
 inj:∀x y c,X.env.cells.lookup x=some c->X.env.cells.lookup y=some c->x=y
 has:∀x,(X.env.kindOf x=some .cell∨X.env.kindOf x=some .free)->∃c,X.env.cells.lookup x=some c
 cab:∀x c,X.fn x=true->X.env.cells.lookup x=some c->X.s₀.heap.objs.size<=c
 hd:X.calm=true->X.A.handled=none
 frames:X.A.frames=some X.stack
 stk:X.stack=X.outer∨(X.stack=X.env::X.outer/\X.env.frame=some X.env.locals)
 exf:∀b∈X.ex,b≠X.env.locals/\∀x c,X.env.cells.lookup x=some c->c≠b
 bs:∀b o,X.base.get? b=some o->X.s₀.heap.get? b=some o/\X.H₀ b=none
 bsz:X.base.objs.size<=X.s₀.heap.objs.size
 noex:∀b o,X.base.get? b=some o->b∉X.ex
 exfs:∀b∈X.ex,b∉X.fs
 funs:X.s₀.heap.FunFrames X.base X.outer
 frf:∀b∈X.fs,X.H₀ b=none
structure Inv (X:Cx) (pins:List (ah×Obj)) (σ:List (Option V)) (H:Hp) (s:ag):Prop where
 ok:X.Ok
 os:s.os=X.s₀.os
 bare:qr s.gens
 base:Un X.fs X.ex X.H₀ H X.s₀.heap s.heap
 loc:∃m,s.heap.Ns X.env.locals m/\∀(i:Nat) (x:Str) (v:V),X.N[i]?=some x->σ[i]?=some (some v)->oC X.env.scope x->∃u,RelV v u/\EG X.env s.heap m x u
 cell:∀x c,X.env.cells.lookup x=some c->∃v,s.heap.IsCell c v
 free:H X.env.locals=none
 freeC:∀x c,X.env.cells.lookup x=some c->H c=none
 pin:∀p∈X.pn++pins,s.heap.get? p.1=some p.2/\H p.1=none/\p.1≠X.env.locals/\p.1∉X.fs/\∀v,p.2.data≠.cell v
 hok:HOk X.prog X.w H s.heap
 len:σ.length=X.N.length
section
variable{X:Cx}{pins:List (ah×Obj)}{σ:List (Option V)}{H H':Hp}{s:ag}{h':cw}
theorem Cx.Ok.nofr (ok:X.Ok) {b:ah}{o:Obj}(e:X.base.get? b=some o):b∉X.fs:=λhb=>by have:=(ok.funs.mem hb).1;rw[e]at this;cases this
theorem Inv.bs (I:Inv X pins σ H s):∀b o,X.base.get? b=some o->s.heap.get? b=some o/\H b=none:=λb o e=>⟨I.base.keep b o (I.ok.bs b o e).1 (I.ok.bs b o e).2 (I.ok.nofr e) (I.ok.noex b o e),I.base.free b o (I.ok.bs b o e).1 (I.ok.bs b o e).2 (I.ok.noex b o e)⟩
theorem Inv.bk (I:Inv X pins σ H s):∀b o,X.base.get? b=some o->s.heap.get? b=some o:=λb o e=>(I.bs b o e).1
theorem Inv.mod (I:Inv X pins σ H s):Mod X.K X.mg X.base:=I.ok.mod
theorem Inv.kIn (I:Inv X pins σ H s):X.K.In s.heap:=I.ok.mod.kin.keeps I.bk
theorem Inv.lt (I:Inv X pins σ H s):X.env.locals<s.heap.objs.size:=let ⟨_,hn,_⟩:=I.loc;hn.lt
theorem Inv.sz (I:Inv X pins σ H s):X.s₀.heap.objs.size<=s.heap.objs.size:=dk I.ok.above (gr I.lt)
theorem Inv.nofs (I:Inv X pins σ H s) {a:ah}(h:s.heap.objs.size<=a):a∉X.fs:=λhb=>by obtain⟨_,o,ho,_⟩:=I.ok.funs.mem hb;exact absurd (ar (ao ho) (dk I.sz h)) (fj _)
theorem Inv.cne (I:Inv X pins σ H s):∀x c,X.env.cells.lookup x=some c->c≠X.env.locals:=λx c e z=>by obtain⟨v,o,ho,hd⟩:=I.cell x c e;obtain⟨m,⟨o',es,ep,ho',hd',_⟩,_⟩:=I.loc;rw[z,ho']at ho;cases ho;rw[hd']at hd;cases hd
theorem Inv.funs (I:Inv X pins σ H s):s.heap.FunFrames X.base X.outer:=by
 have all:∀(l:List Env),(∀b∈cH l,b∈X.fs)->X.s₀.heap.FunFrames X.base l->s.heap.FunFrames X.base l:=by
  intro l
  induction l with
  |nil=>intro _ _;trivial
  |cons env r ih=>intro hs hl;obtain⟨hk,⟨L,o,hf,hn,ho,hd⟩,hr⟩:=hl;have hL:L∈X.fs:=hs L (by unfold cH;rw[cp,hf];exact bh);obtain⟨sl,e⟩:=I.base.slot L o ho (I.ok.frf L hL) hL λz=>I.ok.exfs L z hL;exact⟨hk,⟨L,_,hf,hn,e,hd⟩,ih (λb hb=>hs b (by unfold cH;rw[cp,hf];exact av _ hb)) hr⟩
 exact all X.outer (λ_ hb=>hb) I.ok.funs
theorem Inv.stack (I:Inv X pins σ H s):s.heap.FunFrames X.base X.stack:=by
 rcases I.ok.stk with e|⟨e,hf⟩
 ·rw[e];exact I.funs
 ·rw[e];obtain⟨m,hn,_⟩:=I.loc;refine .cons (by rw[I.ok.kind];decide) hf hn ?_ I.funs;exact Heap.get?_none_of_le (dk I.ok.bsz I.ok.above)
theorem Inv.stkSub (I:Inv X pins σ H s):∀b∈cH X.stack,b∈X.env.locals::X.fs:=λb hb=>by
 rcases I.ok.stk with e|⟨e,hf⟩
 ·rw[e]at hb;exact av _ hb
 ·rw[e]at hb;unfold cH at hb;rw[cp,hf]at hb;exact hb
theorem Inv.stkFree (I:Inv X pins σ H s):∀b∈cH X.stack,H b=none:=λb hb=>by
 rcases bg.mp (I.stkSub b hb)with e|hb
 ·rw[e];exact I.free
 ·obtain⟨_,o,ho,_⟩:=I.ok.funs.mem hb;exact I.base.free b o ho (I.ok.frf b hb) λz=>I.ok.exfs b z hb
theorem Inv.step {g':Array GenState}{t':Nat}{d':Drawn}{ch:List ah}(I:Inv X pins σ H s)
  (hch:∀b∈ch,(b∈X.ex∨X.s₀.heap.objs.size<=b)/\b≠X.env.locals/\(∀x c,X.env.cells.lookup x=some c->c≠b)/\∀p∈X.pn++pins,p.1≠b)
  (keep:∀b o,b≠X.env.locals->b∉X.fs->b∉ch->s.heap.get? b=some o->H b=none->h'.get? b=some o)
  (slot:∀b o,b≠X.env.locals->b∈X.fs->b∉ch->s.heap.get? b=some o->H b=none->∃sl,h'.get? b=some { o with slots:=sl }) (free:∀b o,b∉ch->s.heap.get? b=some o->H b=none->H' b=none)
  (there:∀b o,b∉ch->s.heap.get? b=some o->∃o',h'.get? b=some o')
  (tups:∀b xs,H b=some (.tup xs)->H' b=some (.tup xs)) (frzs:∀b o u,H b=some (.frz o u)->H' b=some (.frz o u)) (tbls:∀b ps,H b=some (.tbl ps)->∃more,H' b=some (.tbl (ps++more)))
  (ns:∀m,s.heap.Ns X.env.locals m->h'.Ns X.env.locals m) (hok:HOk X.prog X.w H' h') (hg:qr g'):
  Inv X pins σ H' { s with heap:=h',gens:=g',drawn:=d',toks:=t' }:=by
 have neL:∀b o,X.s₀.heap.get? b=some o->b≠X.env.locals:=λb o e=>bc (ar (ao e) I.ok.above);have neC:∀b o,X.s₀.heap.get? b=some o->b∉X.ex->b∉ch:=λb o e hx hb=>by
  rcases(hch b hb).1 with z|z
  ·exact hx z
  ·exact absurd (ar (ao e) z) (fj _)
 have cellK:∀x c,X.env.cells.lookup x=some c->∀v,s.heap.IsCell c v->h'.IsCell c v:=λx c e v ⟨o,ho,hd⟩=>by
  have nch:c∉ch:=λz=>(hch c z).2.2.1 x c e rfl
  by_cases hc:c∈X.fs
  ·obtain⟨sl,q⟩:=slot c o (I.cne x c e) hc nch ho (I.freeC x c e);exact⟨_,q,hd⟩
  ·exact⟨o,keep c o (I.cne x c e) hc nch ho (I.freeC x c e),hd⟩
 refine⟨I.ok,I.os,hg,⟨λb o e n hb hx=>?_,λb o e n hb hx=>?_,λb o e n hx=>?_,λb o e hx=>?_,λb xs e=>tups b xs (I.base.tups b xs e),λb o xs e=>frzs b o xs (I.base.frzs b o xs e),λb ps e=>?_⟩, ?_,λx c e=>?_, ?_,λx c e=>?_,λp hp=>?_,hok,I.len⟩
 ·exact keep b o (neL b o e) hb (neC b o e hx) (I.base.keep b o e n hb hx) (I.base.free b o e n hx)
 ·obtain⟨sl,e1⟩:=I.base.slot b o e n hb hx;obtain⟨sl',e2⟩:=slot b _ (neL b o e) hb (neC b o e hx) e1 (I.base.free b o e n hx);exact⟨sl',e2⟩
 ·obtain⟨o',e1⟩:=I.base.there b o e hx;exact free b o' (neC b o e hx) e1 (I.base.free b o e n hx)
 ·obtain⟨o',e1⟩:=I.base.there b o e hx;exact there b o' (neC b o e hx) e1
 ·obtain⟨m1,e1⟩:=I.base.tbls b ps e;obtain⟨m2,e2⟩:=tbls b _ e1;exact⟨m1++m2,by rw[e2,Array.append_assoc]⟩
 ·obtain⟨m,hn,hl⟩:=I.loc;refine⟨m,ns m hn,λi x v e1 e2 e3=>?_⟩;obtain⟨u,r,l⟩:=hl i x v e1 e2 e3;refine⟨u,r, ?_⟩
  rcases l with l|⟨k,c,e,z⟩
  ·exact .inl l
  ·exact .inr ⟨k,c,e,cellK x c e _ z⟩
 ·obtain⟨v,z⟩:=I.cell x c e;exact⟨v,cellK x c e v z⟩
 ·obtain⟨m,⟨o,_,_,ho,_⟩,_⟩:=I.loc;exact free _ o (λz=>(hch _ z).2.1 rfl) ho I.free
 ·obtain⟨v,o,ho,hd⟩:=I.cell x c e;exact free c o (λz=>(hch c z).2.2.1 x c e rfl) ho (I.freeC x c e)
 ·obtain⟨e,n,ne,nf,d⟩:=I.pin p hp;have nch:p.1∉ch:=λz=>(hch p.1 z).2.2.2 p hp rfl;exact⟨keep p.1 p.2 ne nf nch e n,free p.1 p.2 nch e n,ne,nf,d⟩
theorem Inv.un {t':Nat}(I:Inv X pins σ H s) (u:Un X.fs [] H H' s.heap h') (hok:HOk X.prog X.w H' h'):Inv X pins σ H' { s with heap:=h',toks:=t' }:=by obtain⟨m,⟨o,es,ep,ho,r⟩,_⟩:=id I.loc;obtain⟨sl,hL⟩:=u.any ho I.free (by simp);exact I.step (g':=s.gens) (d':=s.drawn) (ch:=[]) (λ_ z=>nomatch z) (λb o _ hb _ e n=>u.keep b o e n hb (by simp)) (λb o _ hb _ e n=>u.slot b o e n hb (by simp)) (λb o _ e n=>u.free b o e n (by simp)) (λb o _ e=>u.there b o e (by simp)) u.tups u.frzs u.tbls (λm' hm=>by obtain⟨o',es',ep',ho',r'⟩:=hm;rw[ho]at ho';cases ho';exact⟨_,es',ep',hL,r'⟩) hok I.bare
theorem Inv.call {g':Array GenState}{t':Nat}{d':Drawn}{ch:List ah}(I:Inv X pins σ H s) (u:Un (cH X.stack) ch H H' s.heap h') (hok:HOk X.prog X.w H' h') (hg:qr g')
  (hch:∀b∈ch,(b∈X.ex∨X.s₀.heap.objs.size<=b)/\b≠X.env.locals/\(∀x c,X.env.cells.lookup x=some c->c≠b)/\∀p∈X.pn++pins,p.1≠b):
  Inv X pins σ H' { s with heap:=h',gens:=g',drawn:=d',toks:=t' }:=by
 obtain⟨m,⟨o,es,ep,ho,r⟩,_⟩:=id I.loc;obtain⟨sl,hL⟩:=u.any ho I.free λz=>(hch _ z).2.1 rfl;exact I.step (ch:=ch) hch (λb o hL hb hc e n=>u.keep b o e n (λz=>(bg.mp (I.stkSub b z)).elim hL hb) hc) (λb o _ _ hc e n=>u.any e n hc) (λb o hc e n=>u.free b o e n hc) (λb o hc e=>u.there b o e hc) u.tups u.frzs u.tbls (λm' hm=>by obtain⟨o',es',ep',ho',r'⟩:=hm;rw[ho]at ho';cases ho';exact⟨_,es',ep',hL,r'⟩) hok hg
theorem Inv.turned {t':Nat}{it:ah}(I:Inv X pins σ H s) (k:∀b o,b≠it->s.heap.get? b=some o->h'.get? b=some o) (hn:H it=none) (hL:it≠X.env.locals)
  (h1:it∈X.ex∨X.s₀.heap.objs.size<=it) (h2:∀x c,X.env.cells.lookup x=some c->c≠it) (h3:∀p∈X.pn++pins,p.1≠it):Inv X pins σ H { s with heap:=h',toks:=t' }:=by
 have nit:∀b u,H b=some u->b≠it:=λb u e z=>by rw[z,hn]at e;cases e
 refine I.step (g':=s.gens) (d':=s.drawn) (ch:=[it]) (λb hb=>?_) (λb o _ _ hc e _=>k b o (λz=>hc (by simp[z])) e) (λb o _ _ hc e _=>⟨o.slots,k b o (λz=>hc (by simp[z])) e⟩) (λ_ _ _ _ n=>n)
  (λb o hc e=>⟨o,k b o (λz=>hc (by simp[z])) e⟩) (λ_ _ e=>e) (λ_ _ _ e=>e) (λb ps e=>⟨#[],by rw[e];simp⟩) (λm hm=>?_) (λb u e=>?_) I.bare
 ·have e:b=it:=by simpa using hb
  subst e;exact⟨h1,hL,h2,h3⟩
 ·obtain⟨o,es,ep,ho,r⟩:=hm;exact⟨o,es,ep,k _ o (cy hL) ho,r⟩
 ·refine(I.hok b u e).stay (λc v hc q=>k c v ?_ q) (λ_ q=>q) λ_ _ q=>q
  rcases hc with z|z
  ·rw[z];exact nit b u e
  ·exact nit c _ z
theorem Inv.tok (I:Inv X pins σ H s) (t:Nat):Inv X pins σ H { s with toks:=t }:=I.un (h':=s.heap) (t':=t) Un.refl I.hok
theorem Inv.kept {t':Nat}(I:Inv X pins σ H s) (k:∀b u,s.heap.get? b=some u->h'.get? b=some u):Inv X pins σ H { s with heap:=h',toks:=t' }:=I.un (Un.kept k) (I.hok.kept k)
theorem Inv.laid {a:ah}{o:HO}{t':Nat}(I:Inv X pins σ H s) (k:∀b u,s.heap.get? b=some u->h'.get? b=some u) (hp:s.heap.objs.size<=a) (new:ObjOk X.prog X.w (aM H a o) h' a o):
  Inv X pins σ (aM H a o) { s with heap:=h',toks:=t' }:=I.un (Un.laid k hp (I.hok.fresh hp)) (I.hok.laid k hp new)
theorem Inv.write {x e:ah}{o:HO}{t':Nat}(I:Inv X pins σ H s) (mu:tR (H x)) (he:e=x∨H e=some (.own x)) (k:∀b u,b≠e->s.heap.get? b=some u->h'.get? b=some u) (heo:∃u,h'.get? e=some u)
  (new:ObjOk X.prog X.w (aM H x o) h' x o):Inv X pins σ (aM H x o) { s with heap:=h',toks:=t' }:=I.un (Un.write mu he k heo) (I.hok.write mu he k heo new)
theorem Inv.pins_of {pins':List (ah×Obj)}(I:Inv X pins σ H s) (h:∀p∈pins',s.heap.get? p.1=some p.2/\H p.1=none/\p.1≠X.env.locals/\p.1∉X.fs/\∀v,p.2.data≠.cell v):Inv X pins' σ H s:=⟨I.ok,I.os,I.bare,I.base,I.loc,I.cell,I.free,I.freeC,λp hp=>(bq.mp hp).elim (λz=>I.pin p (fy _ z)) (h p),I.hok,I.len⟩
theorem yM {N:List Str}(hN:N.Nodup) {i j:Nat}{x:Str}(a:N[i]?=some x) (b:N[j]?=some x):i=j:=by obtain⟨h1,e1⟩:=az.mp a;obtain⟨h2,e2⟩:=az.mp b;exact(List.getElem_inj hN).mp (e1.trans e2.symm)
theorem EH {M:vq}{A:cu}{E:af->ag->Prop}{i:Nat}{x:Str}{v:V}{u:af}{Q:Unit->ag->Prop}(I:Inv X pins σ H s) (hN:X.N.Nodup) (hi:X.N[i]?=some x) (hx:lK X.env.scope x) (r:RelV v u)
  (h:∀s',Inv X pins (σ.set i (some v)) H s'->(∃a,fv a s.heap s'.heap/\(a=X.env.locals∨X.env.cells.lookup x=some a))->Q () s') (hf:X.fn x=true∨X.env.scope.names.lookup x=some .local:=by first|exact .inl rfl|exact .inr rfl|assumption):wpAny M A (storeName X.env x u) Q E s:=by
 obtain⟨m,hn,hl⟩:=id I.loc;have hcls:(X.env.scope.kind==.class||(X.env.scope.kind==.module&&X.env.locals != X.env.globals))=false:=by rw[I.ok.kind];rfl
 have hiσ:i<σ.length:=by rw[I.len];exact(az.mp hi).1
 have cne:=I.cne;have tracked:∀{a:ah}{h':cw},(∃o,s.heap.get? a=some o/\H a=none)->fv a s.heap h'->HOk X.prog X.w H h':=λ{a h'} ha hs b ob e=>by
  obtain⟨_,_,hfree⟩:=ha;refine(I.hok b ob e).stay (λc w' hc q=>(hs.2 c ?_).trans q) (λ_ q=>q) λ_ _ q=>q
  rintro rfl
  rcases hc with rfl|hc
  ·rw[hfree]at e;cases e
  ·rw[hfree]at hc;cases hc
 rcases hx with hk|hk
 ·refine wpAny_storeName_local hk hn (λh' hn' hs=>?_) hcls;obtain⟨oL,_,_,hoL,_⟩:=id hn;refine h _ ⟨I.ok,I.os,I.bare,⟨λb o e n hb hx=>?_,λb o e n hb hx=>?_,I.base.free,λb o e hx=>?_,I.base.tups,I.base.frzs,I.base.tbls⟩,⟨_,hn',λj y v' e1 e2 e3=>?_⟩,λy c e=>?_,I.free,I.freeC,λp hp=>?_,tracked ⟨oL,hoL,I.free⟩ hs,by simpa using I.len⟩ ⟨_,hs,.inl rfl⟩
  ·exact(hs.2 b (bc (ar (ao e) I.ok.above))).trans (I.base.keep b o e n hb hx)
  ·obtain⟨sl,e1⟩:=I.base.slot b o e n hb hx;exact⟨sl,(hs.2 b (bc (ar (ao e) I.ok.above))).trans e1⟩
  ·obtain⟨o',e1⟩:=I.base.there b o e hx;exact⟨o',(hs.2 b (bc (ar (ao e) I.ok.above))).trans e1⟩
  ·by_cases hj:j=i
   ·subst hj;rw[hi]at e1;cases e1;rw[da hiσ]at e2;cases e2;exact⟨u,r,.inl ⟨hk,by simp⟩⟩
   ·rw[dg (cy hj)]at e2;obtain⟨u',r',q⟩:=hl j y v' e1 e2 e3;refine⟨u',r', ?_⟩
    rcases q with⟨k,e⟩|⟨k,c,e,z⟩
    ·refine .inl ⟨k, ?_⟩;have:y≠x:=λe=>hj (yM hN e1 (e▸hi));simp[this,e]
    ·exact .inr ⟨k,c,e,z.sameBut hs (cne y c e)⟩
  ·obtain⟨w',z⟩:=I.cell y c e;exact⟨w',z.sameBut hs (cne y c e)⟩
  ·obtain⟨e,n,ne,nf,d⟩:=I.pin p hp;exact⟨(hs.2 p.1 ne).trans e,n,ne,nf,d⟩
 ·have hfn:X.fn x=true:=by
   rcases hf with z|z
   ·exact z
   ·rw[z]at hk;cases hk
  obtain⟨c,hc⟩:=I.ok.has x (.inl hk);obtain⟨w',z⟩:=I.cell x c hc;refine wpAny_storeName_cell I.ok.kind hk hc z (λh' hc' hs=>?_);obtain⟨oc,hoc,hocd⟩:=id z;refine h { s with heap:=h' } ⟨I.ok,I.os,I.bare,⟨λb o e n hb hx=>?_,λb o e n hb hx=>?_,I.base.free,λb o e hx=>?_,I.base.tups,I.base.frzs,I.base.tbls⟩,⟨m,hn.sameBut hs (cy (cne x c hc)),λj y v' e1 e2 e3=>?_⟩,λy c' e=>?_,I.free,I.freeC,λp hp=>?_,tracked ⟨oc,hoc,I.freeC x c hc⟩ hs,by simpa using I.len⟩ ⟨c,hs,.inr hc⟩
  ·exact(hs.2 b (bc (ar (ao e) (I.ok.cab x c hfn hc)))).trans (I.base.keep b o e n hb hx)
  ·obtain⟨sl,e1⟩:=I.base.slot b o e n hb hx;exact⟨sl,(hs.2 b (bc (ar (ao e) (I.ok.cab x c hfn hc)))).trans e1⟩
  ·obtain⟨o',e1⟩:=I.base.there b o e hx;exact⟨o',(hs.2 b (bc (ar (ao e) (I.ok.cab x c hfn hc)))).trans e1⟩
  ·by_cases hj:j=i
   ·subst hj;rw[hi]at e1;cases e1;rw[da hiσ]at e2;cases e2;exact⟨u,r,.inr ⟨.inl hk,c,hc,hc'⟩⟩
   ·rw[dg (cy hj)]at e2;obtain⟨u',r',q⟩:=hl j y v' e1 e2 e3;refine⟨u',r', ?_⟩
    rcases q with q|⟨k,c',e,z'⟩
    ·exact .inl q
    ·refine .inr ⟨k,c',e,z'.sameBut hs ?_⟩
     rintro rfl
     exact hj (yM hN e1 (I.ok.inj _ _ _ e hc▸hi))
  ·by_cases hcc:c'=c
   ·subst hcc;exact⟨_,hc'⟩
   ·obtain⟨w2,z2⟩:=I.cell y c' e;exact⟨w2,z2.sameBut hs hcc⟩
  ·obtain⟨e,n,ne,nf,d⟩:=I.pin p hp;refine⟨(hs.2 p.1 ?_).trans e,n,ne,nf,d⟩;intro q;rw[q,hoc]at e;have q':oc=p.2:=cz e;exact d w' (by rw[<-q'];exact hocd)
theorem yN {M:vq}{A:cu}{E:af->ag->Prop}{i:Nat}{x:Str}{v:V}{u:af}{Q:Unit->ag->Prop}(I:Inv X pins σ H s) (hN:X.N.Nodup) (hi:X.N[i]?=some x) (hx:lK X.env.scope x) (r:RelV v u)
  (h:∀s',Inv X pins (σ.set i (some v)) H s'->Q () s') (hf:X.fn x=true∨X.env.scope.names.lookup x=some .local:=by first|exact .inl rfl|exact .inr rfl|assumption):wpAny M A (storeName X.env x u) Q E s:=
 EH I hN hi hx r (λs' I' _=>h s' I') hf
theorem Inv.call' {s':ag}{ch:List ah}(I:Inv X pins σ H s) (ho:s'.os=s.os) (u:Un (cH X.stack) ch H H' s.heap s'.heap) (hok:HOk X.prog X.w H' s'.heap) (hg:qr s'.gens)
  (hch:∀b∈ch,(b∈X.ex∨X.s₀.heap.objs.size<=b)/\b≠X.env.locals/\(∀x c,X.env.cells.lookup x=some c->c≠b)/\∀p∈X.pn++pins,p.1≠b):Inv X pins σ H' s':=by
 obtain⟨h',g',d',t',o'⟩:=s';have e:o'=s.os:=ho;subst e;exact I.call (g':=g') (t':=t') (d':=d') u hok hg hch
end
abbrev XK:=af->Option ah->Hp->Prop
abbrev St:=List (Option V)
abbrev VK:=V->Hp->Prop
abbrev TE:=St->Hp->VK->Prop
abbrev TT:=St->Hp->(Bool->Hp->Prop)->Prop
abbrev TA:=St->Hp->(List V->Hp->Prop)->Prop
structure Ends where
 nx:St->Hp->Prop
 rt:VK
 bk:St->Hp->Prop:=λ_ _=>False
 ct:St->Hp->Prop:=λ_ _=>False
abbrev TS:=Ends->St->Hp->Prop
def EP (X:Cx) (pins:List (ah×Obj)) (σ:St) (Q:VK) (u:af) (s':ag):Prop:=∃v H',Inv X pins σ H' s'/\RelV v u/\Q v H'
def TP (X:Cx) (pins:List (ah×Obj)) (σ:St) (Q:Bool->Hp->Prop) (b:Bool) (s':ag):Prop:=∃H',Inv X pins σ H' s'/\Q b H'
def AP (X:Cx) (pins:List (ah×Obj)) (σ:St) (Q:List V->Hp->Prop) (us:List af) (s':ag):Prop:=∃vs H',Inv X pins σ H' s'/\Vals vs us/\Q vs H'
def SP (X:Cx) (pins:List (ah×Obj)) (D:Ends) (f:Flow) (s':ag):Prop:=
 match f with
 | .next=>∃σ' H',Inv X pins σ' H' s'/\D.nx σ' H'
 | .brk=>∃σ' H',Inv X pins σ' H' s'/\D.bk σ' H'
 | .cont=>∃σ' H',Inv X pins σ' H' s'/\D.ct σ' H'
 | .ret u=>∃v σ' H',Inv X pins σ' H' s'/\RelV v u/\D.rt v H'
def PE (X:Cx) (e:bp) (t:TE):Prop:=∀(pins:List (ah×Obj)) (s:ag) (σ:St) (H:Hp) (Q:VK),Inv X pins σ H s->t σ H Q->wpAny (model X.prog X.w) X.A (eval e X.env) (EP X pins σ Q) X.xe s
def PT (X:Cx) (e:bp) (t:TT):Prop:=∀(pins:List (ah×Obj)) (s:ag) (σ:St) (H:Hp) (Q:Bool->Hp->Prop),Inv X pins σ H s->t σ H Q->wpAny (model X.prog X.w) X.A (isTrue e X.env (eval e X.env)) (TP X pins σ Q) X.xe s
def PW (X:Cx) (e:bp) (t:TT):Prop:=∀(whole:Sem af) (pins:List (ah×Obj)) (s:ag) (σ:St) (H:Hp) (Q:Bool->Hp->Prop),Inv X pins σ H s->t σ H Q->wpAny (model X.prog X.w) X.A (isTrue e X.env whole) (TP X pins σ Q) X.xe s
theorem PW.pt {X:Cx}{e:bp}{t:TT}(h:PW X e t):PT X e t:=h _
def PA (X:Cx) (es:List bp) (t:TA):Prop:=∀(pos:Pos) (pins:List (ah×Obj)) (s:ag) (σ:St) (H:Hp) (Q:List V->Hp->Prop),Inv X pins σ H s->t σ H Q->wpAny (model X.prog X.w) X.A (spliced (backTo pos (au es X.env))) (AP X pins σ Q) X.xe s
def PS (X:Cx) (st:gp) (t:TS):Prop:=∀(pins:List (ah×Obj)) (s:ag) (σ:St) (H:Hp) (D:Ends),Inv X pins σ H s->t D σ H->wpAny (model X.prog X.w) X.A (exec st X.env) (SP X pins D) X.xe s
def PSs (X:Cx) (st:List gp) (t:TS):Prop:=∀(pins:List (ah×Obj)) (s:ag) (σ:St) (H:Hp) (D:Ends),Inv X pins σ H s->t D σ H->wpAny (model X.prog X.w) X.A (execs st X.env) (SP X pins D) X.xe s
theorem aU {α:Type}{t:Sem α}{Q Q':α->ag->Prop}{M:vq}{A:cu}{E:af->ag->Prop}{s:ag}(h:wpAny M A t Q E s) (hQ:∀a s,Q a s->Q' a s):wpAny M A t Q' E s:=jn h hQ λ_ _ x=>x
section
variable{X:Cx}
def EI (i:Nat):TE:=λσ H Q=>∃v,σ[i]?=some (some v)/\Q v H
def tC (v:V):TE:=λ_ H Q=>Q v H
theorem pW {i:Nat}{x:Str}{pos:Pos}(hN:X.N[i]?=some x) (hv:oC X.env.scope x) (hd:(x==("__debug__" : Str))=false:=by decide) (hcd:(x==("__classdict__" : Str))=false:=by decide):PE X (.Name x pos) (EI i):=by
 intro pins s σ H Q I h;obtain⟨v,e,h⟩:=h;obtain⟨m,hn,hl⟩:=I.loc;obtain⟨u,r,l⟩:=hl i x v hN e hv;have fin:EP X pins σ Q u s:=⟨v,H,I,r,h⟩
 rcases l with⟨hk,hm⟩|⟨hk,c,hc,hcell⟩
 ·exact wpAny_Name (wpAny_loadName_local I.ok.kind hk hn hm fin) hd
 ·rcases hk with hk|hk
  ·exact wpAny_Name (wpAny_loadName_cell I.ok.kind hk hc hcell fin) hd
  ·exact wpAny_Name (wpAny_loadName_free I.ok.kind hk hc hcell fin hcd) hd
theorem N1 {i j pos}:PE X (.Constant (.int i) j pos) (tC (.int i)):=λ_ _ _ H _ I h=>wpAny_Constant_int ⟨.int i,H,I.tok _,⟨_,rfl⟩,h⟩
theorem N2 {b j pos}:PE X (.Constant (.bool b) j pos) (tC (.bl b)):=λ_ _ _ H _ I h=>Constant_bool ⟨.bl b,H,I,rfl,h⟩
theorem EJ {j pos}:PE X (.Constant .none j pos) (tC .non):=λ_ _ _ H _ I h=>Constant_none ⟨.non,H,I,rfl,h⟩
theorem EK {x j pos}:PE X (.Constant (.str x) j pos) (tC (.str x)):=λ_ _ _ H _ I h=>Calls.Constant_str ⟨.str x,H,I.tok _,⟨_,rfl⟩,h⟩
def Gl (X:Cx) (x:Str):Prop:=X.env.kindOf x=some .globalImplicit
theorem pX {E:af->ag->Prop}{pins:List (ah×Obj)}{s:ag}{σ:St}{H:Hp}{x:Str}{u:af}{pos:Pos}{Q:af->ag->Prop}(I:Inv X pins σ H s) (hg:Gl X x) (hm:X.mg x=some u) (h:Q u s)
  (hd:(x==("__debug__" : Str))=false:=by decide):wpAny (model X.prog X.w) X.A (eval (.Name x pos) X.env) Q E s:=
 vt I.ok.kind hg (Calls.loadGlobal_global (by rw[I.ok.glob];exact I.mod.glob.keeps I.bk) hm h) hd
theorem mS {E:af->ag->Prop}{pins:List (ah×Obj)}{s:ag}{σ:St}{H:Hp}{x:Str}{u:af}{pos:Pos}{Q:af->ag->Prop}(I:Inv X pins σ H s) (hg:Gl X x) (hm:X.mg x=none) (hv:dh x=some u) (h:Q u s)
  (hn:x ≠ "__name__" := by decide) (hd:(x==("__debug__" : Str))=false:=by decide):wpAny (model X.prog X.w) X.A (eval (.Name x pos) X.env) Q E s:=by
 obtain⟨mb,h1,h2⟩:=I.mod.blt;exact vt I.ok.kind hg (Calls.loadGlobal_builtin (by rw[I.ok.glob];exact I.mod.glob.keeps I.bk) hm (by rw[I.ok.blt];exact h1.keeps I.bk) ((h2 x hn).trans hv) h) hd
theorem EL {x:Str}{v:V}{u:af}{pos:Pos}(hg:Gl X x) (hm:X.mg x=some u) (r:RelV v u) (hd:(x==("__debug__" : Str))=false:=by decide):PE X (.Name x pos) (tC v):=λ_ _ _ H _ I h=>pX I hg hm ⟨v,H,I,r,h⟩ hd
variable{a b:bp}{ta tb:TE}{pos:Pos}
def tB (t:TE):TT:=λσ H Q=>t σ H λx H1=>∃c,x=.bl c/\Q c H1
variable{tA tB':TT}{rest:List bp}
def EM (t u:TT):TT:=λσ H Q=>t σ H λc H1=>if c=true then u σ H1 Q else Q false H1
def EN (t u:TT):TT:=λσ H Q=>t σ H λc H1=>if c=true then Q true H1 else u σ H1 Q
def N3 (t:TT):TT:=λσ H Q=>t σ H λc H1=>Q (!c) H1
theorem N4 (ha:PT X a tA):PW X (.BoolOp .And [a] pos) tA:=by
 intro wh pins s σ H Q I h;refine isTrue_and (aU (ha pins s σ H Q I h) λc s1 e=>?_)
 cases c with
 |true=>exact isTrue_and_nil e
 |false=>exact e
theorem N5 (ha:PT X a tA):PW X (.BoolOp .Or [a] pos) tA:=by
 intro wh pins s σ H Q I h;refine isTrue_or (aU (ha pins s σ H Q I h) λc s1 e=>?_)
 cases c with
 |false=>exact isTrue_or_nil e
 |true=>exact e
theorem N6 (ha:PT X a tA) (hb:PW X (.BoolOp .And (b::rest) pos) tB'):PW X (.BoolOp .And (a::b::rest) pos) (EM tA tB'):=by
 intro wh pins s σ H Q I h;refine isTrue_and (aU (ha pins s σ H _ I h) λc s1 ⟨H1,I1,q1⟩=>?_)
 cases c with
 |true=>exact hb wh pins s1 σ H1 Q I1 q1
 |false=>exact⟨H1,I1,q1⟩
theorem N7 (ha:PT X a tA) (hb:PW X (.BoolOp .Or (b::rest) pos) tB'):PW X (.BoolOp .Or (a::b::rest) pos) (EN tA tB'):=by
 intro wh pins s σ H Q I h;refine isTrue_or (aU (ha pins s σ H _ I h) λc s1 ⟨H1,I1,q1⟩=>?_)
 cases c with
 |true=>exact⟨H1,I1,q1⟩
 |false=>exact hb wh pins s1 σ H1 Q I1 q1
theorem N8 (ha:PT X a tA):PT X (.UnaryOp .Not a pos) (N3 tA):=by intro pins s σ H Q I h;exact isTrue_not (ha pins s σ H (λc H1=>Q (!c) H1) I h)
def N9 (ta tb:TE):TE:=λσ H Q=>ta σ H λx H1=>∃c,x=.bl c/\if c=true then tb σ H1 Q else Q (.bl false) H1
def OA (ta:TE):TE:=λσ H Q=>ta σ H λx H1=>∃c,x=.bl c/\Q (.bl (!c)) H1
theorem OB {op} {t:TE}(h:PE X a t):PE X (.BoolOp op [a] pos) t:=λpins s σ H Q I hw=>BoolOp_one (h pins s σ H Q I hw)
theorem OC (ha:PE X a ta) (hb:PE X (.BoolOp .And (b::rest) pos) tb):PE X (.BoolOp .And (a::b::rest) pos) (N9 ta tb):=by
 intro pins s σ H Q I h;refine BoolOp_and (aU (ha pins s σ H _ I h) λv s1 ⟨x,H1,I1,r1,q1⟩=>?_);obtain⟨c,rfl,q1⟩:=q1;cases r1;refine kg ?_
 cases c with
 |true=>exact hb pins s1 σ H1 Q I1 q1
 |false=>exact⟨.bl false,H1,I1,rfl,q1⟩
theorem OD (ha:PE X a ta):PE X (.UnaryOp .Not a pos) (OA ta):=by intro pins s σ H Q I h;refine UnaryOp_ (aU (ha pins s σ H _ I h) λv s1 ⟨x,H1,I1,r1,q1⟩=>?_);obtain⟨c,rfl,q1⟩:=q1;cases r1;exact not_of (kg ⟨.bl (!c),H1,I1,rfl,q1⟩)
end
def SqL (K:aq) (H:Hp) (a:ah) (xs:List V):Prop:=
 Rd H a (.lst xs) ∨
  ∃(o:Obj) (its:Array af) (n:Nat),K.lookup a=some o/\o.cls=.type "list"/\o.dict=none/\o.data=.seq its n/\its.size<=cn/\Vals xs its.toList
def SqT (K:aq) (H:Hp) (a:ah) (xs:List V):Prop:=
 Rd H a (.tup xs) ∨
  ∃(o:Obj) (its:Array af) (n:Nat),K.lookup a=some o/\o.cls=.type "tuple"/\o.data=.seq its n/\its.size<=cn/\Vals xs its.toList
def OE:af->Option V
 | .none=>some .non
 | .bool b=>some (.bl b)
 | .int i _=>some (.int i)
 | .str x _=>some (.str x)
 | .bytes b _=>some (.byt b)
 | .float b _=>some (.flt b)
 | .ref a=>some (.ref a)
 | .type n=>some (.ty n)
 |_=>none
theorem RelV.abs {x:V}{u:af}(r:RelV x u):OE u=some x:=by
 cases x with
 |non=>cases r;rfl
 |bl _=>cases r;rfl
 |int _=>obtain⟨t,rfl⟩:=r;rfl
 |str _=>obtain⟨t,rfl⟩:=r;rfl
 |byt _=>obtain⟨t,rfl⟩:=r;rfl
 |flt _=>obtain⟨t,rfl⟩:=r;rfl
 |ref _=>cases r;rfl
 |ty _=>cases r;rfl
theorem RelV.inj {x y:V}{u:af}(r:RelV x u) (q:RelV y u):x=y:=cz (r.abs.symm.trans q.abs)
theorem Vals.inj:∀{xs ys:List V}{us:List af},Vals xs us->Vals ys us->xs=ys
 |_,_,_,.nil,.nil=>rfl
 |_,_,_,.cons r t,.cons r' t'=>by rw[r.inj r',Vals.inj t t']
section
variable{X:Cx}{pins:List (ah×Obj)}{σ:St}{H:Hp}{s:ag}{a:ah}{xs ys:List V}
theorem SqL.of {K:aq}(h:H a=some (.lst xs)):SqL K H a xs:=.inl (.inl h)
theorem SqT.of {K:aq}(h:H a=some (.tup xs)):SqT K H a xs:=.inl (.inl h)
theorem Inv.list (I:Inv X pins σ H s) (h:SqL X.K H a xs):∃its:List af,Vals xs its/\PlainL s.heap a its.toArray/\xs.length<=cn:=by
 rcases h with h|⟨o,its,n,hk,hc,hd,hs,hz,r⟩
 ·obtain⟨z,its,n,r,e⟩:=h.ok I.hok;exact⟨its,r,⟨_,n,e,rfl,rfl,rfl⟩,z⟩
 ·refine⟨its.toList,r,⟨o,n,I.kIn a o hk,hc,hd,by simpa using hs⟩, ?_⟩;have e:=r.length;simp only[kj]at e;omega
theorem Inv.tuple (I:Inv X pins σ H s) (h:SqT X.K H a xs):∃its:List af,Vals xs its/\IsTup s.heap a its.toArray/\xs.length<=cn:=by
 rcases h with h|⟨o,its,n,hk,hc,hs,hz,r⟩
 ·obtain⟨z,its,r,p⟩:=h.ok I.hok;exact⟨its,r,p.tup,z⟩
 ·refine⟨its.toList,r,⟨o,I.kIn a o hk,hc,n,by simpa using hs⟩, ?_⟩;have e:=r.length;simp only[kj]at e;omega
theorem Inv.list_inj (I:Inv X pins σ H s) (h:SqL X.K H a xs) (h':SqL X.K H a ys):xs=ys:=by
 obtain⟨its,r,⟨o,n,e,_,_,d⟩,_⟩:=I.list h;obtain⟨its',r',⟨o',n',e',_,_,d'⟩,_⟩:=I.list h';rw[e]at e';cases e';rw[d]at d';injection d' with d1 _;have:its=its':=by simpa using congrArg Array.toList d1
 subst this;exact r.inj r'
theorem Inv.tuple_inj (I:Inv X pins σ H s) (h:SqT X.K H a xs) (h':SqT X.K H a ys):xs=ys:=by
 obtain⟨its,r,⟨o,e,_,n,d⟩,_⟩:=I.tuple h;obtain⟨its',r',⟨o',e',_,n',d'⟩,_⟩:=I.tuple h';rw[e]at e';cases e';rw[d]at d';injection d' with d1 _;have:its=its':=by simpa using congrArg Array.toList d1
 subst this;exact r.inj r'
end
abbrev Cx.wish (X:Cx) (E:af->ag->Prop):Cx:={ X with xe:=E }
abbrev Cx.nox (X:Cx):Cx:=X.wish λ_ _=>False
theorem Cx.Ok.wish {X:Cx}(ok:X.Ok) (E:af->ag->Prop):(X.wish E).Ok:=⟨ok.mod,ok.kind,ok.glob,ok.blt,ok.above,ok.inj,ok.has,ok.cab,ok.hd,ok.frames,ok.stk,ok.exf,ok.bs,ok.bsz,ok.noex,ok.exfs,ok.funs,ok.frf⟩
theorem Cx.Ok.unwish {X:Cx}{E:af->ag->Prop}(ok:(X.wish E).Ok):X.Ok:=⟨ok.mod,ok.kind,ok.glob,ok.blt,ok.above,ok.inj,ok.has,ok.cab,ok.hd,ok.frames,ok.stk,ok.exf,ok.bs,ok.bsz,ok.noex,ok.exfs,ok.funs,ok.frf⟩
section
variable{X:Cx}{pins:List (ah×Obj)}{σ:St}{H:Hp}{s:ag}{E:af->ag->Prop}
theorem Inv.wish (I:Inv X pins σ H s) (E:af->ag->Prop):Inv (X.wish E) pins σ H s:=⟨I.ok.wish E,I.os,I.bare,I.base,I.loc,I.cell,I.free,I.freeC,I.pin,I.hok,I.len⟩
theorem Inv.unwish (I:Inv (X.wish E) pins σ H s):Inv X pins σ H s:=⟨I.ok.unwish,I.os,I.bare,I.base,I.loc,I.cell,I.free,I.freeC,I.pin,I.hok,I.len⟩
end
section
variable{X:Cx}{st:gp}{rest:List gp}{t u:TS}{e:bp}{te:TE}{pos:Pos}
def OF:TS:=λD σ H=>D.nx σ H
def OG (t u:TS):TS:=λD σ H=>t { D with nx:=u D } σ H
theorem OH:PSs X [] OF:=λ_ _ σ H _ I h=>kz ⟨σ,H,I,h⟩
theorem OI (h1:PS X st t) (h2:PSs X rest u):PSs X (st::rest) (OG t u):=by
 intro pins s σ H D I h;refine nr (aU (h1 pins s σ H { D with nx:=u D } I h) λf s1 q=>?_)
 cases f with
 |next=>obtain⟨σ',H',I',q⟩:=q;exact h2 pins s1 σ' H' D I' q
 |ret v=>exact q
 |brk=>exact q
 |cont=>exact q
theorem EO (h1:PS X st t):PSs X [st] t:=by
 intro pins s σ H D I h;refine nr (aU (h1 pins s σ H D I h) λf s1 q=>?_)
 cases f with
 |next=>exact kz q
 |ret v=>exact q
 |brk=>exact q
 |cont=>exact q
theorem Inv.quiet {pins:List (ah×Obj)}{σ:St}{H:Hp}{s:ag}(I:Inv X pins σ H s):interactive X.env=false:=by simp[interactive,I.ok.kind]
def OJ (te:TE):TS:=λD σ H=>te σ H λ_ H1=>D.nx σ H1
theorem OK (he:PE X e te) (hs:swapsWith e none pos.line X.env=pure false:=by rfl):PS X (.Expr e pos) (OJ te):=by intro pins s σ H D I h;exact wpAny_Expr_any (aU (he pins s σ H _ I h) λv s1 ⟨x,H1,I1,r1,q1⟩=>⟨σ,H1,I1,q1⟩) I.quiet hs
def OL (te:TE):TS:=λD σ H=>te σ H D.rt
theorem OM (he:PE X e te):PS X (.Return (some e) pos) (OL te):=by intro pins s σ H D I h;exact wpAny_Return_some (aU (he pins s σ H _ I h) λv s1 ⟨x,H1,I1,r1,q1⟩=>⟨x,σ,H1,I1,r1,q1⟩)
def ON (c:TT) (t u:TS):TS:=λD σ H=>c σ H λb H1=>if b=true then t D σ H1 else u D σ H1
theorem OO {c:bp}{a b:List gp}{tc:TT}(hc:PT X c tc) (ha:PSs X a t) (hb:PSs X b u):PS X (.If c a b pos) (ON tc t u):=by
 intro pins s σ H D I h;refine wpAny_If (aU (hc pins s σ H _ I h) λd s1 ⟨H1,I1,q1⟩=>?_)
 cases d with
 |true=>exact ha pins s1 σ H1 D I1 q1
 |false=>exact hb pins s1 σ H1 D I1 q1
end
abbrev TG:=V->St->Hp->(St->Hp->Prop)->Prop
abbrev kT:=List V->St->Hp->(St->Hp->Prop)->Prop
def PG (X:Cx) (target:bp) (t:TG):Prop:=
 ∀(pins:List (ah×Obj)) (s:ag) (σ:St) (H:Hp) (v:V) (u:af) (Q:St->Hp->Prop),Inv X pins σ H s->RelV v u->t v σ H Q->
  wpAny (model X.prog X.w) X.A (assign target X.env u) (λ_ s'=>∃σ' H',Inv X pins σ' H' s'/\Q σ' H') X.xe s
def PGs (X:Cx) (ts:List bp) (t:kT):Prop:=
 ∀(pins:List (ah×Obj)) (s:ag) (σ:St) (H:Hp) (vs:List V) (us:List af) (Q:St->Hp->Prop),Inv X pins σ H s->Vals vs us->t vs σ H Q->
  wpAny (model X.prog X.w) X.A (assignInOrder ((assignEach ts X.env).map (·.2)) us) (λ_ s'=>∃σ' H',Inv X pins σ' H' s'/\Q σ' H') X.xe s
abbrev yO:=V->V->V->Hp->(Hp->Prop)->Prop
def ER (X:Cx) (t:yO):Prop:=
 ∀(pins:List (ah×Obj)) (s:ag) (σ:St) (H:Hp) (o i v:V) (ov iv u:af) (Q:Hp->Prop),Inv X pins σ H s->RelV o ov->RelV i iv->RelV v u->t o i v H Q->
  wpAny (model X.prog X.w) X.A (setItem ov iv u) (λ_ s'=>∃H',Inv X pins σ H' s'/\Q H') X.xe s
section
variable{X:Cx}{pos:Pos}
def yP (i:Nat):TG:=λv σ H Q=>Q (σ.set i (some v)) H
theorem OP {i:Nat}{x:Str}(hN:X.N.Nodup) (hi:X.N[i]?=some x) (hx:lK X.env.scope x) (hf:X.fn x=true∨X.env.scope.names.lookup x=some .local:=by first|exact .inl rfl|exact .inr rfl|assumption):PG X (.Name x pos) (yP i):=by intro pins s σ H v u Q I r h;exact wpAny_assign_Name (yN I hN hi hx r (λs' I'=>⟨_,H,I',h⟩) hf)
def OQ:kT:=λvs σ H Q=>vs=[]/\Q σ H
def OR (t:TG) (u:kT):kT:=λvs σ H Q=>∃v r,vs=v::r/\t v σ H λσ' H'=>u r σ' H' Q
theorem OS:PGs X [] OQ:=by intro pins s σ H vs us Q I r h;obtain⟨e,h⟩:=h;subst e;cases r;exact assignInOrder_nil ⟨σ,H,I,h⟩
theorem OT {e:bp}{es:List bp}{t:TG}{u:kT}(h1:PG X e t) (h2:PGs X es u)
  (hs:(assignEach (e::es) X.env).map (·.2)=assign e X.env::(assignEach es X.env).map (·.2):=by rfl):PGs X (e::es) (OR t u):=by
 intro pins s σ H vs us Q I r h;obtain⟨v,vr,e1,h⟩:=h;subst e1
 cases r with
 |cons r rr=>rw[hs];refine assignInOrder_cons (aU (h1 pins s σ H _ _ _ I r h) λ_ s1 ⟨σ1,H1,I1,q1⟩=>?_);exact h2 pins s1 σ1 H1 _ _ Q I1 rr q1
def OU (K:aq) (n:Nat) (t:kT):TG:=λv σ H Q=>∃a xs,v=.ref a/\SqT K H a xs/\xs.length=n/\t xs σ H Q
theorem OV {es:List bp}{k:Nat}{t:kT}{n:Nat}(hc:X.calm=true) (h:PGs X es t)
  (hn:(assignEach es X.env).length=n:=by rfl) (hst:(assignEach es X.env).findIdx? (·.1)=none:=by rfl):PG X (.Tuple es k pos) (OU X.K n t):=by
 intro pins s σ H v u Q I r hw;obtain⟨a,xs,e1,hq,hl,hw⟩:=hw;subst e1;cases r;obtain⟨its,rv,ht,hz⟩:=I.tuple hq;refine assign_Tuple_tuple (I.ok.hd hc) ht (by simp[hn,<-hl,rv.length]) hst λh' hx=>?_;have I1:Inv X pins σ H { s with heap:=h' }:=I.kept (t':=s.toks) λb o e=>hx b o (bc (ao e)) e;exact h pins _ σ H xs _ Q I1 (by simpa using rv) hw
def OW (to ti:TE) (t:yO):TG:=λv σ H Q=>to σ H λo H1=>ti σ H1 λi H2=>t o i v H2 λH3=>Q σ H3
theorem OX {o i:bp}{to ti:TE}{t:yO}(ho:PE X o to) (hi:PE X i ti) (hs:ER X t)
  (ha:∀v,assign (.Subscript o i pos) X.env v=(do
   let ov <-holding [v] (eval o X.env)
   let iv <-holding [v,ov] (eval i X.env)
   standAt pos
   holding [v,ov,iv] (setItem ov iv v)
   release [v,ov,iv] []):=by intro _;rfl):PG X (.Subscript o i pos) (OW to ti t):=by
 intro pins s σ H v u Q I r h;rw[ha];refine aa (gu (aU (ho pins s σ H _ I h) λov s1 ⟨x,H1,I1,r1,q1⟩=>?_));refine aa (gu (aU (hi pins s1 σ H1 _ I1 q1) λiv s2 ⟨y,H2,I2,r2,q2⟩=>?_));refine aa (og (aa (gu (aU (hs pins s2 σ H2 x y v ov iv u _ I2 r1 r2 r q2) λ_ s3 ⟨H3,I3,q3⟩=>?_))));exact wpAny_release ⟨σ,H3,I3,q3⟩
def tT (te:TE) (g:TG):TS:=λD σ H=>te σ H λx H1=>g x σ H1 D.nx
theorem ES {tg e:bp}{te:TE}{g:TG}(he:PE X e te) (hg:PG X tg g) (hs:swapsWithSole [tg] e pos.line X.env=pure false:=by rfl) (hw:swappedStores [tg] e X.env=pure none:=by rfl)
  (h1:(assignEach [tg] X.env).map (·.2)=[assign tg X.env]:=by rfl):PS X (.Assign [tg] e pos) (tT te g):=by
 intro pins s σ H D I h;refine wpAny_Assign_stores (aU (he pins s σ H _ I h) λv s1 ⟨x,H1,I1,r1,q1⟩=>?_) hs hw;rw[h1];exact aU (hg pins s1 σ H1 x v _ I1 r1 q1) λ_ s2 q=>q
theorem yQ {i:Nat}{x:Str}{e:bp}{te:TE}{pos':Pos}(hN:X.N.Nodup) (hi:X.N[i]?=some x) (hx:lK X.env.scope x) (he:PE X e te) (hs:swapsWith e (some (.Name x pos')) pos.line X.env=pure false:=by rfl) (hf:X.fn x=true∨X.env.scope.names.lookup x=some .local:=by first|exact .inl rfl|exact .inr rfl|assumption):
  PS X (.Assign [.Name x pos'] e pos) (tT te (yP i)):=by
 intro pins s σ H D I h;refine wpAny_Assign_Name (aU (he pins s σ H _ I h) λv s1 ⟨y,H1,I1,r1,q1⟩=>?_) hs;exact yN I1 hN hi hx r1 (λs2 I2=>⟨_,H1,I2,q1⟩) hf
end
section
variable{X:Cx}{pos:Pos}
def OY (c:TT) (tb:TS):TS:=λD σ H=>∃W:Nat->St->Hp->Prop,(∃m,W m σ H)/\∀m σ H,W m σ H->
 c σ H λb H1=>if b=true then ∃N:St->Hp->Prop,(∀σ' H',N σ' H'->∃m',m'<m/\W m' σ' H')/\tb { D with nx:=N,ct:=N,bk:=D.nx } σ H1 else D.nx σ H1
theorem OZ {c:bp}{body:List gp}{tc:TT}{tb:TS}(hp:xv (model X.prog X.w) X.A X.env X.xe) (hc:PT X c tc) (hb:PSs X body tb):PS X (.While c body [] pos) (OY tc tb):=by
 intro pins s σ H D I h;obtain⟨W,⟨m0,w0⟩,turn⟩:=h;refine wpAny_While (codeAny_whileLoop (λn s'=>∃σ' H',Inv X pins σ' H' s'/\W n σ' H') ?_ m0 ⟨σ,H,I,w0⟩)
 rintro n s1 ⟨σ1,H1,I1,w1⟩
 refine jz hp (aU (hc pins s1 σ1 H1 _ I1 (turn n σ1 H1 w1)) λb s2 ⟨H2,I2,q2⟩=>?_)
 cases b with
 |true=>
  obtain⟨N,hN,q2⟩:=q2;rw[if_pos rfl];refine jz hp (aU (hb pins s2 σ1 H2 _ I2 q2) λf s3 q3=>?_)
  cases f with
  |next=>obtain⟨σ3,H3,I3,n3⟩:=q3;obtain⟨m',hm,w3⟩:=hN σ3 H3 n3;exact⟨m',hm,σ3,H3,I3,w3⟩
  |cont=>obtain⟨σ3,H3,I3,n3⟩:=q3;obtain⟨m',hm,w3⟩:=hN σ3 H3 n3;exact⟨m',hm,σ3,H3,I3,w3⟩
  |brk=>exact q3
  |ret v=>exact q3
 |false=>rw[if_neg fz];exact kz ⟨σ1,H2,I2,q2⟩
end
structure It where
 go:Nat->Hp->Prop
 yld:Nat->Hp->V->Hp->Prop
 stop:Nat->Hp->Prop
def bZ (X:Cx) (pins:List (ah×Obj)) (H:Hp) (b:ah):Prop:=H b=none/\b≠X.env.locals/\b∉X.fs/\(b∈X.ex∨X.s₀.heap.objs.size<=b)/\(∀x c,X.env.cells.lookup x=some c->c≠b)/\∀p∈X.pn++pins,p.1≠b
theorem Inv.fpOk {X:Cx}{pins:List (ah×Obj)}{σ:St}{H H':Hp}{s:ag}{b:ah}(I:Inv X pins σ H s) (hb:s.heap.objs.size<=b) (hn:H' b=none):bZ X pins H' b:=by
 refine⟨hn,ig (ar I.lt hb),I.nofs hb,.inr (dk I.sz hb),λx c e z=>?_,λp hp z=>?_⟩
 ·obtain⟨v,q⟩:=I.cell x c e;exact absurd (ar q.lt (by rw[z];exact hb)) (fj _)
 ·exact absurd (ar (ao (I.pin p hp).1) (by rw[z];exact hb)) (fj _)
structure Turn (P:bj) (w:cq) (K:aq) (tg:bp) (J:It) (fp:List ah) (it:ah) (tn:Nat->cw->Prop):Prop where
 mem:it∈fp
 obj:∀i h,tn i h->∀b∈fp,∃o,h.get? b=some o/\∀v,o.data≠.cell v
 keep:∀i h h',tn i h->(∀b∈fp,∀o,h.get? b=some o->h'.get? b=some o)->tn i h'
 item:∀(X:Cx),X.prog=P->X.w=w->X.K=K->X.calm=true->∀(i:Nat) (pins:List (ah×Obj)) (s:ag) (σ:St) (H:Hp) (E:af->ag->Prop),Inv X pins σ H s->(∀b∈fp,bZ X pins H b)->tn i s.heap->J.go i H->
  wpAny (model P w) X.A (pyNext (.ref it)) (λr s1=>∃u,r=some u /\
   wpAny (model P w) X.A (letOwnedTupleGo tg (.ref it) u) (λ_ s2=>∃x H',Inv X pins σ H' s2/\RelV x u/\J.yld i H x H'/\tn (i+1) s2.heap/\∀b∈fp,H' b=none) E s1) E s
 done:∀(X:Cx),X.prog=P->X.w=w->X.K=K->X.calm=true->∀(i:Nat) (pins:List (ah×Obj)) (s:ag) (σ:St) (H:Hp) (E:af->ag->Prop),Inv X pins σ H s->(∀b∈fp,bZ X pins H b)->tn i s.heap->J.stop i H->
  wpAny (model P w) X.A (pyNext (.ref it)) (λr s1=>r=none/\Inv X pins σ H s1) E s
 self:∀(A:cu) (i:Nat) (s:ag) (Q:af->ag->Prop) (E:af->ag->Prop),tn i s.heap->Q (.ref it) s->wpAny (model P w) A (pyIter (.ref it)) Q E s
abbrev TI:=St->Hp->(It->Hp->Prop)->Prop
def ET (X:Cx) (pins:List (ah×Obj)) (σ:St) (tg:bp) (R:It->Hp->Prop) (itv:af) (s2:ag):Prop:=∃(it:ah) (fp:List ah) (tn:Nat->cw->Prop) (J:It) (H':Hp),itv=.ref it/\Inv X pins σ H' s2/\Turn X.prog X.w X.K tg J fp it tn/\tn 0 s2.heap/\(∀b∈fp,bZ X pins H' b)/\R J H'
def PI (X:Cx) (tg iter:bp) (wi:TI):Prop:=
 ∀(pins:List (ah×Obj)) (s:ag) (σ:St) (H:Hp) (R:It->Hp->Prop),Inv X pins σ H s->wi σ H R->
  wpAny (model X.prog X.w) X.A (eval iter X.env) (λv s1=>wpAny (model X.prog X.w) X.A (pyIter v) (ET X pins σ tg R) X.xe s1) X.xe s
theorem yR {M:vq}{A:cu}{E:af->ag->Prop}{s:ag}{tg:bp}{it:ah}{u:af}{o:Obj}{n:String}{vs:Array af}{Q:Unit->ag->Prop}(ho:s.heap.get? it=some o) (hc:o.cls=.type n) (hd:o.data=.fields vs)
  (hn:["enumerate","zip","dict_itemiterator","dict_reverseitemiterator","odict_iterator","itertools.zip_longest","itertools.pairwise"].contains n=false) (hQ:Q () s):wpAny M A (letOwnedTupleGo tg (.ref it) u) Q E s:=by
 unfold letOwnedTupleGo
 cases tg <;> first
  |exact ai hQ
  |(cases u <;> first
    |exact ai hQ
    |(refine aa (wpAny_load ho ?_);rw[hc,hd];show wpAny M A (if(["enumerate","zip","dict_itemiterator","dict_reverseitemiterator","odict_iterator","itertools.zip_longest","itertools.pairwise"].contains n&&vs[0]?==some (rawInt _))=true then _ else _) Q E s;rw[if_neg (by intro h;rw[hn,Bool.false_and]at h;cases h)];exact ai hQ))
def EU (K:aq) (a:ah):It:=⟨λi H=>∃xs x,SqL K H a xs/\xs[i]?=some x,λi H x H'=>H'=H/\∀xs,SqL K H a xs->xs[i]?=some x,λi H=>∃xs,SqL K H a xs/\xs.length<=i⟩
def yS (K:aq) (a:ah):It:=⟨λi H=>∃xs x,SqT K H a xs/\xs[i]?=some x,λi H x H'=>H'=H/\∀xs,SqT K H a xs->xs[i]?=some x,λi H=>∃xs,SqT K H a xs/\xs.length<=i⟩
def pY (lo:Int) (n:Nat):It:=⟨λi _=>i<n,λi H x H'=>H'=H/\x=.int (lo+i),λi _=>n<=i⟩
theorem O2 {P:bj}{w:cq}{K:aq}{tg:bp}(a it:ah):Turn P w K tg (EU K a) [it] it (λi h=>h.IsListIter it a i) where
 mem:=by simp
 obj:=λi h st b hb=>by
  have e:b=it:=by simpa using hb
  subst e;obtain⟨o,e,c,d⟩:=st;exact⟨o,e,λv z=>by rw[d]at z;cases z⟩
 keep:=λi h h' st k=>st.at λo e=>k it (by simp) o e
 item:=by intro X hP hw hK hc i pins s σ H E I hf st hg;subst hP hw hK;obtain⟨xs,x,hq,hx⟩:=hg;obtain⟨its,rv,p,hz⟩:=I.list hq;obtain⟨u,hu,ru⟩:=rv.get hx;obtain⟨f0,f1,f2,f3,f4,f5⟩:=hf it (by simp);refine wpAny_pyNext_list_item st p.isList (x:=u) (by simpa using hu) λh' st' sb=>?_;have I1:Inv X pins σ H { s with heap:=h' }:=I.turned (t':=s.toks) (λb o hb e=>(sb.2 b hb).trans e) f0 f1 f3 f4 f5;obtain⟨o,e,c,d⟩:=id st';exact⟨u,rfl,yR (s:={ s with heap:=h' }) e c d (by decide) ⟨x,H,I1,ru,⟨rfl,λys hy=>by rw[I.list_inj hy hq];exact hx⟩,st',λb hb=>(hf b hb).1⟩⟩
 done:=by intro X hP hw hK hc i pins s σ H E I hf st hg;subst hP hw hK;obtain⟨xs,hq,hx⟩:=hg;obtain⟨its,rv,p,hz⟩:=I.list hq;obtain⟨f0,f1,f2,f3,f4,f5⟩:=hf it (by simp);have hl:=rv.length;exact wpAny_pyNext_list_end (I.ok.hd hc) st p.isList (by simp;omega) λh' eb=>⟨rfl,I.turned (t':=s.toks) (λb o hb e=>eb b o hb e) f0 f1 f3 f4 f5⟩
 self:=λ_ _ _ _ _ st h=>wpAny_pyIter_listiter st h
theorem O3 {P:bj}{w:cq}{K:aq}{tg:bp}(a it:ah):Turn P w K tg (yS K a) [it] it (λi h=>h.IsTupleIter it a i) where
 mem:=by simp
 obj:=λi h st b hb=>by
  have e:b=it:=by simpa using hb
  subst e;obtain⟨o,e,c,d⟩:=st;exact⟨o,e,λv z=>by rw[d]at z;cases z⟩
 keep:=λi h h' st k=>st.at λo e=>k it (by simp) o e
 item:=by intro X hP hw hK hc i pins s σ H E I hf st hg;subst hP hw hK;obtain⟨xs,x,hq,hx⟩:=hg;obtain⟨its,rv,p,hz⟩:=I.tuple hq;obtain⟨u,hu,ru⟩:=rv.get hx;obtain⟨f0,f1,f2,f3,f4,f5⟩:=hf it (by simp);refine wpAny_pyNext_tuple_item st (show s.heap.IsTuple a its.toArray from p) (x:=u) (by simpa using hu) λh' st' sb=>?_;have I1:Inv X pins σ H { s with heap:=h' }:=I.turned (t':=s.toks) (λb o hb e=>(sb.2 b hb).trans e) f0 f1 f3 f4 f5;obtain⟨o,e,c,d⟩:=id st';exact⟨u,rfl,yR (s:={ s with heap:=h' }) e c d (by decide) ⟨x,H,I1,ru,⟨rfl,λys hy=>by rw[I.tuple_inj hy hq];exact hx⟩,st',λb hb=>(hf b hb).1⟩⟩
 done:=by intro X hP hw hK hc i pins s σ H E I hf st hg;subst hP hw hK;obtain⟨xs,hq,hx⟩:=hg;obtain⟨its,rv,p,hz⟩:=I.tuple hq;obtain⟨f0,f1,f2,f3,f4,f5⟩:=hf it (by simp);have hl:=rv.length;exact wpAny_pyNext_tuple_end (I.ok.hd hc) st (show s.heap.IsTuple a its.toArray from p) (by simp;omega) λh' eb=>⟨rfl,I.turned (t':=s.toks) (λb o hb e=>eb b o hb e) f0 f1 f3 f4 f5⟩
 self:=λ_ _ _ _ _ st h=>wpAny_pyIter_tupleiter st h
theorem O4 {P:bj}{w:cq}{K:aq}{tg:bp}(it:ah) (lo:Int) (n:Nat):Turn P w K tg (pY lo n) [it] it (λi h=>IsRangeIter h it (lo+(i:Nat)*1) ((n:Int) - (i:Nat)) 1) where
 mem:=by simp
 obj:=λi h st b hb=>by
  have e:b=it:=by simpa using hb
  subst e;exact⟨_,st,λv z=>by
   have z':Data.fields _=Data.cell v:=z
   cases z'⟩
 keep:=λi h h' st k=>k it (by simp) _ st
 item:=by intro X hP hw hK hc i pins s σ H E I hf st hg;subst hP hw hK;obtain⟨f0,f1,f2,f3,f4,f5⟩:=hf it (by simp);have W:=Walks.range (prog:=X.prog) (w:=X.w) (I.ok.hd hc) it lo 1 n;refine W.item i s _ _ hg st λv h' tk hv st' kk=>?_;obtain⟨t,rfl⟩:=hv;have I1:Inv X pins σ H { s with heap:=h',toks:=tk }:=I.turned (λb o hb e=>kk b o (by simpa using hb) e) f0 f1 f3 f4 f5;refine⟨_,rfl,yR (s:={ s with heap:=h',toks:=tk }) (n := "range_iterator") st' rfl rfl (by decide) ⟨.int (lo+i),H,I1,⟨t, ?_⟩,⟨rfl,rfl⟩,st',λb hb=>(hf b hb).1⟩⟩;rw[Int.mul_one]
 done:=by intro X hP hw hK hc i pins s σ H E I hf st hg;subst hP hw hK;obtain⟨f0,f1,f2,f3,f4,f5⟩:=hf it (by simp);exact wpAny_pyNext_range_end (I.ok.hd hc) st (by have:n<=i:=hg;omega) λh' eb=>⟨rfl,I.turned (t':=s.toks) (λb o hb e=>eb b o hb e) f0 f1 f3 f4 f5⟩
 self:=λ_ _ _ _ _ st h=>wpAny_pyIter_rangeiter st h
section
variable{X:Cx}{tg:bp}
def O5 (K:aq) (tl:TE):TI:=λσ H R=>tl σ H λx H1=>∃a,x=.ref a/\(∃xs,SqL K H1 a xs)/\R (EU K a) H1
def O6 (K:aq) (tl:TE):TI:=λσ H R=>tl σ H λx H1=>∃a,x=.ref a/\(∃xs,SqT K H1 a xs)/\R (yS K a) H1
theorem O7 {l:bp}{tl:TE}(hl:PE X l tl):PI X tg l (O5 X.K tl):=by
 intro pins s σ H R I h;refine aU (hl pins s σ H _ I h) λv s1 ⟨x,H1,I1,r1,q1⟩=>?_;obtain⟨a,e,⟨xs,hq⟩,q⟩:=q1;subst e;cases r1;obtain⟨its,rv,p,hz⟩:=I1.list hq;refine kh p.isList ?_;refine⟨s1.heap.objs.size,[s1.heap.objs.size],_,_,H1,rfl,I1.kept (t':=s1.toks) λb o e=>aj _ e,O2 a _,⟨_,ay _ rfl,rfl,rfl⟩,λb hb=>?_,q⟩;have e:b=s1.heap.objs.size:=by simpa using hb
 subst e;exact I1.fpOk (ak _) (I1.hok.fresh (ak _))
theorem O8 {l:bp}{tl:TE}(hl:PE X l tl):PI X tg l (O6 X.K tl):=by
 intro pins s σ H R I h;refine aU (hl pins s σ H _ I h) λv s1 ⟨x,H1,I1,r1,q1⟩=>?_;obtain⟨a,e,⟨xs,hq⟩,q⟩:=q1;subst e;cases r1;obtain⟨its,rv,p,hz⟩:=I1.tuple hq;refine qe (show s1.heap.IsTuple a its.toArray from p) ?_;refine⟨s1.heap.objs.size,[s1.heap.objs.size],_,_,H1,rfl,I1.kept (t':=s1.toks) λb o e=>aj _ e,O3 a _,⟨_,ay _ rfl,rfl,rfl⟩,λb hb=>?_,q⟩;have e:b=s1.heap.objs.size:=by simpa using hb
 subst e;exact I1.fpOk (ak _) (I1.hok.fresh (ak _))
theorem EV {pins:List (ah×Obj)}{σ:St}{H:Hp}{s:ag}{R:It->Hp->Prop}{E:af->ag->Prop}{lo hi:Int}{t u v:Tok}{tk:Nat}(I:Inv X pins σ H s) (h1 : -(2 ^ 62)<=lo) (h2:lo<2 ^ 62) (h3 : -(2 ^ 62)<=hi) (h4:hi<2 ^ 62)
  (q:R (pY lo (hi - lo).toNat) H):wpAny (model X.prog X.w) X.A (pyIter (.ref s.heap.objs.size)) (ET X pins σ tg R) E { s with heap:=s.heap.push { cls:=.type "range",data:=.fields #[.int lo t,.int hi u,.int 1 v] },toks:=tk }:=by
 refine wpAny_pyIter_range (IsRange.new ..) (small_one h1 h2 h3 h4) ?_;have I1:Inv X pins σ H { s with heap:=s.heap.push { cls:=.type "range",data:=.fields #[.int lo t,.int hi u,.int 1 v] },toks:=tk }:=I.kept λb o e=>aj _ e;refine⟨(s.heap.push { cls:=.type "range",data:=.fields #[.int lo t,.int hi u,.int 1 v] }).objs.size,[(s.heap.push { cls:=.type "range",data:=.fields #[.int lo t,.int hi u,.int 1 v] }).objs.size],_,_,H,rfl,
  I1.kept (t':=tk) λb o e=>aj _ e,O4 _ lo (hi - lo).toNat, ?_,λb hb=>?_,q⟩
 ·have e1:lo+((0:Nat):Int)*1=lo:=by simp
  have e2:(((hi - lo).toNat:Nat):Int) - ((0:Nat):Int)=Builtin.Range.rangeSize lo hi 1:=by rw[rangeSize_one];split <;> omega
  show IsRangeIter _ _ (lo+((0:Nat):Int)*1) ((((hi - lo).toNat:Nat):Int) - ((0:Nat):Int)) 1;rw[e1,e2];exact ay _ rfl
 ·have e:b=(s.heap.push { cls:=.type "range",data:=.fields #[.int lo t,.int hi u,.int 1 v] }).objs.size:=by simpa using hb
  subst e;exact I1.fpOk (ak _) (I1.hok.fresh (ak _))
def O9 (ta:TA):TI:=λσ H R=>ta σ H λvs H1=>∃j:Int,vs=[.int j]/\-(2 ^ 62)<=j/\j<2 ^ 62/\R (pY 0 j.toNat) H1
def PB (ta:TA):TI:=λσ H R=>ta σ H λvs H1=>∃i j:Int,vs=[.int i,.int j]/\(-(2 ^ 62)<=i/\i<2 ^ 62/\-(2 ^ 62)<=j/\j<2 ^ 62)/\R (pY i (j - i).toNat) H1
theorem PC {a:bp}{ta:TA}{p pos:Pos}(hg:Gl X "range") (hm:X.mg "range" = none) (ha:PA X [a] ta) (hs:au [a] X.env=[(false,eval a X.env)]:=by rfl):PI X tg (.Call (.Name "range" p) [a] [] pos) (O9 ta):=by
 intro pins s σ H R I h;refine Call_ (mS I hg hm boot_range (ik (aU (ha pos pins s σ H _ I h) λus s1 ⟨vs,H1,I1,r1,q1⟩=>?_) hs rfl));obtain⟨j,e,q1,q2,q⟩:=q1;subst e
 cases r1 with
 |cons r rr=>cases rr;obtain⟨t,rfl⟩:=r;exact call_range_1 (EV I1 (by omega) (by omega) q1 q2 (by simpa using q))
theorem PD {a b:bp}{ta:TA}{p pos:Pos}(hg:Gl X "range") (hm:X.mg "range" = none) (ha:PA X [a,b] ta) (hs:au [a,b] X.env=[(false,eval a X.env),(false,eval b X.env)]:=by rfl) (hs2:au [b] X.env=[(false,eval b X.env)]:=by rfl):
  PI X tg (.Call (.Name "range" p) [a,b] [] pos) (PB ta):=by
 intro pins s σ H R I h;refine Call_ (mS I hg hm boot_range (ik (aU (ha pos pins s σ H _ I h) λus s1 ⟨vs,H1,I1,r1,q1⟩=>?_) (by rw[hs,hs2]) (by rw[hs2];rfl)));obtain⟨i,j,e,⟨q1,q2,q3,q4⟩,q⟩:=q1;subst e
 cases r1 with
 |cons r rr=>
  cases rr with
  |cons r' rr=>cases rr;obtain⟨t,rfl⟩:=r;obtain⟨t',rfl⟩:=r';exact call_range_2 (EV I1 q1 q2 q3 q4 q)
def PF (wi:TI) (g:TG) (tb:TS):TS:=λD σ H=>wi σ H λJ H1=>∃W:Nat->Nat->St->Hp->Prop,(∃m,W 0 m σ H1)/\∀i m σ H,W i m σ H->
 (J.stop i H/\D.nx σ H)∨(J.go i H/\∃N:St->Hp->Prop,(∀σ' H',N σ' H'->∃m',m'<m/\W (i+1) m' σ' H')/\∀x H',J.yld i H x H'->g x σ H' λσ2 H2=>tb { D with nx:=N,ct:=N,bk:=D.nx } σ2 H2)
def fJ (fp:List ah) (h:cw):List (ah×Obj):=fp.filterMap λb=>(h.get? b).map λo=>(b,o)
theorem lL {fp:List ah}{h:cw}{b:ah}{o:Obj}(hb:b∈fp) (e:h.get? b=some o):(b,o)∈fJ fp h:=gz.mpr ⟨b,hb,by rw[e];rfl⟩
theorem pZ {fp:List ah}{h:cw}{p:ah×Obj}(hp:p∈fJ fp h):p.1∈fp/\h.get? p.1=some p.2:=by
 obtain⟨b,hb,e⟩:=gz.mp hp
 cases q:h.get? b with
 |none=>rw[q]at e;cases e
 |some o=>rw[q]at e;have e':(b,o)=p:=cz e;subst e';exact⟨hb,q⟩
theorem Inv.pinned {pins:List (ah×Obj)}{σ:St}{H:Hp}{s:ag}{fp:List ah}(I:Inv X pins σ H s) (hf:∀b∈fp,bZ X pins H b) (ho:∀b∈fp,∃o,s.heap.get? b=some o/\∀v,o.data≠.cell v):Inv X (pins++fJ fp s.heap) σ H s:=I.pins_of λp hp=>(bq.mp hp).elim (λz=>I.pin p (bo _ z)) λz=>by obtain⟨hb,e⟩:=pZ z;obtain⟨f0,f1,f2,_⟩:=hf p.1 hb;obtain⟨o,e',d⟩:=ho p.1 hb;rw[e]at e';cases e';exact⟨e,f0,f1,f2,d⟩
theorem Inv.unpinned {pins pl:List (ah×Obj)}{σ:St}{H:Hp}{s:ag}(I:Inv X (pins++pl) σ H s):Inv X pins σ H s:=I.pins_of λp hp=>I.pin p (bo _ (fy _ hp))
theorem PH {iter:bp}{body:List gp}{wi:TI}{g:TG}{tb:TS}{pos:Pos}(hp:xv (model X.prog X.w) X.A X.env X.xe) (hc:X.calm=true) (hi:PI X tg iter wi) (hg:PG X tg g) (hb:PSs X body tb)
  (hs:∀x,foldedSetIterable iter X.env x=pure x:=by intro _;rfl):PS X (.For tg iter body [] pos) (PF wi g tb):=by
 intro pins s σ H D I h;refine wpAny_For (aU (hi pins s σ H _ I h) λv s1 h1=>aU h1 λitv s2 h2=>?_) hs;obtain⟨it,fp,tn,J,H2,e,I2,T,st2,f2,W,⟨m0,w0⟩,turn⟩:=h2;subst e;have stat:∀{H':Hp},(∀b∈fp,H' b=none)->∀b∈fp,bZ X pins H' b:=λhn b hb=>⟨hn b hb,(f2 b hb).2⟩
 refine codeAny_forLoop_any (λn s'=>∃i σ' H',Inv X pins σ' H' s'/\tn i s'.heap/\(∀b∈fp,H' b=none)/\W i n σ' H') ?_ m0 ⟨0,σ,H2,I2,st2,λb hb=>(f2 b hb).1,w0⟩
 rintro n s3 ⟨i,σ3,H3,I3,st3,fr3,w3⟩
 rcases turn i n σ3 H3 w3 with⟨stop,qn⟩|⟨go,N,hN,step⟩
 ·refine jz hp (aU (T.done X rfl rfl rfl hc i pins s3 σ3 H3 X.xe I3 (stat fr3) st3 stop) λr s4 ⟨hr,I4⟩=>?_);subst hr;exact kz ⟨σ3,H3,I4,qn⟩
 ·refine jz hp (aU (T.item X rfl rfl rfl hc i pins s3 σ3 H3 X.xe I3 (stat fr3) st3 go) λr s4 ⟨u,hr,h4⟩=>?_);subst hr;refine jz hp (aU h4 λ_ s5 ⟨x,H5,I5,r5,y5,st5,fr5⟩=>?_);have I5':=I5.pinned (stat fr5) (T.obj _ _ st5);refine jz hp (aU (hg _ s5 σ3 H5 x u _ I5' r5 (step x H5 y5)) λ_ s6 ⟨σ6,H6,I6,q6⟩=>?_);refine jz hp (aU (hb _ s6 σ6 H6 _ I6 q6) λf s7 q7=>?_);have again:∀{σ7:St}{H7:Hp},Inv X (pins++fJ fp s5.heap) σ7 H7 s7->N σ7 H7->∃m,m<n/\∃i σ' H',Inv X pins σ' H' s7/\tn i s7.heap/\(∀b∈fp,H' b=none)/\W i m σ' H':=λ{σ7 H7} I7 n7=>by obtain⟨m',hm,w7⟩:=hN σ7 H7 n7;refine⟨m',hm,i+1,σ7,H7,I7.unpinned,T.keep _ _ _ st5 λb hb o e=>(I7.pin (b,o) (bo _ (bo _ (lL hb e)))).1,λb hb=>?_,w7⟩;obtain⟨o,e,d⟩:=T.obj _ _ st5 b hb;exact(I7.pin (b,o) (bo _ (bo _ (lL hb e)))).2.1
  cases f with
  |next=>obtain⟨σ7,H7,I7,n7⟩:=q7;exact again I7 n7
  |cont=>obtain⟨σ7,H7,I7,n7⟩:=q7;exact again I7 n7
  |brk=>obtain⟨σ7,H7,I7,q7⟩:=q7;exact⟨σ7,H7,I7.unpinned,q7⟩
  |ret v=>obtain⟨x7,σ7,H7,I7,r7,q7⟩:=q7;exact⟨x7,σ7,H7,I7.unpinned,r7,q7⟩
end
abbrev R2:=V->V->Hp->VK->Prop
def OpR (X:Cx) (f:af->af->Sem af) (r:R2):Prop:=
 ∀(pins:List (ah×Obj)) (s:ag) (σ:St) (H:Hp) (x y:V) (v u:af) (Q:VK),Inv X pins σ H s->RelV x v->RelV y u->r x y H Q->
  wpAny (model X.prog X.w) X.A (f v u) (EP X pins σ Q) X.xe s
def tU (X:Cx) (f:af->Sem af) (r:V->Hp->VK->Prop):Prop:=
 ∀(pins:List (ah×Obj)) (s:ag) (σ:St) (H:Hp) (x:V) (v:af) (Q:VK),Inv X pins σ H s->RelV x v->r x H Q->
  wpAny (model X.prog X.w) X.A (f v) (EP X pins σ Q) X.xe s
def CallR (X:Cx) (f:af) (r:List V->Hp->VK->Prop):Prop:=
 ∀(pins:List (ah×Obj)) (s:ag) (σ:St) (H:Hp) (xs:List V) (us:List af) (Q:VK),Inv X pins σ H s->Vals xs us->r xs H Q->
  wpAny (model X.prog X.w) X.A (call f us) (EP X pins σ Q) X.xe s
def PJ (X:Cx) (r:V->Hp->(Bool->Hp->Prop)->Prop):Prop:=
 ∀(pins:List (ah×Obj)) (s:ag) (σ:St) (H:Hp) (x:V) (v:af) (Q:Bool->Hp->Prop),Inv X pins σ H s->RelV x v->r x H Q->
  wpAny (model X.prog X.w) X.A (truthy v) (TP X pins σ Q) X.xe s
def qA (r:R2) (ta tb:TE):TE:=λσ H Q=>ta σ H λx H1=>tb σ H1 λy H2=>r x y H2 Q
def PK (r:V->Hp->VK->Prop) (ta:TE):TE:=λσ H Q=>ta σ H λx H1=>r x H1 Q
def rI (C:Int->Int->Prop) (g:Int->Int->V):R2:=λx y H Q=>∃i j,x=.int i/\y=.int j/\C i j/\Q (g i j) H
def jM (g:Int->Int->V):R2:=λx y H Q=>∃i j,x=.int i/\y=.int j/\Q (g i j) H
def rU (g:Int->V):V->Hp->VK->Prop:=λx H Q=>∃i,x=.int i/\Q (g i) H
section
variable{X:Cx}{a b c:bp}{ta tb tc:TE}{pos:Pos}
theorem yT (ha:PE X a ta) (hb:PE X b tb) {pins:List (ah×Obj)}{s:ag}{σ:St}{H:Hp}{R:V->V->Hp->Prop}(I:Inv X pins σ H s)
  (h:ta σ H λx H1=>tb σ H1 λy H2=>R x y H2) {Q:af->ag->Prop}{f:af->af->Sem af}
  (hf:∀v u s2 x y H2,Inv X pins σ H2 s2->RelV x v->RelV y u->R x y H2->wpAny (model X.prog X.w) X.A (f v u) Q X.xe s2):
  wpAny (model X.prog X.w) X.A (eval a X.env) (λv s₁=>wpAny (model X.prog X.w) X.A (eval b X.env) (λu s₂=>wpAny (model X.prog X.w) X.A (f v u) Q X.xe s₂) X.xe s₁) X.xe s:=by
 refine aU (ha pins s σ H _ I h) λv s1 ⟨x,H1,I1,r1,q1⟩=>?_;refine aU (hb pins s1 σ H1 _ I1 q1) λu s2 ⟨y,H2,I2,r2,q2⟩=>?_;exact hf v u s2 x y H2 I2 r1 r2 q2
theorem PL {op:Operator}{r:R2}(ho:OpR X (binaryOp op) r) (ha:PE X a ta) (hb:PE X b tb):PE X (.BinOp a op b pos) (qA r ta tb):=by intro pins s σ H Q I h;exact wpAny_BinOp (yT ha hb I h λv u s2 x y H2 I2 rx ry q=>ho pins s2 σ H2 x y v u Q I2 rx ry q)
theorem PM {op:UnaryOp}{r:V->Hp->VK->Prop}(ho:tU X (unaryOp op) r) (ha:PE X a ta):PE X (.UnaryOp op a pos) (PK r ta):=by intro pins s σ H Q I h;exact UnaryOp_ (aU (ha pins s σ H _ I h) λv s1 ⟨x,H1,I1,r1,q1⟩=>ho pins s1 σ H1 x v Q I1 r1 q1)
theorem tV {f:af->af->Sem af}{C:Int->Int->Prop}{g:Int->Int->Int}
  (rule:∀(i j:Int) (t u:Tok) (s:ag) (Q:af->ag->Prop) (E:af->ag->Prop),C i j->Q (.int (g i j) s.toks) { s with toks:=s.toks+1 }->wpAny (model X.prog X.w) X.A (f (.int i t) (.int j u)) Q E s):
  OpR X f (rI C λi j=>.int (g i j)):=by
 intro pins s σ H x y v u Q I rx ry h;obtain⟨i,j,rfl,rfl,hc,q⟩:=h;obtain⟨t,rfl⟩:=rx;obtain⟨t',rfl⟩:=ry;exact rule i j t t' s _ _ hc ⟨.int (g i j),H,I.tok _,⟨_,rfl⟩,q⟩
theorem EW {f:af->af->Sem af}{g:Int->Int->Int}
  (rule:∀(i j:Int) (t u:Tok) (s:ag) (Q:af->ag->Prop) (E:af->ag->Prop),Q (.int (g i j) s.toks) { s with toks:=s.toks+1 }->wpAny (model X.prog X.w) X.A (f (.int i t) (.int j u)) Q E s):
  OpR X f (jM λi j=>.int (g i j)):=by
 intro pins s σ H x y v u Q I rx ry h;obtain⟨i,j,rfl,rfl,q⟩:=h;obtain⟨t,rfl⟩:=rx;obtain⟨t',rfl⟩:=ry;exact rule i j t t' s _ _ ⟨.int (g i j),H,I.tok _,⟨_,rfl⟩,q⟩
theorem yU {f:af->af->Sem af}{g:Int->Int->Bool}
  (rule:∀(i j:Int) (t u:Tok) (s:ag) (Q:af->ag->Prop) (E:af->ag->Prop),Q (.bool (g i j)) s->wpAny (model X.prog X.w) X.A (f (.int i t) (.int j u)) Q E s):
  OpR X f (jM λi j=>.bl (g i j)):=by
 intro pins s σ H x y v u Q I rx ry h;obtain⟨i,j,rfl,rfl,q⟩:=h;obtain⟨t,rfl⟩:=rx;obtain⟨t',rfl⟩:=ry;exact rule i j t t' s _ _ ⟨.bl (g i j),H,I,rfl,q⟩
def yV (i j:Int):Prop:=0<=j/\j<=1000000/\i.natAbs<2 ^ 64
def CMul (i j:Int):Prop:=(-(2 ^ 64)<i/\i<2 ^ 64)∨(-(2 ^ 64)<j/\j<2 ^ 64)
theorem CMul.ok {i j:Int}(h:CMul i j):IntMulOk i j:=by
 rcases h with⟨h1,h2⟩|⟨h1,h2⟩
 ·exact .of_left (intBits_le_64 h1 h2)
 ·exact .of_right (intBits_le_64 h1 h2)
theorem op_add:OpR X (binaryOp .Add) (jM λi j=>.int (i+j)):=EW λ_ _ _ _ _ _ _ q=>add_int q
theorem PN:OpR X (binaryOp .Sub) (jM λi j=>.int (i - j)):=EW λ_ _ _ _ _ _ _ q=>sub_int q
theorem PQ:OpR X (binaryOp .Mult) (rI CMul λi j=>.int (i*j)):=tV λ_ _ _ _ _ _ _ hc q=>mul_int q hc.ok
theorem PR:OpR X (binaryOp .Mod) (rI (λ_ j=>0<j) λi j=>.int (i % j)):=tV λi j _ _ _ _ _ hc q=>by have h1:(0:Int)<j:=hc;exact mod_int' (by omega) (by rw[Int.fmod_eq_emod_of_nonneg i (by omega)];exact q)
theorem PU:OpR X (binaryOp .Pow) (rI yV λi j=>.int (i ^ j.toNat)):=tV λ_ _ _ _ _ _ _ hc q=>pow_int_small hc.1 hc.2.1 hc.2.2 q
theorem PV {f:af->Sem af}{g:Int->Int}
  (rule:∀(i:Int) (t:Tok) (s:ag) (Q:af->ag->Prop) (E:af->ag->Prop),Q (.int (g i) s.toks) { s with toks:=s.toks+1 }->wpAny (model X.prog X.w) X.A (f (.int i t)) Q E s):
  tU X f (rU λi=>.int (g i)):=by
 intro pins s σ H x v Q I rx h;obtain⟨i,rfl,q⟩:=h;obtain⟨t,rfl⟩:=rx;exact rule i t s _ _ ⟨.int (g i),H,I.tok _,⟨_,rfl⟩,q⟩
theorem PX:tU X (unaryOp .USub) (rU λi=>.int (-i)):=PV λ_ _ _ _ _ q=>neg_int q
end
section
variable{X:Cx}{a b c:bp}{ta tb tc:TE}{pos:Pos}
theorem EX {pins:List (ah×Obj)}{σ:St}{H:Hp}{s:ag}{Q:VK}{k k':Bool}(I:Inv X pins σ H s) (q:Q (.bl k) H) (e:k=k'):EP X pins σ Q (.bool k') s:=by subst e;exact⟨.bl k,H,I,rfl,q⟩
theorem EY:OpR X (compareOp .Lt) (jM λi j=>.bl (decide (i<j))):=yU λ_ _ _ _ _ _ _ q=>lt_int q
theorem EZ:OpR X (compareOp .LtE) (jM λi j=>.bl (decide (i<=j))):=yU λ_ _ _ _ _ _ _ q=>le_int q
theorem PY:OpR X (compareOp .GtE) (jM λi j=>.bl (decide (j<=i))):=yU λ_ _ _ _ _ _ _ q=>ge_int q
theorem PZ:OpR X (compareOp .Is) (λx y H Q=>y=.non/\Q (.bl (decide (x=.non))) H):=by
 intro pins s σ H x y v u Q I rx ry h;obtain⟨rfl,q⟩:=h;cases ry;refine is_none_gen (EX I q ?_)
 cases x <;> first
  |(cases rx;rfl)
  |(obtain⟨t,rfl⟩:=rx;rfl)
theorem P0:OpR X (compareOp .IsNot) (λx y H Q=>y=.non/\Q (.bl (!decide (x=.non))) H):=by
 intro pins s σ H x y v u Q I rx ry h;obtain⟨rfl,q⟩:=h;cases ry;refine isnot_none_gen (EX I q ?_)
 cases x <;> first
  |(cases rx;rfl)
  |(obtain⟨t,rfl⟩:=rx;rfl)
theorem OpR.or {f:af->af->Sem af}{r r':R2}(h:OpR X f r) (h':OpR X f r'):OpR X f (λx y H Q=>r x y H Q∨r' x y H Q):=by
 intro pins s σ H x y v u Q I rx ry q
 rcases q with q|q
 ·exact h pins s σ H x y v u Q I rx ry q
 ·exact h' pins s σ H x y v u Q I rx ry q
theorem kU (b:bp) {op:CmpOp}(h:op≠.In:=by decide) (h2:op≠.NotIn:=by decide):behindInMarks op b=false:=by
 have e1:(op==CmpOp.In)=false:=by cases op <;> first|rfl|exact absurd rfl h
 have e2:(op==CmpOp.NotIn)=false:=by cases op <;> first|rfl|exact absurd rfl h2
 cases b <;> simp[behindInMarks,e1,e2]
theorem P4 {op:CmpOp}{r:R2}(ho:OpR X (compareOp op) r) (ha:PE X a ta) (hb:PE X b tb) (hm:behindInMarks op b=false):PE X (.Compare a [op] [b] pos) (qA r ta tb):=by intro pins s σ H Q I h;exact wpAny_Compare1 (yT ha hb I h λv u s2 x y H2 I2 rx ry q=>ho pins s2 σ H2 x y v u Q I2 rx ry q) hm
def P5 (t:TE):TT:=λσ H Q=>t σ H λx H'=>∃k,x=.bl k/\Q k H'
theorem P6 {op:CmpOp}{r:R2}(ho:OpR X (compareOp op) r) (ha:PE X a ta) (hb:PE X b tb) (hm:behindInMarks op b=false):PT X (.Compare a [op] [b] pos) (P5 (qA r ta tb)):=by intro pins s σ H Q I h;refine wpAny_isTrue_Compare1 (aU (ha pins s σ H _ I h) λv s1 ⟨x,H1,I1,r1,q1⟩=>aU (hb pins s1 σ H1 _ I1 q1) λu s2 ⟨y,H2,I2,r2,q2⟩=>aU (ho pins s2 σ H2 x y v u _ I2 r1 r2 q2) λc s3 ⟨z,H3,I3,r3,k,e,q3⟩=>?_) hm;subst e;cases r3;exact kg ⟨H3,I3,q3⟩
def E1 (r r':R2) (ta tb tc:TE):TE:=λσ H Q=>ta σ H λx H1=>tb σ H1 λy H2=>r x y H2 λz H3=>∃k,z=.bl k /\
 (if k=true then tc σ H3 λw' H4=>r' y w' H4 Q else Q (.bl false) H3)
theorem P7 {op op':CmpOp}{r r':R2}(ho:OpR X (compareOp op) r) (ho':OpR X (compareOp op') r') (ha:PE X a ta) (hb:PE X b tb) (hc:PE X c tc)
  (hm:lastMarks [op,op'] [b,c]=false:=by with_unfolding_all rfl):PE X (.Compare a [op,op'] [b,c] pos) (E1 r r' ta tb tc):=by
 intro pins s σ H Q I h;refine Compare_chain (aU (ha pins s σ H _ I h) λv s1 ⟨x,H1,I1,r1,q1⟩=>chain_link (aU (hb pins s1 σ H1 _ I1 q1) λu s2 ⟨y,H2,I2,r2,q2⟩=>aU (ho pins s2 σ H2 x y v u _ I2 r1 r2 q2) λd s3 ⟨z,H3,I3,r3,k,e,q3⟩=>?_)) hm;subst e;cases r3;refine kg ?_
 cases k with
 |false=>exact ite_ff ⟨.bl false,H3,I3,rfl,q3⟩
 |true=>exact ite_tt (chain_last (aU (hc pins s3 σ H3 _ I3 q3) λw' s4 ⟨z',H4,I4,r4,q4⟩=>ho' pins s4 σ H4 y z' u w' Q I4 r2 r4 q4))
def E2 (K:aq) (x:V) (H:Hp) (k:Bool):Prop:=
 match x with
 | .non=>k=false
 | .bl b=>k=b
 | .int i=>k=(i != 0)
 | .str y=>y.length<=cn/\k=((y.length:Int) != 0)
 | .byt y=>y.size<=cn/\k=((y.size:Int) != 0)
 | .ref p=>(∃xs,SqL K H p xs/\k=!xs.isEmpty)∨(∃xs,SqT K H p xs/\k=!xs.isEmpty)∨∃kvs,H p=some (.dK kvs)/\k=!kvs.isEmpty
 |_=>False
theorem P8 {κ:Type}{kvs:List (κ×V)}{vs:List (κ×af)}(r:KV kvs vs):(!vs.isEmpty)=!kvs.isEmpty:=by cases r <;> rfl
theorem E3 {xs:List V}{its:List af}(r:Vals xs its):(!its.toArray.isEmpty)=!xs.isEmpty:=by cases r <;> simp
theorem oD:(cn:Nat)<2 ^ 63:=by rw[jk];decide
theorem P9:PJ X (λx H Q=>∃k,E2 X.K x H k/\Q k H):=by
 intro pins s σ H x v Q I rx h;obtain⟨k,e,q⟩:=h;have hl:=oD;have hs:cn=16777216:=jk
 cases x with
 |non=>cases rx;have e':k=false:=e;subst e';exact truthy_none ⟨H,I,q⟩
 |bl b=>cases rx;have e':k=b:=e;subst e';exact kg ⟨H,I,q⟩
 |int i=>obtain⟨t,rfl⟩:=rx;have e':k=(i != 0):=e;subst e';exact PySem.P.truthy_int ⟨H,I,q⟩
 |str y=>obtain⟨t,rfl⟩:=rx;obtain⟨hy,e'⟩:y.length<=cn/\k=((y.length:Int) != 0):=e;subst e';exact PySem.P.truthy_str (by omega) ⟨H,I.tok _,q⟩
 |byt y=>obtain⟨t,rfl⟩:=rx;obtain⟨hy,e'⟩:y.size<=cn/\k=((y.size:Int) != 0):=e;subst e';exact PySem.W.truthy_bytes (by omega) ⟨H,I.tok _,q⟩
 |ref p=>
  cases rx;have e':(∃xs,SqL X.K H p xs/\k=!xs.isEmpty)∨(∃xs,SqT X.K H p xs/\k=!xs.isEmpty)∨∃kvs,H p=some (.dK kvs)/\k=!kvs.isEmpty:=e
  rcases e' with⟨xs,hx,e'⟩|⟨xs,hx,e'⟩|⟨kvs,hx,e'⟩
  ·subst e';obtain⟨its,r,pl,hz⟩:=I.list hx;have hlen:=r.length;exact wpAny_truthy_list pl.isList (by simp only[aw];omega) ⟨H,I.tok _,by rw[E3 r];exact q⟩
  ·subst e';obtain⟨its,r,pl,hz⟩:=I.tuple hx;have hlen:=r.length;exact truthy_tuple pl (by simp only[aw];omega) ⟨H,I.tok _,by rw[E3 r];exact q⟩
  ·subst e';obtain⟨hz,hS,vs,r,m⟩:kvs.length<=cn/\(p==sysModules)=false/\∃vs,KV kvs vs/\s.heap.DictOf (yL X.prog X.w) p vs:=I.hok p _ hx;have hlen:kvs.length=vs.length:=Paired.length r;exact wpAny_truthy_dict hS m (by omega) ⟨H,I.tok _,by rw[P8 r];exact q⟩
 |_=>exact(show False from e).elim
theorem QA (ha:PE X a ta) (he:∀whole,isTrue a X.env whole=(do let v <-whole;standAt a.pos;holding [v] (truthy v))):
  PT X a (λσ H Q=>ta σ H λx H'=>∃k,E2 X.K x H' k/\Q k H'):=by
 intro pins s σ H Q I h;exact isTrue_plain (aU (ha pins s σ H _ I h) λv s1 ⟨x,H1,I1,r1,q1⟩=>P9 pins s1 σ H1 x v Q I1 r1 q1) (he _)
theorem iE {x:V}{us:List af}(r:Vals [x] us):∃u,us=[u]/\RelV x u:=by
 cases r with
 |cons r1 r2=>cases r2;exact⟨_,rfl,r1⟩
theorem qB {x y:V}{us:List af}(r:Vals [x,y] us):∃u w',us=[u,w']/\RelV x u/\RelV y w':=by
 cases r with
 |cons r1 r2=>
  cases r2 with
  |cons r3 r4=>cases r4;exact⟨_,_,rfl,r1,r3⟩
theorem QB (hc:X.calm=true):CallR X (.builtin "max") (λxs H Q=>∃i j,xs=[.int i,.int j]/\Q (.int (if j>i then j else i)) H):=by
 intro pins s σ H xs us Q I r h;obtain⟨i,j,rfl,q⟩:=h;obtain⟨u,w',rfl,⟨t,rfl⟩,⟨t',rfl⟩⟩:=qB r;refine max_two_ints (I.ok.hd hc) λh' tk k=>⟨_,H,I.kept k, ?_,q⟩
 by_cases hj:j>i
 ·rw[if_pos hj,if_pos hj];exact⟨_,rfl⟩
 ·rw[if_neg hj,if_neg hj];exact⟨_,rfl⟩
theorem QC (hc:X.calm=true):CallR X (.builtin "min") (λxs H Q=>∃i j,xs=[.int i,.int j]/\Q (.int (if j<i then j else i)) H):=by
 intro pins s σ H xs us Q I r h;obtain⟨i,j,rfl,q⟩:=h;obtain⟨u,w',rfl,⟨t,rfl⟩,⟨t',rfl⟩⟩:=qB r;refine min_two_ints (I.ok.hd hc) λh' tk k=>⟨_,H,I.kept k, ?_,q⟩
 by_cases hj:j<i
 ·rw[if_pos hj,if_pos hj];exact⟨_,rfl⟩
 ·rw[if_neg hj,if_neg hj];exact⟨_,rfl⟩
end
section
variable{prog:bj}{w:cq}{A:cu}{E:af->ag->Prop}{s:ag}{K:aq}{x dx C f:ah}{mA:Str->Option af}{name:Str}{v:af}
end
section
variable{P:bj}{w:cq}{H H':Hp}{h h':cw}{a C dx:ah}{fs fs':List (Str×V)}
end
section
variable{X:Cx}{pins:List (ah×Obj)}{σ:St}{H:Hp}{s:ag}{a C dx:ah}{fs:List (Str×V)}{f:Str}{v:V}{A:cu}{E:af->ag->Prop}
end
section
variable{X:Cx}{o e value:bp}{f:Str}{pos pos' tpos:Pos}{ta tv:TE}
end
section
variable{X:Cx}{pins:List (ah×Obj)}{σ:St}{H:Hp}{s:ag}{A:cu}{E:af->ag->Prop}{Q:af->ag->Prop}{c:af}{b:Bool}
end
structure Room (k:Nat) (A:cu):Prop where
 hd:A.handled=none
 dp:A.depth+3*k+5<recursionLimit
 un:A.units+16*k+200<cLine
theorem Room.mono {j k:Nat}{A:cu}(r:Room k A) (h:j<=k):Room j A:=⟨r.hd,by have:=r.dp;omega,by have:=r.un;omega⟩
theorem Room.deeper {k:Nat}{A:cu}(r:Room (k+1) A) (env:Env):Room k (A.deeper env):=⟨r.hd,by have:=r.dp;show A.depth+1+3*k+5<_;omega,by have:=r.un;show A.units+3+16*k+200<_;omega⟩
theorem Room.depth {k:Nat}{A:cu}(r:Room k A):A.depth<recursionLimit:=by have:=r.dp;omega
theorem Room.units {k:Nat}{A:cu}(r:Room k A):A.units+64<cLine:=by have:=r.un;omega
def E4:TA:=λ_ H Q=>Q [] H
def E5 (ta:TE) (tr:TA):TA:=λσ H Q=>ta σ H λx H1=>tr σ H1 λxs H2=>Q (x::xs) H2
section
variable{X:Cx}{e:bp}{es:List bp}{te:TE}{t:TA}{pos:Pos}
theorem jN:PA X [] E4:=λ_ _ _ _ H Q I h=>Calls.spliced_nil ⟨[],H,I,.nil,h⟩
theorem gY (ha:PE X e te) (hr:PA X es t) (hs:au (e::es) X.env=(false,eval e X.env)::au es X.env:=by rfl):PA X (e::es) (E5 te t):=by intro pos pins s σ H Q I h;rw[hs];show wpAny _ _ (spliced ((false,eval e X.env)::backTo pos (au es X.env))) _ _ s;refine Calls.spliced_cons (aU (ha pins s σ H _ I h) λu s1 ⟨x,H1,I1,r1,q1⟩=>?_);exact aU (hr pos pins s1 σ H1 _ I1 q1) λus s2 ⟨xs,H2,I2,r2,q2⟩=>⟨x::xs,H2,I2,.cons r1 r2,q2⟩
def QD (t:TA):TE:=λσ H Q=>t σ H λxs H1=>xs.length<=cn/\∀p,H1 p=none->Q (.ref p) (aM H1 p (.tup xs))
def QE (t:TA):TE:=λσ H Q=>t σ H λxs H1=>xs.length<=cn/\∀p,H1 p=none->Q (.ref p) (aM H1 p (.lst xs))
theorem E6 {x1} (h:PA X es t):PE X (.Tuple es x1 pos) (QD t):=by intro pins s σ H Q I hq;refine wpAny_Tuple_spliced (aU (h pos pins s σ H _ I hq) λus s1 ⟨xs,H1,I1,r,z,q⟩=>⟨by rw[<-r.length];exact z, ?_⟩);have hf:H1 s1.heap.objs.size=none:=I1.hok.fresh (ak _);refine⟨.ref s1.heap.objs.size,aM H1 s1.heap.objs.size (.tup xs),I1.laid (t':=s1.toks) (λb u e=>aj _ e) (ak _) ?_,rfl,q _ hf⟩;exact⟨z,us,r,⟨_,ay _ rfl,rfl,rfl,_,rfl⟩⟩
theorem QF (h:PA X es t):PE X (.List es pos) (QE t):=by intro pins s σ H Q I hq;refine wpAny_List_spliced (aU (h pos pins s σ H _ I hq) λus s1 ⟨xs,H1,I1,r,z,q⟩=>⟨by rw[<-r.length];exact z, ?_⟩);have hf:H1 s1.heap.objs.size=none:=I1.hok.fresh (ak _);refine⟨.ref s1.heap.objs.size,aM H1 s1.heap.objs.size (.lst xs),I1.laid (t':=s1.toks) (λb u e=>aj _ e) (ak _) ?_,rfl,q _ hf⟩;exact⟨z,us,0,r,ay _ rfl⟩
end
abbrev Sp:=List V->Hp->VK->XK->Prop
abbrev kW:=List Env->Hp->ag->XK->af->ag->Prop
structure Env0 (P:bj) (w:cq) (K:aq) (mg:Str->Option af) (base:cw) (A:cu) (outer:List Env) (s:ag) (H:Hp):Prop where
 frames:A.frames=some outer
 mod:Mod K mg base
 bs:∀b o,base.get? b=some o->s.heap.get? b=some o/\H b=none
 bsz:base.objs.size<=s.heap.objs.size
 funs:s.heap.FunFrames base outer
 frf:∀b∈cH outer,H b=none
 hok:HOk P w H s.heap
 bare:qr s.gens
def CE (outer:List Env) (P:bj) (w:cq) (H:Hp) (s:ag) (Q:VK) (u:af) (s':ag):Prop:=∃v H',s'.os=s.os/\qr s'.gens/\Un (cH outer) [] H H' s.heap s'.heap/\HOk P w H' s'.heap/\RelV v u/\Q v H'
def CR (CX:kW) (outer:List Env) (P:bj) (w:cq) (H:Hp) (s:ag) (Q:VK) (E:XK) (r:xw) (s':ag):Prop:=
 match r with
 | .ok (.ret u)=>CE outer P w H s Q u s'
 | .ok _=>False
 | .error e=>CX outer H s E e s'
structure FnOk (P:bj) (w:cq) (K:aq) (mg:Str->Option af) (base:cw) (CX:kW) (k:Nat) (f:ah) (fd:bu) (ps:List Str) (sp:Sp):Prop where
 len:∀vs H Q E,sp vs H Q E->vs.length=ps.length
 run:∀(A:cu) (outer:List Env) (s:ag) (H:Hp) (args:Args) (us:List af) (vs:List V) (Q:VK) (E:XK),Room k A->Env0 P w K mg base A outer s H->BindsTo s fd args (ps.zip us)->Vals vs us->sp vs H Q E->
  codeAny (model P w) A (.call (.ref f) args) (CR CX outer P w H s Q E) s
section
variable{X:Cx}{pins:List (ah×Obj)}{σ:St}{H:Hp}{s s':ag}
theorem Inv.env0 (I:Inv X pins σ H s):Env0 X.prog X.w X.K X.mg X.base X.A X.stack s H:=⟨I.ok.frames,I.ok.mod,I.bs,dk I.ok.bsz I.sz,I.stack,I.stkFree,I.hok,I.bare⟩
theorem Inv.after {Q:VK}{u:af}(I:Inv X pins σ H s) (h:CE X.stack X.prog X.w H s Q u s'):EP X pins σ Q u s':=by obtain⟨v,H',os,bare,un,hok,r,q⟩:=h;obtain⟨hh,g,d,t,os'⟩:=s';obtain rfl:os'=s.os:=os;exact⟨v,H',I.call (h':=hh) (g':=g) (d':=d) (t':=t) (ch:=[]) un hok bare (λb z=>absurd z (by simp)),r,q⟩
end
def QG (sp:Sp) (dvs:List V) (E:XK) (t:TA):TE:=λσ H Q=>t σ H λvs H1=>sp (vs++dvs) H1 Q E
def Binds (K:aq) (fd:bu) (ps:List Str) (ds:List af):Prop:=∀(s:ag) (us:List af),K.In s.heap->(us++ds).length=ps.length->BindsTo s fd ⟨us,[]⟩ (ps.zip (us++ds))
theorem Binds.all {K:aq}{fd:bu}{ps:List Str}(h:∀us:List af,us.length=ps.length->bindArgs fd ⟨us,[]⟩=pure (ps.zip us)):Binds K fd ps []:=λs us _ hl=>by rw[jg]at hl ⊢;exact .of_eq (h us hl)
def qC (CX:kW) (X:Cx) (E:XK):Prop:=∀(pins:List (ah×Obj)) (σ:St) (H:Hp) (s:ag) (e:af) (s':ag),Inv X pins σ H s->CX X.stack H s E e s'->X.xe e s'
section
variable{X:Cx}{CX:kW}{k:Nat}{f C:ah}{fd:bu}{ps:List Str}{sp:Sp}{dvs:List V}{ds:List af}{E:XK}{x m:Str}{p pos apos:Pos}{e o:bp}{es:List bp}{ta:TE}{t:TA}
theorem QH {pins:List (ah×Obj)}{σ:St}{H:Hp}{s:ag}{Q:VK}{us:List af}{vs:List V}(F:FnOk X.prog X.w X.K X.mg X.base CX k f fd ps sp) (hr:Room k X.A) (hb:Binds X.K fd ps ds) (hd:Vals dvs ds) (hx:qC CX X E)
  (I:Inv X pins σ H s) (r:Vals vs us) (h:sp (vs++dvs) H Q E):wpAny (model X.prog X.w) X.A (call (.ref f) us) (EP X pins σ Q) X.xe s:=by
 have r2:Vals (vs++dvs) (us++ds):=r.append hd;have hl:(us++ds).length=ps.length:=by rw[<-r2.length];exact F.len _ _ _ _ h
 refine Ac (mq (F.run X.A X.stack s H ⟨us,[]⟩ (us++ds) (vs++dvs) Q E hr I.env0 (hb s us I.kIn hl) r2 h) λr s' hq=>?_)
 cases r with
 |error e=>exact hx pins σ H s e s' I hq
 |ok fl=>
  cases fl with
  |ret u=>exact I.after hq
  |next=>exact gj hq
  |brk=>exact gj hq
  |cont=>exact gj hq
theorem E7 (F:FnOk X.prog X.w X.K X.mg X.base CX k f fd ps sp) (hr:Room k X.A) (hg:Gl X x) (hm:X.mg x=some (.ref f)) (hk:jv X.K (.ref f)=true) (hb:Binds X.K fd ps ds) (hd:Vals dvs ds) (hx:qC CX X E)
  (ha:PA X (e::es) t) (hdb:(x==("__debug__" : Str))=false:=by decide) (he:au (e::es) X.env=(false,eval e X.env)::au es X.env:=by rfl) (hpl:(backTo pos (au es X.env)).any (·.1)=false:=by rfl):
  PE X (.Call (.Name x p) (e::es) [] pos) (QG sp dvs E t):=by
 intro pins s σ H Q I h;refine ll (pX I hg hm ?_ hdb);refine Ae (h₀:=X.base) I.ok.mod.kin hk (aU (ha pos pins s σ H _ I h) λus s1 ⟨vs,H1,I1,r,q⟩=>⟨I1.kIn, ?_⟩) he hpl;exact QH F hr hb hd hx I1 r q
end
section
variable{X:Cx}{CX:kW}{k:Nat}{f C:ah}{fd:bu}{ps ks:List Str}{sp:Sp}{E:XK}{x m:Str}{p pos apos kpos:Pos}{e o:bp}{es:List bp}{kws:List Keyword}{te ta:TE}{t tk:TA}{nm:Option Str}
variable{g:List af->List af->List af}{gV:List V->List V->List V}
end
structure FnScope (N P:List Str) (sc:gh):Prop where
 kind:sc.kind=.function
 co:sc.isCoroutine=false
 gen:sc.isGenerator=false
 nd:N.Nodup
 pre:N.take P.length=P
 par:∀x∈P,sc.names.lookup x=some .local∨sc.names.lookup x=some .cell
 nofree:∀y∈sc.names,y.2≠.free
theorem E8 {kindOf:Str->Option jr}{x:Str}:∀{binds:List (Str×af)}{m:Str->Option af},(∀v,(x,v)∉binds)->bindL kindOf binds m x=m x
 | [],_,_=>rfl
 |(n,v)::r,m,h=>by
  unfold bindL;rw[E8 λw hw=>h w (av _ hw)]
  split
  ·have:x≠n:=by rintro rfl;exact h v bh
   simp[this]
  ·rfl
theorem E9 {kindOf:Str->Option jr}{x:Str}:∀{binds:List (Str×af)}{m:Str->Option af},(∀v,(x,v)∉binds)->bindC kindOf binds m x=m x
 | [],_,_=>rfl
 |(n,v)::r,m,h=>by
  unfold bindC;rw[E9 λw hw=>h w (av _ hw)]
  split
  ·rfl
  ·have:x≠n:=by rintro rfl;exact h v bh
   simp[this]
theorem FA {kindOf:Str->Option jr}{x:Str}{v:af}:∀{P:List Str}{vs:List af}{i:Nat}{m:Str->Option af},P.Nodup->P[i]?=some x->vs[i]?=some v->kindOf x=some .local->
  bindL kindOf (P.zip vs) m x=some v
 | [],_,_,_,_,h,_,_=>by simp at h
 |_::_,[],_,_,_,_,h,_=>by simp at h
 |p::P,w::vs,0,m,nd,h1,h2,hk=>by simp at h1 h2;subst h1;subst h2;show bindL kindOf ((p,w)::P.zip vs) m p=_;unfold bindL;rw[E8 λv hv=>(js.mp nd).1 (vm hv).1,if_pos hk];simp
 |p::P,w::vs,i+1,m,nd,h1,h2,hk=>by show bindL kindOf ((p,w)::P.zip vs) m x=_;unfold bindL;exact FA (i:=i) (js.mp nd).2 (by simpa using h1) (by simpa using h2) hk
theorem FC {kindOf:Str->Option jr}{x:Str}{v:af}:∀{P:List Str}{vs:List af}{i:Nat}{m:Str->Option af},P.Nodup->P[i]?=some x->vs[i]?=some v->kindOf x≠some .local->
  bindC kindOf (P.zip vs) m x=some v
 | [],_,_,_,_,h,_,_=>by simp at h
 |_::_,[],_,_,_,_,h,_=>by simp at h
 |p::P,w::vs,0,m,nd,h1,h2,hk=>by simp at h1 h2;subst h1;subst h2;show bindC kindOf ((p,w)::P.zip vs) m p=_;unfold bindC;rw[E9 λv hv=>(js.mp nd).1 (vm hv).1,if_neg hk];simp
 |p::P,w::vs,i+1,m,nd,h1,h2,hk=>by show bindC kindOf ((p,w)::P.zip vs) m x=_;unfold bindC;exact FC (i:=i) (js.mp nd).2 (by simpa using h1) (by simpa using h2) hk
def start (N:List Str) (vs:List V):St:=vs.map some++ax (N.length - vs.length) none
def eE (CX:kW) (P:bj) (w:cq) (K:aq) (mg:Str->Option af) (base:cw) (N:List Str) (qual:Str) (scope:gh) (f:ah) (cd:af) (A:cu) (outer:List Env) (s:ag) (H:Hp) (E:XK):Cx where
 prog:=P
 w:=w
 K:=K
 mg:=mg
 base:=base
 A:=A.deeper (envOfC qual scope s.heap.objs.size f cd)
 N:=N
 s₀:=s
 H₀:=H
 env:=envOfC qual scope s.heap.objs.size f cd
 outer:=outer
 stack:=envOfC qual scope s.heap.objs.size f cd::outer
 ex:=[]
 calm:=true
 fn:=λ_=>true
 pn:=[]
 xe:=λe s'=>wpAny (model P w) (A.deeper (envOfC qual scope s.heap.objs.size f cd)) (leaving (envOfC qual scope s.heap.objs.size f cd) e) (λ_ s''=>CX outer H s E e s'') (λe' s''=>CX outer H s E e' s'') s'
theorem FD {sc:gh}{n:Nat}{x:Str}(h:sc.names.lookup x=some .cell):∃c,(cellsFrom n sc.names []).lookup x=some c:=by have q:=ya sc.names n [] (.inl h);exact wm.mp q
theorem QI {CX:kW}{P:bj}{w:cq}{K:aq}{mg:Str->Option af}{base:cw}{N ps:List Str}{qual:Str}{scope:gh}{f:ah}{cd:af}{A:cu}{outer:List Env}{s s1:ag}{H:Hp}{E:XK}{us:List af}{vs:List V}
  (S:FnScope N ps scope) (hd:A.handled=none) (e0:Env0 P w K mg base A outer s H) (hl:vs.length=ps.length) (r:Vals vs us)
  (x:InCallC s s.heap.objs.size (bindL (envOfC qual scope s.heap.objs.size f cd).kindOf (ps.zip us) λ_=>none) (cellsFrom (s.heap.objs.size+1) scope.names []) (bindC (envOfC qual scope s.heap.objs.size f cd).kindOf (ps.zip us) λ_=>none) s1):
  Inv (eE CX P w K mg base N qual scope f cd A outer s H E) [] (start N vs) H s1:=by
 have hpl:ps.length<=N.length:=by have:=congrArg pf S.pre;rw[jm]at this;omega
 obtain⟨h1,tk,rfl,hk⟩:=x.done;have noA:∀b:ah,b∉(eE CX P w K mg base N qual scope f cd A outer s H E).ex:=λb z=>absurd (show b∈([]:List ah) from z) (by simp);refine⟨⟨e0.mod,S.kind,rfl,rfl,ak _,λy z c h1 h2=>?_,λy hy=>?_,λy c _ h=>?_,λ_=>hd,zv e0.frames,.inr ⟨rfl,rfl⟩,λb z=>absurd z (noA b),e0.bs,e0.bsz,λb _ _=>noA b,λb z=>absurd z (noA b),e0.funs,e0.frf⟩,
  rfl,e0.bare,Un.kept hk,⟨_,x.toInCall.ns,λi y v h1 h2 h3=>?_⟩,λy c h=>⟨_,x.cell y c h⟩,e0.hok.fresh (ak _),λy c h=>?_,λp hp=>absurd (show p∈([]:List (ah×Obj)) from hp) (by simp),e0.hok.kept hk, ?_⟩
 ·exact name_of_addr x.apart (ff h1) (ff h2)
 ·have hy:scope.names.lookup y=some .cell∨scope.names.lookup y=some .free:=hy
  rcases hy with hy|hy
  ·exact FD hy
  ·exact absurd rfl (S.nofree _ (ff hy))
 ·exact gr (x.above y c (ff h))
 ·have hi:i<vs.length:=by
   unfold start at h2
   by_cases hi:i<vs.length
   ·exact hi
   ·rw[gb (by simpa using hi)]at h2;rw[qh]at h2
    split at h2 <;> cases h2
  have ha:vs[i]?=some v:=by
   unfold start at h2;rw[ed (by simpa using hi),du]at h2
   cases e:vs[i]? with
   |none=>rw[e]at h2;cases h2
   |some a=>rw[e]at h2;cases h2;rfl
  obtain⟨u,hu,rv⟩:=r.get ha;have hp:ps[i]?=some y:=by rw[<-S.pre,zd (by omega)];exact h1
  have ndP:ps.Nodup:=by rw[<-S.pre];exact S.nd.sublist (List.take_sublist _ _)
  refine⟨u,rv, ?_⟩
  rcases S.par y (bx hp)with k|k
  ·exact .inl ⟨k,FA ndP hp hu k⟩
  ·obtain⟨c,e⟩:=FD (n:=s.heap.objs.size+1) k;refine .inr ⟨.inl k,c,e, ?_⟩;have q:=x.cell y c e;rw[FC ndP hp hu (by show scope.names.lookup y≠_;rw[k];decide)]at q;exact q
 ·exact e0.hok.fresh (gr (x.above y c (ff h)))
 ·unfold start;show _=N.length;rw[cm,br,List.length_replicate];omega
theorem tW {CX:kW}{P:bj}{w:cq}{K:aq}{mg:Str->Option af}{base:cw}{k:Nat}{f:ah}{name qual:Str}{params:kd}{body:List gp}{scope:gh}{dV kV doc pm cdv ct oc:af}{an od:Option ah}
  {osl:Array (Option af)}{N ps:List Str}{sp:Sp}(lk:K.lookup f=some ⟨oc,od,.func (nh name qual params body scope dV kV doc pm an cdv ct),osl⟩) (hcd:vg K cdv qual=true) (S:FnScope N ps scope)
  (len:∀vs H Q E,sp vs H Q E->vs.length=ps.length)
  (hbody:∀(A:cu) (outer:List Env) (s:ag) (H:Hp) (vs:List V) (Q:VK) (E:XK),Room k (A.deeper (envOfC qual scope s.heap.objs.size f cdv))->sp vs H Q E->
   ∃t,PSs (eE CX P w K mg base N qual scope f cdv A outer s H E) body t/\t { nx:=λ_ H'=>Q .non H',rt:=Q } (start N vs) H):
  FnOk P w K mg base CX (k+1) f (nh name qual params body scope dV kV doc pm an cdv ct) ps sp:=by
 refine⟨len,λA outer s H args us vs Q E hr e0 hb r hsp=>?_⟩;have hl:=len _ _ _ _ hsp;have KX:K.In s.heap:=e0.mod.kin.keeps λb o e=>(e0.bs b o e).1;have lim:s.heap.NoLimit:=e0.mod.nolimit.keeps λb o e=>(e0.bs b o e).1;have hkind:∀y∈ps.zip us,scope.names.lookup y.1=some .local∨(scope.names.lookup y.1=some .cell/\((cellsFrom (s.heap.objs.size+1) scope.names []).lookup y.1).isSome=true):=λ⟨n,v⟩ hy=>by
  rcases S.par n (vm hy).1 with q|q
  ·exact .inl q
  ·exact .inr ⟨q,ya _ _ _ (.inl q)⟩
 refine codeAny_call_function hr.depth (KX _ _ lk) rfl S.co S.gen rfl (PySem.W.codeRec_of KX hcd) (hb _ _ _ _ ?_);refine wpAny_newFunctionEnv_cells S.kind hkind λenv he s1 x=>?_;subst he;refine⟨lim.keeps x.toInCall.keep,codeAny_func ?_⟩;obtain⟨t,ht,hq⟩:=hbody A outer s H vs Q E (hr.deeper _) hsp;have I:Inv (eE CX P w K mg base N qual scope f cdv A outer s H E) [] (start N vs) H s1:=QI S hr.hd e0 hl r x;refine jn (ht [] s1 (start N vs) H _ I hq) (λfl s' hs=>?_) λe s' hs=>hs;have fin:∀{σ':St}{H':Hp}{v:V}{u:af},Inv (eE CX P w K mg base N qual scope f cdv A outer s H E) [] σ' H' s'->RelV v u->Q v H'->CE outer P w H s Q u s':=λ{σ' H' v u} J rv q=>⟨v,H',J.os,J.bare,J.base,J.hok,rv,q⟩
 cases fl with
 |ret u=>obtain⟨v,σ',H',J,rv,q⟩:=hs;exact fin J rv q
 |next=>obtain⟨σ',H',J,q⟩:=hs;exact fin (v:=V.non) (u:=je) J rfl q
 |brk=>obtain⟨_,_,_,q⟩:=hs;exact gj q
 |cont=>obtain⟨_,_,_,q⟩:=hs;exact gj q
section
variable{X:Cx}{x:Str}{p pos:Pos}{e:bp}{es:List bp}{t:TA}{id T:String}{r:List V->Hp->VK->Prop}
def tX (r:List V->Hp->VK->Prop) (t:TA):TE:=λσ H Q=>t σ H λvs H1=>r vs H1 Q
theorem qD (hc:CallR X (.builtin id) r) (hg:Gl X x) (hm:X.mg x=none) (hv:dh x=some (.builtin id)) (ha:PA X (e::es) t) (hn:x ≠ "__name__" := by decide) (hdb:(x==("__debug__" : Str))=false:=by decide)
  (he:au (e::es) X.env=(false,eval e X.env)::au es X.env:=by rfl) (hpl:(backTo pos (au es X.env)).any (·.1)=false:=by rfl):PE X (.Call (.Name x p) (e::es) [] pos) (tX r t):=by
 intro pins s σ H Q I h;refine ll (mS I hg hm hv ?_ hn hdb);exact PyProof.Rows.callWith_builtin1 (aU (ha pos pins s σ H _ I h) λus s1 ⟨vs,H1,I1,r1,q1⟩=>hc pins s1 σ H1 vs us Q I1 r1 q1) he hpl
theorem tY (hc:CallR X (.type T) r) (hg:Gl X x) (hm:X.mg x=none) (hv:dh x=some (.type T)) (ha:PA X (e::es) t) (hn:x ≠ "__name__" := by decide) (hdb:(x==("__debug__" : Str))=false:=by decide)
  (he:au (e::es) X.env=(false,eval e X.env)::au es X.env:=by rfl) (hpl:(backTo pos (au es X.env)).any (·.1)=false:=by rfl):PE X (.Call (.Name x p) (e::es) [] pos) (tX r t):=by
 intro pins s σ H Q I h;refine ll (mS I hg hm hv ?_ hn hdb);exact ik (aU (ha pos pins s σ H _ I h) λus s1 ⟨vs,H1,I1,r1,q1⟩=>hc pins s1 σ H1 vs us Q I1 r1 q1) he hpl
end
end L2
namespace HT
open PySem PyProof.Rows
def lexLt:List Int->List Int->Bool
 | [],[]=>false
 | [],_::_=>true
 |_::_,[]=>false
 |x::xs,y::ys=>if x=y then lexLt xs ys else decide (x<y)
theorem lexLt_cons (x y:Int) (xs ys:List Int):lexLt (x::xs) (y::ys)=if x=y then lexLt xs ys else decide (x<y):=rfl
theorem QJ:lexLt [] []=false:=rfl
theorem QK (y:Int) (ys:List Int):lexLt [] (y::ys)=true:=rfl
theorem QL (x:Int) (xs:List Int):lexLt (x::xs) []=false:=rfl
theorem QM (A:cu) (s:ag) (a:Int) (t:Tok) (c:Int) (u:Tok):∃e,tq A s (.int a t) (.int c u) e/\(e=true↔a=c):=⟨(a==c),rp a t c u,by simp⟩
theorem QN (A:cu) (s:ag) (a:Int) (t:Tok) (c:Int) (u:Tok) (prog:bj) (w:cq) (E:af->ag->Prop) (Q:af->ag->Prop) (h:Q (.bool (decide (a<c))) s):
  wpAny (model prog w) A (richCompare .Lt (.int a t) (.int c u)) Q E s:=
 (vv h:wpAny (model prog w) A (compareOp .Lt (.int a t) (.int c u)) Q E s)
section
open PySem.SeqAt
open PySem.AutoSeq1 (wpAny_loadPart')
open PySem.MeetsSeq PySem.MeetsSeq2 PySem.MeetsSeq3
theorem QO (l b:ah) (items items2:Array af) (n n2:Nat) (dd dd2:Option ah) (sl sl2:Array (Option af)) (ns ms:List Int) (hi:lb items.toList ns) (hj:lb items2.toList ms):
  Meets (lg.«tuple.__lt__» ⟨[.ref l,.ref b],[]⟩)
   (λ_ R s=>s.heap.get? l=some { cls:=.type "tuple",dict:=dd,data:=.seq items n,slots:=sl }/\s.heap.get? b=some { cls:=.type "tuple",dict:=dd2,data:=.seq items2 n2,slots:=sl2 } /\
    R (.ok (.ret (.bool (lexLt ns ms)))) s):=
 .of_wp λprog w A R s h=>by
  obtain⟨hp,g,d,tk,os⟩:=s;obtain⟨hl,hb,h⟩:=h;have f2:=AutoSeq1.sub_tuple_tuple;have z1:items.size=ns.length:=by rw[<-hi.length];simp
  have z2:items2.size=ms.length:=by rw[<-hj.length];simp
  wp_walk using wpAny_loadPart' hl,wpAny_loadPart' hb,sd _ (λrest b s'=>b.1=none/\s'=⟨hp,g,d,tk,os⟩/\∃(vs ws:List af) (ns' ms':List Int),rest=vs.zip ws /\
   lb vs ns'/\lb ws ms'/\ns'.length+items2.size=ms'.length+items.size/\R (.ok (.ret (.bool (lexLt ns' ms')))) ⟨hp,g,d,tk,os⟩) _
  case turn=>
   rintro ⟨y,x⟩ rest b s' ⟨hb',rfl,vs,ws,ns',ms',hz,hvi,hwi,hlen,hR⟩
   cases hvi with
   |nil=>rw[List.zip_nil_left]at hz;cases hz
   |cons a t hvi'=>
    cases hwi with
    |nil=>rw[List.zip_nil_right]at hz;cases hz
    |cons c u hwi'=>
     rw[List.zip_cons_cons]at hz;injection hz with hyx hrest;injection hyx with hy hx;subst hy hx;rw[lexLt_cons]at hR;simp only[cf]at hlen;obtain⟨e,he,hiff⟩:=QM A.in1 ⟨hp,g,d,tk,os⟩ a t c u;refine aa (he prog w _ _ ?_)
     cases e with
     |true=>
      rw[if_pos (hiff.mp rfl)]at hR
      wp_walk
      exact⟨rfl,rfl,_,_,_,_,hrest,hvi',hwi',by omega,hR⟩
     |false=>
      rw[if_neg (λq=>absurd (hiff.mpr q) fz)]at hR;have hri:=QN A.in1 ⟨hp,g,d,tk,os⟩ a t c u prog w
      wp_walk using hri
      exact⟨_,rfl,by simpa using hR⟩
  case fin=>
   rintro ⟨b1,b2⟩ s' ⟨hb',rfl,vs,ws,ns',ms',hz,hvi,hwi,hlen,hR⟩
   simp only at hb';subst hb';have hv:lexLt ns' ms'=decide (items.size<items2.size):=by
    cases hvi with
    |nil=>
     cases hwi with
     |nil=>simp only[ni]at hlen;rw[QJ];exact(decide_eq_false (by omega)).symm
     |cons c u hw=>simp only[ni,cf]at hlen;rw[QK];exact(decide_eq_true (by omega)).symm
    |cons a t hv=>
     cases hwi with
     |nil=>simp only[ni,cf]at hlen;rw[QL];exact(decide_eq_false (by omega)).symm
     |cons c u hw=>rw[List.zip_cons_cons]at hz;cases hz
   rw[hv]at hR
   wp_walk
   exact⟨_,rfl,by simpa[Builtin.Tuple.tupleCompareSizes]using hR⟩
  case h=>exact⟨rfl,rfl,items.toList,items2.toList,ns,ms,rfl,hi,hj,by omega,h⟩
end
section
variable{prog:bj}{w:cq}{A:cu}{E:af->ag->Prop}{s:ag}
theorem lt_tupInts {l b:ah}{items items2:Array af}{ns ms:List Int}{Q:af->ag->Prop}(hl:IsTup s.heap l items) (hb:IsTup s.heap b items2) (hi:lb items.toList ns) (hj:lb items2.toList ms)
  (hu:A.units<cLine) (h:Q (.bool (lexLt ns ms)) s):wpAny (model prog w) A (compareOp .Lt (.ref l) (.ref b)) Q E s:=by
 obtain⟨⟨cls,dd,data,sl⟩,ho,hc,n,hd⟩:=id hl;obtain⟨⟨cls2,dd2,data2,sl2⟩,ho2,hc2,n2,hd2⟩:=id hb;simp only at hc hd hc2 hd2;subst hc hd hc2 hd2;exact richCompare_meets_room (op:=.Lt) ⟨_,ho,rfl⟩ ⟨_,ho2,rfl⟩ PySem.F.slot_tuple_lt PySem.F.entry_tuple_lt (PySem.F.args_tuple_lt_2 _ _) (QO l b items items2 n n2 dd dd2 sl sl2 ns ms hi hj)
  ⟨ho,ho2,show tj (lexLt ns ms)≠Value.notImplemented/\Q (.bool (lexLt ns ms)) s from⟨(λx=>nomatch x),h⟩⟩ hu
theorem cat_tup {t b:ah}{vs ws:List af}{Q:af->ag->Prop}(ht:IsTup s.heap t vs.toArray) (hb:IsTup s.heap b ws.toArray) (hv:vs≠[])
  (h1:ws=[]->Q (.ref t) s) (h2:ws≠[]->Q (.ref s.heap.objs.size) { s with heap:=s.heap.push { cls:=.type "tuple",data:=.seq (vs++ws).toArray } })
  (hsz:vs.length+ws.length<=cn):wpAny (model prog w) A (binaryOp .Add (.ref t) (.ref b)) Q E s:=by
 obtain⟨⟨cls,dd,data,sl⟩,ho,hc,n,hd⟩:=id ht;obtain⟨⟨cls2,dd2,data2,sl2⟩,ho2,hc2,n2,hd2⟩:=id hb;simp only at hc hd hc2 hd2;subst hc hd hc2 hd2;have e:vs.toArray++ws.toArray=(vs++ws).toArray:=by simp
 by_cases hw:ws=[]
 ·exact concat_meets ⟨_,ho,rfl⟩ ⟨_,ho2,rfl⟩ yb Ax qf pg (oq _ _)
   (tuple_addW1 t b vs.toArray ws.toArray n n2 dd dd2 sl sl2 (by simpa using hv) (by simp[hw])) ⟨ho,ho2,h1 hw⟩
 ·refine concat_meets ⟨_,ho,rfl⟩ ⟨_,ho2,rfl⟩ yb Ax qf pg (oq _ _)
   (tuple_addW2 t b vs.toArray ws.toArray n n2 dd dd2 sl sl2 (by simpa using hv) (by simpa using hw) (by rw[aw,aw];exact hsz)) ⟨ho,ho2, ?_⟩
  rw[e];exact h2 hw
def sIx (n d:Nat):Option Int->Nat
 |none=>d
 |some v=>if v<0 then(v+(n:Int)).toNat else min v.toNat n
theorem sIx_none (n d:Nat):sIx n d none=d:=rfl
theorem sIx_nat (n d k:Nat):sIx n d (some (k:Int))=min k n:=by show(if(k:Int)<0 then((k:Int)+(n:Int)).toNat else min (k:Int).toNat n)=min k n;rw[if_neg (by omega),ey]
theorem QP (n d:Nat) (hd:d<=n) (o:Option Int):sIx n d o<=n:=by
 cases o with
 |none=>exact hd
 |some v=>
  show(if v<0 then(v+(n:Int)).toNat else min v.toNat n)<=n
  by_cases hv:v<0
  ·rw[if_pos hv];omega
  ·rw[if_neg hv];exact Nat.min_le_right _ _
theorem FE (v:Int) (n d:Nat):(if v<0 then max (v+(n:Int)) 0 else min v (n:Int))=((sIx n d (some v):Nat):Int):=by
 show(if v<0 then max (v+(n:Int)) 0 else min v (n:Int))=(((if v<0 then(v+(n:Int)).toNat else min v.toNat n):Nat):Int)
 by_cases hv:v<0
 ·simp only[if_pos hv];omega
 ·simp only[if_neg hv];omega
theorem QQ (lo hi:Option Int) (n:Nat):mr lo hi 1 (n:Int)=(((sIx n 0 lo:Nat):Int),((sIx n n hi:Nat):Int)):=by
 have h1:¬ ((1:Int)<0):=by omega
 unfold mr;simp only[h1,if_false];refine Ao ?_ ?_
 ·cases lo with
  |none=>rfl
  |some v=>exact FE v n 0
 ·cases hi with
  |none=>rfl
  |some v=>exact FE v n n
theorem QR (i j:Nat):jt (i:Int) (j:Int) 1=j - i:=by
 unfold jt;have h1:(1:Int)>0:=by omega
 simp only[h1,if_true,Int.ediv_one]
 split <;> omega
theorem FF {v:af}{o:Option Int}{Q:Option Int->ag->Prop}(p:ud v o) (h:Q o s):wpAny (model prog w) A (Builtin.Slice.slicePartIndex v) Q E s:=by
 cases p with
 |none=>exact slicePart_none h
 |int i t=>exact slicePart_int h
theorem sliceApplied_gen {sl:ah}{vl vu:af}{lo hi:Option Int}{n:Nat}{Q:Int×Int×Nat->ag->Prop}(hs:s.heap.IsSliceOf sl vl vu .none) (pl:ud vl lo) (pu:ud vu hi)
  (h:Q (((sIx n 0 lo:Nat):Int),1,sIx n n hi - sIx n 0 lo) s):wpAny (model prog w) A (tu (.ref sl) (pure (n:Int))) Q E s:=by
 obtain⟨os,hos,hcs,hds⟩:=id hs;unfold tu Builtin.Slice.sliceFields;refine aa (aa (di hos hds (x:=vl) rfl (aa (di hos hds (x:=vu) rfl (aa (di hos hds (x:=.none) rfl (ai ?_)))))));refine aa (slicePart_none ?_);show wpAny _ _ (if((1:Int)==0)=true then _ else _) _ _ s;rw[if_neg (by decide)];refine aa (FF pl (aa (FF pu (aa (ai ?_)))));show wpAny _ _ (match mr lo hi 1 (n:Int)with|(lo,hi)=>pure (lo,(1:Int),jt lo hi 1)) _ _ s;rw[QQ lo hi n];show wpAny _ _ (pure (((sIx n 0 lo:Nat):Int),(1:Int),jt ((sIx n 0 lo:Nat):Int) ((sIx n n hi:Nat):Int) 1)) _ _ s;rw[QR];exact ai h
theorem QS (xs:Array af) (i k:Nat):((bf k).filterMap λ(m:Nat)=>xs[((i:Int)+(m:Int)*1).toNat]?).toArray=((xs.toList.drop i).take k).toArray:=by
 have e:(λ(m:Nat)=>xs[((i:Int)+(m:Int)*1).toNat]?)=λm=>xs[i+m]?:=by
  funext m
  have:((i:Int)+(m:Int)*1).toNat=i+m:=by omega
  rw[this]
 rw[e];have:=pick_run xs i k;rw[List.filterMap_map]at this;have e2:((λx=>xs[x]?)∘λx=>i+x)=λm=>xs[i+m]?:=rfl;rw[e2]at this;rw[this]
theorem getItem_tuple_cut {t sl:ah}{items:Array af}{vl vu:af}{lo hi:Option Int}{Q:af->ag->Prop}(ht:IsTup s.heap t items) (hs:s.heap.IsSliceOf sl vl vu .none) (pl:ud vl lo) (pu:ud vu hi)
  (hw:¬ (sIx items.size 0 lo=0/\sIx items.size items.size hi=items.size))
  (h:Q (.ref s.heap.objs.size) { s with heap:=s.heap.push { cls:=.type "tuple",data:=.seq ((items.toList.drop (sIx items.size 0 lo)).take (sIx items.size items.size hi - sIx items.size 0 lo)).toArray } })
  (hsz:items.size<=cn):wpAny (model prog w) A (getItem (.ref t) (.ref sl)) Q E s:=by
 have htake:sizeOk (.seq ((items.toList.drop (sIx items.size 0 lo)).take (sIx items.size items.size hi - sIx items.size 0 lo)).toArray):=by show((items.toList.drop (sIx items.size 0 lo)).take (sIx items.size items.size hi - sIx items.size 0 lo)).toArray.size<=cn;rw[aw,jm,mm,kj];omega
 have hj:sIx items.size items.size hi<=items.size:=QP _ _ (ak _) hi;obtain⟨os,hos,hcs,hds⟩:=id hs;have hTs:s.TypeIs (.ref sl) "slice" := ⟨os,hos,hcs⟩;unfold getItem
 try with_reducible refine gu ?_
 first|refine aa (ai ?_)|skip
 refine aa (wpAny_sequenceKey ht.typeIs (by decide) ?_);refine aa (gg (name:=km "__getitem__") ht.typeIs fq
  (gk fq ht.typeIs entry_tuple_getitem ?_ (args_tuple_getitem _ _)))
 show wpAny _ _ (Builtin.Tuple.tupleItemsOf (.ref t) >>= _) _ _ s;refine aa (tupleItemsOf_ ht ?_);refine aa (ph hTs ?_);rw[if_pos (by decide)];refine aa (sliceApplied_gen hs pl pu ?_);have hno:¬ ((((sIx items.size 0 lo:Nat):Int)==0&&(1:Int)==1&&(sIx items.size items.size hi - sIx items.size 0 lo)==items.size)=true):=by intro q;rw[dj,dj]at q;have q1:((sIx items.size 0 lo:Nat):Int)=0:=eq_of_beq q.1.1;have q2:sIx items.size items.size hi - sIx items.size 0 lo=items.size:=eq_of_beq q.2;exact hw ⟨by omega,by omega⟩
 show wpAny _ _ (if(((sIx items.size 0 lo:Nat):Int)==0&&(1:Int)==1&&(sIx items.size items.size hi - sIx items.size 0 lo)==items.size)=true then _ else _) _ _ s;rw[if_neg hno,QS]
 first
  |exact aa (m:=jw _) (fg (ai ⟨_,rfl,ai h⟩) htake)
  |exact aa (m:=jw _) (fg (aa (ai (ai ⟨_,rfl,ai h⟩))) htake)
  |exact aa (aa (m:=jw _) (fg (ai (ai ⟨_,rfl,ai h⟩)) htake))
  |exact aa (aa (m:=jw _) (fg (ai ⟨_,rfl,ai h⟩) htake))
end
end HT
namespace L2
open PySem PySem.Spec PyProof.Rows
abbrev TO:=St->Hp->(Option Int->Hp->Prop)->Prop
def PO (X:Cx) (e:Option bp) (t:TO):Prop:=
 ∀(pins:List (ah×Obj)) (s:ag) (σ:St) (H:Hp) (Q:Option Int->Hp->Prop),Inv X pins σ H s->t σ H Q->
  wpAny (model X.prog X.w) X.A (evalPart e X.env) (λu s'=>∃o H',Inv X pins σ H' s'/\ud u o/\Q o H') X.xe s
def QT:TO:=λ_ H Q=>Q none H
def QU (t:TE):TO:=λσ H Q=>t σ H λx H1=>∃i,x=.int i/\Q (some i) H1
theorem FG {ns:List Int}:∀{us:List af},Vals (ns.map V.int) us->lb us ns:=by
 induction ns with
 |nil=>intro us r;rw[List.map_nil]at r;cases r;exact .nil
 |cons n ns ih=>
  intro us r;rw[dw]at r
  cases r with
  |cons r1 r2=>obtain⟨t,e⟩:=r1;subst e;exact .cons n t (ih r2)
section
variable{X:Cx}{e:bp}{te:TE}{lo hi:Option bp}{tl th:TO}{pos p2:Pos}
theorem QV:PO X none QT:=by intro pins s σ H Q I h;rw[evalPart_none];exact ai ⟨none,H,I,.none,h⟩
theorem QW (h:PE X e te):PO X (some e) (QU te):=by intro pins s σ H Q I hw;rw[evalPart_some];refine aU (h pins s σ H _ I hw) λu s1 ⟨x,H1,I1,r1,q1⟩=>?_;obtain⟨i,rfl,q⟩:=q1;obtain⟨t,rfl⟩:=r1;exact⟨some i,H1,I1,.int i t,q⟩
def SlR (X:Cx) (r:V->Option Int->Option Int->Hp->VK->Prop):Prop:=
 ∀(pins:List (ah×Obj)) (s:ag) (σ:St) (H:Hp) (x:V) (v vl vu:af) (lo hi:Option Int) (sl:ah) (Q:VK),Inv X pins σ H s->RelV x v->s.heap.IsSliceOf sl vl vu .none->ud vl lo->ud vu hi->r x lo hi H Q->
  ∃T id,typeLookup (.type T) "__getitem__" = pure (some (.builtin id))/\s.TypeIs v T/\wpAny (model X.prog X.w) X.A (getItem v (.ref sl)) (EP X pins σ Q) X.xe s
theorem SlR.or {r r':V->Option Int->Option Int->Hp->VK->Prop}(h:SlR X r) (h':SlR X r'):SlR X (λx lo hi H Q=>r x lo hi H Q∨r' x lo hi H Q):=by
 intro pins s σ H x v vl vu lo hi sl Q I rx hs pl pu q
 rcases q with q|q
 ·exact h pins s σ H x v vl vu lo hi sl Q I rx hs pl pu q
 ·exact h' pins s σ H x v vl vu lo hi sl Q I rx hs pl pu q
def QX (r:V->Option Int->Option Int->Hp->VK->Prop) (te:TE) (tl th:TO):TE:=λσ H Q=>te σ H λx H1=>tl σ H1 λl H2=>th σ H2 λu H3=>r x l u H3 Q
theorem QY {r:V->Option Int->Option Int->Hp->VK->Prop}(hr:SlR X r) (he:PE X e te) (hl:PO X lo tl) (hu:PO X hi th):PE X (.Subscript e (.Slice lo hi none p2) pos) (QX r te tl th):=by intro pins s σ H Q I h;refine Subscript_ (aU (he pins s σ H _ I h) λv s1 ⟨x,H1,I1,r1,q1⟩=>?_);refine wpAny_Slice (aU (hl pins s1 σ H1 _ I1 q1) λvl s2 ⟨l,H2,I2,pl,q2⟩=>aU (hu pins s2 σ H2 _ I2 q2) λvu s3 ⟨u,H3,I3,pu,q3⟩=>?_);rw[evalPart_none];refine ai ?_;have I4:Inv X pins σ H3 { s3 with heap:=s3.heap.push { cls:=.type "slice",data:=.fields #[vl,vu,.none] } }:=I3.kept (t':=s3.toks) λb ob q=>aj _ q;obtain⟨T,id,hT,ht,hg⟩:=hr pins { s3 with heap:=s3.heap.push { cls:=.type "slice",data:=.fields #[vl,vu,.none] } } σ H3 x v vl vu l u s3.heap.objs.size Q I4 r1 (Heap.IsSliceOf.new ..) pl pu q3;show wpAny (model X.prog X.w) X.A (subscriptTail e (.Slice lo hi none p2) v (.ref s3.heap.objs.size)) (EP X pins σ Q) X.xe { s3 with heap:=s3.heap.push { cls:=.type "slice",data:=.fields #[vl,vu,.none] } };exact tail_any (ops:=[.ref s3.heap.objs.size,v]) ht hT hg (by with_unfolding_all rfl)
def lM (xs:List V) (lo hi:Option Int):List V:=(xs.drop (HT.sIx xs.length 0 lo)).take (HT.sIx xs.length xs.length hi - HT.sIx xs.length 0 lo)
theorem FH (xs:List V) (lo hi:Option Int):(lM xs lo hi).length<=xs.length:=by unfold lM;rw[jm,mm];omega
def QZ (K:aq):V->Option Int->Option Int->Hp->VK->Prop:=λx lo hi H Q=>∃a xs,x=.ref a/\SqT K H a xs /\
 ¬ (HT.sIx xs.length 0 lo=0/\HT.sIx xs.length xs.length hi=xs.length)/\∀p,H p=none->Q (.ref p) (aM H p (.tup (lM xs lo hi)))
theorem Q0:SlR X (QZ X.K):=by
 intro pins s σ H x v vl vu lo hi sl Q I rx hs pl pu h;obtain⟨a,xs,rfl,hx,hw,q⟩:=h;cases rx;obtain⟨its,r,ht,hz⟩:=I.tuple hx;have hlen:its.toArray.size=xs.length:=by rw[aw];exact r.length.symm
 refine⟨"tuple",_,fq.lookup,ht.typeIs, ?_⟩;refine HT.getItem_tuple_cut ht hs pl pu (by rw[hlen];exact hw) ?_ (by rw[hlen];exact hz);rw[hlen];refine⟨.ref s.heap.objs.size,_,I.laid (t':=s.toks) (o:=.tup (lM xs lo hi)) (λb ob q=>aj _ q) (ak _) ?_,rfl,q _ (I.hok.fresh (ak _))⟩;exact⟨dk (FH xs lo hi) hz,_,(r.drop (HT.sIx xs.length 0 lo)).take (HT.sIx xs.length xs.length hi - HT.sIx xs.length 0 lo),IsTupX.new _ _⟩
def FI (K:aq):R2:=λx y H Q=>∃a b ns ms,x=.ref a/\y=.ref b/\SqT K H a (ns.map V.int)/\SqT K H b (ms.map V.int)/\Q (.bl (HT.lexLt ns ms)) H
theorem FJ (hu:X.A.units<cLine):OpR X (compareOp .Lt) (FI X.K):=by intro pins s σ H x y v u Q I rx ry h;obtain⟨a,b,ns,ms,rfl,rfl,ha,hb,q⟩:=h;cases rx;cases ry;obtain⟨its,r1,p1,_⟩:=I.tuple ha;obtain⟨its2,r2,p2,_⟩:=I.tuple hb;have i1:lb its.toArray.toList ns:=FG r1;have i2:lb its2.toArray.toList ms:=FG r2;exact HT.lt_tupInts p1 p2 i1 i2 hu ⟨.bl (HT.lexLt ns ms),H,I,rfl,q⟩
def FK (K:aq):R2:=λx y H Q=>∃a b xs ys,x=.ref a/\y=.ref b/\SqT K H a xs/\SqT K H b ys/\xs≠[]/\xs.length+ys.length<=cn /\
 (ys=[]->Q (.ref a) H)/\(ys≠[]->∀p,H p=none->Q (.ref p) (aM H p (.tup (xs++ys))))
theorem Vals.nil_iff {xs:List V}{us:List af}(r:Vals xs us):us=[]↔xs=[]:=by
 cases r with
 |nil=>simp
 |cons _ _=>simp
theorem Q2:OpR X (binaryOp .Add) (FK X.K):=by intro pins s σ H x y v u Q I rx ry h;obtain⟨a,b,xs,ys,rfl,rfl,ha,hb,hx,hz,q1,q2⟩:=h;cases rx;cases ry;obtain⟨its,r1,p1,_⟩:=I.tuple ha;obtain⟨its2,r2,p2,_⟩:=I.tuple hb;refine HT.cat_tup p1 p2 (λz=>hx (r1.nil_iff.mp z)) (λz=>⟨.ref a,H,I,rfl,q1 (r2.nil_iff.mp z)⟩) (λz=>?_) (by rw[<-r1.length,<-r2.length];exact hz);refine⟨.ref s.heap.objs.size,_,I.laid (t':=s.toks) (o:=.tup (xs++ys)) (λb ob q=>aj _ q) (ak _) ?_,rfl,q2 (λw=>z (r2.nil_iff.mpr w)) _ (I.hok.fresh (ak _))⟩;exact⟨by rw[cm];exact hz,_,r1.append r2,IsTupX.new _ _⟩
end
def dM (n:Nat) (i:Int):Option Nat:=if 0<=i then(if i<n then some i.toNat else none)else if -(n:Int)<=i then some (i+n).toNat else none
def cI {α:Type}(xs:List α) (i:Int):Option α:=(dM xs.length i).bind λj=>xs[j]?
theorem yW {n:Nat}{i:Int}{j:Nat}(h:dM n i=some j):seqIndex? i n=some j/\j<n/\-(n:Int)<=i/\i<n:=by
 unfold dM at h
 by_cases h0:0<=i
 ·rw[if_pos h0]at h
  by_cases h1:i<n
  ·rw[if_pos h1]at h;have e:i.toNat=j:=cz h;exact⟨by rw[seqIndex_of h0 h1,e],by omega,by omega,h1⟩
  ·rw[if_neg h1]at h;cases h
 ·rw[if_neg h0]at h
  by_cases h1 : -(n:Int)<=i
  ·rw[if_pos h1]at h;have e:(i+n).toNat=j:=cz h;exact⟨by rw[seqIndex_neg (by omega) h1,e],by omega,h1,by omega⟩
  ·rw[if_neg h1]at h;cases h
theorem yX {α:Type}{xs:List α}{i:Int}{v:α}(h:cI xs i=some v):∃j,seqIndex? i xs.length=some j/\xs[j]?=some v/\j<xs.length/\-(xs.length:Int)<=i/\i<xs.length:=by
 unfold cI at h
 cases e:dM xs.length i with
 |none=>rw[e]at h;cases h
 |some j=>rw[e]at h;obtain⟨h1,h2,h3,h4⟩:=yW e;exact⟨j,h1,h,h2,h3,h4⟩
def yY (b:bp):Prop:=∀o i,subscripted b false o i=operate [o,i] (getItem o i)
def IxR (X:Cx) (r:R2):Prop:=
 ∀(value slice:bp) (pins:List (ah×Obj)) (s:ag) (σ:St) (H:Hp) (x y:V) (v u:af) (Q:VK),Inv X pins σ H s->RelV x v->RelV y u->r x y H Q->
  subscripted slice false v u=operate [v,u] (getItem v u)->wpAny (model X.prog X.w) X.A (subscriptTail value slice v u) (EP X pins σ Q) X.xe s
def Q3 (X:Cx) (id:String) (r:V->List V->Hp->VK->Prop):Prop:=
 ∀(pins:List (ah×Obj)) (s:ag) (σ:St) (H:Hp) (x:V) (xs:List V) (v:af) (us:List af) (Q:VK),Inv X pins σ H s->RelV x v->Vals xs us->r x xs H Q->
  wpAny (model X.prog X.w) X.A (call (.builtin id) (v::us)) (EP X pins σ Q) X.xe s
section
variable{X:Cx}{a b:bp}{ta tb:TE}{pos:Pos}
theorem IxR.or {r r':R2}(h:IxR X r) (h':IxR X r'):IxR X (λx y H Q=>r x y H Q∨r' x y H Q):=by
 intro value slice pins s σ H x y v u Q I rx ry q hs
 rcases q with q|q
 ·exact h value slice pins s σ H x y v u Q I rx ry q hs
 ·exact h' value slice pins s σ H x y v u Q I rx ry q hs
theorem FL {r:R2}(hr:IxR X r) (ha:PE X a ta) (hb:PE X b tb) (hs:yY b):PE X (.Subscript a b pos) (qA r ta tb):=by intro pins s σ H Q I h;exact Subscript_ (yT ha hb I h λv u s2 x y H2 I2 rx ry q=>hr a b pins s2 σ H2 x y v u Q I2 rx ry q (hs _ _))
def FN (K:aq):R2:=λx y H Q=>∃p xs i v,x=.ref p/\y=.int i/\SqL K H p xs/\cI xs i=some v/\Q v H
def FO (K:aq):R2:=λx y H Q=>∃p xs i v,x=.ref p/\y=.int i/\SqT K H p xs/\cI xs i=some v/\Q v H
def FP:R2:=λx y H Q=>∃z i c,x=.str z/\y=.int i/\z.length<=cn/\cI z.cps.toList i=some c/\Q (.str ⟨#[c]⟩) H
theorem ix_list:IxR X (FN X.K):=by
 intro value slice pins s σ H x y v u Q I rx ry h hs;obtain⟨p,xs,i,z,rfl,rfl,hq,he,q⟩:=h;cases rx;obtain⟨t,rfl⟩:=ry;obtain⟨its,r,pl,hz⟩:=I.list hq;obtain⟨j,h1,h2,h3,h4,h5⟩:=yX he;obtain⟨w,ew,rw'⟩:=r.get h2;have hl:=r.length;have hn:=oD;have fin:EP X pins σ Q w s:=⟨z,H,I,rw',q⟩
 by_cases h0:0<=i
 ·have hj:i.toNat=j:=by rw[seqIndex_of h0 h5]at h1;exact cz h1
  exact item_listR pl.isList h0 (by omega) (by rw[hj];simpa using ew) fin hs
 ·have hj:(i+(its.toArray.size:Int)).toNat=j:=by rw[seqIndex_neg (by omega) h4]at h1;rw[aw,<-hl];exact cz h1
  exact subscriptTail_builtinR (x:=w) pl.isList.typeIs slot_list_getitem.lookup
   (wpAny_getItem_list_neg (Q:=λr s'=>r=w/\EP X pins σ Q r s') pl.isList (by omega) (by rw[aw] <;> omega) (by omega) (by rw[hj];simpa using ew) ⟨rfl,fin⟩) hs
theorem ix_tup:IxR X (FO X.K):=by
 intro value slice pins s σ H x y v u Q I rx ry h hs;obtain⟨p,xs,i,z,rfl,rfl,hq,he,q⟩:=h;cases rx;obtain⟨t,rfl⟩:=ry;obtain⟨its,r,pl,hz⟩:=I.tuple hq;obtain⟨j,h1,h2,h3,h4,h5⟩:=yX he;obtain⟨w,ew,rw'⟩:=r.get h2;have hl:=r.length;have hn:=oD;have fin:EP X pins σ Q w s:=⟨z,H,I,rw',q⟩
 exact subscriptTail_builtinR (x:=w) pl.typeIs slot_tuple_getitem.lookup
  (getItem_tuple (j:=j) (Q:=λr s'=>r=w/\EP X pins σ Q r s') pl (by omega) (by omega) (by rw[aw,<-hl];exact h1) (by simpa using ew) ⟨rfl,fin⟩) hs
theorem Q4:IxR X FP:=by
 intro value slice pins s σ H x y v u Q I rx ry h hs;obtain⟨z,i,c,rfl,rfl,hz,he,q⟩:=h;obtain⟨t,rfl⟩:=rx;obtain⟨t',rfl⟩:=ry;obtain⟨j,h1,h2,h3,h4,h5⟩:=yX he;have hl:z.cps.toList.length=z.length:=by simp[Str.length]
 rw[hl]at h1 h4 h5;have hn:=oD;exact tail_any (typeIs_str s z t) slot_str_getitem.lookup (getItem_str (c:=c) (by have e1:decide (i < -(2 ^ 63:Int))=false:=decide_eq_false (by omega);have e2:decide (i>=2 ^ 63)=false:=decide_eq_false (by omega);rw[e1,e2,Bool.or_false]) (by rw[h1];simpa using h2) ⟨.str ⟨#[c]⟩,H,I.tok _,⟨_,rfl⟩,q⟩) hs
def yZ (K:aq):R2:=λx y H Q=>FN K x y H Q∨FO K x y H Q∨FP x y H Q
theorem FQ:IxR X (yZ X.K):=ix_list.or (ix_tup.or Q4)
theorem Q5 (its:List af) (n j:Nat) (u:af):mw (·.setIfInBounds j u) { cls:=.type "list",data:=.seq its.toArray n }={ cls:=.type "list",data:=.seq (its.set j u).toArray n }:=by simp[mw]
theorem Inv.lst {pins:List (ah×Obj)}{σ:St}{H:Hp}{s:ag}{p:ah}{xs:List V}(I:Inv X pins σ H s) (h:H p=some (.lst xs)):
  ∃(its:List af) (n:Nat),Vals xs its/\s.heap.get? p=some { cls:=.type "list",data:=.seq its.toArray n }/\xs.length<=cn:=by
 obtain⟨z,its,n,r,e⟩:=I.hok p _ h;exact⟨its,n,r,e,z⟩
theorem Inv.lstUpd {pins:List (ah×Obj)}{σ:St}{H:Hp}{s:ag}{p:ah}{xs ys:List V}{its its':List af}{n n':Nat}{f:Obj->Obj}(I:Inv X pins σ H s) (h:H p=some (.lst xs))
  (ho:s.heap.get? p=some { cls:=.type "list",data:=.seq its.toArray n }) (hf:f { cls:=.type "list",data:=.seq its.toArray n }={ cls:=.type "list",data:=.seq its'.toArray n' }) (r:Vals ys its') (hz:ys.length<=cn) (t:Nat):
  Inv X pins σ (aM H p (.lst ys)) { s with heap:=s.heap.update p f,toks:=t }:=by
 have e:(s.heap.update p f).get? p=some { cls:=.type "list",data:=.seq its'.toArray n' }:=by rw[mf f ho (by rw[hf] <;> rfl),hf]
 refine I.write (x:=p) (e:=p) (by rw[h];trivial) (.inl rfl) (λb u hb q=>(lh _ _ (cy hb)).trans q) ⟨_,e⟩ ?_;exact⟨hz,its',n',r,e⟩
def Q6:V->V->V->Hp->(Hp->Prop)->Prop:=λo i v H Q=>∃p xs k j,o=.ref p/\i=.int k/\H p=some (.lst xs)/\dM xs.length k=some j/\Q (aM H p (.lst (xs.set j v)))
theorem Q7:ER X Q6:=by
 intro pins s σ H o i v ov iv u Q I ro ri rv h;obtain⟨p,xs,k,j,rfl,rfl,hp,hj,q⟩:=h;cases ro;obtain⟨t,rfl⟩:=ri;obtain⟨its,n,r,ho,hz⟩:=I.lst hp;obtain⟨h1,h2,h3,h4⟩:=yW hj;have hl:=r.length;have hn:=oD;have I':Inv X pins σ (aM H p (.lst (xs.set j v))) { s with heap:=s.heap.update p (mw (·.setIfInBounds j u)) }:=I.lstUpd hp ho (Q5 its n j u) (r.set rv j) (by rw[ju];exact hz) s.toks
 by_cases h0:0<=k
 ·have hk:k.toNat=j:=by rw[seqIndex_of h0 h4]at h1;exact cz h1
  exact PySem.W.ki_setAt ho h0 (by omega) (by rw[aw,<-hl];exact h4) (by rw[hk];exact⟨_,I',q⟩)
 ·have hk:(k+(its.toArray.size:Int)).toNat=j:=by rw[seqIndex_neg (by omega) h3]at h1;rw[aw,<-hl];exact cz h1
  exact PySem.W.ki_setBack ho (by omega) (by rw[aw,<-hl];exact h3) (by omega) (by rw[hk];exact⟨_,I',q⟩)
theorem Q8 (lo hi:Option Int) (n:Nat):(sliceBounds lo hi none n).1=((HT.sIx n 0 lo:Nat):Int)/\(sliceBounds lo hi none n).2.1=((HT.sIx n n hi:Nat):Int)/\(sliceBounds lo hi none n).2.2=1:=by
 refine⟨?_, ?_,rfl⟩
 ·cases lo with
  |none=>simp[sliceBounds,HT.sIx]
  |some i=>
   simp only[sliceBounds,HT.sIx,Option.getD_none,show(1:Int)>0 by decide,if_true]
   by_cases h:i<0
   ·simp only[h,if_true] <;> omega
   ·simp only[h,if_false] <;> omega
 ·cases hi with
  |none=>simp[sliceBounds,HT.sIx]
  |some i=>
   simp only[sliceBounds,HT.sIx,Option.getD_none,show(1:Int)>0 by decide,if_true]
   by_cases h:i<0
   ·simp only[h,if_true] <;> omega
   ·simp only[h,if_false] <;> omega
theorem Q9 (its:List af) (lo hi:Option Int):slicePick its.toArray lo hi none=((its.drop (HT.sIx its.length 0 lo)).take (HT.sIx its.length its.length hi - HT.sIx its.length 0 lo)).toArray:=by obtain⟨h1,h2,h3⟩:=Q8 lo hi its.toArray.size;unfold slicePick;rw[h1,h2,h3];simp only[sliceRange_one,pick_run,aw] <;> rfl
def RA (K:aq):V->Option Int->Option Int->Hp->VK->Prop:=λx lo hi H Q=>∃a xs,x=.ref a/\SqL K H a xs/\∀p,H p=none->Q (.ref p) (aM H p (.lst (lM xs lo hi)))
theorem RC:SlR X (RA X.K):=by intro pins s σ H x v vl vu lo hi sl Q I rx hs pl pu h;obtain⟨a,xs,rfl,hx,q⟩:=h;cases rx;obtain⟨its,r,ht,hz⟩:=I.list hx;have hlen:=r.length;refine⟨"list",_,slot_list_getitem.lookup,ht.isList.typeIs, ?_⟩;refine wpAny_getItem_list_slice ht.isList hs pl pu .none (by simp) ?_ (by rw[aw] <;> omega);rw[Q9,<-hlen];refine⟨.ref s.heap.objs.size,_,I.laid (t':=s.toks) (o:=.lst (lM xs lo hi)) (λb ob q=>aj _ q) (ak _) ?_,rfl,q _ (I.hok.fresh (ak _))⟩;exact⟨dk (FH xs lo hi) hz,_,0,(r.drop (HT.sIx xs.length 0 lo)).take (HT.sIx xs.length xs.length hi - HT.sIx xs.length 0 lo),ay _ rfl⟩
theorem FR:CallR X (.builtin "len") (λxs H Q=>∃p ys,xs=[.ref p]/\(SqL X.K H p ys∨SqT X.K H p ys)/\Q (.int ys.length) H):=by
 intro pins s σ H xs us Q I r h;obtain⟨p,ys,rfl,hq,q⟩:=h;obtain⟨u,rfl,rx⟩:=iE r;cases rx;have hn:=oD
 rcases hq with hq|hq
 ·obtain⟨its,r',pl,hz⟩:=I.list hq;have hlen:=r'.length;exact Calls.call_len_list pl.isList (by simp only[aw] <;> omega) ⟨.int ys.length,H,I.tok _,⟨s.toks+1,by rw[aw,hlen]⟩,q⟩
 ·obtain⟨its,r',pl,hz⟩:=I.tuple hq;have hlen:=r'.length;exact len_tuple pl (by simp only[aw] <;> omega) ⟨.int ys.length,H,I.tok _,⟨s.toks+1,by rw[aw,hlen]⟩,q⟩
theorem RD:CallR X (.type "list") (λxs H Q=>∃p ys,xs=[.ref p]/\(SqL X.K H p ys∨SqT X.K H p ys)/\∀l,H l=none->Q (.ref l) (aM H l (.lst ys))):=by
 intro pins s σ H xs us Q I r h;obtain⟨p,ys,rfl,hq,q⟩:=h;obtain⟨u,rfl,rx⟩:=iE r;cases rx;have fin:∀(its:List af),Vals ys its->ys.length<=cn->∀(h':cw) (c':Nat),(∀b o',s.heap.get? b=some o'->h'.get? b=some o')->
   h'.get? s.heap.objs.size=some { cls:=.type "list",dict:=none,data:=.seq its.toArray c',slots:=#[] }->EP X pins σ Q (.ref s.heap.objs.size) { s with heap:=h' }:=λits r' hz h' c' kp e=>
  ⟨.ref s.heap.objs.size,_,I.laid (t':=s.toks) kp (ak _) (show ObjOk X.prog X.w _ h' _ (.lst ys) from⟨hz,its,c',r',e⟩),rfl,q _ (I.hok.fresh (ak _))⟩
 rcases hq with hq|hq
 ·obtain⟨its,r',pl,hz⟩:=I.list hq;have hlen:=r'.length;obtain⟨o,ho,hc,n,hd⟩:=pl.isList;exact call_list_seq p (.inl rfl) ho hc hd (λh' c' kp e=>fin its r' hz h' c' kp e) (by simp only[aw] <;> omega)
 ·obtain⟨its,r',pl,hz⟩:=I.tuple hq;have hlen:=r'.length;obtain⟨o,ho,hc,n,hd⟩:=pl;exact call_list_seq p (.inr rfl) ho hc hd (λh' c' kp e=>fin its r' hz h' c' kp e) (by simp only[aw] <;> omega)
theorem RE:CallR X (.type "tuple") (λxs H Q=>∃p ys,xs=[.ref p]/\((SqL X.K H p ys/\∀l,H l=none->Q (.ref l) (aM H l (.tup ys)))∨(SqT X.K H p ys/\Q (.ref p) H))):=by
 intro pins s σ H xs us Q I r h;obtain⟨p,ys,rfl,h⟩:=h;obtain⟨u,rfl,rx⟩:=iE r;cases rx
 rcases h with⟨hq,q⟩|⟨hq,q⟩
 ·obtain⟨its,r',pl,hz⟩:=I.list hq;have hlen:=r'.length;refine call_tuple_list pl.isList (λh' kp=>?_) (by simp only[aw] <;> omega);have I1:Inv X pins σ H { s with heap:=h' }:=I.kept (t':=s.toks) kp;have I2:Inv X pins σ (aM H h'.objs.size (.tup ys)) { s with heap:=h'.push { cls:=.type "tuple",data:=.seq its.toArray } }:=I1.laid (t':=s.toks) (λb o e=>aj _ e) (ak _) (show ObjOk X.prog X.w _ _ _ (.tup ys) from⟨hz,its,r',IsTupX.new _ _⟩);exact⟨.ref h'.objs.size,_,I2,rfl,q _ (I1.hok.fresh (ak _))⟩
 ·obtain⟨its,r',pl,hz⟩:=I.tuple hq;exact call_tuple_same pl ⟨.ref p,H,I,rfl,q⟩
def tZ (K:aq) (T:String) (x:V) (H:Hp):Prop:=match x with
 | .str _=>T = "str"
 | .int _=>T = "int"
 | .ref p=>(T = "list"/\∃xs,SqL K H p xs)∨(T = "tuple"/\∃o,K.lookup p=some o/\o.cls=.type "tuple"/\o.dict=none) ∨
   (T = "dict"/\((∃kvs,H p=some (.dK kvs))∨∃kvs,H p=some (.dT kvs)))∨(T = "set"/\∃S n,H p=some (.set S n))
 |_=>False
theorem RF {pins:List (ah×Obj)}{σ:St}{H:Hp}{s:ag}{T:String}{x:V}{v:af}(I:Inv X pins σ H s) (r:RelV x v) (ty:tZ X.K T x H):
  s.TypeIs v T/\∀a,v=.ref a->∃ob,s.heap.get? a=some ob/\ob.dict=none:=by
 cases x with
 |str z=>
  obtain⟨t,rfl⟩:=r
  cases (show T = "str" from ty)
  exact⟨typeIs_str s z t,λ_ e=>nomatch e⟩
 |int i=>
  obtain⟨t,rfl⟩:=r
  cases (show T = "int" from ty)
  exact⟨typeIs_int s i t,λ_ e=>nomatch e⟩
 |ref p=>
  cases r
  rcases ty with⟨rfl,xs,hq⟩|⟨rfl,o,hk,hc,hd⟩|⟨rfl,hk⟩|⟨rfl,S,n,hk⟩
  ·obtain⟨its,_,pl,_⟩:=I.list hq;refine⟨pl.isList.typeIs,λa e=>?_⟩;cases e;obtain⟨o,n,e,c,hd,_⟩:=pl;exact⟨o,e,hd⟩
  ·refine⟨⟨o,I.kIn p o hk,hc⟩,λa e=>?_⟩;cases e;exact⟨o,I.kIn _ o hk,hd⟩
  ·have z:∃o,s.heap.get? p=some o/\o.ExactDict:=by
    rcases hk with⟨kvs,hk⟩|⟨kvs,hk⟩
    ·obtain⟨_,_,_,_,o,_,_,e,ex,_⟩:=I.hok p _ hk;exact⟨o,e,ex⟩
    ·obtain⟨_,_,_,_,o,_,_,e,ex,_⟩:=I.hok p _ hk;exact⟨o,e,ex⟩
   obtain⟨o,e,ex⟩:=z;refine⟨⟨o,e,ex.1⟩,λa e2=>?_⟩;cases e2;exact⟨o,e,ex.2.1⟩
  ·obtain⟨o,_,_,_,e,ex,_⟩:=I.hok p _ hk;refine⟨⟨o,e,ex.1⟩,λa e2=>?_⟩;cases e2;exact⟨o,e,ex.2.1⟩
 |_=>exact gj ty
def RG (K:aq) (T:String) (r:V->List V->Hp->VK->Prop) (to:TE) (t:TA):TE:=λσ H Q=>to σ H λx H1=>tZ K T x H1/\t σ H1 λxs H2=>r x xs H2 Q
variable{o e:bp}{es:List bp}{to:TE}{t:TA}{name:Str}{apos cpos:Pos}{T id:String}{r:V->List V->Hp->VK->Prop}
theorem FT (pa:PlainAttrs T) (slot:Slot T name id) (hty:typeOf (.builtin id)=pure (.type "method_descriptor")) (hm:Q3 X id r) (ho:PE X o to) (ha:PA X (e::es) t)
  (hbase:attributeBase o name X.env (eval o X.env)=eval o X.env:=by rfl)
  (hfew:((backTo cpos (au (e::es) X.env)).all (λx=>!x.1)&&(backToKw cpos (keywordEach [] X.env)).all (λx=>x.1.isSome)
   && decide ((e::es).length+([]:List Keyword).length+(if([]:List Keyword).isEmpty then 0 else 1)<30))=true:=by rfl)
  (hline:(apos.endLine==cpos.line)=true:=by rfl) (hs:au (e::es) X.env=(false,eval e X.env)::au es X.env:=by rfl) (hplain:(backTo cpos (au es X.env)).any (·.1)=false:=by rfl):
  PE X (.Call (.Attribute o name apos) (e::es) [] cpos) (RG X.K T r to t):=by
 intro pins s σ H Q I h;refine wpAny_Call_method_late hbase hfew hline rfl (aU (ho pins s σ H _ I h) λv s1 ⟨x,H1,I1,r1,ty,q1⟩=>?_);obtain⟨h1,h2⟩:=RF I1 r1 ty;refine⟨T,id,pa,slot,hty,h1,h2, ?_⟩;have hA:=ha cpos pins s1 σ H1 _ I1 q1;rw[hs]at hA ⊢;refine Calls.callWith_builtin (by show(false||(backTo cpos (au es X.env)).any (·.1))=false;rw[hplain] <;> rfl) (Af ?_);exact aU hA λus s2 ⟨vs,H2,I2,r2,q2⟩=>hm pins s2 σ H2 x vs v us Q I2 r1 r2 q2
end
def FU (X:Cx) (id:String) (r:V->List V->Hp->VK->Prop):Prop:=
 ∀(pins:List (ah×Obj)) (s:ag) (σ:St) (H:Hp) (x:V) (xs:List V) (v:af) (us:List af) (Q:VK),Inv X pins σ H s->RelV x v->Vals xs us->r x xs H Q->
  wpAny (model X.prog X.w) X.A (call (.builtin id) (v::us)) (EP X pins σ Q) X.xe s
theorem Vals.one:∀{x:V}{us:List af},Vals [x] us->∃u,us=[u]/\RelV x u
 |_,_,.cons r .nil=>⟨_,rfl,r⟩
theorem Vals.eraseIdx:∀{xs:List V}{us:List af}(i:Nat),Vals xs us->Vals (xs.eraseIdx i) (us.eraseIdx i)
 |_,_,_,.nil=>.nil
 |_,_,0,.cons _ t=>t
 |_,_,i+1,.cons r t=>.cons r (Vals.eraseIdx i t)
theorem Vals.rep {xs:List V}{us:List af}(h:Vals xs us):∀k:Nat,Vals (ax k xs).flatten (ax k us).flatten
 |0=>.nil
 |k+1=>by rw[jb,jb,jx,jx];exact Vals.append h (Vals.rep h k)
theorem FV {α:Type}:∀(l:List α) (i:Nat),(l.eraseIdx i).length<=l.length
 | [],_=>ak _
 |_::_,0=>Nat.le_succ _
 |_::r,i+1=>Nat.succ_le_succ (FV r i)
theorem FW (its:List af):∀(k:Nat) (acc:List af),
  List.foldl (λx1 x2=>x1++x2) acc.toArray (ax k its.toArray)=(acc++(ax k its).flatten).toArray
 |0,acc=>by simp
 |k+1,acc=>by
  have e:acc.toArray++its.toArray=(acc++its).toArray:=by simp
  have e2:(acc++its)++(ax k its).flatten=acc++(ax (k+1) its).flatten:=by rw[jb,jx,pj]
  rw[<-e2,<-FW its k (acc++its),<-e,jb,List.foldl_cons]
section
variable{X:Cx}{pins:List (ah×Obj)}{σ:St}{H:Hp}{s:ag}{l b:ah}{xs ys zs:List V}
theorem Inv.lset {its its':List af}{n:Nat}{f:Array af->Array af}{t':Nat}(I:Inv X pins σ H s) (hH:H l=some (.lst xs))
  (e:s.heap.get? l=some { cls:=.type "list",data:=.seq its.toArray n }) (hf:f its.toArray=its'.toArray) (hv:Vals ys its') (hz:ys.length<=cn):
  Inv X pins σ (aM H l (.lst ys)) { s with heap:=s.heap.update l (mw f),toks:=t' }:=by
 have q:=Ag e f;rw[hf]at q;refine I.write (x:=l) (e:=l) (by rw[hH];exact trivial) (.inl rfl) (λb' u hb hu=>(lh s.heap (mw f) (cy hb)).trans hu) ⟨_,q⟩ ?_;exact⟨hz,its',_,hv,q⟩
theorem Inv.lnew {its:List af}{t':Nat}(I:Inv X pins σ H s) (hv:Vals ys its) (hz:ys.length<=cn):
  Inv X pins σ (aM H s.heap.objs.size (.lst ys)) { s with heap:=s.heap.push { cls:=.type "list",data:=.seq its.toArray },toks:=t' }:=
 I.laid (λ_ _ q=>aj _ q) (ak _) ⟨hz,its,0,hv,ay _ rfl⟩
theorem Inv.fresh (I:Inv X pins σ H s):H s.heap.objs.size=none:=I.hok.fresh (ak _)
theorem Inv.lstM (I:Inv X pins σ H s) (hH:H l=some (.lst xs)):xs.length<=cn/\∃(its:List af) (n:Nat),Vals xs its/\xs.length=its.length/\s.heap.get? l=some { cls:=.type "list",data:=.seq its.toArray n }:=by obtain⟨z,its,n,r,e⟩:=I.hok l _ hH;exact⟨z,its,n,r,r.length,e⟩
theorem RH {n:Nat}(h:n<=cn):nj n=false:=by unfold nj;exact decide_eq_false (by omega)
end
section
variable{X:Cx}
def RI:V->List V->Hp->VK->Prop:=λx vs H Q=>∃l xs y,x=.ref l/\vs=[y]/\H l=some (.lst xs)/\xs.length<cn/\Q .non (aM H l (.lst (xs++[y])))
theorem RJ:FU X "list.append" RI:=by intro pins s σ H x vs v us Q I rx rv h;obtain⟨l,xs,y,rfl,rfl,hH,hz,q⟩:=h;cases rx;obtain⟨u,rfl,ru⟩:=rv.one;obtain⟨z,its,n,r,hl,e⟩:=I.lstM hH;refine vh F.slot_list_append ⟨_,e,rfl⟩ F.entry_list_append (F.args_list_append_2 _ _) (PySem.list_append l its.toArray n u (by rw[aw];omega)) ⟨e, ?_⟩;refine⟨.non,_,I.lset (its':=its++[u]) hH e (by simp) (r.append (.cons ru .nil)) ?_,rfl,q⟩;rw[cm,Ah];omega
def RK:V->List V->Hp->VK->Prop:=λx vs H Q=>∃l xs i k y,x=.ref l/\vs=[.int i]/\H l=some (.lst xs)/\-(2 ^ 63)<=i/\i<2 ^ 63/\seqIndex? i xs.length=some k/\xs[k]?=some y/\Q y (aM H l (.lst (xs.eraseIdx k)))
theorem RM:FU X "list.pop" RK:=by
 intro pins s σ H x vs v us Q I rx rv h;obtain⟨l,xs,i,k,y,rfl,rfl,hH,h1,h2,hk,hy,q⟩:=h;cases rx;obtain⟨u,rfl,ru⟩:=rv.one;obtain⟨t,rfl⟩:=ru;obtain⟨z,its,n,r,hl,e⟩:=I.lstM hH;obtain⟨w,hw,rw'⟩:=r.get hy;refine vh F.slot_list_pop ⟨_,e,rfl⟩ F.entry_list_pop (F.args_list_pop_2 _ _)
  (MeetsSeq.list_pop_at l its.toArray n i t k w (fitsIndex_both h1 h2) (by rw[aw,<-hl];exact hk) (by rw[<-md];exact hw) (by rw[aw];omega)) ⟨e, ?_⟩
 refine⟨y,_,I.lset (its':=its.eraseIdx k) hH e ?_ (r.eraseIdx k) ?_,rw',q⟩
 ·show its.toArray.eraseIdxIfInBounds k=(its.eraseIdx k).toArray;rw[List.eraseIdxIfInBounds_toArray]
 ·have:=FV xs k;omega
def FX:R2:=λx y H Q=>∃l b xs zs,x=.ref l/\y=.ref b/\H l=some (.lst xs)/\H b=some (.lst zs)/\xs.length+zs.length<=cn/\∀p,H p=none->Q (.ref p) (aM H p (.lst (xs++zs)))
theorem op_cat:OpR X (binaryOp .Add) FX:=by
 intro pins s σ H x y v u Q I rx ry h;obtain⟨l,b,xs,zs,rfl,rfl,hH,hB,hz,q⟩:=h;cases rx;cases ry;obtain⟨z,its,n,r,hl,e⟩:=I.lstM hH;obtain⟨z2,its2,n2,r2,hl2,e2⟩:=I.lstM hB;refine PySem.P.add_list e e2 ?_ (by rw[aw,aw];omega);have ea:its.toArray++its2.toArray=(its++its2).toArray:=by simp
 rw[ea];exact⟨.ref _,_,I.lnew (t':=s.toks) (r.append r2) (by rw[cm];omega),rfl,q _ I.fresh⟩
def FY:R2:=λx y H Q=>∃l k xs,x=.ref l/\y=.int k/\H l=some (.lst xs)/\-(2 ^ 63)<=k/\k<2 ^ 63/\xs.length*k.toNat<=cn /\
 ∀p,H p=none->Q (.ref p) (aM H p (.lst (ax k.toNat xs).flatten))
theorem RN {α:Type}(xs:List α) (k:Nat):(ax k xs).flatten.length=k*xs.length:=by
 induction k with
 |zero=>simp
 |succ k ih=>rw[jb,jx,cm,ih,oh,Nat.add_comm]
theorem RO:OpR X (binaryOp .Mult) FY:=by
 intro pins s σ H x y v u Q I rx ry h;obtain⟨l,k,xs,rfl,rfl,hH,h1,h2,hz,q⟩:=h;cases rx;obtain⟨t,rfl⟩:=ry;obtain⟨z,its,n,r,hl,e⟩:=I.lstM hH;have hlen:its.toArray.size*k.toNat<=cn:=by rw[aw,<-hl];exact hz
 have hcap:¬ its.toArray.size*k.toNat>(2 ^ 63 - 1) / 8:=by
  have:(cn:Nat)<=(2 ^ 63 - 1) / 8:=by decide
  omega
 have hfit:¬ (!Builtin.List.listFitsIndex k)=true:=by rw[fitsIndex_both h1 h2];exact fz
 have hlong:¬ nj (its.toArray.size*k.toNat)=true:=by rw[RH hlen];exact fz
 have hnew:List.foldl (λx1 x2=>x1++x2) #[] (ax (if its.toArray.isEmpty=true then 0 else k.toNat) its.toArray)=(ax k.toNat its).flatten.toArray:=by
  have f0:∀m:Nat,List.foldl (λx1 x2=>x1++x2) #[] (ax m its.toArray)=(ax m its).flatten.toArray:=λm=>by have:=FW its m [];rw[List.nil_append]at this;exact this
  rw[f0]
  cases its with
  |nil=>simp
  |cons a r'=>rw[if_neg (by simp)]
 refine wpAny_binaryOp_repeat_ref (T := "list") (U := "int") (by decide) ⟨_,e,rfl⟩ (λs'=>typeIs_int s' k t) noFill_list_mul F.fills_int_mul F.slot_int_rmul repeat_list F.slot_int_index.lookup
  (vh F.slot_int_rmul (typeIs_int s k t) F.entry_int_rmul (F.args_int_rmul_2 _ _) (int___rmul___int_list k t l its.toArray n)
   ⟨e,rfl,⟨_,e,rfl⟩,vh F.slot_list_mul ⟨_,e,rfl⟩ F.entry_list_mul (F.args_list_mul_2 _ _) (AutoListH.list___mul___list_int_3 l its.toArray n k t hfit hcap hlong) ⟨e, ?_⟩⟩)
 rw[hnew];exact⟨.ref _,_,I.lnew (t':=s.toks) (r.rep k.toNat) (by rw[RN,Nat.mul_comm];exact hz),rfl,q _ I.fresh⟩
end
section
variable{prog:bj}{w:cq}{A:cu}{E:af->ag->Prop}{s:ag}
set_option maxRecDepth 100000 in
end
section
variable{X:Cx}
end
end L2
namespace Att
open PySem PySem.W PySem.Calls PyProof.Rows
theorem RP {P:Params}{h:cw}:∀(ns:List Int) (vs:List af),WellAll P h vs (ns.map WData.int)->lb vs ns:=by
 intro ns
 induction ns with
 |nil=>intro vs w;rw[List.map_nil]at w;cases w;exact .nil
 |cons n ns ih=>
  intro vs w;rw[dw]at w
  cases w with
  |cons a b=>cases a;exact .cons _ _ (ih _ b)
theorem RQ {l:OpenLaw}{n:Nat}(hn:l.most=some n) {P:Params}{h:cw}{args:List WData}{dR:List af}
  (hpre:l.row.toRowW.claim.pre args=true) (hwl:WellAll P h dR args):
  ∃a vs ns,dR=[gm a]/\args=[WData.list (ns.map WData.int)]/\h.get? a=some { cls:=.type "list",data:=.seq vs.toArray }/\lb vs ns/\ns.length<=n:=by
 have hsh:WShape.hasAll [] args [.list .int]=true:=(pre_splitW hpre).1;have hc:l.pre.holds [] { args:=args }=true:=(pre_splitW hpre).2;obtain⟨d,r,rfl,h1,h2⟩:=hasAllW_cons hsh;obtain rfl:=hasAllW_nil h2;obtain⟨xs,rfl,h3⟩:=hasW_list h1;obtain⟨ns,rfl⟩:=items_int h3;have hlen:ns.length<=n:=by
  unfold OpenLaw.pre at hc;have h4:(WTm.not (.lt (.lit (.int (n:Int))) (.len (.arg 0)))).holds [] { args:=[.list (ns.map .int)] }=true:=by have h4:=(holds_andW hc).1;rw[hn]at h4;exact h4
  have h5:=condW_of h4 (w_not (w_lt w_lit (w_len_list (w_arg rfl))));rw[br]at h5;refine Nat.le_of_not_lt λq=>?_;have q':(n:Int)<((ns.length:Nat):Int):=by omega
  first
   |(rw[decide_eq_true q']at h5;exact absurd h5 (by decide))
   |(simp at h5;omega)
 cases hwl with
 |cons w1 w2=>
  cases w2
  cases w1 with
  |list ho hall=>exact⟨_,_,ns,rfl,rfl,ho,RP ns _ hall,hlen⟩
theorem RS (l:OpenLaw) (args:List WData):l.row.toRowW.claim.post args (.bool true) args=true:=
 postW_of (r:=l.row.toRowW) (X:=(true==true))
  (show WShape.has [] (.bool true) .bool=true by first|rfl|decide|simp[WShape.has,WShape.arms,WShape.armsAll])
  (show(WTm.eq .res (.lit (.bool true))).value [] { args:=args,res:=some (.bool true),after:=args }=some (.bool (true==true)) from w_eq_bool (w_res rfl) w_lit) rfl
theorem attach_call {l:OpenLaw}{n:Nat}{q:bj}{gD:List Str}{XP:(Str->Option af)->cw->Prop}{YP:cq->cw->Prop}{d:DefRec}
  (hn:l.most=some n) (hdf:d.params.defaults=[])
  (call:∀(w:cq) (s₀ s₁:ag) (mg mb:Str->Option af) (fa:ah) (o:Obj) (pm cd doc:af) (a:ah) (vs:List af) (ns:List Int),
   Ground q gD [] XP w s₀ mg mb s₁.heap->YP w s₁.heap->
   s₁.heap.get? fa=some o->o.data=.func (docDef d.name d.params d.body d.scope pm cd doc)->s₁.heap.CodeRec cd d.name->mg d.name=some (.ref fa)->
   s₁.heap.get? a=some { cls:=.type "list",data:=.seq vs.toArray }->lb vs ns->ns.length<=n->s₁.gens=#[]->
   codeAny (model l.prog w) callerA (.call (.ref fa) ⟨[.ref a],[]⟩) (λr s'=>r=.ok (.ret (.bool true))/\OldK s₁.heap s'.heap/\s'.os=s₁.os/\qr s'.gens) s₁):
  WalkO q gD XP YP l.row.toRowW d [] (λf vs=>PySem.call f vs):=by
 intro w s₀ s₁ mg mb G Y fa o pm cd doc dV kV ho hd hcd hD hmg hg args dR as hpre hlay hrd hwl hlo;obtain rfl:dV=.none:=Dflts.none hD hdf;obtain rfl:kV=.none:=Dflts.noKw hD;obtain⟨a,vs,ns,rfl,rfl,hobj,hints,hlen⟩:=RQ hn hpre hwl;refine enter_call (mq (call w s₀ s₁ mg mb fa o pm cd doc a vs ns G Y ho (fd_plain hd) hcd hmg hobj hints hlen hg) λr s' hq=>?_);obtain⟨rfl,h2,h3,h4⟩:=hq;exact⟨.inl ⟨.bool true,.bool true,[],rfl,λ_=>rfl,.bool true,RS l _,λ_=>⟨wo,λ_ hm=>(nomatch hm)⟩⟩,h2,h3,h4⟩
section
variable{prog:bj}{w:cq}{A:cu}{E:af->ag->Prop}{s:ag}{K:Frag}
end
end Att
namespace L2
open PySem PySem.Spec PyProof.Rows
theorem FZ:∀{vs:List af}{ns:List Int},lb vs ns->Vals (ns.map V.int) vs
 |_,_,.nil=>.nil
 |_,_,.cons n t h=>.cons ⟨t,rfl⟩ (FZ h)
def oE (s:gp):kd:=match s with
 | .FunctionDef _ a _ _ _ _ _ _ _ _=>a
 |_=>{ posonlyargs:=[],args:=[],vararg:=none,kwonlyargs:=[],kw_defaults:=[],kwarg:=none,defaults:=[] }
def iV (s:gp):List gp:=match s with
 | .FunctionDef _ _ b _ _ _ _ _ _ _=>b
 |_=>[]
def aW (s:gp):gh:=match s with
 | .FunctionDef _ _ _ _ _ _ sc _ _ _=>sc
 |_=>{ kind:=.function,names:=[],isGenerator:=false,isCoroutine:=false }
abbrev E0:XK:=λ_ _ _=>False
structure Fun (K:aq) (x qual:Str) (st:gp) (f:ah) (fd:bu):Prop where
 ex:∃(oc:af) (od:Option ah) (kV doc pm:af) (an:Option ah) (cdv ct:af) (osl:Array (Option af)),
  fd=nh x qual (oE st) (iV st) (aW st) .none kV doc pm an cdv ct/\K.lookup f=some ⟨oc,od,.func fd,osl⟩/\vg K cdv qual=true
 kp:jv K (.ref f)=true
section
variable{P:bj}{w:cq}{K:aq}{mg:Str->Option af}{base:cw}
theorem Fun.binds {x qual:Str}{st:gp}{f:ah}{fd:bu}{ps:List Str}(F:Fun K x qual st f fd)
  (h:∀(kV doc pm:af) (an:Option ah) (cdv ct:af) (us:List af),us.length=ps.length->bindArgs (nh x qual (oE st) (iV st) (aW st) .none kV doc pm an cdv ct) ⟨us,[]⟩=pure (ps.zip us)):Binds K fd ps []:=by
 obtain⟨oc,od,kV,doc,pm,an,cdv,ct,osl,rfl,lk,hcd⟩:=F.ex;exact .all (h kV doc pm an cdv ct)
theorem F0 {x qual:Str}{st:gp}{f:ah}{oc:af}{od an:Option ah}{osl:Array (Option af)}{kV doc pm cdv ct:af}(l:K.lookup f=some ⟨oc,od,.func (nh x qual (oE st) (iV st) (aW st) .none kV doc pm an cdv ct),osl⟩)
  (c:vg K cdv qual=true) (k:jv K (.ref f)=true):Fun K x qual st f (nh x qual (oE st) (iV st) (aW st) .none kV doc pm an cdv ct):=⟨⟨oc,od,kV,doc,pm,an,cdv,ct,osl,rfl,l,c⟩,k⟩
end
section
variable{X:Cx}
end
theorem F1 {A B:Prop}(h:B):if false=true then A else B:=by rw[if_neg fz];exact h
theorem F2 {A B:Prop}(h:A):if true=true then A else B:=by rw[if_pos rfl];exact h
def Same (H H':Hp):Prop:=∀b o,H b=some o->H' b=some o
theorem Same.refl (H:Hp):Same H H:=λ_ _ h=>h
theorem uA {β:Type}(x y:Str) (c:β) (acc:List (Str×β)):((y,c)::acc).lookup x=if x=y then some c else acc.lookup x:=by
 rw[gv]
 by_cases e:x=y
 ·have hb:(x==y)=true:=beq_iff_eq.mpr e;rw[hb,if_pos e]
 ·have hb:(x==y)=false:=beq_eq_false_iff_ne.mpr e;rw[hb,if_neg e]
def cS (env:Env):List (Str×jr)->List (Str×ah)->List (Str×ah)
 | [],acc=>acc
 |(x,k)::r,acc=>cS env r (if k==.free then(x,(env.cells.lookup x).getD 0)::acc else acc)
theorem zA {env:Env}:∀(l:List (Str×jr)) (acc:List (Str×ah)),(∀x,(x,bz)∈l->∃c,env.cells.lookup x=some c)->
  (forIn l acc (λ(x:Str×jr) (r:List (Str×ah))=>match x with
   |(name,kind)=>if(kind==bz)=true then(do let a <-cellOf env name;pure (pz ((name,a)::r)))else(pure (pz r):Sem (ForInStep (List (Str×ah))))))=(pure (cS env l acc):Sem (List (Str×ah)))
 | [],acc,_=>rfl
 |(x,k)::l,acc,h=>by
  rw[nq];dsimp only
  cases hk:k==bz with
  |true=>
   have e:k=.free:=by cases k <;> first|rfl|cases hk
   subst e;obtain⟨c,hc⟩:=h x (bh ..);rw[if_pos rfl,show cS env ((x,bz)::l) acc=cS env l ((x,c)::acc)by rw[cS,if_pos hk,hc];rfl,<-zA l ((x,c)::acc) λy hy=>h y (av _ hy)];unfold cellOf;rw[hc];rfl
  |false=>rw[if_neg (by simp),show cS env ((x,k)::l) acc=cS env l acc by rw[cS,hk];rfl,<-zA l acc λy hy=>h y (av _ hy)];rfl
theorem uB {env:Env}{scope:gh}(h:∀x,(x,bz)∈scope.names->∃c,env.cells.lookup x=some c):closureFor scope env=pure (cS env scope.names []):=by unfold closureFor;have:=zA (env:=env) scope.names [] h;show(forIn scope.names [] _ >>= λcs=>pure cs)=_;exact(congrArg (λ(m:Sem (List (Str×ah)))=>m >>= λcs=>pure cs) this)
theorem qE {env:Env}{x:Str}:∀(l:List (Str×jr)) (acc:List (Str×ah)),((x,bz)∈l∨acc.lookup x=some ((env.cells.lookup x).getD 0))->(cS env l acc).lookup x=some ((env.cells.lookup x).getD 0)
 | [],acc,h=>h.elim (λz=>nomatch z) id
 |(y,k)::l,acc,h=>by
  rw[cS]
  cases hk:k==bz with
  |true=>
   refine qE l _ ?_;rw[if_pos rfl]
   by_cases e:x=y
   ·subst e;right;rw[uA,if_pos rfl]
   ·rcases h with h|h
    ·rcases bg.mp h with h|h
     ·cases h;exact absurd rfl e
     ·exact .inl h
    ·right;rw[uA,if_neg e];exact h
  |false=>
   refine qE l _ ?_
   rcases h with h|h
   ·rcases bg.mp h with h|h
    ·cases h;simp at hk
    ·exact .inl h
   ·exact .inr h
structure BlkCells (h h':cw) (names:List (Str×jr)) (acc cs:List (Str×ah)):Prop where
 cases:∀x c,cs.lookup x=some c->acc.lookup x=some c∨(h.objs.size<=c/\h'.IsCell c none/\(x,dq)∈names)
 own:∀x,(x,dq)∈names->∃c,cs.lookup x=some c
 old:∀x,(x,dq)∉names->cs.lookup x=acc.lookup x
 inj:(∀x y c,acc.lookup x=some c->acc.lookup y=some c->x=y)->(∀x c,acc.lookup x=some c->c<h.objs.size)->∀x y c,cs.lookup x=some c->cs.lookup y=some c->x=y
theorem qF:∀(names:List (Str×jr)) (h:cw) (acc:List (Str×ah)),BlkCells h (pushCells h names) names acc (cellsFrom h.objs.size names acc)
 | [],h,acc=>{ cases:=λ_ _ e=>.inl e,own:=λ_ z=>(nomatch z),old:=λ_ _=>rfl,inj:=λa _=>a }
 |(y,k)::r,h,acc=>by
  cases hk:k==dq with
  |true=>
   have ek:k=.cell:=by cases k <;> first|rfl|cases hk
   subst ek;have ih:=qF r (h.push { cls:=.type "cell",data:=.cell none }) ((y,h.objs.size)::acc);have e1:pushCells h ((y,dq)::r)=pushCells (h.push { cls:=.type "cell",data:=.cell none }) r:=rfl;have e2:cellsFrom h.objs.size ((y,dq)::r) acc=cellsFrom (h.push { cls:=.type "cell",data:=.cell none }).objs.size r ((y,h.objs.size)::acc):=by rw[dv];rfl
   rw[e1,e2];have look:∀x,((y,h.objs.size)::acc).lookup x=if x=y then some h.objs.size else acc.lookup x:=λx=>uA ..
   refine⟨λx c e=>?_,λx hx=>?_,λx hx=>?_,λh1 h2 x z c ex ez=>?_⟩
   ·rcases ih.cases x c e with q|⟨q1,q2,q3⟩
    ·rw[look]at q
     by_cases exy:x=y
     ·rw[if_pos exy]at q;cases q;refine .inr ⟨ak _,⟨_,ka r _ _ _ (ay _ rfl),rfl⟩,by rw[exy];exact bh ..⟩
     ·rw[if_neg exy]at q;exact .inl q
    ·rw[dv]at q1;exact .inr ⟨Nat.le_of_succ_le q1,q2,av _ q3⟩
   ·by_cases hr:(x,dq)∈r
    ·exact ih.own x hr
    ·rw[ih.old x hr,look]
     rcases bg.mp hx with z|z
     ·cases z;exact⟨_,if_pos rfl⟩
     ·exact absurd z hr
   ·rw[ih.old x λz=>hx (av _ z),look,if_neg]
    rintro rfl
    exact hx (bh ..)
   ·refine ih.inj ?_ ?_ x z c ex ez
    ·intro a b c ea eb;rw[look]at ea eb
     by_cases qa:a=y
     ·rw[if_pos qa]at ea;cases ea
      by_cases qb:b=y
      ·exact qa.trans qb.symm
      ·rw[if_neg qb]at eb;exact absurd (h2 b _ eb) (fj _)
     ·rw[if_neg qa]at ea
      by_cases qb:b=y
      ·rw[if_pos qb]at eb;cases eb;exact absurd (h2 a _ ea) (fj _)
      ·rw[if_neg qb]at eb;exact h1 a b c ea eb
    ·intro a c ea;rw[dv];rw[look]at ea
     by_cases qa:a=y
     ·rw[if_pos qa]at ea;cases ea;exact ic _
     ·rw[if_neg qa]at ea;exact iz (h2 a c ea)
  |false=>
   have ih:=qF r h acc;have e1:pushCells h ((y,k)::r)=pushCells h r:=by rw[pushCells,hk];rfl
   have e2:cellsFrom h.objs.size ((y,k)::r) acc=cellsFrom h.objs.size r acc:=by rw[cellsFrom,hk];rfl
   rw[e1,e2];have nk:∀x,(x,dq)∈(y,k)::r->(x,dq)∈r:=λx z=>by
    rcases bg.mp z with z|z
    ·cases z;simp at hk
    ·exact z
   exact⟨λx c e=>(ih.cases x c e).imp id λ⟨a,b,c⟩=>⟨a,b,av _ c⟩,λx hx=>ih.own x (nk x hx),λx hx=>ih.old x λz=>hx (av _ z),ih.inj⟩
def F3 (scope:gh) (env:Env) (L:ah):Env:={ scope:=relabel scope env,locals:=L,globals:=env.globals,cells:=cellsFrom (L+1) scope.names (cS env scope.names []),qual:=env.qual,func:=none,code:=env.code,frame:=env.frame,builtins:=env.builtins }
theorem F5 {M:vq}{A:cu}{E:af->ag->Prop}{s:ag}{scope:gh}{env:Env}{cl:List (Str×ah)}{qual:Str}{g:ah}{Q:Env->ag->Prop}
  (h:Q { scope:=scope,locals:=s.heap.objs.size,globals:=g,cells:=cellsFrom (s.heap.objs.size+1) scope.names cl,qual:=qual,func:=none,code:=env.code,frame:=env.frame,builtins:=env.builtins }
   { s with heap:=pushCells (s.heap.push { cls:=.type "dict",data:=.dict #[] }) scope.names }):
  wpAny M A (newFunctionEnv scope g cl [] qual none .none (some env)) Q E s:=by
 simp only[newFunctionEnv,Ap,if_true];refine aa (wpAny_alloc ?_);refine aa (wpAny_layCells _ (λname kind cells=>by cases hkc:kind==dq <;> simp[hkc]) _ _ _ _ ?_);rw[show({ s with heap:=s.heap.push { cls:=.type "dict",data:=.dict #[] } }:ag).heap.objs.size=s.heap.objs.size+1 from dv ..];exact aa (ai (ai h))
def bV (X:Cx) (scope:gh) (N:List Str) (s:ag) (H:Hp) (ex:List ah):Cx:={ X with N:=N,s₀:=s,H₀:=H,env:=F3 scope X.env s.heap.objs.size,outer:=X.stack,stack:=X.stack,ex:=ex,fn:=λx=>scope.names.lookup x==some .cell,xe:=λ_ _=>False }
def oF (cap:List (Option Nat)) (σ:St):St:=cap.map λo=>match o with|some j=>(σ[j]?).getD none|none=>none
structure CapOk (X:Cx) (scope:gh) (N:List Str) (cap:List (Option Nat)):Prop where
 kind:scope.kind=.function
 nd:∀x∈scope.names,x.2=.local->scope.names.lookup x.1=some .local
 len:cap.length=N.length
 free:∀x,(x,bz)∈scope.names->X.env.kindOf x=some .cell∨X.env.kindOf x=some .free
 apart:∀x,(x,bz)∈scope.names->(x,dq)∉scope.names
 cap:∀(i j:Nat) (x:Str),cap[i]?=some (some j)->N[i]?=some x->X.N[j]?=some x/\(x,bz)∈scope.names/\(relabel scope X.env).names.lookup x≠some .local
theorem zB {scope:gh}{env:Env}{x:Str}:∀{l:List (Str×jr)}{k:jr},(l.map λ(n,k)=>if(k==bz&&env.scope.kind==.function&&env.kindOf n==some .cell)then(n,dq)else(n,k)).lookup x=some k->
  (x,k)∈l∨(k=.cell/\(x,bz)∈l)
 | [],_,h=>by simp at h
 |(n,q)::r,k,h=>by
  have ih:=@zB scope env x r k;rw[dw]at h
  by_cases hc:(q==bz&&env.scope.kind==.function&&env.kindOf n==some .cell)=true
  ·have hq:q=.free:=by
    have:(q==bz)=true:=by
     cases z:q==bz with
     |true=>rfl
     |false=>rw[z]at hc;simp at hc
    cases q <;> first|rfl|cases this
   dsimp only at h;rw[if_pos hc,gv]at h
   cases e:x==n with
   |true=>rw[e]at h;have h':dq=k:=cz h;subst h';have ex:=beq_iff_eq.mp e;subst ex;subst hq;exact .inr ⟨rfl,bh ..⟩
   |false=>rw[e]at h;exact(ih h).imp (av _) λ⟨a,b⟩=>⟨a,av _ b⟩
  ·dsimp only at h;rw[if_neg hc,gv]at h
   cases e:x==n with
   |true=>rw[e]at h;have h':q=k:=cz h;subst h';have ex:=beq_iff_eq.mp e;subst ex;exact .inl (bh ..)
   |false=>rw[e]at h;exact(ih h).imp (av _) λ⟨a,b⟩=>⟨a,av _ b⟩
theorem uC {env:Env}{x:Str}{c:ah}:∀(l:List (Str×jr)) (acc:List (Str×ah)),(cS env l acc).lookup x=some c->acc.lookup x=some c∨((x,bz)∈l/\c=(env.cells.lookup x).getD 0)
 | [],acc,h=>.inl h
 |(y,k)::l,acc,h=>by
  rw[cS]at h
  cases hk:k==bz with
  |true=>
   have ek:k=.free:=by cases k <;> first|rfl|cases hk
   subst ek;rw[if_pos hk]at h
   rcases uC l _ h with q|⟨q1,q2⟩
   ·rw[uA]at q
    by_cases e:x=y
    ·rw[if_pos e]at q;subst e;exact .inr ⟨bh ..,(cz q).symm⟩
    ·rw[if_neg e]at q;exact .inl q
   ·exact .inr ⟨av _ q1,q2⟩
  |false=>rw[if_neg (by rw[hk];exact fz)]at h;exact(uC l _ h).imp id λ⟨a,b⟩=>⟨av _ a,b⟩
section
variable{X:Cx}{pins:List (ah×Obj)}{σ:St}{H:Hp}{s:ag}{scope:gh}{N:List Str}{cap:List (Option Nat)}{ex:List ah}
theorem uD (I:Inv X pins σ H s) (C:CapOk X scope N cap) {x:Str}{c:ah}(e:(cS X.env scope.names []).lookup x=some c):(x,bz)∈scope.names/\X.env.cells.lookup x=some c:=by
 rcases uC _ _ e with q|⟨q1,q2⟩
 ·cases q
 ·obtain⟨c',h'⟩:=I.ok.has x (C.free x q1);rw[h']at q2;subst q2;exact⟨q1,h'⟩
theorem uE (I:Inv X pins σ H s) (C:CapOk X scope N cap) {x:Str}{c:ah}(e:(F3 scope X.env s.heap.objs.size).cells.lookup x=some c):
  (X.env.cells.lookup x=some c/\(x,bz)∈scope.names)∨(s.heap.objs.size<c/\(pushCells (s.heap.push { cls:=.type "dict",data:=.dict #[] }) scope.names).IsCell c none/\(x,dq)∈scope.names):=by
 have B:=qF scope.names (s.heap.push { cls:=.type "dict",data:=.dict #[] }) (cS X.env scope.names []);rw[dv]at B
 rcases B.cases x c e with q|⟨q1,q2,q3⟩
 ·obtain⟨a,b⟩:=uD I C q;exact .inl ⟨b,a⟩
 ·rw[dv]at q1;exact .inr ⟨q1,q2,q3⟩
theorem F6 (I:Inv X pins σ H s) (C:CapOk X scope N cap) (hex:∀b∈ex,bZ X pins H b/\b<s.heap.objs.size):(bV X scope N s H ex).Ok:=by
 have B:=qF scope.names (s.heap.push { cls:=.type "dict",data:=.dict #[] }) (cS X.env scope.names []);rw[dv]at B;have kf:∀x,(x,bz)∈scope.names->∃c,X.env.cells.lookup x=some c:=λx hx=>I.ok.has x (C.free x hx);refine⟨I.ok.mod,C.kind,I.ok.glob,I.ok.blt,ak _, ?_, ?_, ?_,I.ok.hd,I.ok.frames,.inl rfl, ?_,I.bs,dk I.ok.bsz I.sz, ?_, ?_,I.stack,I.stkFree⟩
 ·refine B.inj (λx y c e1 e2=>?_) λx c e=>?_
  ·exact I.ok.inj x y c (uD I C e1).2 (uD I C e2).2
  ·obtain⟨v,q⟩:=I.cell x c (uD I C e).2;rw[dv];exact iz q.lt
 ·intro x hx;have hx':(relabel scope X.env).names.lookup x=some .cell∨(relabel scope X.env).names.lookup x=some .free:=hx;have mem:(x,dq)∈scope.names∨(x,bz)∈scope.names:=by
   rcases hx' with h|h
   ·rcases zB (scope:=scope) h with q|⟨_,q⟩
    ·exact .inl q
    ·exact .inr q
   ·rcases zB (scope:=scope) h with q|⟨z,q⟩
    ·exact .inr q
    ·exact .inr q
  by_cases hc:(x,dq)∈scope.names
  ·exact B.own x hc
  ·rcases mem with h|h
   ·exact absurd h hc
   ·exact⟨_,(B.old x hc).trans (qE _ _ (.inl h))⟩
 ·intro x c hf e;have hf':(scope.names.lookup x==some .cell)=true:=hf;have hm:(x,dq)∈scope.names:=ff (eq_of_beq hf')
  rcases uE I C e with⟨_,q⟩|⟨q,_⟩
  ·exact absurd hm (C.apart x q)
  ·exact gr q
 ·intro b hb;obtain⟨⟨f0,f1,f2,f3,f4,f5⟩,hlt⟩:=hex b hb;refine⟨bc hlt,λx c e z=>?_⟩
  rcases uE I C e with⟨q,_⟩|⟨q,_⟩
  ·exact f4 x c q z
  ·subst z;exact fj _ (Nat.lt_trans q hlt)
 ·intro b o e hb;obtain⟨⟨f0,f1,f2,f3,f4,f5⟩,hlt⟩:=hex b hb
  rcases f3 with q|q
  ·exact I.ok.noex b o e q
  ·exact fj _ (ar (ao e) (dk I.ok.bsz q))
 ·intro b hb z;obtain⟨⟨f0,f1,f2,f3,f4,f5⟩,hlt⟩:=hex b hb
  rcases bg.mp (I.stkSub b z)with q|q
  ·exact f1 q
  ·exact f2 q
theorem F7 (I:Inv X pins σ H s) (C:CapOk X scope N cap) (hex:∀b∈ex,bZ X pins H b/\b<s.heap.objs.size):
  Inv (bV X scope N s H ex) pins (oF cap σ) H { s with heap:=pushCells (s.heap.push { cls:=.type "dict",data:=.dict #[] }) scope.names }:=by
 have B:=qF scope.names (s.heap.push { cls:=.type "dict",data:=.dict #[] }) (cS X.env scope.names []);rw[dv]at B;have kp:∀b o,s.heap.get? b=some o->(pushCells (s.heap.push { cls:=.type "dict",data:=.dict #[] }) scope.names).get? b=some o:=λb o e=>ka _ _ _ _ (aj _ e);have ns:(pushCells (s.heap.push { cls:=.type "dict",data:=.dict #[] }) scope.names).Ns s.heap.objs.size (λ_=>none):=⟨_,#[],_,ka _ _ _ _ (ay _ rfl),rfl,(λe he=>absurd he (by simp)),λ_=>rfl⟩
 obtain⟨m,hn,hl⟩:=I.loc;refine⟨F6 I C hex,rfl,I.bare,Un.kept kp,⟨_,ns,λi x v h1 h2 h3=>?_⟩,λx c e=>?_,I.hok.fresh (ak _),λx c e=>?_,λp hp=>?_,I.hok.kept kp, ?_⟩
 ·have h2':(cap.map λo=>match o with|some j=>(σ[j]?).getD none|none=>none)[i]?=some (some v):=h2;rw[du]at h2'
  cases q:cap[i]? with
  |none=>rw[q]at h2';cases h2'
  |some o=>
   rw[q]at h2'
   cases o with
   |none=>cases h2'
   |some j=>
    have e1:(σ[j]?).getD none=some v:=cz h2';have e2:σ[j]?=some (some v):=by
     cases z:σ[j]? with
     |none=>rw[z]at e1;cases e1
     |some w=>rw[z]at e1;exact congrArg some e1
    obtain⟨c1,c2,c3⟩:=C.cap i j x q h1;have vis:oC X.env.scope x:=by
     rcases C.free x c2 with z|z
     ·exact .inr (.inl z)
     ·exact .inr (.inr z)
    obtain⟨u,r,l⟩:=hl j x v c1 e2 vis;refine⟨u,r, ?_⟩
    rcases l with⟨hk,hm⟩|⟨hk,c,hc,hcell⟩
    ·rcases C.free x c2 with z|z
     ·rw[z]at hk;cases hk
     ·rw[z]at hk;cases hk
    ·refine .inr ⟨?_,c, ?_, ?_⟩
     ·have h3':oC (relabel scope X.env) x:=h3
      rcases h3' with z|z|z
      ·exact absurd z c3
      ·exact .inl z
      ·exact .inr z
     ·have:=(B.old x (C.apart x c2)).trans (qE _ _ (.inl c2));rw[hc]at this;exact this
     ·obtain⟨o,ho,hd⟩:=hcell;exact⟨o,kp _ _ ho,hd⟩
 ·rcases uE I C e with⟨q,_⟩|⟨_,q,_⟩
  ·obtain⟨v,o,ho,hd⟩:=I.cell x c q;exact⟨v,o,kp _ _ ho,hd⟩
  ·exact⟨none,q⟩
 ·rcases uE I C e with⟨q,_⟩|⟨q,_⟩
  ·exact I.freeC x c q
  ·exact I.hok.fresh (gr q)
 ·obtain⟨a1,a2,a3,a4,a5⟩:=I.pin p hp;refine⟨kp _ _ a1,a2,bc (ao a1),λz=>?_,a5⟩
  rcases bg.mp (I.stkSub _ z)with q|q
  ·exact a3 q
  ·exact a4 q
 ·show(cap.map _).length=N.length;rw[br];exact C.len
theorem F8 (I:Inv X pins σ H s) (C:CapOk X scope N cap) (hex:∀b∈ex,bZ X pins H b/\b<s.heap.objs.size):∀b∈ex,bZ (bV X scope N s H ex) pins H b:=by intro b hb;obtain⟨⟨f0,f1,f2,f3,f4,f5⟩,hlt⟩:=hex b hb;have ok:=F6 (N:=N) I C hex;exact⟨f0,(ok.exf b hb).1,ok.exfs b hb,.inl hb,(ok.exf b hb).2,f5⟩
theorem zC {σ':St}{H':Hp}{s':ag}{h':cw}(I:Inv X pins σ H s) (hex:∀b∈ex,bZ X pins H b/\b<s.heap.objs.size) (I':Inv (bV X scope N s H ex) pins σ' H' s') (hh:fv s.heap.objs.size s'.heap h'):
  Inv X pins σ H' { s' with heap:=h' }:=by
 have u:Un (cH X.stack) ex H H' s.heap s'.heap:=I'.base;have up:∀b o o',s.heap.get? b=some o->s'.heap.get? b=some o'->h'.get? b=some o':=λb o o' e e'=>(hh.2 b (bc (ao e))).trans e';have hL:H' s.heap.objs.size=none:=I'.free;refine I.call' (s':={ s' with heap:=h' }) (ch:=ex) I'.os ⟨λb o q n hb hx=>up b o o q (u.keep b o q n hb hx),λb o q n hb hx=>?_,u.free,λb o q hx=>?_,u.tups,u.frzs,u.tbls⟩ (λb o e=>?_) I'.bare λb hb=>?_
 ·obtain⟨sl,e⟩:=u.slot b o q n hb hx;exact⟨sl,up b o _ q e⟩
 ·obtain⟨o',e⟩:=u.there b o q hx;exact⟨o',up b o _ q e⟩
 ·refine(I'.hok b o e).stay (λc v hc q=>(hh.2 c ?_).trans q) (λ_ q=>q) λ_ _ q=>q
  rcases hc with z|z
  ·rw[z];rintro rfl;rw[hL]at e;cases e
  ·rintro rfl;rw[hL]at z;cases z
 ·obtain⟨⟨f0,f1,f2,f3,f4,f5⟩,hlt⟩:=hex b hb;exact⟨f3,f1,f4,f5⟩
theorem Inv.adopt {a:ah}{o:HO}(I:Inv X pins σ H s) (f:bZ X pins H a) (ha:X.s₀.heap.objs.size<=a) (new:ObjOk X.prog X.w (aM H a o) s.heap a o):Inv X pins σ (aM H a o) s:=by
 obtain⟨f0,f1,f2,f3,f4,f5⟩:=f;have ne0:∀b ob,X.s₀.heap.get? b=some ob->b≠a:=λb ob e z=>by subst z;exact fj _ (ar (ao e) ha)
 refine⟨I.ok,I.os,I.bare,⟨I.base.keep,I.base.slot,λb ob e n hx=>by rw[bA (ne0 b ob e)];exact I.base.free b ob e n hx,I.base.there,λb xs e=>?_,λb ob u e=>?_,λb ps e=>?_⟩,I.loc,I.cell,by rw[bA (cy f1)];exact I.free,
  λx c e=>by rw[bA (f4 x c e)];exact I.freeC x c e,λp hp=>?_,λb u e=>?_,I.len⟩
 ·have:=I.base.tups b xs e;rw[bA (cW this f0)];exact this
 ·have:=I.base.frzs b ob u e;rw[bA (cW this f0)];exact this
 ·obtain⟨more,this⟩:=I.base.tbls b ps e;exact⟨more,by rw[bA (cW this f0)];exact this⟩
 ·obtain⟨a1,a2,a3,a4,a5⟩:=I.pin p hp;exact⟨a1,by rw[bA (f5 p hp)];exact a2,a3,a4,a5⟩
 ·by_cases hb:b=a
  ·subst hb;rw[bT]at e;cases e;exact new
  ·rw[bA hb]at e;exact(I.hok b u e).stay (λ_ _ _ q=>q) (λc q=>by rw[bA (cW q f0)];exact q) λc xs q=>by rw[bA (cW q f0)];exact q
end
def AccAt (s:ag) (D:ah) (xs:List V):Prop:=xs.length<=cn/\∃(its:List af) (n:Nat),Vals xs its/\s.heap.get? D=some { cls:=.type "list",data:=.seq its.toArray n }
abbrev TC:=St->Hp->List V->(St->Hp->List V->Prop)->Prop
def PCl (X:Cx) (D:ah) (m:Sem Unit) (t:TC):Prop:=
 ∀(pins:List (ah×Obj)) (s:ag) (σ:St) (H:Hp) (xs:List V) (K:St->Hp->List V->Prop),Inv X pins σ H s->AccAt s D xs->bZ X pins H D->t σ H xs K->
  wpAny (model X.prog X.w) X.A m (λ_ s'=>∃σ' H' xs',Inv X pins σ' H' s'/\AccAt s' D xs'/\H' D=none/\K σ' H' xs') X.xe s
section
variable{X:Cx}{D:ah}
theorem AccAt.obj {s:ag}{xs:List V}(a:AccAt s D xs):∃o,s.heap.get? D=some o/\∀v,o.data≠.cell v:=by obtain⟨_,its,n,_,e⟩:=a;exact⟨_,e,λv z=>nomatch z⟩
theorem Inv.pinD {pins:List (ah×Obj)}{s:ag}{σ:St}{H:Hp}{xs:List V}(I:Inv X pins σ H s) (a:AccAt s D xs) (f:bZ X pins H D):Inv X (pins++fJ [D] s.heap) σ H s:=
 I.pinned (λb hb=>by (have e:b=D:=by simpa using hb);subst e;exact f) λb hb=>by
  have e:b=D:=by simpa using hb
  subst e;exact a.obj
theorem Inv.atD {pins:List (ah×Obj)}{s s':ag}{σ':St}{H':Hp}{xs:List V}(a:AccAt s D xs) (I:Inv X (pins++fJ [D] s.heap) σ' H' s'):AccAt s' D xs/\H' D=none:=by obtain⟨z,its,n,r,e⟩:=a;have:=I.pin (D,_) (bo _ (bo _ (lL (by simp) e)));exact⟨⟨z,its,n,r,this.1⟩,this.2.1⟩
def qG (te:TE):TC:=λσ H xs K=>te σ H λv H1=>xs.length<cn/\K σ H1 (xs++[v])
theorem qH {elt:bp}{te:TE}(he:PE X elt te):PCl X D (do let x <-eval elt X.env;let _ <-call (.builtin "list.append") [.ref D,x];pure ()) (qG te):=by
 intro pins s σ H xs K I a f h;refine aa (aU (he _ s σ H _ (I.pinD a f) h) λu s1 ⟨v,H1,I1,r1,hz,q1⟩=>?_);obtain⟨a1,n1⟩:=Inv.atD a I1;have I1':=I1.unpinned;obtain⟨z,its,n,r,e⟩:=a1;have hl:=r.length;refine aa (vh F.slot_list_append ⟨_,e,rfl⟩ F.entry_list_append (F.args_list_append_2 _ _) (PySem.list_append D its.toArray n u (by rw[aw];omega)) ⟨e, ?_⟩);have q:=Ag e (·.push u);have e2:its.toArray.push u=(its++[u]).toArray:=by simp
 rw[e2]at q;refine ai ⟨σ,H1,xs++[v], ?_,⟨by rw[cm,Ah];omega,its++[u],_,r.append (.cons r1 .nil),q⟩,n1,q1⟩;obtain⟨f0,f1,f2,f3,f4,f5⟩:=f;exact I1'.turned (t':=s1.toks) (λb o hb z=>(lh s1.heap _ (cy hb)).trans z) n1 f1 f3 f4 f5
def F9 (ifs:List bp) (env:Env):Sem Bool:=forIn ifs true λc r=>if r=true then do let ok <-isTrue c env (eval c env);pure (pz ok)else pure (pz r)
def PTs (X:Cx) (ifs:List bp) (t:TT):Prop:=∀(pins:List (ah×Obj)) (s:ag) (σ:St) (H:Hp) (Q:Bool->Hp->Prop),Inv X pins σ H s->t σ H Q->wpAny (model X.prog X.w) X.A (F9 ifs X.env) (TP X pins σ Q) X.xe s
def RT:TT:=λ_ H Q=>Q true H
theorem RU:PTs X [] RT:=λpins s σ H Q I h=>wpAny_tests_nil ⟨H,I,h⟩
theorem GA {c:bp}{t:TT}(h:PT X c t):PTs X [c] t:=λpins s σ H Q I q=>wpAny_tests_one (h pins s σ H Q I q)
def iW (p:Pos) (it:af) (tg:bp) (ifs:List bp) (env:Env) (inner:Sem Unit) (c:Code):Sem PySem.Fin:=do
 standAt p
 match <-pyNext it with
 |none=>pure (.done .next)
 |some v=>do
  letOwnedTupleGo tg it v
  assign tg env v
  let ok <-F9 ifs env
  if ok=true then do inner;again c
  else again c
def mT (J:It) (g:TG) (tt:TT) (inner:TC) (K:St->Hp->List V->Prop) (σ:St) (H:Hp) (xs:List V):Prop:=
 ∃W:Nat->Nat->St->Hp->List V->Prop,(∃m,W 0 m σ H xs)/\∀i m σ H xs,W i m σ H xs->
  (J.stop i H/\K σ H xs)∨(J.go i H/\∃N:St->Hp->List V->Prop,(∀σ' H' xs',N σ' H' xs'->∃m',m'<m/\W (i+1) m' σ' H' xs') /\
   ∀x H',J.yld i H x H'->g x σ H' λσ2 H2=>tt σ2 H2 λb H3=>if b=true then inner σ2 H3 xs N else N σ2 H3 xs)
theorem GB {elt:bp}{gens:List jf}{sc:gh}{ps:Pos}{d:Nat}{it:ah}{tg:bp}{ifs:List bp}{p:Pos}{inner:Sem Unit}{g:TG}{tt:TT}{ti:TC}{J:It}{fp:List ah}{tn:Nat->cw->Prop}
  (hx:X.xe=λ_ _=>False) (hc:X.calm=true)
  (ht:compTurn (.ListComp elt gens sc ps) d (.ref it) (.ref D) X.env=iW p (.ref it) tg ifs X.env inner (.compLoop (.ListComp elt gens sc ps) d (.ref it) (.ref D) X.env))
  (hg:PG X tg g) (htt:PTs X ifs tt) (hi:PCl X D inner ti) (T:Turn X.prog X.w X.K tg J fp it tn)
  {pins:List (ah×Obj)}{s:ag}{σ:St}{H:Hp}{xs:List V}{K:St->Hp->List V->Prop}{R:xw->ag->Prop}(I:Inv X pins σ H s) (a:AccAt s D xs) (f:bZ X pins H D) (st:tn 0 s.heap) (hf:∀b∈fp,bZ X pins H b) (hD:D∉fp)
  (h:mT J g tt ti K σ H xs) (hR:∀σ' H' xs' s',Inv X pins σ' H' s'->AccAt s' D xs'->H' D=none->K σ' H' xs'->R (.ok .next) s'):
  codeAny (model X.prog X.w) X.A (.compLoop (.ListComp elt gens sc ps) d (.ref it) (.ref D) X.env) R s:=by
 obtain⟨W,⟨m0,w0⟩,turn⟩:=h;have stat:∀{H':Hp},(∀b∈fp,H' b=none)->∀b∈fp,bZ X pins H' b:=λhn b hb=>⟨hn b hb,(hf b hb).2⟩
 have statD:∀{H':Hp},H' D=none->bZ X pins H' D:=λhn=>⟨hn,f.2⟩
 refine codeAny_loop rfl (λn s'=>∃i σ' H' xs',Inv X pins σ' H' s'/\AccAt s' D xs'/\H' D=none/\tn i s'.heap/\(∀b∈fp,H' b=none)/\W i n σ' H' xs') ?_ m0 ⟨0,σ,H,xs,I,a,f.1,st,λb hb=>(hf b hb).1,w0⟩
 rintro n s3 ⟨i,σ3,H3,xs3,I3,a3,n3,st3,fr3,w3⟩
 show wpAny _ X.A ((compTurn (.ListComp elt gens sc ps) d (.ref it) (.ref D) X.env).onRaise (λx=>do noteFrame x X.env;theTreesLotGoes x)) _ _ s3;rw[ht];refine qz (jn (Q:=λfin s'=>match fin with | .done f=>R (.ok f) s' | .again c'=>c'=.compLoop (.ListComp elt gens sc ps) d (.ref it) (.ref D) X.env/\∃m,m<n/\∃i σ' H' xs',Inv X pins σ' H' s'/\AccAt s' D xs'/\H' D=none/\tn i s'.heap/\(∀b∈fp,H' b=none)/\W i m σ' H' xs') (E:=λ_ _=>False) ?_ (λ_ _ z=>z) λ_ _ z=>z.elim);unfold iW;refine aa (og (aa ?_));have xe':∀{α:Type}{m:Sem α}{Q:α->ag->Prop}{s:ag},wpAny (model X.prog X.w) X.A m Q X.xe s->wpAny (model X.prog X.w) X.A m Q (λ_ _=>False) s:=λ{α m Q s} z=>by rw[hx]at z;exact z
 have I3':=I3.pinD a3 (statD n3);have fr3':∀b∈fp,bZ X (pins++fJ [D] s3.heap) H3 b:=λb hb=>by
  obtain⟨g0,g1,g2,g3,g4,g5⟩:=stat fr3 b hb;refine⟨g0,g1,g2,g3,g4,λp hp=>?_⟩
  rcases bq.mp hp with z|z
  ·exact g5 p (fy _ z)
  ·rcases bq.mp z with z|z
   ·exact g5 p (bo _ z)
   ·have:=(pZ z).1;have e:p.1=D:=by simpa using this
    rw[e];rintro rfl;exact hD hb
 rcases turn i n σ3 H3 xs3 w3 with⟨stop,qn⟩|⟨go,N,hN,step⟩
 ·refine aU (T.done X rfl rfl rfl hc i _ s3 σ3 H3 (λ_ _=>False) I3' fr3' st3 stop) λr s4 ⟨hr,I4⟩=>?_;subst hr;obtain⟨a4,n4⟩:=Inv.atD a3 I4;exact ai (hR σ3 H3 xs3 s4 I4.unpinned a4 n4 qn)
 ·refine aU (T.item X rfl rfl rfl hc i _ s3 σ3 H3 (λ_ _=>False) I3' fr3' st3 go) λr s4 ⟨u,hr,h4⟩=>?_;subst hr;refine aa (aU h4 λ_ s5 ⟨x,H5,I5,r5,y5,st5,fr5⟩=>?_);obtain⟨a5,n5⟩:=Inv.atD a3 I5;have I5u:=I5.unpinned;have I5p:=I5u.pinned (stat fr5) (T.obj _ _ st5);have fD5:bZ X (pins++fJ fp s5.heap) H5 D:=by
   obtain⟨g0,g1,g2,g3,g4,g5⟩:=statD n5;refine⟨g0,g1,g2,g3,g4,λp hp=>?_⟩
   rcases bq.mp hp with z|z
   ·exact g5 p (fy _ z)
   ·rcases bq.mp z with z|z
    ·exact g5 p (bo _ z)
    ·rintro rfl;exact hD (pZ z).1
  have I5':=I5p.pinD a5 fD5;refine aa (xe' (aU (hg _ s5 σ3 H5 x u _ I5' r5 (step x H5 y5)) λ_ s6 ⟨σ6,H6,I6,q6⟩=>?_));obtain⟨a6,n6⟩:=Inv.atD a5 I6;have pin':∀{s σ H},Inv X (pins++fJ fp s5.heap) σ H s->tn (i+1) s.heap/\∀b∈fp,H b=none:=λ{s σ H} J=>by refine⟨T.keep _ _ _ st5 λb hb o e=>(J.pin (b,o) (bo _ (bo _ (lL hb e)))).1,λb hb=>?_⟩;obtain⟨o,e,d⟩:=T.obj _ _ st5 b hb;exact(J.pin (b,o) (bo _ (bo _ (lL hb e)))).2.1
  have fD6:bZ X (pins++fJ fp s5.heap) H6 D:=⟨n6,fD5.2⟩
  have I6u:=I6.unpinned;have I6p:=I6u.pinD a6 fD6;refine aa (xe' (aU (htt _ s6 σ6 H6 _ I6p q6) λb s7 ⟨H7,I7,q7⟩=>?_));obtain⟨a7,n7⟩:=Inv.atD a6 I7;have I7u:=I7.unpinned;have fin:∀{s8 σ8 H8 xs8},Inv X (pins++fJ fp s5.heap) σ8 H8 s8->AccAt s8 D xs8->H8 D=none->N σ8 H8 xs8->
    ∃m,m<n/\∃i σ' H' xs',Inv X pins σ' H' s8/\AccAt s8 D xs'/\H' D=none/\tn i s8.heap/\(∀b∈fp,H' b=none)/\W i m σ' H' xs':=λ{s8 σ8 H8 xs8} J a8 n8 q8=>by
   obtain⟨m',hm,w8⟩:=hN σ8 H8 xs8 q8;obtain⟨t8,fr8⟩:=pin' J;exact⟨m',hm,i+1,σ8,H8,xs8,J.unpinned,a8,n8,t8,fr8,w8⟩
  cases b with
  |true=>
   rw[if_pos rfl]at q7 ⊢;have fD7:bZ X (pins++fJ fp s5.heap) H7 D:=⟨n7,fD5.2⟩
   refine aa (xe' (aU (hi _ s7 σ6 H7 xs3 N I7u a7 fD7 q7) λ_ s8 ⟨σ8,H8,xs8,I8,a8,n8,q8⟩=>?_));exact ai ⟨rfl,fin I8 a8 n8 q8⟩
  |false=>rw[if_neg fz]at q7 ⊢;exact ai ⟨rfl,fin I7u a7 n7 q7⟩
end
theorem zD (elt tg iter:bp) (ifs:List bp) (sc:gh) (ps:Pos) (it:af) (D:ah) (env:Env):
  compTurn (.ListComp elt [⟨tg,iter,ifs,0⟩] sc ps) 0 it (.ref D) env =
   iW iter.pos it tg ifs env (do let x <-eval elt env;let _ <-call (.builtin "list.append") [.ref D,x];pure ()) (.compLoop (.ListComp elt [⟨tg,iter,ifs,0⟩] sc ps) 0 it (.ref D) env):=by rfl
def oG (iter:bp) (e:bp) (d:Nat) (D:ah) (env:Env):Sem Unit:=do
 let x <-eval iter env
 standAt iter.pos
 let x <-foldedSetIterable iter env x
 let it <-holding [x] (pyIter x)
 let _ <-runOwn (.compStart e d it (.ref D) env) env
 pure ()
theorem GC (elt tg iter tg' iter':bp) (ifs ifs':List bp) (sc:gh) (ps:Pos) (it:af) (D:ah) (env:Env):
  compTurn (.ListComp elt [⟨tg,iter,ifs,0⟩,⟨tg',iter',ifs',0⟩] sc ps) 0 it (.ref D) env =
   iW iter.pos it tg ifs env (oG iter' (.ListComp elt [⟨tg,iter,ifs,0⟩,⟨tg',iter',ifs',0⟩] sc ps) 1 D env) (.compLoop (.ListComp elt [⟨tg,iter,ifs,0⟩,⟨tg',iter',ifs',0⟩] sc ps) 0 it (.ref D) env):=by
 unfold iW oG;simp only[bind_assoc,pure_bind];rfl
theorem GD (elt tg iter tg' iter':bp) (ifs ifs':List bp) (sc:gh) (ps:Pos) (it:af) (D:ah) (env:Env):
  compTurn (.ListComp elt [⟨tg,iter,ifs,0⟩,⟨tg',iter',ifs',0⟩] sc ps) 1 it (.ref D) env =
   iW iter'.pos it tg' ifs' env (do let x <-eval elt env;let _ <-call (.builtin "list.append") [.ref D,x];pure ()) (.compLoop (.ListComp elt [⟨tg,iter,ifs,0⟩,⟨tg',iter',ifs',0⟩] sc ps) 1 it (.ref D) env):=by rfl
section
variable{X:Cx}{D:ah}
theorem zE {prog:bj}{w:cq}{A:cu}{R:xw->ag->Prop}{s:ag}{elt:bp}{gens:List jf}{sc:gh}{ps:Pos}{d:Nat}{it acc:af}{env:Env}(ha:((gens)[d]?).elim false (·.is_async != 0)=false)
  (h0:codeAny (model prog w) A (.compLoop (.ListComp elt gens sc ps) d it acc env) R s)
  (h:wpAny (model prog w) A (pyIter it) (λit' s'=>codeAny (model prog w) A (.compLoop (.ListComp elt gens sc ps) d it' acc env) R s') (λ_ _=>False) s):
  codeAny (model prog w) A (.compStart (.ListComp elt gens sc ps) d it acc env) R s:=by
 refine codeAny_of_tree ?_;show wpAny _ _ ((compStart (.ListComp elt gens sc ps) d it acc env).onRaise (λx=>do noteFrame x env;standAt theWindowsPlace)) _ _ s;refine wpAny_notedAt (jn (E:=λ_ _=>False) ?_ (λ_ _ z=>z) λ_ _ z=>z.elim);unfold compStart;rw[show((clausesOf (.ListComp elt gens sc ps))[d]?).elim false (·.is_async != 0)=false from ha];simp only[cg,if_false];refine aa (kq (wpAny_ite ?_))
 split
 ·first
   |exact aa (ai (ai (And.intro rfl h0)))
   |exact ai (And.intro rfl h0)
 ·have fin:∀s:ag,wpAny (model prog w) A (pyIter it) (λit' s'=>codeAny (model prog w) A (.compLoop (.ListComp elt gens sc ps) d it' acc env) R s') (λ_ _=>False) s->
    wpAny (model prog w) A (do let it' <-pyIter it;again (.compLoop (.ListComp elt gens sc ps) d it' acc env)) (λfin s'=>match fin with | .done f=>R (.ok f) s' | .again c=>c.quiet=true/\codeAny (model prog w) A c R s') (λ_ _=>False) s:=λs h=>aa (jn h (λit' s' h'=>ai ⟨rfl,h'⟩) λ_ _ x=>x)
  refine aa (si ?_);have ec:clausesOf (.ListComp elt gens sc ps)=gens:=rfl;rw[ec]
  cases q:gens[d]? with
  |none=>exact fin s h
  |some g=>exact aa (og (fin s h))
def GF (wi:TI) (g:TG) (tt:TT) (inner:TC):TC:=λσ H xs K=>wi σ H λJ H1=>mT J g tt inner K σ H1 xs
theorem GG {elt:bp}{gens:List jf}{sc:gh}{ps:Pos}{d:Nat}{tg iter:bp}{ifs:List bp}{inner:Sem Unit}{wi:TI}{g:TG}{tt:TT}{ti:TC}
  (hx:X.xe=λ_ _=>False) (hc:X.calm=true) (ha:((gens)[d]?).elim false (·.is_async != 0)=false)
  (ht:∀it,compTurn (.ListComp elt gens sc ps) d (.ref it) (.ref D) X.env=iW iter.pos (.ref it) tg ifs X.env inner (.compLoop (.ListComp elt gens sc ps) d (.ref it) (.ref D) X.env))
  (hi:PI X tg iter wi) (hg:PG X tg g) (htt:PTs X ifs tt) (hin:PCl X D inner ti) (hs:∀x,foldedSetIterable iter X.env x=pure x):
  PCl X D (oG iter (.ListComp elt gens sc ps) d D X.env) (GF wi g tt ti):=by
 intro pins s σ H xs K I a f h;unfold oG;refine aa (aU (hi _ s σ H _ (I.pinD a f) h) λv s1 h1=>aa (og (aa (ze (hs v) (aa (gu (aU h1 λitv s2 h2=>?_)))))));obtain⟨it,fp,tn,J,H2,e,I2,T,st2,f2,lp⟩:=h2;subst e;obtain⟨a2,n2⟩:=Inv.atD a I2;have I2u:=I2.unpinned;have hpD:∀b∈fp,b≠D:=λb hb z=>by subst z;obtain⟨_,its,n,_,eo⟩:=a;exact(f2 b hb).2.2.2.2.2 (b,_) (bo _ (bo _ (lL (by simp) eo))) rfl
 have f2u:∀b∈fp,bZ X pins H2 b:=λb hb=>by
  obtain⟨g0,g1,g2,g3,g4,g5⟩:=f2 b hb;exact⟨g0,g1,g2,g3,g4,λp hp=>g5 p (by
   rcases bq.mp hp with z|z
   ·exact fy _ z
   ·exact bo _ (fy _ z))⟩
 have fD:bZ X pins H2 D:=⟨n2,f.2⟩
 refine aa (wpAny_runOwn ?_);have loop:codeAny (model X.prog X.w) X.A (.compLoop (.ListComp elt gens sc ps) d (.ref it) (.ref D) X.env) (λr s'=>match r with
   | .ok f=>wpAny (model X.prog X.w) X.A (pure ():Sem Unit) (λ_ s'=>∃σ' H' xs',Inv X pins σ' H' s'/\AccAt s' D xs'/\H' D=none/\K σ' H' xs') X.xe s'
   | .error e=>cameBackBy (model X.prog X.w) X.A X.env X.xe e s') s2:=
  GB hx hc (ht it) hg htt hin T I2u a2 fD st2 f2u (λz=>hpD D z rfl) lp λσ' H' xs' s' I' a' n' k'=>ai ⟨σ',H',xs',I',a',n',k'⟩
 exact zE ha loop (T.self _ 0 s2 _ _ st2 loop)
end
def qI (wi:TI) (cap:List (Option Nat)) (g:TG) (tt:TT) (inner:TC):TE:=λσ H Q=>wi σ H λJ H1=>mT J g tt inner (λ_ H' xs=>∀p,H' p=none->Q (.ref p) (aM H' p (.lst xs))) (oF cap σ) H1 []
section
variable{X:Cx}
theorem GH {elt:bp}{gens:List jf}{sc:gh}{ps:Pos}{tg iter:bp}{ifs:List bp}{rest:List jf}{inner:ah->Env->Sem Unit}{g:TG}{tt:TT}{ti:TC}{N:List Str}{cap:List (Option Nat)}{E:af->ag->Prop}
  (hc:X.calm=true) (C:CapOk X sc N cap) (eg:gens=⟨tg,iter,ifs,0⟩::rest)
  (ht:∀it D env,compTurn (.ListComp elt gens sc ps) 0 (.ref it) (.ref D) env=iW iter.pos (.ref it) tg ifs env (inner D env) (.compLoop (.ListComp elt gens sc ps) 0 (.ref it) (.ref D) env))
  (hg:∀s H ex,PG (bV X sc N s H ex) tg g) (htt:∀s H ex,PTs (bV X sc N s H ex) ifs tt) (hin:∀s H ex D,PCl (bV X sc N s H ex) D (inner D (bV X sc N s H ex).env) ti)
  {pins:List (ah×Obj)}{s2:ag}{σ:St}{H2:Hp}{K:St->Hp->List V->Prop}{it:ah}{fp:List ah}{tn:Nat->cw->Prop}{J:It}(I2:Inv X pins σ H2 s2) (T:Turn X.prog X.w X.K tg J fp it tn) (st2:tn 0 s2.heap) (f2:∀b∈fp,bZ X pins H2 b)
  (lp:mT J g tt ti K (oF cap σ) H2 []) {R:af->ah->xw->ag->Prop}
  (hR:∀σ' H' xs (s3 s':ag) (C D:ah),X.s₀.heap.objs.size<=D->C=s3.heap.objs.size->(∃m,s'.heap.Ns C m)->AccAt s' D xs->bZ X pins H' D->bZ X pins H' C->D<C->(∀h',fv C s'.heap h'->Inv X pins σ H' { s' with heap:=h' })->K σ' H' xs->R (.ref D) C (.ok .next) s'):
  wpAny (model X.prog X.w) X.A (newList []) (λacc s3=>wpAny (model X.prog X.w) X.A (newFunctionEnv sc X.env.globals (cS X.env sc.names []) [] X.env.qual none .none (some X.env)) (λcenv s4=>codeAny (model X.prog X.w) X.A (.compStart (.ListComp elt gens sc ps) 0 (.ref it) acc { cenv with scope:=relabel sc X.env }) (R acc cenv.locals) s4) E s3) E s2:=by
 refine fg (F5 ?_);dsimp only;generalize hs3:({ s2 with heap:=s2.heap.push { cls:=.type "list",dict:=none,data:=.seq ([]:List af).toArray } }:ag)=s3;have kp:∀b o,s2.heap.get? b=some o->s3.heap.get? b=some o:=λb o e=>by rw[<-hs3];exact aj _ e
 have I3:Inv X pins σ H2 s3:=by rw[<-hs3];exact I2.kept (t':=s2.toks) λb o e=>aj _ e
 have eD:s3.heap.get? s2.heap.objs.size=some { cls:=.type "list",data:=.seq ([]:List af).toArray 0 }:=by rw[<-hs3];exact ay _ rfl
 have nD:H2 s2.heap.objs.size=none:=I2.hok.fresh (ak _);have fD:bZ X pins H2 s2.heap.objs.size:=I2.fpOk (ak _) nD;have hlt:s2.heap.objs.size<s3.heap.objs.size:=ao eD;have hex:∀b∈s2.heap.objs.size::fp,bZ X pins H2 b/\b<s3.heap.objs.size:=λb hb=>by
  rcases bg.mp hb with rfl|hb
  ·exact⟨fD,hlt⟩
  ·obtain⟨o,e,_⟩:=T.obj 0 _ st2 b hb;exact⟨f2 b hb,ao (kp b o e)⟩
 have hDfp:s2.heap.objs.size∉fp:=λz=>by obtain⟨o,e,_⟩:=T.obj 0 _ st2 _ z;exact fj _ (ao e)
 have I4:=F7 (N:=N) (ex:=s2.heap.objs.size::fp) I3 C hex;have F4:=F8 (N:=N) I3 C hex;have st4:tn 0 (pushCells (s3.heap.push { cls:=.type "dict",data:=.dict #[] }) sc.names):=T.keep 0 _ _ st2 λb hb o e=>ka _ _ _ _ (aj _ (kp b o e));have a4:AccAt { s3 with heap:=pushCells (s3.heap.push { cls:=.type "dict",data:=.dict #[] }) sc.names } s2.heap.objs.size []:=⟨iu _,[],0,.nil,ka _ _ _ _ (aj _ eD)⟩
 have loop:codeAny (model X.prog X.w) X.A (.compLoop (.ListComp elt gens sc ps) 0 (.ref it) (.ref s2.heap.objs.size) (bV X sc N s3 H2 (s2.heap.objs.size::fp)).env) (R (.ref s2.heap.objs.size) s3.heap.objs.size)
   { s3 with heap:=pushCells (s3.heap.push { cls:=.type "dict",data:=.dict #[] }) sc.names }:=by
  refine GB (X:=bV X sc N s3 H2 (s2.heap.objs.size::fp)) rfl hc (ht it _ _) (hg _ _ _) (htt _ _ _) (hin _ _ _ _) T I4 a4 (F4 _ (bh ..)) st4 (λb hb=>F4 b (av _ hb)) hDfp lp λσ' H' xs' s' I' a' n' k'=>?_;obtain⟨m,hn,_⟩:=I'.loc;exact hR σ' H' xs' s3 s' _ _ (dk I2.sz (ak _)) rfl ⟨m,hn⟩ a' ⟨n',fD.2⟩ (I3.fpOk (ak _) I'.free) hlt (λh' hh=>zC I3 hex I' hh) k'
 have ha:((gens)[0]?).elim false (·.is_async != 0)=false:=by rw[eg];rfl
 subst hs3;exact zE ha loop (T.self _ 0 _ _ _ st4 loop)
theorem GI {elt:bp}{gens:List jf}{sc:gh}{ps:Pos}{tg iter:bp}{ifs:List bp}{rest:List jf}{inner:ah->Env->Sem Unit}{wi:TI}{g:TG}{tt:TT}{ti:TC}{N:List Str}{cap:List (Option Nat)}
  (hc:X.calm=true) (C:CapOk X sc N cap) (eg:gens=⟨tg,iter,ifs,0⟩::rest)
  (ht:∀it D env,compTurn (.ListComp elt gens sc ps) 0 (.ref it) (.ref D) env=iW iter.pos (.ref it) tg ifs env (inner D env) (.compLoop (.ListComp elt gens sc ps) 0 (.ref it) (.ref D) env))
  (hi:PI X tg iter wi) (hg:∀s H ex,PG (bV X sc N s H ex) tg g) (htt:∀s H ex,PTs (bV X sc N s H ex) ifs tt) (hin:∀s H ex D,PCl (bV X sc N s H ex) D (inner D (bV X sc N s H ex).env) ti)
  (hs:∀x,foldedSetIterable iter X.env x=pure x):PE X (.ListComp elt gens sc ps) (qI wi cap g tt ti):=by
 intro pins s σ H Q I h;rw[eval_ListComp];have hcl:closureFor sc X.env=pure (cS X.env sc.names []):=uB λx hx=>I.ok.has x (C.free x hx);have e1:firstAsync gens=false:=by rw[eg];rfl
 have e2:firstIter gens X.env=eval iter X.env:=by rw[eg];rfl
 rw[e1,e2];refine rf (use:=none) (g:=⟨tg,iter,ifs,0⟩) (gs:=rest) (by rw[eg];rfl) hs hcl C.kind C.nd (aU (hi pins s σ H _ I h) λv s1 h1=>aU h1 λitv s2 h2=>?_);obtain⟨it,fp,tn,J,H2,e,I2,T,st2,f2,lp⟩:=h2;subst e;refine GH (N:=N) (inner:=inner) (R:=λacc C=>compPost (model X.prog X.w) X.A X.xe none (EP X pins σ Q) acc C) hc C eg ht hg htt hin I2 T st2 f2 lp ?_;intro σ' H' xs s3 s' C D hD0 hC hn a f fC hDC hout k;obtain⟨m,hn⟩:=hn;refine⟨m,hn,λh' hh=>?_⟩;have I5:=hout h' hh;obtain⟨hz,its,n,r,eD⟩:=a;have eD':h'.get? D=some { cls:=.type "list",data:=.seq its.toArray n }:=(hh.2 D (bc hDC)).trans eD;refine⟨.ref D,aM H' D (.lst xs),I5.adopt f hD0 ⟨hz,its,n,r,eD'⟩,rfl,k D f.1⟩
end
section
variable{X:Cx}
theorem GJ {i:Nat}{x:Str}{px pos:Pos}{elt:bp}{gens:List jf}{sc:gh}{ps:Pos}{tg iter:bp}{ifs:List bp}{rest:List jf}{inner:ah->Env->Sem Unit}{wi:TI}{g:TG}{tt:TT}{ti:TC}{N:List Str}{cap:List (Option Nat)}
  (hsw:swapsWith (.ListComp elt gens sc ps) (some (.Name x px)) pos.line X.env=pure true) (hN:X.N.Nodup) (hi':X.N[i]?=some x) (hx:X.env.scope.names.lookup x=some .local)
  (hc:X.calm=true) (C:CapOk X sc N cap) (eg:gens=⟨tg,iter,ifs,0⟩::rest)
  (ht:∀it D env,compTurn (.ListComp elt gens sc ps) 0 (.ref it) (.ref D) env=iW iter.pos (.ref it) tg ifs env (inner D env) (.compLoop (.ListComp elt gens sc ps) 0 (.ref it) (.ref D) env))
  (hi:PI X tg iter wi) (hg:∀s H ex,PG (bV X sc N s H ex) tg g) (htt:∀s H ex,PTs (bV X sc N s H ex) ifs tt) (hin:∀s H ex D,PCl (bV X sc N s H ex) D (inner D (bV X sc N s H ex).env) ti)
  (hs:∀x,foldedSetIterable iter X.env x=pure x):PS X (.Assign [.Name x px] (.ListComp elt gens sc ps) pos) (tT (qI wi cap g tt ti) (yP i)):=by
 intro pins s σ H D I h;rw[exec_Assign_Name_used _ _ _ _ hsw];have hcl:closureFor sc X.env=pure (cS X.env sc.names []):=uB λx hx=>I.ok.has x (C.free x hx);have e1:firstAsync gens=false:=by rw[eg];rfl
 have e2:firstIter gens X.env=eval iter X.env:=by rw[eg];rfl
 refine aa (og (aa ?_));show wpAny _ X.A (do let _ <-comprehension (.ListComp elt gens sc ps) sc X.env (firstIterPos gens ps) (newList []) (firstAsync gens) (firstIter gens X.env) (some (assign (.Name x px) X.env))) _ _ s;rw[e1,e2];refine aa (aU (rf (use:=some (assign (.Name x px) X.env)) (Q:=λ_ s'=>SP X pins D .next s') (g:=⟨tg,iter,ifs,0⟩) (gs:=rest) (by rw[eg];rfl) hs hcl C.kind C.nd (aU (hi pins s σ H _ I h) λv s1 h1=>aU h1 λitv s2 h2=>?_)) λ_ s' hq=>ai (ai hq));obtain⟨it,fp,tn,J,H2,e,I2,T,st2,f2,lp⟩:=h2;subst e;refine GH (N:=N) (inner:=inner) (R:=λacc C=>compPost (model X.prog X.w) X.A X.xe (some (assign (.Name x px) X.env)) (λ_ s'=>SP X pins D .next s') acc C) hc C eg ht hg htt hin I2 T st2 f2 lp ?_;intro σ' H' xs s3 s' C D' hD0 hC hn a f fC hDC hout k;obtain⟨m,hn⟩:=hn;have I5:Inv X pins σ H' s':=hout s'.heap (rz ..);obtain⟨hz,its,n,r,eD⟩:=a;have I6:Inv X pins σ (aM H' D' (.lst xs)) s':=I5.adopt f hD0 ⟨hz,its,n,r,eD⟩;show wpAny _ X.A (assign (.Name x px) X.env (.ref D')) _ _ s';obtain⟨c0,c1,c2,c3,c4,c5⟩:=fC;have nC:aM H' D' (.lst xs) C=none:=by rw[bA (cy (bc hDC))];exact c0
 refine wpAny_assign_Name (EH (v:=V.ref D') I6 hN hi' (.inl hx) rfl (λs'' I7 ⟨a,sb,ha⟩=>?_) (.inr hx));have hCa:C≠a:=by
  rcases ha with z|z
  ·rw[z];exact c1
  ·exact cy (c4 x a z)
 refine⟨m,hn.sameBut sb hCa,λh' hh=>?_⟩;have I8:Inv X pins (σ.set i (some (.ref D'))) (aM H' D' (.lst xs)) { s'' with heap:=h' }:=I7.turned (t':=s''.toks) (λb o hb e=>(hh.2 b hb).trans e) nC c1 c3 c4 c5;exact⟨_,_,I8,k D' f.1⟩
end
inductive Dt where
 |non|bl (b:Bool)|int (i:Int)|str (x:Str)|tup (xs:List Dt)|lst (xs:List Dt)|dct
mutual
def Den (P:ah->Prop) (H:Hp):Dt->V->Prop
 | .non,v=>v=.non
 | .bl b,v=>v=.bl b
 | .int i,v=>v=.int i
 | .str x,v=>v=.str x
 | .tup ds,v=>∃a vs,v=.ref a/\H a=some (.tup vs)/\DenL P H ds vs
 | .lst ds,v=>∃a vs,v=.ref a/\P a/\H a=some (.lst vs)/\DenL P H ds vs
 | .dct,v=>∃a,v=.ref a/\P a/\H a=some (.dK [])
def DenL (P:ah->Prop) (H:Hp):List Dt->List V->Prop
 | [],vs=>vs=[]
 |d::ds,vs=>∃v r,vs=v::r/\Den P H d v/\DenL P H ds r
end
theorem DenL.length {P:ah->Prop}{H:Hp}:∀{ds:List Dt}{vs:List V},DenL P H ds vs->vs.length=ds.length
 | [],vs,h=>by rw[DenL]at h;rw[h];rfl
 |d::ds,vs,h=>by rw[DenL]at h;obtain⟨v,r,rfl,_,h2⟩:=h;simp[DenL.length h2]
theorem DenL.get {P:ah->Prop}{H:Hp}:∀{ds:List Dt}{vs:List V}{i:Nat}{v:V},DenL P H ds vs->vs[i]?=some v->∃d,ds[i]?=some d/\Den P H d v
 | [],vs,i,v,h,e=>by rw[DenL]at h;rw[h]at e;simp at e
 |d::ds,vs,i,v,h,e=>by
  rw[DenL]at h;obtain⟨w,r,rfl,h1,h2⟩:=h
  cases i with
  |zero=>simp at e;subst e;exact⟨d,rfl,h1⟩
  |succ i=>simp at e;exact DenL.get (i:=i) h2 e
theorem DenL.nil {P:ah->Prop}{H:Hp}:DenL P H [] []:=by rw[DenL]
theorem DenL.cons {P:ah->Prop}{H:Hp}{d:Dt}{v:V}{ds:List Dt}{vs:List V}(h:Den P H d v) (t:DenL P H ds vs):DenL P H (d::ds) (v::vs):=by rw[DenL];exact⟨v,vs,rfl,h,t⟩
mutual
def bN:Dt->Dt->Bool
 | .non,.non=>true
 | .bl a,.bl b=>a==b
 | .bl a,.int j=>(if a then 1 else 0)==j
 | .int i,.bl b=>i==(if b then 1 else 0)
 | .int i,.int j=>i==j
 | .str x,.str y=>x==y
 | .tup xs,.tup ys=>fX xs ys
 | .lst xs,.lst ys=>fX xs ys
 |_,_=>false
def fX:List Dt->List Dt->Bool
 | [],[]=>true
 |x::xs,y::ys=>bN x y&&fX xs ys
 |_,_=>false
end
mutual
def eQ:Dt->Nat
 | .tup xs=>kD xs+1
 | .lst xs=>kD xs+1
 |_=>0
def kD:List Dt->Nat
 | []=>0
 |x::xs=>max (eQ x) (kD xs)
end
mutual
def nod:Dt->Bool
 | .tup xs=>iF xs
 | .lst xs=>iF xs
 | .dct=>false
 |_=>true
def iF:List Dt->Bool
 | []=>true
 |x::xs=>nod x&&iF xs
end
mutual
theorem zF:∀d:Dt,nod d=true->bN d d=true
 | .non,_=>rfl
 | .bl b,_=>by simp[bN]
 | .int i,_=>by simp[bN]
 | .str x,_=>by simp[bN]
 | .tup xs,h=>by rw[bN];exact zG xs (by rw[nod]at h;exact h)
 | .lst xs,h=>by rw[bN];exact zG xs (by rw[nod]at h;exact h)
 | .dct,h=>by simp[nod]at h
theorem zG:∀l:List Dt,iF l=true->fX l l=true
 | [],_=>rfl
 |x::xs,h=>by rw[iF,dj]at h;rw[fX,zF x h.1,zG xs h.2];rfl
end
theorem zH:∀{l:List Dt}{d:Dt},d∈l->eQ d<=kD l
 |x::xs,d,h=>by
  rw[kD]
  rcases bg.mp h with rfl|h
  ·omega
  ·have:=zH h;omega
theorem qJ:∀{l:List Dt}{d:Dt},iF l=true->d∈l->nod d=true
 |x::xs,d,h,hd=>by
  rw[iF,dj]at h
  rcases bg.mp hd with rfl|hd
  ·exact h.1
  ·exact qJ h.2 hd
theorem qK:∀{xs ys:List Dt},xs.length=ys.length->fX xs ys=(bf xs.length).all λi=>bN (xs.getD i .non) (ys.getD i .non)
 | [],[],_=>rfl
 |x::xs,y::ys,h=>by rw[fX,qK (xs:=xs) (ys:=ys) (by simpa using h),cf,zw,List.all_cons,List.all_map];rfl
theorem qL:∀{xs ys:List Dt},xs.length≠ys.length->fX xs ys=false
 | [],[],h=>absurd rfl h
 | [],_::_,_=>rfl
 |_::_,[],_=>rfl
 |x::xs,y::ys,h=>by rw[fX,qL (xs:=xs) (ys:=ys) (by simpa using h),sf]
mutual
theorem Den.inj {P:ah->Prop}{H:Hp}:∀(d d':Dt) (v:V),Den P H d v->Den P H d' v->d=d'
 | .non,d',v,h,h'=>by
  rw[Den]at h;subst h
  cases d' <;> rw[Den]at h' <;> first|rfl|(obtain⟨_,_,e,_⟩:=h';cases e;done)|(obtain⟨_,e,_⟩:=h';cases e;done)|(cases h';done)
 | .bl b,d',v,h,h'=>by
  rw[Den]at h;subst h
  cases d' <;> rw[Den]at h' <;> first|(obtain⟨_,_,e,_⟩:=h';cases e;done)|(obtain⟨_,e,_⟩:=h';cases e;done)|(cases h';done)|(cases h';rfl)
 | .int b,d',v,h,h'=>by
  rw[Den]at h;subst h
  cases d' <;> rw[Den]at h' <;> first|(obtain⟨_,_,e,_⟩:=h';cases e;done)|(obtain⟨_,e,_⟩:=h';cases e;done)|(cases h';done)|(cases h';rfl)
 | .str b,d',v,h,h'=>by
  rw[Den]at h;subst h
  cases d' <;> rw[Den]at h' <;> first|(obtain⟨_,_,e,_⟩:=h';cases e;done)|(obtain⟨_,e,_⟩:=h';cases e;done)|(cases h';done)|(cases h';rfl)
 | .tup ds,d',v,h,h'=>by
  rw[Den]at h;obtain⟨a,vs,rfl,h1,h2⟩:=h
  cases d' with
  |tup ds'=>rw[Den]at h';obtain⟨a',vs',e,h1',h2'⟩:=h';cases e;rw[h1]at h1';cases h1';rw[DenL.inj ds ds' vs h2 h2']
  |lst ds'=>rw[Den]at h';obtain⟨a',vs',e,_,h1',h2'⟩:=h';cases e;rw[h1]at h1';cases h1'
  |dct=>rw[Den]at h';obtain⟨a',e,_,h1'⟩:=h';cases e;rw[h1]at h1';cases h1'
  |_=>rw[Den]at h';cases h'
 | .lst ds,d',v,h,h'=>by
  rw[Den]at h;obtain⟨a,vs,rfl,_,h1,h2⟩:=h
  cases d' with
  |tup ds'=>rw[Den]at h';obtain⟨a',vs',e,h1',h2'⟩:=h';cases e;rw[h1]at h1';cases h1'
  |lst ds'=>rw[Den]at h';obtain⟨a',vs',e,_,h1',h2'⟩:=h';cases e;rw[h1]at h1';cases h1';rw[DenL.inj ds ds' vs h2 h2']
  |dct=>rw[Den]at h';obtain⟨a',e,_,h1'⟩:=h';cases e;rw[h1]at h1';cases h1'
  |_=>rw[Den]at h';cases h'
 | .dct,d',v,h,h'=>by
  rw[Den]at h;obtain⟨a,rfl,_,h1⟩:=h
  cases d' with
  |tup ds'=>rw[Den]at h';obtain⟨a',vs',e,h1',h2'⟩:=h';cases e;rw[h1]at h1';cases h1'
  |lst ds'=>rw[Den]at h';obtain⟨a',vs',e,_,h1',h2'⟩:=h';cases e;rw[h1]at h1';cases h1'
  |dct=>rfl
  |_=>rw[Den]at h';cases h'
theorem DenL.inj {P:ah->Prop}{H:Hp}:∀(ds ds':List Dt) (vs:List V),DenL P H ds vs->DenL P H ds' vs->ds=ds'
 | [],ds',vs,h,h'=>by
  rw[DenL]at h;subst h
  cases ds' with
  |nil=>rfl
  |cons d ds'=>rw[DenL]at h';obtain⟨_,_,e,_⟩:=h';cases e
 |d::ds,ds',vs,h,h'=>by
  rw[DenL]at h;obtain⟨v,r,rfl,h1,h2⟩:=h
  cases ds' with
  |nil=>rw[DenL]at h';cases h'
  |cons d' ds'=>rw[DenL]at h';obtain⟨v',r',e,h1',h2'⟩:=h';cases e;rw[Den.inj d d' v h1 h1',DenL.inj ds ds' r h2 h2']
end
section
variable{Pg:bj}{w:cq}{P:ah->Prop}{H:Hp}{s:ag}
theorem fK (hok:HOk Pg w H s.heap) {a:ah}{vs:List V}(e:H a=some (.tup vs)):∃its:List af,Vals vs its/\s.heap.IsTuple a its.toArray:=by
 obtain⟨_,its,r,p⟩:=(show ObjOk Pg w H s.heap a (.tup vs) from hok a _ e)
 exact⟨its,r,p.tup⟩
theorem fL (hok:HOk Pg w H s.heap) {a:ah}{vs:List V}(e:H a=some (.lst vs)):∃its:List af,Vals vs its/\s.heap.IsList a its.toArray:=by
 obtain⟨_,its,n,r,p⟩:=(show ObjOk Pg w H s.heap a (.lst vs) from hok a _ e)
 exact⟨its,r,_,p,rfl,n,rfl⟩
theorem uF {vs:List V}{its:List af}(r:Vals vs its) {j:Nat}(h:j<its.toArray.size):∃v,vs[j]?=some v/\RelV v its.toArray[j]:=by
 have hl:=r.length;have h':j<its.length:=by simpa using h
 have hv:j<vs.length:=by omega
 obtain⟨u,e,q⟩:=r.get (i:=j) (x:=vs[j]) (ba hv);refine⟨vs[j],ba hv, ?_⟩;have:its.toArray[j]=u:=by have:its[j]?=some its[j]:=ba h';rw[this]at e;simpa using e
 rw[this];exact q
theorem zI (hok:HOk Pg w H s.heap):∀(n:Nat) (A:cu) (d d':Dt) (v v':V) (u u':af),eQ d<=n->A.units+n+1<cLine->nod d=true->nod d'=true->Den P H d v->Den P H d' v'->RelV v u->RelV v' u'->
  Ay A s u u' (bN d d')/\tq A s u u' (bN d d'):=by
 intro n
 induction n with
 |zero=>
  intro A d d' v v' u u' hn hu n1 n2 h h' r r';have hu':A.units<cLine:=by omega
  cases d with
  |non=>
   rw[Den]at h;subst h;cases r
   cases d' with
   |non=>rw[Den]at h';subst h';cases r';exact⟨wq,pq _⟩
   |bl b'=>rw[Den]at h';subst h';cases r';exact⟨wt _,wu _⟩
   |int i'=>rw[Den]at h';subst h';obtain⟨t2,rfl⟩:=r';exact⟨yc _ _,yd _ _⟩
   |str x'=>rw[Den]at h';subst h';obtain⟨t2,rfl⟩:=r';exact⟨ye _ _,yf _ _⟩
   |tup ds'=>rw[Den]at h';obtain⟨a2,vs2,rfl,e2,g2⟩:=h';cases r';obtain⟨its2,q2,tp2⟩:=fK hok e2;exact⟨vz  tp2 hu',wb  tp2 hu'⟩
   |lst ds'=>rw[Den]at h';obtain⟨a2,vs2,rfl,_,e2,g2⟩:=h';cases r';obtain⟨its2,q2,tp2⟩:=fL hok e2;exact⟨wx  tp2 hu',wy  tp2 hu'⟩
   |dct=>simp[nod]at n2
  |bl b=>
   rw[Den]at h;subst h;cases r
   cases d' with
   |non=>rw[Den]at h';subst h';cases r';exact⟨wz _,xa _⟩
   |bl b'=>rw[Den]at h';subst h';cases r';exact⟨xb _ _,xc _ _⟩
   |int i'=>rw[Den]at h';subst h';obtain⟨t2,rfl⟩:=r';exact⟨yg _ _ _,yh _ _ _⟩
   |str x'=>rw[Den]at h';subst h';obtain⟨t2,rfl⟩:=r';exact⟨yi _ _ _,yj _ _ _⟩
   |tup ds'=>rw[Den]at h';obtain⟨a2,vs2,rfl,e2,g2⟩:=h';cases r';obtain⟨its2,q2,tp2⟩:=fK hok e2;exact⟨wc _ tp2 hu',wd _ tp2 hu'⟩
   |lst ds'=>rw[Den]at h';obtain⟨a2,vs2,rfl,_,e2,g2⟩:=h';cases r';obtain⟨its2,q2,tp2⟩:=fL hok e2;exact⟨xf _ tp2 hu',xg _ tp2 hu'⟩
   |dct=>simp[nod]at n2
  |int i=>
   rw[Den]at h;subst h;obtain⟨t1,rfl⟩:=r
   cases d' with
   |non=>rw[Den]at h';subst h';cases r';exact⟨yk _ _,ym _ _⟩
   |bl b'=>rw[Den]at h';subst h';cases r';exact⟨yn _ _ _,yo _ _ _⟩
   |int i'=>rw[Den]at h';subst h';obtain⟨t2,rfl⟩:=r';exact⟨zf _ _ _ _,rp _ _ _ _⟩
   |str x'=>rw[Den]at h';subst h';obtain⟨t2,rfl⟩:=r';exact⟨zg _ _ _ _,rj _ _ _ _⟩
   |tup ds'=>rw[Den]at h';obtain⟨a2,vs2,rfl,e2,g2⟩:=h';cases r';obtain⟨its2,q2,tp2⟩:=fK hok e2;exact⟨xi _ _ tp2 hu',xj _ _ tp2 hu'⟩
   |lst ds'=>rw[Den]at h';obtain⟨a2,vs2,rfl,_,e2,g2⟩:=h';cases r';obtain⟨its2,q2,tp2⟩:=fL hok e2;exact⟨yp _ _ tp2 hu',yq _ _ tp2 hu'⟩
   |dct=>simp[nod]at n2
  |str x=>
   rw[Den]at h;subst h;obtain⟨t1,rfl⟩:=r
   cases d' with
   |non=>rw[Den]at h';subst h';cases r';exact⟨yr _ _,yt _ _⟩
   |bl b'=>rw[Den]at h';subst h';cases r';exact⟨yu _ _ _,yv _ _ _⟩
   |int i'=>rw[Den]at h';subst h';obtain⟨t2,rfl⟩:=r';exact⟨zh _ _ _ _,rn _ _ _ _⟩
   |str x'=>rw[Den]at h';subst h';obtain⟨t2,rfl⟩:=r';exact⟨zi _ _ _ _,zj _ _ _ _⟩
   |tup ds'=>rw[Den]at h';obtain⟨a2,vs2,rfl,e2,g2⟩:=h';cases r';obtain⟨its2,q2,tp2⟩:=fK hok e2;exact⟨xk _ _ tp2 hu',xl _ _ tp2 hu'⟩
   |lst ds'=>rw[Den]at h';obtain⟨a2,vs2,rfl,_,e2,g2⟩:=h';cases r';obtain⟨its2,q2,tp2⟩:=fL hok e2;exact⟨yw _ _ tp2 hu',yx _ _ tp2 hu'⟩
   |dct=>simp[nod]at n2
  |tup ds=>rw[eQ]at hn;omega
  |lst ds=>rw[eQ]at hn;omega
  |dct=>simp[nod]at n1
 |succ n ih=>
  intro A d d' v v' u u' hn hu n1 n2 h h' r r';have hu':A.units<cLine:=by omega
  have hin:∀{vs vs':List V}{ds ds':List Dt}{its its':List af},kD ds<=n->iF ds=true->iF ds'=true->DenL P H ds vs->DenL P H ds' vs'->Vals vs its->Vals vs' its'->
    ∀j (h1:j<its.toArray.size) (h2:j<its'.toArray.size),tq A.in1 s its.toArray[j] its'.toArray[j] (bN (ds.getD j .non) (ds'.getD j .non)):=by
   intro vs vs' ds ds' its its' hd m1 m2 g g' q q' j h1 h2;obtain⟨x,ex,rx⟩:=uF q h1;obtain⟨x',ex',rx'⟩:=uF q' h2;obtain⟨dx,edx,gx⟩:=g.get ex;obtain⟨dx',edx',gx'⟩:=g'.get ex';have e1:ds.getD j .non=dx:=by simp[ki,edx]
   have e2:ds'.getD j .non=dx':=by simp[ki,edx']
   rw[e1,e2];have hm:=bx edx;exact(ih A.in1 dx dx' x x' _ _ (dk (zH hm) hd) (by show A.units+1+n+1<cLine;omega) (qJ m1 hm) (qJ m2 (bx edx')) gx gx' rx rx').2
  cases d with
  |non=>
   rw[Den]at h;subst h;cases r
   cases d' with
   |non=>rw[Den]at h';subst h';cases r';exact⟨wq,pq _⟩
   |bl b'=>rw[Den]at h';subst h';cases r';exact⟨wt _,wu _⟩
   |int i'=>rw[Den]at h';subst h';obtain⟨t2,rfl⟩:=r';exact⟨yc _ _,yd _ _⟩
   |str x'=>rw[Den]at h';subst h';obtain⟨t2,rfl⟩:=r';exact⟨ye _ _,yf _ _⟩
   |tup ds'=>rw[Den]at h';obtain⟨a2,vs2,rfl,e2,g2⟩:=h';cases r';obtain⟨its2,q2,tp2⟩:=fK hok e2;exact⟨vz  tp2 hu',wb  tp2 hu'⟩
   |lst ds'=>rw[Den]at h';obtain⟨a2,vs2,rfl,_,e2,g2⟩:=h';cases r';obtain⟨its2,q2,tp2⟩:=fL hok e2;exact⟨wx  tp2 hu',wy  tp2 hu'⟩
   |dct=>simp[nod]at n2
  |bl b=>
   rw[Den]at h;subst h;cases r
   cases d' with
   |non=>rw[Den]at h';subst h';cases r';exact⟨wz _,xa _⟩
   |bl b'=>rw[Den]at h';subst h';cases r';exact⟨xb _ _,xc _ _⟩
   |int i'=>rw[Den]at h';subst h';obtain⟨t2,rfl⟩:=r';exact⟨yg _ _ _,yh _ _ _⟩
   |str x'=>rw[Den]at h';subst h';obtain⟨t2,rfl⟩:=r';exact⟨yi _ _ _,yj _ _ _⟩
   |tup ds'=>rw[Den]at h';obtain⟨a2,vs2,rfl,e2,g2⟩:=h';cases r';obtain⟨its2,q2,tp2⟩:=fK hok e2;exact⟨wc _ tp2 hu',wd _ tp2 hu'⟩
   |lst ds'=>rw[Den]at h';obtain⟨a2,vs2,rfl,_,e2,g2⟩:=h';cases r';obtain⟨its2,q2,tp2⟩:=fL hok e2;exact⟨xf _ tp2 hu',xg _ tp2 hu'⟩
   |dct=>simp[nod]at n2
  |int i=>
   rw[Den]at h;subst h;obtain⟨t1,rfl⟩:=r
   cases d' with
   |non=>rw[Den]at h';subst h';cases r';exact⟨yk _ _,ym _ _⟩
   |bl b'=>rw[Den]at h';subst h';cases r';exact⟨yn _ _ _,yo _ _ _⟩
   |int i'=>rw[Den]at h';subst h';obtain⟨t2,rfl⟩:=r';exact⟨zf _ _ _ _,rp _ _ _ _⟩
   |str x'=>rw[Den]at h';subst h';obtain⟨t2,rfl⟩:=r';exact⟨zg _ _ _ _,rj _ _ _ _⟩
   |tup ds'=>rw[Den]at h';obtain⟨a2,vs2,rfl,e2,g2⟩:=h';cases r';obtain⟨its2,q2,tp2⟩:=fK hok e2;exact⟨xi _ _ tp2 hu',xj _ _ tp2 hu'⟩
   |lst ds'=>rw[Den]at h';obtain⟨a2,vs2,rfl,_,e2,g2⟩:=h';cases r';obtain⟨its2,q2,tp2⟩:=fL hok e2;exact⟨yp _ _ tp2 hu',yq _ _ tp2 hu'⟩
   |dct=>simp[nod]at n2
  |str x=>
   rw[Den]at h;subst h;obtain⟨t1,rfl⟩:=r
   cases d' with
   |non=>rw[Den]at h';subst h';cases r';exact⟨yr _ _,yt _ _⟩
   |bl b'=>rw[Den]at h';subst h';cases r';exact⟨yu _ _ _,yv _ _ _⟩
   |int i'=>rw[Den]at h';subst h';obtain⟨t2,rfl⟩:=r';exact⟨zh _ _ _ _,rn _ _ _ _⟩
   |str x'=>rw[Den]at h';subst h';obtain⟨t2,rfl⟩:=r';exact⟨zi _ _ _ _,zj _ _ _ _⟩
   |tup ds'=>rw[Den]at h';obtain⟨a2,vs2,rfl,e2,g2⟩:=h';cases r';obtain⟨its2,q2,tp2⟩:=fK hok e2;exact⟨xk _ _ tp2 hu',xl _ _ tp2 hu'⟩
   |lst ds'=>rw[Den]at h';obtain⟨a2,vs2,rfl,_,e2,g2⟩:=h';cases r';obtain⟨its2,q2,tp2⟩:=fL hok e2;exact⟨yw _ _ tp2 hu',yx _ _ tp2 hu'⟩
   |dct=>simp[nod]at n2
  |tup ds=>
   rw[Den]at h;obtain⟨a1,vs1,rfl,e1,g1⟩:=h;cases r;obtain⟨its1,q1,tp1⟩:=fK hok e1
   cases d' with
   |non=>rw[Den]at h';subst h';cases r';exact⟨SeqAt.RcAt.tuple_none  tp1 hu',SeqAt.EqAt.tuple_none  tp1 hu'⟩
   |bl b'=>rw[Den]at h';subst h';cases r';exact⟨SeqAt.RcAt.tuple_bool _ tp1 hu',SeqAt.EqAt.tuple_bool _ tp1 hu'⟩
   |int i'=>rw[Den]at h';subst h';obtain⟨t2,rfl⟩:=r';exact⟨SeqAt.RcAt.tuple_int _ _ tp1 hu',SeqAt.EqAt.tuple_int _ _ tp1 hu'⟩
   |str x'=>rw[Den]at h';subst h';obtain⟨t2,rfl⟩:=r';exact⟨SeqAt.RcAt.tuple_str _ _ tp1 hu',SeqAt.EqAt.tuple_str _ _ tp1 hu'⟩
   |tup ds'=>
    rw[Den]at h';obtain⟨a2,vs2,rfl,e2,g2⟩:=h';cases r';obtain⟨its2,q2,tp2⟩:=fK hok e2;rw[nod]at n1 n2;rw[eQ]at hn;have hl1:=g1.length;have hl2:=g2.length;have hq1:=q1.length;have hq2:=q2.length;have key:Ay A s (.ref a1) (.ref a2) (bN (.tup ds) (.tup ds')):=by
     rw[bN];have z:=SeqAt.RcAt.tuples (e:=λj=>bN (ds.getD j .non) (ds'.getD j .non)) tp1 tp2 hu' (hin (by omega) n1 n2 g1 g2 q1 q2);have s1:its1.toArray.size=ds.length:=by simp;omega
     have s2:its2.toArray.size=ds'.length:=by simp;omega
     rw[s1,s2]at z
     by_cases hlen:ds.length=ds'.length
     ·rw[qK hlen];rw[<-hlen,Nat.min_self]at z;simpa using z
     ·rw[qL hlen];rw[show(ds.length==ds'.length)=false from beq_eq_false_iff_ne.mpr hlen,sf]at z;exact z
    refine⟨key, ?_⟩
    by_cases hab:a1=a2
    ·subst hab;rw[e1]at e2;cases e2;rw[DenL.inj ds ds' _ g1 g2,zF _ (by rw[nod];exact n2)];exact pq _
    ·exact zk hab key
   |lst ds'=>rw[Den]at h';obtain⟨a2,vs2,rfl,_,e2,g2⟩:=h';cases r';obtain⟨its2,q2,tp2⟩:=fL hok e2;exact⟨SeqAt.RcAt.tuple_list tp1 tp2 hu',SeqAt.EqAt.tuple_list tp1 tp2 hu'⟩
   |dct=>simp[nod]at n2
  |lst ds=>
   rw[Den]at h;obtain⟨a1,vs1,rfl,_,e1,g1⟩:=h;cases r;obtain⟨its1,q1,tp1⟩:=fL hok e1
   cases d' with
   |non=>rw[Den]at h';subst h';cases r';exact⟨SeqAt.RcAt.list_none  tp1 hu',SeqAt.EqAt.list_none  tp1 hu'⟩
   |bl b'=>rw[Den]at h';subst h';cases r';exact⟨SeqAt.RcAt.list_bool _ tp1 hu',SeqAt.EqAt.list_bool _ tp1 hu'⟩
   |int i'=>rw[Den]at h';subst h';obtain⟨t2,rfl⟩:=r';exact⟨SeqAt.RcAt.list_int _ _ tp1 hu',SeqAt.EqAt.list_int _ _ tp1 hu'⟩
   |str x'=>rw[Den]at h';subst h';obtain⟨t2,rfl⟩:=r';exact⟨SeqAt.RcAt.list_str _ _ tp1 hu',SeqAt.EqAt.list_str _ _ tp1 hu'⟩
   |tup ds'=>rw[Den]at h';obtain⟨a2,vs2,rfl,e2,g2⟩:=h';cases r';obtain⟨its2,q2,tp2⟩:=fK hok e2;exact⟨SeqAt.RcAt.list_tuple tp1 tp2 hu',SeqAt.EqAt.list_tuple tp1 tp2 hu'⟩
   |lst ds'=>
    rw[Den]at h';obtain⟨a2,vs2,rfl,_,e2,g2⟩:=h';cases r';obtain⟨its2,q2,tp2⟩:=fL hok e2;rw[nod]at n1 n2;rw[eQ]at hn;have hl1:=g1.length;have hl2:=g2.length;have hq1:=q1.length;have hq2:=q2.length;have key:Ay A s (.ref a1) (.ref a2) (bN (.lst ds) (.lst ds')):=by
     rw[bN]
     by_cases hlen:ds.length=ds'.length
     ·have z:=SeqAt.RcAt.lists (e:=λj=>bN (ds.getD j .non) (ds'.getD j .non)) tp1 tp2 (by simp;omega) hu' (hin (by omega) n1 n2 g1 g2 q1 q2);rw[qK hlen];simpa[hq1.symm,hl1]using z
     ·rw[qL hlen];exact SeqAt.RcAt.lists_lengths tp1 tp2 (by simp;omega) hu'
    refine⟨key, ?_⟩
    by_cases hab:a1=a2
    ·subst hab;rw[e1]at e2;cases e2;rw[DenL.inj ds ds' _ g1 g2,zF _ (by rw[nod];exact n2)];exact pq _
    ·exact zk hab key
   |dct=>simp[nod]at n2
  |dct=>simp[nod]at n1
end
end L2
namespace L2.Mr
open PySem PySem.Spec PyProof.Rows
inductive Dv where
 |non|bl (b:Bool)|int (i:Int)|str (x:Str)|tup (xs:List Dv)|ref (i:Nat)|edc|exc (c:Nat)|scr
inductive Ob where
 |lst (xs:List Dv)
abbrev Hs:=List Ob
abbrev Ev:=List (Option Dv)
inductive Rs (α:Type) where
 |ok (a:α) (h:Hs)|ex (c:Nat) (h:Hs)|bad
def Rs.bind {α β:Type}(r:Rs α) (f:α->Hs->Rs β):Rs β:=match r with
 | .ok a h=>f a h
 | .ex c h=>.ex c h
 | .bad=>.bad
@[simp] theorem Rs.bind_ok {α β:Type}(a:α) (h:Hs) (f:α->Hs->Rs β):(Rs.ok a h).bind f=f a h:=rfl
@[simp] theorem Rs.bind_ex {α β:Type}(c:Nat) (h:Hs) (f:α->Hs->Rs β):(Rs.ex c h).bind f=.ex c h:=rfl
@[simp] theorem Rs.bind_bad {α β:Type}(f:α->Hs->Rs β):(Rs.bad).bind f=.bad:=rfl
abbrev M (α:Type):=Ev->Hs->Rs α
structure Cfg where
 K:aq
 cl:Nat->ah
 scr:List Int
 sa:ah
 tab:Option ah:=none
 lq:Str:=Str.empty
def cD (C:af) (e T:ah) (a0:af) (h:cw):Prop:=∃oe vs,h.get? e=some oe/\oe.cls=C/\oe.data=.fields vs/\vs[0]?=some a0/\vs[1]?=some (.ref T)/\oe.dict=none
def uG (G:Cfg) (H:Hp) (c:Nat) (u:af):Prop:=∃e φ,u=.ref e/\H e=some (.ext φ)/\∀h,φ h->∃o,h.get? e=some o/\o.cls=.ref (G.cl c)
def zJ:HO->Prop
 | .tup _=>True
 | .dK kvs=>kvs=[]
 | .frz _ _=>True
 |_=>False
def FzL (K:aq) (H:Hp) (a:ah) (xs:List V):Prop:=(∃o,H a=some (.frz o (.lst xs))) ∨
  ∃(o:Obj) (its:Array af) (n:Nat),K.lookup a=some o/\o.cls=.type "list"/\o.dict=none/\o.data=.seq its n/\its.size<=cn/\Vals xs its.toList
theorem FzL.sq {K:aq}{H:Hp}{a:ah}{xs:List V}(h:FzL K H a xs):SqL K H a xs:=by
 rcases h with⟨o,h⟩|h
 ·exact .inl (.inr ⟨o,h⟩)
 ·exact .inr h
theorem FzL.keep {K:aq}{H H':Hp}{a:ah}{xs:List V}(h:FzL K H a xs) (k:∀a o,zJ o->H a=some o->H' a=some o):FzL K H' a xs:=by
 rcases h with⟨o,h⟩|h
 ·exact .inl ⟨o,k a _ trivial h⟩
 ·exact .inr h
mutual
def RelD (G:Cfg) (μ:Nat->ah) (n:Nat) (H:Hp):Dv->V->Prop
 | .non,v=>v=.non
 | .bl b,v=>v=.bl b
 | .int i,v=>v=.int i
 | .str x,v=>v=.str x
 | .tup ds,v=>∃a vs,v=.ref a/\H a=some (.tup vs)/\RelDL G μ n H ds vs
 | .ref i,v=>i<n/\v=.ref (μ i)
 | .edc,v=>∃a,v=.ref a/\H a=some (.dK [])
 | .exc c,v=>∃a o u,v=.ref a/\H a=some (.frz o u)/\o.cls=.ref (G.cl c)/\o.dict=none/\∃vs,o.data=.fields vs
 | .scr,v=>v=.ref G.sa/\FzL G.K H G.sa (G.scr.map V.int)
def RelDL (G:Cfg) (μ:Nat->ah) (n:Nat) (H:Hp):List Dv->List V->Prop
 | [],vs=>vs=[]
 |d::ds,vs=>∃v r,vs=v::r/\RelD G μ n H d v/\RelDL G μ n H ds r
end
structure Ext (μ:Nat->ah) (n:Nat) (H:Hp) (μ':Nat->ah) (n':Nat) (H':Hp):Prop where
 le:n<=n'
 mu:∀i,i<n->μ' i=μ i
 im:∀a o,zJ o->H a=some o->H' a=some o
theorem Ext.refl {μ:Nat->ah}{n:Nat}{H:Hp}:Ext μ n H μ n H:=⟨ak _,λ_ _=>rfl,λ_ _ _ e=>e⟩
theorem Ext.trans {μ μ1 μ2:Nat->ah}{n n1 n2:Nat}{H H1 H2:Hp}(a:Ext μ n H μ1 n1 H1) (b:Ext μ1 n1 H1 μ2 n2 H2):Ext μ n H μ2 n2 H2:=⟨dk a.le b.le,λi hi=>(b.mu i (ar hi a.le)).trans (a.mu i hi),λc o i e=>b.im c o i (a.im c o i e)⟩
section
variable{G:Cfg}{μ μ':Nat->ah}{n n':Nat}{H H':Hp}
mutual
theorem RelD.mono (x:Ext μ n H μ' n' H'):∀(d:Dv) (v:V),RelD G μ n H d v->RelD G μ' n' H' d v
 | .non,v,h=>h
 | .bl b,v,h=>h
 | .int i,v,h=>h
 | .str s,v,h=>h
 | .tup ds,v,h=>by obtain⟨a,vs,e,h1,h2⟩:=h;exact⟨a,vs,e,x.im a _ trivial h1,RelDL.mono x ds vs h2⟩
 | .ref i,v,h=>by obtain⟨h1,h2⟩:=h;exact⟨ar h1 x.le,by rw[x.mu i h1];exact h2⟩
 | .edc,v,h=>by obtain⟨a,e,h1⟩:=h;exact⟨a,e,x.im a _ rfl h1⟩
 | .exc c,v,h=>by obtain⟨a,o,u,e,h1,h2⟩:=h;exact⟨a,o,u,e,x.im a _ trivial h1,h2⟩
 | .scr,v,h=>by obtain⟨h1,h2⟩:=h;exact⟨h1,h2.keep x.im⟩
theorem RelDL.mono (x:Ext μ n H μ' n' H'):∀(ds:List Dv) (vs:List V),RelDL G μ n H ds vs->RelDL G μ' n' H' ds vs
 | [],vs,h=>h
 |d::ds,vs,h=>by obtain⟨v,r,e,h1,h2⟩:=h;exact⟨v,r,e,RelD.mono x d v h1,RelDL.mono x ds r h2⟩
end
theorem RelDL.length:∀{ds:List Dv}{vs:List V},RelDL G μ n H ds vs->vs.length=ds.length
 | [],_,h=>by rw[RelDL]at h;subst h;rfl
 |d::ds,_,h=>by rw[RelDL]at h;obtain⟨v,r,rfl,_,h2⟩:=h;rw[cf,cf,RelDL.length h2]
theorem RelDL.get:∀{ds:List Dv}{vs:List V}{i:Nat}{d:Dv},RelDL G μ n H ds vs->ds[i]?=some d->∃v,vs[i]?=some v/\RelD G μ n H d v
 | [],_,_,_,_,e=>by simp at e
 |d::ds,_,0,d',h,e=>by rw[RelDL]at h;obtain⟨v,r,rfl,h1,_⟩:=h;simp at e;subst e;exact⟨v,rfl,h1⟩
 |d::ds,_,i+1,d',h,e=>by rw[RelDL]at h;obtain⟨v,r,rfl,_,h2⟩:=h;obtain⟨u,e1,h3⟩:=RelDL.get (i:=i) h2 (by simpa using e);exact⟨u,by simpa using e1,h3⟩
theorem RelDL.nil:RelDL G μ n H [] []:=by rw[RelDL]
theorem RelDL.cons {d:Dv}{v:V}{ds:List Dv}{vs:List V}(h:RelD G μ n H d v) (t:RelDL G μ n H ds vs):RelDL G μ n H (d::ds) (v::vs):=by rw[RelDL];exact⟨v,vs,rfl,h,t⟩
theorem RelDL.append:∀{ds es:List Dv}{vs ws:List V},RelDL G μ n H ds vs->RelDL G μ n H es ws->RelDL G μ n H (ds++es) (vs++ws)
 | [],_,_,_,h,h'=>by rw[RelDL]at h;subst h;exact h'
 |d::ds,_,_,_,h,h'=>by rw[RelDL]at h;obtain⟨v,r,rfl,h1,h2⟩:=h;exact RelDL.cons h1 (RelDL.append h2 h')
theorem RelDL.take:∀{ds:List Dv}{vs:List V}(k:Nat),RelDL G μ n H ds vs->RelDL G μ n H (ds.take k) (vs.take k)
 | [],_,k,h=>by rw[RelDL]at h;subst h;simp[RelDL.nil]
 |d::ds,_,0,h=>by simp[RelDL.nil]
 |d::ds,_,k+1,h=>by rw[RelDL]at h;obtain⟨v,r,rfl,h1,h2⟩:=h;exact RelDL.cons h1 (RelDL.take k h2)
theorem RelDL.drop:∀{ds:List Dv}{vs:List V}(k:Nat),RelDL G μ n H ds vs->RelDL G μ n H (ds.drop k) (vs.drop k)
 | [],_,k,h=>by rw[RelDL]at h;subst h;simp[RelDL.nil]
 |d::ds,_,0,h=>h
 |d::ds,_,k+1,h=>by rw[RelDL]at h;obtain⟨v,r,rfl,h1,h2⟩:=h;exact RelDL.drop k h2
theorem RelDL.set {x:Dv}{u:V}(hx:RelD G μ n H x u):∀{ds:List Dv}{vs:List V}(i:Nat),RelDL G μ n H ds vs->RelDL G μ n H (ds.set i x) (vs.set i u)
 | [],_,_,h=>by rw[RelDL]at h;subst h;exact RelDL.nil
 |d::ds,_,0,h=>by rw[RelDL]at h;obtain⟨v,r,rfl,h1,h2⟩:=h;exact RelDL.cons hx h2
 |d::ds,_,i+1,h=>by rw[RelDL]at h;obtain⟨v,r,rfl,h1,h2⟩:=h;exact RelDL.cons h1 (RelDL.set hx i h2)
end
def RV (G:Cfg) (μ:Nat->ah) (n:Nat) (H:Hp) (a:ah):Ob->Prop
 | .lst xs=>∃vs,H a=some (.lst vs)/\RelDL G μ n H xs vs
def uH (q:Str) (oc:Obj):Prop:=∃vs t,oc.data=.fields vs/\vs[1]?=some (.str q t)
def TabOk (G:Cfg) (H:Hp):Prop:=∀P,G.tab=some P->∃ps,H P=some (.tbl ps)/\ui ps.toList/\∀pos cv,codeAmong pos ps.toList=some cv->∃q oc,cv=.ref q/\H q=some (.frz oc (.own 0))/\uH G.lq oc
theorem TabOk.keep {G:Cfg}{H H':Hp}(t:TabOk G H) (k:∀a o,(∀xs,o≠.lst xs)->(∀φ,o≠.ext φ)->H a=some o->H' a=some o):TabOk G H':=λP e=>by obtain⟨ps,h1,h2,h3⟩:=t P e;refine⟨ps,k P _ (λ_ z=>by cases z) (λ_ z=>by cases z) h1,h2,λpos cv q=>?_⟩;obtain⟨a,oc,e1,e2,e3⟩:=h3 pos cv q;exact⟨a,oc,e1,k a _ (λ_ z=>by cases z) (λ_ z=>by cases z) e2,e3⟩
structure Sim (G:Cfg) (μ:Nat->ah) (h:Hs) (H:Hp):Prop where
 inj:∀i j,i<h.length->j<h.length->μ i=μ j->i=j
 ob:∀(i:Nat) (o:Ob),h[i]?=some o->RV G μ h.length H (μ i) o
 tab:TabOk G H
structure RelS (G:Cfg) (μ:Nat->ah) (n:Nat) (H:Hp) (ρ:Ev) (σ:St):Prop where
 len:ρ.length=σ.length
 at_:∀(i:Nat) (d:Dv),ρ[i]?=some (some d)->∃v,σ[i]?=some (some v)/\RelD G μ n H d v
theorem RelS.mono {G:Cfg}{μ μ':Nat->ah}{n n':Nat}{H H':Hp}{ρ:Ev}{σ:St}(r:RelS G μ n H ρ σ) (x:Ext μ n H μ' n' H'):RelS G μ' n' H' ρ σ:=⟨r.len,λi d e=>let ⟨v,e1,h⟩:=r.at_ i d e;⟨v,e1,RelD.mono x d v h⟩⟩
def Out {α β:Type}(G:Cfg) (E:XK) (μ:Nat->ah) (n:Nat) (H:Hp) (r:Rs α) (R:(Nat->ah)->Nat->Hp->α->β->Prop) (Q:β->Hp->Prop):Prop:=
 match r with
 | .ok d h'=>∀μ' H' v,Ext μ n H μ' h'.length H'->Sim G μ' h' H'->R μ' h'.length H' d v->Q v H'
 | .ex c h'=>∀μ' H' u,Ext μ n H μ' h'.length H'->Sim G μ' h' H'->uG G H' c u->E u none H'
 | .bad=>False
theorem Out.bind {α β γ δ:Type}{G:Cfg}{E:XK}{μ:Nat->ah}{n:Nat}{H:Hp}{r:Rs α}{f:α->Hs->Rs γ}{R:(Nat->ah)->Nat->Hp->γ->δ->Prop}{Q:δ->Hp->Prop}{R1:(Nat->ah)->Nat->Hp->α->β->Prop}
  (o:Out G E μ n H (r.bind f) R Q):Out G E μ n H r R1 λv H1=>∃μ1 d h1,Ext μ n H μ1 h1.length H1/\Sim G μ1 h1 H1/\R1 μ1 h1.length H1 d v/\Out G E μ1 h1.length H1 (f d h1) R Q:=by
 cases r with
 |bad=>exact o
 |ex c h'=>exact o
 |ok d h'=>
  intro μ1 H1 v x1 s1 r1;refine⟨μ1,d,h',x1,s1,r1, ?_⟩;have o':Out G E μ n H (f d h') R Q:=o
  cases e:f d h' with
  |bad=>rw[e]at o';exact o'
  |ex c h2=>rw[e]at o';exact λμ2 H2 u x2 s2 r2=>o' μ2 H2 u (x1.trans x2) s2 r2
  |ok d2 h2=>rw[e]at o';exact λμ2 H2 u x2 s2 r2=>o' μ2 H2 u (x1.trans x2) s2 r2
theorem Out.mono {α β:Type}{G:Cfg}{E:XK}{μ:Nat->ah}{n:Nat}{H:Hp}{r:Rs α}{R:(Nat->ah)->Nat->Hp->α->β->Prop}{Q Q':β->Hp->Prop}(o:Out G E μ n H r R Q) (h:∀v H',Q v H'->Q' v H'):Out G E μ n H r R Q':=by
 cases r with
 |bad=>exact o
 |ex c h'=>exact o
 |ok d h'=>exact λμ' H' v x s r=>h _ _ (o μ' H' v x s r)
abbrev RB:(Nat->ah)->Nat->Hp->Bool->Bool->Prop:=λ_ _ _ b b'=>b'=b
def fO (G:Cfg) (E:XK) (m:M Dv):TE:=λσ H Q=>∃μ ρ h,RelS G μ h.length H ρ σ/\Sim G μ h H/\Out G E μ h.length H (m ρ h) (RelD G) Q
def fP (G:Cfg) (E:XK) (m:M Bool):TT:=λσ H Q=>∃μ ρ h,RelS G μ h.length H ρ σ/\Sim G μ h H/\Out G E μ h.length H (m ρ h) RB Q
def zK (G:Cfg) (E:XK) (m:M (List Dv)):TA:=λσ H Q=>∃μ ρ h,RelS G μ h.length H ρ σ/\Sim G μ h H/\Out G E μ h.length H (m ρ h) (RelDL G) Q
def aH (X:Cx) (G:Cfg) (E:XK) (pe:bp) (m:M Dv):Prop:=X.K=G.K->PE X pe (fO G E m)
def eR (X:Cx) (G:Cfg) (E:XK) (pe:bp) (m:M Bool):Prop:=X.K=G.K->PT X pe (fP G E m)
def dQ (X:Cx) (G:Cfg) (E:XK) (pe:List bp) (m:M (List Dv)):Prop:=X.K=G.K->PA X pe (zK G E m)
theorem PE.imp {X:Cx}{e:bp}{t t':TE}(h:PE X e t) (i:∀σ H Q,t' σ H Q->t σ H Q):PE X e t':=λpins s σ H Q I q=>h pins s σ H Q I (i σ H Q q)
theorem PT.imp {X:Cx}{e:bp}{t t':TT}(h:PT X e t) (i:∀σ H Q,t' σ H Q->t σ H Q):PT X e t':=λpins s σ H Q I q=>h pins s σ H Q I (i σ H Q q)
theorem PA.imp {X:Cx}{e:List bp}{t t':TA}(h:PA X e t) (i:∀σ H Q,t' σ H Q->t σ H Q):PA X e t':=λpos pins s σ H Q I q=>h pos pins s σ H Q I (i σ H Q q)
section
variable{G:Cfg}{E:XK}{σ:St}{H:Hp}
theorem eS {m:M Dv}{γ δ:Type}{f:Dv->Hs->Rs γ}{R:(Nat->ah)->Nat->Hp->γ->δ->Prop}{Q:δ->Hp->Prop}{Q1:V->Hp->Prop}{μ:Nat->ah}{ρ:Ev}{h:Hs}(rs:RelS G μ h.length H ρ σ) (s:Sim G μ h H) (o:Out G E μ h.length H ((m ρ h).bind f) R Q)
  (k:∀μ1 d h1 v H1,Ext μ h.length H μ1 h1.length H1->RelS G μ1 h1.length H1 ρ σ->Sim G μ1 h1 H1->RelD G μ1 h1.length H1 d v->Out G E μ1 h1.length H1 (f d h1) R Q->Q1 v H1):fO G E m σ H Q1:=
 ⟨μ,ρ,h,rs,s,(o.bind (R1:=RelD G)).mono λv H1 ⟨μ1,d,h1,x,s1,r1,o1⟩=>k μ1 d h1 v H1 x (rs.mono x) s1 r1 o1⟩
theorem zL {m:M Bool}{γ δ:Type}{f:Bool->Hs->Rs γ}{R:(Nat->ah)->Nat->Hp->γ->δ->Prop}{Q:δ->Hp->Prop}{Q1:Bool->Hp->Prop}{μ:Nat->ah}{ρ:Ev}{h:Hs}(rs:RelS G μ h.length H ρ σ) (s:Sim G μ h H) (o:Out G E μ h.length H ((m ρ h).bind f) R Q)
  (k:∀μ1 b h1 H1,Ext μ h.length H μ1 h1.length H1->RelS G μ1 h1.length H1 ρ σ->Sim G μ1 h1 H1->Out G E μ1 h1.length H1 (f b h1) R Q->Q1 b H1):fP G E m σ H Q1:=
 ⟨μ,ρ,h,rs,s,(o.bind (R1:=RB)).mono λv H1 ⟨μ1,d,h1,x,s1,r1,o1⟩=>by have e:v=d:=r1;subst e;exact k μ1 v h1 H1 x (rs.mono x) s1 o1⟩
theorem iX {m:M (List Dv)}{γ δ:Type}{f:List Dv->Hs->Rs γ}{R:(Nat->ah)->Nat->Hp->γ->δ->Prop}{Q:δ->Hp->Prop}{Q1:List V->Hp->Prop}{μ:Nat->ah}{ρ:Ev}{h:Hs}(rs:RelS G μ h.length H ρ σ) (s:Sim G μ h H) (o:Out G E μ h.length H ((m ρ h).bind f) R Q)
  (k:∀μ1 d h1 v H1,Ext μ h.length H μ1 h1.length H1->RelS G μ1 h1.length H1 ρ σ->Sim G μ1 h1 H1->RelDL G μ1 h1.length H1 d v->Out G E μ1 h1.length H1 (f d h1) R Q->Q1 v H1):zK G E m σ H Q1:=
 ⟨μ,ρ,h,rs,s,(o.bind (R1:=RelDL G)).mono λv H1 ⟨μ1,d,h1,x,s1,r1,o1⟩=>k μ1 d h1 v H1 x (rs.mono x) s1 r1 o1⟩
theorem Out.val {α β:Type}{μ:Nat->ah}{h:Hs}{d:α}{R:(Nat->ah)->Nat->Hp->α->β->Prop}{Q:β->Hp->Prop}{v:β}(s:Sim G μ h H) (o:Out G E μ h.length H (.ok d h) R Q) (r:R μ h.length H d v):Q v H:=o μ H v Ext.refl s r
end
section
variable{G:Cfg}{μ:Nat->ah}{h:Hs}{H H':Hp}{p:ah}{n:Nat}
theorem Ext.same (e:Same H H'):Ext μ n H μ n H':=⟨ak _,λ_ _=>rfl,λa o _ q=>e a o q⟩
theorem Sim.same (s:Sim G μ h H) (e:Same H H'):Sim G μ h H':=⟨s.inj,λi o q=>by
 have r:=s.ob i o q
 cases o with
 |lst xs=>obtain⟨vs,e1,r1⟩:=r;exact⟨vs,e _ _ e1,RelDL.mono (Ext.same e) _ _ r1⟩,s.tab.keep λa o _ _ q=>e a o q⟩
theorem cJ {o:HO}(h:H p=none):Same H (aM H p o):=λb u e=>by rw[bA (cW e h)];exact e
theorem Sim.not (s:Sim G μ h H) (hp:H p=none):∀(i:Nat),i<h.length->μ i≠p:=λi hi z=>by
 have q:h[i]?=some h[i]:=ba hi;generalize h[i]=o at q
 cases o with
 |lst xs=>obtain⟨vs,e1,_⟩:=s.ob i _ q;rw[z,hp]at e1;cases e1
theorem Sim.alloc {ds:List Dv}{vs:List V}(s:Sim G μ h H) (hp:H p=none) (r:RelDL G μ h.length H ds vs):
  Ext μ h.length H (λi=>if i=h.length then p else μ i) (h++[Ob.lst ds]).length (aM H p (.lst vs))/\Sim G (λi=>if i=h.length then p else μ i) (h++[.lst ds]) (aM H p (.lst vs)):=by
 have hl:(h++[Ob.lst ds]).length=h.length+1:=by simp
 have hq:=s.not hp;have x:Ext μ h.length H (λi=>if i=h.length then p else μ i) (h++[Ob.lst ds]).length (aM H p (.lst vs)):=⟨by omega,λi hi=>if_neg (bc hi),λa o _ e=>cJ hp a o e⟩
 refine⟨x,λi j hi hj e=>?_,λi o q=>?_,s.tab.keep λa o _ _ q=>cJ hp a o q⟩
 ·rw[hl]at hi hj
  by_cases h1:i=h.length <;> by_cases h2:j=h.length
  ·omega
  ·rw[if_pos h1,if_neg h2]at e;exact absurd e.symm (hq j (by omega))
  ·rw[if_neg h1,if_pos h2]at e;exact absurd e (hq i (by omega))
  ·rw[if_neg h1,if_neg h2]at e;exact s.inj i j (by omega) (by omega) e
 ·by_cases h1:i<h.length
  ·rw[ed h1]at q;have r1:=s.ob i o q
   cases o with
   |lst xs=>obtain⟨ws,e1,r2⟩:=r1;exact⟨ws,by rw[if_neg (bc h1)];exact cJ hp _ _ e1,RelDL.mono x _ _ r2⟩
  ·rw[gb (by omega)]at q;have h2:i=h.length:=by have:=(az.mp q).1;simp at this;omega
   subst h2;simp at q;subst q;exact⟨vs,by rw[if_pos rfl];exact bT,RelDL.mono x _ _ r⟩
theorem Sim.write {xs ys:List Dv}{i:Nat}{vs:List V}(s:Sim G μ h H) (q:h[i]?=some (.lst xs)) (r:RelDL G μ h.length H ys vs):
  Ext μ h.length H μ (h.set i (.lst ys)).length (aM H (μ i) (.lst vs))/\Sim G μ (h.set i (.lst ys)) (aM H (μ i) (.lst vs)):=by
 obtain⟨us,e0,r0⟩:=s.ob i _ q;have hi:i<h.length:=(az.mp q).1;have im:∀a o,zJ o->H a=some o->aM H (μ i) (.lst vs) a=some o:=λa o m e=>by
  rw[bA];exact e
  rintro rfl;rw[e0]at e;cases e;exact m
 have x:Ext μ h.length H μ (h.set i (.lst ys)).length (aM H (μ i) (.lst vs)):=⟨by simp,λ_ _=>rfl,im⟩
 refine⟨x,λa b ha hb=>?_,λj o e=>?_,s.tab.keep λa o n1 _ q=>?_⟩
 rotate_left 2
 ·rw[bA];exact q
  rintro rfl;rw[e0]at q;cases q;exact n1 _ rfl
 ·rw[ju]at ha hb;exact s.inj a b ha hb
 ·by_cases hij:i=j
  ·subst hij;rw[da hi]at e;cases e;exact⟨vs,bT,RelDL.mono x _ _ r⟩
  ·rw[dg hij]at e;have hj:j<h.length:=(az.mp e).1;have r1:=s.ob j o e;have ne:μ j≠μ i:=λz=>hij (s.inj j i hj hi z).symm
   cases o with
   |lst zs=>obtain⟨ws,e1,r2⟩:=r1;exact⟨ws,by rw[bA ne];exact e1,RelDL.mono x _ _ r2⟩
end
def lim {α:Type}(n:Nat) (r:Rs α):Rs α:=if n<=1000000 then r else .bad
theorem uI {n:Nat}(h:n<=1000000):n<=cn:=dk h (by decide)
def getL (h:Hs) (i:Nat):Option (List Dv):=match h[i]? with
 |some (.lst xs)=>some xs
 |none=>none
theorem cX {h:Hs}{i:Nat}{xs:List Dv}(e:getL h i=some xs):h[i]?=some (.lst xs):=by
 unfold getL at e
 cases q:h[i]? with
 |none=>rw[q]at e;cases e
 |some o=>cases o;rw[q]at e;cases e;rfl
section
variable{X:Cx}{G:Cfg}{E:XK}{a b c:bp}{ma mb mc:M Dv}{pos:Pos}{es:List bp}{aR:M (List Dv)}
def aB (i:Nat):M Dv:=λρ h=>match ρ[i]? with
 |some (some d)=>.ok d h
 |_=>.bad
theorem aD (i:Nat) {x:Str}(hN:X.N[i]?=some x:=by rfl) (hv:oC X.env.scope x:=by first|exact Aq rfl|exact Or.inr (Aq rfl)|exact Or.inr (Or.inr rfl))
  (hd:(x==("__debug__" : Str))=false:=by decide) (hcd:(x==("__classdict__" : Str))=false:=by decide):aH X G E (.Name x pos) (aB i):=λ_=>PE.imp (pW hN hv hd hcd) λσ H Q ⟨μ,ρ,h,rs,s,o⟩=>by
 unfold aB at o
 split at o
 ·rename_i d e;obtain⟨v,e1,r⟩:=rs.at_ i d e;exact⟨v,e1,o.val s r⟩
 ·exact o.elim
def mC (d:Dv):M Dv:=λ_ h=>.ok d h
theorem aY {i j}:aH X G E (.Constant (.int i) j pos) (mC (.int i)):=λ_=>PE.imp N1 λσ H Q ⟨μ,ρ,h,rs,s,o⟩=>o.val s (show RelD G μ _ H (.int i) (.int i) from rfl)
theorem iG {i j}:aH X G E (.Constant (.bool i) j pos) (mC (.bl i)):=λ_=>PE.imp N2 λσ H Q ⟨μ,ρ,h,rs,s,o⟩=>o.val s (show RelD G μ _ H (.bl i) (.bl i) from rfl)
theorem mU {j}:aH X G E (.Constant .none j pos) (mC .non):=λ_=>PE.imp EJ λσ H Q ⟨μ,ρ,h,rs,s,o⟩=>o.val s (show RelD G μ _ H .non .non from rfl)
theorem GK {x j}:aH X G E (.Constant (.str x) j pos) (mC (.str x)):=λ_=>PE.imp EK λσ H Q ⟨μ,ρ,h,rs,s,o⟩=>o.val s (show RelD G μ _ H (.str x) (.str x) from rfl)
def aC:M (List Dv):=λ_ h=>.ok [] h
def aA (m:M Dv) (ms:M (List Dv)):M (List Dv):=λρ h=>(m ρ h).bind λd h1=>(ms ρ h1).bind λds h2=>.ok (d::ds) h2
theorem aO:dQ X G E [] aC:=λ_=>PA.imp jN λσ H Q ⟨μ,ρ,h,rs,s,o⟩=>o.val s RelDL.nil
theorem aG (ha:aH X G E a ma) (hr:dQ X G E es aR) (hs:au (a::es) X.env=(false,eval a X.env)::au es X.env:=by rfl):dQ X G E (a::es) (aA ma aR):=λhK=>PA.imp (gY (ha hK) (hr hK) hs) λσ H Q ⟨μ,ρ,h,rs,s,o⟩=>eS rs s o λμ1 d h1 v H1 x1 rs1 s1 r1 o1=>iX rs1 s1 o1 λμ2 ds h2 vs H2 x2 rs2 s2 r2 o2=>o2.val s2 (RelDL.cons (RelD.mono x2 _ _ r1) r2)
def aL (ms:M (List Dv)):M Dv:=λρ h=>(ms ρ h).bind λds h1=>lim ds.length (.ok (.tup ds) h1)
theorem gJ {k} (h:dQ X G E es aR):aH X G E (.Tuple es k pos) (aL aR):=λhK=>PE.imp (E6 (h hK)) λσ H Q ⟨μ,ρ,h,rs,s,o⟩=>iX rs s o λμ1 ds h1 vs H1 x1 rs1 s1 r1 o1=>by
 unfold lim at o1
 split at o1
 ·rename_i hl;refine⟨by rw[r1.length];exact uI hl,λp hp=>?_⟩;exact o1 μ1 _ _ (Ext.same (cJ hp)) (s1.same (cJ hp)) ⟨p,vs,rfl,bT,RelDL.mono (Ext.same (cJ hp)) _ _ r1⟩
 ·exact o1.elim
def aV (ms:M (List Dv)):M Dv:=λρ h=>(ms ρ h).bind λds h1=>lim ds.length (.ok (.ref h1.length) (h1++[.lst ds]))
theorem mV {μ:Nat->ah}{h:Hs}{H:Hp}{ds:List Dv}{vs:List V}{Q:VK}{p:ah}(s:Sim G μ h H) (r:RelDL G μ h.length H ds vs) (hp:H p=none) (o:Out G E μ h.length H (.ok (.ref h.length) (h++[.lst ds])) (RelD G) Q):Q (.ref p) (aM H p (.lst vs)):=by obtain⟨x,s'⟩:=s.alloc hp r;exact o _ _ _ x s' ⟨by simp,by show V.ref p=V.ref (if h.length=h.length then p else μ h.length);rw[if_pos rfl]⟩
theorem gZ (h:dQ X G E es aR):aH X G E (.List es pos) (aV aR):=λhK=>PE.imp (QF (h hK)) λσ H Q ⟨μ,ρ,h,rs,s,o⟩=>iX rs s o λμ1 ds h1 vs H1 x1 rs1 s1 r1 o1=>by
 unfold lim at o1
 split at o1
 ·rename_i hl;exact⟨by rw[r1.length];exact uI hl,λp hp=>mV s1 r1 hp o1⟩
 ·exact o1.elim
def m2 (f:Dv->Dv->Hs->Rs Dv) (ma mb:M Dv):M Dv:=λρ h=>(ma ρ h).bind λx h1=>(mb ρ h1).bind λy h2=>f x y h2
def eG (G:Cfg) (r:R2) (f:Dv->Dv->Hs->Rs Dv):Prop:=∀(E:XK) (μ:Nat->ah) (h:Hs) (H:Hp) (x y:Dv) (vx vy:V) (Q:VK),Sim G μ h H->RelD G μ h.length H x vx->RelD G μ h.length H y vy->Out G E μ h.length H (f x y h) (RelD G) Q->r vx vy H Q
theorem qM {r:R2}{f:Dv->Dv->Hs->Rs Dv}(hd:eG G r f) {σ:St}{H:Hp}{Q:VK}(t:fO G E (m2 f ma mb) σ H Q):qA r (fO G E ma) (fO G E mb) σ H Q:=by obtain⟨μ,ρ,h,rs,s,o⟩:=t;exact eS rs s o λμ1 x h1 vx H1 x1 rs1 s1 r1 o1=>eS rs1 s1 o1 λμ2 y h2 vy H2 x2 rs2 s2 r2 o2=>hd E μ2 h2 H2 x y vx vy Q s2 (RelD.mono x2 _ _ r1) r2 o2
theorem mW {op:Operator}{r:R2}{f:Dv->Dv->Hs->Rs Dv}(ho:OpR X (binaryOp op) r) (hd:eG G r f) (ha:aH X G E a ma) (hb:aH X G E b mb):aH X G E (.BinOp a op b pos) (m2 f ma mb):=λhK=>PE.imp (PL ho (ha hK) (hb hK)) λ_ _ _ t=>qM hd t
theorem qN {op:CmpOp}{r:R2}{f:Dv->Dv->Hs->Rs Dv}(ho:OpR X (compareOp op) r) (hd:eG G r f) (ha:aH X G E a ma) (hb:aH X G E b mb) (hm:behindInMarks op b=false):aH X G E (.Compare a [op] [b] pos) (m2 f ma mb):=λhK=>PE.imp (P4 ho (ha hK) (hb hK) hm) λ_ _ _ t=>qM hd t
def cP:Dv->Hs->Rs Bool
 | .bl b,h=>.ok b h
 |_,_=>.bad
def mB (m:M Dv):M Bool:=λρ h=>(m ρ h).bind cP
theorem RW {m:M Dv}{σ:St}{H:Hp}{Q:Bool->Hp->Prop}(t:fP G E (mB m) σ H Q):fO G E m σ H λx H'=>∃k,x=.bl k/\Q k H':=by
 obtain⟨μ,ρ,h,rs,s,o⟩:=t;refine eS rs s o λμ1 x h1 vx H1 x1 rs1 s1 r1 o1=>?_
 cases x with
 |bl k=>exact⟨k,r1,o1.val s1 rfl⟩
 |_=>exact o1.elim
theorem lN {op:CmpOp}{r:R2}{f:Dv->Dv->Hs->Rs Dv}(ho:OpR X (compareOp op) r) (hd:eG G r f) (ha:aH X G E a ma) (hb:aH X G E b mb) (hm:behindInMarks op b=false):eR X G E (.Compare a [op] [b] pos) (mB (m2 f ma mb)):=λhK=>PT.imp (P6 ho (ha hK) (hb hK) hm) λσ H Q t=>qM hd (RW t)
def oH (f f':Dv->Dv->Hs->Rs Dv) (ma mb mc:M Dv):M Dv:=λρ h=>(ma ρ h).bind λx h1=>(mb ρ h1).bind λy h2=>(f x y h2).bind λz h3=>match z with
 | .bl true=>(mc ρ h3).bind λw h4=>f' y w h4
 | .bl false=>.ok (.bl false) h3
 |_=>.bad
theorem RX {r r':R2}{f f':Dv->Dv->Hs->Rs Dv}(hd:eG G r f) (hd':eG G r' f') {σ:St}{H:Hp}{Q:VK}(t:fO G E (oH f f' ma mb mc) σ H Q):E1 r r' (fO G E ma) (fO G E mb) (fO G E mc) σ H Q:=by
 obtain⟨μ,ρ,h,rs,s,o⟩:=t;refine eS rs s o λμ1 x h1 vx H1 x1 rs1 s1 r1 o1=>eS rs1 s1 o1 λμ2 y h2 vy H2 x2 rs2 s2 r2 o2=>?_;refine hd E μ2 h2 H2 x y vx vy _ s2 (RelD.mono x2 _ _ r1) r2 ((o2.bind (R1:=RelD G)).mono λvz H3 ⟨μ3,z,h3,x3,s3,r3,o3⟩=>?_)
 cases z with
 |bl k=>
  refine⟨k,r3, ?_⟩
  cases k with
  |true=>exact F2 (eS (rs2.mono x3) s3 o3 λμ4 w h4 vw H4 x4 mR s4 r4 o4=>hd' E μ4 h4 H4 y w vy vw Q s4 (RelD.mono (x3.trans x4) _ _ r2) r4 o4)
  |false=>exact F1 (o3.val s3 rfl)
 |_=>exact o3.elim
theorem RY {op op':CmpOp}{r r':R2}{f f':Dv->Dv->Hs->Rs Dv}(ho:OpR X (compareOp op) r) (ho':OpR X (compareOp op') r') (hd:eG G r f) (hd':eG G r' f') (ha:aH X G E a ma) (hb:aH X G E b mb) (hc:aH X G E c mc)
  (hm:lastMarks [op,op'] [b,c]=false:=by with_unfolding_all rfl):aH X G E (.Compare a [op,op'] [b,c] pos) (oH f f' ma mb mc):=λhK=>
 PE.imp (P7 ho ho' (ha hK) (hb hK) (hc hK) hm) λ_ _ _ t=>RX hd hd' t
def kX (G:Cfg) (r:V->Hp->VK->Prop) (f:Dv->Hs->Rs Dv):Prop:=∀(E:XK) (μ:Nat->ah) (h:Hs) (H:Hp) (x:Dv) (vx:V) (Q:VK),Sim G μ h H->RelD G μ h.length H x vx->Out G E μ h.length H (f x h) (RelD G) Q->r vx H Q
def m1 (f:Dv->Hs->Rs Dv) (ma:M Dv):M Dv:=λρ h=>(ma ρ h).bind f
theorem RZ {op:UnaryOp}{r:V->Hp->VK->Prop}{f:Dv->Hs->Rs Dv}(ho:tU X (unaryOp op) r) (hd:kX G r f) (ha:aH X G E a ma):aH X G E (.UnaryOp op a pos) (m1 f ma):=λhK=>PE.imp (PM ho (ha hK)) λσ H Q ⟨μ,ρ,h,rs,s,o⟩=>eS rs s o λμ1 x h1 vx H1 x1 rs1 s1 r1 o1=>hd E μ1 h1 H1 x vx Q s1 r1 o1
variable{tA tB':M Bool}{rest:List bp}
def gK (t u:M Bool):M Bool:=λρ h=>(t ρ h).bind λc h1=>if c=true then u ρ h1 else .ok false h1
def iH (t u:M Bool):M Bool:=λρ h=>(t ρ h).bind λc h1=>if c=true then .ok true h1 else u ρ h1
def dU (t:M Bool):M Bool:=λρ h=>(t ρ h).bind λc h1=>.ok (!c) h1
def SndW (X:Cx) (G:Cfg) (E:XK) (pe:bp) (m:M Bool):Prop:=X.K=G.K->PW X pe (fP G E m)
theorem SndW.t {pe:bp}{m:M Bool}(h:SndW X G E pe m):eR X G E pe m:=λhK=>(h hK).pt
theorem PW.imp {e:bp}{t t':TT}(h:PW X e t) (i:∀σ H Q,t' σ H Q->t σ H Q):PW X e t':=λwh pins s σ H Q I q=>h wh pins s σ H Q I (i σ H Q q)
theorem GL (ha:eR X G E a tA):SndW X G E (.BoolOp .And [a] pos) tA:=λhK=>N4 (ha hK)
theorem uJ (ha:eR X G E a tA):SndW X G E (.BoolOp .Or [a] pos) tA:=λhK=>N5 (ha hK)
theorem R0 {σ:St}{H:Hp}{Q:Bool->Hp->Prop}(t:fP G E (gK tA tB') σ H Q):EM (fP G E tA) (fP G E tB') σ H Q:=by
 obtain⟨μ,ρ,h,rs,s,o⟩:=t;refine zL rs s o λμ1 k h1 H1 x1 rs1 s1 o1=>?_
 cases k with
 |true=>rw[if_pos rfl]at o1 ⊢;exact⟨μ1,ρ,h1,rs1,s1,o1⟩
 |false=>rw[if_neg (by decide)]at o1 ⊢;exact o1.val s1 rfl
theorem R3 {σ:St}{H:Hp}{Q:Bool->Hp->Prop}(t:fP G E (iH tA tB') σ H Q):EN (fP G E tA) (fP G E tB') σ H Q:=by
 obtain⟨μ,ρ,h,rs,s,o⟩:=t;refine zL rs s o λμ1 k h1 H1 x1 rs1 s1 o1=>?_
 cases k with
 |false=>rw[if_neg (by decide)]at o1 ⊢;exact⟨μ1,ρ,h1,rs1,s1,o1⟩
 |true=>rw[if_pos rfl]at o1 ⊢;exact o1.val s1 rfl
theorem zM (ha:eR X G E a tA) (hb:SndW X G E (.BoolOp .And (b::rest) pos) tB'):SndW X G E (.BoolOp .And (a::b::rest) pos) (gK tA tB'):=λhK=>PW.imp (N6 (ha hK) (hb hK)) λ_ _ _ t=>R0 t
theorem uK (ha:eR X G E a tA) (hb:SndW X G E (.BoolOp .Or (b::rest) pos) tB'):SndW X G E (.BoolOp .Or (a::b::rest) pos) (iH tA tB'):=λhK=>PW.imp (N7 (ha hK) (hb hK)) λ_ _ _ t=>R3 t
theorem kE (ha:eR X G E a tA):eR X G E (.UnaryOp .Not a pos) (dU tA):=λhK=>PT.imp (N8 (ha hK)) λσ H Q ⟨μ,ρ,h,rs,s,o⟩=>zL rs s o λμ1 k h1 H1 x1 rs1 s1 o1=>o1.val s1 rfl
def dN (m u:M Dv):M Dv:=λρ h=>(m ρ h).bind λd h1=>match d with
 | .bl true=>u ρ h1
 | .bl false=>.ok (.bl false) h1
 |_=>.bad
def oI:Dv->Hs->Rs Dv
 | .bl b,h=>.ok (.bl (!b)) h
 |_,_=>.bad
theorem mX {op} {m:M Dv}(h:aH X G E a m):aH X G E (.BoolOp op [a] pos) m:=λhK=>OB (h hK)
theorem lO (ha:aH X G E a ma) (hb:aH X G E (.BoolOp .And (b::rest) pos) mb):aH X G E (.BoolOp .And (a::b::rest) pos) (dN ma mb):=λhK=>PE.imp (OC (ha hK) (hb hK)) λσ H Q ⟨μ,ρ,h,rs,s,o⟩=>
 eS rs s o λμ1 x h1 vx H1 x1 rs1 s1 r1 o1=>by
  cases x with
  |bl k=>
   refine⟨k,r1, ?_⟩
   cases k with
   |true=>exact F2 ⟨μ1,ρ,h1,rs1,s1,o1⟩
   |false=>exact F1 (o1.val s1 rfl)
  |_=>exact o1.elim
theorem GN (ha:aH X G E a ma):aH X G E (.UnaryOp .Not a pos) (m1 oI ma):=λhK=>PE.imp (OD (ha hK)) λσ H Q ⟨μ,ρ,h,rs,s,o⟩=>
 eS rs s o λμ1 x h1 vx H1 x1 rs1 s1 r1 o1=>by
  cases x with
  |bl k=>exact⟨k,r1,o1.val s1 rfl⟩
  |_=>exact o1.elim
def eY:Dv->Hs->Rs Bool
 | .non,h=>.ok false h
 | .bl b,h=>.ok b h
 | .int i,h=>.ok (i != 0) h
 | .tup xs,h=>.ok (!xs.isEmpty) h
 | .ref i,h=>match getL h i with
  |some xs=>.ok (!xs.isEmpty) h
  |none=>.bad
 |_,_=>.bad
def bW (m:M Dv):M Bool:=λρ h=>(m ρ h).bind eY
theorem GO {μ:Nat->ah}{n:Nat}{H:Hp}{ds:List Dv}{vs:List V}(r:RelDL G μ n H ds vs):vs.isEmpty=ds.isEmpty:=by
 have:=r.length
 cases ds <;> cases vs <;> simp_all
theorem gL (ha:aH X G E a ma) (he:∀whole,isTrue a X.env whole=(do let v <-whole;standAt a.pos;holding [v] (truthy v)):=by intro _;rfl):eR X G E a (bW ma):=λhK=>PT.imp (QA (ha hK) he) λσ H Q ⟨μ,ρ,h,rs,s,o⟩=>
 eS rs s o λμ1 x h1 vx H1 x1 rs1 s1 r1 o1=>by
  cases x with
  |non=>rw[RelD]at r1;subst r1;exact⟨_,rfl,o1.val s1 rfl⟩
  |bl k=>rw[RelD]at r1;subst r1;exact⟨_,rfl,o1.val s1 rfl⟩
  |int i=>rw[RelD]at r1;subst r1;exact⟨_,rfl,o1.val s1 rfl⟩
  |tup ds=>obtain⟨p,vs,rfl,e,r⟩:=r1;exact⟨_,.inr (.inl ⟨vs,SqT.of e,rfl⟩),by rw[GO r];exact o1.val s1 rfl⟩
  |ref i=>
   obtain⟨hi,rfl⟩:=r1;dsimp only[eY]at o1
   cases q:getL h1 i with
   |none=>rw[q]at o1;exact o1.elim
   |some xs=>obtain⟨vs,e,r⟩:=s1.ob i _ (cX q);rw[q]at o1;exact⟨_,.inl ⟨vs,SqL.of e,rfl⟩,by rw[GO r];exact o1.val s1 rfl⟩
  |_=>exact o1.elim
end
end L2.Mr
namespace L2
open PySem PySem.Spec PyProof.Rows
section
variable{Pg:bj}{w:cq}{P:ah->Prop}{H:Hp}{s:ag}
theorem R4 (hok:HOk Pg w H s.heap) (n:Nat) (A:cu) (d d':Dt) (v v':V) (u u':af) (hn:eQ d<=n) (hu:A.units+n+1<cLine) (n1:nod d=true) (n2:nod d'=true) (h:Den P H d v) (h':Den P H d' v') (r:RelV v u) (r':RelV v' u'):
  SeqAt.RcNeAt A s u u' (!bN d d'):=by
 have hu':A.units<cLine:=by omega
 have hin:∀{vs vs':List V}{ds ds':List Dt}{its its':List af},kD ds+1<=n->iF ds=true->iF ds'=true->DenL P H ds vs->DenL P H ds' vs'->Vals vs its->Vals vs' its'->
   ∀j (h1:j<its.toArray.size) (h2:j<its'.toArray.size),tq A.in1 s its.toArray[j] its'.toArray[j] (bN (ds.getD j .non) (ds'.getD j .non)):=by
  intro vs vs' ds ds' its its' hd m1 m2 g g' q q' j h1 h2;obtain⟨x,ex,rx⟩:=uF q h1;obtain⟨x',ex',rx'⟩:=uF q' h2;obtain⟨dx,edx,gx⟩:=g.get ex;obtain⟨dx',edx',gx'⟩:=g'.get ex';have e1:ds.getD j .non=dx:=by simp[ki,edx]
  have e2:ds'.getD j .non=dx':=by simp[ki,edx']
  rw[e1,e2];have hm:=bx edx;have hdm:=zH hm;exact(zI hok (n - 1) A.in1 dx dx' x x' _ _ (by omega) (by show A.units+1+(n - 1)+1<cLine;omega) (qJ m1 hm) (qJ m2 (bx edx')) gx gx' rx rx').2
 cases d with
 |non=>
  rw[Den]at h;subst h;cases r
  cases d' with
  |non=>rw[Den]at h';subst h';cases r';exact SeqAt.RcNeAt.none_none
  |bl b'=>rw[Den]at h';subst h';cases r';exact SeqAt.RcNeAt.none_bool  _
  |int i'=>rw[Den]at h';subst h';obtain⟨t2,rfl⟩:=r';exact SeqAt.RcNeAt.none_int  _ _
  |str x'=>rw[Den]at h';subst h';obtain⟨t2,rfl⟩:=r';exact SeqAt.RcNeAt.none_str  _ _
  |tup ds'=>rw[Den]at h';obtain⟨a2,vs2,rfl,e2,g2⟩:=h';cases r';obtain⟨its2,q2,tp2⟩:=fK hok e2;exact SeqAt.RcNeAt.none_tuple  tp2 hu'
  |lst ds'=>rw[Den]at h';obtain⟨a2,vs2,rfl,_,e2,g2⟩:=h';cases r';obtain⟨its2,q2,tp2⟩:=fL hok e2;exact SeqAt.RcNeAt.none_list  tp2 hu'
  |dct=>simp[nod]at n2
 |bl b=>
  rw[Den]at h;subst h;cases r
  cases d' with
  |non=>rw[Den]at h';subst h';cases r';exact SeqAt.RcNeAt.bool_none _
  |bl b'=>rw[Den]at h';subst h';cases r';exact SeqAt.RcNeAt.bool_bool _ _
  |int i'=>rw[Den]at h';subst h';obtain⟨t2,rfl⟩:=r';exact SeqAt.RcNeAt.bool_int _ _ _
  |str x'=>rw[Den]at h';subst h';obtain⟨t2,rfl⟩:=r';exact SeqAt.RcNeAt.bool_str _ _ _
  |tup ds'=>rw[Den]at h';obtain⟨a2,vs2,rfl,e2,g2⟩:=h';cases r';obtain⟨its2,q2,tp2⟩:=fK hok e2;exact SeqAt.RcNeAt.bool_tuple _ tp2 hu'
  |lst ds'=>rw[Den]at h';obtain⟨a2,vs2,rfl,_,e2,g2⟩:=h';cases r';obtain⟨its2,q2,tp2⟩:=fL hok e2;exact SeqAt.RcNeAt.bool_list _ tp2 hu'
  |dct=>simp[nod]at n2
 |int i=>
  rw[Den]at h;subst h;obtain⟨t1,rfl⟩:=r
  cases d' with
  |non=>rw[Den]at h';subst h';cases r';exact SeqAt.RcNeAt.int_none _ _
  |bl b'=>rw[Den]at h';subst h';cases r';exact SeqAt.RcNeAt.int_bool _ _ _
  |int i'=>rw[Den]at h';subst h';obtain⟨t2,rfl⟩:=r';exact SeqAt.RcNeAt.int_int _ _ _ _
  |str x'=>rw[Den]at h';subst h';obtain⟨t2,rfl⟩:=r';exact SeqAt.RcNeAt.int_str _ _ _ _
  |tup ds'=>rw[Den]at h';obtain⟨a2,vs2,rfl,e2,g2⟩:=h';cases r';obtain⟨its2,q2,tp2⟩:=fK hok e2;exact SeqAt.RcNeAt.int_tuple _ _ tp2 hu'
  |lst ds'=>rw[Den]at h';obtain⟨a2,vs2,rfl,_,e2,g2⟩:=h';cases r';obtain⟨its2,q2,tp2⟩:=fL hok e2;exact SeqAt.RcNeAt.int_list _ _ tp2 hu'
  |dct=>simp[nod]at n2
 |str x=>
  rw[Den]at h;subst h;obtain⟨t1,rfl⟩:=r
  cases d' with
  |non=>rw[Den]at h';subst h';cases r';exact SeqAt.RcNeAt.str_none _ _
  |bl b'=>rw[Den]at h';subst h';cases r';exact SeqAt.RcNeAt.str_bool _ _ _
  |int i'=>rw[Den]at h';subst h';obtain⟨t2,rfl⟩:=r';exact SeqAt.RcNeAt.str_int _ _ _ _
  |str x'=>rw[Den]at h';subst h';obtain⟨t2,rfl⟩:=r';exact SeqAt.RcNeAt.str_str _ _ _ _
  |tup ds'=>rw[Den]at h';obtain⟨a2,vs2,rfl,e2,g2⟩:=h';cases r';obtain⟨its2,q2,tp2⟩:=fK hok e2;exact SeqAt.RcNeAt.str_tuple _ _ tp2 hu'
  |lst ds'=>rw[Den]at h';obtain⟨a2,vs2,rfl,_,e2,g2⟩:=h';cases r';obtain⟨its2,q2,tp2⟩:=fL hok e2;exact SeqAt.RcNeAt.str_list _ _ tp2 hu'
  |dct=>simp[nod]at n2
 |tup ds=>
  rw[Den]at h;obtain⟨a1,vs1,rfl,e1,g1⟩:=h;cases r;obtain⟨its1,q1,tp1⟩:=fK hok e1
  cases d' with
  |non=>rw[Den]at h';subst h';cases r';exact SeqAt.RcNeAt.tuple_none  tp1 hu'
  |bl b'=>rw[Den]at h';subst h';cases r';exact SeqAt.RcNeAt.tuple_bool _ tp1 hu'
  |int i'=>rw[Den]at h';subst h';obtain⟨t2,rfl⟩:=r';exact SeqAt.RcNeAt.tuple_int _ _ tp1 hu'
  |str x'=>rw[Den]at h';subst h';obtain⟨t2,rfl⟩:=r';exact SeqAt.RcNeAt.tuple_str _ _ tp1 hu'
  |tup ds'=>
   rw[Den]at h';obtain⟨a2,vs2,rfl,e2,g2⟩:=h';cases r';obtain⟨its2,q2,tp2⟩:=fK hok e2;rw[nod]at n1 n2;rw[eQ]at hn;have hl1:=g1.length;have hl2:=g2.length;have hq1:=q1.length;have hq2:=q2.length;rw[bN];have z:=SeqAt.RcNeAt.tuples (e:=λj=>bN (ds.getD j .non) (ds'.getD j .non)) tp1 tp2 hu' (hin hn n1 n2 g1 g2 q1 q2);have s1:its1.toArray.size=ds.length:=by simp;omega
   have s2:its2.toArray.size=ds'.length:=by simp;omega
   rw[s1,s2]at z
   by_cases hlen:ds.length=ds'.length
   ·rw[qK hlen];rw[<-hlen,Nat.min_self]at z;simpa using z
   ·rw[qL hlen];rw[show(ds.length==ds'.length)=false from beq_eq_false_iff_ne.mpr hlen,sf]at z;exact z
  |lst ds'=>rw[Den]at h';obtain⟨a2,vs2,rfl,_,e2,g2⟩:=h';cases r';obtain⟨its2,q2,tp2⟩:=fL hok e2;exact SeqAt.RcNeAt.tuple_list tp1 tp2 hu'
  |dct=>simp[nod]at n2
 |lst ds=>
  rw[Den]at h;obtain⟨a1,vs1,rfl,_,e1,g1⟩:=h;cases r;obtain⟨its1,q1,tp1⟩:=fL hok e1
  cases d' with
  |non=>rw[Den]at h';subst h';cases r';exact SeqAt.RcNeAt.list_none  tp1 hu'
  |bl b'=>rw[Den]at h';subst h';cases r';exact SeqAt.RcNeAt.list_bool _ tp1 hu'
  |int i'=>rw[Den]at h';subst h';obtain⟨t2,rfl⟩:=r';exact SeqAt.RcNeAt.list_int _ _ tp1 hu'
  |str x'=>rw[Den]at h';subst h';obtain⟨t2,rfl⟩:=r';exact SeqAt.RcNeAt.list_str _ _ tp1 hu'
  |tup ds'=>rw[Den]at h';obtain⟨a2,vs2,rfl,e2,g2⟩:=h';cases r';obtain⟨its2,q2,tp2⟩:=fK hok e2;exact SeqAt.RcNeAt.list_tuple tp1 tp2 hu'
  |lst ds'=>
   rw[Den]at h';obtain⟨a2,vs2,rfl,_,e2,g2⟩:=h';cases r';obtain⟨its2,q2,tp2⟩:=fL hok e2;rw[nod]at n1 n2;rw[eQ]at hn;have hl1:=g1.length;have hl2:=g2.length;have hq1:=q1.length;have hq2:=q2.length;rw[bN]
   by_cases hlen:ds.length=ds'.length
   ·have z:=SeqAt.RcNeAt.lists (e:=λj=>bN (ds.getD j .non) (ds'.getD j .non)) tp1 tp2 (by simp;omega) hu' (hin hn n1 n2 g1 g2 q1 q2);rw[qK hlen];simpa[hq1.symm,hl1]using z
   ·rw[qL hlen];exact SeqAt.RcNeAt.lists_lengths tp1 tp2 (by simp;omega) hu'
  |dct=>simp[nod]at n2
 |dct=>simp[nod]at n1
end
end L2
namespace L2.Mr
open PySem PySem.Spec PyProof.Rows
def bQ {α β:Type}(f:α->Option β):List α->Option (List β)
 | []=>some []
 |x::xs=>match f x with
  |none=>none
  |some y=>match bQ f xs with
   |none=>none
   |some ys=>some (y::ys)
def bR:Nat->Hs->Dv->Option Dt
 |0,_,_=>none
 |k+1,h,d=>match d with
  | .non=>some .non
  | .bl b=>some (.bl b)
  | .int i=>some (.int i)
  | .str x=>some (.str x)
  | .tup xs=>match bQ (bR k h) xs with
   |some ts=>some (.tup ts)
   |none=>none
  | .ref i=>match getL h i with
   |some xs=>match bQ (bR k h) xs with
    |some ts=>some (.lst ts)
    |none=>none
   |none=>none
  |_=>none
abbrev iY:ah->Prop:=λ_=>True
section
variable{G:Cfg}{μ:Nat->ah}{h:Hs}{H:Hp}
theorem oJ (s:Sim G μ h H):∀(k:Nat) (d:Dv) (v:V) (t:Dt),RelD G μ h.length H d v->bR k h d=some t->Den iY H t v/\eQ t<=k/\nod t=true:=by
 intro k
 induction k with
 |zero=>intro d v t _ e;cases e
 |succ k ih=>
  have il:∀(xs:List Dv) (vs:List V) (ts:List Dt),RelDL G μ h.length H xs vs->bQ (bR k h) xs=some ts->DenL iY H ts vs/\kD ts<=k/\iF ts=true:=by
   intro xs
   induction xs with
   |nil=>intro vs ts r e;cases e;rw[RelDL]at r;subst r;exact⟨DenL.nil,by simp[kD],rfl⟩
   |cons x xs ihx=>
    intro vs ts r e;rw[RelDL]at r;obtain⟨v,rr,rfl,r1,r2⟩:=r;unfold bQ at e
    cases q:bR k h x with
    |none=>rw[q]at e;cases e
    |some y=>
     rw[q]at e;dsimp only at e
     cases q2:bQ (bR k h) xs with
     |none=>rw[q2]at e;cases e
     |some ys=>rw[q2]at e;cases e;obtain⟨a1,a2,a3⟩:=ih x v y r1 q;obtain⟨b1,b2,b3⟩:=ihx rr ys r2 q2;exact⟨DenL.cons a1 b1,by rw[kD];omega,by rw[iF,a3,b3];rfl⟩
  intro d v t r e;unfold bR at e
  cases d with
  |non=>cases e;rw[RelD]at r;subst r;exact⟨by rw[Den],by simp[eQ],rfl⟩
  |bl b=>cases e;rw[RelD]at r;subst r;exact⟨by rw[Den],by simp[eQ],rfl⟩
  |int b=>cases e;rw[RelD]at r;subst r;exact⟨by rw[Den],by simp[eQ],rfl⟩
  |str b=>cases e;rw[RelD]at r;subst r;exact⟨by rw[Den],by simp[eQ],rfl⟩
  |tup xs=>
   dsimp only at e
   cases q:bQ (bR k h) xs with
   |none=>rw[q]at e;cases e
   |some ts=>rw[q]at e;cases e;obtain⟨a,vs,rfl,e1,r1⟩:=r;obtain⟨b1,b2,b3⟩:=il xs vs ts r1 q;exact⟨by rw[Den];exact⟨a,vs,rfl,e1,b1⟩,by rw[eQ];omega,by rw[nod];exact b3⟩
  |ref i=>
   dsimp only at e
   cases g:getL h i with
   |none=>rw[g]at e;cases e
   |some xs=>
    rw[g]at e;dsimp only at e
    cases q:bQ (bR k h) xs with
    |none=>rw[q]at e;cases e
    |some ts=>rw[q]at e;cases e;obtain⟨hi,rfl⟩:=r;obtain⟨vs,e1,r1⟩:=s.ob i _ (cX g);obtain⟨b1,b2,b3⟩:=il xs vs ts r1 q;exact⟨by rw[Den];exact⟨_,vs,rfl,trivial,e1,b1⟩,by rw[eQ];omega,by rw[nod];exact b3⟩
  |edc=>cases e
  |exc c=>cases e
  |scr=>cases e
end
def cE:Nat:=30
def cK (x y:Dv) (h:Hs):Rs Dv:=match bR cE h x,bR cE h y with
 |some s,some t=>.ok (.bl (bN s t)) h
 |_,_=>.bad
def cT (x y:Dv) (h:Hs):Rs Dv:=match bR cE h x,bR cE h y with
 |some s,some t=>.ok (.bl (!bN s t)) h
 |_,_=>.bad
def uL (neg:Bool):R2:=λx y H Q=>∃t t',Den iY H t x/\Den iY H t' y/\eQ t<=cE/\nod t=true/\nod t'=true/\Q (.bl (if neg then !bN t t' else bN t t')) H
section
variable{X:Cx}{G:Cfg}
theorem GP (hu:X.A.units+64<cLine):OpR X (compareOp .Eq) (uL false):=by intro pins s σ H x y v u Q I r1 r2 ⟨t,t',d,d',hd,n1,n2,q⟩;exact EqBoolInt.of_rc (zI I.hok cE X.A t t' x y v u hd (by unfold cE;omega) n1 n2 d d' r1 r2).1 ⟨.bl _,H,I,rfl,q⟩
theorem GQ (hu:X.A.units+64<cLine):OpR X (compareOp .NotEq) (uL true):=by intro pins s σ H x y v u Q I r1 r2 ⟨t,t',d,d',hd,n1,n2,q⟩;exact EqBoolInt.of_rcne (R4 I.hok cE X.A t t' x y v u hd (by unfold cE;omega) n1 n2 d d' r1 r2) ⟨.bl _,H,I,rfl,q⟩
theorem GR:eG G (uL false) cK:=by
 intro E μ h H x y vx vy Q s rx ry o;unfold cK at o
 split at o
 ·rename_i t t' e e';obtain⟨a1,a2,a3⟩:=oJ s _ x vx t rx e;obtain⟨b1,b2,b3⟩:=oJ s _ y vy t' ry e';exact⟨t,t',a1,b1,a2,a3,b3,o.val s rfl⟩
 ·exact o.elim
theorem GS:eG G (uL true) cT:=by
 intro E μ h H x y vx vy Q s rx ry o;unfold cT at o
 split at o
 ·rename_i t t' e e';obtain⟨a1,a2,a3⟩:=oJ s _ x vx t rx e;obtain⟨b1,b2,b3⟩:=oJ s _ y vy t' ry e';exact⟨t,t',a1,b1,a2,a3,b3,o.val s rfl⟩
 ·exact o.elim
end
def hG (g:Int->Int->Dv):Dv->Dv->Hs->Rs Dv
 | .int i,.int j,h=>.ok (g i j) h
 |_,_,_=>.bad
def jO (C:Int->Int->Bool) (g:Int->Int->Dv):Dv->Dv->Hs->Rs Dv
 | .int i,.int j,h=>if C i j=true then .ok (g i j) h else .bad
 |_,_,_=>.bad
section
variable{X:Cx}{G:Cfg}
theorem R5 {f:Int->Int->Int}:eG G (jM λi j=>.int (f i j)) (hG λi j=>.int (f i j)):=by
 intro E μ h H x y vx vy Q s rx ry o
 cases x with
 |int i=>
  cases y with
  |int j=>exact⟨i,j,rx,ry,o.val s rfl⟩
  |_=>exact o.elim
 |_=>exact o.elim
theorem uM {f:Int->Int->Bool}:eG G (jM λi j=>.bl (f i j)) (hG λi j=>.bl (f i j)):=by
 intro E μ h H x y vx vy Q s rx ry o
 cases x with
 |int i=>
  cases y with
  |int j=>exact⟨i,j,rx,ry,o.val s rfl⟩
  |_=>exact o.elim
 |_=>exact o.elim
theorem uN {C:Int->Int->Prop}{B:Int->Int->Bool}{f:Int->Int->Int}(hB:∀i j,B i j=true->C i j):eG G (rI C λi j=>.int (f i j)) (jO B λi j=>.int (f i j)):=by
 intro E μ h H x y vx vy Q s rx ry o
 cases x with
 |int i=>
  cases y with
  |int j=>
   dsimp only[jO]at o
   split at o
   ·rename_i hb;exact⟨i,j,rx,ry,hB i j hb,o.val s rfl⟩
   ·exact o.elim
  |_=>exact o.elim
 |_=>exact o.elim
def eI (i:Int):Bool:=decide (-18446744073709551616<i)&&decide (i<18446744073709551616)
def qO (i j:Int):Bool:=eI i||eI j
theorem R6 (i j:Int) (h:qO i j=true):CMul i j:=by
 unfold qO eI at h;unfold CMul;simp only[Bool.or_eq_true,dj,decide_eq_true_eq]at h
 rcases h with h|h
 ·exact .inl ⟨by omega,by omega⟩
 ·exact .inr ⟨by omega,by omega⟩
def oK (_ j:Int):Bool:=decide (0<j)
theorem R7 (i j:Int) (h:oK i j=true):0<j:=by unfold oK at h;simpa using h
def qP (i j:Int):Bool:=decide (0<=j)&&decide (j<=1000000)&&decide (i.natAbs<18446744073709551616)
theorem R8 (i j:Int) (h:qP i j=true):yV i j:=by unfold qP at h;unfold yV;simp only[dj,decide_eq_true_eq]at h;exact⟨h.1.1,h.1.2,by have:=h.2;omega⟩
def kF:Dv->Dv->Hs->Rs Dv
 | .int i,.int j,h=>.ok (.int (i+j)) h
 | .ref i,.ref j,h=>match getL h i,getL h j with
  |some xs,some ys=>lim (xs.length+ys.length) (.ok (.ref h.length) (h++[.lst (xs++ys)]))
  |_,_=>.bad
 | .tup xs,.tup ys,h=>if xs.isEmpty=true then .bad else lim (xs.length+ys.length) (.ok (.tup (xs++ys)) h)
 |_,_,_=>.bad
def zN (K:aq):R2:=λx y H Q=>(jM λi j=>.int (i+j)) x y H Q∨FX x y H Q∨FK K x y H Q
theorem R9:OpR X (binaryOp .Add) (zN X.K):=op_add.or (op_cat.or Q2)
theorem SA:eG G (zN G.K) kF:=by
 intro E μ h H x y vx vy Q s rx ry o
 cases x with
 |int i=>
  cases y with
  |int j=>exact .inl ⟨i,j,rx,ry,o.val s rfl⟩
  |_=>exact o.elim
 |ref i=>
  cases y with
  |ref j=>
   dsimp only[kF]at o
   cases g1:getL h i with
   |none=>rw[g1]at o;exact o.elim
   |some xs=>
    cases g2:getL h j with
    |none=>rw[g1,g2]at o;exact o.elim
    |some ys=>
     rw[g1,g2]at o;dsimp only at o;unfold lim at o
     split at o
     ·rename_i hl;obtain⟨vs,e1,r1⟩:=s.ob i _ (cX g1);obtain⟨ws,e2,r2⟩:=s.ob j _ (cX g2);obtain⟨_,rfl⟩:=rx;obtain⟨_,rfl⟩:=ry;exact .inr (.inl ⟨_,_,vs,ws,rfl,rfl,e1,e2,by rw[r1.length,r2.length];exact uI hl,λp hp=>mV s (r1.append r2) hp o⟩)
     ·exact o.elim
  |_=>exact o.elim
 |tup xs=>
  cases y with
  |tup ys=>
   dsimp only[kF]at o
   split at o
   ·exact o.elim
   ·rename_i hne;unfold lim at o
    split at o
    ·rename_i hl;obtain⟨a,vs,rfl,e1,r1⟩:=rx;obtain⟨b,ws,rfl,e2,r2⟩:=ry;refine .inr (.inr ⟨a,b,vs,ws,rfl,rfl,SqT.of e1,SqT.of e2, ?_,by rw[r1.length,r2.length];exact uI hl,λz=>?_,λ_ p hp=>?_⟩)
     ·intro z;subst z;have:=r1.length
      cases xs <;> simp_all
     ·subst z;have e3:ys=[]:=by have:=r2.length;cases ys <;> simp_all
      subst e3;refine o.val s ?_;rw[jg];exact⟨a,vs,rfl,e1,r1⟩
     ·exact o μ _ _ (Ext.same (cJ hp)) (s.same (cJ hp)) ⟨p,_,rfl,bT,RelDL.mono (Ext.same (cJ hp)) _ _ (r1.append r2)⟩
    ·exact o.elim
  |_=>exact o.elim
 |_=>exact o.elim
def hJ (xs:List Dv) (i:Int) (h:Hs):Rs Dv:=match cI xs i with
 |some d=>.ok d h
 |none=>.bad
def eU (scr:List Int):Dv->Dv->Hs->Rs Dv
 | .tup xs,.int i,h=>hJ xs i h
 | .ref k,.int i,h=>match getL h k with
  |some xs=>hJ xs i h
  |none=>.bad
 | .scr,.int i,h=>hJ (scr.map Dv.int) i h
 |_,_,_=>.bad
theorem qQ {μ:Nat->ah}{n:Nat}{H:Hp}:∀ns:List Int,RelDL G μ n H (ns.map Dv.int) (ns.map V.int)
 | []=>RelDL.nil
 |i::ns=>RelDL.cons rfl (qQ ns)
theorem zO {E:XK}{μ:Nat->ah}{h:Hs}{H:Hp}{xs:List Dv}{vs:List V}{i:Int}{Q:VK}(s:Sim G μ h H) (r:RelDL G μ h.length H xs vs) (o:Out G E μ h.length H (hJ xs i h) (RelD G) Q):∃v,cI vs i=some v/\Q v H:=by
 unfold hJ at o
 cases e:cI xs i with
 |none=>rw[e]at o;exact o.elim
 |some d=>
  rw[e]at o;unfold cI at e ⊢;rw[r.length]
  cases q:dM xs.length i with
  |none=>rw[q]at e;cases e
  |some j=>rw[q]at e;obtain⟨v,e1,r1⟩:=r.get e;exact⟨v,e1,o.val s r1⟩
theorem GU:eG G (yZ G.K) (eU G.scr):=by
 intro E μ h H x y vx vy Q s rx ry o
 cases y with
 |int i=>
  cases x with
  |tup xs=>obtain⟨a,vs,rfl,e1,r1⟩:=rx;obtain⟨v,e2,q⟩:=zO s r1 o;exact .inr (.inl ⟨a,vs,i,v,rfl,ry,SqT.of e1,e2,q⟩)
  |ref k=>
   dsimp only[eU]at o
   cases g:getL h k with
   |none=>rw[g]at o;exact o.elim
   |some xs=>rw[g]at o;obtain⟨vs,e1,r1⟩:=s.ob k _ (cX g);obtain⟨_,rfl⟩:=rx;obtain⟨v,e2,q⟩:=zO s r1 o;exact .inl ⟨_,vs,i,v,rfl,ry,SqL.of e1,e2,q⟩
  |scr=>obtain⟨rfl,hf⟩:=rx;obtain⟨v,e2,q⟩:=zO s (qQ G.scr) o;exact .inl ⟨_,_,i,v,rfl,ry,hf.sq,e2,q⟩
  |_=>exact o.elim
 |_=>cases x <;> exact o.elim
theorem SD {E:XK}{a b:bp}{ma mb:M Dv}{pos:Pos}(ha:aH X G E a ma) (hb:aH X G E b mb) (hs:yY b:=by intro _ _;rfl):aH X G E (.Subscript a b pos) (m2 (eU G.scr) ma mb):=λhK=>PE.imp (FL (by have:=FQ (X:=X);rw[hK]at this;exact this) (ha hK) (hb hK) hs) λ_ _ _ t=>qM GU t
theorem zP:dh "tuple" = some (.type "tuple"):=by decide +kernel
theorem uO:dh "list" = some (.type "list"):=by decide +kernel
theorem GV:dh "max" = some (.builtin "max"):=by decide +kernel
theorem GW:dh "min" = some (.builtin "min"):=by decide +kernel
variable{E:XK}{aR:M (List Dv)}{e:bp}{es:List bp}{x:Str}{p pos:Pos}{id T:String}
def mY (G:Cfg) (r:List V->Hp->VK->Prop) (f:List Dv->Hs->Rs Dv):Prop:=∀(E:XK) (μ:Nat->ah) (h:Hs) (H:Hp) (xs:List Dv) (vs:List V) (Q:VK),Sim G μ h H->RelDL G μ h.length H xs vs->Out G E μ h.length H (f xs h) (RelD G) Q->r vs H Q
def aF (f:List Dv->Hs->Rs Dv) (ms:M (List Dv)):M Dv:=λρ h=>(ms ρ h).bind f
theorem GX {r:List V->Hp->VK->Prop}{f:List Dv->Hs->Rs Dv}(hd:mY G r f) {σ:St}{H:Hp}{Q:VK}(t:fO G E (aF f aR) σ H Q):tX r (zK G E aR) σ H Q:=by obtain⟨μ,ρ,h,rs,s,o⟩:=t;exact iX rs s o λμ1 ds h1 vs H1 x1 rs1 s1 r1 o1=>hd E μ1 h1 H1 ds vs Q s1 r1 o1
theorem oM {r:List V->Hp->VK->Prop}{f:List Dv->Hs->Rs Dv}(hc:CallR X (.builtin id) r) (hd:mY G r f) (hg:Gl X x) (hm:X.mg x=none) (hv:dh x=some (.builtin id)) (ha:dQ X G E (e::es) aR) (hn:x ≠ "__name__" := by decide) (hdb:(x==("__debug__" : Str))=false:=by decide)
  (he:au (e::es) X.env=(false,eval e X.env)::au es X.env:=by rfl) (hpl:(backTo pos (au es X.env)).any (·.1)=false:=by rfl):aH X G E (.Call (.Name x p) (e::es) [] pos) (aF f aR):=λhK=>
 PE.imp (qD hc hg hm hv (ha hK) hn hdb he hpl) λ_ _ _ t=>GX hd t
theorem GY {r:List V->Hp->VK->Prop}{f:List Dv->Hs->Rs Dv}(hc:CallR X (.type T) r) (hd:mY G r f) (hg:Gl X x) (hm:X.mg x=none) (hv:dh x=some (.type T)) (ha:dQ X G E (e::es) aR) (hn:x ≠ "__name__" := by decide) (hdb:(x==("__debug__" : Str))=false:=by decide)
  (he:au (e::es) X.env=(false,eval e X.env)::au es X.env:=by rfl) (hpl:(backTo pos (au es X.env)).any (·.1)=false:=by rfl):aH X G E (.Call (.Name x p) (e::es) [] pos) (aF f aR):=λhK=>
 PE.imp (tY hc hg hm hv (ha hK) hn hdb he hpl) λ_ _ _ t=>GX hd t
def fY (scr:List Int):Dv->Hs->Option (List Dv)
 | .tup xs,_=>some xs
 | .ref i,h=>getL h i
 | .scr,_=>some (scr.map Dv.int)
 |_,_=>none
def f1 (g:Dv->Hs->Rs Dv):List Dv->Hs->Rs Dv
 | [d],h=>g d h
 |_,_=>.bad
def iI (scr:List Int) (d:Dv) (h:Hs):Rs Dv:=match fY scr d h with
 |some xs=>.ok (.int xs.length) h
 |none=>.bad
theorem oO {μ:Nat->ah}{n:Nat}{H:Hp}{d:Dv}{vs:List V}(r:RelDL G μ n H [d] vs):∃v,vs=[v]/\RelD G μ n H d v:=by rw[RelDL]at r;obtain⟨v,rr,rfl,h1,h2⟩:=r;rw[RelDL]at h2;subst h2;exact⟨v,rfl,h1⟩
theorem oP {r:V->Hp->VK->Prop}{g:Dv->Hs->Rs Dv}(hg:kX G r g):mY G (λxs H Q=>∃v,xs=[v]/\r v H Q) (f1 g):=by
 intro E μ h H xs vs Q s rr o
 match xs,rr,o with
 | [],_,o=>exact o.elim
 |_::_::_,_,o=>exact o.elim
 | [d],rr,o=>obtain⟨v,rfl,r1⟩:=oO rr;exact⟨v,rfl,hg E μ h H d v Q s r1 o⟩
theorem zQ {μ:Nat->ah}{n:Nat}{H:Hp}{d d':Dv}{vs:List V}(r:RelDL G μ n H [d,d'] vs):∃v v',vs=[v,v']/\RelD G μ n H d v/\RelD G μ n H d' v':=by rw[RelDL]at r;obtain⟨v,rr,rfl,h1,h2⟩:=r;obtain⟨v',rfl,h3⟩:=oO h2;exact⟨v,v',rfl,h1,h3⟩
theorem zR {μ:Nat->ah}{h:Hs}{H:Hp}{d:Dv}{v:V}{xs:List Dv}(s:Sim G μ h H) (r:RelD G μ h.length H d v) (e:fY G.scr d h=some xs):∃a vs,v=.ref a/\(SqL G.K H a vs∨SqT G.K H a vs)/\RelDL G μ h.length H xs vs:=by
 cases d with
 |tup ds=>cases e;obtain⟨a,vs,rfl,e1,r1⟩:=r;exact⟨a,vs,rfl,.inr (SqT.of e1),r1⟩
 |ref i=>obtain⟨_,rfl⟩:=r;obtain⟨vs,e1,r1⟩:=s.ob i _ (cX e);exact⟨_,vs,rfl,.inl (SqL.of e1),r1⟩
 |scr=>cases e;obtain⟨rfl,hf⟩:=r;exact⟨_,_,rfl,.inl hf.sq,qQ _⟩
 |_=>cases e
def GZ (K:aq):V->Hp->VK->Prop:=λx H Q=>∃p ys,x=.ref p/\(SqL K H p ys∨SqT K H p ys)/\Q (.int ys.length) H
theorem G1:kX G (GZ G.K) (iI G.scr):=by
 intro E μ h H d v Q s r1 o;unfold iI at o
 cases e:fY G.scr d h with
 |none=>rw[e]at o;exact o.elim
 |some ys=>rw[e]at o;obtain⟨a,ws,rfl,hs,r2⟩:=zR s r1 e;exact⟨a,ws,rfl,hs,by rw[r2.length];exact o.val s rfl⟩
theorem CallR.imp {f:af}{r r':List V->Hp->VK->Prop}(h:CallR X f r) (i:∀xs H Q,r' xs H Q->r xs H Q):CallR X f r':=λpins s σ H xs us Q I rv q=>h pins s σ H xs us Q I rv (i xs H Q q)
theorem G2 (hg:Gl X "len") (hm:X.mg "len" = none) (ha:dQ X G E (e::es) aR)
  (he:au (e::es) X.env=(false,eval e X.env)::au es X.env:=by rfl) (hpl:(backTo pos (au es X.env)).any (·.1)=false:=by rfl):aH X G E (.Call (.Name "len" p) (e::es) [] pos) (aF (f1 (iI G.scr)) aR):=λhK=>
 oM (CallR.imp (FR (X:=X)) λxs H Q ⟨v,h1,a,ys,h2,h3,h4⟩=>⟨a,ys,by rw[h1,h2],by rw[hK];exact h3,h4⟩) (oP G1) hg hm PySem.boot_len ha (by decide) (by decide) he hpl hK
def fZ:List Dv->Hs->Rs Dv
 | [.int i,.int j],h=>.ok (.int (if j>i then j else i)) h
 |_,_=>.bad
def oQ:List Dv->Hs->Rs Dv
 | [.int i,.int j],h=>.ok (.int (if j<i then j else i)) h
 |_,_=>.bad
theorem G3 {f:List Dv->Hs->Rs Dv}{g:Int->Int->Int}(h2:∀i j h,f [.int i,.int j] h=.ok (.int (g i j)) h) (hb:∀xs h,(∀i j,xs≠[.int i,.int j])->f xs h=.bad):
  mY G (λxs H Q=>∃i j,xs=[.int i,.int j]/\Q (.int (g i j)) H) f:=by
 intro E μ h H xs vs Q s r o
 by_cases hx:∃i j,xs=[.int i,.int j]
 ·obtain⟨i,j,rfl⟩:=hx;obtain⟨v,v',rfl,r1,r2⟩:=zQ r;rw[RelD]at r1 r2;subst r1;subst r2;rw[h2]at o;exact⟨i,j,rfl,o.val s rfl⟩
 ·rw[hb xs h (λi j e=>hx ⟨i,j,e⟩)]at o;exact o.elim
theorem SE:mY G (λxs H Q=>∃i j,xs=[.int i,.int j]/\Q (.int (if j>i then j else i)) H) fZ:=G3 (λ_ _ _=>rfl) λxs h hx=>by
 unfold fZ;split
 ·rename_i i j;exact absurd rfl (hx i j)
 ·rfl
theorem SF:mY G (λxs H Q=>∃i j,xs=[.int i,.int j]/\Q (.int (if j<i then j else i)) H) oQ:=G3 (λ_ _ _=>rfl) λxs h hx=>by
 unfold oQ;split
 ·rename_i i j;exact absurd rfl (hx i j)
 ·rfl
def gF:Dv->Hs->Rs Dv
 | .tup xs,h=>.ok (.tup xs) h
 | .ref i,h=>match getL h i with
  |some xs=>.ok (.tup xs) h
  |none=>.bad
 |_,_=>.bad
def SG (K:aq):V->Hp->VK->Prop:=λx H Q=>∃p ys,x=.ref p/\((SqL K H p ys/\∀l,H l=none->Q (.ref l) (aM H l (.tup ys)))∨(SqT K H p ys/\Q (.ref p) H))
theorem SH:kX G (SG G.K) gF:=by
 intro E μ h H d v Q s r1 o
 cases d with
 |tup ds=>have r1':=r1;obtain⟨a,ws,rfl,e1,r2⟩:=r1;exact⟨a,ws,rfl,.inr ⟨SqT.of e1,o.val s r1'⟩⟩
 |ref i=>
  dsimp only[gF]at o
  cases g:getL h i with
  |none=>rw[g]at o;exact o.elim
  |some ys=>rw[g]at o;obtain⟨_,rfl⟩:=r1;obtain⟨ws,e1,r2⟩:=s.ob i _ (cX g);exact⟨_,ws,rfl,.inl ⟨SqL.of e1,λl hl=>o μ _ _ (Ext.same (cJ hl)) (s.same (cJ hl)) ⟨l,ws,rfl,bT,RelDL.mono (Ext.same (cJ hl)) _ _ r2⟩⟩⟩
 |_=>exact o.elim
theorem uP (hg:Gl X "tuple") (hm:X.mg "tuple" = none) (ha:dQ X G E (e::es) aR)
  (he:au (e::es) X.env=(false,eval e X.env)::au es X.env:=by rfl) (hpl:(backTo pos (au es X.env)).any (·.1)=false:=by rfl):aH X G E (.Call (.Name "tuple" p) (e::es) [] pos) (aF (f1 gF) aR):=λhK=>
 GY (CallR.imp (RE (X:=X)) λxs H Q ⟨v,h1,a,ys,h2,h3⟩=>⟨a,ys,by rw[h1,h2],by rw[hK];exact h3⟩) (oP SH) hg hm zP ha (by decide) (by decide) he hpl hK
def oR (scr:List Int) (d:Dv) (h:Hs):Rs Dv:=match fY scr d h with
 |some xs=>.ok (.ref h.length) (h++[.lst xs])
 |none=>.bad
theorem SI:kX G (λx H Q=>∃p ys,x=.ref p/\(SqL G.K H p ys∨SqT G.K H p ys)/\∀l,H l=none->Q (.ref l) (aM H l (.lst ys))) (oR G.scr):=by
 intro E μ h H d v Q s r1 o;unfold oR at o
 cases e:fY G.scr d h with
 |none=>rw[e]at o;exact o.elim
 |some ys=>rw[e]at o;obtain⟨a,ws,rfl,hs,r2⟩:=zR s r1 e;exact⟨a,ws,rfl,hs,λl hl=>mV s r2 hl o⟩
theorem qR (hc:X.calm=true) (hg:Gl X "max") (hm:X.mg "max" = none) (ha:dQ X G E (e::es) aR)
  (he:au (e::es) X.env=(false,eval e X.env)::au es X.env:=by rfl) (hpl:(backTo pos (au es X.env)).any (·.1)=false:=by rfl):aH X G E (.Call (.Name "max" p) (e::es) [] pos) (aF fZ aR):=
 oM (QB hc) SE hg hm GV ha (by decide) (by decide) he hpl
theorem SJ (hc:X.calm=true) (hg:Gl X "min") (hm:X.mg "min" = none) (ha:dQ X G E (e::es) aR)
  (he:au (e::es) X.env=(false,eval e X.env)::au es X.env:=by rfl) (hpl:(backTo pos (au es X.env)).any (·.1)=false:=by rfl):aH X G E (.Call (.Name "min" p) (e::es) [] pos) (aF oQ aR):=
 oM (QC hc) SF hg hm GW ha (by decide) (by decide) he hpl
end
inductive Sr where
 |nx (ρ:Ev) (h:Hs)|rt (d:Dv) (h:Hs)|bk (ρ:Ev) (h:Hs)|ct (ρ:Ev) (h:Hs)|ex (c:Nat) (h:Hs)|bad
abbrev MS:=Ev->Hs->Sr
def SOut (G:Cfg) (E:XK) (μ:Nat->ah) (n:Nat) (H:Hp) (r:Sr) (D:Ends):Prop:=match r with
 | .nx ρ h'=>∀μ' H' σ',Ext μ n H μ' h'.length H'->Sim G μ' h' H'->RelS G μ' h'.length H' ρ σ'->D.nx σ' H'
 | .bk ρ h'=>∀μ' H' σ',Ext μ n H μ' h'.length H'->Sim G μ' h' H'->RelS G μ' h'.length H' ρ σ'->D.bk σ' H'
 | .ct ρ h'=>∀μ' H' σ',Ext μ n H μ' h'.length H'->Sim G μ' h' H'->RelS G μ' h'.length H' ρ σ'->D.ct σ' H'
 | .rt d h'=>∀μ' H' v,Ext μ n H μ' h'.length H'->Sim G μ' h' H'->RelD G μ' h'.length H' d v->D.rt v H'
 | .ex c h'=>∀μ' H' u,Ext μ n H μ' h'.length H'->Sim G μ' h' H'->uG G H' c u->E u none H'
 | .bad=>False
theorem SOut.ext {G:Cfg}{E:XK}{μ μ1:Nat->ah}{n n1:Nat}{H H1:Hp}{r:Sr}{D:Ends}(o:SOut G E μ n H r D) (x:Ext μ n H μ1 n1 H1):SOut G E μ1 n1 H1 r D:=by
 cases r with
 |nx ρ h'=>exact λμ' H' σ' y=>o μ' H' σ' (x.trans y)
 |bk ρ h'=>exact λμ' H' σ' y=>o μ' H' σ' (x.trans y)
 |ct ρ h'=>exact λμ' H' σ' y=>o μ' H' σ' (x.trans y)
 |rt d h'=>exact λμ' H' σ' y=>o μ' H' σ' (x.trans y)
 |ex c h'=>exact λμ' H' σ' y=>o μ' H' σ' (x.trans y)
 |bad=>exact o
def uQ (G:Cfg) (E:XK) (m:MS):TS:=λD σ H=>∃μ ρ h,RelS G μ h.length H ρ σ/\Sim G μ h H/\SOut G E μ h.length H (m ρ h) D
def gM (X:Cx) (G:Cfg) (E:XK) (st:gp) (m:MS):Prop:=X.K=G.K->PS X st (uQ G E m)
def hO (X:Cx) (G:Cfg) (E:XK) (st:List gp) (m:MS):Prop:=X.K=G.K->PSs X st (uQ G E m)
theorem PS.imp {X:Cx}{e:gp}{t t':TS}(h:PS X e t) (i:∀D σ H,t' D σ H->t D σ H):PS X e t':=λpins s σ H D I q=>h pins s σ H D I (i D σ H q)
theorem PSs.imp {X:Cx}{e:List gp}{t t':TS}(h:PSs X e t) (i:∀D σ H,t' D σ H->t D σ H):PSs X e t':=λpins s σ H D I q=>h pins s σ H D I (i D σ H q)
def Rs.thenS {α:Type}(r:Rs α) (f:α->Hs->Sr):Sr:=match r with
 | .ok a h=>f a h
 | .ex c h=>.ex c h
 | .bad=>.bad
@[simp] theorem Rs.thenS_ok {α:Type}(a:α) (h:Hs) (f:α->Hs->Sr):(Rs.ok a h).thenS f=f a h:=rfl
@[simp] theorem Rs.thenS_ex {α:Type}(c:Nat) (h:Hs) (f:α->Hs->Sr):(Rs.ex c h).thenS f=.ex c h:=rfl
@[simp] theorem Rs.thenS_bad {α:Type}(f:α->Hs->Sr):(Rs.bad).thenS f=.bad:=rfl
theorem SOut.thenS {α β:Type}{G:Cfg}{E:XK}{μ:Nat->ah}{n:Nat}{H:Hp}{r:Rs α}{f:α->Hs->Sr}{D:Ends}{R:(Nat->ah)->Nat->Hp->α->β->Prop}
  (o:SOut G E μ n H (r.thenS f) D):Out G E μ n H r R λv H1=>∃μ1 d h1,Ext μ n H μ1 h1.length H1/\Sim G μ1 h1 H1/\R μ1 h1.length H1 d v/\SOut G E μ1 h1.length H1 (f d h1) D:=by
 cases r with
 |bad=>exact o
 |ex c h'=>exact o
 |ok d h'=>exact λμ1 H1 v x1 s1 r1=>⟨μ1,d,h',x1,s1,r1,SOut.ext o x1⟩
section
variable{X:Cx}{G:Cfg}{E:XK}{st:gp}{rest:List gp}{m u:MS}{e:bp}{me:M Dv}{pos:Pos}
theorem kY {m:M Dv}{σ:St}{H:Hp}{f:Dv->Hs->Sr}{D:Ends}{Q1:V->Hp->Prop}{μ:Nat->ah}{ρ:Ev}{h:Hs}(rs:RelS G μ h.length H ρ σ) (s:Sim G μ h H) (o:SOut G E μ h.length H ((m ρ h).thenS f) D)
  (k:∀μ1 d h1 v H1,Ext μ h.length H μ1 h1.length H1->RelS G μ1 h1.length H1 ρ σ->Sim G μ1 h1 H1->RelD G μ1 h1.length H1 d v->SOut G E μ1 h1.length H1 (f d h1) D->Q1 v H1):fO G E m σ H Q1:=
 ⟨μ,ρ,h,rs,s,(o.thenS (R:=RelD G)).mono λv H1 ⟨μ1,d,h1,x,s1,r1,o1⟩=>k μ1 d h1 v H1 x (rs.mono x) s1 r1 o1⟩
theorem G4 {m:M Bool}{σ:St}{H:Hp}{f:Bool->Hs->Sr}{D:Ends}{Q1:Bool->Hp->Prop}{μ:Nat->ah}{ρ:Ev}{h:Hs}(rs:RelS G μ h.length H ρ σ) (s:Sim G μ h H) (o:SOut G E μ h.length H ((m ρ h).thenS f) D)
  (k:∀μ1 b h1 H1,Ext μ h.length H μ1 h1.length H1->RelS G μ1 h1.length H1 ρ σ->Sim G μ1 h1 H1->SOut G E μ1 h1.length H1 (f b h1) D->Q1 b H1):fP G E m σ H Q1:=
 ⟨μ,ρ,h,rs,s,(o.thenS (R:=RB)).mono λv H1 ⟨μ1,d,h1,x,s1,r1,o1⟩=>by have e:v=d:=r1;subst e;exact k μ1 v h1 H1 x (rs.mono x) s1 o1⟩
def bK:MS:=λρ h=>.nx ρ h
def aJ (m u:MS):MS:=λρ h=>match m ρ h with
 | .nx ρ1 h1=>u ρ1 h1
 |r=>r
theorem dY:hO X G E [] bK:=λ_=>PSs.imp OH λD σ H ⟨μ,ρ,h,rs,s,o⟩=>o μ H σ Ext.refl s rs
theorem bD (h1:gM X G E st m) (h2:hO X G E rest u):hO X G E (st::rest) (aJ m u):=λhK=>PSs.imp (OI (h1 hK) (h2 hK)) λD σ H ⟨μ,ρ,h,rs,s,o⟩=>by
 refine⟨μ,ρ,h,rs,s, ?_⟩;unfold aJ at o
 cases q:m ρ h with
 |nx ρ1 h1=>rw[q]at o;exact λμ1 H1 σ1 x1 s1 rs1=>⟨μ1,ρ1,h1,rs1,s1,SOut.ext o x1⟩
 |bk ρ1 h1=>rw[q]at o;exact o
 |ct ρ1 h1=>rw[q]at o;exact o
 |rt ρ1 h1=>rw[q]at o;exact o
 |ex ρ1 h1=>rw[q]at o;exact o
 |bad=>rw[q]at o;exact o
theorem bB (h1:gM X G E st m):hO X G E [st] m:=λhK=>EO (h1 hK)
def eJ (me:M Dv):MS:=λρ h=>(me ρ h).thenS λ_ h1=>.nx ρ h1
theorem oS (he:aH X G E e me) (hs:swapsWith e none pos.line X.env=pure false:=by rfl):gM X G E (.Expr e pos) (eJ me):=λhK=>PS.imp (OK (he hK) hs) λD σ H ⟨μ,ρ,h,rs,s,o⟩=>kY rs s o λμ1 d h1 v H1 x1 rs1 s1 r1 o1=>o1 μ1 H1 σ Ext.refl s1 rs1
def aN (me:M Dv):MS:=λρ h=>(me ρ h).thenS λd h1=>.rt d h1
theorem bS (he:aH X G E e me):gM X G E (.Return (some e) pos) (aN me):=λhK=>PS.imp (OM (he hK)) λD σ H ⟨μ,ρ,h,rs,s,o⟩=>kY rs s o λμ1 d h1 v H1 x1 rs1 s1 r1 o1=>o1 μ1 H1 v Ext.refl s1 r1
def aX (c:M Bool) (t u:MS):MS:=λρ h=>(c ρ h).thenS λb h1=>if b=true then t ρ h1 else u ρ h1
theorem dZ {c:bp}{a b:List gp}{mc:M Bool}(hc:eR X G E c mc) (ha:hO X G E a m) (hb:hO X G E b u):gM X G E (.If c a b pos) (aX mc m u):=λhK=>PS.imp (OO (hc hK) (ha hK) (hb hK)) λD σ H ⟨μ,ρ,h,rs,s,o⟩=>
 G4 rs s o λμ1 k h1 H1 x1 rs1 s1 o1=>by
  cases k with
  |true=>rw[if_pos rfl]at o1 ⊢;exact⟨μ1,ρ,h1,rs1,s1,o1⟩
  |false=>rw[if_neg (by decide)]at o1 ⊢;exact⟨μ1,ρ,h1,rs1,s1,o1⟩
theorem RelS.set {μ:Nat->ah}{n:Nat}{H:Hp}{ρ:Ev}{σ:St}{d:Dv}{v:V}(rs:RelS G μ n H ρ σ) (i:Nat) (r:RelD G μ n H d v):RelS G μ n H (ρ.set i (some d)) (σ.set i (some v)):=⟨by rw[ju,ju];exact rs.len,λj d' e=>by
 have hl:=rs.len
 by_cases hij:i=j
 ·subst hij;have hi:i<ρ.length:=by have:=(az.mp e).1;simpa using this
  rw[da hi]at e;cases e;exact⟨v,da (by omega),r⟩
 ·rw[dg hij]at e ⊢;exact rs.at_ j d' e⟩
abbrev cG:=Dv->Ev->Option Ev
def mZ (G:Cfg) (st:cG):TG:=λv σ H Q=>∃μ ρ h d ρ',RelS G μ h H ρ σ/\RelD G μ h H d v/\st d ρ=some ρ'/\∀σ',RelS G μ h H ρ' σ'->Q σ' H
def iZ (X:Cx) (G:Cfg) (tg:bp) (st:cG):Prop:=X.K=G.K->PG X tg (mZ G st)
theorem PG.imp {tg:bp}{t t':TG}(h:PG X tg t) (i:∀v σ H Q,t' v σ H Q->t v σ H Q):PG X tg t':=λpins s σ H v u Q I r q=>h pins s σ H v u Q I r (i v σ H Q q)
theorem PGs.imp {tg:List bp}{t t':kT}(h:PGs X tg t) (i:∀v σ H Q,t' v σ H Q->t v σ H Q):PGs X tg t':=λpins s σ H v u Q I r q=>h pins s σ H v u Q I r (i v σ H Q q)
def aE (i:Nat):cG:=λd ρ=>some (ρ.set i (some d))
theorem cA {i:Nat}{x:Str}(hN:X.N.Nodup) (hi:X.N[i]?=some x) (hx:lK X.env.scope x) (hf:X.fn x=true∨X.env.scope.names.lookup x=some .local:=by first|exact .inl rfl|exact .inr rfl|assumption):iZ X G (.Name x pos) (aE i):=λ_=>PG.imp (OP hN hi hx hf) λv σ H Q ⟨μ,ρ,h,d,ρ',rs,r,e,k⟩=>by cases e;exact k _ (rs.set i r)
abbrev lQ:=List Dv->Ev->Option Ev
def SK (G:Cfg) (st:lQ):kT:=λvs σ H Q=>∃μ ρ h ds ρ',RelS G μ h H ρ σ/\RelDL G μ h H ds vs/\st ds ρ=some ρ'/\∀σ',RelS G μ h H ρ' σ'->Q σ' H
def uR (X:Cx) (G:Cfg) (tg:List bp) (st:lQ):Prop:=X.K=G.K->PGs X tg (SK G st)
def dD:lQ:=λds ρ=>match ds with
 | []=>some ρ
 |_=>none
def bM (s:cG) (t:lQ):lQ:=λds ρ=>match ds with
 |d::r=>match s d ρ with
  |some ρ1=>t r ρ1
  |none=>none
 | []=>none
theorem jA:uR X G [] dD:=λ_=>PGs.imp OS λvs σ H Q ⟨μ,ρ,h,ds,ρ',rs,r,e,k⟩=>by
 cases ds with
 |nil=>cases e;rw[RelDL]at r;subst r;exact⟨rfl,k _ rs⟩
 |cons d r=>cases e
theorem dW {tg:bp}{tgs:List bp}{s:cG}{t:lQ}(h1:iZ X G tg s) (h2:uR X G tgs t)
  (hs:(assignEach (tg::tgs) X.env).map (·.2)=assign tg X.env::(assignEach tgs X.env).map (·.2):=by rfl):uR X G (tg::tgs) (bM s t):=λhK=>PGs.imp (OT (h1 hK) (h2 hK) hs) λvs σ H Q ⟨μ,ρ,h,ds,ρ',rs,r,e,k⟩=>by
 cases ds with
 |nil=>cases e
 |cons d ds=>
  rw[RelDL]at r;obtain⟨v,rr,rfl,r1,r2⟩:=r;unfold bM at e;dsimp only at e
  cases q:s d ρ with
  |none=>rw[q]at e;cases e
  |some ρ1=>rw[q]at e;exact⟨v,rr,rfl,μ,ρ,h,d,ρ1,rs,r1,q,λσ1 rs1=>⟨μ,ρ1,h,ds,ρ',rs1,r2,e,k⟩⟩
def cY (n:Nat) (t:lQ):cG:=λd ρ=>match d with
 | .tup ds=>if ds.length=n then t ds ρ else none
 |_=>none
theorem jB {tgs:List bp}{k:Nat}{t:lQ}{n:Nat}(hc:X.calm=true) (h:uR X G tgs t)
  (hn:(assignEach tgs X.env).length=n:=by rfl) (hst:(assignEach tgs X.env).findIdx? (·.1)=none:=by rfl):iZ X G (.Tuple tgs k pos) (cY n t):=λhK=>
 PG.imp (OV hc (h hK) hn hst) λv σ H Q ⟨μ,ρ,hh,d,ρ',rs,r,e,kk⟩=>by
  cases d with
  |tup ds=>
   dsimp only[cY]at e
   split at e
   ·rename_i hl;obtain⟨a,vs,rfl,e1,r1⟩:=r;exact⟨a,vs,rfl,SqT.of e1,by rw[r1.length];exact hl,μ,ρ,hh,ds,ρ',rs,r1,e,kk⟩
   ·cases e
  |_=>cases e
def aK (me:M Dv) (st:cG):MS:=λρ h=>(me ρ h).thenS λd h1=>match st d ρ with
 |some ρ1=>.nx ρ1 h1
 |none=>.bad
theorem SN {st:cG}{σ:St}{H:Hp}{D:Ends}(t:uQ G E (aK me st) D σ H):tT (fO G E me) (mZ G st) D σ H:=by
 obtain⟨μ,ρ,h,rs,s,o⟩:=t;refine kY rs s o λμ1 d h1 v H1 x1 rs1 s1 r1 o1=>?_
 cases q:st d ρ with
 |none=>rw[q]at o1;exact o1.elim
 |some ρ1=>rw[q]at o1;exact⟨μ1,ρ,h1.length,d,ρ1,rs1,r1,q,λσ' rs'=>o1 μ1 H1 σ' Ext.refl s1 rs'⟩
theorem G5 {tg:bp}{st:cG}(he:aH X G E e me) (hg:iZ X G tg st) (hs:swapsWithSole [tg] e pos.line X.env=pure false:=by rfl) (hw:swappedStores [tg] e X.env=pure none:=by rfl)
  (h1:(assignEach [tg] X.env).map (·.2)=[assign tg X.env]:=by rfl):gM X G E (.Assign [tg] e pos) (aK me st):=λhK=>PS.imp (ES (he hK) (hg hK) hs hw h1) λ_ _ _ t=>SN t
theorem cL {i:Nat}{x:Str}{pos':Pos}(hN:X.N.Nodup) (hi:X.N[i]?=some x) (hx:lK X.env.scope x) (he:aH X G E e me) (hs:swapsWith e (some (.Name x pos')) pos.line X.env=pure false:=by rfl) (hf:X.fn x=true∨X.env.scope.names.lookup x=some .local:=by first|exact .inl rfl|exact .inr rfl|assumption):
  gM X G E (.Assign [.Name x pos'] e pos) (aK me (aE i)):=λhK=>PS.imp (yQ hN hi hx (he hK) hs hf) λD σ H t=>by
 obtain⟨μ,ρ,h,rs,s,o⟩:=t;exact kY rs s o λμ1 d h1 v H1 x1 rs1 s1 r1 o1=>o1 μ1 H1 _ Ext.refl s1 (rs1.set i r1)
end
structure Src where
 n:Nat
 get:Nat->Hs->Option Dv
 fin:Hs->Bool
def ItOk (G:Cfg) (μ0:Nat->ah) (n0:Nat) (H0:Hp) (src:Src) (J:It):Prop:=
 ∀(k:Nat) (μ:Nat->ah) (h:Hs) (H:Hp),Ext μ0 n0 H0 μ h.length H->Sim G μ h H->
  (k<src.n->∀d,src.get k h=some d->J.go k H/\∀x H',J.yld k H x H'->Same H H'/\RelD G μ h.length H' d x)/\(k=src.n->src.fin h=true->J.stop k H)
def uS (G:Cfg) (E:XK) (m:M Src):TI:=λσ H R=>∃μ ρ h,RelS G μ h.length H ρ σ/\Sim G μ h H/\Out G E μ h.length H (m ρ h) (ItOk G) R
def hV (X:Cx) (G:Cfg) (E:XK) (tg iter:bp) (m:M Src):Prop:=X.K=G.K->PI X tg iter (uS G E m)
theorem PI.imp {X:Cx}{tg iter:bp}{t t':TI}(h:PI X tg iter t) (i:∀σ H R,t' σ H R->t σ H R):PI X tg iter t':=λpins s σ H R I q=>h pins s σ H R I (i σ H R q)
def cM (xs:List Dv):Src:=⟨xs.length,λk _=>xs[k]?,λ_=>true⟩
def jP (i n:Nat):Src:=⟨n,λk h=>match getL h i with
 |some xs=>if xs.length=n then xs[k]? else none
 |none=>none,λh=>match getL h i with
 |some xs=>xs.length==n
 |none=>false⟩
def bY (lo hi:Int):Src:=⟨(hi - lo).toNat,λk _=>some (.int (lo+k)),λ_=>true⟩
def cU (f:Dv->Hs->Rs Src) (m:M Dv):M Src:=λρ h=>(m ρ h).bind f
section
variable{X:Cx}{G:Cfg}{E:XK}{tg e a b:bp}{me ma mb:M Dv}{pos p:Pos}
def kG:Dv->Hs->Rs Src
 | .ref i,h=>match getL h i with
  |some xs=>.ok (jP i xs.length) h
  |none=>.bad
 |_,_=>.bad
def eB:Dv->Hs->Rs Src
 | .tup xs,h=>.ok (cM xs) h
 |_,_=>.bad
theorem G6 (he:aH X G E e me):hV X G E tg e (cU kG me):=λhK=>PI.imp (O7 (he hK)) λσ H R ⟨μ,ρ,h,rs,s,o⟩=>eS rs s o λμ1 x h1 vx H1 x1 rs1 s1 r1 o1=>by
 rw[hK]
 cases x with
 |ref i=>
  obtain⟨hi,rfl⟩:=r1;dsimp only[kG]at o1
  cases g:getL h1 i with
  |none=>rw[g]at o1;exact o1.elim
  |some xs=>
   rw[g]at o1;obtain⟨vs,e1,r2⟩:=s1.ob i _ (cX g);refine⟨_,rfl,⟨vs,SqL.of e1⟩,o1.val s1 λk μ2 h2 H2 x2 s2=>?_⟩;have emu:=x2.mu i hi;constructor
   ·intro hk d hd;dsimp only[jP]at hd
    cases g2:getL h2 i with
    |none=>rw[g2]at hd;cases hd
    |some ys=>
     rw[g2]at hd;dsimp only at hd
     split at hd
     ·obtain⟨ws,e2,r3⟩:=s2.ob i _ (cX g2);rw[emu]at e2;obtain⟨v,ev,rv⟩:=r3.get hd;refine⟨⟨ws,v,SqL.of e2,ev⟩,λx H' hy=>?_⟩;obtain⟨rfl,hy⟩:=hy;have:=hy ws (SqL.of e2);rw[ev]at this;cases this;exact⟨Same.refl _,rv⟩
     ·cases hd
   ·intro hk hf;dsimp only[jP]at hf
    cases g2:getL h2 i with
    |none=>rw[g2]at hf;cases hf
    |some ys=>
     rw[g2]at hf;obtain⟨ws,e2,r3⟩:=s2.ob i _ (cX g2);rw[emu]at e2;refine⟨ws,SqL.of e2, ?_⟩;have h3:ys.length=xs.length:=by simpa using hf
     rw[r3.length,h3,hk];exact ak _
 |_=>exact o1.elim
theorem ItOk.tup {μ:Nat->ah}{n:Nat}{H:Hp}{a:ah}{vs:List V}{xs:List Dv}{K:aq}(e:H a=some (.tup vs)) (r:RelDL G μ n H xs vs) (hi:∀(X:Cx),True):ItOk G μ n H (cM xs) (yS K a):=by
 intro k μ2 h2 H2 x2 s2;have e2:=x2.im a (.tup vs) trivial e;have r2:=RelDL.mono x2 _ _ r;have inj:∀ws,SqT K H2 a ws->ws=vs->True:=λ_ _ _=>trivial;constructor
 ·intro hk d hd;obtain⟨v,ev,rv⟩:=r2.get hd;refine⟨⟨vs,v,SqT.of e2,ev⟩,λx H' hy=>?_⟩;obtain⟨rfl,hy⟩:=hy;have:=hy vs (SqT.of e2);rw[ev]at this;cases this;exact⟨Same.refl _,rv⟩
 ·intro hk _;exact⟨vs,SqT.of e2,by rw[r2.length,hk];exact ak _⟩
theorem lR (he:aH X G E e me):hV X G E tg e (cU eB me):=λhK=>PI.imp (O8 (he hK)) λσ H R ⟨μ,ρ,h,rs,s,o⟩=>eS rs s o λμ1 x h1 vx H1 x1 rs1 s1 r1 o1=>by
 cases x with
 |tup xs=>obtain⟨a,vs,rfl,e1,r2⟩:=r1;exact⟨a,rfl,⟨vs,SqT.of e1⟩,o1.val s1 (ItOk.tup e1 r2 λ_=>trivial)⟩
 |_=>exact o1.elim
def jQ (i:Int):Bool:=decide (-4611686018427387904<=i)&&decide (i<4611686018427387904)
def bX:List Dv->Hs->Rs Src
 | [.int j],h=>if jQ j=true then .ok (bY 0 j) h else .bad
 |_,_=>.bad
def jC:List Dv->Hs->Rs Src
 | [.int i,.int j],h=>if jQ i=true/\jQ j=true then .ok (bY i j) h else .bad
 |_,_=>.bad
def aR (f:List Dv->Hs->Rs Src) (ms:M (List Dv)):M Src:=λρ h=>(ms ρ h).bind f
theorem ItOk.rng {μ:Nat->ah}{n:Nat}{H:Hp}(lo hi:Int):ItOk G μ n H (bY lo hi) (pY lo (hi - lo).toNat):=by
 intro k μ2 h2 H2 x2 s2;constructor
 ·intro hk d hd;cases hd;exact⟨hk,λx H' hy=>by obtain⟨rfl,rfl⟩:=hy;exact⟨Same.refl _,rfl⟩⟩
 ·intro hk _;exact lr hk.symm
variable{ms:M (List Dv)}
theorem jD (hg:Gl X "range") (hm:X.mg "range" = none) (ha:dQ X G E [a] ms) (hs:au [a] X.env=[(false,eval a X.env)]:=by rfl):hV X G E tg (.Call (.Name "range" p) [a] [] pos) (aR bX ms):=λhK=>
 PI.imp (PC hg hm (ha hK) hs) λσ H R ⟨μ,ρ,h,rs,s,o⟩=>iX rs s o λμ1 ds h1 vs H1 x1 rs1 s1 r1 o1=>by
  unfold bX at o1
  split at o1
  ·rename_i j
   split at o1
   ·rename_i hj;obtain⟨v,rfl,rv⟩:=oO r1;rw[RelD]at rv;subst rv;simp only[jQ,dj,decide_eq_true_eq]at hj;refine⟨j,rfl,by omega,by omega, ?_⟩;have:=o1.val s1 (ItOk.rng (G:=G) (μ:=μ1) (n:=h1.length) (H:=H1) 0 j);rw[Int.sub_zero]at this;exact this
   ·exact o1.elim
  ·exact o1.elim
theorem G7 (hg:Gl X "range") (hm:X.mg "range" = none) (ha:dQ X G E [a,b] ms) (hs:au [a,b] X.env=[(false,eval a X.env),(false,eval b X.env)]:=by rfl) (hs2:au [b] X.env=[(false,eval b X.env)]:=by rfl):hV X G E tg (.Call (.Name "range" p) [a,b] [] pos) (aR jC ms):=λhK=>
 PI.imp (PD hg hm (ha hK) hs hs2) λσ H R ⟨μ,ρ,h,rs,s,o⟩=>iX rs s o λμ1 ds h1 vs H1 x1 rs1 s1 r1 o1=>by
  unfold jC at o1
  split at o1
  ·rename_i i j
   split at o1
   ·rename_i hj;obtain⟨v,v',rfl,rv,rv'⟩:=zQ r1;rw[RelD]at rv rv';subst rv;subst rv';simp only[jQ,dj,decide_eq_true_eq]at hj;exact⟨i,j,rfl,⟨by omega,by omega,by omega,by omega⟩,o1.val s1 (ItOk.rng (G:=G) (μ:=μ1) (n:=h1.length) (H:=H1) i j)⟩
   ·exact o1.elim
  ·exact o1.elim
end
def eZ (src:Src) (st:cG) (body:MS):Nat->Nat->MS
 |0,_=>λρ h=>if src.fin h=true then .nx ρ h else .bad
 |f+1,k=>λρ h=>match src.get k h with
  |none=>.bad
  |some d=>match st d ρ with
   |none=>.bad
   |some ρ1=>match body ρ1 h with
    | .nx ρ2 h2=>eZ src st body f (k+1) ρ2 h2
    | .ct ρ2 h2=>eZ src st body f (k+1) ρ2 h2
    | .bk ρ2 h2=>.nx ρ2 h2
    |r=>r
def cV (mi:M Src) (st:cG) (body:MS):MS:=λρ h=>(mi ρ h).thenS λsrc h1=>eZ src st body src.n 0 ρ h1
section
variable{X:Cx}{G:Cfg}{E:XK}{tg iter:bp}{body:List gp}{mi:M Src}{st:cG}{mb:MS}{pos:Pos}
theorem jE (hp:xv (model X.prog X.w) X.A X.env X.xe) (hc:X.calm=true) (hi:hV X G E tg iter mi) (hg:iZ X G tg st) (hb:hO X G E body mb)
  (hs:∀x,foldedSetIterable iter X.env x=pure x:=by intro _;rfl):gM X G E (.For tg iter body [] pos) (cV mi st mb):=λhK=>PS.imp (PH hp hc (hi hK) (hg hK) (hb hK) hs) λD σ H ⟨μ,ρ,h,rs,s,o⟩=>by
 refine⟨μ,ρ,h,rs,s,(o.thenS (R:=ItOk G)).mono λJ H1 ⟨μ1,src,h1,x1,s1,ok,o1⟩=>?_⟩;refine⟨λi m σ H=>∃μ2 ρ2 h2,Ext μ1 h1.length H1 μ2 h2.length H/\RelS G μ2 h2.length H ρ2 σ/\Sim G μ2 h2 H/\i+m=src.n/\SOut G E μ2 h2.length H (eZ src st mb m i ρ2 h2) D,⟨src.n,μ1,ρ,h1,Ext.refl,rs.mono x1,s1,Ai _,o1⟩, ?_⟩
 rintro i m σ2 H2 ⟨μ2,ρ2,h2,x2,rs2,s2,him,o2⟩
 cases m with
 |zero=>
  unfold eZ at o2
  split at o2
  ·rename_i hf;exact .inl ⟨(ok i μ2 h2 H2 x2 s2).2 (by omega) hf,o2 μ2 H2 σ2 Ext.refl s2 rs2⟩
  ·exact o2.elim
 |succ m=>
  unfold eZ at o2
  cases q:src.get i h2 with
  |none=>rw[q]at o2;exact o2.elim
  |some d=>
   rw[q]at o2;dsimp only at o2
   cases q2:st d ρ2 with
   |none=>rw[q2]at o2;exact o2.elim
   |some ρ3=>
    rw[q2]at o2;dsimp only at o2;obtain⟨go,yl⟩:=(ok i μ2 h2 H2 x2 s2).1 (by omega) d q;refine .inr ⟨go,λσ' H'=>∃μ3 ρ4 h4,Ext μ1 h1.length H1 μ3 h4.length H'/\RelS G μ3 h4.length H' ρ4 σ'/\Sim G μ3 h4 H'/\(i+1)+m=src.n/\SOut G E μ3 h4.length H' (eZ src st mb m (i+1) ρ4 h4) D,λσ' H' z=>⟨m,ic m,z⟩,λx H' hy=>?_⟩;obtain⟨sm,rx⟩:=yl x H' hy;have xs:Ext μ2 h2.length H2 μ2 h2.length H':=Ext.same sm;refine⟨μ2,ρ2,h2.length,d,ρ3,rs2.mono xs,rx,q2,λσ3 rs3=>⟨μ2,ρ3,h2,rs3,s2.same sm, ?_⟩⟩;have step:∀ρ5 h5,SOut G E μ2 h2.length H2 (eZ src st mb m (i+1) ρ5 h5) D->∀μ6 H6 σ6,Ext μ2 h2.length H' μ6 h5.length H6->Sim G μ6 h5 H6->RelS G μ6 h5.length H6 ρ5 σ6->
      ∃μ3 ρ4 h4,Ext μ1 h1.length H1 μ3 h4.length H6/\RelS G μ3 h4.length H6 ρ4 σ6/\Sim G μ3 h4 H6/\(i+1)+m=src.n/\SOut G E μ3 h4.length H6 (eZ src st mb m (i+1) ρ4 h4) D:=
     λρ5 h5 o5 μ6 H6 σ6 x6 s6 rs6=>⟨μ6,ρ5,h5,(x2.trans xs).trans x6,rs6,s6,by omega,o5.ext (xs.trans x6)⟩
    cases q3:mb ρ3 h2 with
    |nx ρ5 h5=>rw[q3]at o2;exact step ρ5 h5 o2
    |ct ρ5 h5=>rw[q3]at o2;exact step ρ5 h5 o2
    |bk ρ5 h5=>rw[q3]at o2;exact λμ6 H6 σ6 x6 s6 rs6=>o2 μ6 H6 σ6 (xs.trans x6) s6 rs6
    |rt d5 h5=>rw[q3]at o2;exact λμ6 H6 σ6 x6 s6 rs6=>o2 μ6 H6 σ6 (xs.trans x6) s6 rs6
    |ex d5 h5=>rw[q3]at o2;exact λμ6 H6 σ6 x6 s6 rs6=>o2 μ6 H6 σ6 (xs.trans x6) s6 rs6
    |bad=>rw[q3]at o2;exact o2.elim
end
abbrev MC:=Ev->Hs->List Dv->Rs (Ev×List Dv)
def bP (me:M Dv):MC:=λρ h acc=>match me ρ h with
 | .ok d h1=>if acc.length<1000000 then .ok (ρ,acc++[d]) h1 else .bad
 |_=>.bad
def eK (src:Src) (st:cG) (test:M Bool) (inner:MC):Nat->Nat->MC
 |0,_=>λρ h acc=>if src.fin h=true then .ok (ρ,acc) h else .bad
 |f+1,k=>λρ h acc=>match src.get k h with
  |none=>.bad
  |some d=>match st d ρ with
   |none=>.bad
   |some ρ1=>match test ρ1 h with
    | .ok true h2=>match inner ρ1 h2 acc with
     | .ok r h3=>eK src st test inner f (k+1) r.1 h3 r.2
     |_=>.bad
    | .ok false h2=>eK src st test inner f (k+1) ρ1 h2 acc
    |_=>.bad
def jF (mi:M Src) (st:cG) (test:M Bool) (inner:MC):MC:=λρ h acc=>match mi ρ h with
 | .ok src h1=>eK src st test inner src.n 0 ρ h1 acc
 |_=>.bad
def dO:M Bool:=λ_ h=>.ok true h
def fQ (cap:List (Option Nat)) (ρ:Ev):Ev:=cap.map λo=>match o with
 |some j=>(ρ[j]?).getD none
 |none=>none
def cB (mi:M Src) (cap:List (Option Nat)) (st:cG) (test:M Bool) (inner:MC):M (List Dv):=λρ h=>(mi ρ h).bind λsrc h1=>match eK src st test inner src.n 0 (fQ cap ρ) h1 []with
 | .ok r h2=>.ok r.2 h2
 |_=>.bad
def qS (G:Cfg) (m:MC):TC:=λσ H vs K=>∃μ ρ h xs ρ' xs' h',RelS G μ h.length H ρ σ/\Sim G μ h H/\RelDL G μ h.length H xs vs/\m ρ h xs=.ok (ρ',xs') h' /\
 ∀μ' H' σ' vs',Ext μ h.length H μ' h'.length H'->Sim G μ' h' H'->RelS G μ' h'.length H' ρ' σ'->RelDL G μ' h'.length H' xs' vs'->K σ' H' vs'
section
variable{G:Cfg}
theorem G8 {μ:Nat->ah}{n:Nat}{H:Hp}{ρ:Ev}{σ:St}(rs:RelS G μ n H ρ σ) (cap:List (Option Nat)):RelS G μ n H (fQ cap ρ) (oF cap σ):=⟨by simp[fQ,oF],λi d e=>by
 unfold fQ at e;rw[du]at e
 cases q:cap[i]? with
 |none=>rw[q]at e;cases e
 |some o=>
  rw[q]at e
  cases o with
  |none=>cases e
  |some j=>
   have e':(ρ[j]?).getD none=some d:=by simpa using e
   have e2:ρ[j]?=some (some d):=by
    cases z:ρ[j]? with
    |none=>rw[z]at e';cases e'
    |some y=>rw[z]at e';simp at e';rw[e']
   obtain⟨v,e3,r⟩:=rs.at_ j d e2;refine⟨v, ?_,r⟩;unfold oF;rw[du,q];simp[e3]⟩
theorem uT {E:XK}{me:M Dv}{σ:St}{H:Hp}{vs:List V}{K:St->Hp->List V->Prop}(t:qS G (bP me) σ H vs K):qG (fO G E me) σ H vs K:=by
 obtain⟨μ,ρ,h,xs,ρ',xs',h',rs,s,r,e,k⟩:=t;refine⟨μ,ρ,h,rs,s, ?_⟩;unfold bP at e
 cases q:me ρ h with
 |bad=>rw[q]at e;cases e
 |ex c h1=>rw[q]at e;cases e
 |ok d h1=>
  rw[q]at e;dsimp only at e
  split at e
  ·rename_i hl;cases e;intro μ1 H1 v x1 s1 r1;refine⟨?_,k μ1 H1 σ _ x1 s1 (rs.mono x1) ((RelDL.mono x1 _ _ r).append (RelDL.cons r1 RelDL.nil))⟩;rw[r.length];exact ar hl (by decide)
  ·cases e
theorem G9 {E:XK}{src:Src}{st:cG}{test:M Bool}{inner:MC}{J:It}{μ1:Nat->ah}{h1:Hs}{H1:Hp}{ρ ρ':Ev}{σ:St}{xs xs':List Dv}{vs:List V}{h':Hs}{K:St->Hp->List V->Prop}
  (ok:ItOk G μ1 h1.length H1 src J) (rs:RelS G μ1 h1.length H1 ρ σ) (s1:Sim G μ1 h1 H1) (r:RelDL G μ1 h1.length H1 xs vs) (e:eK src st test inner src.n 0 ρ h1 xs=.ok (ρ',xs') h')
  (k:∀μ' H' σ' vs',Ext μ1 h1.length H1 μ' h'.length H'->Sim G μ' h' H'->RelS G μ' h'.length H' ρ' σ'->RelDL G μ' h'.length H' xs' vs'->K σ' H' vs'):
  mT J (mZ G st) (fP G E test) (qS G inner) K σ H1 vs:=by
 refine⟨λi m σ H vs=>∃μ2 ρ2 h2 xs2,Ext μ1 h1.length H1 μ2 h2.length H/\RelS G μ2 h2.length H ρ2 σ/\Sim G μ2 h2 H/\RelDL G μ2 h2.length H xs2 vs/\i+m=src.n/\eK src st test inner m i ρ2 h2 xs2=.ok (ρ',xs') h',⟨src.n,μ1,ρ,h1,xs,Ext.refl,rs,s1,r,Ai _,e⟩, ?_⟩
 rintro i m σ2 H2 vs2 ⟨μ2,ρ2,h2,xs2,x2,rs2,s2,r2,him,e2⟩
 cases m with
 |zero=>
  unfold eK at e2
  split at e2
  ·rename_i hf;cases e2;exact .inl ⟨(ok i μ2 _ H2 x2 s2).2 (by omega) hf,k μ2 H2 σ2 vs2 x2 s2 rs2 r2⟩
  ·cases e2
 |succ m=>
  unfold eK at e2
  cases q:src.get i h2 with
  |none=>rw[q]at e2;cases e2
  |some d=>
   rw[q]at e2;dsimp only at e2
   cases q2:st d ρ2 with
   |none=>rw[q2]at e2;cases e2
   |some ρ3=>
    rw[q2]at e2;dsimp only at e2;obtain⟨go,yl⟩:=(ok i μ2 h2 H2 x2 s2).1 (by omega) d q;refine .inr ⟨go,λσ' H' vs'=>∃μ3 ρ4 h4 xs4,Ext μ1 h1.length H1 μ3 h4.length H'/\RelS G μ3 h4.length H' ρ4 σ'/\Sim G μ3 h4 H'/\RelDL G μ3 h4.length H' xs4 vs'/\(i+1)+m=src.n/\eK src st test inner m (i+1) ρ4 h4 xs4=.ok (ρ',xs') h',
     λσ' H' vs' z=>⟨m,ic m,z⟩,λx H' hy=>?_⟩
    obtain⟨sm,rx⟩:=yl x H' hy;have xsm:Ext μ2 h2.length H2 μ2 h2.length H':=Ext.same sm;refine⟨μ2,ρ2,h2.length,d,ρ3,rs2.mono xsm,rx,q2,λσ3 rs3=>⟨μ2,ρ3,h2,rs3,s2.same sm, ?_⟩⟩
    cases q3:test ρ3 h2 with
    |bad=>rw[q3]at e2;cases e2
    |ex c h3=>rw[q3]at e2;cases e2
    |ok b h3=>
     rw[q3]at e2;intro μ4 H4 b' x4 s4 rb;have eb:b'=b:=rb;subst eb
     cases b' with
     |false=>rw[if_neg (by decide)];exact⟨μ4,ρ3,h3,xs2,(x2.trans xsm).trans x4,rs3.mono x4,s4,RelDL.mono (xsm.trans x4) _ _ r2,by omega,e2⟩
     |true=>
      rw[if_pos rfl];dsimp only at e2
      cases q4:inner ρ3 h3 xs2 with
      |bad=>rw[q4]at e2;cases e2
      |ex c h5=>rw[q4]at e2;cases e2
      |ok rr h5=>rw[q4]at e2;obtain⟨ρ5,xs5⟩:=rr;exact⟨μ4,ρ3,h3,xs2,ρ5,xs5,h5,rs3.mono x4,s4,RelDL.mono (xsm.trans x4) _ _ r2,q4,λμ6 H6 σ6 vs6 x6 s6 rs6 r6=>⟨μ6,ρ5,h5,xs5,((x2.trans xsm).trans x4).trans x6,rs6,s6,r6,by omega,e2⟩⟩
theorem HB {E:XK}{mi:M Src}{st:cG}{test:M Bool}{inner:MC}{σ:St}{H:Hp}{vs:List V}{K:St->Hp->List V->Prop}(t:qS G (jF mi st test inner) σ H vs K):GF (uS G E mi) (mZ G st) (fP G E test) (qS G inner) σ H vs K:=by
 obtain⟨μ,ρ,h,xs,ρ',xs',h',rs,s,r,e,k⟩:=t;refine⟨μ,ρ,h,rs,s, ?_⟩;unfold jF at e
 cases q:mi ρ h with
 |bad=>rw[q]at e;cases e
 |ex c h1=>rw[q]at e;cases e
 |ok src h1=>rw[q]at e;exact λμ1 H1 J x1 s1 ok=>G9 ok (rs.mono x1) s1 (RelDL.mono x1 _ _ r) e λμ2 H2 σ2 vs2 x2=>k μ2 H2 σ2 vs2 (x1.trans x2)
def RL (G:Cfg):(Nat->ah)->Nat->Hp->List Dv->V->Prop:=λμ n H xs v=>∃p vs,v=.ref p/\H p=some (.lst vs)/\(∀i,i<n->μ i≠p)/\RelDL G μ n H xs vs
def qT (G:Cfg) (E:XK) (m:M (List Dv)):TE:=λσ H Q=>∃μ ρ h,RelS G μ h.length H ρ σ/\Sim G μ h H/\Out G E μ h.length H (m ρ h) (RL G) Q
def nB (X:Cx) (G:Cfg) (E:XK) (pe:bp) (m:M (List Dv)):Prop:=X.K=G.K->PE X pe (qT G E m)
theorem Sim.adopt {μ:Nat->ah}{h:Hs}{H:Hp}{p:ah}{ds:List Dv}{vs:List V}(s:Sim G μ h H) (e:H p=some (.lst vs)) (hq:∀i,i<h.length->μ i≠p) (r:RelDL G μ h.length H ds vs):
  Ext μ h.length H (λi=>if i=h.length then p else μ i) (h++[Ob.lst ds]).length H/\Sim G (λi=>if i=h.length then p else μ i) (h++[.lst ds]) H:=by
 have hl:(h++[Ob.lst ds]).length=h.length+1:=by simp
 have x:Ext μ h.length H (λi=>if i=h.length then p else μ i) (h++[Ob.lst ds]).length H:=⟨by omega,λi hi=>if_neg (bc hi),λa o _ e=>e⟩
 refine⟨x,λi j hi hj e=>?_,λi o q=>?_,s.tab⟩
 ·rw[hl]at hi hj
  by_cases h1:i=h.length <;> by_cases h2:j=h.length
  ·omega
  ·rw[if_pos h1,if_neg h2]at e;exact absurd e.symm (hq j (by omega))
  ·rw[if_neg h1,if_pos h2]at e;exact absurd e (hq i (by omega))
  ·rw[if_neg h1,if_neg h2]at e;exact s.inj i j (by omega) (by omega) e
 ·by_cases h1:i<h.length
  ·rw[ed h1]at q;have r1:=s.ob i o q
   cases o with
   |lst xs=>obtain⟨ws,e1,r2⟩:=r1;exact⟨ws,by rw[if_neg (bc h1)];exact e1,RelDL.mono x _ _ r2⟩
  ·rw[gb (by omega)]at q;have h2:i=h.length:=by have:=(az.mp q).1;simp at this;omega
   subst h2;simp at q;subst q;exact⟨vs,by rw[if_pos rfl];exact e,RelDL.mono x _ _ r⟩
def cN (m:M (List Dv)):M Dv:=λρ h=>(m ρ h).bind λxs h1=>.ok (.ref h1.length) (h1++[.lst xs])
theorem zS {E:XK}{m:M (List Dv)}{σ:St}{H:Hp}{Q:VK}(t:fO G E (cN m) σ H Q):qT G E m σ H Q:=by obtain⟨μ,ρ,h,rs,s,o⟩:=t;refine⟨μ,ρ,h,rs,s,(o.bind (R1:=RL G)).mono λv H1 ⟨μ1,xs,h1,x1,s1,⟨p,vs,ev,e1,hq,r1⟩,o1⟩=>?_⟩;subst ev;obtain⟨x2,s2⟩:=s1.adopt e1 hq r1;exact o1 _ _ _ x2 s2 ⟨by simp,by show V.ref p=V.ref (if h1.length=h1.length then p else μ1 h1.length);rw[if_pos rfl]⟩
theorem uU {X:Cx}{E:XK}{pe:bp}{m:M (List Dv)}(h:nB X G E pe m):aH X G E pe (cN m):=λhK=>PE.imp (h hK) λ_ _ _ t=>zS t
theorem uV {E E':XK}{mi:M Src}{cap:List (Option Nat)}{st:cG}{test:M Bool}{inner:MC}{σ:St}{H:Hp}{Q:VK}(t:qT G E (cB mi cap st test inner) σ H Q):qI (uS G E mi) cap (mZ G st) (fP G E' test) (qS G inner) σ H Q:=by
 obtain⟨μ,ρ,h,rs,s,o⟩:=t;refine⟨μ,ρ,h,rs,s,(o.bind (R1:=ItOk G)).mono λJ H1 ⟨μ1,src,h1,x1,s1,ok,o1⟩=>?_⟩
 cases q:eK src st test inner src.n 0 (fQ cap ρ) h1 []with
 |bad=>rw[q]at o1;exact o1.elim
 |ex c h2=>rw[q]at o1;exact o1.elim
 |ok r h2=>rw[q]at o1;obtain⟨ρ',xs'⟩:=r;refine G9 ok (G8 (rs.mono x1) cap) s1 RelDL.nil q λμ2 H2 σ2 vs2 x2 s2 rs2 r2 p hp=>?_;exact o1 μ2 _ _ (x2.trans (Ext.same (cJ hp))) (s2.same (cJ hp)) ⟨p,vs2,rfl,bT,s2.not hp,RelDL.mono (Ext.same (cJ hp)) _ _ r2⟩
end
section
variable{X:Cx}{G:Cfg}{E:XK}{elt tg iter tg' iter':bp}{ifs ifs':List bp}{sc:gh}{ps pos:Pos}{mi mi':M Src}{st st':cG}{test test':M Bool}{me:M Dv}{N:List Str}{cap:List (Option Nat)}
def lS (X:Cx) (G:Cfg) (ifs:List bp) (m:M Bool):Prop:=X.K=G.K->PTs X ifs (fP G E0 m)
theorem PTs.imp {Y:Cx}{ifs:List bp}{t t':TT}(h:PTs Y ifs t) (i:∀σ H Q,t' σ H Q->t σ H Q):PTs Y ifs t':=λpins s σ H Q I q=>h pins s σ H Q I (i σ H Q q)
theorem kH {Y:Cx}:lS Y G [] dO:=λ_=>PTs.imp RU λσ H Q ⟨μ,ρ,h,rs,s,o⟩=>o.val s rfl
theorem uW {Y:Cx}{c:bp}{m:M Bool}(h:eR Y G E0 c m):lS Y G [c] m:=λhK=>GA (h hK)
theorem PCl.imp {Y:Cx}{D:ah}{m:Sem Unit}{t t':TC}(h:PCl Y D m t) (i:∀σ H xs K,t' σ H xs K->t σ H xs K):PCl Y D m t':=λpins s σ H xs K I a f q=>h pins s σ H xs K I a f (i σ H xs K q)
theorem lT (hc:X.calm=true) (C:CapOk X sc N cap) (hi:hV X G E tg iter mi) (hg:∀s H ex,iZ (bV X sc N s H ex) G tg st) (htt:∀s H ex,lS (bV X sc N s H ex) G ifs test) (hel:∀s H ex,aH (bV X sc N s H ex) G E0 elt me)
  (hs:∀x,foldedSetIterable iter X.env x=pure x:=by intro _;rfl):nB X G E (.ListComp elt [⟨tg,iter,ifs,0⟩] sc ps) (cB mi cap st test (bP me)):=λhK=>
 PE.imp (GI hc C rfl (λit D env=>zD elt tg iter ifs sc ps (.ref it) D env) (hi hK) (λs H ex=>hg s H ex hK) (λs H ex=>htt s H ex hK) (λs H ex D=>PCl.imp (qH (hel s H ex hK)) λ_ _ _ _ t=>uT t) hs) λ_ _ _ t=>uV t
theorem SO (hc:X.calm=true) (C:CapOk X sc N cap) (hi:hV X G E tg iter mi) (hg:∀s H ex,iZ (bV X sc N s H ex) G tg st) (htt:∀s H ex,lS (bV X sc N s H ex) G ifs test)
  (hi':∀s H ex,hV (bV X sc N s H ex) G E0 tg' iter' mi') (hg':∀s H ex,iZ (bV X sc N s H ex) G tg' st') (htt':∀s H ex,lS (bV X sc N s H ex) G ifs' test') (hel:∀s H ex,aH (bV X sc N s H ex) G E0 elt me)
  (hs:∀x,foldedSetIterable iter X.env x=pure x:=by intro _;rfl) (hs':∀s H ex x,foldedSetIterable iter' (bV X sc N s H ex).env x=pure x:=by intro _ _ _ _;rfl):
  nB X G E (.ListComp elt [⟨tg,iter,ifs,0⟩,⟨tg',iter',ifs',0⟩] sc ps) (cB mi cap st test (jF mi' st' test' (bP me))):=λhK=>
 PE.imp (GI hc C rfl (inner:=λD env=>oG iter' (.ListComp elt [⟨tg,iter,ifs,0⟩,⟨tg',iter',ifs',0⟩] sc ps) 1 D env) (λit D env=>GC elt tg iter tg' iter' ifs ifs' sc ps (.ref it) D env) (hi hK) (λs H ex=>hg s H ex hK) (λs H ex=>htt s H ex hK)
  (λs H ex D=>PCl.imp (GG (X:=bV X sc N s H ex) (D:=D) (gens:=[⟨tg,iter,ifs,0⟩,⟨tg',iter',ifs',0⟩]) (d:=1) rfl hc rfl (λit=>GD elt tg iter tg' iter' ifs ifs' sc ps (.ref it) D _) (hi' s H ex hK) (hg' s H ex hK) (htt' s H ex hK) (PCl.imp (qH (hel s H ex hK)) λ_ _ _ _ t=>uT t) (hs' s H ex)) λ_ _ _ _ t=>HB t) hs) λ_ _ _ t=>uV t
end
def cQ (T:ah) (h:cw):Prop:=∃oT ts,h.get? T=some oT/\oT.data=.fields ts/\ts[3]?=some .none
structure Chg (fs:List ah) (e T:ah) (h h':cw):Prop where
 new:h.objs.size<=T
 keep:∀b o,b≠e->b∉fs->h.get? b=some o->h'.get? b=some o
 slot:∀b o,b≠e->h.get? b=some o->∃sl,h'.get? b=some { o with slots:=sl }
 tb:cQ T h'
theorem SQ (f:Array af->Array af) (o:Obj):(Obj.mapFields f o).dict=o.dict:=by
 unfold Obj.mapFields
 split <;> rfl
section
variable{M:vq}{A:cu}{E:af->ag->Prop}{s:ag}
theorem nE {a:ah}{o:Obj}{vs:Array af}{i:Nat}{v:af}{Q:Unit->ag->Prop}(e:s.heap.get? a=some o) (hd:o.data=.fields vs) (hi:i<vs.size)
  (k:∀h' o',fv a s.heap h'->h'.get? a=some o'->o'.cls=o.cls->o'.dict=o.dict->o'.data=.fields (vs.setIfInBounds i v)->Q () { s with heap:=h' }):wpAny M A (setField (.ref a) i v) Q E s:=
 have d':=ue hd (·.setIfInBounds i v)
 Aj e hd hi (k _ _ (lx ..) (mf _ e (As d')) (Obj.cls_mapFields ..) (SQ ..) d')
theorem HC {head v:af}{L:Int}{pl:List af}{Q:af->ag->Prop}(hpl:IsPlace pl) (k:∀ob ts,ob.data=.fields ts->3<ts.size->ob.isFreed=false->Q (.ref s.heap.objs.size) { s with heap:=s.heap.push ob }):
  wpAny M A (yy head v .none (rawInt L) .none pl) Q E s:=
 fg (k _ _ rfl (by simp only[aw,cm,cf,ni];omega) rfl) (hpl.sizeOk5 ..)
theorem zT {e T:ah}{oe oT:Obj}{vs ts:Array af}{Q:Unit->ag->Prop}(he:s.heap.get? e=some oe) (hd:oe.data=.fields vs) (h1:vs[1]?=some (.ref T)) (hT:s.heap.get? T=some oT) (hdT:oT.data=.fields ts) (hs:3<ts.size)
  (k:∀h',fv T s.heap h'->cQ T h'->Q () { s with heap:=h' }):wpAny M A (setFlight (.ref e) none) Q E s:=by
 refine aa (di he hd h1 ?_);show wpAny M A (if(gm T != je)=true then _ else _) Q E s;rw[if_pos (by simp)];exact nE hT hdT hs λh' o' sb g _ _ d=>k h' sb ⟨o',_,g,d,by rw[df hs];rfl⟩
theorem qU {base:cw}{l:List Env}{a:ah}{o:Obj}{vs:Array af}(hl:s.heap.FunFrames base l) (e:s.heap.get? a=some o) (hd:o.data=.fields vs):a∉cH l:=λhm=>by obtain⟨_,o',e',nf⟩:=hl.mem hm;rw[e]at e';cases e';exact nf vs hd
theorem zU {base:cw}{env:Env}{outer:List Env}{L e:ah}{oe:Obj}{vs:Array af}{head a0:af}{nx:Bool}{Q:Unit->ag->Prop}(hfr:A.frames=some (env::outer)) (hl:s.heap.FunFrames base (env::outer)) (hf:env.frame=some L)
  (he:s.heap.get? e=some oe) (hd:oe.data=.fields vs) (hdn:oe.dict=none) (hsz:1<vs.size) (h0:vs[0]?=some a0)
  (k:∀h' T,Chg (cH (env::outer)) e T s.heap h'->cD oe.cls e T a0 h'->Q () { s with heap:=h' }):
  wpAny M A (do let a <-frameOf env;let pl <-entryPlaceOf L nx;let b <-yy head a .none (rawInt L) .none pl;setField (.ref e) 1 b)
   (λ_ s'=>wpAny M A (setFlight (.ref e) none) Q E s') E s:=by
 have ne:=qU hl he hd;refine aa (wpAny_frameOf_fun hfr hl hf λg1 so=>aa (wpAny_entryPlaceOf λpl hpl=>aa (HC hpl λob ts dt hts nf=>?_)));have e1:g1.get? e=some oe:=(so.2.1 e ne).trans he;have lt:e<g1.objs.size:=ao e1;refine nE (s:={ s with heap:=g1.push ob }) (aj _ e1) hd hsz λg2 oe2 sb2 ge c2 dn2 d2=>?_;have gT:g2.get? g1.objs.size=some ob:=sb2.extBut _ _ (ig lt) (ay _ nf);refine zT (s:={ s with heap:=g2 }) ge d2 (T:=g1.objs.size) (by rw[df hsz]) gT dt hts λg3 sb3 tb=>?_;have kp:∀b o,b≠e->g1.get? b=some o->g3.get? b=some o:=λb o hb q=>sb3.extBut _ _ (bc (ao q)) (sb2.extBut _ _ hb (aj _ q));refine k g3 g1.objs.size ⟨lr so.1.symm,λb o hb hn q=>kp b o hb ((so.2.1 b hn).trans q),λb o hb q=>?_,tb⟩ ⟨oe2,_,sb3.extBut _ _ (bc lt) ge,c2,d2, ?_, ?_,dn2.trans hdn⟩
 ·obtain⟨sl,q'⟩:=so.2.2 b o q;exact⟨sl,kp b _ hb q'⟩
 ·rw[uj (by decide)];exact h0
 ·rw[df hsz]
theorem SS {base:cw}{env:Env}{outer:List Env}{L e:ah}{oe:Obj}{vs:Array af}{a0:af}{Q:Unit->ag->Prop}(hfr:A.frames=some (env::outer)) (hl:s.heap.FunFrames base (env::outer)) (hf:env.frame=some L)
  (he:s.heap.get? e=some oe) (hd:oe.data=.fields vs) (hdn:oe.dict=none) (h0:vs[0]?=some a0) (h1:vs[1]?=some .none)
  (k:∀h' T,Chg (cH (env::outer)) e T s.heap h'->cD oe.cls e T a0 h'->Q () { s with heap:=h' }):
  wpAny M A (noteFrame (.ref e) env) (λ_ s'=>wpAny M A (setFlight (.ref e) none) Q E s') E s:=by
 unfold noteFrame;rw[hf];refine aa (di he hd h1 ?_);exact zU hfr hl hf he hd hdn (cj.mp h1).1 h0 k
theorem SU {base:cw}{env:Env}{outer:List Env}{L e T:ah}{C a0:af}{Q:Unit->ag->Prop}(hfr:A.frames=some (env::outer)) (hl:s.heap.FunFrames base (env::outer)) (hf:env.frame=some L)
  (hx:cD C e T a0 s.heap) (ht:cQ T s.heap) (hne:T≠e)
  (k:∀h' T',s.heap.objs.size<=T'->(∀b o,b≠e->b≠T->b∉cH (env::outer)->s.heap.get? b=some o->h'.get? b=some o)->(∀b o,b≠e->b≠T->s.heap.get? b=some o->∃sl,h'.get? b=some { o with slots:=sl })->
   cD C e T' a0 h'->cQ T h'->cQ T' h'->Q () { s with heap:=h' }):
  wpAny M A (noteFrame (.ref e) env) (λ_ s'=>wpAny M A (setFlight (.ref e) none) Q E s') E s:=by
 obtain⟨oe,vs,he,rfl,hd,h0,h1,hdn⟩:=hx;obtain⟨oT,ts,hT,hdT,h3⟩:=ht;have l3:3<ts.size:=(cj.mp h3).1;have nT:=qU hl hT hdT;unfold noteFrame;rw[hf];refine aa (di he hd h1 ?_);rw[if_pos (by simp)];refine aa (di hT hdT h3 ?_);rw[if_neg (by simp[rawInt])];refine aa (nE hT hdT l3 λg o' sb gT _ _ dT=>?_);have hl':g.FunFrames base (env::outer):=hl.of_keeps λb o q nf=>⟨o,sb.extBut _ _ (λz=>by subst z;rw[hT]at q;cases q;exact nf ts hdT) q,rfl⟩
 refine zU (s:={ s with heap:=g }) hfr hl' hf (sb.extBut _ _ (cy hne) he) hd hdn (cj.mp h1).1 h0 λh' T' c x=>?_;refine k h' T' (by rw[<-sb.1];exact c.new) (λb o n1 n2 n3 q=>c.keep b o n1 n3 (sb.extBut _ _ n2 q)) (λb o n1 n2 q=>c.slot b o n1 (sb.extBut _ _ n2 q)) x ⟨_,_,c.keep T _ hne nT gT,dT, ?_⟩ c.tb;rw[df l3]
end
theorem oU {P:bj}{w:cq}{H:Hp}{h:cw}{a:ah}{o:HO}(x:ObjOk P w H h a o):∃ob,h.get? a=some ob:=by
 cases o with
 |lst xs=>obtain⟨_,_,_,_,e⟩:=x;exact⟨_,e⟩
 |tup xs=>obtain⟨_,_,_,ob,e,_⟩:=x;exact⟨_,e⟩
 |dK kvs=>obtain⟨_,_,_,_,o,_,_,e,_⟩:=x;exact⟨_,e⟩
 |dT kvs=>obtain⟨_,_,_,_,o,_,_,e,_⟩:=x;exact⟨_,e⟩
 |set S n=>obtain⟨o,_,_,_,e,_⟩:=x;exact⟨_,e⟩
 |ins C dx fs=>obtain⟨_,_,_,e,_⟩:=x;exact⟨_,e⟩
 |own y=>exact x
 |xd fs=>obtain⟨_,⟨_,_,_,e,_⟩,_⟩:=x;exact⟨_,e⟩
 |rng lo hi=>obtain⟨_,_,_,e⟩:=x;exact⟨_,e⟩
 |frz ob u=>obtain⟨e,_⟩:=x;exact⟨_,e⟩
 |tbl ps=>exact⟨_,(show h.get? a=some _ from x)⟩
 |met f y=>exact⟨_,(show h.get? a=some _ from x)⟩
 |ext φ=>obtain⟨_,e,_⟩:=x;exact e
def oV (base:cw) (H:Hp) (C:af) (e:ah):Prop:=∃T a0,H e=some (.ext (cD C e T a0))/\H T=some (.ext (cQ T))/\base.get? e=none/\T≠e
def kZ (e:ah) (H H':Hp):Prop:=∀b o,b≠e->H b=some o->H' b=some o
theorem SV {C a0:af}{e T:ah}{h1 h2:cw}(x:cD C e T a0 h1) (k:∀o,h1.get? e=some o->h2.get? e=some o):cD C e T a0 h2:=by obtain⟨oe,vs,he,r⟩:=x;exact⟨oe,vs,k oe he,r⟩
theorem SX {T:ah}{h1 h2:cw}(x:cQ T h1) (k:∀o,h1.get? T=some o->h2.get? T=some o):cQ T h2:=by obtain⟨oe,vs,he,r⟩:=x;exact⟨oe,vs,k oe he,r⟩
theorem uX {P:bj}{w:cq}{H:Hp}{h:cw}{C a0:af}{e T:ah}(x:cD C e T a0 h):ObjOk P w H h e (.ext (cD C e T a0)):=⟨x,(let ⟨oe,_,he,_⟩:=x;⟨oe,he⟩),λ_ _ y k=>SV y k⟩
theorem nF {P:bj}{w:cq}{H:Hp}{h:cw}{T:ah}(x:cQ T h):ObjOk P w H h T (.ext (cQ T)):=⟨x,(let ⟨oe,_,he,_⟩:=x;⟨oe,he⟩),λ_ _ y k=>SX y k⟩
section
variable{P:bj}{w:cq}{M:vq}{A:cu}{E:af->ag->Prop}{s:ag}{H:Hp}{base:cw}{env:Env}{outer:List Env}{L e:ah}{C:af}
theorem zV {Q:Unit->ag->Prop}(hfr:A.frames=some (env::outer)) (hl:s.heap.FunFrames base (env::outer)) (hf:env.frame=some L) (hok:HOk P w H s.heap) (hfree:∀b∈cH (env::outer),H b=none) (fl:oV base H C e)
  (k:∀h' H',Un (cH (env::outer)) [] H H' s.heap h'->HOk P w H' h'->oV base H' C e->kZ e H H'->Q () { s with heap:=h' }):
  wpAny M A (noteFrame (.ref e) env) (λ_ s'=>wpAny M A (setFlight (.ref e) none) Q E s') E s:=by
 obtain⟨T,a0,he,hT,hb,hne⟩:=fl;have xe:cD C e T a0 s.heap:=(show ObjOk P w H s.heap e _ from hok e _ he).1;have xt:cQ T s.heap:=(show ObjOk P w H s.heap T _ from hok T _ hT).1;refine SU hfr hl hf xe xt hne λh' T' hnew keep slot x' t0 t'=>?_;have nT':H T'=none:=hok.fresh hnew;have eT':T'≠e:=(cW he nT').symm;have TT':T'≠T:=(cW hT nT').symm;have sx:kZ e H (aM (aM H e (.ext (cD C e T' a0))) T' (.ext (cQ T'))):=λb o hbe q=>by rw[bA (cW q nT'),bA hbe];exact q
 have ee:aM (aM H e (.ext (cD C e T' a0))) T' (.ext (cQ T')) e=some (.ext (cD C e T' a0)):=by rw[bA (cy eT'),bT]
 refine k h' (aM (aM H e (.ext (cD C e T' a0))) T' (.ext (cQ T'))) ?_ ?_ ⟨T',a0,ee,bT,hb,eT'⟩ sx
 ·have free:∀b o,s.heap.get? b=some o->H b=none->aM (aM H e (.ext (cD C e T' a0))) T' (.ext (cQ T')) b=none:=λb o q n=>by have h1:b≠T':=bc (ar (ao q) hnew);have h2:b≠e:=(cW he n).symm;rw[bA h1,bA h2];exact n
  refine⟨λb o q n hb _=>keep b o (cW he n).symm (cW hT n).symm hb q,λb o q n _ _=>slot b o (cW he n).symm (cW hT n).symm q,λb o q n _=>free b o q n,λb o q _=>?_,λb xs q=>?_,λb o u q=>?_,λb ps q=>?_⟩
  ·by_cases h1:b=e
   ·subst h1;obtain⟨oe,_,z,_⟩:=x';exact⟨oe,z⟩
   ·by_cases h2:b=T
    ·subst h2;obtain⟨oe,_,z,_⟩:=t0;exact⟨oe,z⟩
    ·obtain⟨sl,z⟩:=slot b o h1 h2 q;exact⟨_,z⟩
  ·exact sx b _ (eO q he (by intro z;cases z)) q
  ·exact sx b _ (eO q he (by intro z;cases z)) q
  ·exact⟨#[],by rw[sx b _ (eO q he (by intro z;cases z)) q];simp⟩
 ·intro a o q
  by_cases h1:a=T'
  ·subst h1;rw[bT]at q;cases q;exact nF t'
  ·rw[bA h1]at q
   by_cases h2:a=e
   ·subst h2;rw[bT]at q;cases q;exact uX x'
   ·rw[bA h2]at q
    by_cases h3:a=T
    ·subst h3;rw[hT]at q;cases q;exact nF t0
    ·have nf:a∉cH (env::outer):=λz=>by rw[hfree a z]at q;cases q
     refine(hok a o q).stay (λb u hb z=>?_) (λb z=>sx b _ (eO z he (by intro y;cases y)) z) λb xs z=>sx b _ (eO z he (by intro y;cases y)) z
     rcases hb with rfl|hb
     ·exact keep b u h2 h3 nf z
     ·exact keep b u (eO hb he (by intro y;cases y)) (eO hb hT (by intro y;cases y)) (λy=>by rw[hfree b y]at hb;cases hb) z
theorem HD {Q:Unit->ag->Prop}{h0:cw}{args:List af}(hfr:A.frames=some (env::outer)) (hl:h0.FunFrames base (env::outer)) (hf:env.frame=some L) (hok:HOk P w H h0) (hfree:∀b∈cH (env::outer),H b=none) (hsb:∀b o,base.get? b=some o->h0.get? b=some o)
  (mx:Heap.MadeExcOf h0 s.heap e C args)
  (k:∀h' H',Un (cH (env::outer)) [] H H' h0 h'->HOk P w H' h'->oV base H' C e->Same H H'->Q () { s with heap:=h' }):
  wpAny M A (noteFrame (.ref e) env) (λ_ s'=>wpAny M A (setFlight (.ref e) none) Q E s') E s:=by
 obtain⟨t,he,hnt,ht⟩:=mx.there;have hbn:base.get? e=none:=by
  cases q:base.get? e with
  |none=>rfl
  |some o=>have:=hsb e o q;rw[mx.new]at this;cases this
 have nH:H e=none:=by
  cases q:H e with
  |none=>rfl
  |some o=>
   have z:∀a o,H a=some o->h0.get? a≠none:=λa o q n=>by
    have lt:=hok.lt q;have:=(hok a o q)
    have ex:∃ob,h0.get? a=some ob:=oU this;obtain⟨ob,eo⟩:=ex;rw[n]at eo;cases eo
   exact absurd mx.new (z e o q)
 have hl1:s.heap.FunFrames base (env::outer):=hl.of_keeps λb o hb _=>⟨o,mx.keeps b o hb,rfl⟩
 refine SS hfr hl1 hf he rfl rfl (a0:=.ref t) rfl rfl λh' T c x=>?_;have ne_e:∀b o,h0.get? b=some o->b≠e:=λb o q z=>by subst z;rw[mx.new]at q;cases q
 have lt0:∀b o,h0.get? b=some o->b<T:=λb o q=>ar (ao (mx.keeps b o q)) c.new;have nT:H T=none:=by
  cases q:H T with
  |none=>rfl
  |some o=>obtain⟨ob,eo⟩:=oU (hok T o q);exact absurd (lt0 T ob eo) (fj _)
 have eT:T≠e:=ig (ar (ao he) c.new);have sm:Same H (aM (aM H e (.ext (cD C e T (.ref t)))) T (.ext (cQ T))):=λb o q=>by rw[bA (cW q nT),bA (cW q nH)];exact q
 refine k h' (aM (aM H e (.ext (cD C e T (.ref t)))) T (.ext (cQ T))) ?_ ?_ ⟨T,.ref t,by rw[bA (cy eT),bT],bT,hbn,eT⟩ sm
 ·refine⟨λb o q n hb _=>c.keep b o (ne_e b o q) hb (mx.keeps b o q),λb o q n _ _=>c.slot b o (ne_e b o q) (mx.keeps b o q),λb o q n _=>?_,λb o q _=>?_,λb xs q=>sm b _ q,λb o u q=>sm b _ q,λb ps q=>⟨#[],by rw[sm b _ q];simp⟩⟩
  ·rw[bA (bc (lt0 b o q)),bA (ne_e b o q)];exact n
  ·obtain⟨sl,z⟩:=c.slot b o (ne_e b o q) (mx.keeps b o q);exact⟨_,z⟩
 ·intro a o q
  by_cases h1:a=T
  ·subst h1;rw[bT]at q;cases q;exact nF c.tb
  ·rw[bA h1]at q
   by_cases h2:a=e
   ·subst h2;rw[bT]at q;cases q;exact uX x
   ·rw[bA h2]at q;have nf:a∉cH (env::outer):=λz=>by rw[hfree a z]at q;cases q
    refine(hok a o q).stay (λb u hb z=>?_) (λb z=>sm b _ z) λb xs z=>sm b _ z
    rcases hb with rfl|hb
    ·exact c.keep b u (ne_e b u z) nf (mx.keeps b u z)
    ·exact c.keep b u (ne_e b u z) (λy=>by rw[hfree b y]at hb;cases hb) (mx.keeps b u z)
end
def bF (P:bj) (w:cq) (base:cw):kW:=λouter H s E u s'=>∃e C H',u=.ref e/\s'.os=s.os/\qr s'.gens/\Un (cH outer) [] H H' s.heap s'.heap/\HOk P w H' s'.heap/\oV base H' C e/\E u none H'
def SY (X:Cx) (E:XK):Prop:=∀(pins:List (ah×Obj)) (σ:St) (H:Hp) (s:ag) (h':cw) (e:ah) (C:af) (args:List af),Inv X pins σ H s->Heap.MadeExcOf s.heap h' e C args->
 (∀H',Same H H'->(∃T a0,H' e=some (.ext (cD C e T a0)))->E (.ref e) none H')->X.xe (.ref e) { s with heap:=h' }
structure Good (X:Cx) (G:Cfg) (E:XK) (k:Nat):Prop where
 calm:X.calm=true
 room:Room k X.A
 K:X.K=G.K
 pas:qC (bF X.prog X.w X.base) X E
 own:xv (model X.prog X.w) X.A X.env X.xe
 rais:SY X E
def uY (E:XK):Prop:=∀e H H',kZ e H H'->(∃C T a0 T' a0',H e=some (.ext (cD C e T a0))/\(∃h,cD C e T a0 h)/\H' e=some (.ext (cD C e T' a0')))->E (.ref e) none H->E (.ref e) none H'
section
variable{P:bj}{w:cq}{K:aq}{mg:Str->Option af}{base:cw}{N:List Str}{qual:Str}{scope:gh}{f:ah}{cdv:af}{A:cu}{outer:List Env}{s0:ag}{H0:Hp}{E0:XK}{G:Cfg}{E:XK}{k:Nat}
theorem uZ (hr:Room k (A.deeper (envOfC qual scope s0.heap.objs.size f cdv))) (hK:K=G.K) (hE:∀u H',E u none H'->E0 u none H') (hF:uY E):
  Good (eE (bF P w base) P w K mg base N qual scope f cdv A outer s0 H0 E0) G E k where
 calm:=rfl
 room:=hr
 K:=hK
 own:=zx
 pas:=by intro pins σ H s u s' I ⟨e,C,H',eu,os,bare,un,hok,fl,he⟩;subst eu;have I':=I.call' os un hok bare (λb z=>absurd z (by simp));refine aa (zV (P:=P) (w:=w) (H:=H') (base:=base) I'.ok.frames I'.stack rfl hok I'.stkFree fl λh'' H'' un2 hok2 fl2 sx=>?_);have I2:=I'.call (h':=h'') (g':=s'.gens) (d':=s'.drawn) (t':=s'.toks) un2 hok2 I'.bare (λb z=>absurd z (by simp));obtain⟨T,a0,h1,_⟩:=id fl;obtain⟨T2,a2,h3,_⟩:=id fl2;have xe1:cD C e T a0 s'.heap:=(show ObjOk P w H' s'.heap e _ from hok e _ h1).1;have:E (.ref e) none H'':=hF e H' H'' sx ⟨C,T,a0,T2,a2,h1,⟨_,xe1⟩,h3⟩ he;exact⟨e,C,H'',rfl,I2.os,I2.bare,I2.base,hok2,fl2,hE _ _ this⟩
 rais:=by intro pins σ H s h' e C args I mx he;refine aa (HD (P:=P) (w:=w) (H:=H) (base:=base) I.ok.frames I.stack rfl I.hok I.stkFree I.bk mx λh'' H'' un2 hok2 fl2 sm=>?_);have I2:=I.call (h':=h'') (g':=s.gens) (d':=s.drawn) (t':=s.toks) un2 hok2 I.bare (λb z=>absurd z (by simp));obtain⟨T2,a2,h3,_⟩:=id fl2;exact⟨e,C,H'',rfl,I2.os,I2.bare,I2.base,hok2,fl2,hE _ _ (he H'' sm ⟨T2,a2,h3⟩)⟩
theorem eM {X:Cx}{sc:gh}{N':List Str}{s:ag}{H:Hp}{ex:List ah}(g:Good X G E k):Good (bV X sc N' s H ex) G L2.E0 k where
 calm:=g.calm
 room:=g.room
 K:=g.K
 own:=PassesOwn.never
 pas:=λ_ _ _ _ _ _ _ ⟨_,_,_,_,_,_,_,_,_,z⟩=>z
 rais:=λ_ _ H s h' e C args I mx he=>by
  have nH:H e=none:=by
   cases q:H e with
   |none=>rfl
   |some o=>obtain⟨ob,eo⟩:=oU (I.hok e o q);rw[mx.new]at eo;cases eo
  exact he (aM H e (.ext (cD C e 0 .none))) (cJ nH) ⟨0,.none,bT⟩
def bL (n:Nat) (ds:List Dv):Ev:=ds.map some++ax (n - ds.length) none
def bG:Sr->Rs Dv
 | .rt d h=>.ok d h
 | .nx _ h=>.ok .non h
 | .ex c h=>.ex c h
 |_=>.bad
def aT (np n:Nat) (mb:MS):List Dv->Hs->Rs Dv:=λds h=>if ds.length=np then bG (mb (bL n ds) h)else .bad
def cF (G:Cfg) (F:List Dv->Hs->Rs Dv):Sp:=λvs H Q E=>∃μ h ds,RelDL G μ h.length H ds vs/\Sim G μ h H/\Out G E μ h.length H (F ds h) (RelD G) Q
theorem zW {μ:Nat->ah}{n:Nat}{H:Hp}{ds:List Dv}{vs:List V}(r:RelDL G μ n H ds vs) (N:List Str):RelS G μ n H (bL N.length ds) (start N vs):=by
 have hl:=r.length;refine⟨by simp[bL,start,hl],λi d e=>?_⟩;unfold bL at e
 by_cases hi:i<ds.length
 ·rw[ed (by simpa using hi),du]at e
  cases q:ds[i]? with
  |none=>rw[q]at e;cases e
  |some d'=>rw[q]at e;cases e;obtain⟨v,e1,r1⟩:=r.get q;refine⟨v, ?_,r1⟩;unfold start;rw[ed (by simp;omega),du,e1];rfl
 ·rw[gb (by simpa using hi),qh]at e
  split at e <;> cases e
def EB (G:Cfg) (μ0:Nat->ah) (n0:Nat) (H0:Hp) (r:Sr):XK:=λu _ H'=>∃c h' μ',r=.ex c h'/\Ext μ0 n0 H0 μ' h'.length H'/\Sim G μ' h' H'/\uG G H' c u
theorem Sim.sameX {μ:Nat->ah}{h:Hs}{H H':Hp}{e:ah}(s:Sim G μ h H) (sx:kZ e H H') (hx:∃φ,H e=some (.ext φ)):Sim G μ h H'/\∀(n:Nat),Ext μ n H μ n H':=by
 obtain⟨φ,hx⟩:=hx;have x:∀n:Nat,Ext μ n H μ n H':=λn=>⟨ak _,λ_ _=>rfl,λa o i q=>sx a o (by rintro rfl;rw[hx]at q;cases q;exact i) q⟩
 refine⟨⟨s.inj,λi o q=>?_,s.tab.keep λa o _ n2 q=>sx a o (by rintro rfl;rw[hx]at q;cases q;exact n2 _ rfl) q⟩,x⟩;have r:=s.ob i o q
 cases o with
 |lst xs=>obtain⟨vs,e1,r1⟩:=r;exact⟨vs,sx _ _ (eO e1 hx (by intro z;cases z)) e1,RelDL.mono (x _) _ _ r1⟩
theorem qV {μ0:Nat->ah}{n0:Nat}{H0:Hp}{r:Sr}:uY (EB G μ0 n0 H0 r):=by intro e H H' sx ⟨C,T,a0,T',a0',h1,⟨hp,hx⟩,h3⟩ ⟨c,h',μ',er,x,s,e',φ,eu,h4,h5⟩;cases eu;obtain⟨s2,x2⟩:=s.sameX sx ⟨_,h1⟩;refine⟨c,h',μ',er,x.trans (x2 _),s2,e,_,rfl,h3,λhh z=>?_⟩;rw[h1]at h4;cases h4;obtain⟨o,g1,g2⟩:=h5 hp hx;obtain⟨oe,vs,g3,g4,_⟩:=hx;rw[g3]at g1;cases g1;obtain⟨oe',vs',g5,g6,_⟩:=z;exact⟨oe',g5,by rw[g6,<-g4,g2]⟩
theorem dP {x qual:Str}{st:gp}{fd:bu}{ps:List Str}{mb:MS}(Fn:Fun K x qual st f fd) (S:FnScope N ps (aW st)) (hK:K=G.K)
  (hbody:∀(cdv:af) (A:cu) (outer:List Env) (s:ag) (H:Hp) (E₀ E:XK),Good (eE (bF P w base) P w K mg base N qual (aW st) f cdv A outer s H E₀) G E k->hO (eE (bF P w base) P w K mg base N qual (aW st) f cdv A outer s H E₀) G E (iV st) mb):
  FnOk P w K mg base (bF P w base) (k+1) f fd ps (cF G (aT ps.length N.length mb)):=by
 obtain⟨oc,od,kV,doc,pm,an,cdv,ct,osl,rfl,lk,hcd⟩:=Fn.ex;have hlen:∀vs H Q E,cF G (aT ps.length N.length mb) vs H Q E->vs.length=ps.length:=λvs H Q E ⟨μ,h,ds,r,sm,o⟩=>by
  rw[r.length];unfold aT at o
  by_cases hd:ds.length=ps.length
  ·exact hd
  ·rw[if_neg hd]at o;exact o.elim
 refine tW lk hcd S hlen λA outer s H vs Q E hr hsp=>?_;have hl:=hlen _ _ _ _ hsp;obtain⟨μ,h,ds,r,sm,o⟩:=hsp;have o':Out G E μ h.length H (bG (mb (bL N.length ds) h)) (RelD G) Q:=by unfold aT at o;rw[if_pos (by rw[<-r.length];exact hl)]at o;exact o
 refine⟨_,hbody cdv A outer s H E (EB G μ h.length H (mb (bL N.length ds) h)) (uZ hr hK (λu H' ⟨c,h',μ',er,x,s',fl⟩=>?_) qV) hK, ?_⟩
 ·rw[er]at o';exact o' μ' H' u x s' fl
 ·refine⟨μ,bL N.length ds,h,zW r N,sm, ?_⟩
  cases q:mb (bL N.length ds) h with
  |bad=>rw[q]at o';exact o'.elim
  |bk ρ h'=>rw[q]at o';exact o'.elim
  |ct ρ h'=>rw[q]at o';exact o'.elim
  |rt d h'=>rw[q]at o';exact o'
  |nx ρ h'=>rw[q]at o';exact λμ' H' σ' x' s' rs'=>o' μ' H' .non x' s' rfl
  |ex c h'=>exact λμ' H' u x' s' fl=>⟨c,h',μ',rfl,x',s',fl⟩
theorem cC {X:Cx}{F:List Dv->Hs->Rs Dv}{ps:List Str}{fd:bu}{x:Str}{p pos:Pos}{e:bp}{es:List bp}{ms:M (List Dv)}{j:Nat}(g:Good X G E k) (Fn:FnOk X.prog X.w X.K X.mg X.base (bF X.prog X.w X.base) j f fd ps (cF G F)) (hj:j<=k)
  (hg:Gl X x) (hm:X.mg x=some (.ref f)) (hk:jv X.K (.ref f)=true) (hb:Binds X.K fd ps []) (ha:dQ X G E (e::es) ms)
  (hdb:(x==("__debug__" : Str))=false:=by decide) (he:au (e::es) X.env=(false,eval e X.env)::au es X.env:=by rfl) (hpl:(backTo pos (au es X.env)).any (·.1)=false:=by rfl):
  aH X G E (.Call (.Name x p) (e::es) [] pos) (aF F ms):=λhK=>
 PE.imp (E7 Fn (g.room.mono hj) hg hm hk hb .nil g.pas (ha hK) hdb he hpl) λσ H Q ⟨μ,ρ,h,rs,s,o⟩=>iX rs s o λμ1 ds1 h1 vs H1 x1 rs1 s1 r1 o1=>by rw[jg];exact⟨μ1,h1,ds1,r1,s1,o1⟩
end
abbrev qW:List af:=[.type "ValueError",.type "Exception",.type "BaseException",.type "object"]
theorem S0 {K:aq}{mg:Str->Option af}{base:cw}(p:bj) (m:Mod K mg base):∃gD mb,PySem.W.TopRead p gD mg mb base:=by
 obtain⟨mb,hb,hbb⟩:=m.blt;obtain⟨o,es,ep,ho,hd,hk,hf⟩:=id m.glob;refine⟨es.toList.filterMap λe=>match e.key with
  | .str n _=>some n
  |_=>none,mb,m.glob,hb,m.nolimit,hbb,λx _ hx _ _ _=>?_⟩
 rw[<-hf x]
 cases q:nsFind es x with
 |none=>rfl
 |some v=>
  exfalso
  apply hx
  unfold nsFind findBy at q;obtain⟨e,he,_⟩:=Option.map_eq_some_iff.mp q;have h1:=Array.find?_some he;have h2:=Array.mem_of_find?_eq_some he;obtain⟨n,t,hn⟩:=hk e h2;rw[hn]at h1;have h3:n=x:=by simpa[Value.isStr]using h1
  exact gz.mpr ⟨e,by simpa using h2,by rw[hn,h3]⟩
section
variable{X:Cx}{G:Cfg}{E:XK}{k:Nat}{x:Str}{C:ah}{np cpos pos:Pos}{e:bp}{es:List bp}{t:TA}{ms:M (List Dv)}{c:Nat}
theorem HE (g:Good X G E k) (hg:Gl X x) (hm:X.mg x=some (.ref C)) (hns:qg X.K dm x=some (some (.ref C))) (hx:ou X.K C qW "ValueError.__new__" = true) (ha:PA X (e::es) t) (hd:(x==("__debug__" : Str))=false:=by decide)
  (he:au (e::es) X.env=(false,eval e X.env)::au es X.env:=by rfl) (hpl:(backTo cpos (au es X.env)).any (·.1)=false:=by rfl):
  PS X (.Raise (some (.Call (.Name x np) (e::es) [] cpos)) none pos) (λ_ σ H=>t σ H λvs H1=>vs.length<=cn/\∀e H',Same H1 H'->(∃T a0,H' e=some (.ext (cD (.ref C) e T a0)))->E (.ref e) none H'):=by
 intro pins s σ H D I h;obtain⟨bm,N,nm,q,bs,hdct,sn,sub,ab,col,dd,k0,k1,k2,k3,k5,mN,hC,hN,hni,T⟩:=(let ⟨_,_,tr⟩:=S0 X.prog I.ok.mod;PySem.W.own_of_in I.ok.mod.kin tr hns hx).obj;refine wpAny_Raise_call_subU (C:=C) (nm:=nm) (q:=q) (N:=N) (bs:=bs) (bm:=bm) (hdct:=hdct) (sn:=sn) (sub:=sub) (ab:=ab) (col:=col) (dd:=dd) (k0:=k0) (k1:=k1) (k2:=k2) (k3:=k3) (k5:=k5)
  vj (by decide) vj (mN:=mN) (T.hasType (by decide)) (I.ok.hd g.calm) (by rw[he];show(false||(backTo cpos (au es X.env)).any (·.1))=false;rw[hpl];rfl) hni (pX I hg hm ⟨rfl, ?_⟩ hd)
 have hh:=ha cpos pins s σ H _ I h;rw[he]at hh ⊢;refine Af (aU hh λus s2 ⟨vs,H2,I2,r,hz,w⟩=>⟨rfl,by rw[<-r.length];exact hz,I2.bk _ _ hC,hN.keeps I2.bk,T.keeps I2.bk,λh' e' mx=>?_⟩);exact g.rais pins σ H2 s2 h' e' _ _ I2 mx λH' sm z=>w e' H' sm z
theorem HF {H:Hp}{e:ah}(hc:C=G.cl c) (z:∃T a0,H e=some (.ext (cD (.ref C) e T a0))):uG G H c (.ref e):=by obtain⟨T,a0,z⟩:=z;exact⟨e,_,rfl,z,λh ⟨oe,vs,h1,h2,_⟩=>⟨oe,h1,by rw[h2,hc]⟩⟩
def zX (c:Nat) (ms:M (List Dv)):MS:=λρ h=>(ms ρ h).thenS λds h1=>if ds.length<=1000 then .ex c h1 else .bad
theorem S1 (g:Good X G E k) (hg:Gl X x) (hm:X.mg x=some (.ref C)) (hns:qg X.K dm x=some (some (.ref C))) (hx:ou X.K C qW "ValueError.__new__" = true) (hc:C=G.cl c) (ha:dQ X G E (e::es) ms) (hd:(x==("__debug__" : Str))=false:=by decide)
  (he:au (e::es) X.env=(false,eval e X.env)::au es X.env:=by rfl) (hpl:(backTo cpos (au es X.env)).any (·.1)=false:=by rfl):
  gM X G E (.Raise (some (.Call (.Name x np) (e::es) [] cpos)) none pos) (zX c ms):=λhK=>PS.imp (HE g hg hm hns hx (ha hK) hd he hpl) λD σ H ⟨μ,ρ,h,rs,s,o⟩=>
 ⟨μ,ρ,h,rs,s,(o.thenS (R:=RelDL G)).mono λvs H1 ⟨μ1,ds,h1,x1,s1,r1,o1⟩=>by
  split at o1
  ·rename_i hl;refine⟨by rw[r1.length];exact dk hl (by decide),λe' H' sm z=>?_⟩;exact o1 μ1 H' (.ref e') (Ext.same sm) (s1.same sm) (HF hc z)
  ·exact o1.elim⟩
def zY (X:Cx) (p:bp) (cond:St->Prop):Prop:=∀(pins:List (ah×Obj)) (s:ag) (σ:St) (H:Hp),Inv X pins σ H s->cond σ->
 wpAny (model X.prog X.w) X.A (eval p X.env) (λu s'=>∃y t,u=.str y t/\y.length<=1000/\Inv X pins σ H s') X.xe s
theorem HG {y:Str}{j:Nat}{p:Pos}(h:y.length<=1000):zY X (.Constant (.str y) j p) (λ_=>True):=λpins s σ H I _=>aU (EK (X:=X) pins s σ H (λv H'=>v=.str y/\H'=H) I ⟨rfl,rfl⟩) λu s' ⟨v,H',I',r,hv,hH⟩=>by subst hv;subst hH;obtain⟨t,rfl⟩:=r;exact⟨y,t,rfl,h,I'⟩
theorem HH {a:Int}(h:eI a=true):a.natAbs.log2<1920/\(toString a:Str).length<=1000:=by
 have hn:a.natAbs<2 ^ 64:=by simp only[eI,dj,decide_eq_true_eq]at h;omega
 have hlog:a.natAbs.log2<64:=by
  by_cases h0:a.natAbs=0
  ·rw[h0];decide
  ·exact(Nat.log2_lt h0).mpr hn
 refine⟨by omega, ?_⟩;have e:=int_text_length_le (k:=64) (by decide) hlog;rw[PySem.ofString_length];omega
theorem HI {i:Nat}{y:Str}{p q:Pos}(hv:PE X (.Name y p) (EI i)):zY X (.FormattedValue (.Name y p) (-1) none q) (λσ=>∃a,σ[i]?=some (some (.int a))/\eI a=true):=by intro pins s σ H I ⟨a,e,ha⟩;refine FormattedValue_plain (aU (hv pins s σ H (λv H'=>v=.int a/\H'=H) I ⟨_,e,rfl,rfl⟩) λu s1 ⟨v,H',I',r,e1,e2⟩=>?_);subst e1;subst e2;obtain⟨t,rfl⟩:=r;exact formatField_int_small (HH ha).1 ⟨_,_,rfl,(HH ha).2,I'.tok _⟩
inductive PTxs (X:Cx):List bp->(St->Prop)->Prop
 |nil:PTxs X [] (λ_=>True)
 |cons {p:bp}{ps:List bp}{a b:St->Prop}:zY X p a->PTxs X ps b->PTxs X (p::ps) (λσ=>a σ/\b σ)
theorem S3 {ps:List bp}{cond:St->Prop}(h:PTxs X ps cond):∀(out:Str) (pins:List (ah×Obj)) (s:ag) (σ:St) (H:Hp),Inv X pins σ H s->cond σ->out.length+1000*ps.length<=cn->
  wpAny (model X.prog X.w) X.A (joinParts out (evalEach ps X.env)) (λu s'=>∃y t,u=.str y t/\Inv X pins σ H s') X.xe s:=by
 induction h with
 |nil=>intro out pins s σ H I _ hl;exact joinParts_nil ⟨_,_,rfl,I.tok _⟩ (by simpa using hl)
 | @cons p ps a b hp hr ih=>intro out pins s σ H I ⟨ca,cb⟩ hl;rw[cf]at hl;have e1:evalEach (p::ps) X.env=eval p X.env::evalEach ps X.env:=rfl;rw[e1];refine joinParts_cons (aU (hp pins s σ H I ca) λu s1 ⟨y,t,eu,hy,I1⟩=>?_);subst eu;have hz:(out++y).length=out.length+y.length:=strLen_append ..;refine⟨by omega,ih (out++y) pins s1 σ H I1 cb (by omega)⟩
theorem S4 {p1 p2:bp}{ps:List bp}{cond:St->Prop}(h:PTxs X (p1::p2::ps) cond) (hl:1000*(ps.length+2)<=cn:=by decide):
  PE X (.JoinedStr (p1::p2::ps) pos) (λσ H Q=>cond σ/\∀y,Q (.str y) H):=by
 intro pins s σ H Q I ⟨c,q⟩;refine JoinedStr_many ?_;have e1:eval p1 X.env::eval p2 X.env::evalEach ps X.env=evalEach (p1::p2::ps) X.env:=rfl;rw[e1];refine aU (S3 h Str.empty pins s σ H I c (by have:Str.empty.length=0:=rfl;rw[this,cf,cf];omega)) λu s' ⟨y,t,eu,I'⟩=>?_;exact⟨.str y,H,I',⟨t,eu⟩,q y⟩
def zZ (c:Nat) (slots:List Nat):MS:=λρ h=>if slots.all (λi=>match ρ[i]? with
 |some (some (.int a))=>eI a
 |_=>false)=true then .ex c h else .bad
theorem S5 {p1 p2:bp}{ps:List bp}{cond:St->Prop}{slots:List Nat}{fpos:Pos}(g:Good X G E k) (hg:Gl X x) (hm:X.mg x=some (.ref C)) (hns:qg X.K dm x=some (some (.ref C))) (hx:ou X.K C qW "ValueError.__new__" = true) (hc:C=G.cl c)
  (h:PTxs X (p1::p2::ps) cond) (hcond:∀σ,(∀i∈slots,∃a,σ[i]?=some (some (.int a))/\eI a=true)->cond σ) (hl:1000*(ps.length+2)<=cn:=by decide)
  (hd:(x==("__debug__" : Str))=false:=by decide) (he:au [.JoinedStr (p1::p2::ps) fpos] X.env=[(false,eval (.JoinedStr (p1::p2::ps) fpos) X.env)]:=by rfl):
  gM X G E (.Raise (some (.Call (.Name x np) [.JoinedStr (p1::p2::ps) fpos] [] cpos)) none pos) (zZ c slots):=λhK=>PS.imp (HE g hg hm hns hx (gY (S4 h hl) jN he) hd he rfl) λD σ H ⟨μ,ρ,hh,rs,s,o⟩=>by
 unfold zZ at o
 split at o
 ·rename_i ha;refine⟨hcond σ λi hi=>?_,λy=>⟨by show 1<=cn;decide,λe' H' sm z=>o μ H' (.ref e') (Ext.same sm) (s.same sm) (HF hc z)⟩⟩;have:=fi.mp ha i hi
  cases q:ρ[i]? with
  |none=>rw[q]at this;cases this
  |some o1=>
   cases o1 with
   |none=>rw[q]at this;cases this
   |some d=>
    cases d with
    |int a=>rw[q]at this;obtain⟨v,e1,r1⟩:=rs.at_ i _ q;rw[RelD]at r1;subst r1;exact⟨a,e1,this⟩
    |_=>rw[q]at this;cases this
 ·exact o.elim
end
open PySem PySem.Spec PyProof.Rows PySem.W
section
variable{prog:bj}{w:cq}{A:cu}{E:af->ag->Prop}{h:cw}{g:Array GenState}{d:Drawn}{t:Nat}{os:OsState}{a C:ah}{o:Obj}{K:Frag}
structure ExK (K:Frag) (C:ah):Prop where
 ga:findIn K (.ref C) "__getattribute__" = some (some (.builtin "BaseException.__getattribute__"))
 ng:findIn K (.ref C) "__getattr__" = some none
 cl:findIn K (.ref C) "__class__" = some (some (.builtin "object.__class__"))
 ob:mroIn K C (.type "object")=some true
 be:subIn K (.ref C) (.type "BaseException")=some true
 se:kitCls K (.ref C) (.ref C)=some true
 lk:∃oc od cd osl,K.lookup C=some ⟨oc,od,.cls cd,osl⟩
theorem kindGa:builtinKind "BaseException.__getattribute__" = some .slot/\splitId "BaseException.__getattribute__" = some ("BaseException","__getattribute__"):=by decide +kernel
theorem S6:(sr "BaseException.__getattribute__" == sr "object.__getattribute__")=false:=by decide +kernel
section
variable{R:xw->ag->Prop}{s:ag}
theorem S7 {M:vq}{n:af}{Q:Unit->ag->Prop}(X:K.In s.heap) (I:InstAt s.heap a o C none) (k:ExK K C) (hq:Q () s):wpAny M A (checkBuiltinCall "BaseException.__getattribute__" ⟨[.ref a,n],[]⟩) Q E s:=by
 have one:Looks M s.heap (isInstance (.ref a) (.type "BaseException")) true:=I.type.andThen (looks_subIn X k.be);have two:=F.args_bexc_ga (.ref a) n;obtain⟨hh,g,d,t,os⟩:=s;unfold checkBuiltinCall;rw[kindGa.1,kindGa.2];refine aa (one.at ?_)
 repeat (first|assumption|wp_step)
theorem S8 {n:Tok}(X:K.In s.heap) (I:InstAt s.heap a o C none) (k:ExK K C) (hq:R (.ok (.ret (.ref C))) s):codeAny (model prog w) A (.call (.builtin "BaseException.__getattribute__") ⟨[.ref a,.str "__class__" n],[]⟩) R s:=by
 refine uf F.excAttr_ValueError.ga.plain F.entry_bexc_ga (S7 X I k ?_);have own:=I.type (M:=model prog w);have entry:=looks_findIn (M:=model prog w) X k.cl;have of_get:=F.slot_gs_get.lookup;have of_set:=F.slot_gs_set.lookup;have kind:=F.typeOf_object_class;have kindIs:s.TypeIs (.builtin "object.__class__") "getset_descriptor" := kind;obtain⟨hh,g,d,t,os⟩:=s
 repeat (any_goals (first|assumption|with_reducible refine own.at ?_|with_reducible refine entry.at ?_|wp_step))
 exact class_get (s:=⟨hh,g,d,t,os⟩) X I k.ob (by repeat (any_goals (first|assumption|wp_step)))
end
theorem S9 {Q:Option af->ag->Prop}(X:K.In h) (I:InstAt h a o C none) (k:ExK K C) (hq:Q (some (.ref C)) ⟨h,g,d,t+1,os⟩):
  wpAny (model prog w) A (getAttr? (.ref a) "__class__") Q E ⟨h,g,d,t,os⟩:=by
 have own:=I.type (M:=model prog w);have first_:=looks_findIn (M:=model prog w) X k.ga;have then_:=looks_findIn (M:=model prog w) X k.ng;have bound:=F.excAttr_ValueError.ga.bind (.ref a);have other:=S6;have apart:(onTheHeap (gm C)&&sr "BaseException.__getattribute__" == sr "object.__getattribute__")=false:=by rw[other];rfl
 unfold getAttr? getAttrBy?
 repeat (any_goals (first|assumption|with_reducible refine own.at ?_|with_reducible refine first_.at ?_|with_reducible refine then_.at ?_|wp_step))
 exact S8 X I k (by repeat (any_goals (first|assumption|wp_step)))
def TB (a C:ah) (h:cw):Prop:=∃o,InstAt h a o C none
theorem TF (k:ExK K C):KitX K (.ref a) (.ref C) (TB a C) where
 ty:=λ_ _ _ ⟨_,I⟩=>I.type
 it:=λ_ _ X _=>(kit_cls X k.se).2.1
 ne:=λh tp dd its n sl X htp=>by
  cases z:(gm C==gm tp)with
  |false=>rfl
  |true=>
   obtain rfl:C=tp:=by simpa using z
   obtain⟨oc,od,cd,osl,lk⟩:=k.lk;have:=X _ _ lk;rw[htp]at this;simp at this
 ca:=λ{prog w A E Q s} X ⟨o,I⟩ hq=>by obtain⟨hh,g,d,t,os⟩:=s;exact S9 X I k hq
end
inductive Ty where
 |non|bl|int|str|tup|lst|dct|exc (c:Nat)
def gG:Dv->Hs->Option Ty
 | .non,_=>some .non
 | .bl _,_=>some .bl
 | .int _,_=>some .int
 | .str _,_=>some .str
 | .tup _,_=>some .tup
 | .ref i,h=>match getL h i with
  |some _=>some .lst
  |none=>none
 | .edc,_=>some .dct
 | .exc c,_=>some (.exc c)
 | .scr,_=>none
def kJ (cl:Nat->ah):Ty->af
 | .non=>.type "NoneType"
 | .bl=>.type "bool"
 | .int=>.type "int"
 | .str=>.type "str"
 | .tup=>.type "tuple"
 | .lst=>.type "list"
 | .dct=>.type "dict"
 | .exc c=>.ref (cl c)
def bE (f:Ty->Option Bool) (d:Dv) (h:Hs):Rs Dv:=match gG d h with
 |some ty=>match f ty with
  |some b=>.ok (.bl b) h
  |none=>.bad
 |none=>.bad
section
variable{X:Cx}{G:Cfg}{E:XK}{pins:List (ah×Obj)}{σ:St}{H:Hp}{s:ag}
theorem HJ {μ:Nat->ah}{h:Hs}{d:Dv}{v:V}{u:af}{ty:Ty}(I:Inv X pins σ H s) (sm:Sim G μ h H) (r:RelD G μ h.length H d v) (ru:RelV v u) (e:gG d h=some ty) (hex:∀c,ty=.exc c->ExK X.K (G.cl c)):
  ∃P,KitX X.K u (kJ G.cl ty) P/\P s.heap/\u≠.builtin "__main__.__loader__#opaque":=by
 cases d with
 |non=>cases e;rw[RelD]at r;subst r;cases ru;exact⟨_,kitx_none,trivial,λz=>nomatch z⟩
 |bl b=>cases e;rw[RelD]at r;subst r;cases ru;exact⟨_,kitx_bool,trivial,λz=>nomatch z⟩
 |int i=>cases e;rw[RelD]at r;subst r;obtain⟨t,rfl⟩:=ru;exact⟨_,kitx_int,trivial,λz=>nomatch z⟩
 |str i=>cases e;rw[RelD]at r;subst r;obtain⟨t,rfl⟩:=ru;exact⟨_,kitx_str,trivial,λz=>nomatch z⟩
 |tup ds=>
  cases e;obtain⟨a,vs,rfl,ea,_⟩:=r;cases ru;obtain⟨_,_,_,o,h1,h2,_⟩:=(show ObjOk X.prog X.w H s.heap a (.tup vs) from I.hok a _ ea)
  exact⟨_,kitx_tuple,⟨o,h1,h2⟩,λz=>nomatch z⟩
 |ref i=>
  dsimp only[gG]at e
  cases g:getL h i with
  |none=>rw[g]at e;cases e
  |some xs=>
   rw[g]at e;cases e;obtain⟨_,rfl⟩:=r;cases ru;obtain⟨vs,ea,_⟩:=sm.ob i _ (cX g);obtain⟨_,_,n,_,h1⟩:=(show ObjOk X.prog X.w H s.heap (μ i) (.lst vs) from I.hok _ _ ea)
   exact⟨_,kitx_list,⟨_,h1,rfl⟩,λz=>nomatch z⟩
 |edc=>
  cases e;obtain⟨a,rfl,ea⟩:=r;cases ru;obtain⟨_,_,vs,_,p⟩:=(show ObjOk X.prog X.w H s.heap a (.dK []) from I.hok a _ ea)
  obtain⟨o,es,ep,h1,h2,_⟩:=p;exact⟨_,kitx_dict,⟨o,h1,h2.1⟩,λz=>nomatch z⟩
 |exc c=>
  cases e;obtain⟨a,o,uo,rfl,ea,hc,hdn,vs,hd⟩:=r;cases ru;obtain⟨h1,_⟩:=(show ObjOk X.prog X.w H s.heap a (.frz o uo) from I.hok a _ ea)
  refine⟨_,TF (hex c rfl),⟨o,h1,hc, ?_, ?_⟩,λz=>nomatch z⟩
  ·unfold notCls;rw[hd]
  ·rw[hdn];trivial
 |scr=>cases e
end
section
variable{X:Cx}{G:Cfg}{E:XK}{a b:bp}{ma:M Dv}{p pos:Pos}{f:Ty->Option Bool}
theorem HK:dh "isinstance" = some (.builtin "isinstance"):=by decide +kernel
def HL (G:Cfg) (f:Ty->Option Bool) (c:V):List V->Hp->VK->Prop:=λxs H Q=>∃μ h d v ty bb,xs=[v,c]/\Sim G μ h H/\RelD G μ h.length H d v/\gG d h=some ty/\f ty=some bb/\Q (.bl bb) H
theorem TH {c:V}{u:af}(hc:(∃T,c=.ty T)∨∃C,c=.ref C) (rc:RelV c u) (hf:∀ty bb,f ty=some bb->kitOne X.K (kJ G.cl ty) u=some bb) (hex:∀c bb,f (.exc c)=some bb->ExK X.K (G.cl c)):CallR X (.builtin "isinstance") (HL G f c):=by
 intro pins s σ H xs us Q I rv ⟨μ,h,d,v,ty,bb,e1,sm,r,et,ef,q⟩;subst e1;obtain⟨u1,u2,rfl,r1,r2⟩:=qB rv;have e2:u2=u:=by rcases hc with⟨T,rfl⟩|⟨C,rfl⟩ <;> (cases rc;cases r2;rfl)
 subst e2;obtain⟨P,Z,hP,hne⟩:=HJ I sm r r1 et (λc z=>by subst z;exact hex c bb ef);exact kia_one Z I.kIn hP (hf ty bb ef) hne λtk=>⟨.bl bb,H,I.tok _,rfl,q⟩
theorem nG {x:Str}{T:String}(hg:Gl X x) (hm:X.mg x=none) (hv:dh x=some (.type T)) (hn:x ≠ "__name__" := by decide) (hd:(x==("__debug__" : Str))=false:=by decide):PE X (.Name x pos) (tC (.ty T)):=λpins s σ H Q I h=>mS I hg hm hv ⟨.ty T,H,I,rfl,h⟩ hn hd
theorem oW {c:V}{u:af}(hg:Gl X "isinstance") (hm:X.mg "isinstance" = none) (ha:aH X G E a ma) (hb:PE X b (tC c)) (hc:(∃T,c=.ty T)∨∃C,c=.ref C) (rc:RelV c u)
  (hf:∀ty bb,f ty=some bb->kitOne G.K (kJ G.cl ty) u=some bb) (hex:∀c bb,f (.exc c)=some bb->ExK G.K (G.cl c))
  (he:au [a,b] X.env=[(false,eval a X.env),(false,eval b X.env)]:=by rfl) (he2:au [b] X.env=[(false,eval b X.env)]:=by rfl):
  aH X G E (.Call (.Name "isinstance" p) [a,b] [] pos) (m1 (bE f) ma):=λhK=>
 PE.imp (qD (TH (G:=G) (f:=f) hc rc (by rw[hK];exact hf) (by rw[hK];exact hex)) hg hm HK (gY (ha hK) (gY hb jN he2) (by rw[he,he2])) (by decide) (by decide) (by rw[he,he2]) (by rw[he2];rfl))
  λσ H Q ⟨μ,ρ,h,rs,s,o⟩=>eS rs s o λμ1 d h1 v H1 x1 rs1 s1 r1 o1=>by
   show HL G f c [v,c] H1 Q;unfold bE at o1
   cases q:gG d h1 with
   |none=>rw[q]at o1;exact o1.elim
   |some ty=>
    rw[q]at o1;dsimp only at o1
    cases q2:f ty with
    |none=>rw[q2]at o1;exact o1.elim
    |some bb=>rw[q2]at o1;exact⟨μ1,h1,d,v,ty,bb,rfl,s1,r1,q,q2,o1.val s1 rfl⟩
def HM (G:Cfg) (f:Ty->Option Bool) (cs:List V):List V->Hp->VK->Prop:=λxs H Q=>∃μ h d v ty bb tp,xs=[v,.ref tp]/\H tp=some (.tup cs)/\Sim G μ h H/\RelD G μ h.length H d v/\gG d h=some ty/\f ty=some bb/\Q (.bl bb) H
theorem TJ {cs:List V}{us:List af}(hcs:∀us',Vals cs us'->us'=us) (hf:∀ty bb,f ty=some bb->kitAny X.K (kJ G.cl ty) us=some bb) (hex:∀c bb,f (.exc c)=some bb->ExK X.K (G.cl c)):CallR X (.builtin "isinstance") (HM G f cs):=by
 intro pins s σ H xs uu Q I rv ⟨μ,h,d,v,ty,bb,tp,e1,etp,sm,r,et,ef,q⟩;subst e1;obtain⟨u1,u2,rfl,r1,r2⟩:=qB rv;cases r2;obtain⟨_,its,rits,o,h1,h2,_,n,h3⟩:=(show ObjOk X.prog X.w H s.heap tp (.tup cs) from I.hok tp _ etp)
 have eits:=hcs its rits;subst eits;obtain⟨oc,od,odata,osl⟩:=o
 cases h2;cases h3
 obtain⟨P,Z,hP,hne⟩:=HJ I sm r r1 et (λc z=>by subst z;exact hex c bb ef);exact kia_tup Z I.kIn hP h1 (hf ty bb ef) hne λtk=>⟨.bl bb,H,I.tok _,rfl,q⟩
theorem TL {cs:List V}{us:List af}{bs:List bp}{kt:Nat}{tpos:Pos}(hg:Gl X "isinstance") (hm:X.mg "isinstance" = none) (ha:aH X G E a ma) (hb:PA X bs (λ_ H Q=>Q cs H)) (hl:cs.length<=cn) (hcs:∀us',Vals cs us'->us'=us)
  (hf:∀ty bb,f ty=some bb->kitAny G.K (kJ G.cl ty) us=some bb) (hex:∀c bb,f (.exc c)=some bb->ExK G.K (G.cl c))
  (he:au [a,.Tuple bs kt tpos] X.env=[(false,eval a X.env),(false,eval (.Tuple bs kt tpos) X.env)]:=by rfl) (he2:au [.Tuple bs kt tpos] X.env=[(false,eval (.Tuple bs kt tpos) X.env)]:=by rfl):
  aH X G E (.Call (.Name "isinstance" p) [a,.Tuple bs kt tpos] [] pos) (m1 (bE f) ma):=λhK=>
 PE.imp (qD (TJ (G:=G) (f:=f) hcs (by rw[hK];exact hf) (by rw[hK];exact hex)) hg hm HK (gY (ha hK) (gY (E6 hb) jN he2) (by rw[he,he2])) (by decide) (by decide) (by rw[he,he2]) (by rw[he2];rfl))
  λσ H Q ⟨μ,ρ,h,rs,s,o⟩=>eS rs s o λμ1 d h1 v H1 x1 rs1 s1 r1 o1=>by
   refine⟨hl,λtp htp=>?_⟩;show HM G f cs [v,.ref tp] (aM H1 tp (.tup cs)) Q;unfold bE at o1
   cases q:gG d h1 with
   |none=>rw[q]at o1;exact o1.elim
   |some ty=>
    rw[q]at o1;dsimp only at o1
    cases q2:f ty with
    |none=>rw[q2]at o1;exact o1.elim
    |some bb=>rw[q2]at o1;have x2:Ext μ1 h1.length H1 μ1 h1.length (aM H1 tp (.tup cs)):=Ext.same (cJ htp);exact⟨μ1,h1,d,v,ty,bb,tp,rfl,bT,s1.same (cJ htp),RelD.mono x2 _ _ r1,q,q2,o1 μ1 _ _ x2 (s1.same (cJ htp)) rfl⟩
end
def lU:Dv->Option Bool
 | .bl b=>some b
 |_=>none
theorem AA {G:Cfg}{μ:Nat->ah}{n:Nat}{H:Hp}:∀{xs:List Dv}{vs:List V}{bs:List Bool},RelDL G μ n H xs vs->bQ lU xs=some bs->vs=bs.map V.bl
 | [],vs,bs,r,e=>by cases e;rw[RelDL]at r;exact r
 |x::xs,vs,bs,r,e=>by
  rw[RelDL]at r;obtain⟨v,rr,rfl,r1,r2⟩:=r;unfold bQ at e
  cases x with
  |bl b=>
   dsimp only[lU]at e
   cases q:bQ lU xs with
   |none=>rw[q]at e;cases e
   |some zs=>rw[q]at e;cases e;rw[RelD]at r1;subst r1;rw[AA r2 q];rfl
  |_=>cases e
section
variable{X:Cx}{pins:List (ah×Obj)}{σ:St}{H:Hp}{s:ag}
theorem TM (bs:List Bool):(bf bs.length).all (λi=>bs.getD i false)=bs.all id:=by
 rw[gy,fi,fi];constructor
 ·intro h b hb;obtain⟨i,hi,rfl⟩:=iq.mp hb;simpa[ki,hi]using h i (bw.mpr hi)
 ·intro h i hi;have hi:=bw.mp hi;simpa[ki,hi]using h _ (ib hi)
theorem TN (bs:List Bool):(bf bs.length).any (λi=>bs.getD i false)=bs.any id:=by
 rw[gy,qi,qi];constructor
 ·rintro ⟨i,hi,h⟩
  have hi:=bw.mp hi;exact⟨bs[i],ib hi,by simpa[ki,hi]using h⟩
 ·rintro ⟨b,hb,h⟩
  obtain⟨i,hi,rfl⟩:=iq.mp hb;exact⟨i,bw.mpr hi,by simpa[ki,hi]using h⟩
theorem TQ {bs:List Bool}{its:List af}(rv:Vals (bs.map V.bl) its) {i:Nat}{v:af}(e:its.toArray[i]?=some v):v=.bool (bs.getD i false):=by
 have hl:=rv.length;rw[br]at hl;have e':its[i]?=some v:=by simpa using e
 have hi:i<its.length:=(az.mp e').1;have hb:i<bs.length:=by omega
 obtain⟨u,e2,r⟩:=rv.get (i:=i) (x:=V.bl bs[i]) (by simp[hb]);rw[e']at e2;cases e2;have hg:bs.getD i false=bs[i]:=by simp[ki,hb]
 rw[hg];exact r
theorem HN {bs:List Bool}{its:List af}{A:cu}(rv:Vals (bs.map V.bl) its):TruthOf X.prog X.w A (λi v=>its.toArray[i]?=some v) (λi=>bs.getD i false):=by intro i v s Q E e q;rw[TQ rv e];exact kg q
theorem vA {o:Obj}{h':cw}{tk:Nat}(I:Inv X pins σ H s) (k:∀b u,b∉[s.heap.objs.size]->(s.heap.push o).get? b=some u->h'.get? b=some u):Inv X pins σ H { s with heap:=h',toks:=tk }:=by have I1:Inv X pins σ H { s with heap:=s.heap.push o }:=I.kept (t':=s.toks) λb u e=>aj _ e;obtain⟨f0,f1,f2,f3,f4,f5⟩:=I.fpOk (ak s.heap.objs.size) I.fresh;exact I1.turned (t':=tk) (λb u hb e=>k b u (by simpa using hb) e) f0 f1 f3 f4 f5
theorem TR (hc:X.calm=true):CallR X (.builtin "all") (λxs H Q=>∃(p:ah) (bs:List Bool),xs=[.ref p]/\H p=some (.lst (bs.map V.bl))/\Q (.bl (bs.all id)) H):=by
 intro pins s σ H xs us Q I rv ⟨p,bs,e,hp,q⟩;subst e;obtain⟨u,rfl,ru⟩:=iE rv;cases ru;obtain⟨its,rits,pl,hz⟩:=I.list (SqL.of hp);have hn:its.toArray.size=bs.length:=by have:=rits.length;simp at this ⊢;omega
 have ne:p≠s.heap.objs.size:=bc (I.hok.lt hp);refine call_all_walk (kh pl.isList ⟨_,_,_,_,_,_,λi=>bs.getD i false,rfl,tw (A:=X.A.in1) (show X.A.in1.handled=none from I.ok.hd hc) _ p ne its.toArray,⟨⟨_,ay _ rfl,rfl,rfl⟩,pl.isList.push _⟩,HN rits,λh' tk k=>?_⟩);rw[hn,TM];exact⟨.bl _,H,(vA (tk:=tk) I k:Inv X pins σ H { s with heap:=h',toks:=tk }),rfl,q⟩
theorem TU (hc:X.calm=true):CallR X (.builtin "any") (λxs H Q=>∃(p:ah) (bs:List Bool),xs=[.ref p]/\H p=some (.lst (bs.map V.bl))/\Q (.bl (bs.any id)) H):=by
 intro pins s σ H xs us Q I rv ⟨p,bs,e,hp,q⟩;subst e;obtain⟨u,rfl,ru⟩:=iE rv;cases ru;obtain⟨its,rits,pl,hz⟩:=I.list (SqL.of hp);have hn:its.toArray.size=bs.length:=by have:=rits.length;simp at this ⊢;omega
 have ne:p≠s.heap.objs.size:=bc (I.hok.lt hp);refine call_any_walk (kh pl.isList ⟨_,_,_,_,_,_,λi=>bs.getD i false,rfl,tw (A:=X.A.in1) (show X.A.in1.handled=none from I.ok.hd hc) _ p ne its.toArray,⟨⟨_,ay _ rfl,rfl,rfl⟩,pl.isList.push _⟩,HN rits,λh' tk k=>?_⟩);rw[hn,TN];exact⟨.bl _,H,(vA (tk:=tk) I k:Inv X pins σ H { s with heap:=h',toks:=tk }),rfl,q⟩
end
section
variable{X:Cx}{G:Cfg}{E:XK}{e:bp}{ml:M (List Dv)}{x:Str}{p pos:Pos}{bid T:String}
def mL (f:List Dv->Hs->Rs Dv) (ml:M (List Dv)):M Dv:=λρ h=>(ml ρ h).bind f
def HP (G:Cfg) (r:List V->Hp->VK->Prop) (f:List Dv->Hs->Rs Dv):Prop:=∀(E:XK) (μ:Nat->ah) (h:Hs) (H:Hp) (xs:List Dv) (a:ah) (vs:List V) (Q:VK),Sim G μ h H->H a=some (.lst vs)->RelDL G μ h.length H xs vs->Out G E μ h.length H (f xs h) (RelD G) Q->r [.ref a] H Q
theorem TV {r:List V->Hp->VK->Prop}{f:List Dv->Hs->Rs Dv}(hd:HP G r f) {σ:St}{H:Hp}{Q:VK}(t:fO G E (mL f ml) σ H Q):tX r (E5 (qT G E ml) E4) σ H Q:=by obtain⟨μ,ρ,h,rs,s,o⟩:=t;refine⟨μ,ρ,h,rs,s,(o.bind (R1:=RL G)).mono λv H1 ⟨μ1,xs,h1,x1,s1,⟨a,vs,ev,ea,_,r1⟩,o1⟩=>?_⟩;subst ev;exact hd E μ1 h1 H1 xs a vs Q s1 ea r1 o1
theorem HQ {r:List V->Hp->VK->Prop}{f:List Dv->Hs->Rs Dv}(hc:CallR X (.builtin bid) r) (hd:HP G r f) (hg:Gl X x) (hm:X.mg x=none) (hv:dh x=some (.builtin bid)) (ha:nB X G E e ml) (hn:x ≠ "__name__" := by decide) (hdb:(x==("__debug__" : Str))=false:=by decide)
  (he:au [e] X.env=[(false,eval e X.env)]:=by rfl):aH X G E (.Call (.Name x p) [e] [] pos) (mL f ml):=λhK=>
 PE.imp (qD hc hg hm hv (gY (ha hK) jN he) hn hdb he rfl) λ_ _ _ t=>TV hd t
theorem TX:dh "all" = some (.builtin "all"):=by decide +kernel
theorem TY:dh "any" = some (.builtin "any"):=by decide +kernel
def jR (xs:List Dv) (h:Hs):Rs Dv:=match bQ lU xs with
 |some bs=>.ok (.bl (bs.all id)) h
 |none=>.bad
def qX (xs:List Dv) (h:Hs):Rs Dv:=match bQ lU xs with
 |some bs=>.ok (.bl (bs.any id)) h
 |none=>.bad
theorem qY (hc:X.calm=true) (hg:Gl X "all") (hm:X.mg "all" = none) (ha:nB X G E e ml) (he:au [e] X.env=[(false,eval e X.env)]:=by rfl):aH X G E (.Call (.Name "all" p) [e] [] pos) (mL jR ml):=
 HQ (TR hc) (λE μ h H xs a vs Q s ea r o=>by
  unfold jR at o
  cases q:bQ lU xs with
  |none=>rw[q]at o;exact o.elim
  |some bs=>rw[q]at o;exact⟨a,bs,rfl,by rw[ea,AA r q],o.val s rfl⟩) hg hm TX ha (by decide) (by decide) he
theorem TZ (hc:X.calm=true) (hg:Gl X "any") (hm:X.mg "any" = none) (ha:nB X G E e ml) (he:au [e] X.env=[(false,eval e X.env)]:=by rfl):aH X G E (.Call (.Name "any" p) [e] [] pos) (mL qX ml):=
 HQ (TU hc) (λE μ h H xs a vs Q s ea r o=>by
  unfold qX at o
  cases q:bQ lU xs with
  |none=>rw[q]at o;exact o.elim
  |some bs=>rw[q]at o;exact⟨a,bs,rfl,by rw[ea,AA r q],o.val s rfl⟩) hg hm TY ha (by decide) (by decide) he
end
section
variable{X:Cx}{G:Cfg}{E:XK}{o e i:bp}{mo me mi:M Dv}{ml:M (List Dv)}{pos apos cpos:Pos}
theorem T3 {H:Hp}{a:ah}{vs:List V}(e:H a=some (.lst vs)):tZ X.K "list" (.ref a) H:=.inl ⟨rfl,vs,SqL.of e⟩
def lV (o d:Dv) (h:Hs):Rs Dv:=match o with
 | .ref j=>match getL h j with
  |some xs=>if xs.length<1000000 then .ok .non (h.set j (.lst (xs++[d])))else .bad
  |none=>.bad
 |_=>.bad
def jS (o:Dv) (h:Hs):Bool:=match o with
 | .ref j=>(getL h j).isSome
 |_=>false
def iJ (mo me:M Dv):M Dv:=λρ h=>(mo ρ h).bind λx h1=>if jS x h1=true then(me ρ h1).bind λd h2=>lV x d h2 else .bad
theorem HR {μ:Nat->ah}{h:Hs}{H:Hp}{x:Dv}{v:V}(s:Sim G μ h H) (r:RelD G μ h.length H x v) (e:jS x h=true):tZ X.K "list" v H:=by
 cases x with
 |ref j=>obtain⟨xs,q⟩:=wm.mp (show(getL h j).isSome=true from e);obtain⟨vs,ea,_⟩:=s.ob j _ (cX q);obtain⟨_,rfl⟩:=r;exact T3 ea
 |_=>cases e
theorem vB {y:Str}{np:Pos}(ho:aH X G E (.Name y np) mo) (he:aH X G E e me) (hs:au [e] X.env=[(false,eval e X.env)]:=by rfl) (hl:(apos.endLine==cpos.line)=true:=by rfl):aH X G E (.Call (.Attribute (.Name y np) "append" apos) [e] [] cpos) (iJ mo me):=λhK=>
 PE.imp (FT xm PySem.F.slot_list_append PySem.F.type_list_append RJ (ho hK) (gY (he hK) jN hs) rfl (by rw[hs];rfl) hl hs rfl) λσ H Q ⟨μ,ρ,h,rs,s,oo⟩=>eS rs s oo λμ1 x h1 vx H1 x1 rs1 s1 r1 o1=>by
  split at o1
  ·rename_i hl;refine⟨HR s1 r1 hl,eS rs1 s1 o1 λμ2 d h2 vd H2 x2 rs2 s2 r2 o2=>?_⟩
   cases x with
   |ref j=>
    dsimp only[lV]at o2
    cases q:getL h2 j with
    |none=>rw[q]at o2;exact o2.elim
    |some xs=>
     rw[q]at o2;dsimp only at o2
     split at o2
     ·rename_i hz;obtain⟨vs,ea,ra⟩:=s2.ob j _ (cX q);obtain⟨_,rfl⟩:=RelD.mono x2 _ _ r1;obtain⟨x3,s3⟩:=s2.write (cX q) (ra.append (RelDL.cons r2 RelDL.nil));exact⟨_,vs,vd,rfl,rfl,ea,by rw[ra.length];exact ar hz (by decide),o2 μ2 _ _ x3 s3 rfl⟩
     ·exact o2.elim
   |_=>exact o2.elim
  ·exact o1.elim
end
section
variable{X:Cx}{G:Cfg}{E:XK}{e i:bp}{mo me mi:M Dv}{ml:M (List Dv)}{pos apos cpos np:Pos}{y:Str}
def qZ (o i d:Dv) (h:Hs):Option Hs:=match o,i with
 | .ref j,.int k=>match getL h j with
  |some xs=>match dM xs.length k with
   |some n=>some (h.set j (.lst (xs.set n d)))
   |none=>none
  |none=>none
 |_,_=>none
def iK (mo mi me:M Dv):MS:=λρ h=>(me ρ h).thenS λd h1=>(mo ρ h1).thenS λo h2=>(mi ρ h2).thenS λi h3=>match qZ o i d h3 with
 |some h4=>.nx ρ h4
 |none=>.bad
theorem rA {o:bp}{spos:Pos}(ho:aH X G E o mo) (hi:aH X G E i mi) (he:aH X G E e me)
  (ha:∀v,assign (.Subscript o i spos) X.env v=(do
   let ov <-holding [v] (eval o X.env)
   let iv <-holding [v,ov] (eval i X.env)
   standAt spos
   holding [v,ov,iv] (setItem ov iv v)
   release [v,ov,iv] []):=by intro _;rfl)
  (hs:swapsWithSole [.Subscript o i spos] e pos.line X.env=pure false:=by rfl) (hw:swappedStores [.Subscript o i spos] e X.env=pure none:=by rfl)
  (h1:(assignEach [.Subscript o i spos] X.env).map (·.2)=[assign (.Subscript o i spos) X.env]:=by rfl):gM X G E (.Assign [.Subscript o i spos] e pos) (iK mo mi me):=λhK=>
 PS.imp (ES (he hK) (OX (ho hK) (hi hK) Q7 ha) hs hw h1) λD σ H ⟨μ,ρ,h,rs,s,oo⟩=>kY rs s oo λμ1 d h1 v H1 x1 rs1 s1 r1 o1=>kY rs1 s1 o1 λμ2 ob h2 vo H2 x2 rs2 s2 r2 o2=>kY rs2 s2 o2 λμ3 ix h3 vi H3 x3 rs3 s3 r3 o3=>by
  cases ob with
  |ref j=>
   cases ix with
   |int k=>
    dsimp only[qZ]at o3
    cases q:getL h3 j with
    |none=>rw[q]at o3;exact o3.elim
    |some xs=>
     rw[q]at o3;dsimp only at o3
     cases q2:dM xs.length k with
     |none=>rw[q2]at o3;exact o3.elim
     |some n=>rw[q2]at o3;obtain⟨vs,ea,ra⟩:=s3.ob j _ (cX q);obtain⟨_,rfl⟩:=RelD.mono x3 _ _ r2;rw[RelD]at r3;subst r3;obtain⟨x4,s4⟩:=s3.write (cX q) (RelDL.set (RelD.mono (x2.trans x3) _ _ r1) n ra);exact⟨_,vs,k,n,rfl,rfl,ea,by rw[ra.length];exact q2,o3 μ3 _ σ x4 s4 (rs3.mono x4)⟩
   |_=>exact o3.elim
  |_=>cases ix <;> exact o3.elim
end
section
variable{prog:bj}{w:cq}{A:cu}{E:af->ag->Prop}{s:ag}
theorem T4 {it t:ah}{i:Nat}{items:Array af}{x:af}{Q:af->ag->Prop}(hit:s.heap.IsTupleIter it t i) (ht:s.heap.IsTuple t items) (hx:items[i]?=some x)
  (k:∀h',h'.IsTupleIter it t (i+1)->fv it s.heap h'->Q x { s with heap:=h' }):wpAny (model prog w) A (fe (.ref it)) Q E s:=by
 obtain⟨o,ho,hc,hd⟩:=id hit;obtain⟨ol,hol,hcl,nl,hdl⟩:=id ht;refine aa (gg (name:=km "__next__") hit.typeIs F.slot_tuple_iterator_next (gk F.slot_tuple_iterator_next hit.typeIs F.entry_tuple_iterator_next ?_ (F.args_tuple_iterator_next_1 _)));have q0:∀{Q':af->ag->Prop}{E':af->ag->Prop}{B:cu},Q' (.ref t) s->wpAny (model prog w) B (field (.ref it) 0) Q' E' s:=λq=>di ho hd (x:=.ref t) rfl q;have q1:∀{Q':af->ag->Prop}{E':af->ag->Prop}{B:cu},Q' (.int i 0) s->wpAny (model prog w) B (field (.ref it) 1) Q' E' s:=λq=>di ho hd (x:=.int i 0) rfl q;refine aa (ai (aa (q0 ?_)));dsimp only;rw[if_neg (by simp)];refine aa (q1 (aa (ja hol hdl ?_)));rw[show((i:Int)).toNat=i from ey i];dsimp only;rw[hx];refine aa (Aj ho hd (by simp) (ai ⟨x,rfl,ai (k _ ⟨_,mf _ ho (As (ue hd _)), ?_, ?_⟩ (lx ..))⟩))
 ·rw[Obj.cls_mapFields];exact hc
 ·rw[ue hd];simp[rawInt]
end
section
variable{prog:bj}{w:cq}{A:cu}{E:af->ag->Prop}{s:ag}
theorem T5 {α:Type}{Q:α->ag->Prop}(hh:A.handled=none) (k:∀h' e,(∀b o,s.heap.get? b=some o->h'.get? b=some o)->(∃o,h'.get? e=some o/\o.cls=.type "StopIteration")->E (.ref e) { s with heap:=h' }):
  wpAny (model prog w) A (qc:Sem α) Q E s:=by
 have e0:firstArgMember (.type "StopIteration") []=pure je:=by show(pure (if _ then je else je):Sem af)=_;rw[ite_self]
 unfold qc newExc newTuple;refine aa (aa (fg (aa (ze e0 (fg (wpAny_raiseNew_none hh (k _ _ (λb o q=>aj _ (aj _ q)) ⟨_,ay _ rfl,rfl⟩)) (by size_fits)))) (by size_fits)))
theorem T6 {it t:ah}{i:Nat}{items:Array af}{Q:af->ag->Prop}(hh:A.handled=none) (hit:s.heap.IsTupleIter it t i) (ht:s.heap.IsTuple t items) (hx:items[i]?=none)
  (k:∀h' e,Au it s.heap h'->(∃o,h'.get? e=some o/\o.cls=.type "StopIteration")->E (.ref e) { s with heap:=h' }):wpAny (model prog w) A (fe (.ref it)) Q E s:=by
 obtain⟨o,ho,hc,hd⟩:=id hit;obtain⟨ol,hol,hcl,nl,hdl⟩:=id ht;refine aa (gg (name:=km "__next__") hit.typeIs F.slot_tuple_iterator_next (gk F.slot_tuple_iterator_next hit.typeIs F.entry_tuple_iterator_next ?_ (F.args_tuple_iterator_next_1 _)));have q0:∀{Q':af->ag->Prop}{E':af->ag->Prop}{B:cu},Q' (.ref t) s->wpAny (model prog w) B (field (.ref it) 0) Q' E' s:=λq=>di ho hd (x:=.ref t) rfl q;have q1:∀{Q':af->ag->Prop}{E':af->ag->Prop}{B:cu},Q' (.int i 0) s->wpAny (model prog w) B (field (.ref it) 1) Q' E' s:=λq=>di ho hd (x:=.int i 0) rfl q;refine aa (ai (aa (q0 ?_)));dsimp only;rw[if_neg (by simp)];refine aa (q1 (aa (ja hol hdl ?_)));rw[show((i:Int)).toNat=i from ey i];dsimp only;rw[hx];refine aa (si (aa (Aj ho hd (by simp) (T5 (show A.in1.handled=none from hh) λh' e kp st=>k h' e (λb u hb q=>kp b u ?_) st))));rw[lh _ _ (cy hb)];exact q
end
structure Draws (prog:bj) (w:cq) (it src:ah) (xs:List af) (st:Nat->cw->Prop):Prop where
 keep:∀i h h',st i h->(∀b o,b=it∨b=src->h.get? b=some o->h'.get? b=some o)->st i h'
 there:∀i h,st i h->∃o vs,h.get? it=some o/\o.data=.fields vs
 item:∀(A:cu) (i:Nat) (x:af) (s:ag) (Q:af->ag->Prop) (E:af->ag->Prop),xs[i]?=some x->st i s.heap->
  (∀h',st (i+1) h'->fv it s.heap h'->Q x { s with heap:=h' })->wpAny (model prog w) A (fe (.ref it)) Q E s
 done:∀(A:cu) (i:Nat) (s:ag) (Q:af->ag->Prop) (E:af->ag->Prop),A.handled=none->xs[i]?=none->st i s.heap->
  (∀h' e,Au it s.heap h'->(∃o,h'.get? e=some o/\o.cls=.type "StopIteration")->E (.ref e) { s with heap:=h' })->wpAny (model prog w) A (fe (.ref it)) Q E s
structure Four (z TI TO i j u v:ah):Prop where
 a:z≠TO
 b:z≠i
 c:z≠j
 d:TO≠i
 e:TO≠j
 f:i≠j
 g:TI≠z
 h:TI≠TO
 k:TI≠i
 l:TI≠j
 u1:u≠z
 u2:u≠TO
 u3:u≠i
 u4:u≠j
 v1:v≠z
 v2:v≠TO
 v3:v≠i
 v4:v≠j
theorem gH {b x y c:ah}(h:b=x∨b=y) (p:x≠c) (q:y≠c):b≠c:=by
 rcases h with h|h
 ·rw[h];exact p
 ·rw[h];exact q
def vC (z TO i j:ah) (h h':cw):Prop:=∀b o,b≠z->b≠TO->b≠i->b≠j->h.get? b=some o->h'.get? b=some o
section
variable{prog:bj}{w:cq}{A:cu}{E:af->ag->Prop}{s:ag}{z TI TO i j u v:ah}{xs ys:List af}{st su:Nat->cw->Prop}
theorem T7 {n:Nat}{x y a b:af}{Q:af->ag->Prop}(F4:Four z TI TO i j u v) (P:Draws prog w i u xs st) (R:Draws prog w j v ys su) (hz:zl s.heap z TI TO .none) (hTI:my s.heap TI (.ref i) (.ref j)) (hTO:my s.heap TO a b)
  (p:st n s.heap) (r:su n s.heap) (hx:xs[n]?=some x) (hy:ys[n]?=some y)
  (k:∀h' T,s.heap.objs.size<=T->zl h' z TI TO (rawInt T)->my h' TI (.ref i) (.ref j)->my h' TO x y->st (n+1) h'->su (n+1) h'->my h' T x y->vC z TO i j s.heap h'->Q (.ref T) { s with heap:=h' }):
  wpAny (model prog w) A (lg.«zip.__next__» ⟨[.ref z],[]⟩) (λfin s'=>∃v,fin=.done (.ret v)/\Q v s') E s:=by
 refine aa (ai (aa (di hz rfl (x:=.bool false) rfl (aa (di hz rfl (x:=.ref TI) rfl (aa (ja hTI rfl ?_)))))));have fr:∀{Q':Bool->ag->Prop}{E':af->ag->Prop},Q' true s->wpAny (model prog w) A (ow (.ref z)) Q' E' s:=λq=>aa (di hz rfl (x:=.none) rfl (ai q));refine aa (fr ?_);rw[if_pos rfl];refine aa (si (aa (di hz rfl (x:=.ref TO) rfl (aa (iw hz (by simp) λg1 z1 b1=>?_)))));have z1':zl g1 z TI TO .ellipsis:=z1;refine aa ?_;show wpAny _ _ (forIn [(gm i,0),(gm j,1)] _ _) _ _ _;rw[nq];refine aa (aa (qz ?_));show wpAny _ _ (fe (.ref i) >>= _) _ _ _;refine aa (P.item A n x _ _ _ hx (P.keep n _ _ p λb o hb q=>b1.extBut _ _ (gH hb (cy F4.b) F4.u1) q) λg2 p2 b2=>ai ?_);have t2:my g2 TO a b:=b2.extBut _ _ F4.d (b1.extBut _ _ (cy F4.a) hTO);refine aa (ja t2 rfl (aa (ug t2 λg3 t3 b3=>aa (wpAny_letGo (ai ?_)))));have t3':my g3 TO x b:=t3;dsimp only;rw[nq];refine aa (aa (qz ?_));show wpAny _ _ (fe (.ref j) >>= _) _ _ _;have r3:su n g3:=R.keep n _ _ r λb o hb q=>b3.extBut _ _ (gH hb (cy F4.e) F4.v2) (b2.extBut _ _ (gH hb (cy F4.f) F4.v3) (b1.extBut _ _ (gH hb (cy F4.c) F4.v1) q));refine aa (R.item A n y _ _ _ hy r3 λg4 r4 b4=>ai ?_);have t4:my g4 TO x b:=b4.extBut _ _ F4.e t3';refine aa (ja t4 rfl (aa (ug t4 λg5 t5 b5=>aa (wpAny_letGo (ai ?_)))));have t5':my g5 TO x y:=t5;dsimp only;rw[List.forIn_nil];refine ai ?_;refine aa (ja t5' rfl (aa (wpAny_newTuple ?_)));have z5:zl g5 z TI TO .ellipsis:=b5.extBut _ _ F4.a (b4.extBut _ _ F4.c (b3.extBut _ _ F4.a (b2.extBut _ _ F4.b z1')));have sz:g5.objs.size=s.heap.objs.size:=by rw[b5.1,b4.1,b3.1,b2.1,b1.1]
 have all5:vC z TO i j s.heap g5:=λc o c1 c2 c3 c4 q=>b5.extBut _ _ c2 (b4.extBut _ _ c4 (b3.extBut _ _ c2 (b2.extBut _ _ c3 (b1.extBut _ _ c1 q))));have p5:st (n+1) g5:=P.keep _ _ _ p2 λb o hb q=>b5.extBut _ _ (gH hb (cy F4.d) F4.u2) (b4.extBut _ _ (gH hb F4.f F4.u4) (b3.extBut _ _ (gH hb (cy F4.d) F4.u2) q));have r5:su (n+1) g5:=R.keep _ _ _ r4 λb o hb q=>b5.extBut _ _ (gH hb (cy F4.e) F4.v2) q;generalize hob:({ cls:=.type "tuple",dict:=none,data:=.seq [x,y].toArray }:Obj)=ob;have zp:zl (g5.push ob) z TI TO .ellipsis:=aj _ z5;refine aa (aa (iw zp (by simp) λg7 z7 b7=>?_));have z7':zl g7 z TI TO (rawInt g5.objs.size):=z7;refine iw z7' (by simp) λg8 z8 b8=>ai ⟨_,rfl, ?_⟩;have up:∀c o,c≠z->g5.get? c=some o->g8.get? c=some o:=λc o c1 q=>b8.extBut _ _ c1 (b7.extBut _ _ c1 (aj _ q));have lz:z<g5.objs.size:=ao z5;have T8:my g8 g5.objs.size x y:=b8.extBut _ _ (ig lz) (b7.extBut _ _ (ig lz) (by rw[<-hob];exact ay _ rfl));refine k g8 g5.objs.size (lr sz.symm) z8 (up _ _ F4.g (all5 _ _ F4.g F4.h F4.k F4.l hTI)) (up _ _ (cy F4.a) t5') (P.keep _ _ _ p5 λb o hb q=>up _ _ (gH hb (cy F4.b) F4.u1) q) (R.keep _ _ _ r5 λb o hb q=>up _ _ (gH hb (cy F4.c) F4.v1) q) T8 λc o c1 c2 c3 c4 q=>up _ _ c1 (all5 c o c1 c2 c3 c4 q)
end
section
variable{prog:bj}{w:cq}{A:cu}{E:af->ag->Prop}{s:ag}{z TI TO i j u v:ah}{xs ys:List af}{st su:Nat->cw->Prop}
theorem T9 {n:Nat}{a b:af}{Q:PySem.Fin->ag->Prop}(hh:A.handled=none) (F4:Four z TI TO i j u v) (P:Draws prog w i u xs st) (R:Draws prog w j v ys su) (hz:zl s.heap z TI TO .none) (hTI:my s.heap TI (.ref i) (.ref j)) (hTO:my s.heap TO a b)
  (p:st n s.heap) (r:su n s.heap) (hend:xs[n]?=none∨ys[n]?=none)
  (k:∀h' e,vC z TO i j s.heap h'->(∃o,h'.get? e=some o/\o.cls=.type "StopIteration")->E (.ref e) { s with heap:=h' }):
  wpAny (model prog w) A (lg.«zip.__next__» ⟨[.ref z],[]⟩) Q E s:=by
 refine aa (ai (aa (di hz rfl (x:=.bool false) rfl (aa (di hz rfl (x:=.ref TI) rfl (aa (ja hTI rfl ?_)))))));have fr:∀{Q':Bool->ag->Prop}{E':af->ag->Prop},Q' true s->wpAny (model prog w) A (ow (.ref z)) Q' E' s:=λq=>aa (di hz rfl (x:=.none) rfl (ai q));refine aa (fr ?_);rw[if_pos rfl];refine aa (si (aa (di hz rfl (x:=.ref TO) rfl (aa (iw hz (by simp) λg1 z1 b1=>?_)))));have z1':zl g1 z TI TO .ellipsis:=z1;have p1:st n g1:=P.keep n _ _ p λb o hb q=>b1.extBut _ _ (gH hb (cy F4.b) F4.u1) q;have fin:∀(g:cw) (e:ah),zl g z TI TO .ellipsis->vC z TO i j s.heap g->(∃o,g.get? e=some o/\o.cls=.type "StopIteration")->
   wpAny (model prog w) A (setField (.ref z) 0 .none) (λ_ s'=>E (.ref e) s') E { s with heap:=g }:=λg e zz bt ⟨o,he,hc⟩=>
  iw zz (by simp) λg' _ b'=>k g' e (λc u c1 c2 c3 c4 q=>b'.extBut _ _ c1 (bt c u c1 c2 c3 c4 q)) ⟨o,b'.extBut _ _ (λq=>by subst q;rw[zz]at he;cases he;simp at hc) he,hc⟩
 refine aa ?_;show wpAny _ _ (forIn [(gm i,0),(gm j,1)] _ _) _ _ _;rw[nq];refine aa (aa (qz ?_));show wpAny _ _ (fe (.ref i) >>= _) _ _ _
 cases hx:xs[n]? with
 |none=>exact aa (P.done A n _ _ _ hh hx p1 λg2 e b2 he=>fin g2 e (b2 _ _ F4.b z1') (λc u c1 _ c3 _ q=>b2 _ _ c3 (b1.extBut _ _ c1 q)) he)
 |some x=>
  have hy:ys[n]?=none:=by
   rcases hend with q|q
   ·rw[hx]at q;cases q
   ·exact q
  refine aa (P.item A n x _ _ _ hx p1 λg2 p2 b2=>ai ?_);have t2:my g2 TO a b:=b2.extBut _ _ F4.d (b1.extBut _ _ (cy F4.a) hTO);refine aa (ja t2 rfl (aa (ug t2 λg3 t3 b3=>aa (wpAny_letGo (ai ?_)))));dsimp only;rw[nq];refine aa (aa (qz ?_));show wpAny _ _ (fe (.ref j) >>= _) _ _ _;have r3:su n g3:=R.keep n _ _ r λb o hb q=>b3.extBut _ _ (gH hb (cy F4.e) F4.v2) (b2.extBut _ _ (gH hb (cy F4.f) F4.v3) (b1.extBut _ _ (gH hb (cy F4.c) F4.v1) q));exact aa (R.done A n _ _ _ hh hy r3 λg4 e b4 he=>fin g4 e (b4 _ _ F4.c (b3.extBut _ _ F4.a (b2.extBut _ _ F4.b z1'))) (λc u c1 c2 c3 c4 q=>b4 _ _ c4 (b3.extBut _ _ c2 (b2.extBut _ _ c3 (b1.extBut _ _ c1 q)))) he)
theorem vD {it t:ah}{items:Array af}(hne:t≠it):Draws prog w it t items.toList (λi h=>h.IsTupleIter it t i/\h.IsTuple t items) where
 keep:=λi h h' ⟨⟨o,e,r⟩,⟨o2,e2,r2⟩⟩ k=>⟨⟨o,k _ _ (.inl rfl) e,r⟩,⟨o2,k _ _ (.inr rfl) e2,r2⟩⟩
 there:=λi h ⟨⟨o,e,_,d⟩,_⟩=>⟨o,_,e,d⟩
 item:=λA i x s Q E hx ⟨a,b⟩ k=>T4 a b (by simpa using hx) λh' a' sb=>k h' ⟨a',b.extBut sb.extBut hne⟩ sb
 done:=λA i s Q E hh hx ⟨a,b⟩ k=>T6 hh a b (by simpa using hx) k
end
def AB (K:aq) (t u:ah):It:=
 ⟨λi H=>∃vs ws v w,SqT K H t vs/\SqT K H u ws/\vs[i]?=some v/\ws[i]?=some w,
  λi H x H'=>∃p v w,x=.ref p/\H p=none/\H'=aM H p (.tup [v,w])/\(∀vs,SqT K H t vs->vs[i]?=some v)/\∀ws,SqT K H u ws->ws[i]?=some w,
  λi H=>∃vs ws,SqT K H t vs/\SqT K H u ws/\(vs.length<=i∨ws.length<=i)⟩
structure ZipAt (z TI TO i j t u:ah) (n:Nat) (h:cw):Prop where
 zp:zl h z TI TO .none
 ti:my h TI (.ref i) (.ref j)
 to:∃a b,my h TO a b
 i1:h.IsTupleIter i t n
 i2:h.IsTupleIter j u n
section
variable{X:Cx}{pins:List (ah×Obj)}{σ:St}{H:Hp}{s:ag}
theorem Inv.turns {h':cw}{ch:List ah}{T:ah}{vs:List V}{its:List af}(I:Inv X pins σ H s) (hch:∀b∈ch,bZ X pins H b) (k:∀b o,b∉ch->s.heap.get? b=some o->h'.get? b=some o) (there:∀b∈ch,∃o,h'.get? b=some o)
  (hT:s.heap.objs.size<=T) (hv:Vals vs its) (hl:vs.length<=cn) (tp:IsTupX h' T its.toArray):Inv X pins σ (aM H T (.tup vs)) { s with heap:=h' }:=by
 have nT:H T=none:=I.hok.fresh hT;have nch:∀b o,H b=some o->b∉ch:=λb o q z=>by rw[(hch b z).1]at q;cases q
 have un:Un (cH X.stack) ch H (aM H T (.tup vs)) s.heap h':=
  ⟨λb o q _ _ hb=>k b o hb q,λb o q _ _ hb=>⟨o.slots,k b o hb q⟩,λb o q n _=>by rw[bA (bc (ar (ao q) hT))];exact n,
   λb o q hb=>⟨o,k b o hb q⟩,λb xs q=>cJ nT b _ q,λb o u q=>cJ nT b _ q,λb ps q=>⟨#[],by rw[cJ nT b _ q];simp⟩⟩
 have ok:HOk X.prog X.w (aM H T (.tup vs)) h':=λb o q=>by
  by_cases hb:b=T
  ·subst hb;rw[bT]at q;cases q;exact⟨hl,its,hv,tp⟩
  ·rw[bA hb]at q;refine(I.hok b o q).stay (λc v hc z=>k c v ?_ z) (λc z=>cJ nT c _ z) λc xs z=>cJ nT c _ z
   rcases hc with rfl|hc
   ·exact nch c o q
   ·exact nch c _ hc
 exact I.call (g':=s.gens) (d':=s.drawn) (t':=s.toks) un ok I.bare λb hb=>let ⟨_,f1,_,f3,f4,f5⟩:=hch b hb;⟨f3,f1,f4,f5⟩
theorem Inv.turns0 {h':cw}{ch:List ah}(I:Inv X pins σ H s) (hch:∀b∈ch,bZ X pins H b) (k:∀b o,b∉ch->s.heap.get? b=some o->h'.get? b=some o):Inv X pins σ H { s with heap:=h' }:=by
 have nch:∀b o,H b=some o->b∉ch:=λb o q z=>by rw[(hch b z).1]at q;cases q
 refine I.call (g':=s.gens) (d':=s.drawn) (t':=s.toks) (ch:=ch) ⟨λb o q _ _ hb=>k b o hb q,λb o q _ _ hb=>⟨o.slots,k b o hb q⟩,λ_ _ _ n _=>n,λb o q hb=>⟨o,k b o hb q⟩,λ_ _ q=>q,λ_ _ _ q=>q,λb ps q=>⟨#[],by rw[q];simp⟩⟩ (λb o q=>?_) I.bare λb hb=>let ⟨_,f1,_,f3,f4,f5⟩:=hch b hb;⟨f3,f1,f4,f5⟩;refine(I.hok b o q).stay (λc v hc z=>k c v ?_ z) (λ_ z=>z) λ_ _ z=>z
 rcases hc with rfl|hc
 ·exact nch c o q
 ·exact nch c _ hc
end
theorem UA {P:bj}{w:cq}{K:aq}{elts:List bp}{kk:Nat}{tp:Pos}{z TI TO i j t u:ah}(F4:Four z TI TO i j t u) (hti:t≠i) (huj:u≠j):
  Turn P w K (.Tuple elts kk tp) (AB K t u) [z,TI,TO,i,j] z (ZipAt z TI TO i j t u) where
 mem:=by simp
 obj:=λn h st b hb=>by
  obtain⟨zp,ti,⟨a,b',to⟩,⟨o1,e1,_,d1⟩,⟨o2,e2,_,d2⟩⟩:=st;simp at hb
  rcases hb with rfl|rfl|rfl|rfl|rfl
  ·exact⟨_,zp,λv q=>by cases q⟩
  ·exact⟨_,ti,λv q=>by cases q⟩
  ·exact⟨_,to,λv q=>by cases q⟩
  ·exact⟨_,e1,λv q=>by rw[d1]at q;cases q⟩
  ·exact⟨_,e2,λv q=>by rw[d2]at q;cases q⟩
 keep:=λn h h' st k=>by obtain⟨zp,ti,⟨a,b',to⟩,⟨o1,e1,r1⟩,⟨o2,e2,r2⟩⟩:=st;exact⟨k _ (by simp) _ zp,k _ (by simp) _ ti,⟨a,b',k _ (by simp) _ to⟩,⟨o1,k _ (by simp) _ e1,r1⟩,⟨o2,k _ (by simp) _ e2,r2⟩⟩
 item:=by
  intro X hP hw hK hc n pins s σ H E I hf st hg;subst hP hw hK;obtain⟨vs,ws,v,w',hq,hr,hv,hw'⟩:=hg;obtain⟨its,rv,p1,z1⟩:=I.tuple hq;obtain⟨jts,rw',p2,z2⟩:=I.tuple hr;obtain⟨x,hx,rx⟩:=rv.get hv;obtain⟨y,hy,ry⟩:=rw'.get hw';obtain⟨zp,ti,⟨a,b,to⟩,i1,i2⟩:=st;have hT:s.TypeIs (.ref z) "zip" := ⟨_,zp,rfl⟩;unfold pyNext;refine aa (uy (gg (name:=km "__next__") hT F.slot_zip_next (gk F.slot_zip_next hT F.entry_zip_next
   (T7 F4 (vD (items:=its.toArray) hti) (vD (items:=jts.toArray) huj) zp ti to ⟨i1,p1⟩ ⟨i2,p2⟩ (by simpa using hx) (by simpa using hy) λh' T hnew a1 a2 a3 a4 a5 a6 bt=>ai ⟨_,rfl, ?_⟩) (F.args_zip_next_1 _))))
  refine wpAny_letOwnedTupleGo_zip a1 λh2 z2' sb=>?_;have kp:∀b o,b∉[z,TI,TO,i,j]->s.heap.get? b=some o->h2.get? b=some o:=λb o hb q=>by simp at hb;obtain⟨n1,n2,n3,n4,n5⟩:=hb;exact sb.extBut _ _ n1 (bt b o n1 n3 n4 n5 q)
  have Tz:T≠z:=ig (ar (ao zp) hnew);have T2:my h2 T x y:=sb.extBut _ _ Tz a6;have th:∀b∈[z,TI,TO,i,j],∃o,h2.get? b=some o:=λb hb=>by
   obtain⟨⟨o1,e1,_⟩,_⟩:=a4;obtain⟨⟨o2,e2,_⟩,_⟩:=a5;simp at hb
   rcases hb with rfl|rfl|rfl|rfl|rfl
   ·exact⟨_,z2'⟩
   ·exact⟨_,sb.extBut _ _ F4.g a2⟩
   ·exact⟨_,sb.extBut _ _ (cy F4.a) a3⟩
   ·exact⟨_,sb.extBut _ _ (cy F4.b) e1⟩
   ·exact⟨_,sb.extBut _ _ (cy F4.c) e2⟩
  have I2:=Inv.turns (T:=T) (vs:=[v,w']) (its:=[x,y]) I hf kp th hnew (.cons rx (.cons ry .nil)) (by show 2<=cn;decide) ⟨_,T2,rfl,rfl,_,rfl⟩;have nT:H T=none:=I.hok.fresh hnew;refine⟨.ref T,_,I2,rfl,⟨T,v,w',rfl,nT,rfl,λvs' h'=>by rw[I.tuple_inj h' hq];exact hv,λws' h'=>by rw[I.tuple_inj h' hr];exact hw'⟩, ?_,λb hb=>?_⟩
  ·exact⟨z2',sb.extBut _ _ F4.g a2,⟨_,_,sb.extBut _ _ (cy F4.a) a3⟩,a4.1.extBut sb.extBut (cy F4.b),a5.1.extBut sb.extBut (cy F4.c)⟩
  ·obtain⟨o,q,_⟩:∃o,s.heap.get? b=some o/\True:=by
    obtain⟨o1,e1,_⟩:=i1;obtain⟨o2,e2,_⟩:=i2;simp at hb
    rcases hb with rfl|rfl|rfl|rfl|rfl
    ·exact⟨_,zp,trivial⟩
    ·exact⟨_,ti,trivial⟩
    ·exact⟨_,to,trivial⟩
    ·exact⟨_,e1,trivial⟩
    ·exact⟨_,e2,trivial⟩
   rw[bA (bc (ar (ao q) hnew))];exact(hf b hb).1
 done:=by
  intro X hP hw hK hc n pins s σ H E I hf st hg;subst hP hw hK;obtain⟨vs,ws,hq,hr,hend⟩:=hg;obtain⟨its,rv,p1,z1⟩:=I.tuple hq;obtain⟨jts,rw',p2,z2⟩:=I.tuple hr;have l1:=rv.length;have l2:=rw'.length;obtain⟨zp,ti,⟨a,b,to⟩,i1,i2⟩:=st;have hT:s.TypeIs (.ref z) "zip" := ⟨_,zp,rfl⟩;unfold pyNext;refine aa (uy (gg (name:=km "__next__") hT F.slot_zip_next (gk F.slot_zip_next hT F.entry_zip_next
   (T9 (show X.A.in1.handled=none from I.ok.hd hc) F4 (vD (items:=its.toArray) hti) (vD (items:=jts.toArray) huj) zp ti to ⟨i1,p1⟩ ⟨i2,p2⟩ (by
    rcases hend with q|q
    ·exact .inl (by simp;omega)
    ·exact .inr (by simp;omega)) λh' e bt ⟨o,he,hcl⟩=>aa (yz (T := "StopIteration") (b:=true) ⟨o,he,hcl⟩ isSubtype_stop (ai ⟨rfl, ?_⟩))) (F.args_zip_next_1 _))))
  refine Inv.turns0 I hf λb o hb q=>?_;simp at hb;exact bt b o hb.1 hb.2.2.1 hb.2.2.2.1 hb.2.2.2.2 q
 self:=λ_ _ _ _ _ st h=>wpAny_pyIter_zip st.zp h
def HS (t u:ah) (h:cw) (z:ah) (h':cw):Prop:=∃TI TO i j,ZipAt z TI TO i j t u 0 h'/\Four z TI TO i j t u/\(∀b∈[z,TI,TO,i,j],h.objs.size<=b)/\∀b o,h.get? b=some o->h'.get? b=some o
theorem rB {h h':cw}{o:Obj}(e:h'=h.push o) (nf:o.isFreed=false):h'.get? h.objs.size=some o:=by rw[e];exact ay _ nf
theorem UB (n t u:Nat) (lt:t<n) (lu:u<n):Four (n+4) (n+2) (n+3) n (n+1) t u:=by
 have ne:∀{a b:Nat},(a<b∨b<a)->a≠b:=λh=>by omega
 exact⟨ne (by omega),ne (by omega),ne (by omega),ne (by omega),ne (by omega),ne (by omega),ne (by omega),ne (by omega),ne (by omega),ne (by omega),ne (by omega),ne (by omega),ne (by omega),ne (by omega),ne (by omega),ne (by omega),ne (by omega),ne (by omega)⟩
theorem UC {t u:ah}{hp h1 h2 h3 h4 h5:cw}{n:Nat}(hn:n=hp.objs.size) (lt:t<n) (lu:u<n)
  (e1:h1=hp.push { cls:=.type "tuple_iterator",data:=.fields #[.ref t,.int 0 0] }) (e2:h2=h1.push { cls:=.type "tuple_iterator",data:=.fields #[.ref u,.int 0 0] }) (e3:h3=h2.push { cls:=.type "tuple",data:=.seq #[.ref n,.ref (n+1)] })
  (e4:h4=h3.push { cls:=.type "tuple",data:=.seq #[.none,.none] }) (e5:h5=h4.push { cls:=.type "zip",data:=.fields #[.none,.bool false,.bool false,.ref (n+2),.ref (n+3)] }):HS t u hp (n+4) h5:=by
 have z1:h1.objs.size=n+1:=by rw[e1,dv,hn]
 have z2:h2.objs.size=n+2:=by rw[e2,dv,z1]
 have z3:h3.objs.size=n+3:=by rw[e3,dv,z2]
 have z4:h4.objs.size=n+4:=by rw[e4,dv,z3]
 have up:∀(h:cw) (o:Obj) (b:ah) (q:Obj),h.get? b=some q->(h.push o).get? b=some q:=λh o b q e=>aj _ e;have g1:=rB e1 rfl;have g2:=rB e2 rfl;have g3:=rB e3 rfl;have g4:=rB e4 rfl;have g5:=rB e5 rfl;rw[<-hn]at g1;rw[z1]at g2;rw[z2]at g3;rw[z3]at g4;rw[z4]at g5;have u2:∀b q,h2.get? b=some q->h5.get? b=some q:=λb q e=>by rw[e5,e4,e3];exact up _ _ _ _ (up _ _ _ _ (up _ _ _ _ e))
 have u1:∀b q,h1.get? b=some q->h5.get? b=some q:=λb q e=>u2 b q (by rw[e2];exact up _ _ _ _ e);have u3:∀b q,h3.get? b=some q->h5.get? b=some q:=λb q e=>by rw[e5,e4];exact up _ _ _ _ (up _ _ _ _ e)
 have u4:∀b q,h4.get? b=some q->h5.get? b=some q:=λb q e=>by rw[e5];exact up _ _ _ _ e
 refine⟨n+2,n+3,n,n+1,⟨g5,u3 _ _ g3,⟨_,_,u4 _ _ g4⟩,⟨_,u1 _ _ g1,rfl,rfl⟩,⟨_,u2 _ _ g2,rfl,rfl⟩⟩, ?_, ?_,λb q e=>u1 b q (by rw[e1];exact up _ _ _ _ e)⟩
 ·exact UB n t u lt lu
 ·intro b hb;rw[<-hn];simp at hb
  rcases hb with rfl|rfl|rfl|rfl|rfl
  ·exact qp _ _
  ·exact qp _ _
  ·exact qp _ _
  ·exact ak _
  ·exact qp _ _
theorem UD {t u:ah}(xs ys:Array af):Meets (lg.«zip.__new__» ⟨[.type "zip",.ref t,.ref u],[]⟩) (λ_ R s=>s.heap.IsTuple t xs/\s.heap.IsTuple u ys/\∀h' z,HS t u s.heap z h'->R (.ok (.ret (.ref z))) { s with heap:=h' }):=
 .of_wp λprog w A R s h=>by
  obtain⟨ht,hu,k⟩:=h;obtain⟨hp,g,d,tk,os⟩:=s;have sub:=sub_zip;have ht':(⟨hp,g,d,tk,os⟩:ag).heap.IsTuple t xs:=ht;have hu':(⟨hp.push { cls:=.type "tuple_iterator",data:=.fields #[.ref t,.int 0 0] },g,d,tk,os⟩:ag).heap.IsTuple u ys:=hu.push _
  wp_walk using qe ht',qe hu'
  have lt:t<hp.objs.size:=by obtain⟨o,e,_⟩:=ht;exact ao e
  have lu:u<hp.objs.size:=by obtain⟨o,e,_⟩:=hu;exact ao e
  simp only[dv];refine⟨_,rfl,k _ _ (UC rfl lt lu rfl rfl rfl rfl ?_)⟩;simp only[dv];rfl
section
variable{X:Cx}{G:Cfg}{E:XK}{a b:bp}{elts:List bp}{kk:Nat}{tp p pos:Pos}{ta:TA}{ms:M (List Dv)}
def UE (K:aq) (ta:TA):TI:=λσ H R=>ta σ H λvs H1=>∃t u xs ys,vs=[.ref t,.ref u]/\SqT K H1 t xs/\SqT K H1 u ys/\R (AB K t u) H1
theorem UG:dh "zip" = some (.type "zip"):=by decide +kernel
theorem UH (hg:Gl X "zip") (hm:X.mg "zip" = none) (ha:PA X [a,b] ta) (hs:au [a,b] X.env=[(false,eval a X.env),(false,eval b X.env)]:=by rfl) (hs2:au [b] X.env=[(false,eval b X.env)]:=by rfl):
  PI X (.Tuple elts kk tp) (.Call (.Name "zip" p) [a,b] [] pos) (UE X.K ta):=by
 intro pins s σ H R I h;refine Call_ (mS I hg hm UG (ik (aU (ha pos pins s σ H _ I h) λus s1 ⟨vs,H1,I1,r1,q1⟩=>?_) (by rw[hs,hs2]) (by rw[hs2];rfl)));obtain⟨t,u,xs,ys,e,hq,hr,q⟩:=q1;subst e;obtain⟨u1,u2,rfl,e1,e2⟩:=qB r1;cases e1;cases e2;obtain⟨its,rv,p1,_⟩:=I1.tuple hq;obtain⟨jts,rw',p2,_⟩:=I1.tuple hr;refine callType_new F.called_zip (by decide) (F.typeCall_zip_2 _ _) (F.newCall_zip_2 _ _) (λobj=>F.args_object_init_3 obj _ _) F.entry_zip_new (UD its.toArray jts.toArray) ⟨p1,p2,λh' z nz=>?_⟩;obtain⟨TI,TO,i,j,za,f4,fresh,kp⟩:=nz;refine⟨⟨_,za.zp,rfl⟩, ?_⟩;have I2:Inv X pins σ H1 { s1 with heap:=h' }:=I1.kept (t':=s1.toks) kp;refine wpAny_pyIter_zip za.zp ⟨z,[z,TI,TO,i,j],_,_,H1,rfl,I2,UA f4 f4.u3 f4.v4,za,λb hb=>I1.fpOk (fresh b hb) (I1.hok.fresh (fresh b hb)),q⟩
def lW (xs ys:List Dv):Src:=cM ((xs.zip ys).map λq=>.tup [q.1,q.2])
def lY:List Dv->Hs->Rs Src
 | [.tup xs,.tup ys],h=>.ok (lW xs ys) h
 |_,_=>.bad
theorem ItOk.zip {μ:Nat->ah}{n:Nat}{H:Hp}{t u:ah}{vs ws:List V}{xs ys:List Dv}{K:aq}(e:H t=some (.tup vs)) (e':H u=some (.tup ws)) (r:RelDL G μ n H xs vs) (r':RelDL G μ n H ys ws):ItOk G μ n H (lW xs ys) (AB K t u):=by
 intro k μ2 h2 H2 x2 s2;have f:=x2.im t (.tup vs) trivial e;have f':=x2.im u (.tup ws) trivial e';have g:=RelDL.mono x2 _ _ r;have g':=RelDL.mono x2 _ _ r';have hl:(lW xs ys).n=min xs.length ys.length:=by simp[lW,cM]
 constructor
 ·intro hk d hd;have hd':((xs.zip ys).map λq=>Dv.tup [q.1,q.2])[k]?=some d:=hd;rw[du]at hd'
  cases q:(xs.zip ys)[k]? with
  |none=>rw[q]at hd';cases hd'
  |some xy=>
   rw[q]at hd';cases hd';obtain⟨qx,qy⟩:=pb.mp q;obtain⟨v,ev,rv⟩:=g.get qx;obtain⟨w',ew,rw'⟩:=g'.get qy;refine⟨⟨vs,ws,v,w',SqT.of f,SqT.of f',ev,ew⟩,λx H' hy=>?_⟩;obtain⟨pp,v1,w1,rfl,np,rfl,a1,a2⟩:=hy;have b1:=a1 vs (SqT.of f);have b2:=a2 ws (SqT.of f');rw[ev]at b1;rw[ew]at b2
   cases b1;cases b2
   have sm:Same H2 (aM H2 pp (.tup [v,w'])):=cJ np;exact⟨sm,pp,_,rfl,bT,RelDL.cons (RelD.mono (Ext.same sm) _ _ rv) (RelDL.cons (RelD.mono (Ext.same sm) _ _ rw') RelDL.nil)⟩
 ·intro hk _;refine⟨vs,ws,SqT.of f,SqT.of f', ?_⟩;rw[g.length,g'.length,hk,hl];omega
theorem HU (hg:Gl X "zip") (hm:X.mg "zip" = none) (ha:dQ X G E [a,b] ms) (hs:au [a,b] X.env=[(false,eval a X.env),(false,eval b X.env)]:=by rfl) (hs2:au [b] X.env=[(false,eval b X.env)]:=by rfl):
  hV X G E (.Tuple elts kk tp) (.Call (.Name "zip" p) [a,b] [] pos) (aR lY ms):=λhK=>
 PI.imp (UH hg hm (ha hK) hs hs2) λσ H R ⟨μ,ρ,h,rs,s,o⟩=>iX rs s o λμ1 ds h1 vs H1 x1 rs1 s1 r1 o1=>by
  unfold lY at o1
  split at o1
  ·rename_i xs ys;obtain⟨v,v',rfl,rv,rv'⟩:=zQ r1;obtain⟨t,us,rfl,e,r⟩:=rv;obtain⟨u,ws,rfl,e',r'⟩:=rv';exact⟨t,u,us,ws,rfl,SqT.of e,SqT.of e',o1.val s1 (ItOk.zip e e' r r')⟩
  ·exact o1.elim
end
section
variable{prog:bj}{w:cq}{A:cu}{E:af->ag->Prop}{s:ag}{K:Frag}{e C N:ah}{o:Obj}
theorem UI {Q:Bool->ag->Prop}(X:K.In s.heap) (he:s.heap.get? e=some o) (hc:o.cls=.ref C) (hn:subIn K (.ref N) (.type "BaseException")=some true) (ht:subIn K (.type "type") (.type "tuple")=some false) (hk:kitCls K (.ref N) (.ref N)=some true) {b:Bool}(hs:subIn K (.ref C) (.ref N)=some b) (q:Q b s):
  wpAny (model prog w) A (excMatches (.ref e) (.ref N)) Q E s:=by
 have L1:=(kit_cls (M:=model prog w) X hk).1;have L2:=(kit_cls (M:=model prog w) X hk).2.1;have L3:=looks_subIn (M:=model prog w) X hn;have L4:=looks_subIn (M:=model prog w) X hs;have L5:=looks_subIn (M:=model prog w) X ht;obtain⟨hp,g,d,tk,os⟩:=s;unfold excMatches
 repeat (any_goals (first|assumption|(with_reducible refine wpAny_loadPart_at he ?_;rw[hc])|with_reducible refine L1.at ?_|with_reducible refine L2.at ?_|with_reducible refine L3.at ?_|with_reducible refine L4.at ?_|with_reducible refine L5.at ?_|wp_step))
 cases b
 all_goals (repeat (any_goals (first|assumption|wp_step)))
end
def iL (P:bj) (w:cq) (K:aq) (mg:Str->Option af) (base:cw) (N:List Str) (qual:Str) (scope:gh) (f:ah) (cd:af) (cl:List (Str×ah)) (A:cu) (outer:List Env) (s:ag) (H:Hp) (E:XK):Cx where
 prog:=P
 w:=w
 K:=K
 mg:=mg
 base:=base
 A:=A.deeper (kr qual scope s.heap.objs.size f cd cl)
 N:=N
 s₀:=s
 H₀:=H
 env:=kr qual scope s.heap.objs.size f cd cl
 outer:=outer
 stack:=kr qual scope s.heap.objs.size f cd cl::outer
 ex:=[]
 calm:=true
 fn:=λ_=>false
 pn:=[]
 xe:=λe s'=>wpAny (model P w) (A.deeper (kr qual scope s.heap.objs.size f cd cl)) (leaving (kr qual scope s.heap.objs.size f cd cl) e) (λ_ s''=>bF P w base outer H s E e s'') (λe' s''=>bF P w base outer H s E e' s'') s'
structure LamScope (N:List Str) (sc:gh):Prop where
 kind:sc.kind=.function
 co:sc.isCoroutine=false
 gen:sc.isGenerator=false
 nocell:∀x∈sc.names,x.2≠.cell
 fr:∀x∈N,sc.names.lookup x=some .free
 all:∀x∈sc.names,x.2=.free->x.1∈N
structure LamAt (G:Cfg) (base:cw) (H:Hp) (μ:Nat->ah) (n:Nat) (N:List Str) (params:kd) (body:bp) (scope:gh) (f c':ah) (cl:List (Str×ah)) (ds:List Dv):Prop where
 ob:∃pm ctv,H f=some (.frz (jo "<lambda>" G.lq params body scope cl pm c' ctv) (.own 0))
 cd:∃oc,H c'=some (.frz oc (.own 0))/\uH G.lq oc
 inj:∀x y c,cl.lookup x=some c->cl.lookup y=some c->x=y
 len:ds.length=N.length
 at_:∀(i:Nat) (x:Str),N[i]?=some x->∃c,cl.lookup x=some c
 cell:∀(x:Str) (c:ah),cl.lookup x=some c->∃o u,base.get? c=some o/\o.data=.cell u
 val:∀(i:Nat) (x:Str) (c:ah) (d:Dv),N[i]?=some x->ds[i]?=some d->cl.lookup x=some c->∃o u v,base.get? c=some o/\o.data=.cell (some u)/\RelV v u/\RelD G μ n H d v
section
variable{P:bj}{w:cq}{K:aq}{mg:Str->Option af}{base:cw}{N:List Str}{qual:Str}{scope:gh}{f:ah}{cdv:af}{cl:List (Str×ah)}{A:cu}{outer:List Env}{s0:ag}{H0:Hp}{E0:XK}{G:Cfg}{E:XK}{k:Nat}
theorem UJ (hr:Room k (A.deeper (kr qual scope s0.heap.objs.size f cdv cl))) (hK:K=G.K) (hE:∀u H',E u none H'->E0 u none H') (hF:uY E):
  Good (iL P w K mg base N qual scope f cdv cl A outer s0 H0 E0) G E k where
 calm:=rfl
 room:=hr
 K:=hK
 own:=zx
 pas:=by intro pins σ H s u s' I ⟨e,C,H',eu,os,bare,un,hok,fl,he⟩;subst eu;have I':=I.call' os un hok bare (λb z=>absurd z (by simp));refine aa (zV (P:=P) (w:=w) (H:=H') (base:=base) I'.ok.frames I'.stack rfl hok I'.stkFree fl λh'' H'' un2 hok2 fl2 sx=>?_);have I2:=I'.call (h':=h'') (g':=s'.gens) (d':=s'.drawn) (t':=s'.toks) un2 hok2 I'.bare (λb z=>absurd z (by simp));obtain⟨T,a0,h1,_⟩:=id fl;obtain⟨T2,a2,h3,_⟩:=id fl2;have xe1:cD C e T a0 s'.heap:=(show ObjOk P w H' s'.heap e _ from hok e _ h1).1;have:E (.ref e) none H'':=hF e H' H'' sx ⟨C,T,a0,T2,a2,h1,⟨_,xe1⟩,h3⟩ he;exact⟨e,C,H'',rfl,I2.os,I2.bare,I2.base,hok2,fl2,hE _ _ this⟩
 rais:=by intro pins σ H s h' e C args I mx he;refine aa (HD (P:=P) (w:=w) (H:=H) (base:=base) I.ok.frames I.stack rfl I.hok I.stkFree I.bk mx λh'' H'' un2 hok2 fl2 sm=>?_);have I2:=I.call (h':=h'') (g':=s.gens) (d':=s.drawn) (t':=s.toks) un2 hok2 I.bare (λb z=>absurd z (by simp));obtain⟨T2,a2,h3,_⟩:=id fl2;exact⟨e,C,H'',rfl,I2.os,I2.bare,I2.base,hok2,fl2,hE _ _ (he H'' sm ⟨T2,a2,h3⟩)⟩
end
def HV {α:Type}:Rs α->Sr
 | .ex c h=>.ex c h
 |_=>.bad
section
variable{P:bj}{w:cq}{K:aq}{mg:Str->Option af}{base:cw}{N:List Str}{params:kd}{body:bp}{scope:gh}{f c':ah}{cl:List (Str×ah)}{A:cu}{outer:List Env}{s:ag}{H:Hp}{E:XK}{G:Cfg}{k:Nat}{μ:Nat->ah}{h:Hs}{ds:List Dv}
theorem UK {h1:cw}{tk:Nat}{σ:St}{E₀:XK}(S:LamScope N scope) (hd:A.handled=none) (e0:Env0 P w K mg base A outer s H) (L:LamAt G base H μ h.length N params body scope f c' cl ds)
  (hall:∀x c,cl.lookup x=some c->x∈N)
  (hns:h1.Ns s.heap.objs.size λ_=>none) (hk1:∀b o,s.heap.get? b=some o->h1.get? b=some o)
  (hσ:σ.length=N.length) (hv:∀(i:Nat) (x:Str) (v:V),N[i]?=some x->σ[i]?=some (some v)->∃c o u,cl.lookup x=some c/\base.get? c=some o/\o.data=.cell (some u)/\RelV v u):
  Inv (iL P w K mg base N G.lq scope f (.ref c') cl A outer s H E₀) [] σ H { s with heap:=h1,toks:=tk }:=by
 have noA:∀b:ah,b∉(iL P w K mg base N G.lq scope f (.ref c') cl A outer s H E₀).ex:=λb z=>absurd (show b∈([]:List ah) from z) (by simp);have kfree:∀x,scope.names.lookup x=some .free->x∈N:=λx e=>S.all _ (ff e) rfl;refine⟨⟨e0.mod,S.kind,rfl,rfl,ak _,L.inj,λx hx=>?_,λx c z=>(nomatch z),λ_=>hd,zv e0.frames,.inr ⟨rfl,rfl⟩,λb z=>absurd z (noA b),e0.bs,e0.bsz,λb _ _=>noA b,λb z=>absurd z (noA b),e0.funs,e0.frf⟩,
  rfl,e0.bare,Un.kept hk1,⟨_,hns,λi x v h1' h2 h3=>?_⟩,λx c e=>?_,e0.hok.fresh (ak _),λx c e=>?_,λp hp=>absurd (show p∈([]:List (ah×Obj)) from hp) (by simp),e0.hok.kept hk1,hσ⟩
 ·have hx:scope.names.lookup x=some .cell∨scope.names.lookup x=some .free:=hx
  rcases hx with hx|hx
  ·exact absurd rfl (S.nocell _ (ff hx))
  ·obtain⟨i,hi⟩:=List.getElem?_of_mem (kfree x hx);exact L.at_ i x hi
 ·obtain⟨c,o,u,e1,e2,e3,r⟩:=hv i x v h1' h2;refine⟨u,r,.inr ⟨.inr (S.fr x (bx h1')),c,e1,o,hk1 _ _ (e0.bs _ _ e2).1,e3⟩⟩
 ·obtain⟨o,u,e2,e3⟩:=L.cell x c e;exact⟨u,o,hk1 _ _ (e0.bs _ _ e2).1,e3⟩
 ·obtain⟨o,u,e2,e3⟩:=L.cell x c e;exact(e0.bs _ _ e2).2
theorem UL {me:M Dv}{Q:VK}(S:LamScope N scope) (hK:K=G.K) (hb:∀(cl:List (Str×ah)) (pm cdv ct:af),bindArgs (nt "<lambda>" G.lq params body scope cl pm cdv ct) ⟨[],[]⟩=pure [])
  (hbody:∀(f:ah) (cdv:af) (cl:List (Str×ah)) (A:cu) (outer:List Env) (s:ag) (H:Hp) (E₀ E:XK),Good (iL P w K mg base N G.lq scope f cdv cl A outer s H E₀) G E k->aH (iL P w K mg base N G.lq scope f cdv cl A outer s H E₀) G E body me)
  (hr:Room (k+1) A) (e0:Env0 P w K mg base A outer s H) (L:LamAt G base H μ h.length N params body scope f c' cl ds) (hall:∀x c,cl.lookup x=some c->x∈N) (sm:Sim G μ h H) (o:Out G E μ h.length H (me (ds.map some) h) (RelD G) Q):
  codeAny (model P w) A (.call (.ref f) ⟨[],[]⟩) (CR (bF P w base) outer P w H s Q E) s:=by
 obtain⟨pm,ctv,ho⟩:=L.ob;obtain⟨oc,hc,vs,t,hcd,hq⟩:=L.cd;have lim:s.heap.NoLimit:=e0.mod.nolimit.keeps λb o e=>(e0.bs b o e).1;have gc:s.heap.get? c'=some oc:=(e0.hok c' _ hc).1;refine PySem.W.kla_callFunE hr.depth (e0.hok f _ ho).1 rfl S.co S.gen rfl ⟨c',oc,vs,t,rfl,gc,hcd,hq⟩ ?_;rw[hb];refine ai (wpAny_newFunctionEnv S.nocell (λx hx=>absurd hx (by simp)) (λh₁ hns hsb=>⟨lim.fresh _ hsb, ?_⟩) S.kind);show codeAny _ _ (.expr body (kr G.lq scope s.heap.objs.size f (.ref c') cl)) _ _;have hk₁:∀b o,s.heap.get? b=some o->h₁.get? b=some o:=λb o e=>hsb.extBut b o (bc (ao e)) (aj _ e);have hvs:∀(i:Nat),i<N.length->∃v:V,∀d,ds[i]?=some d->RelD G μ h.length H d v/\∀x,N[i]?=some x->∃c o u,cl.lookup x=some c/\base.get? c=some o/\o.data=.cell (some u)/\RelV v u:=λi hi=>by
  obtain⟨x,hx⟩:∃x,N[i]?=some x:=⟨_,ba hi⟩
  obtain⟨d,hd⟩:∃d,ds[i]?=some d:=⟨_,ba (by rw[L.len];exact hi)⟩
  obtain⟨c,ec⟩:=L.at_ i x hx;obtain⟨oo,u,v,e1,e2,r1,r2⟩:=L.val i x c d hx hd ec;refine⟨v,λd' hd'=>?_⟩;rw[hd]at hd';cases hd';refine⟨r2,λx' hx'=>?_⟩;rw[hx]at hx';cases hx';exact⟨c,oo,u,ec,e1,e2,r1⟩
 have hch:∃vs:List V,vs.length=N.length/\∀(i:Nat) (v:V),vs[i]?=some v->∀d,ds[i]?=some d->RelD G μ h.length H d v/\∀x,N[i]?=some x->∃c o u,cl.lookup x=some c/\base.get? c=some o/\o.data=.cell (some u)/\RelV v u:=by
  have:∀m,m<=N.length->∃vs:List V,vs.length=m/\∀(i:Nat) (v:V),vs[i]?=some v->∀d,ds[i]?=some d->RelD G μ h.length H d v/\∀x,N[i]?=some x->∃c o u,cl.lookup x=some c/\base.get? c=some o/\o.data=.cell (some u)/\RelV v u:=by
   intro m
   induction m with
   |zero=>exact λ_=>⟨[],rfl,λi v e=>by simp at e⟩
   |succ m ih=>
    intro hm;obtain⟨vs,hl,hv⟩:=ih (by omega);obtain⟨v,hv'⟩:=hvs m (by omega);refine⟨vs++[v],by simp[hl],λi v' e d hd=>?_⟩
    by_cases hi:i<vs.length
    ·rw[ed hi]at e;exact hv i v' e d hd
    ·rw[gb (by omega)]at e;have:i=m:=by have:=(az.mp e).1;simp at this;omega
     subst this;simp[hl]at e;subst e;exact hv' d hd
  exact this _ (ak _)
 obtain⟨vs',hl,hv⟩:=hch;have I:Inv (iL P w K mg base N G.lq scope f (.ref c') cl A outer s H E) [] (vs'.map some) H { s with heap:=h₁,toks:=s.toks+([]:List (Str×af)).length }:=by
  refine UK S hr.hd e0 L hall hns hk₁ (by simp[hl]) λi x v h1 h2=>?_;have h3:vs'[i]?=some v:=by
   rw[du]at h2
   cases q:vs'[i]? with
   |none=>rw[q]at h2;cases h2
   |some a=>rw[q]at h2;cases h2;rfl
  obtain⟨d,hd⟩:∃d,ds[i]?=some d:=⟨_,ba (by rw[L.len];exact(az.mp h1).1)⟩
  exact(hv i v h3 d hd).2 x h1
 have rs:RelS G μ h.length H (ds.map some) (vs'.map some):=⟨by simp[hl,L.len],λi d e=>by
  have h3:ds[i]?=some d:=by
   rw[du]at e
   cases q:ds[i]? with
   |none=>rw[q]at e;cases e
   |some a=>rw[q]at e;cases e;rfl
  have hi:i<vs'.length:=by rw[hl,<-L.len];exact(az.mp h3).1
  exact⟨vs'[i],by rw[du,ba hi];rfl,(hv i _ (ba hi) d h3).1⟩⟩
 have gd:Good (iL P w K mg base N G.lq scope f (.ref c') cl A outer s H E) G (EB G μ h.length H (HV (me (ds.map some) h))) k:=UJ (hr.deeper _) hK (λu H' ⟨c,h',μ',er,x,s',fl⟩=>by
  cases q:me (ds.map some) h with
  |ok d hh=>rw[q]at er;cases er
  |bad=>rw[q]at er;cases er
  |ex c1 h1=>rw[q]at er o;cases er;exact o μ' H' u x s' fl) qV
 refine PySem.W.kla_codeExpr (jn (hbody f (.ref c') cl A outer s H E _ gd hK [] _ (vs'.map some) H Q I ⟨μ,ds.map some,h,rs,sm, ?_⟩) (λu s' ⟨v,H',J,rv,q⟩=>⟨v,H',J.os,J.bare,J.base,J.hok,rv,q⟩) λe s' hs=>hs)
 cases q:me (ds.map some) h with
 |ok d hh=>rw[q]at o;exact o
 |bad=>rw[q]at o;exact o
 |ex c1 h1=>exact λμ' H' u x' s' fl=>⟨c1,h1,μ',rfl,x',s',fl⟩
end
section
variable{X:Cx}{pins:List (ah×Obj)}{σ:St}{H:Hp}{s:ag}
theorem UM {i:Nat}{x:Str}{h':cw}{tk:Nat}{m:Str->Option af}{v:Option af}(I:Inv X pins σ H s) (hN:X.N.Nodup) (hi:X.N[i]?=some x) (hn:s.heap.Ns X.env.locals m)
  (hl:∀(i:Nat) (x:Str) (v:V),X.N[i]?=some x->σ[i]?=some (some v)->oC X.env.scope x->∃u,RelV v u/\EG X.env s.heap m x u)
  (hs:fv X.env.locals s.heap h') (hn':h'.Ns X.env.locals (λy=>if y=x then v else m y)):Inv X pins (σ.set i none) H { s with heap:=h',toks:=tk }:=by
 have cne:=I.cne;have hok:HOk X.prog X.w H h':=λb ob e=>by
  refine(I.hok b ob e).stay (λc w' hc q=>(hs.2 c ?_).trans q) (λ_ q=>q) λ_ _ q=>q
  rintro rfl
  have hfree:=I.free
  rcases hc with hc|hc
  ·rw[<-hc]at e;rw[hfree]at e;cases e
  ·rw[hfree]at hc;cases hc
 refine⟨I.ok,I.os,I.bare,⟨λb o e n hb hx=>?_,λb o e n hb hx=>?_,I.base.free,λb o e hx=>?_,I.base.tups,I.base.frzs,I.base.tbls⟩,⟨_,hn',λj y v' e1 e2 e3=>?_⟩,λy c e=>?_,I.free,I.freeC,λp hp=>?_,hok,by simpa using I.len⟩
 ·exact(hs.2 b (bc (ar (ao e) I.ok.above))).trans (I.base.keep b o e n hb hx)
 ·obtain⟨sl,e1⟩:=I.base.slot b o e n hb hx;exact⟨sl,(hs.2 b (bc (ar (ao e) I.ok.above))).trans e1⟩
 ·obtain⟨o',e1⟩:=I.base.there b o e hx;exact⟨o',(hs.2 b (bc (ar (ao e) I.ok.above))).trans e1⟩
 ·by_cases hj:j=i
  ·subst hj;have hiσ:j<σ.length:=by rw[I.len];exact(az.mp hi).1
   rw[da hiσ]at e2;cases e2
  ·rw[dg (cy hj)]at e2;obtain⟨u',r',q⟩:=hl j y v' e1 e2 e3;refine⟨u',r', ?_⟩
   rcases q with⟨k,e⟩|⟨k,c,e,z⟩
   ·refine .inl ⟨k, ?_⟩;have:y≠x:=λe=>hj (yM hN e1 (e▸hi));show(if y=x then v else m y)=some u';rw[if_neg this];exact e
   ·exact .inr ⟨k,c,e,z.sameBut hs (cne y c e)⟩
 ·obtain⟨w',z⟩:=I.cell y c e;exact⟨w',z.sameBut hs (cne y c e)⟩
 ·obtain⟨e,n,ne,nf,d⟩:=I.pin p hp;exact⟨(hs.2 p.1 ne).trans e,n,ne,nf,d⟩
def oX (X:Cx) (e:af):Cx:={ X with A:=X.A.mark (some e),calm:=false,xe:=λ_ _=>False }
theorem HW (e:af) (I:Inv X pins σ H s):Inv (oX X e) pins σ H s:=
 have ok:=I.ok
 ⟨⟨ok.mod,ok.kind,ok.glob,ok.blt,ok.above,ok.inj,ok.has,ok.cab,λz=>(nomatch z),ok.frames,ok.stk,ok.exf,ok.bs,ok.bsz,ok.noex,ok.exfs,ok.funs,ok.frf⟩,I.os,I.bare,I.base,I.loc,I.cell,I.free,I.freeC,I.pin,I.hok,I.len⟩
theorem UN {e:af}(ok:X.Ok) (I:Inv (oX X e) pins σ H s):Inv X pins σ H s:=⟨ok,I.os,I.bare,I.base,I.loc,I.cell,I.free,I.freeC,I.pin,I.hok,I.len⟩
end
section
variable{X:Cx}{G:Cfg}{E:XK}{k:Nat}{N:List Str}{params:kd}{body:bp}{scope:gh}{me:M Dv}{ncl:Nat}{NE:ah}
theorem UO {x xn en nm:Str}{p cpos epos np xp ep apos hpos tpos:Pos}{pins:List (ah×Obj)}{σ:St}{H:Hp}{s:ag}{D:Ends}{f c':ah}{cl:List (Str×ah)}{μ:Nat->ah}{h:Hs}{ds:List Dv}
  (hK:X.K=G.K) (hst:X.stack=X.env::X.outer) (hfr:X.env.frame=some X.env.locals) (hnd:X.N.Nodup) (h0:X.N[0]?=some x) (h1:X.N[1]?=some xn) (h2:X.N[2]?=some en) (hfn:∀y,X.fn y=true)
  (l0:X.env.scope.names.lookup x=some .local) (l1:X.env.scope.names.lookup xn=some .local) (l2:X.env.scope.names.lookup en=some .local)
  (d0:(x==("__debug__" : Str))=false) (c0:(x==("__classdict__" : Str))=false) (d2:(en==("__debug__" : Str))=false) (c2:(en==("__classdict__" : Str))=false) (dn:(nm==("__debug__" : Str))=false)
  (hsw:swapsWith (.Call (.Name x p) [] [] cpos) none epos.line X.env=pure false) (hsw2:swapsWith (.Name en ep) (some (.Name xn xp)) apos.line X.env=pure false)
  (hg:Gl X nm) (hm:X.mg nm=some (.ref NE)) (hx1:jh X.K (.ref NE) (.type "BaseException")=some true) (hx2:jh X.K (.type "type") (.type "tuple")=some false) (hx3:vk X.K (.ref NE) (.ref NE)=some true)
  (hsub:∀c,c<ncl->jh X.K (.ref (G.cl c)) (.ref NE)=some true)
  (S:LamScope N scope) (hb:∀(cl:List (Str×ah)) (pm cdv ct:af),bindArgs (nt "<lambda>" G.lq params body scope cl pm cdv ct) ⟨[],[]⟩=pure [])
  (hbody:∀(f:ah) (cdv:af) (cl:List (Str×ah)) (A:cu) (outer:List Env) (s:ag) (H:Hp) (E₀ E:XK),Good (iL X.prog X.w X.K X.mg X.base N G.lq scope f cdv cl A outer s H E₀) G E k->aH (iL X.prog X.w X.K X.mg X.base N G.lq scope f cdv cl A outer s H E₀) G E body me)
  (hr:Room (k+1) X.A) (I:Inv X pins σ H s) (hσ:σ[0]?=some (some (.ref f))) (L:LamAt G X.base H μ h.length N params body scope f c' cl ds) (hall:∀x c,cl.lookup x=some c->x∈N) (sm:Sim G μ h H)
  (hD:match me (ds.map some) h with
   | .ok _ h1=>∀μ' H',Ext μ h.length H μ' h1.length H'->Sim G μ' h1 H'->D.nx σ H'
   | .ex c h1=>c<ncl/\∀μ' H' a,Ext μ h.length H μ' h1.length H'->Sim G μ' h1 H'->RelD G μ' h1.length H' (.exc c) (.ref a)->D.nx (((σ.set 2 (some (.ref a))).set 1 (some (.ref a))).set 2 none) H'
   | .bad=>False):
  wpAny (model X.prog X.w) X.A (exec (.Try [.Expr (.Call (.Name x p) [] [] cpos) epos] [.ExceptHandler (some (.Name nm np)) (some en) [.Assign [.Name xn xp] (.Name en ep) apos] hpos] [] [] tpos) X.env) (SP X pins D) X.xe s:=by
 have hcls:(X.env.scope.kind==.class||(X.env.scope.kind==.module&&X.env.locals != X.env.globals))=false:=by rw[I.ok.kind];rfl
 refine wpAny_Try_except ?_;obtain⟨pm,ctv,ho⟩:=L.ob;refine nr (wpAny_Expr_any (ll (aU (jn (pW (X:=X.nox) (pos:=p) h0 (.inl l0) d0 c0 pins s σ H (λv H'=>v=.ref f/\H'=H) (I.wish _) ⟨_,hσ,rfl,rfl⟩) (λ_ _ q=>q) λ_ _ z=>gj z) λu s1 ⟨v,H',I',r,e1,e2⟩=>?_)) I.quiet hsw);subst e1;subst e2;cases r;have I1:Inv X pins σ H' s1:=I'.unwish;refine PySem.W.callWith_F0 ⟨_,_,_,_,(I1.hok f _ ho).1⟩ ?_;refine Ac (mq (UL (E:=EB G μ h.length H' (HV (me (ds.map some) h))) (Q:=λ_ H2=>∃d hh μ',me (ds.map some) h=.ok d hh/\Ext μ h.length H' μ' hh.length H2/\Sim G μ' hh H2) S hK hb hbody hr I1.env0 L hall sm ?_) λr s' hq=>?_)
 ·cases q:me (ds.map some) h with
  |ok d hh=>exact λμ' H' v x' s' _=>⟨d,hh,μ',rfl,x',s'⟩
  |bad=>rw[q]at hD;exact hD.elim
  |ex c1 h1=>exact λμ' H' u x' s' fl=>⟨c1,h1,μ',rfl,x',s',fl⟩
 cases r with
 |ok fl=>
  cases fl with
  |ret u=>obtain⟨v,H2,I2,r2,d,hh,μ',e1,x1,s1⟩:=I1.after hq;refine kz (kz ?_);rw[e1]at hD;exact⟨σ,H2,I2,hD μ' H2 x1 s1⟩
  |next=>exact gj hq
  |brk=>exact gj hq
  |cont=>exact gj hq
 |error ev=>
  obtain⟨e,C,H2,rfl,os,bare,un,hok,fl,c,hh,μ',er,x1,sm1,e',φ,eu,g1,g2⟩:=hq;cases eu
  cases qm:me (ds.map some) h with
  |ok d h3=>rw[qm]at er;cases er
  |bad=>rw[qm]at er;cases er
  |ex c3 h3=>
  rw[qm]at er hD;cases er;obtain⟨hc,hD⟩:=hD;have I2:Inv X pins σ H2 s':=I1.call' os un hok bare (λb z=>absurd z (by simp));refine zV (P:=X.prog) (w:=X.w) (H:=H2) (base:=X.base) (env:=X.env) (outer:=X.outer) (by rw[<-hst];exact I2.ok.frames) (by rw[<-hst];exact I2.stack) hfr hok (by rw[<-hst];exact I2.stkFree) fl λh4 H4 un4 hok4 fl4 sx4=>?_;have I4:Inv X pins σ H4 { s' with heap:=h4 }:=I2.call (h':=h4) (g':=s'.gens) (d':=s'.drawn) (t':=s'.toks) (by rw[hst];exact un4) hok4 I2.bare (λb z=>absurd z (by simp));obtain⟨sm4,x4⟩:=sm1.sameX sx4 ⟨_,g1⟩;obtain⟨T,a0,w1,w2,w3,w4⟩:=id fl4;obtain⟨T0,b0,v1,_,_,_⟩:=id fl;have hC:C=.ref (G.cl c):=by have xo:cD C e T0 b0 s'.heap:=(show ObjOk X.prog X.w H2 s'.heap e _ from hok e _ v1).1;rw[v1]at g1;cases g1;obtain⟨oo,q1,q2⟩:=g2 _ xo;obtain⟨o2,vs2,q3,q4,_⟩:=xo;rw[q3]at q1;cases q1;rw[<-q4,q2]
  subst hC;have xo4:cD (.ref (G.cl c)) e T a0 h4:=(show ObjOk X.prog X.w H4 h4 e _ from hok4 e _ w1).1;obtain⟨oe,vs,y1,y2,y3,y4,y5,y6⟩:=id xo4;refine wpAny_handleBy_cons (codeAny_handlers_test (jn (pX (X:=oX X (.ref e)) (E:=λ_ _=>False) (Q:=λu s5=>u=.ref NE/\Inv X pins σ H4 s5/\s5.heap=h4) (HW _ I4) hg hm ⟨rfl,I4,rfl⟩ dn) (λcv s5 hs5=>?_) λ_ _ z=>gj z)) (by intro z;cases z);obtain⟨rfl,I5,e5⟩:=hs5;refine UI (K:=X.K) I5.kIn (by rw[e5];exact y1) y2 hx1 hx2 hx3 (hsub c hc) ?_;obtain⟨oT,ts,z1,z2,z3⟩:cQ T h4:=(show ObjOk X.prog X.w H4 h4 T _ from hok4 T _ w2).1;have l3:3<ts.size:=(cj.mp z3).1;refine codeAny_handlers_suite_as (zT (e:=e) (T:=T) (by rw[e5];exact y1) y3 y5 (by rw[e5];exact z1) z2 l3 λh6 sb6 tb6=>?_);rw[e5]at sb6;have ge6:h6.get? e=some oe:=sb6.extBut _ _ (cy w4) y1;have I6:Inv X pins σ (aM H4 T (.ext (cQ T))) { s5 with heap:=h6 }:=I5.write (x:=T) (e:=T) (o:=.ext (cQ T)) (h':=h6) (t':=s5.toks) (by rw[w2];trivial) (.inl rfl) (λb u hb q=>by rw[e5]at q;exact sb6.extBut _ _ hb q) (let ⟨oo,_,q,_⟩:=tb6;⟨oo,q⟩) (nF tb6);have se:Same H4 (aM H4 T (.ext (cQ T))):=λb o q=>by
   by_cases hb:b=T
   ·subst hb;rw[w2]at q;cases q;exact bT
   ·rw[bA hb];exact q
  have w1':(aM H4 T (.ext (cQ T))) e=some (.ext (cD (.ref (G.cl c)) e T a0)):=se _ _ w1;have I7:Inv X pins σ (aM (aM H4 T (.ext (cQ T))) e (.frz oe (.own 0))) { s5 with heap:=h6 }:=I6.write (x:=e) (e:=e) (o:=.frz oe (.own 0)) (h':=h6) (t':=s5.toks) (by rw[w1'];trivial) (.inl rfl) (λb u hb q=>q) ⟨_,ge6⟩ ⟨ge6,oe,ge6⟩;have sx7:kZ e (aM H4 T (.ext (cQ T))) (aM (aM H4 T (.ext (cQ T))) e (.frz oe (.own 0))):=λb o hb q=>by rw[bA hb];exact q
  obtain⟨sm7,x7⟩:=(sm4.same se).sameX sx7 ⟨_,w1'⟩;have xx:Ext μ h.length H' μ' hh.length (aM (aM H4 T (.ext (cQ T))) e (.frz oe (.own 0))):=x1.trans ((x4 _).trans ((Ext.same se).trans (x7 _)));generalize hH7:aM (aM H4 T (.ext (cQ T))) e (.frz oe (.own 0))=H7 at *;have rl:RelD G μ' hh.length H7 (.exc c) (.ref e):=by rw[RelD,<-hH7];exact⟨e,oe,.own 0,rfl,bT,y2,y6,vs,y3⟩
  refine yN (v:=.ref e) I7 hnd h2 (.inl l2) rfl (λs8 I8=>?_) (.inr l2);have I8':Inv (oX X (.ref e)) pins (σ.set 2 (some (.ref e))) H7 s8:=HW _ I8;have hlen:2<σ.length:=by rw[I.len];exact(az.mp h2).1
  refine jn (EO (yQ (X:=oX X (.ref e)) (i:=1) (pos:=apos) (pos':=xp) hnd h1 (.inl l1) (pW (X:=oX X (.ref e)) (pos:=ep) h2 (.inl l2) d2 c2) hsw2 (.inr l1)) pins s8 (σ.set 2 (some (.ref e))) H7 { nx:=λσ' H'=>σ'=(σ.set 2 (some (.ref e))).set 1 (some (.ref e))/\H'=H7,rt:=λ_ _=>False } I8' ⟨.ref e,da hlen,rfl,rfl⟩) (λfl9 s9 hs9=>?_) λ_ _ z=>gj z
  cases fl9 with
  |ret u=>obtain⟨_,_,_,_,_,z⟩:=hs9;exact z.elim
  |brk=>obtain⟨_,_,_,z⟩:=hs9;exact z.elim
  |cont=>obtain⟨_,_,_,z⟩:=hs9;exact z.elim
  |next=>obtain⟨σ9,H9,I9,e9,f9⟩:=hs9;subst e9;subst f9;have I9':Inv X pins _ H9 s9:=UN I8.ok I9;obtain⟨m,hn,hl⟩:=id I9'.loc;refine wpAny_nameGoes_keeps l2 hn hcls λh10 v10 hn10 hs10=>?_;exact⟨_,H9,UM I9' hnd h2 hn hl hs10 hn10,hD μ' H9 e xx sm7 rl⟩
end
def rD:Sr->Rs Dv
 | .rt d h=>.ok d h
 | .nx _ h=>.ok .non h
 |_=>.bad
def lZ (n:Nat) (d:Dv):Ev:=none::some d::ax (n - 2) none
def rF (n ncl:Nat) (mb:MS):Rs Dv->Rs Dv
 | .ok _ h1=>rD (mb (lZ n .non) h1)
 | .ex c h1=>if c<ncl then rD (mb (lZ n (.exc c)) h1)else .bad
 | .bad=>.bad
def vE (G:Cfg) (base:cw) (Nl:List Str) (params:kd) (body:bp) (scope:gh) (me:M Dv) (n ncl:Nat) (mb:MS):Sp:=λvs H Q E=>∃f c' cl ds μ h,vs=[.ref f]/\LamAt G base H μ h.length Nl params body scope f c' cl ds/\(∀x c,cl.lookup x=some c->x∈Nl)/\Sim G μ h H/\Out G E μ h.length H (rF n ncl mb (me (ds.map some) h)) (RelD G) Q
theorem HX {G:Cfg}{E:XK}{μ μ1:Nat->ah}{n n1:Nat}{H H1:Hp}{r:Sr}{Q:VK}(o:Out G E μ n H (rD r) (RelD G) Q) (x:Ext μ n H μ1 n1 H1):SOut G (λ_ _ _=>False) μ1 n1 H1 r { nx:=λ_ H'=>Q .non H',rt:=Q }:=by
 cases r with
 |nx ρ h'=>exact λμ' H' σ' y s _=>o μ' H' .non (x.trans y) s rfl
 |rt d h'=>exact λμ' H' v y s r=>o μ' H' v (x.trans y) s r
 |bk ρ h'=>exact o.elim
 |ct ρ h'=>exact o.elim
 |ex c h'=>exact o.elim
 |bad=>exact o
theorem HY {G:Cfg}{μ:Nat->ah}{n:Nat}{H:Hp}{m:Nat}{d:Dv}{v:V}{σ:St}(hl:σ.length=m) (hm:2<=m) (h1:σ[1]?=some (some v)) (r:RelD G μ n H d v):RelS G μ n H (lZ m d) σ:=by
 refine⟨by simp[lZ,hl];omega,λi d' e=>?_⟩;unfold lZ at e
 match i,e with
 |0,e=>simp at e
 |1,e=>simp at e;subst e;exact⟨v,h1,r⟩
 |i+2,e=>
  simp only[qj,qh]at e
  split at e <;> cases e
section
variable{P:bj}{w:cq}{K:aq}{mg:Str->Option af}{base:cw}{f:ah}{G:Cfg}{k:Nat}{Nm Nl:List Str}{params:kd}{body:bp}{scope:gh}{me:M Dv}{ncl:Nat}{NE:ah}{mb:MS}
theorem UP {x xn en nm q qual:Str}{st:gp}{fd:bu}{p cpos epos np xp ep apos hpos tpos zpos zp npos:Pos}{j:Nat}{rest:List gp}(Fn:Fun K q qual st f fd) (S:FnScope Nm [x] (aW st)) (hK:K=G.K)
  (hdef:iV st=.Assign [.Name xn zp] (.Constant .none j npos) zpos::.Try [.Expr (.Call (.Name x p) [] [] cpos) epos] [.ExceptHandler (some (.Name nm np)) (some en) [.Assign [.Name xn xp] (.Name en ep) apos] hpos] [] [] tpos::rest)
  (h0:Nm[0]?=some x) (h1:Nm[1]?=some xn) (h2:Nm[2]?=some en)
  (l0:(aW st).names.lookup x=some .local) (l1:(aW st).names.lookup xn=some .local) (l2:(aW st).names.lookup en=some .local)
  (d0:(x==("__debug__" : Str))=false) (c0:(x==("__classdict__" : Str))=false) (d2:(en==("__debug__" : Str))=false) (c2:(en==("__classdict__" : Str))=false) (dn:(nm==("__debug__" : Str))=false)
  (hsw:∀L cd,swapsWith (.Call (.Name x p) [] [] cpos) none epos.line (envOfC qual (aW st) L f cd)=pure false) (hsw2:∀L cd,swapsWith (.Name en ep) (some (.Name xn xp)) apos.line (envOfC qual (aW st) L f cd)=pure false)
  (hsw3:∀L cd,swapsWith (.Constant .none j npos) (some (.Name xn zp)) zpos.line (envOfC qual (aW st) L f cd)=pure false)
  (hg:(aW st).names.lookup nm=some .globalImplicit) (hm:mg nm=some (.ref NE)) (hx1:jh K (.ref NE) (.type "BaseException")=some true) (hx2:jh K (.type "type") (.type "tuple")=some false) (hx3:vk K (.ref NE) (.ref NE)=some true)
  (hsub:∀c,c<ncl->jh K (.ref (G.cl c)) (.ref NE)=some true)
  (LS:LamScope Nl scope) (hb:∀(cl:List (Str×ah)) (pm cdv ct:af),bindArgs (nt "<lambda>" G.lq params body scope cl pm cdv ct) ⟨[],[]⟩=pure [])
  (hbody:∀(f:ah) (cdv:af) (cl:List (Str×ah)) (A:cu) (outer:List Env) (s:ag) (H:Hp) (E₀ E:XK),Good (iL P w K mg base Nl G.lq scope f cdv cl A outer s H E₀) G E k->aH (iL P w K mg base Nl G.lq scope f cdv cl A outer s H E₀) G E body me)
  (hrest:∀(cdv:af) (A:cu) (outer:List Env) (s:ag) (H:Hp) (E₀ E:XK),Good (eE (bF P w base) P w K mg base Nm qual (aW st) f cdv A outer s H E₀) G E (k+1)->hO (eE (bF P w base) P w K mg base Nm qual (aW st) f cdv A outer s H E₀) G E rest mb):
  FnOk P w K mg base (bF P w base) (k+2) f fd [x] (vE G base Nl params body scope me Nm.length ncl mb):=by
 obtain⟨oc,od,kV,doc,pm,an,cdv,ct,osl,rfl,lk,hcd⟩:=Fn.ex;have hNl:2<Nm.length:=(az.mp h2).1;refine tW lk hcd S (λvs H Q E ⟨f,c',cl,ds,μ,h,e,_⟩=>by rw[e];rfl) λA outer s H vs Q E hr hsp=>?_;obtain⟨fl,c',cl,ds,μ,h,rfl,L,hall,sm,o⟩:=hsp;refine⟨λD σ H1=>σ=start Nm [.ref fl]/\H1=H/\D={ nx:=λ_ H'=>Q .non H',rt:=Q }, ?_,rfl,rfl,rfl⟩;intro pins s1 σ H1 D I ⟨eσ,eH,eD⟩;subst eH;have hσl:σ.length=Nm.length:=I.len;have hσ0:σ[0]?=some (some (.ref fl)):=by rw[eσ];rfl
 rw[hdef];have gd:Good (eE (bF P w base) P w K mg base Nm qual (aW st) f cdv A outer s H1 E) G (λ_ _ _=>False) (k+1):=uZ hr hK (λ_ _ z=>z.elim) (λ_ _ _ _ _ z=>z);have hset:(σ.set 1 (some .non))[0]?=some (some (.ref fl)):=by rw[dg (by decide)];exact hσ0
 refine nr (aU (yQ (X:=eE (bF P w base) P w K mg base Nm qual (aW st) f cdv A outer s H1 E) (i:=1) (pos:=zpos) (pos':=zp) S.nd h1 (.inl l1) (EJ (j:=j) (pos:=npos)) (hsw3 _ _) (.inl rfl) pins s1 σ H1 { nx:=λσ' H'=>σ'=σ.set 1 (some .non)/\H'=H1,rt:=λ_ _=>False } I ⟨rfl,rfl⟩) λfl2 s2 q2=>?_)
 cases fl2 with
 |ret u=>obtain⟨_,_,_,_,_,z⟩:=q2;exact z.elim
 |brk=>obtain⟨_,_,_,z⟩:=q2;exact z.elim
 |cont=>obtain⟨_,_,_,z⟩:=q2;exact z.elim
 |next=>
  obtain⟨σ2,H2,I2,e2,f2⟩:=q2;subst e2;subst f2;refine nr (aU (UO (X:=eE (bF P w base) P w K mg base Nm qual (aW st) f cdv A outer s H2 E) (G:=G) (N:=Nl) (me:=me) (ncl:=ncl) (NE:=NE) (k:=k) (D:={ nx:=uQ G (λ_ _ _=>False) mb D,rt:=λ_ _=>False })
   hK rfl rfl S.nd h0 h1 h2 (λ_=>rfl) l0 l1 l2 d0 c0 d2 c2 dn (hsw _ _) (hsw2 _ _) hg hm hx1 hx2 hx3 hsub LS hb hbody hr I2 hset L hall sm ?_) λfl3 s3 q3=>?_)
  ·cases qm:me (ds.map some) h with
   |bad=>rw[qm]at o;exact o
   |ok d hh=>rw[qm]at o;intro μ' H' x' s';refine⟨μ',lZ Nm.length .non,hh,HY (v:=.non) (by rw[ju];exact hσl) (by omega) (da (by omega)) rfl,s', ?_⟩;rw[eD];exact HX o x'
   |ex c hh=>
    rw[qm]at o;unfold rF at o;dsimp only at o
    split at o
    ·rename_i hc;refine⟨hc,λμ' H' a x' s' r'=>?_⟩;refine⟨μ',lZ Nm.length (.exc c),hh,HY (v:=.ref a) (by simp only[ju];exact hσl) (by omega) ?_ r',s', ?_⟩
     ·rw[dg (by decide),da (by simp only[ju];omega)]
     ·rw[eD];exact HX o x'
    ·exact o.elim
  ·cases fl3 with
   |ret u=>obtain⟨_,_,_,_,_,z⟩:=q3;exact z.elim
   |brk=>obtain⟨_,_,_,z⟩:=q3;exact z.elim
   |cont=>obtain⟨_,_,_,z⟩:=q3;exact z.elim
   |next=>obtain⟨σ3,H3,I3,q3⟩:=q3;exact hrest cdv A outer s H2 E _ gd hK pins s3 σ3 H3 D I3 q3
end
theorem UQ:∀(l:List af) (a b:Int) (t u:Tok) (c:af),ui l->ui (l++[.int a t,.int b u,c]):=by
 intro l a b t u c h
 fun_induction ui l with
 |case1=>trivial
 |case2 x t y u z rest ih=>exact ih h
 |case3 l h1 h2=>exact h.elim
theorem UR {pos:Pos}{cv c:af}{a b:Int}{t u:Tok}:∀(l:List af),ui l->codeAmong pos (l++[.int a t,.int b u,c])=some cv->codeAmong pos l=some cv∨cv=c:=by
 intro l h
 fun_induction ui l with
 |case1=>
  intro e;simp only[List.nil_append,codeAmong]at e
  split at e
  ·cases e;exact .inr rfl
  ·cases e
 |case2 x t y u z rest ih=>
  intro e;simp only[List.cons_append,codeAmong]at e ⊢
  split at e
  ·rename_i hc;rw[if_pos hc];exact .inl e
  ·rename_i hc;rw[if_neg hc];exact ih h e
 |case3 l h1 h2=>exact h.elim
def lA (mg:Str->Option af) (base:cw):Prop:=∃bm ob,mg "__builtins__" = some (.ref bm)/\bm≠builtinsNs/\base.get? bm=some ob/\ob.cls=.type "module"/\ob.dict=some builtinsNs/\ob.data=.plain
def HZ (H H':Hp):Prop:=∀a o,(∀ps,o≠.tbl ps)->H a=some o->H' a=some o
section
variable{X:Cx}{G:Cfg}{params:kd}{body:bp}{scope:gh}{lpos:Pos}{c P:ah}
theorem US (hdef:defaultsOf params X.env=([],[])) (hq:X.env.qual ++ "<lambda>" = G.lq) (hP:G.tab=some P) (hcode:X.env.code=.ref c) (hC:jy X.base c P) (hB:lA X.mg X.base)
  (hfree:∀x,(x,bz)∈scope.names->X.env.kindOf x=some .cell∨X.env.kindOf x=some .free):
  PE X (.Lambda params body scope lpos) (λσ H Q=>TabOk G H/\∀f c' pm ctv oc H1,HZ H H1->TabOk G H1->H1 f=some (.frz (jo "<lambda>" G.lq params body scope (cS X.env scope.names []) pm c' ctv) (.own 0))->H1 c'=some (.frz oc (.own 0))->uH G.lq oc->Q (.ref f) H1):=by
 intro pins s σ H Q I ⟨hT,h⟩;obtain⟨ps,t1,t2,t3⟩:=hT P hP;have gP:s.heap.get? P=some (rg ps):=I.hok P _ t1;have hcl:closureFor scope X.env=pure (cS X.env scope.names []):=uB λx hx=>I.ok.has x (hfree x hx);have hgs:s.heap.Ns dm X.mg:=I.mod.glob.keeps I.bk;obtain⟨bm,ob,b1,b2,b3,b4,b5,b6⟩:=hB;have b3':=I.bk _ _ b3;have hgP:dm≠P:=λq=>by obtain⟨o,es,ep,e,hd,_⟩:=hgs;rw[q,gP]at e;cases e;cases hd
 have hbP:bm≠P:=λq=>by rw[q,gP]at b3';cases b3';cases b4
 have hbG:bm≠dm:=λq=>by obtain⟨o,es,ep,e,hd,_⟩:=hgs;rw[<-q,b3']at e;cases e;rw[hd]at b6;cases b6
 have hba:s.heap.BuiltinsAt X.mg P:=⟨bm,ob,b1,b2,hbG,hbP,b3',b4,b5,b6⟩
 refine PySem.W.kla_eval hdef ?_;rw[hq]
 cases hc:codeAmong lpos ps.toList with
 |some cv=>obtain⟨c',oc,ec,h2,h3⟩:=t3 lpos cv hc;subst ec;refine PySem.W.kla_makeFunctionHit (mg:=X.mg) hcl I.ok.glob hgs hcode (hC.keeps I.bk) gP t2 hc hba λctv h' tk hk hsz=>?_;have hn:H h'.objs.size=none:=I.hok.fresh hsz;have kk:∀b u,s.heap.get? b=some u->(h'.push { cls:=.type "function",data:=.func (nt "<lambda>" G.lq params body scope (cS X.env scope.names []) ((X.mg "__name__").getD .none) (.ref c') ctv) }).get? b=some u:=λb u q=>aj _ (hk b u q);have gf:=ay h' (o:=jo "<lambda>" G.lq params body scope (cS X.env scope.names []) ((X.mg "__name__").getD .none) c' ctv) rfl;have I1:=I.laid (a:=h'.objs.size) (o:=.frz (jo "<lambda>" G.lq params body scope (cS X.env scope.names []) ((X.mg "__name__").getD .none) c' ctv) (.own 0)) (t':=tk) kk hsz ⟨gf,_,gf⟩;have sm:Same H (aM H h'.objs.size (.frz (jo "<lambda>" G.lq params body scope (cS X.env scope.names []) ((X.mg "__name__").getD .none) c' ctv) (.own 0))):=cJ hn;exact⟨.ref h'.objs.size,_,I1,rfl,h _ c' _ ctv oc _ (λa o _ q=>sm a o q) (hT.keep λa o _ _ q=>sm a o q) bT (sm _ _ h2) h3⟩
 |none=>
  refine PySem.W.kla_makeFunction (mg:=X.mg) hcl I.ok.glob hgs hcode (hC.keeps I.bk) gP t2 hc hgP hba λc' ctv h' tk hx hge hlt hrec htb=>?_;obtain⟨c₂,oc,vs,t,e2,hoc,hd,hv⟩:=hrec;cases e2;generalize hfo:jo "<lambda>" G.lq params body scope (cS X.env scope.names []) ((X.mg "__name__").getD .none) c' ctv=fo;have nfo:fo.isFreed=false:=by rw[<-hfo];rfl
  have gf:(h'.push fo).get? h'.objs.size=some fo:=ay h' nfo;have goc:(h'.push fo).get? c'=some oc:=aj _ hoc;have gP':=aj fo htb;generalize hps:ps++#[rawInt lpos.line,rawInt lpos.col,.ref c']=ps' at gP';have lP:P<s.heap.objs.size:=ao gP;have kk:∀b u,b≠P->s.heap.get? b=some u->(h'.push fo).get? b=some u:=λb u hb q=>aj _ (hx b u hb q);have lt0:∀b u,s.heap.get? b=some u->b<s.heap.objs.size:=λb u q=>ao q;have nPc:P≠c':=bc (ar lP hge);have nPf:P≠h'.objs.size:=bc (ar lP (dk hge (gr hlt)));have ncf:c'≠h'.objs.size:=bc hlt;have lH:∀b o,H b=some o->b<s.heap.objs.size:=λb o q=>I.hok.lt q;have H1e:∀b,b≠P->b<s.heap.objs.size->aM (aM (aM H P (.tbl ps')) c' (.frz oc (.own 0))) h'.objs.size (.frz fo (.own 0)) b=H b:=λb h1 h2=>by rw[bA (bc (ar h2 (dk hge (gr hlt)))),bA (bc (ar h2 hge)),bA h1]
  have eP:aM (aM (aM H P (.tbl ps')) c' (.frz oc (.own 0))) h'.objs.size (.frz fo (.own 0)) P=some (.tbl ps'):=by rw[bA nPf,bA nPc,bT]
  have ec:aM (aM (aM H P (.tbl ps')) c' (.frz oc (.own 0))) h'.objs.size (.frz fo (.own 0)) c'=some (.frz oc (.own 0)):=by rw[bA ncf,bT]
  have ef:aM (aM (aM H P (.tbl ps')) c' (.frz oc (.own 0))) h'.objs.size (.frz fo (.own 0)) h'.objs.size=some (.frz fo (.own 0)):=bT;have cases1:∀b o,aM (aM (aM H P (.tbl ps')) c' (.frz oc (.own 0))) h'.objs.size (.frz fo (.own 0)) b=some o->(b=h'.objs.size/\o=.frz fo (.own 0))∨(b=c'/\o=.frz oc (.own 0))∨(b=P/\o=.tbl ps')∨(b≠P/\H b=some o):=λb o q=>by
   by_cases q1:b=h'.objs.size
   ·subst q1;rw[bT]at q;cases q;exact .inl ⟨rfl,rfl⟩
   rw[bA q1]at q
   by_cases q2:b=c'
   ·subst q2;rw[bT]at q;cases q;exact .inr (.inl ⟨rfl,rfl⟩)
   rw[bA q2]at q
   by_cases q3:b=P
   ·subst q3;rw[bT]at q;cases q;exact .inr (.inr (.inl ⟨rfl,rfl⟩))
   rw[bA q3]at q;exact .inr (.inr (.inr ⟨q3,q⟩))
  generalize aM (aM (aM H P (.tbl ps')) c' (.frz oc (.own 0))) h'.objs.size (.frz fo (.own 0))=H1 at *;have keepO:∀b o,(∀ps,o≠.tbl ps)->H b=some o->H1 b=some o:=λb o hn q=>by rw[H1e b (λz=>by subst z;rw[t1]at q;cases q;exact hn _ rfl) (lH b o q)];exact q
  have un:Un X.fs [] H H1 s.heap (h'.push fo):=by
   have nP:∀b,H b=none->b≠P:=λb n z=>by subst z;rw[t1]at n;cases n
   refine⟨λb o q n _ _=>kk b o (nP b n) q,λb o q n _ _=>⟨o.slots,kk b o (nP b n) q⟩,λb o q n _=>by rw[H1e b (nP b n) (lt0 b o q)];exact n,λb o q _=>?_,λb xs q=>keepO b _ (λ_ z=>by cases z) q,λb o u q=>keepO b _ (λ_ z=>by cases z) q,λb qs q=>?_⟩
   ·by_cases hb:b=P
    ·subst hb;exact⟨_,gP'⟩
    ·exact⟨_,kk b o hb q⟩
   ·by_cases hb:b=P
    ·subst hb;rw[t1]at q;cases q;exact⟨#[rawInt lpos.line,rawInt lpos.col,.ref c'],by rw[eP,hps]⟩
    ·exact⟨#[],by rw[H1e b hb (lH b _ q),q];simp⟩
  have hok1:HOk X.prog X.w H1 (h'.push fo):=λb o q=>by
   rcases cases1 b o q with⟨rfl,rfl⟩|⟨rfl,rfl⟩|⟨rfl,rfl⟩|⟨hb,q⟩
   ·exact⟨gf,_,gf⟩
   ·exact⟨goc,_,goc⟩
   ·exact gP'
   ·refine(I.hok b o q).stay (λb2 u hb2 z=>kk b2 u ?_ z) (λb2 z=>keepO b2 _ (λ_ z=>by cases z) z) λb2 xs z=>keepO b2 _ (λ_ z=>by cases z) z
    rcases hb2 with rfl|hb2
    ·exact hb
    ·rintro rfl;rw[t1]at hb2;cases hb2
  have I1:Inv X pins σ H1 { s with heap:=h'.push fo,toks:=tk }:=I.un un hok1;refine⟨.ref h'.objs.size,H1,I1,rfl,h h'.objs.size c' ((X.mg "__name__").getD .none) ctv oc H1 keepO ?_ (by rw[hfo];exact ef) ec ⟨vs,t,hd,hv⟩⟩;intro P' eP';rw[hP]at eP';cases eP';have hl:ps'.toList=ps.toList++[rawInt lpos.line,rawInt lpos.col,.ref c']:=by rw[<-hps];simp
  refine⟨ps',eP,by rw[hl];exact UQ _ _ _ _ _ _ t2,λpos cv q=>?_⟩;rw[hl]at q
  rcases UR _ t2 q with q|q
  ·obtain⟨a,oa,z1,z2,z3⟩:=t3 pos cv q;exact⟨a,oa,z1,keepO a _ (λ_ z=>by cases z) z2,z3⟩
  ·exact⟨c',oc,q,ec,vs,t,hd,hv⟩
end
def nI:List Nat->Ev->Option (List Dv)
 | [],_=>some []
 |i::r,ρ=>match ρ[i]? with
  |some (some d)=>(match nI r ρ with
   |some ds=>some (d::ds)
   |none=>none)
  |_=>none
theorem IA {ρ:Ev}:∀{caps:List Nat}{ds:List Dv},nI caps ρ=some ds->ds.length=caps.length/\∀(i:Nat) (d:Dv),ds[i]?=some d->∃j,caps[i]?=some j/\ρ[j]?=some (some d)
 | [],ds,e=>by unfold nI at e;cases e;exact⟨rfl,λi d e=>by simp at e⟩
 |j::r,ds,e=>by
  unfold nI at e
  split at e
  ·rename_i d0 h0
   split at e
   ·rename_i ds0 h1;cases e;obtain⟨l,k⟩:=IA h1;refine⟨by simp[l],λi d q=>?_⟩
    cases i with
    |zero=>simp at q;subst q;exact⟨j,rfl,h0⟩
    |succ i=>exact k i d (by simpa using q)
   ·cases e
  ·cases e
def jT (caps:List Nat) (n ncl:Nat) (mb:MS) (me:M Dv):M Dv:=λρ h=>match nI caps ρ with
 |some ds=>rF n ncl mb (me (ds.map some) h)
 |none=>.bad
def iM (base h:cw) (cs:List ah):cw:=PySem.W.hideAll h ((bf h.objs.size).filter λb=>!((base.get? b).isSome||cs.contains b))
theorem AD {base h:cw}{cs:List ah}{b:ah}{o:Obj}(e:h.get? b=some o) (hb:(∃u,base.get? b=some u)∨b∈cs):(iM base h cs).get? b=some o:=
 zu _ e λz=>by
  have:=(kn.mp z).2
  rcases hb with⟨u,hb⟩|hb
  ·simp[hb]at this
  ·simp[hb]at this
theorem IB {base h:cw}{cs:List ah}{b:ah}{o:Obj}(e:(iM base h cs).get? b=some o):h.get? b=some o/\((∃u,base.get? b=some u)∨b∈cs):=by
 have e1:=Ab _ e;refine⟨e1, ?_⟩
 by_cases hb:(∃u,base.get? b=some u)∨b∈cs
 ·exact hb
 ·exfalso
  have hm:b∈(bf h.objs.size).filter λb=>!((base.get? b).isSome||cs.contains b):=by
   refine kn.mpr ⟨bw.mpr (ao e1), ?_⟩
   cases q:base.get? b with
   |some u=>exact absurd (.inl ⟨u,q⟩) hb
   |none=>have:b∉cs:=λz=>hb (.inr z);simp[this]
  have:=zr (h:=h) _ hm;unfold iM at e;rw[this]at e;cases e
theorem Out.ext {α β:Type}{G:Cfg}{E:XK}{μ μ1:Nat->ah}{n n1:Nat}{H H1:Hp}{r:Rs α}{R:(Nat->ah)->Nat->Hp->α->β->Prop}{Q:β->Hp->Prop}(o:Out G E μ n H r R Q) (x:Ext μ n H μ1 n1 H1):Out G E μ1 n1 H1 r R Q:=by
 cases r with
 |bad=>exact o
 |ex c h'=>exact λμ' H' u y=>o μ' H' u (x.trans y)
 |ok d h'=>exact λμ' H' u y=>o μ' H' u (x.trans y)
theorem IC {env:Env}{scope:gh}{x:Str}{c:ah}(hf:∀x,(x,bz)∈scope.names->∃c,env.cells.lookup x=some c) (e:(cS env scope.names []).lookup x=some c):(x,bz)∈scope.names/\env.cells.lookup x=some c:=by
 rcases uC _ _ e with q|⟨q1,q2⟩
 ·cases q
 ·obtain⟨c',h'⟩:=hf x q1;rw[h']at q2;subst q2;exact⟨q1,h'⟩
section
variable{X:Cx}{G:Cfg}{E:XK}{k:Nat}{q x:Str}{p pos lpos:Pos}{params:kd}{body:bp}{scope:gh}{c P fr:ah}{fdr:bu}{Nl:List Str}{me:M Dv}{n ncl j:Nat}{mb:MS}{caps:List Nat}
theorem UT (g:Good X G E k) (hj:j<=k) (hfn:∀y,X.fn y=true)
  (F:∀base,X.K.In base->base.Ns dm X.mg->FnOk X.prog X.w X.K X.mg base (bF X.prog X.w base) j fr fdr [x] (vE G base Nl params body scope me n ncl mb))
  (hg:Gl X q) (hm:X.mg q=some (.ref fr)) (hk:jv X.K (.ref fr)=true) (hb:Binds X.K fdr [x] [])
  (hdef:defaultsOf params X.env=([],[])) (hq:X.env.qual ++ "<lambda>" = G.lq) (hP:G.tab=some P) (hcode:X.env.code=.ref c) (hC:jy X.base c P) (hB:lA X.mg X.base)
  (LS:LamScope Nl scope) (hkind:∀y∈Nl,X.env.scope.names.lookup y=some .cell) (hcl:caps.length=Nl.length) (hcap:∀(i j:Nat) (y:Str),caps[i]?=some j->Nl[i]?=some y->X.N[j]?=some y)
  (hdb:(q==("__debug__" : Str))=false) (he:au [.Lambda params body scope lpos] X.env=[(false,eval (.Lambda params body scope lpos) X.env)]:=by rfl):
  aH X G E (.Call (.Name q p) [.Lambda params body scope lpos] [] pos) (jT caps n ncl mb me):=by
 intro hK pins s σ H Q I ⟨μ,ρ,h,rs,sm,o⟩;unfold jT at o
 cases hcd:nI caps ρ with
 |none=>rw[hcd]at o;exact o.elim
 |some ds=>
 rw[hcd]at o;obtain⟨hdl,hdg⟩:=IA hcd;have hfree:∀y,(y,bz)∈scope.names->X.env.kindOf y=some .cell∨X.env.kindOf y=some .free:=λy hy=>.inl (hkind y (LS.all _ hy rfl));have hfc:∀y,(y,bz)∈scope.names->∃c,X.env.cells.lookup y=some c:=λy hy=>I.ok.has y (hfree y hy);refine ll (pX I hg hm ?_ hdb);refine Ae (h₀:=X.base) I.ok.mod.kin hk (aU (gY (US (G:=G) (lpos:=lpos) (body:=body) hdef hq hP hcode hC hB hfree) jN he pos pins s σ H
  (λvs H1=>∃f c' pm ctv oc,vs=[.ref f]/\HZ H H1/\TabOk G H1/\H1 f=some (.frz (jo "<lambda>" G.lq params body scope (cS X.env scope.names []) pm c' ctv) (.own 0))/\H1 c'=some (.frz oc (.own 0))/\uH G.lq oc) I
  ⟨sm.tab,λf c' pm ctv oc H1 st tb e1 e2 e3=>⟨f,c',pm,ctv,oc,rfl,st,tb,e1,e2,e3⟩⟩) λus s1 ⟨vs,H1,I1,r,f,c',pm,ctv,oc,ev,st,tb,e1,e2,e3⟩=>⟨I1.kIn, ?_⟩) he rfl
 subst ev;generalize hcs:cS X.env scope.names []=cl at *;have kb:∀b u,X.base.get? b=some u->(iM X.base s1.heap (cl.map (·.2))).get? b=some u:=λb u e=>AD (I1.bk _ _ e) (.inl ⟨u,e⟩);have clc:∀y cc,(y,cc)∈cl->cl.lookup y=some cc->X.env.cells.lookup y=some cc:=λy cc _ e=>(IC hfc (by rw[hcs];exact e)).2;have memc:∀b,b∈cl.map (·.2)->∃y,X.env.cells.lookup y=some b:=λb hb=>by
  obtain⟨⟨y,cc⟩,hm1,rfl⟩:=ck.mp hb;have:∀(l:List (Str×jr)) (acc:List (Str×ah)),(∀y cc,(y,cc)∈acc->X.env.cells.lookup y=some cc)->(∀y,(y,bz)∈l->∃c,X.env.cells.lookup y=some c)->∀y cc,(y,cc)∈cS X.env l acc->X.env.cells.lookup y=some cc:=by
   intro l
   induction l with
   |nil=>exact λacc h1 _=>h1
   |cons a l ih=>
    obtain⟨y0,k0⟩:=a;intro acc h1 h2;rw[cS];refine ih _ (λy cc hm2=>?_) λy hy=>h2 y (av _ hy)
    cases hk0:k0==bz with
    |true=>
     rw[hk0,if_pos rfl]at hm2
     rcases bg.mp hm2 with z|z
     ·cases z;have ek:k0=.free:=by cases k0 <;> first|rfl|cases hk0
      subst ek;obtain⟨c3,h3⟩:=h2 y0 (bh ..);rw[h3];rfl
     ·exact h1 _ _ z
    |false=>rw[hk0,if_neg (by simp)]at hm2;exact h1 _ _ hm2
  exact⟨y,this scope.names [] (λ_ _ z=>by cases z) hfc y cc (by rw[hcs];exact hm1)⟩
 have M0:=I1.ok.mod;have nsk:∀{a:ah}{m:Str->Option af},X.base.Ns a m->(iM X.base s1.heap (cl.map (·.2))).Ns a m:=λhn=>hn.keeps kb;have hM:Mod X.K X.mg (iM X.base s1.heap (cl.map (·.2))):=⟨M0.kin.keeps kb,nsk M0.glob,(let ⟨mb,a,b⟩:=M0.blt;⟨mb,nsk a,b⟩),M0.nolimit.keeps kb⟩
 have hbs:∀b u,(iM X.base s1.heap (cl.map (·.2))).get? b=some u->s1.heap.get? b=some u/\H1 b=none:=λb u e=>by
  obtain⟨g1,g2⟩:=IB e;refine⟨g1, ?_⟩
  rcases g2 with⟨u',g2⟩|g2
  ·exact(I1.bs _ _ g2).2
  ·obtain⟨y,hy⟩:=memc b g2;exact I1.freeC y b hy
 have nbf:∀b∈cH X.stack,(iM X.base s1.heap (cl.map (·.2))).get? b=none:=λb hb=>by
  cases qq:(iM X.base s1.heap (cl.map (·.2))).get? b with
  |none=>rfl
  |some u=>
   exfalso
   obtain⟨g1,g2⟩:=IB qq
   rcases g2 with⟨u',g2⟩|g2
   ·have:=(I1.stack.mem hb).1;rw[this]at g2;cases g2
   ·obtain⟨y,hy⟩:=memc b g2
    rcases bg.mp (I1.stkSub b hb)with z|z
    ·exact I1.cne y b hy z
    ·obtain⟨v0,ob,ho1,hd1⟩:=I1.cell y b hy;have fm:∀z∈X.fs,z<X.s₀.heap.objs.size:=λz hz=>by obtain⟨_,o2,h2,_⟩:=I1.ok.funs.mem hz;exact ao h2
     exact absurd (ar (fm b z) (I1.ok.cab y b (hfn y) hy)) (fj _)
 have hfun:s1.heap.FunFrames (iM X.base s1.heap (cl.map (·.2))) X.stack:=by
  have all:∀(l:List Env),(∀b∈cH l,b∈cH X.stack)->s1.heap.FunFrames X.base l->s1.heap.FunFrames (iM X.base s1.heap (cl.map (·.2))) l:=by
   intro l
   induction l with
   |nil=>intro _ _;trivial
   |cons env r ih=>
    intro hs hl;obtain⟨hk',⟨L,o',hf',hn',ho',hd'⟩,hr'⟩:=hl;have hL:L∈cH (env::r):=by unfold cH;rw[cp,hf'];exact bh
    exact⟨hk',⟨L,o',hf',nbf L (hs L hL),ho',hd'⟩,ih (λb hb=>hs b (by unfold cH;rw[cp,hf'];exact av _ hb)) hr'⟩
  exact all X.stack (λ_ hb=>hb) I1.stack
 have e0:Env0 X.prog X.w X.K X.mg (iM X.base s1.heap (cl.map (·.2))) X.A X.stack s1 H1:=⟨I1.ok.frames,hM,hbs,lr (zq _ _),hfun,I1.stkFree,I1.hok,I1.bare⟩
 have xt:Ext μ h.length H μ h.length H1:=⟨ak _,λ_ _=>rfl,λa u im z=>st a u (λps w=>by subst w;exact im) z⟩
 have sm1:Sim G μ h H1:=⟨sm.inj,λi ob z=>by
  have r0:=sm.ob i ob z
  cases ob with
  |lst xs=>obtain⟨vs,z1,z2⟩:=r0;exact⟨vs,st _ _ (λ_ w=>by cases w) z1,RelDL.mono xt _ _ z2⟩,tb⟩
 have look:∀y cc,cl.lookup y=some cc->(y,bz)∈scope.names/\X.env.cells.lookup y=some cc:=λy cc e=>IC hfc (by rw[hcs];exact e);have memL:∀y cc,cl.lookup y=some cc->cc∈cl.map (·.2):=λy cc e=>ck.mpr ⟨(y,cc),ff e,rfl⟩;have L:LamAt G (iM X.base s1.heap (cl.map (·.2))) H1 μ h.length Nl params body scope f c' cl ds:=by
  refine⟨⟨pm,ctv,e1⟩,⟨oc,e2,e3⟩,λy z cc a b=>I1.ok.inj y z cc (look y cc a).2 (look z cc b).2,hdl.trans hcl,λi y hy=>?_,λy cc e=>?_,λi y cc d hy hd e=>?_⟩
  ·have hf1:=LS.fr y (bx hy);have:=qE (env:=X.env) (x:=y) scope.names [] (.inl (ff hf1));rw[hcs]at this;exact⟨_,this⟩
  ·obtain⟨v0,ob,ho1,hd1⟩:=I1.cell y cc (look y cc e).2;exact⟨ob,v0,AD ho1 (.inr (memL y cc e)),hd1⟩
  ·obtain⟨jj,hjj,hρ⟩:=hdg i d hd;obtain⟨v,hv,rd⟩:=rs.at_ jj d hρ;have hNj:=hcap i jj y hjj hy;have hyk:=hkind y (bx hy);obtain⟨m,hn,hl⟩:=I1.loc;obtain⟨u,ru,lk⟩:=hl jj y v hNj hv (.inr (.inl hyk))
   rcases lk with⟨kl,_⟩|⟨_,c4,ec4,ob,ho1,hd1⟩
   ·have kl':X.env.scope.names.lookup y=some .local:=kl;rw[hyk]at kl';cases kl'
   ·rw[(look y cc e).2]at ec4;cases ec4;exact⟨ob,u,v,AD ho1 (.inr (memL y cc e)),hd1,ru,RelD.mono xt _ _ rd⟩
 have hall:∀y cc,cl.lookup y=some cc->y∈Nl:=λy cc e=>LS.all _ (look y cc e).1 rfl;have hlen:(us++([]:List af)).length=[x].length:=by rw[jg,<-r.length];rfl
 have hbt:=hb s1 us I1.kIn hlen;rw[jg]at hbt;refine Ac (mq ((F _ hM.kin hM.glob).run X.A X.stack s1 H1 ⟨us,[]⟩ us [.ref f] Q E (g.room.mono hj) e0 hbt r ⟨f,c',cl,ds,μ,h,rfl,L,hall,sm1,o.ext xt⟩) λrr s' hq'=>?_)
 cases rr with
 |ok fl=>
  cases fl with
  |ret u=>exact I1.after hq'
  |next=>exact gj hq'
  |brk=>exact gj hq'
  |cont=>exact gj hq'
 |error ev=>
  obtain⟨e,C,H',eu,os,bare,un,hok,fl,hE⟩:=hq';refine g.pas pins σ H1 s1 ev s' I1 ⟨e,C,H',eu,os,bare,un,hok, ?_,hE⟩;obtain⟨T,a0,w1,w2,w3,w4⟩:=fl;refine⟨T,a0,w1,w2, ?_,w4⟩
  cases qq:X.base.get? e with
  |none=>rfl
  |some u=>have:=kb e u qq;rw[w3]at this;cases this
end
section
variable{X:Cx}{G:Cfg}
open Classical in
noncomputable def dX (H:Hp) (tx:Dt) (u:af):Bool:=decide (∃v t,RelV v u/\Den iY H t v/\bN t tx=true)
open Classical in
theorem ID {H:Hp}{tx t:Dt}{u:af}{v:V}(r:RelV v u) (d:Den iY H t v):dX H tx u=bN t tx:=by
 unfold dX
 cases q:bN t tx with
 |true=>exact decide_eq_true ⟨v,t,r,d,q⟩
 |false=>refine decide_eq_false λ⟨v',t',r',d',q'⟩=>?_;have e:=r'.inj r;subst e;rw[Den.inj t' t v' d' d,q]at q';cases q'
theorem rG {H:Hp}{tx:Dt}:∀{ts:List Dt}{vs:List V}{us:List af},DenL iY H ts vs->Vals vs us->us.any (dX H tx)=ts.any λt=>bN t tx
 | [],_,_,d,r=>by rw[DenL]at d;subst d;cases r;rfl
 |t::ts,_,_,d,r=>by
  rw[DenL]at d;obtain⟨v,rr,rfl,d1,d2⟩:=d
  cases r with
  |cons r1 r2=>rw[List.any_cons,List.any_cons,ID r1 d1,rG d2 r2]
def vF (K:aq) (neg:Bool):R2:=λx y H Q=>∃a vs ts tx,y=.ref a/\(SqL K H a vs∨SqT K H a vs)/\DenL iY H ts vs/\Den iY H tx x/\(∀t∈ts,eQ t<=cE/\nod t=true)/\nod tx=true/\Q (.bl (if neg then !(ts.any λt=>bN t tx)else ts.any λt=>bN t tx)) H
theorem vG {pins:List (ah×Obj)}{σ:St}{H:Hp}{s:ag}{x:V}{v:af}{vs:List V}{its:List af}{ts:List Dt}{tx:Dt}(hu:X.A.units+64<cLine) (I:Inv X pins σ H s) (rx:RelV x v) (r:Vals vs its) (d:DenL iY H ts vs) (dx:Den iY H tx x)
  (ht:∀t∈ts,eQ t<=cE/\nod t=true) (nx:nod tx=true):∀y,y∈its.toArray->tq X.A.in1 s y v (dX H tx y):=λy hy=>by
 have hy':y∈its:=by simpa using hy
 obtain⟨j,hj,e⟩:=iq.mp hy';have hl:=r.length;obtain⟨u,eu,ru⟩:=r.get (i:=j) (x:=vs[j]'(by omega)) (ba (by omega));have:u=y:=by rw[ba hj,e]at eu;cases eu;rfl
 subst this;obtain⟨t,et,dt⟩:=d.get (i:=j) (ba (by omega:j<vs.length));obtain⟨h1,h2⟩:=ht t (bx et);rw[ID ru dt];exact(zI I.hok cE X.A.in1 t tx _ x _ v h1 (by show X.A.units+1+cE+1<cLine;unfold cE;omega) h2 nx dt dx ru rx).2
theorem IE (hu:X.A.units+64<cLine):OpR X (compareOp .In) (vF X.K false):=by
 intro pins s σ H x y v u Q I r1 r2 ⟨a,vs,ts,tx,e,hs,d,dx,ht,nx,q⟩;subst e;cases r2
 rcases hs with hs|hs
 ·obtain⟨its,r,pl,hz⟩:=I.list hs;refine SeqAt.in_listAt (dX H tx) pl.isList (vG hu I r1 r d dx ht nx) ?_;exact⟨.bl _,H,I,by rw[show its.toArray.any (dX H tx)=its.any (dX H tx)by simp,rG d r];rfl,q⟩
 ·obtain⟨its,r,pl,hz⟩:=I.tuple hs;refine SeqAt.in_tupleAt (dX H tx) pl (vG hu I r1 r d dx ht nx) ?_;exact⟨.bl _,H,I,by rw[show its.toArray.any (dX H tx)=its.any (dX H tx)by simp,rG d r];rfl,q⟩
theorem IF (hu:X.A.units+64<cLine):OpR X (compareOp .NotIn) (vF X.K true):=by
 intro pins s σ H x y v u Q I r1 r2 ⟨a,vs,ts,tx,e,hs,d,dx,ht,nx,q⟩;subst e;cases r2
 rcases hs with hs|hs
 ·obtain⟨its,r,pl,hz⟩:=I.list hs;refine SeqAt.notIn_listAt (dX H tx) pl.isList (vG hu I r1 r d dx ht nx) ?_;exact⟨.bl _,H,I,by rw[show its.toArray.any (dX H tx)=its.any (dX H tx)by simp,rG d r];rfl,q⟩
 ·obtain⟨its,r,pl,hz⟩:=I.tuple hs;refine SeqAt.notIn_tupleAt (dX H tx) pl (vG hu I r1 r d dx ht nx) ?_;exact⟨.bl _,H,I,by rw[show its.toArray.any (dX H tx)=its.any (dX H tx)by simp,rG d r];rfl,q⟩
def mD (scr:List Int) (neg:Bool) (x c:Dv) (h:Hs):Rs Dv:=match fY scr c h with
 |some ys=>match bQ (bR cE h) ys,bR cE h x with
  |some ts,some tx=>.ok (.bl (if neg then !(ts.any λt=>bN t tx)else ts.any λt=>bN t tx)) h
  |_,_=>.bad
 |none=>.bad
theorem IG {μ:Nat->ah}{h:Hs}{H:Hp}(s:Sim G μ h H):∀{xs:List Dv}{vs:List V}{ts:List Dt},RelDL G μ h.length H xs vs->bQ (bR cE h) xs=some ts->DenL iY H ts vs/\∀t∈ts,eQ t<=cE/\nod t=true
 | [],_,_,r,e=>by cases e;rw[RelDL]at r;subst r;exact⟨DenL.nil,λt ht=>by simp at ht⟩
 |x::xs,_,_,r,e=>by
  rw[RelDL]at r;obtain⟨v,rr,rfl,r1,r2⟩:=r;unfold bQ at e
  cases q:bR cE h x with
  |none=>rw[q]at e;cases e
  |some y=>
   rw[q]at e;dsimp only at e
   cases q2:bQ (bR cE h) xs with
   |none=>rw[q2]at e;cases e
   |some ys=>
    rw[q2]at e;cases e;obtain⟨a1,a2,a3⟩:=oJ s _ x v y r1 q;obtain⟨b1,b2⟩:=IG s r2 q2;refine⟨DenL.cons a1 b1,λt ht=>?_⟩
    rcases bg.mp ht with rfl|ht
    ·exact⟨a2,a3⟩
    ·exact b2 t ht
theorem UU (neg:Bool):eG G (vF G.K neg) (mD G.scr neg):=by
 intro E μ h H x y vx vy Q s rx ry o;unfold mD at o
 cases q:fY G.scr y h with
 |none=>rw[q]at o;exact o.elim
 |some ys=>
  rw[q]at o;dsimp only at o
  split at o
  ·rename_i ts tx e1 e2;obtain⟨a,vs,rfl,hs,r⟩:=zR s ry q;obtain⟨b1,b2⟩:=IG s r e1;obtain⟨c1,c2,c3⟩:=oJ s _ x vx tx rx e2;exact⟨a,vs,ts,tx,rfl,hs,b1,c1,b2,c3,o.val s rfl⟩
  ·exact o.elim
end
section
variable{X:Cx}{G:Cfg}
theorem IH {M:vq}{A:cu}{E:af->ag->Prop}{s:ag}{x:V}{u:af}{b:Bool}{Q:Bool->ag->Prop}(r:RelV x u) (q:Q (decide (x=.bl b)) s):wpAny M A (isSame u (.bool b)) Q E s:=by
 cases x with
 |non=>cases r;exact ai q
 |bl c=>
  cases r;refine ai ?_;have:decide (V.bl c=V.bl b)=(tj c==tj b):=by cases c <;> cases b <;> rfl
  rw[this]at q;exact q
 |int i=>obtain⟨t,rfl⟩:=r;exact ai q
 |str i=>obtain⟨t,rfl⟩:=r;exact ai q
 |byt i=>obtain⟨t,rfl⟩:=r;exact ai q
 |flt i=>obtain⟨t,rfl⟩:=r;exact ai q
 |ref a=>cases r;exact ai q
 |ty n=>cases r;exact ai q
def AE (neg:Bool):R2:=λx y H Q=>∃b,y=.bl b/\Q (.bl (if neg then !decide (x=.bl b)else decide (x=.bl b))) H
theorem UW:OpR X (compareOp .Is) (AE false):=by intro pins s σ H x y v u Q I rx ry ⟨b,e,q⟩;subst e;cases ry;exact aa (IH rx (ai ⟨.bl _,H,I,rfl,q⟩))
theorem UX:OpR X (compareOp .IsNot) (AE true):=by intro pins s σ H x y v u Q I rx ry ⟨b,e,q⟩;subst e;cases ry;exact aa (IH rx (ai ⟨.bl _,H,I,rfl,q⟩))
def mE:Dv->Dv->Option Bool
 | .non,.non=>some true
 |_,.non=>some false
 | .bl a,.bl b=>some (a==b)
 |_,.bl _=>some false
 |_,_=>none
def gO (neg:Bool) (x y:Dv) (h:Hs):Rs Dv:=match mE x y with
 |some b=>.ok (.bl (if neg then !b else b)) h
 |none=>.bad
def AF (neg:Bool):R2:=λx y H Q=>(y=.non/\Q (.bl (if neg then !decide (x=.non)else decide (x=.non))) H)∨AE neg x y H Q
theorem UY:OpR X (compareOp .Is) (AF false):=OpR.or PZ UW
theorem UZ:OpR X (compareOp .IsNot) (AF true):=OpR.or P0 UX
theorem VA {μ:Nat->ah}{n:Nat}{H:Hp}{x:Dv}{v:V}{b:Bool}(r:RelD G μ n H x v) (e:mE x .non=some b):decide (v=.non)=b:=by
 cases x with
 |non=>cases e;rw[RelD]at r;subst r;rfl
 |bl c=>cases e;rw[RelD]at r;subst r;rfl
 |int c=>cases e;rw[RelD]at r;subst r;rfl
 |str c=>cases e;rw[RelD]at r;subst r;rfl
 |tup c=>cases e;obtain⟨a,vs,rfl,_⟩:=r;rfl
 |ref c=>cases e;obtain⟨_,rfl⟩:=r;rfl
 |edc=>cases e;obtain⟨a,rfl,_⟩:=r;rfl
 |exc c=>cases e;obtain⟨a,o,u,rfl,_⟩:=r;rfl
 |scr=>cases e;obtain⟨rfl,_⟩:=r;rfl
theorem VB {μ:Nat->ah}{n:Nat}{H:Hp}{x:Dv}{v:V}{b c:Bool}(r:RelD G μ n H x v) (e:mE x (.bl c)=some b):decide (v=.bl c)=b:=by
 cases x with
 |non=>cases e;rw[RelD]at r;subst r;rfl
 |bl d=>cases e;rw[RelD]at r;subst r;cases c <;> cases d <;> rfl
 |int c=>cases e;rw[RelD]at r;subst r;rfl
 |str c=>cases e;rw[RelD]at r;subst r;rfl
 |tup c=>cases e;obtain⟨a,vs,rfl,_⟩:=r;rfl
 |ref c=>cases e;obtain⟨_,rfl⟩:=r;rfl
 |edc=>cases e;obtain⟨a,rfl,_⟩:=r;rfl
 |exc c=>cases e;obtain⟨a,o,u,rfl,_⟩:=r;rfl
 |scr=>cases e;obtain⟨rfl,_⟩:=r;rfl
theorem II (neg:Bool):eG G (AF neg) (gO neg):=by
 intro E μ h H x y vx vy Q s rx ry o;unfold gO at o
 cases q:mE x y with
 |none=>rw[q]at o;exact o.elim
 |some b=>
  rw[q]at o
  cases y with
  |non=>rw[RelD]at ry;exact .inl ⟨ry,by rw[VA rx q];exact o.val s rfl⟩
  |bl c=>rw[RelD]at ry;exact .inr ⟨c,ry,by rw[VB rx q];exact o.val s rfl⟩
  |_=>cases x <;> cases q
end
def eV (c:M Bool) (body:MS):Nat->MS
 |0=>λ_ _=>.bad
 |f+1=>λρ h=>(c ρ h).thenS λb h1=>if b=true then(match body ρ h1 with
  | .nx ρ2 h2=>eV c body f ρ2 h2
  | .ct ρ2 h2=>eV c body f ρ2 h2
  | .bk ρ2 h2=>.nx ρ2 h2
  |r=>r)else .nx ρ h1
section
variable{X:Cx}{G:Cfg}{E:XK}{c:bp}{body:List gp}{mc:M Bool}{mb:MS}{pos:Pos}
theorem AG (n:Nat) (hp:xv (model X.prog X.w) X.A X.env X.xe) (hc:eR X G E c mc) (hb:hO X G E body mb):gM X G E (.While c body [] pos) (eV mc mb n):=λhK=>PS.imp (OZ hp (hc hK) (hb hK)) λD σ H ⟨μ,ρ,h,rs,s,o⟩=>by
 refine⟨λm σ H=>∃μ ρ h,RelS G μ h.length H ρ σ/\Sim G μ h H/\SOut G E μ h.length H (eV mc mb m ρ h) D,⟨n,μ,ρ,h,rs,s,o⟩, ?_⟩
 rintro m σ1 H1 ⟨μ1,ρ1,h1,rs1,s1,o1⟩
 cases m with
 |zero=>exact o1.elim
 |succ m=>
  refine G4 rs1 s1 o1 λμ2 b h2 H2 x2 rs2 s2 o2=>?_
  cases b with
  |false=>rw[if_neg (by decide)]at o2 ⊢;exact o2 μ2 H2 σ1 Ext.refl s2 rs2
  |true=>
   rw[if_pos rfl]at o2 ⊢;refine⟨λσ' H'=>∃μ ρ h,RelS G μ h.length H' ρ σ'/\Sim G μ h H'/\SOut G E μ h.length H' (eV mc mb m ρ h) D,λσ' H' z=>⟨m,ic m,z⟩,μ2,ρ1,h2,rs2,s2, ?_⟩
   cases q:mb ρ1 h2 with
   |nx ρ3 h3=>rw[q]at o2;exact λμ4 H4 σ4 x4 s4 mR=>⟨μ4,ρ3,h3,mR,s4,SOut.ext o2 x4⟩
   |ct ρ3 h3=>rw[q]at o2;exact λμ4 H4 σ4 x4 s4 mR=>⟨μ4,ρ3,h3,mR,s4,SOut.ext o2 x4⟩
   |bk ρ3 h3=>rw[q]at o2;exact o2
   |rt d h3=>rw[q]at o2;exact o2
   |ex d h3=>rw[q]at o2;exact o2
   |bad=>rw[q]at o2;exact o2.elim
end
section
variable{X:Cx}{G:Cfg}{E:XK}{e o:bp}{mo me:M Dv}{pos apos cpos np p2:Pos}{y:Str}
def vH (x i:Dv) (h:Hs):Rs Dv:=match x,i with
 | .ref j,.int n=>match getL h j with
  |some xs=>match dM xs.length n with
   |some k=>match xs[k]? with
    |some d=>if xs.length<=1000000 then .ok d (h.set j (.lst (xs.eraseIdx k)))else .bad
    |none=>.bad
   |none=>.bad
  |none=>.bad
 |_,_=>.bad
theorem IJ {μ:Nat->ah}{n:Nat}{H:Hp}:∀{ds:List Dv}{vs:List V}(k:Nat),RelDL G μ n H ds vs->RelDL G μ n H (ds.eraseIdx k) (vs.eraseIdx k)
 | [],_,_,h=>by rw[RelDL]at h;subst h;exact RelDL.nil
 |d::ds,_,0,h=>by rw[RelDL]at h;obtain⟨v,r,rfl,h1,h2⟩:=h;exact h2
 |d::ds,_,k+1,h=>by rw[RelDL]at h;obtain⟨v,r,rfl,h1,h2⟩:=h;exact RelDL.cons h1 (IJ k h2)
def rH (mo me:M Dv):M Dv:=λρ h=>(mo ρ h).bind λx h1=>if jS x h1=true then(me ρ h1).bind λd h2=>vH x d h2 else .bad
theorem VC (ho:aH X G E (.Name y np) mo) (he:aH X G E e me) (hs:au [e] X.env=[(false,eval e X.env)]:=by rfl) (hl:(apos.endLine==cpos.line)=true:=by rfl):aH X G E (.Call (.Attribute (.Name y np) "pop" apos) [e] [] cpos) (rH mo me):=λhK=>
 PE.imp (FT xm PySem.F.slot_list_pop PySem.F.type_list_pop RM (ho hK) (gY (he hK) jN hs) rfl (by rw[hs];rfl) hl hs rfl) λσ H Q ⟨μ,ρ,h,rs,s,oo⟩=>eS rs s oo λμ1 x h1 vx H1 x1 rs1 s1 r1 o1=>by
  split at o1
  ·rename_i hl;refine⟨HR s1 r1 hl,eS rs1 s1 o1 λμ2 d h2 vd H2 x2 rs2 s2 r2 o2=>?_⟩
   cases x with
   |ref j=>
    cases d with
    |int n=>
     dsimp only[vH]at o2
     cases q:getL h2 j with
     |none=>rw[q]at o2;exact o2.elim
     |some xs=>
      rw[q]at o2;dsimp only at o2
      cases q2:dM xs.length n with
      |none=>rw[q2]at o2;exact o2.elim
      |some k=>
       rw[q2]at o2;dsimp only at o2
       cases q3:xs[k]? with
       |none=>rw[q3]at o2;exact o2.elim
       |some d'=>
        rw[q3]at o2;dsimp only at o2
        split at o2
        ·rename_i hz;obtain⟨vs,ea,ra⟩:=s2.ob j _ (cX q);obtain⟨_,rfl⟩:=RelD.mono x2 _ _ r1;rw[RelD]at r2;subst r2;obtain⟨v,ev,rv⟩:=ra.get q3;obtain⟨i1,i2,i3,i4⟩:=yW q2;obtain⟨x3,s3⟩:=s2.write (cX q) (IJ k ra);exact⟨_,vs,n,k,v,rfl,rfl,ea,by omega,by omega,by rw[ra.length];exact i1,ev,o2 μ2 _ _ x3 s3 (RelD.mono x3 _ _ rv)⟩
        ·exact o2.elim
    |_=>exact o2.elim
   |_=>exact o2.elim
  ·exact o1.elim
def mF (xs:List Dv) (lo hi:Option Int):List Dv:=(xs.drop (HT.sIx xs.length 0 lo)).take (HT.sIx xs.length xs.length hi - HT.sIx xs.length 0 lo)
theorem IK {μ:Nat->ah}{n:Nat}{H:Hp}{xs:List Dv}{vs:List V}(r:RelDL G μ n H xs vs) (lo hi:Option Int):RelDL G μ n H (mF xs lo hi) (lM vs lo hi):=by unfold mF lM;rw[r.length];exact(r.drop _).take _
abbrev MO:=Ev->Hs->Rs (Option Int)
def VD (G:Cfg) (E:XK) (m:MO):TO:=λσ H Q=>∃μ ρ h,RelS G μ h.length H ρ σ/\Sim G μ h H/\Out G E μ h.length H (m ρ h) (λ_ _ _ a b=>b=a) Q
def vI (X:Cx) (G:Cfg) (E:XK) (pe:Option bp) (m:MO):Prop:=X.K=G.K->PO X pe (VD G E m)
theorem PO.imp {pe:Option bp}{t t':TO}(h:PO X pe t) (i:∀σ H Q,t' σ H Q->t σ H Q):PO X pe t':=λpins s σ H Q I q=>h pins s σ H Q I (i σ H Q q)
def rJ:MO:=λ_ h=>.ok none h
def IL:Dv->Hs->Rs (Option Int)
 | .int i,h=>.ok (some i) h
 |_,_=>.bad
def rK (m:M Dv):MO:=λρ h=>(m ρ h).bind IL
theorem VE:vI X G E none rJ:=λ_=>PO.imp QV λσ H Q ⟨μ,ρ,h,rs,s,oo⟩=>oo.val s rfl
theorem VF (he:aH X G E e me):vI X G E (some e) (rK me):=λhK=>PO.imp (QW (he hK)) λσ H Q ⟨μ,ρ,h,rs,s,oo⟩=>eS rs s oo λμ1 d h1 v H1 x1 rs1 s1 r1 o1=>by
 cases d with
 |int i=>exact⟨i,r1,o1.val s1 rfl⟩
 |_=>exact o1.elim
end
section
variable{X:Cx}{G:Cfg}{E:XK}{pos:Pos}
theorem VG:aH X G E (.Dict [] [] pos) (mC .edc):=λ_ pins s σ H Q I ⟨μ,ρ,h,rs,sm,o⟩=>by have hb:sysModules<s.heap.objs.size:=Nat.lt_trans (by decide) (I.mod.glob.keeps I.bk).lt;have hn:=I.hok.fresh (ak s.heap.objs.size);refine wpAny_Dict_empty ⟨.ref s.heap.objs.size,_,I.laid (a:=s.heap.objs.size) (o:=.dK []) (t':=s.toks) (λ_ _ q=>aj _ q) (ak _) ⟨iu _,beq_eq_false_iff_ne.mpr (cy (bc hb)),[],.nil,Heap.DictOf.new s.heap⟩,rfl, ?_⟩;exact o μ _ _ (Ext.same (cJ hn)) (sm.same (cJ hn)) ⟨_,rfl,bT⟩
theorem AH {x:Str}{i:Int}{t:Tok}(hg:Gl X x) (hm:X.mg x=some (.int i t)) (hd:(x==("__debug__" : Str))=false:=by decide):aH X G E (.Name x pos) (mC (.int i)):=λ_=>PE.imp (EL (v:=.int i) hg hm ⟨t,rfl⟩ hd) λσ H Q ⟨μ,ρ,h,rs,s,o⟩=>o.val s (show RelD G μ _ H (.int i) (.int i) from rfl)
def oY:Dv->Hs->Rs Dv
 | .int i,h=>.ok (.int (-i)) h
 |_,_=>.bad
theorem VH:kX G (rU λi=>.int (-i)) oY:=by
 intro E μ h H x vx Q s r o
 cases x with
 |int i=>rw[RelD]at r;subst r;exact⟨i,rfl,o.val s rfl⟩
 |_=>exact o.elim
end
section
variable{X:Cx}{G:Cfg}{E:XK}{tg a b c:bp}{p pos:Pos}{ms:M (List Dv)}
end
structure Lawful (lp:bj) (w:cq) (K:aq) (mg:Str->Option af) (base:cw) (k:Nat) (fa:ah) (fd:bu) (x:Str) (P a:ah) (ns:List Int):Prop where
 ex:∃(G:Cfg) (lawF:List Dv->Hs->Rs Dv) (hh:Hs),G.K=K/\G.scr=ns/\G.sa=a/\G.tab=some P/\lawF [.scr] []=.ok (.bl true) hh/\FnOk lp w K mg base (bF lp w base) k fa fd [x] (cF G lawF)
theorem VI {lp:bj}{w:cq}{K:aq}{mg mb:Str->Option af}{k:Nat}{fa a c P:ah}{fd:bu}{x:Str}{s₁:ag}{vs:List af}{ns:List Int}
  (KX:K.In s₁.heap) (hns:s₁.heap.Ns dm mg) (hb:s₁.heap.Ns builtinsNs mb) (hbb:∀x:Str,x ≠ "__name__"->mb x=dh x) (hlim:s₁.heap.NoLimit) (hg:s₁.gens=#[])
  (ha:s₁.heap.get? a=some { cls:=.type "list",data:=.seq vs.toArray }) (hi:lb vs ns) (hl:ns.length<=cn) (hr:Room k callerA)
  (hC:jy s₁.heap c P) (hP:s₁.heap.get? P=some (rg #[])) (hB:lA mg s₁.heap) (hnt:PySem.W.noTabs K=true)
  (F:∀base:cw,K.In base->base.Ns dm mg->jy base c P->lA mg base->Lawful lp w K mg base k fa fd x P a ns) (hbind:∀(s:ag) (u:af),BindsTo s fd ⟨[u],[]⟩ [(x,u)]):
  codeAny (model lp w) callerA (.call (.ref fa) ⟨[.ref a],[]⟩) (λr s'=>r=.ok (.ret (.bool true))/\OldK s₁.heap s'.heap/\s'.os=s₁.os/\qr s'.gens) s₁:=by
 have rv:=FZ hi;have lenV:=hi.length;have KP:K.lookup P=none:=by
  cases q:K.lookup P with
  |none=>rfl
  |some o=>have e:=KX P o q;rw[hP]at e;cases e;have:=fi.mp hnt (P,rg #[]) (PySem.W.mem_of_lookupK q);exact absurd (show false=true from this) fz
 have aP:a≠P:=λz=>by rw[z,hP]at ha;cases ha
 have core:∀H:Hp,H P=some (.tbl #[])->FzL K H a (ns.map V.int)->HOk lp w H s₁.heap->(∀b,H b≠none->b=a∨b=P)->(H a≠none->K.lookup a=none)->(∀u,H a=some u->∃o xs,u=.frz o (.lst xs))->
   codeAny (model lp w) callerA (.call (.ref fa) ⟨[.ref a],[]⟩) (λr s'=>r=.ok (.ret (.bool true))/\OldK s₁.heap s'.heap/\s'.os=s₁.os/\qr s'.gens) s₁:=by
  intro H hHP hS hok hA hK hF;have base_of:∀{b:ah}{o:Obj},s₁.heap.get? b=some o->H b=none->(jL s₁.heap H).get? b=some o:=λe n=>NZ e n;have none_of:∀{b:ah},b≠a->b≠P->H b=none:=λ{b} h1 h2=>by
   cases q:H b with
   |none=>rfl
   |some u=>exact((hA b (by rw[q];simp)).elim h1 h2).elim
  have noD:∀{b:ah}{o:Obj}{es:Array DictEntry}{ep:Nat},s₁.heap.get? b=some o->o.data=.dict es ep->H b=none:=λ{b o es ep} e d=>none_of (λz=>by
    subst z;rw[ha]at e;cases e;have d':Data.seq vs.toArray _=Data.dict es ep:=d
    cases d') (λz=>by
    subst z;rw[hP]at e;cases e;have d':Data.fields _=Data.dict es ep:=d
    cases d')
  have nsK:∀{b:ah}{m:Str->Option af},s₁.heap.Ns b m->(jL s₁.heap H).Ns b m:=λ{b m} ⟨o,es,ep,e,d,r⟩=>⟨o,es,ep,base_of e (noD e d),d,r⟩
  have hKb:K.In (jL s₁.heap H):=λb o e=>base_of (KX b o e) (by
   cases q:H b with
   |none=>rfl
   |some u=>
    rcases hA b (by rw[q];simp)with z|z
    ·subst z;rw[hK (by rw[q];simp)]at e;cases e
    ·subst z;rw[KP]at e;cases e)
  have hM:Mod K mg (jL s₁.heap H):=⟨hKb,nsK hns,⟨mb,nsK hb,hbb⟩,let ⟨mc,h1,h2⟩:=hlim;⟨mc,nsK h1,h2⟩⟩
  have hCb:jy (jL s₁.heap H) c P:=by obtain⟨o,vs',file,tf,flags,tg,inF,text,tt,e1,r1,r⟩:=hC;refine⟨o,vs',file,tf,flags,tg,inF,text,tt,base_of e1 (none_of (λz=>?_) r.2.2.2.2.2.2.2),r1,r⟩;subst z;rw[ha]at e1;cases e1;exact absurd r1 (by intro w;injection w with w;exact absurd w (by decide))
  have hBb:lA mg (jL s₁.heap H):=by
   obtain⟨bm,ob,b1,b2,b3,b4,b5,b6⟩:=hB;refine⟨bm,ob,b1,b2,base_of b3 (none_of (λz=>?_) (λz=>?_)),b4,b5,b6⟩
   ·subst z;rw[ha]at b3;cases b3;exact absurd b4 (by intro w;injection w with w;exact absurd w (by decide))
   ·subst z;rw[hP]at b3;cases b3;cases b4
  have e0:Env0 lp w K mg (jL s₁.heap H) callerA [] s₁ H:=⟨rfl,hM,λb o e=>N0 e,lr (NY _ _),trivial,λb hb=>absurd (show b∈([]:List ah) from hb) (by simp),hok,.of_eq hg⟩
  obtain⟨G,lawF,hh,g1,g2,g3,g4,hlaw,Fn⟩:=(F _ hKb (nsK hns) hCb hBb).ex;have rd:RelDL G (λ_=>0) 0 H [.scr] [.ref a]:=by refine RelDL.cons ?_ RelDL.nil;rw[RelD,g1,g2,g3];exact⟨rfl,hS⟩
  have sm:Sim G (λ_=>0) [] H:=⟨λi j h1=>absurd h1 (by simp),λi o q=>by simp at q,λP' e=>by
   rw[g4]at e;cases e;exact⟨#[],hHP,trivial,λpos cv q=>by
    have q':(none:Option af)=some cv:=q
    cases q'⟩⟩
  refine mq (Fn.run callerA [] s₁ H ⟨[.ref a],[]⟩ [.ref a] [.ref a] (λv _=>v=.bl true) (λ_ _ _=>False) hr e0 (hbind s₁ (.ref a)) (.cons rfl .nil) ⟨λ_=>0,[],[.scr],rd,sm, ?_⟩) λr s' h=>?_
  ·rw[hlaw];exact λμ' H' v _ _ r=>r
  cases r with
  |error e=>obtain⟨_,_,_,_,_,_,_,_,_,z⟩:=h;exact z.elim
  |ok fl=>
   cases fl with
   |next=>exact gj h
   |brk=>exact gj h
   |cont=>exact gj h
   |ret u=>
    obtain⟨v,H',os,bare,un,hok',r',q⟩:=h;have q':v=.bl true:=q;subst q';obtain rfl:u=tj true:=r';have kept:∀b o,b≠P->s₁.heap.get? b=some o->s'.heap.get? b=some o:=λb o hbP e=>by
     cases q:H b with
     |none=>exact un.keep b o e q (by intro z;exact absurd (show b∈([]:List ah) from z) (by simp)) (by simp)
     |some u=>
      rcases hA b (by rw[q];simp)with z|z
      ·subst z;obtain⟨ob,xs,rfl⟩:=hF u q;have z2:=un.frzs b ob _ q;obtain⟨e1,_⟩:=hok b _ q;obtain⟨e2,_⟩:=hok' b _ z2;rw[e]at e1;cases e1;exact e2
      ·exact absurd z hbP
    obtain⟨more,hm⟩:=un.tbls P #[] hHP;have gP:s'.heap.get? P=some (rg (#[]++more)):=hok' P _ hm;refine⟨rfl,⟨λb o e=>?_,λb o e=>?_⟩,os,bare⟩
    ·by_cases hb:b=P
     ·subst hb;rw[hP]at e;cases e;exact .inr (.inl ⟨(hC.tab hP).isCodeTable,rfl,#[],more,rfl,gP⟩)
     ·exact .inl (kept b o hb e)
    ·by_cases hb:b=P
     ·subst hb;exact⟨_,gP⟩
     ·exact⟨_,kept b o hb e⟩
 cases hk:K.lookup a with
 |some o=>
  have e:=KX a o hk;rw[ha]at e;cases e;refine core (λb=>if b=P then some (.tbl #[])else none) (if_pos rfl) (.inr ⟨_,vs.toArray,_,hk,rfl,rfl,rfl,by rw[aw,lenV];exact hl,by simpa using rv⟩) (λb u z=>?_) (λb z=>?_) (λz=>absurd (if_neg aP) z) (λu z=>?_)
  ·by_cases hb:b=P
   ·have z':=(if_pos hb).symm.trans z;cases z';subst hb;exact hP
   ·have z':=(if_neg hb).symm.trans z;cases z'
  ·by_cases hb:b=P
   ·exact .inr hb
   ·exact absurd (if_neg hb) z
  ·have z':=(if_neg aP).symm.trans z;cases z'
 |none=>
  have ea:(λb=>if b=a then some (HO.frz { cls:=.type "list",data:=.seq vs.toArray } (.lst (ns.map V.int)))else if b=P then some (.tbl #[])else none) a=some (.frz { cls:=.type "list",data:=.seq vs.toArray } (.lst (ns.map V.int))):=if_pos rfl;refine core (λb=>if b=a then some (.frz { cls:=.type "list",data:=.seq vs.toArray } (.lst (ns.map V.int)))else if b=P then some (.tbl #[])else none) ((if_neg (cy aP)).trans (if_pos rfl)) (.inl ⟨{ cls:=.type "list",data:=.seq vs.toArray },ea⟩) (λb u z=>?_) (λb z=>?_) (λ_=>hk) (λu z=>?_)
  ·by_cases hb:b=a
   ·have z':=(if_pos hb).symm.trans z;cases z';subst hb;exact⟨ha,by rw[br];exact hl,vs,_,rv,ha⟩
   ·have z':=(if_neg hb).symm.trans z
    by_cases hb2:b=P
    ·have z2:=(if_pos hb2).symm.trans z';cases z2;subst hb2;exact hP
    ·have z2:=(if_neg hb2).symm.trans z';cases z2
  ·by_cases hb:b=a
   ·exact .inl hb
   ·by_cases hb2:b=P
    ·exact .inr hb2
    ·exact absurd ((if_neg hb).trans (if_neg hb2)) z
  ·have z':=ea.symm.trans z;cases z';exact⟨_,_,rfl⟩
open PySem PySem.Spec PyProof.Rows L2
theorem iN {α:Type}{P:List α->Prop}(h:∀a,P [a]):∀us:List α,us.length=1->P us
 | [a],_=>h a
theorem gQ {α:Type}{P:List α->Prop}(h:∀a b,P [a,b]):∀us:List α,us.length=2->P us
 | [a,b],_=>h a b
theorem AI {α:Type}{P:List α->Prop}(h:∀a b c,P [a,b,c]):∀us:List α,us.length=3->P us
 | [a,b,c],_=>h a b c
theorem gR {P:Nat->Bool->Prop}:∀c b,List.lookup c ([]:List (Nat×Bool))=some b->P c b:=λ_ _ h=>nomatch h
theorem dI {P:Nat->Bool->Prop}{x:Nat}{y:Bool}{l:List (Nat×Bool)}(h:P x y) (hl:∀c b,l.lookup c=some b->P c b):∀c b,List.lookup c ((x,y)::l)=some b->P c b:=λc b e=>by
 rw[gv]at e
 cases q:c==x with
 |true=>rw[q]at e;exact eq_of_beq q▸(cz e)▸h
 |false=>rw[q]at e;exact hl c b e
theorem VJ {P:Nat->Prop}:∀c,c<0->P c:=λc h=>absurd h (Nat.not_lt_zero c)
theorem hW {P:Nat->Prop}{n:Nat}(h0:P 0) (h:∀c,c<n->P (c+1)):∀c,c<n+1->P c
 |0,_=>h0
 |c+1,hc=>h c (Nat.lt_of_succ_lt_succ hc)
open PySem PySem.Spec PySem.Calls PyProof.Rows PySem.W L2
abbrev Ys {β:Type}(ob:Frag->β) (obE:β):cq->cw->Prop:=λ_ h=>∃K:Frag,K.In h/\noTabs K=true/\ob K=obE
theorem ys_of {β:Type}{ob:Frag->β}{obE:β}:∀(w:cq) (s:ag),ob (pV s.heap)=obE->Ys ob obE w s.heap:=λ_ s e=>⟨pV s.heap,tN _ _,tO _ _,e⟩
theorem ys_keeps {β:Type}{ob:Frag->β}{obE:β}:∀(w:cq) (h h':cw),Ys ob obE w h->(∀b o,h.get? b=some o->h'.get? b=some o)->Ys ob obE w h':=λ_ _ _ ⟨K,x,n,e⟩ k=>⟨K,x.keeps k,n,e⟩
theorem walkK {β:Type}{ob:Frag->β}{obE:β}{l:OpenLaw}{n k:Nat}{q:bj}{gD:List Str}{XP:(Str->Option af)->cw->Prop}{d:DefRec}{x:Str}
  (hn:l.most=some n) (hn2:n<=cn) (hdf:d.params.defaults=[]) (hr:Room k callerA) (hfind:(recsOf q).find? (λe=>e.name==d.name)=some d)
  (F:∀(K:Frag) (w:cq) (mg:Str->Option af) (fa:ah) (h:cw),ob K=obE->noTabs K=true->K.In h->h.Ns dm mg->mg d.name=some (.ref fa)->
   ∃(fd:bu) (c P:ah),(∀(s:ag) (u:af),BindsTo s fd ⟨[u],[]⟩ [(x,u)])/\tabIn K d.name=some (c,P)/\noTabs K=true /\
    ∀(base:cw) (a:ah) (ns:List Int),ns.length<=n->K.In base->base.Ns dm mg->CodeHd base c P->lA mg base->Lawful l.prog w K mg base k fa fd x P a ns):
  WalkO q gD XP (Ys ob obE) l.row.toRowW d [] (λf vs=>PySem.call f vs):=by
 refine Att.attach_call hn hdf λw s₀ s₁ mg mb fa o pm cd doc a vs ns G Y ho hd hcd hmg hobj hints hlen hg=>?_;obtain⟨K,KX,hnt',hob⟩:=Y;obtain⟨fd,c,P,hb,ht,hnt,hF⟩:=F K w mg fa _ hob hnt' KX G.T.g hmg;obtain⟨hC,hP⟩:=tab_of G.T KX hfind ht;exact VI KX G.T.g G.T.b G.T.builtins G.T.nolimit hg hobj hints (dk hlen hn2) hr hC hP G.T.bmain hnt (λbase h1 h2 h3 h4=>hF base a ns hlen h1 h2 h3 h4) hb
theorem dE {K:Frag}{f c:ah}{st:gp}{n:Str}{ps:List Str}(h:bI K f=some (fnOf n n (oE st) (iV st) (aW st) .none .none .none .none none (.ref c) .none)) (hc:codeIn K (.ref c) n=true) (hk:keepIn K (.ref f)=true)
  (hb:∀(kV doc pm:af) (an:Option ah) (cdv ct:af) (us:List af),us.length=ps.length->bindArgs (fnOf n n (oE st) (iV st) (aW st) .none kV doc pm an cdv ct) ⟨us,[]⟩=pure (ps.zip us)):
  ∃fd:bu,Fun K n n st f fd/\Binds K fd ps []/\fd.code=.ref c/\∀us:List af,us.length=ps.length->bindArgs fd ⟨us,[]⟩=pure (ps.zip us):=by
 obtain⟨oc,od,kV,dc,pm,an,ct,sl,e⟩:=NO h;exact⟨_,F0 e hc hk,(F0 e hc hk).binds hb,rfl,hb kV dc pm an (.ref c) ct⟩
theorem AJ {env:Env}{x:Str}:∀{l:List (Str×jr)},l.lookup x=some .free->(l.map λ(n,k)=>if(k==bz&&env.scope.kind==.function&&env.kindOf n==some .cell)then(n,dq)else(n,k)).lookup x≠some .local
 | [],h=>by simp at h
 |(n,q)::r,h=>by
  rw[gv]at h;rw[dw]
  cases e:x==n with
  |true=>
   rw[e]at h;have hq:q=.free:=cz h;subst hq;dsimp only
   split
   ·rw[gv,e];simp
   ·rw[gv,e];simp
  |false=>
   rw[e]at h;dsimp only
   split
   ·rw[gv,e];exact AJ h
   ·rw[gv,e];exact AJ h
theorem iO {X:Cx}{sc os:gh}{oN N:List Str}{cap:List (Option Nat)}(hs:X.env.scope.names=os.names) (hN:X.N=oN) (h1:sc.kind=.function) (h2:∀p∈sc.names,p.2=.local->sc.names.lookup p.1=some .local) (h3:cap.length=N.length)
  (h4:∀p∈sc.names,p.2=.free->os.names.lookup p.1=some .cell∨os.names.lookup p.1=some .free) (h5:∀p∈sc.names,p.2=.free->(p.1,dq)∉sc.names) (h6:∀q∈cap.zip N,∀j∈q.1,oN[j]?=some q.2/\sc.names.lookup q.2=some .free):CapOk X sc N cap:=by
 refine⟨h1,h2,h3,λx hx=>?_,λx hx=>h5 _ hx rfl,λi j x e1 e2=>?_⟩
 ·have:=h4 _ hx rfl;rw[<-hs]at this;exact this
 ·have hm:(some j,x)∈cap.zip N:=bx (i:=i) (pb.mpr ⟨e1,e2⟩);obtain⟨a,b⟩:=h6 _ hm j rfl;rw[hN];refine⟨a,ff b, ?_⟩;exact AJ b
def gA:Dv->Dv->Hs->Rs Dv:=hG λi j=>.int (i - j)
def iP:Dv->Dv->Hs->Rs Dv:=jO qO λi j=>.int (i*j)
def gI:Dv->Dv->Hs->Rs Dv:=jO oK λi j=>.int (i % j)
def rL:Dv->Dv->Hs->Rs Dv:=jO qP λi j=>.int (i ^ j.toNat)
def oZ:Dv->Dv->Hs->Rs Dv:=hG λi j=>.bl (decide (i<=j))
def mG:Dv->Dv->Hs->Rs Dv:=hG λi j=>.bl (decide (i>=j))
section
variable{X:Cx}{G:Cfg}{E:XK}{k:Nat}{a b:bp}{ma mb:M Dv}{pos:Pos}
theorem pA (ha:aH X G E a ma) (hb:aH X G E b mb):aH X G E (.BinOp a .Sub b pos) (m2 gA ma mb):=mW PN R5 ha hb
theorem pC (ha:aH X G E a ma) (hb:aH X G E b mb):aH X G E (.BinOp a .Mult b pos) (m2 iP ma mb):=mW PQ (uN R6) ha hb
theorem nJ (ha:aH X G E a ma) (hb:aH X G E b mb):aH X G E (.BinOp a .Mod b pos) (m2 gI ma mb):=mW PR (uN R7) ha hb
theorem IM (ha:aH X G E a ma) (hb:aH X G E b mb):aH X G E (.BinOp a .Pow b pos) (m2 rL ma mb):=mW PU (uN R8) ha hb
theorem IP (ha:aH X G E a ma):aH X G E (.UnaryOp .USub a pos) (m1 oY ma):=RZ PX VH ha
theorem rM (g:Good X G E k) (ha:aH X G E a ma) (hb:aH X G E b mb):aH X G E (.Compare a [.Eq] [b] pos) (m2 cK ma mb):=qN (GP g.room.units) GR ha hb (kU _)
theorem VL (g:Good X G E k) (ha:aH X G E a ma) (hb:aH X G E b mb):aH X G E (.Compare a [.NotEq] [b] pos) (m2 cT ma mb):=qN (GQ g.room.units) GS ha hb (kU _)
theorem IQ (ha:aH X G E a ma) (hb:aH X G E b mb):eR X G E (.Compare a [.GtE] [b] pos) (mB (m2 mG ma mb)):=lN PY uM ha hb (kU _)
theorem pD (g:Good X G E k) (ha:aH X G E a ma) (hb:aH X G E b mb):eR X G E (.Compare a [.Eq] [b] pos) (mB (m2 cK ma mb)):=lN (GP g.room.units) GR ha hb (kU _)
theorem nK (g:Good X G E k) (ha:aH X G E a ma) (hb:aH X G E b mb):eR X G E (.Compare a [.NotEq] [b] pos) (mB (m2 cT ma mb)):=lN (GQ g.room.units) GS ha hb (kU _)
variable{c:bp}{mc:M Dv}
theorem VM (ha:aH X G E a ma) (hb:aH X G E b mb) (hc:aH X G E c mc) (hm:lastMarks [.LtE,.LtE] [b,c]=false:=by with_unfolding_all rfl):aH X G E (.Compare a [.LtE,.LtE] [b,c] pos) (oH oZ oZ ma mb mc):=RY EZ EZ uM uM ha hb hc hm
end
def pE:Ty->Option Bool
 | .bl=>some true | .int=>some true | .exc _=>none|_=>some false
def kK:Ty->Option Bool
 | .bl=>some true | .exc _=>none|_=>some false
def hY:Ty->Option Bool
 | .tup=>some true | .exc _=>none|_=>some false
def rN:Ty->Option Bool
 | .lst=>some true | .exc _=>none|_=>some false
def pF:Ty->Option Bool
 | .tup=>some true | .lst=>some true | .exc _=>none|_=>some false
section
variable{K:aq}{cl:Nat->ah}
theorem VN:∀ty bb,pE ty=some bb->cx K (kJ cl ty) (.type "int")=some bb:=by intro ty bb h;cases ty <;> first|(cases h;rfl)|cases h
theorem VO:∀ty bb,kK ty=some bb->cx K (kJ cl ty) (.type "bool")=some bb:=by intro ty bb h;cases ty <;> first|(cases h;rfl)|cases h
theorem VP:∀ty bb,hY ty=some bb->cx K (kJ cl ty) (.type "tuple")=some bb:=by intro ty bb h;cases ty <;> first|(cases h;rfl)|cases h
theorem VQ:∀ty bb,rN ty=some bb->cx K (kJ cl ty) (.type "list")=some bb:=by intro ty bb h;cases ty <;> first|(cases h;rfl)|cases h
theorem VR:∀ty bb,pF ty=some bb->PySem.W.kitAny K (kJ cl ty) [.type "tuple",.type "list"]=some bb:=by intro ty bb h;cases ty <;> first|(cases h;rfl)|cases h
end
theorem VS:dh "int" = some (.type "int"):=by decide +kernel
theorem VT:dh "bool" = some (.type "bool"):=by decide +kernel
theorem VU:dh "ValueError" = some (.type "ValueError"):=by decide +kernel
def cZ (nn:Option Bool) (tbl:List (Nat×Bool)):Ty->Option Bool
 | .exc c=>tbl.lookup c
 | .non=>nn
 |_=>none
section
variable{X:Cx}{G:Cfg}{E:XK}{a:bp}{ma:M Dv}{p q r pos:Pos}
theorem VV (hg:Gl X "isinstance") (hm:X.mg "isinstance" = none) (hg':Gl X "int") (hm':X.mg "int" = none) (ha:aH X G E a ma) (he:au [a,.Name "int" q] X.env=[(false,eval a X.env),(false,eval (.Name "int" q) X.env)]:=by rfl):
  aH X G E (.Call (.Name "isinstance" p) [a,.Name "int" q] [] pos) (m1 (bE pE) ma):=oW hg hm ha (nG hg' hm' VS) (.inl ⟨_,rfl⟩) rfl VN (λc bb h=>by cases h) he
theorem AK (hg:Gl X "isinstance") (hm:X.mg "isinstance" = none) (hg':Gl X "bool") (hm':X.mg "bool" = none) (ha:aH X G E a ma) (he:au [a,.Name "bool" q] X.env=[(false,eval a X.env),(false,eval (.Name "bool" q) X.env)]:=by rfl):
  aH X G E (.Call (.Name "isinstance" p) [a,.Name "bool" q] [] pos) (m1 (bE kK) ma):=oW hg hm ha (nG hg' hm' VT) (.inl ⟨_,rfl⟩) rfl VO (λc bb h=>by cases h) he
theorem rO (hg:Gl X "isinstance") (hm:X.mg "isinstance" = none) (hg':Gl X "tuple") (hm':X.mg "tuple" = none) (ha:aH X G E a ma) (he:au [a,.Name "tuple" q] X.env=[(false,eval a X.env),(false,eval (.Name "tuple" q) X.env)]:=by rfl):
  aH X G E (.Call (.Name "isinstance" p) [a,.Name "tuple" q] [] pos) (m1 (bE hY) ma):=oW hg hm ha (nG hg' hm' zP) (.inl ⟨_,rfl⟩) rfl VP (λc bb h=>by cases h) he
theorem IS (hg:Gl X "isinstance") (hm:X.mg "isinstance" = none) (hg':Gl X "list") (hm':X.mg "list" = none) (ha:aH X G E a ma) (he:au [a,.Name "list" q] X.env=[(false,eval a X.env),(false,eval (.Name "list" q) X.env)]:=by rfl):
  aH X G E (.Call (.Name "isinstance" p) [a,.Name "list" q] [] pos) (m1 (bE rN) ma):=oW hg hm ha (nG hg' hm' uO) (.inl ⟨_,rfl⟩) rfl VQ (λc bb h=>by cases h) he
theorem VW:∀us',Vals [.ty "tuple",.ty "list"] us'->us'=[.type "tuple",.type "list"]:=by
 intro us' h
 cases h with
 |cons r rr=>
  cases rr with
  |cons r' rr=>
   cases rr
   cases r;cases r'
   rfl
theorem VX {kt:Nat}{p':Pos}(hg:Gl X "isinstance") (hm:X.mg "isinstance" = none) (hg':Gl X "tuple") (hm':X.mg "tuple" = none) (hg'':Gl X "list") (hm'':X.mg "list" = none) (ha:aH X G E a ma)
  (he:au [a,.Tuple [.Name "tuple" q,.Name "list" r] kt p] X.env=[(false,eval a X.env),(false,eval (.Tuple [.Name "tuple" q,.Name "list" r] kt p) X.env)]:=by rfl):
  aH X G E (.Call (.Name "isinstance" p') [a,.Tuple [.Name "tuple" q,.Name "list" r] kt p] [] pos) (m1 (bE pF) ma):=
 TL (cs:=[.ty "tuple",.ty "list"]) hg hm ha (gY (nG hg' hm' zP) (gY (nG hg'' hm'' uO) jN)) (by decide) VW VR (λc bb h=>by cases h) he
theorem hZ {x:Str}{C:ah}{nn:Option Bool}{tbl:List (Nat×Bool)}(hg:Gl X "isinstance") (hm:X.mg "isinstance" = none) (hg':Gl X x) (hm':X.mg x=some (.ref C)) (ha:aH X G E a ma)
  (hn:∀b,nn=some b->cx G.K (.type "NoneType") (.ref C)=some b) (ht:∀c b,tbl.lookup c=some b->cx G.K (.ref (G.cl c)) (.ref C)=some b/\ExK G.K (G.cl c)) (hd:(x==("__debug__" : Str))=false:=by decide)
  (he:au [a,.Name x q] X.env=[(false,eval a X.env),(false,eval (.Name x q) X.env)]:=by rfl) (he2:au [.Name x q] X.env=[(false,eval (.Name x q) X.env)]:=by rfl):
  aH X G E (.Call (.Name "isinstance" p) [a,.Name x q] [] pos) (m1 (bE (cZ nn tbl)) ma):=
 oW hg hm ha (EL (v:=.ref C) hg' hm' rfl hd) (.inr ⟨_,rfl⟩) rfl (λty bb h=>by
  cases ty with
  |exc c=>exact(ht c bb h).1
  |non=>exact hn bb h
  |_=>cases h) (λc bb h=>(ht c bb h).2) he he2
theorem VY {nn:Option Bool}{tbl:List (Nat×Bool)}(hg:Gl X "isinstance") (hm:X.mg "isinstance" = none) (hg':Gl X "ValueError") (hm':X.mg "ValueError" = none) (ha:aH X G E a ma)
  (hn:∀b,nn=some b->cx G.K (.type "NoneType") (.type "ValueError")=some b) (ht:∀c b,tbl.lookup c=some b->cx G.K (.ref (G.cl c)) (.type "ValueError")=some b/\ExK G.K (G.cl c))
  (he:au [a,.Name "ValueError" q] X.env=[(false,eval a X.env),(false,eval (.Name "ValueError" q) X.env)]:=by rfl):
  aH X G E (.Call (.Name "isinstance" p) [a,.Name "ValueError" q] [] pos) (m1 (bE (cZ nn tbl)) ma):=
 oW hg hm ha (nG hg' hm' VU) (.inl ⟨_,rfl⟩) rfl (λty bb h=>by
  cases ty with
  |exc c=>exact(ht c bb h).1
  |non=>exact hn bb h
  |_=>cases h) (λc bb h=>(ht c bb h).2) he
end
section
variable{P:bj}{w:cq}{K:aq}{mg:Str->Option af}{base:cw}{f:ah}{G:Cfg}{k:Nat}{N:List Str}
theorem VZ {x qual:Str}{st:gp}{fd:bu}{ps:List Str}{mb:MS}(Fn:Fun K x qual st f fd) (S:FnScope N ps (aW st)) (hK:K=G.K)
  (hbody:∀(cdv:af) (A:cu) (outer:List Env) (s:ag) (H:Hp) (E₀ E:XK),fd.code=cdv->Good (eE (bF P w base) P w K mg base N qual (aW st) f cdv A outer s H E₀) G E k->hO (eE (bF P w base) P w K mg base N qual (aW st) f cdv A outer s H E₀) G E (iV st) mb):
  FnOk P w K mg base (bF P w base) (k+1) f fd ps (cF G (aT ps.length N.length mb)):=by
 obtain⟨oc,od,kV,doc,pm,an,cdv,ct,osl,rfl,lk,hcd⟩:=Fn.ex;have hlen:∀vs H Q E,cF G (aT ps.length N.length mb) vs H Q E->vs.length=ps.length:=λvs H Q E ⟨μ,h,ds,r,sm,o⟩=>by
  rw[r.length];unfold aT at o
  by_cases hd:ds.length=ps.length
  ·exact hd
  ·rw[if_neg hd]at o;exact o.elim
 refine tW lk hcd S hlen λA outer s H vs Q E hr hsp=>?_;have hl:=hlen _ _ _ _ hsp;obtain⟨μ,h,ds,r,sm,o⟩:=hsp;have o':Out G E μ h.length H (bG (mb (bL N.length ds) h)) (RelD G) Q:=by unfold aT at o;rw[if_pos (by rw[<-r.length];exact hl)]at o;exact o
 refine⟨_,hbody cdv A outer s H E (EB G μ h.length H (mb (bL N.length ds) h)) rfl (uZ hr hK (λu H' ⟨c,h',μ',er,x,s',fl⟩=>?_) qV) hK, ?_⟩
 ·rw[er]at o';exact o' μ' H' u x s' fl
 ·refine⟨μ,bL N.length ds,h,zW r N,sm, ?_⟩
  cases q:mb (bL N.length ds) h with
  |bad=>rw[q]at o';exact o'.elim
  |bk ρ h'=>rw[q]at o';exact o'.elim
  |ct ρ h'=>rw[q]at o';exact o'.elim
  |rt d h'=>rw[q]at o';exact o'
  |nx ρ h'=>rw[q]at o';exact λμ' H' σ' x' s' rs'=>o' μ' H' .non x' s' rfl
  |ex c h'=>exact λμ' H' u x' s' fl=>⟨c,h',μ',rfl,x',s',fl⟩
theorem V0 {fd:bu}{ps:List Str}:FnOk P w K mg base (bF P w base) k f fd ps (cF G (λ_ _=>.bad)):=⟨λvs H Q E ⟨_,_,_,_,_,o⟩=>o.elim,λ_ _ _ _ _ _ _ _ _ _ _ _ _ ⟨_,_,_,_,_,o⟩=>o.elim⟩
end
section
variable{X:Cx}{G:Cfg}{E:XK}{k:Nat}{q x:Str}{p pos lpos:Pos}{params:kd}{body:bp}{scope os:gh}{c P fr:ah}{fdr:bu}{Nl oN:List Str}{me:M Dv}{n ncl j:Nat}{mb:MS}{caps:List Nat}
theorem IT (g:Good X G E k) (hj:j<=k) (hfn:∀y,X.fn y=true)
  (F:∀base,X.K.In base->base.Ns dm X.mg->FnOk X.prog X.w X.K X.mg base (bF X.prog X.w base) j fr fdr [x] (vE G base Nl params body scope me n ncl mb))
  (hg:Gl X q) (hm:X.mg q=some (.ref fr)) (hk:jv X.K (.ref fr)=true) (hb:Binds X.K fdr [x] [])
  (hdef:defaultsOf params X.env=([],[])) (hq:X.env.qual ++ "<lambda>" = G.lq) (hP:G.tab=some P) (hcode:X.env.code=.ref c) (hC:jy X.base c P) (hB:lA X.mg X.base)
  (LS:LamScope Nl scope) (hs:X.env.scope.names=os.names) (hN:X.N=oN) (hkind:∀y∈Nl,os.names.lookup y=some .cell) (hcl:caps.length=Nl.length) (hcap:∀z∈caps.zip Nl,oN[z.1]?=some z.2)
  (hdb:(q==("__debug__" : Str))=false:=by decide) (he:au [.Lambda params body scope lpos] X.env=[(false,eval (.Lambda params body scope lpos) X.env)]:=by rfl):
  aH X G E (.Call (.Name q p) [.Lambda params body scope lpos] [] pos) (jT caps n ncl mb me):=
 UT g hj hfn F hg hm hk hb hdef hq hP hcode hC hB LS (λy hy=>by rw[hs];exact hkind y hy) hcl (λi j y e1 e2=>by rw[hN];exact hcap (j,y) (bx (i:=i) (pb.mpr ⟨e1,e2⟩))) hdb he
end
def eW:Dv->Bool
 | .scr=>false
 |_=>true
def aQ (x y:Dv) (h:Hs):Rs Dv:=if eW x=true then eU [] x y h else .bad
def gB (x:Dv) (h:Hs):Rs Dv:=if eW x=true then iI [] x h else .bad
def jU (x:Dv) (h:Hs):Rs Dv:=if eW x=true then oR [] x h else .bad
def eC (neg:Bool) (x y:Dv) (h:Hs):Rs Dv:=if eW y=true then mD [] neg x y h else .bad
theorem AL {scr:List Int}{x:Dv}{h:Hs}(e:eW x=true):fY [] x h=fY scr x h:=by cases x <;> first|rfl|cases e
section
variable{X:Cx}{G:Cfg}{E:XK}{k:Nat}{a b e:bp}{es:List bp}{ma mb:M Dv}{aR:M (List Dv)}{p pos:Pos}
theorem V1:eG G (yZ G.K) aQ:=by
 intro E μ h H x y vx vy Q s rx ry o;unfold aQ at o
 split at o
 ·rename_i hx;refine GU E μ h H x y vx vy Q s rx ry ?_;have e:eU G.scr x y h=eU [] x y h:=by cases x <;> cases y <;> first|rfl|exact absurd hx (by decide)
  rw[e];exact o
 ·exact o.elim
theorem V2:kX G (GZ G.K) gB:=by
 intro E μ h H x vx Q s rx o;unfold gB at o
 split at o
 ·rename_i hx;refine G1 E μ h H x vx Q s rx ?_;unfold iI at o ⊢;rw[<-AL hx];exact o
 ·exact o.elim
theorem V3:kX G (λx H Q=>∃p ys,x=.ref p/\(SqL G.K H p ys∨SqT G.K H p ys)/\∀l,H l=none->Q (.ref l) (aM H l (.lst ys))) jU:=by
 intro E μ h H x vx Q s rx o;unfold jU at o
 split at o
 ·rename_i hx;refine SI E μ h H x vx Q s rx ?_;unfold oR at o ⊢;rw[<-AL hx];exact o
 ·exact o.elim
theorem vJ (neg:Bool):eG G (vF G.K neg) (eC neg):=by
 intro E μ h H x y vx vy Q s rx ry o;unfold eC at o
 split at o
 ·rename_i hx;refine UU neg E μ h H x y vx vy Q s rx ry ?_;unfold mD at o ⊢;rw[<-AL hx];exact o
 ·exact o.elim
theorem cO (ha:aH X G E a ma) (hb:aH X G E b mb) (hs:yY b:=by intro _ _;rfl):aH X G E (.Subscript a b pos) (m2 aQ ma mb):=λhK=>PE.imp (FL (by have:=FQ (X:=X);rw[hK]at this;exact this) (ha hK) (hb hK) hs) λ_ _ _ t=>qM V1 t
theorem rP (hg:Gl X "len") (hm:X.mg "len" = none) (ha:dQ X G E (e::es) aR)
  (he:au (e::es) X.env=(false,eval e X.env)::au es X.env:=by rfl) (hpl:(backTo pos (au es X.env)).any (·.1)=false:=by rfl):aH X G E (.Call (.Name "len" p) (e::es) [] pos) (aF (f1 gB) aR):=λhK=>
 oM (CallR.imp (FR (X:=X)) λxs H Q ⟨v,h1,a,ys,h2,h3,h4⟩=>⟨a,ys,by rw[h1,h2],by rw[hK];exact h3,h4⟩) (oP V2) hg hm PySem.boot_len ha (by decide) (by decide) he hpl hK
theorem IU (hg:Gl X "list") (hm:X.mg "list" = none) (ha:dQ X G E (e::es) aR)
  (he:au (e::es) X.env=(false,eval e X.env)::au es X.env:=by rfl) (hpl:(backTo pos (au es X.env)).any (·.1)=false:=by rfl):aH X G E (.Call (.Name "list" p) (e::es) [] pos) (aF (f1 jU) aR):=λhK=>
 GY (CallR.imp (RD (X:=X)) λxs H Q ⟨v,h1,a,ys,h2,h3,h4⟩=>⟨a,ys,by rw[h1,h2],by rw[hK];exact h3,h4⟩) (oP V3) hg hm uO ha (by decide) (by decide) he hpl hK
end
theorem V4 (h l:Hs) (k:Nat):getL (h++l) (h.length+k)=getL l k:=by unfold getL;rw[gb (by omega),show h.length+k - h.length=k by omega]
theorem V5 (h l:Hs):getL (h++l) h.length=getL l 0:=V4 h l 0
theorem V6 (h l:Hs) (k:Nat) (o:Ob):(h++l).set (h.length+k) o=h++l.set k o:=by rw[List.set_append_right _ _ (by omega),show h.length+k - h.length=k by omega]
theorem V7 (h l:Hs) (o:Ob):(h++l).set h.length o=h++l.set 0 o:=V6 h l 0 o
section
variable{n:Nat}
end
section
variable{ma mb mc:M Dv}{aR:M (List Dv)}{t u:M Bool}{f f':Dv->Dv->Hs->Rs Dv}{g:Dv->Hs->Rs Dv}{F:List Dv->Hs->Rs Dv}
end
section
variable{mi mi':M Src}{st st':cG}{test test':M Bool}{inner:MC}{me:M Dv}{cap:List (Option Nat)}
end
section
variable{mo me mi:M Dv}{ml:M (List Dv)}{m u:MS}{t:M Bool}
end
def gS:Dv->Option Int
 | .int i=>some i
 |_=>none
theorem rQ {G:Cfg}{μ:Nat->ah}{n:Nat}{H:Hp}:∀{xs:List Dv}{vs:List V}{ns:List Int},RelDL G μ n H xs vs->bQ gS xs=some ns->vs=ns.map V.int
 | [],_,ns,r,e=>by cases e;rw[RelDL]at r;subst r;rfl
 |x::xs,_,ns,r,e=>by
  rw[RelDL]at r;obtain⟨v,rr,rfl,r1,r2⟩:=r;unfold bQ at e
  cases x with
  |int i=>
   dsimp only[gS]at e
   cases q:bQ gS xs with
   |none=>rw[q]at e;cases e
   |some zs=>rw[q]at e;cases e;rw[RelD]at r1;subst r1;rw[rQ r2 q];rfl
  |_=>cases e
section
variable{X:Cx}{G:Cfg}{E:XK}{e a b:bp}{es:List bp}{ma mb:M Dv}{aR:M (List Dv)}{p pos:Pos}
theorem vK {ns:List Int}{its:List af}(rv:Vals (ns.map V.int) its) {i:Nat}{v:af}(e:its.toArray[i]?=some v):∃t,v=.int (ns.getD i 0) t:=by
 have hl:=rv.length;rw[br]at hl;have e':its[i]?=some v:=by simpa using e
 have hi:i<its.length:=(az.mp e').1;have hb:i<ns.length:=by omega
 obtain⟨u,e2,r⟩:=rv.get (i:=i) (x:=V.int ns[i]) (by simp[hb]);rw[e']at e2;cases e2;have hg:ns.getD i 0=ns[i]:=by simp[ki,hb]
 rw[hg];exact r
def jV:Dv->Dv->Hs->Rs Dv
 | .ref i,.int k,h=>match getL h i with
  |some xs=>if(eI k&&decide (k<9223372036854775808)&&decide (-9223372036854775808<=k)&&decide (xs.length*k.toNat<=1000000))=true then .ok (.ref h.length) (h++[.lst (ax k.toNat xs).flatten])else .bad
  |none=>.bad
 |_,_,_=>.bad
theorem RelDL.rep {μ:Nat->ah}{n:Nat}{H:Hp}{ds:List Dv}{vs:List V}(r:RelDL G μ n H ds vs):∀k:Nat,RelDL G μ n H (ax k ds).flatten (ax k vs).flatten
 |0=>RelDL.nil
 |k+1=>by rw[jb,jb,jx,jx];exact r.append (RelDL.rep r k)
theorem V8:eG G FY jV:=by
 intro E μ h H x y vx vy Q s rx ry o
 cases x with
 |ref i=>
  cases y with
  |int k=>
   dsimp only[jV]at o
   cases q:getL h i with
   |none=>rw[q]at o;exact o.elim
   |some xs=>
    rw[q]at o;dsimp only at o
    split at o
    ·rename_i hb;simp only[dj,decide_eq_true_eq]at hb;obtain⟨⟨⟨_,h1⟩,h2⟩,h3⟩:=hb;obtain⟨vs,e1,r1⟩:=s.ob i _ (cX q);obtain⟨_,rfl⟩:=rx;rw[RelD]at ry;subst ry;refine⟨_,k,vs,rfl,rfl,e1,by omega,by omega,by rw[r1.length];exact dk h3 (by decide),λp hp=>?_⟩;exact mV s (r1.rep k.toNat) hp o
    ·exact o.elim
  |_=>exact o.elim
 |_=>cases y <;> exact o.elim
theorem IV (ha:aH X G E a ma) (hb:aH X G E b mb):aH X G E (.BinOp a .Mult b pos) (m2 jV ma mb):=mW RO V8 ha hb
end
def IW (K:aq) (l:ah):It:=⟨λi H=>∃xs x,SqL K H l xs/\xs[i]?=some x,λi H x H'=>∃pp v,x=.ref pp/\H pp=none/\H'=aM H pp (.tup [.int i,v])/\∀xs,SqL K H l xs->xs[i]?=some v,λi H=>∃xs,SqL K H l xs/\xs.length<=i⟩
def V9 (e it l:ah) (i:Nat) (h:cw):Prop:=(∃old,IsEnum h e it i old)/\h.IsListIter it l i
theorem WA {P:bj}{w:cq}{K:aq}{elts:List bp}{kk:Nat}{tp:Pos}{e it l:ah}(hei:e≠it):Turn P w K (.Tuple elts kk tp) (IW K l) [e,it] e (V9 e it l) where
 mem:=by simp
 obj:=λi h st b hb=>by
  obtain⟨⟨old,he⟩,o,ho,_,hd⟩:=st;simp at hb
  rcases hb with rfl|rfl
  ·exact⟨_,he,λv q=>by cases q⟩
  ·exact⟨_,ho,λv q=>by rw[hd]at q;cases q⟩
 keep:=λi h h' st k=>by obtain⟨⟨old,he⟩,hit⟩:=st;exact⟨⟨old,k _ (by simp) _ he⟩,hit.at λo q=>k it (by simp) o q⟩
 item:=by
  intro X hP hw hK hc i pins s σ H E I hf st hg;subst hP hw hK;obtain⟨xs,x,hq,hx⟩:=hg;obtain⟨its,rv,p,hz⟩:=I.list hq;obtain⟨u,hu,ru⟩:=rv.get hx;obtain⟨⟨old,he⟩,hit⟩:=st;refine wpAny_pyNext_enum_item he hit p.isList (x:=u) (by simpa using hu) hei λh' ho hit' hT hsz hk=>⟨_,rfl, ?_⟩
  refine wpAny_letOwnedTupleGo_enum ho λh2 he2 sb=>?_;have Te:s.heap.objs.size≠e:=ig (ao he);have nT:H s.heap.objs.size=none:=I.hok.fresh (ak _);have kp:∀b o,b∉[e,it]->s.heap.get? b=some o->h2.get? b=some o:=λb o hb q=>by simp at hb;exact sb.extBut _ _ hb.1 (hk b o hb.1 hb.2 q)
  have it2:h2.IsListIter it l (i+1):=hit'.at λo q=>(sb.2 it (cy hei)).trans q;have th:∀b∈[e,it],∃o,h2.get? b=some o:=λb hb=>by
   simp at hb
   rcases hb with rfl|rfl
   ·exact⟨_,he2⟩
   ·obtain⟨o,q,_⟩:=it2;exact⟨_,q⟩
  have I1:=I.tok (s.toks+1);have I2:=Inv.turns (T:=s.heap.objs.size) (vs:=[.int i,x]) (its:=[.int i s.toks,u]) I1 hf kp th (ak _) (.cons ⟨_,rfl⟩ (.cons ru .nil)) (by show 2<=cn;decide) ⟨_,sb.extBut _ _ Te hT,rfl,rfl,_,rfl⟩;refine⟨.ref s.heap.objs.size,_,I2,rfl,⟨_,x,rfl,nT,rfl,λys hy=>by rw[I.list_inj hy hq];exact hx⟩,⟨⟨_,he2⟩,it2⟩,λb hb=>?_⟩;obtain⟨o,q⟩:∃o,s.heap.get? b=some o:=by
   simp at hb
   rcases hb with rfl|rfl
   ·exact⟨_,he⟩
   ·obtain⟨o,q,_⟩:=hit;exact⟨_,q⟩
  rw[bA (bc (ao q))];exact(hf b hb).1
 done:=by
  intro X hP hw hK hc i pins s σ H E I hf st hg;subst hP hw hK;obtain⟨xs,hq,hx⟩:=hg;obtain⟨its,rv,p,hz⟩:=I.list hq;have hl:=rv.length;obtain⟨⟨old,he⟩,hit⟩:=st;refine wpAny_pyNext_enum_end (I.ok.hd hc) he hit p.isList (kv (by simp;omega)) λh' eb=>⟨rfl, ?_⟩
  refine Inv.turns0 I hf λb o hb q=>?_;simp at hb;exact eb b o hb.2 q
 self:=λ_ _ _ _ _ st h=>by obtain⟨⟨old,he⟩,_⟩:=st;exact wpAny_pyIter_enum he h
section
variable{X:Cx}{G:Cfg}{E:XK}{a:bp}{elts:List bp}{kk:Nat}{tp p pos:Pos}{ma:M Dv}{ms:M (List Dv)}
theorem WB:dh "enumerate" = some (.type "enumerate"):=by decide +kernel
def jW (i n:Nat):Src:=⟨n,λk h=>match getL h i with
 |some xs=>if xs.length=n then(xs[k]?).map λd=>.tup [.int k,d]else none
 |none=>none,λh=>match getL h i with
 |some xs=>xs.length==n
 |none=>false⟩
def pG:List Dv->Hs->Rs Src
 | [.ref i],h=>match getL h i with
  |some xs=>.ok (jW i xs.length) h
  |none=>.bad
 |_,_=>.bad
theorem WC (hg:Gl X "enumerate") (hm:X.mg "enumerate" = none) (ha:dQ X G E [a] ms) (hs:au [a] X.env=[(false,eval a X.env)]:=by rfl):
  hV X G E (.Tuple elts kk tp) (.Call (.Name "enumerate" p) [a] [] pos) (aR pG ms):=λhK pins s σ H R I ⟨μ,ρ,h,rs,sm,o⟩=>by
 refine Call_ (mS I hg hm WB (ik (aU (ha hK pos pins s σ H _ I (iX rs sm o λμ1 ds h1 vs H1 x1 rs1 s1 r1 o1=>show ∃l xs,vs=[.ref l]/\SqL X.K H1 l xs/\R (IW X.K l) H1 from ?_)) λus s1 ⟨vs,H1,I1,r1,q1⟩=>?_) hs rfl))
 ·unfold pG at o1
  split at o1
  ·rename_i i
   cases q:getL h1 i with
   |none=>rw[q]at o1;exact o1.elim
   |some xs=>
    rw[q]at o1;obtain⟨v,rfl,rv⟩:=oO r1;obtain⟨_,rfl⟩:=rv;obtain⟨vs1,e1,r2⟩:=s1.ob i _ (cX q);refine⟨μ1 i,vs1,rfl,SqL.of e1,o1.val s1 ?_⟩;intro k μ2 h2 H2 x2 s2;have hi1:i<h1.length:=(az.mp (cX q)).1;constructor
    ·intro hk d hd;dsimp only[jW]at hd
     cases q2:getL h2 i with
     |none=>rw[q2]at hd;cases hd
     |some ys=>
      rw[q2]at hd;dsimp only at hd
      split at hd
      ·obtain⟨ws,e3,r3⟩:=s2.ob i _ (cX q2);rw[x2.mu i hi1]at e3
       cases q3:ys[k]? with
       |none=>rw[q3]at hd;cases hd
       |some d'=>rw[q3]at hd;cases hd;obtain⟨v',ev,rv'⟩:=r3.get q3;refine⟨⟨ws,v',SqL.of e3,ev⟩,λx H' hy=>?_⟩;obtain⟨pp,v1,rfl,np,rfl,a1⟩:=hy;have b1:=a1 ws (SqL.of e3);rw[ev]at b1;cases b1;have smm:Same H2 (aM H2 pp (.tup [.int k,v'])):=cJ np;exact⟨smm,pp,_,rfl,bT,RelDL.cons rfl (RelDL.cons (RelD.mono (Ext.same smm) _ _ rv') RelDL.nil)⟩
      ·cases hd
    ·intro hk hf;dsimp only[jW]at hf hk
     cases q2:getL h2 i with
     |none=>rw[q2]at hf;cases hf
     |some ys=>
      rw[q2]at hf;obtain⟨ws,e3,r3⟩:=s2.ob i _ (cX q2);rw[x2.mu i hi1]at e3;have hl:ys.length=xs.length:=by simpa using hf
      exact⟨ws,SqL.of e3,by rw[r3.length];omega⟩
  ·exact o1.elim
 ·obtain⟨l,xs,e,hq,q⟩:=q1;subst e;obtain⟨u1,rfl,e1⟩:=iE r1;cases e1;obtain⟨its,rv,p1,hz⟩:=I1.list hq;refine call_enumerate_list p1.isList λh' he hit hsz kp=>?_;have I2:Inv X pins σ H1 { s1 with heap:=h' }:=I1.kept (t':=s1.toks) kp;refine wpAny_pyIter_enum he ⟨s1.heap.objs.size+1,[s1.heap.objs.size+1,s1.heap.objs.size],_,_,H1,rfl,I2,WA (l:=l) (mz _),⟨⟨_,he⟩,hit⟩,λb hb=>?_,q⟩;have hb':s1.heap.objs.size<=b:=by
   simp at hb
   rcases hb with rfl|rfl <;> omega
  exact I1.fpOk hb' (I1.hok.fresh hb')
end
def fR (g:Int->Int->Bool) (val:Nat->Int):Nat->Int
 |0=>val 0
 |k+1=>if g (val (k+1)) (fR g val k)then val (k+1)else fR g val k
theorem AM (g:Int->Int->Bool) (val:Nat->Int):∀k,val (argBest (λi j=>g (val i) (val j)) k)=fR g val k
 |0=>rfl
 |k+1=>by
  rw[argBest,fR,<-AM g val k]
  split <;> rfl
def dF (ns:List Int):Int:=fR (λa b=>decide (a>b)) (λi=>ns.getD i 0) (ns.length - 1)
def jX (ns:List Int):Int:=fR (λa b=>decide (a<b)) (λi=>ns.getD i 0) (ns.length - 1)
section
variable{X:Cx}{G:Cfg}{E:XK}{e a b:bp}{es:List bp}{ma mb:M Dv}{aR:M (List Dv)}{p pos:Pos}
abbrev AN (f:List Int->Int):List V->Hp->VK->Prop:=λxs H Q=>∃(p:ah) (ns:List Int),xs=[.ref p]/\H p=some (.lst (ns.map V.int))/\0<ns.length/\Q (.int (f ns)) H
theorem WD (hc:X.calm=true):CallR X (.builtin "max") (AN dF):=by
 intro pins s σ H xs us Q I rv ⟨p,ns,e,hp,h0,q⟩;subst e;obtain⟨u,rfl,ru⟩:=iE rv;cases ru;obtain⟨its,rits,pl,hz⟩:=I.list (SqL.of hp);have hn:its.toArray.size=ns.length:=by have:=rits.length;simp at this ⊢;omega
 have lp:=I.hok.lt hp;have ne:p≠s.heap.objs.size:=bc lp;refine call_max_walk (kh pl.isList ⟨_,_,_,_,_,_,_,rfl,tw (A:=X.A.in1) (show X.A.in1.handled=none from I.ok.hd hc) _ p ne its.toArray,⟨⟨_,ay _ rfl,rfl,rfl⟩,pl.isList.push _⟩,λb hb=>?_,by rw[hn];exact h0,CmpOf.ints_gt (λi=>ns.getD i 0) (λi v ev=>vK rits ev),λv h' tk ev k=>?_⟩)
 ·simp only[dv];simp at hb
  rcases hb with rfl|rfl
  ·exact ic _
  ·exact iz lp
 ·obtain⟨t',rfl⟩:=vK rits ev;refine⟨.int (dF ns),H,(vA (tk:=tk) I k:Inv X pins σ H { s with heap:=h',toks:=tk }),⟨t', ?_⟩,q⟩;rw[hn];rw[AM (λa b=>decide (a>b)) (λi=>ns.getD i 0)];rfl
theorem WE (hc:X.calm=true):CallR X (.builtin "min") (AN jX):=by
 intro pins s σ H xs us Q I rv ⟨p,ns,e,hp,h0,q⟩;subst e;obtain⟨u,rfl,ru⟩:=iE rv;cases ru;obtain⟨its,rits,pl,hz⟩:=I.list (SqL.of hp);have hn:its.toArray.size=ns.length:=by have:=rits.length;simp at this ⊢;omega
 have lp:=I.hok.lt hp;have ne:p≠s.heap.objs.size:=bc lp;refine call_min_walk (kh pl.isList ⟨_,_,_,_,_,_,_,rfl,tw (A:=X.A.in1) (show X.A.in1.handled=none from I.ok.hd hc) _ p ne its.toArray,⟨⟨_,ay _ rfl,rfl,rfl⟩,pl.isList.push _⟩,λb hb=>?_,by rw[hn];exact h0,CmpOf.ints_lt (λi=>ns.getD i 0) (λi v ev=>vK rits ev),λv h' tk ev k=>?_⟩)
 ·simp only[dv];simp at hb
  rcases hb with rfl|rfl
  ·exact ic _
  ·exact iz lp
 ·obtain⟨t',rfl⟩:=vK rits ev;refine⟨.int (jX ns),H,(vA (tk:=tk) I k:Inv X pins σ H { s with heap:=h',toks:=tk }),⟨t', ?_⟩,q⟩;rw[hn];rw[AM (λa b=>decide (a<b)) (λi=>ns.getD i 0)];rfl
def fB (f:List Int->Int) (x:Dv) (h:Hs):Rs Dv:=match x with
 | .ref i=>match getL h i with
  |some xs=>match bQ gS xs with
   |some ns=>if 0<ns.length then .ok (.int (f ns)) h else .bad
   |none=>.bad
  |none=>.bad
 |_=>.bad
theorem IX {f:List Int->Int}:kX G (λx H Q=>AN f [x] H Q) (fB f):=by
 intro E μ h H x vx Q s r o
 cases x with
 |ref i=>
  dsimp only[fB]at o
  cases q:getL h i with
  |none=>rw[q]at o;exact o.elim
  |some xs=>
   rw[q]at o;dsimp only at o
   cases q2:bQ gS xs with
   |none=>rw[q2]at o;exact o.elim
   |some ns=>
    rw[q2]at o;dsimp only at o
    split at o
    ·rename_i h0;obtain⟨vs,e1,r1⟩:=s.ob i _ (cX q);obtain⟨_,rfl⟩:=r;exact⟨_,ns,rfl,by rw[e1,rQ r1 q2],h0,o.val s rfl⟩
    ·exact o.elim
 |_=>exact o.elim
theorem WG:dh "sorted" = some (.builtin "sorted"):=by decide +kernel
theorem AO (hc:X.calm=true) (hg:Gl X "max") (hm:X.mg "max" = none) (ha:dQ X G E [e] aR)
  (he:au [e] X.env=[(false,eval e X.env)]:=by rfl):aH X G E (.Call (.Name "max" p) [e] [] pos) (aF (f1 (fB dF)) aR):=
 oM (CallR.imp (WD hc) λxs H Q ⟨v,h1,a,ns,h2,h3⟩=>⟨a,ns,by rw[h1,h2],h3⟩) (oP IX) hg hm GV ha (by decide) (by decide) he rfl
theorem WH (hc:X.calm=true) (hg:Gl X "min") (hm:X.mg "min" = none) (ha:dQ X G E [e] aR)
  (he:au [e] X.env=[(false,eval e X.env)]:=by rfl):aH X G E (.Call (.Name "min" p) [e] [] pos) (aF (f1 (fB jX)) aR):=
 oM (CallR.imp (WE hc) λxs H Q ⟨v,h1,a,ns,h2,h3⟩=>⟨a,ns,by rw[h1,h2],h3⟩) (oP IX) hg hm GW ha (by decide) (by decide) he rfl
end
section
variable{X:Cx}{G:Cfg}{E:XK}{e o a b:bp}{es:List bp}{ma mb mo me:M Dv}{aR:M (List Dv)}{p pos np apos cpos:Pos}{y:Str}
def AQ (_ j:Int):Prop:=0<j/\j<18446744073709551616
theorem WI:OpR X (binaryOp .FloorDiv) (rI AQ λi j=>.int (i / j)):=tV λi j _ _ _ _ _ hc q=>by
 have h1:(0:Int)<j:=hc.1;have h2:j<18446744073709551616:=hc.2;refine floordiv_int (by omega) (by rw[Int.fdiv_eq_ediv_of_nonneg i (by omega)];exact q) (.inl (PyProof.noPylong_of_log2 ?_));have h3:j.natAbs≠0:=by omega
 have h4:j.natAbs<2 ^ 64:=by omega
 have:=(Nat.log2_lt h3).mpr h4;omega
def rR (_ j:Int):Bool:=decide (0<j)&&decide (j<18446744073709551616)
theorem WJ (i j:Int) (h:rR i j=true):AQ i j:=by unfold rR at h;unfold AQ;simpa only[dj,decide_eq_true_eq]using h
def rS:Dv->Dv->Hs->Rs Dv:=jO rR λi j=>.int (i / j)
theorem IY (ha:aH X G E a ma) (hb:aH X G E b mb):aH X G E (.BinOp a .FloorDiv b pos) (m2 rS ma mb):=mW WI (uN WJ) ha hb
def IZ (K:aq):R2:=λx y H Q=>∃a b ys,x=.ref a/\y=.ref b/\SqT K H a []/\SqT K H b ys/\Q (.ref b) H
theorem op_catT0:OpR X (binaryOp .Add) (IZ X.K):=by
 intro pins s σ H x y v u Q I rx ry ⟨a,b,ys,e1,e2,ha,hb,q⟩;subst e1;subst e2;cases rx;cases ry;obtain⟨its,r1,p1,_⟩:=I.tuple ha;obtain⟨its2,r2,p2,_⟩:=I.tuple hb;have hn:its=[]:=r1.nil_iff.mpr rfl;subst hn;obtain⟨⟨cls,dd,data,sl⟩,ho,hc,n,hd⟩:=p1;obtain⟨⟨cls2,dd2,data2,sl2⟩,ho2,hc2,n2,hd2⟩:=p2;simp only at hc hd hc2 hd2;subst hc hd hc2 hd2;exact concat_meets ⟨_,ho,rfl⟩ ⟨_,ho2,rfl⟩ yb Ax qf pg (oq _ _)
  (tuple_addW0 a b _ _ n n2 dd dd2 sl sl2 rfl) ⟨ho,ho2,⟨.ref b,H,I,rfl,q⟩⟩
def bH (x y:Dv) (h:Hs):Rs Dv:=match x,y with
 | .tup [],.tup ys=>.ok (.tup ys) h
 |x,y=>kF x y h
theorem WK:eG G (λx y H Q=>IZ G.K x y H Q∨zN G.K x y H Q) bH:=by
 intro E μ h H x y vx vy Q s rx ry o;unfold bH at o
 split at o
 ·rename_i ys;obtain⟨a,vs,rfl,ea,ra⟩:=rx;obtain⟨b,ws,rfl,eb,rb⟩:=id ry;have:vs=[]:=by rw[RelDL]at ra;exact ra
  subst this;exact .inl ⟨a,b,ws,rfl,rfl,SqT.of ea,SqT.of eb,o.val s ry⟩
 ·exact .inr (SA E μ h H _ _ vx vy Q s rx ry o)
theorem fS (ha:aH X G E a ma) (hb:aH X G E b mb):aH X G E (.BinOp a .Add b pos) (m2 bH ma mb):=λhK=>mW (op_catT0.or R9) (by rw[hK];exact WK) ha hb hK
def rT (k:Int):List Int->Option Nat
 | []=>none
 |n::ns=>if n=k then some 0 else(rT k ns).map (·+1)
end
section
variable{X:Cx}{G:Cfg}{E:XK}{k:Nat}{a b:bp}{ma mb mo:M Dv}{pos:Pos}
theorem WL (g:Good X G E k) (ha:aH X G E a ma) (hb:aH X G E b mb) (hm:lastMarks [.In] [b]=false:=by with_unfolding_all rfl):aH X G E (.Compare a [.In] [b] pos) (m2 (eC false) ma mb):=λhK=>qN (IE g.room.units) (by rw[hK];exact vJ false) ha hb hm hK
theorem JA (g:Good X G E k) (ha:aH X G E a ma) (hb:aH X G E b mb) (hm:lastMarks [.NotIn] [b]=false:=by with_unfolding_all rfl):aH X G E (.Compare a [.NotIn] [b] pos) (m2 (eC true) ma mb):=λhK=>qN (IF g.room.units) (by rw[hK];exact vJ true) ha hb hm hK
theorem JB (g:Good X G E k) (ha:aH X G E a ma) (hb:aH X G E b mb) (hm:lastMarks [.In] [b]=false:=by with_unfolding_all rfl):eR X G E (.Compare a [.In] [b] pos) (mB (m2 (eC false) ma mb)):=λhK=>lN (IE g.room.units) (by rw[hK];exact vJ false) ha hb hm hK
theorem AR (g:Good X G E k) (ha:aH X G E a ma) (hb:aH X G E b mb) (hm:lastMarks [.NotIn] [b]=false:=by with_unfolding_all rfl):eR X G E (.Compare a [.NotIn] [b] pos) (mB (m2 (eC true) ma mb)):=λhK=>lN (IF g.room.units) (by rw[hK];exact vJ true) ha hb hm hK
theorem WM (ha:aH X G E a ma) (hb:aH X G E b mb):eR X G E (.Compare a [.Is] [b] pos) (mB (m2 (gO false) ma mb)):=lN UY (II false) ha hb (kU _)
theorem WN (ha:aH X G E a ma) (hb:aH X G E b mb):eR X G E (.Compare a [.IsNot] [b] pos) (mB (m2 (gO true) ma mb)):=lN UZ (II true) ha hb (kU _)
end
theorem jG {H:Hs}{n:Nat}{xs ys:List Dv}(e:getL H n=some xs):getL (H.set n (.lst ys)) n=some ys:=by have h:=(az.mp (cX e)).1;unfold getL;rw[da h]
theorem lB {H:Hs}{n j:Nat}{o:Ob}(h:n≠j):getL (H.set n o) j=getL H j:=by unfold getL;rw[dg h]
theorem nL {H:Hs}{n:Nat}{xs:List Dv}(e:getL H n=some xs):n<H.length:=(az.mp (cX e)).1
theorem jH {H l:Hs}{n:Nat}{xs:List Dv}(e:getL H n=some xs):getL (H++l) n=some xs:=by unfold getL;rw[ed (nL e),cX e]
structure Fr (S:List Nat) (H H':Hs):Prop where
 le:H.length<=H'.length
 at_:∀j,j<H.length->j∉S->H'[j]?=H[j]?
theorem Fr.refl {S:List Nat}{H:Hs}:Fr S H H:=⟨ak _,λ_ _ _=>rfl⟩
theorem Fr.trans {S T:List Nat}{H H1 H2:Hs}(a:Fr S H H1) (b:Fr T H1 H2) (h:∀j∈T,j∈S∨H.length<=j):Fr S H H2:=⟨dk a.le b.le,λj hj hS=>(b.at_ j (ar hj a.le) λz=>(h j z).elim hS λw=>absurd (ar hj w) (fj _)).trans (a.at_ j hj hS)⟩
theorem Fr.app {S:List Nat}{H l:Hs}:Fr S H (H++l):=⟨by simp,λj hj _=>ed hj⟩
theorem Fr.set {H:Hs}{n:Nat}{o:Ob}:Fr [n] H (H.set n o):=⟨by simp,λj hj hS=>dg (by simpa using cy (by simpa using hS))⟩
theorem Fr.getL {S:List Nat}{H H':Hs}{j:Nat}{xs:List Dv}(a:Fr S H H') (e:getL H j=some xs) (h:j∉S):getL H' j=some xs:=by unfold L2.Mr.getL at e ⊢;rw[a.at_ j (nL e) h];exact e
theorem Fr.mono {S T:List Nat}{H H':Hs}(a:Fr S H H') (h:∀j∈S,j∈T):Fr T H H':=⟨a.le,λj hj hT=>a.at_ j hj λz=>hT (h j z)⟩
theorem bJ {m u:MS}{ρ ρ1:Ev}{h h1:Hs}(e:m ρ h=.nx ρ1 h1):aJ m u ρ h=u ρ1 h1:=by unfold aJ;rw[e]
theorem vL {mi:M Src}{st:cG}{b:MS}{ρ:Ev}{h h1:Hs}{src:Src}(e:mi ρ h=.ok src h1):cV mi st b ρ h=eZ src st b src.n 0 ρ h1:=by unfold cV;rw[e];rfl
theorem vM {c:M Bool}{t u:MS}{ρ:Ev}{h h1:Hs}(e:c ρ h=.ok true h1):aX c t u ρ h=t ρ h1:=by unfold aX;rw[e];rfl
theorem rV {c:M Bool}{t u:MS}{ρ:Ev}{h h1:Hs}(e:c ρ h=.ok false h1):aX c t u ρ h=u ρ h1:=by unfold aX;rw[e];rfl
theorem AS {src:Src}{sg:cG}{b:MS}{f k:Nat}{ρ ρ1 ρ2:Ev}{H H2:Hs}{d:Dv}(hg:src.get k H=some d) (hs:sg d ρ=some ρ1) (hb:b ρ1 H=.nx ρ2 H2):eZ src sg b (f+1) k ρ H=eZ src sg b f (k+1) ρ2 H2:=by simp[eZ,hg,hs,hb]
theorem JC {src:Src}{sg:cG}{b:MS}(P:Nat->Ev->Hs->Prop)
  (step:∀k ρ H,k<src.n->P k ρ H->∃d ρ1 ρ2 H2,src.get k H=some d/\sg d ρ=some ρ1/\b ρ1 H=.nx ρ2 H2/\P (k+1) ρ2 H2)
  (fin:∀ρ H,P src.n ρ H->src.fin H=true):∀(f k:Nat) (ρ:Ev) (H:Hs),f+k=src.n->P k ρ H->∃ρ' H',eZ src sg b f k ρ H=.nx ρ' H'/\P src.n ρ' H'
 |0,k,ρ,H,h,p=>by
  have hk:k=src.n:=by omega
  subst hk;exact⟨ρ,H,by simp[eZ,fin ρ H p],p⟩
 |f+1,k,ρ,H,h,p=>by obtain⟨d,ρ1,ρ2,H2,e1,e2,e3,p2⟩:=step k ρ H (by omega) p;rw[AS e1 e2 e3];exact JC P step fin f (k+1) ρ2 H2 (by omega) p2
theorem mH {mi:M Src}{src:Src}{sg:cG}{b:MS}{ρ:Ev}{H H1:Hs}(hi:mi ρ H=.ok src H1) (P:Nat->Ev->Hs->Prop)
  (step:∀k ρ H,k<src.n->P k ρ H->∃d ρ1 ρ2 H2,src.get k H=some d/\sg d ρ=some ρ1/\b ρ1 H=.nx ρ2 H2/\P (k+1) ρ2 H2)
  (fin:∀ρ H,P src.n ρ H->src.fin H=true) (p:P 0 ρ H1):∃ρ' H',cV mi sg b ρ H=.nx ρ' H'/\P src.n ρ' H':=by
 rw[vL hi];exact JC P step fin src.n 0 ρ H1 (by omega) p
theorem rW {src:Src}{sg:cG}{t:M Bool}{m:MC}(P:Nat->Ev->Hs->List Dv->Prop)
  (step:∀k ρ H acc,k<src.n->P k ρ H acc->∃d ρ1,src.get k H=some d/\sg d ρ=some ρ1 /\
   ((∃H2,t ρ1 H=.ok false H2/\P (k+1) ρ1 H2 acc)∨∃H2 ρ3 acc3 H3,t ρ1 H=.ok true H2/\m ρ1 H2 acc=.ok (ρ3,acc3) H3/\P (k+1) ρ3 H3 acc3))
  (fin:∀ρ H acc,P src.n ρ H acc->src.fin H=true):∀(f k:Nat) (ρ:Ev) (H:Hs) (acc:List Dv),f+k=src.n->P k ρ H acc->∃ρ' H' acc',eK src sg t m f k ρ H acc=.ok (ρ',acc') H'/\P src.n ρ' H' acc'
 |0,k,ρ,H,acc,h,p=>by
  have hk:k=src.n:=by omega
  subst hk;exact⟨ρ,H,acc,by simp[eK,fin ρ H acc p],p⟩
 |f+1,k,ρ,H,acc,h,p=>by
  obtain⟨d,ρ1,e1,e2,e3⟩:=step k ρ H acc (by omega) p
  rcases e3 with⟨H2,e3,p2⟩|⟨H2,ρ3,acc3,H3,e3,e4,p2⟩
  ·obtain⟨ρ',H',acc',e5,p5⟩:=rW P step fin f (k+1) ρ1 H2 acc (by omega) p2;exact⟨ρ',H',acc',by simp[eK,e1,e2,e3,e5],p5⟩
  ·obtain⟨ρ',H',acc',e5,p5⟩:=rW P step fin f (k+1) ρ3 H3 acc3 (by omega) p2;exact⟨ρ',H',acc',by simp[eK,e1,e2,e3,e4,e5],p5⟩
theorem AU (k:Nat) (H:Hs):∀ns:List Int,bQ (bR (k+1) H) (ns.map Dv.int)=some (ns.map Dt.int)
 | []=>rfl
 |n::ns=>by rw[dw,bQ,AU k H ns];rfl
def aI (p:Int×Int):Dv:=.tup [.int p.1,.int p.2]
def iQ (p:Int×Int):Dt:=.tup [.int p.1,.int p.2]
theorem AV (k:Nat) (H:Hs) (p:Int×Int):bR (k+2) H (aI p)=some (iQ p):=rfl
theorem AW (k:Nat) (H:Hs):∀ps:List (Int×Int),bQ (bR (k+2) H) (ps.map aI)=some (ps.map iQ)
 | []=>rfl
 |p::ps=>by rw[dw,bQ,AW k H ps,AV];rfl
theorem JD (p q:Int×Int):bN (iQ p) (iQ q)=decide (p=q):=by obtain⟨a,b⟩:=p;obtain⟨c,d⟩:=q;simp only[iQ,bN,fX,Bool.and_true];rw[gy];simp
theorem lD (neg:Bool) (H:Hs) (p:Int×Int) (ps:List (Int×Int)):eC neg (aI p) (.tup (ps.map aI)) H=.ok (.bl (if neg then !decide (p∈ps)else decide (p∈ps))) H:=by
 have e:(ps.map iQ).any (λt=>bN t (iQ p))=decide (p∈ps):=by
  rw[gy];simp only[zy,qi,vn,JD,decide_eq_true_eq];constructor
  ·rintro ⟨q,hq,rfl⟩;exact hq
  ·intro h;exact⟨p,h,rfl⟩
 have h1:bQ (bR cE H) (ps.map aI)=some (ps.map iQ):=AW 28 H ps;have h2:bR cE H (aI p)=some (iQ p):=AV 28 H p;show mD [] neg (aI p) (.tup (ps.map aI)) H=_;simp only[mD,fY,h1,h2,e]
section
variable{X:Cx}{G:Cfg}{E:XK}{elt tg iter tg' iter':bp}{ifs ifs':List bp}{sc:gh}{ps px pos:Pos}{N:List Str}{cap:List (Option Nat)}{mi mi':M Src}{st st':cG}{test test':M Bool}{me:M Dv}{i:Nat}{x:Str}
theorem JE (hN:X.N.Nodup) (hi':X.N[i]?=some x) (hc:X.calm=true) (C:CapOk X sc N cap) (hi:hV X G E tg iter mi) (hg:∀s H ex,iZ (bV X sc N s H ex) G tg st) (htt:∀s H ex,lS (bV X sc N s H ex) G ifs test) (hel:∀s H ex,aH (bV X sc N s H ex) G E0 elt me)
  (hx:X.env.scope.names.lookup x=some .local:=by rfl) (hsw:swapsWith (.ListComp elt [⟨tg,iter,ifs,0⟩] sc ps) (some (.Name x px)) pos.line X.env=pure true:=by rfl)
  (hs:∀x,foldedSetIterable iter X.env x=pure x:=by intro _;rfl):gM X G E (.Assign [.Name x px] (.ListComp elt [⟨tg,iter,ifs,0⟩] sc ps) pos) (aK (cN (cB mi cap st test (bP me))) (aE i)):=λhK=>
 PS.imp (GJ hsw hN hi' hx hc C rfl (λit D env=>zD elt tg iter ifs sc ps (.ref it) D env) (hi hK) (λs H ex=>hg s H ex hK) (λs H ex=>htt s H ex hK) (λs H ex D=>PCl.imp (qH (hel s H ex hK)) λ_ _ _ _ t=>uT t) hs) λD σ H ⟨μ,ρ,h,rs,s,o⟩=>uV (zS (kY rs s o λμ1 d h1 v H1 x1 rs1 s1 r1 o1=>o1 μ1 H1 _ Ext.refl s1 (rs1.set i r1)))
theorem WO (hN:X.N.Nodup) (hi1:X.N[i]?=some x) (hc:X.calm=true) (C:CapOk X sc N cap) (hi:hV X G E tg iter mi) (hg:∀s H ex,iZ (bV X sc N s H ex) G tg st) (htt:∀s H ex,lS (bV X sc N s H ex) G ifs test)
  (hi':∀s H ex,hV (bV X sc N s H ex) G E0 tg' iter' mi') (hg':∀s H ex,iZ (bV X sc N s H ex) G tg' st') (htt':∀s H ex,lS (bV X sc N s H ex) G ifs' test') (hel:∀s H ex,aH (bV X sc N s H ex) G E0 elt me)
  (hx:X.env.scope.names.lookup x=some .local:=by rfl) (hsw:swapsWith (.ListComp elt [⟨tg,iter,ifs,0⟩,⟨tg',iter',ifs',0⟩] sc ps) (some (.Name x px)) pos.line X.env=pure true:=by rfl)
  (hs:∀x,foldedSetIterable iter X.env x=pure x:=by intro _;rfl) (hs':∀s H ex x,foldedSetIterable iter' (bV X sc N s H ex).env x=pure x:=by intro _ _ _ _;rfl):
  gM X G E (.Assign [.Name x px] (.ListComp elt [⟨tg,iter,ifs,0⟩,⟨tg',iter',ifs',0⟩] sc ps) pos) (aK (cN (cB mi cap st test (jF mi' st' test' (bP me)))) (aE i)):=λhK=>
 PS.imp (GJ hsw hN hi1 hx hc C rfl (inner:=λD env=>oG iter' (.ListComp elt [⟨tg,iter,ifs,0⟩,⟨tg',iter',ifs',0⟩] sc ps) 1 D env) (λit D env=>GC elt tg iter tg' iter' ifs ifs' sc ps (.ref it) D env) (hi hK) (λs H ex=>hg s H ex hK) (λs H ex=>htt s H ex hK)
  (λs H ex D=>PCl.imp (GG (X:=bV X sc N s H ex) (D:=D) (gens:=[⟨tg,iter,ifs,0⟩,⟨tg',iter',ifs',0⟩]) (d:=1) rfl hc rfl (λit=>GD elt tg iter tg' iter' ifs ifs' sc ps (.ref it) D _) (hi' s H ex hK) (hg' s H ex hK) (htt' s H ex hK) (PCl.imp (qH (hel s H ex hK)) λ_ _ _ _ t=>uT t) (hs' s H ex)) λ_ _ _ _ t=>HB t) hs) λD σ H ⟨μ,ρ,h,rs,s,o⟩=>
  uV (zS (kY rs s o λμ1 d h1 v H1 x1 rs1 s1 r1 o1=>o1 μ1 H1 _ Ext.refl s1 (rs1.set i r1)))
end
end L2.Mr
namespace SoM
open PySem PySem.W PyProof.Rows
variable{n:Nat}{f:Nat->Nat}{s:ag}
def lE (n:Nat) (f:Nat->Nat) (i j:Nat) (C:Bool->ag->Prop) (s:ag):Prop:=i<n/\j<n/\C (decide (f i<f j)) s
def F (f:Nat->Nat) (p:Array Nat) (k:Nat):Nat:=f (p.getD k 0)
def Ent (n:Nat) (p:Array Nat):Prop:=p.size=n/\p.toList.Perm (bf n)
theorem Ent.lt {p:Array Nat}(e:Ent n p) (hn:0<n) (k:Nat):p.getD k 0<n:=by
 by_cases h:k<p.size
 ·have:p.getD k 0=p[k]:=by simp[jq,h]
  rw[this];have hm:p[k]∈p.toList:=by simp
  exact bw.mp (e.2.mem_iff.mp hm)
 ·have:p.getD k 0=0:=by simp[jq,h]
  omega
theorem rX {p q:Array Nat}{i j:Nat}(h:p[i]?=q[j]?):F f p i=F f q j:=by unfold F;simp only[Array.getD_eq_getD_getElem?,h]
theorem Ent.mirror {p:Array Nat}(e:Ent n p) (i j d:Nat):Ent n (mirror p i j d):=⟨(mirror_size ..).trans e.1,((we.mp (mirror_perm p i j d))).trans e.2⟩
theorem Ent.bubble {p:Array Nat}(e:Ent n p) (k d:Nat):Ent n (bubble p k d):=⟨(bubble_size ..).trans e.1,((we.mp (bubble_perm p k d))).trans e.2⟩
theorem Ent.rev {p:Array Nat}(e:Ent n p) (i j:Nat):Ent n (kas_rev p i j):=e.mirror _ _ _
theorem rY {p:Array Nat}{i j:Nat}(hj:j<=p.size) (k:Nat):F f (kas_rev p i j) k=if i<=k/\k<j then F f p (i+j - 1 - k)else F f p k:=by
 have e:=getElem?_mirror_all (i:=i) hj k
 by_cases h:i<=k/\k<j
 ·rw[if_pos h]at e ⊢;exact rX e
 ·rw[if_neg h]at e ⊢;exact rX e
theorem JF {p:Array Nat}{k d:Nat}(hs:k<p.size) (hd:d<=k) (i:Nat):F f (bubble p k d) i=if i=k - d then F f p k else if k - d<i/\i<=k then F f p (i - 1)else F f p i:=by
 have e:=getElem?_bubble hs d hd i
 by_cases h1:i=k - d
 ·rw[if_pos h1]at e ⊢;exact rX e
 ·rw[if_neg h1]at e ⊢
  by_cases h2:k - d<i/\i<=k
  ·rw[if_pos h2]at e ⊢;exact rX e
  ·rw[if_neg h2]at e ⊢;exact rX e
def Inc (f:Nat->Nat) (p:Array Nat) (m:Nat):Prop:=∀i j,i<=j->j<m->F f p i<=F f p j
def Dec (f:Nat->Nat) (p:Array Nat) (m:Nat):Prop:=∀i j,i<=j->j<m->F f p j<=F f p i
theorem Inc.succ {p:Array Nat}{m:Nat}(h:Inc f p m) (hm:1<=m) (h1:F f p (m - 1)<=F f p m):Inc f p (m+1):=by
 intro i j hij hj
 by_cases q:j=m
 ·subst q
  by_cases r:i=j
  ·subst r;exact ak _
  ·exact dk (h i (j - 1) (by omega) (by omega)) h1
 ·exact h i j hij (by omega)
theorem Dec.succ {p:Array Nat}{m:Nat}(h:Dec f p m) (hm:1<=m) (h1:F f p m<=F f p (m - 1)):Dec f p (m+1):=by
 intro i j hij hj
 by_cases q:j=m
 ·subst q
  by_cases r:i=j
  ·subst r;exact ak _
  ·exact dk h1 (h i (j - 1) (by omega) (by omega))
 ·exact h i j hij (by omega)
theorem AX {p:Array Nat}(e:Ent n p) (hn:0<n) {Q:Nat->ag->Prop}:∀(fu m:Nat) (s:ag),1<=m->Inc f p m->
  (∀m',m<=m'->m'<=m+fu->Inc f p m'->(m'=m+fu∨F f p m'<F f p (m' - 1))->Q m' s)->(kas_asc p fu m).kasWp (lE n f) Q s
 |0,m,s,h1,hi,h=>h m (ak _) (ak _) hi (.inl rfl)
 |fu+1,m,s,h1,hi,h=>by
  refine⟨e.lt hn _,e.lt hn _, ?_⟩
  by_cases c:f (p.getD m 0)<f (p.getD (m - 1) 0)
  ·rw[decide_eq_true c];exact h m (ak _) (by omega) hi (.inr c)
  ·rw[decide_eq_false c];refine AX e hn fu (m+1) s (by omega) (hi.succ h1 (Nat.le_of_not_lt c)) λm' a b c d=>h m' (by omega) (by omega) c ?_
   rcases d with d|d
   ·exact .inl (by omega)
   ·exact .inr d
theorem vN (hn:0<n) {Q:Array Nat×Nat×Nat->ag->Prop}:∀(fu m q:Nat) (p:Array Nat) (s:ag),Ent n p->q+1<=m->m+fu<=n->Dec f p m->(∀k,m - 1 - q<=k->k<m->F f p k=F f p (m - 1))->
  (∀p' m' q',Ent n p'->q'+1<=m'->m<=m'->m'<=m+fu->Dec f p' m'->(∀k,m' - 1 - q'<=k->k<m'->F f p' k=F f p' (m' - 1))->Q (p',m',q') s)->(kas_desc fu p m q).kasWp (lE n f) Q s
 |0,m,q,p,s,e,h1,h2,hd,he,h=>h p m q e h1 (ak _) (ak _) hd he
 |fu+1,m,q,p,s,e,h1,h2,hd,he,h=>by
  refine⟨e.lt hn _,e.lt hn _, ?_⟩
  by_cases c:f (p.getD m 0)<f (p.getD (m - 1) 0)
  ·have c':F f p m<F f p (m - 1):=c;rw[decide_eq_true c];show KasT.kasWp _ (if true=true then(if q>0 then _ else _)else _) _ _;rw[if_pos rfl]
   by_cases hq:q>0
   ·rw[if_pos hq];have hsz:m<=p.size:=by rw[e.1];omega
    have hF:∀k,F f (kas_rev p (m - (q+1)) m) k=F f p k:=by
     intro k;rw[rY hsz]
     split
     ·rw[he _ (by omega) (by omega),he k (by omega) (by omega)]
     ·rfl
    have hd':Dec f (kas_rev p (m - (q+1)) m) (m+1):=by intro i j hij hj;rw[hF,hF];exact hd.succ (by omega) (gr c') i j hij hj
    refine vN hn fu (m+1) 0 _ s (e.rev _ _) (by omega) (by omega) hd' ?_ λp' m' q' a b c d=>h p' m' q' a b (by omega) (by omega);intro k k1 k2;have:k=m:=by omega
    subst this;rfl
   ·rw[if_neg hq];refine vN hn fu (m+1) 0 _ s e (by omega) (by omega) (hd.succ (by omega) (gr c')) ?_ λp' m' q' a b c d=>h p' m' q' a b (by omega) (by omega);intro k k1 k2;have:k=m:=by omega
    subst this;rfl
  ·have c':¬ F f p m<F f p (m - 1):=c;rw[decide_eq_false c];show KasT.kasWp _ (if false=true then _ else KasT.ask _ _ _) _ _;rw[if_neg (by simp)];refine⟨e.lt hn _,e.lt hn _, ?_⟩
   by_cases c2:f (p.getD (m - 1) 0)<f (p.getD m 0)
   ·rw[decide_eq_true c2];exact h p m q e h1 (ak _) (by omega) hd he
   ·have c2':¬ F f p (m - 1)<F f p m:=c2;rw[decide_eq_false c2];have eq:F f p m=F f p (m - 1):=by omega
    refine vN hn fu (m+1) (q+1) _ s e (by omega) (by omega) (hd.succ (by omega) (by omega)) ?_ λp' m' q' a b c d=>h p' m' q' a b (by omega) (by omega);intro k k1 k2;show F f p k=F f p m
    by_cases r:k=m
    ·subst r;rfl
    ·rw[eq];exact he k (by omega) (by omega)
theorem Dec.rev {p:Array Nat}{m:Nat}(hm:m<=p.size) (h:Dec f p m):Inc f (kas_rev p 0 m) m:=by intro i j hij hj;rw[rY hm,rY hm,if_pos ⟨iu _,by omega⟩,if_pos ⟨iu _,hj⟩];exact h _ _ (by omega) (by omega)
theorem JG (hn:0<n) {p:Array Nat}{m:Nat}{Q:Nat×Array Nat->ag->Prop}(e:Ent n p) (h1:1<=m) (h2:m<=n) (hd:Dec f p m)
  (h:∀m' p',Ent n p'->1<=m'->m'<=n->Inc f p' m'->Q (m',p') s):(kas_tail3 m n p).kasWp (lE n f) Q s:=by
 unfold kas_tail3;rw[KasT.kasWp_bind];refine AX (e.rev 0 m) hn (n - m) m s h1 (hd.rev (by rw[e.1];exact h2)) λm' a b c _=>?_;exact h m' _ (e.rev 0 m) (by omega) (by omega) c
theorem JH (hn:0<n) {p:Array Nat}{m:Nat}{Q:Nat×Array Nat->ag->Prop}(e:Ent n p) (h2:m+1<=n) (hd:Dec f p (m+1))
  (h:∀m' p',Ent n p'->1<=m'->m'<=n->Inc f p' m'->Q (m',p') s):(kas_descPart m n p).kasWp (lE n f) Q s:=by
 unfold kas_descPart;rw[KasT.kasWp_bind];refine vN hn (n - (m+1)) (m+1) 0 p s e (by omega) (by omega) hd (λk k1 k2=>by (have:k=m:=by omega);subst this;rfl) λp' m' q' e' a b c d eq=>?_;show KasT.kasWp _ (if q'>0 then _ else _) _ _
 by_cases hq:q'>0
 ·rw[if_pos hq];have hsz:m'<=p'.size:=by rw[e'.1];omega
  have hF:∀k,F f (kas_rev p' (m' - (q'+1)) m') k=F f p' k:=by
   intro k;rw[rY hsz]
   split
   ·rw[eq _ (by omega) (by omega),eq k (by omega) (by omega)]
   ·rfl
  refine JG hn (e'.rev _ _) (show 1<=m' by omega) (show m'<=n by omega) ?_ h;intro i j hij hj;rw[hF,hF];exact d i j hij hj
 ·rw[if_neg hq];exact JG hn e' (show 1<=m' by omega) (show m'<=n by omega) d h
theorem WQ (hn:1<=n) {p:Array Nat}{Q:Nat×Array Nat->ag->Prop}(e:Ent n p)
  (h:∀m' p',Ent n p'->1<=m'->m'<=n->Inc f p' m'->Q (m',p') s):(kas_count n p).kasWp (lE n f) Q s:=by
 unfold kas_count;rw[KasT.kasWp_bind];refine AX e (by omega) (n - 1) 1 s (ak _) (λi j hij hj=>by (have:i=j:=by omega);subst this;exact ak _) λm a b c d=>?_;show KasT.kasWp _ (if(m==n)=true then _ else if m>1 then _ else _) _ _
 by_cases q:m=n
 ·rw[if_pos (beq_iff_eq.mpr q)];exact h m p e (by omega) (by omega) c
 ·rw[if_neg (by intro z;exact q (beq_iff_eq.mp z))];have hlt:F f p m<F f p (m - 1):=by
   rcases d with d|d
   ·omega
   ·exact d
  by_cases q1:m>1
  ·rw[if_pos q1];refine⟨e.lt (by omega) _,e.lt (by omega) _, ?_⟩
   by_cases c2:f (p.getD 0 0)<f (p.getD (m - 1) 0)
   ·rw[decide_eq_true c2];exact h m p e (by omega) (by omega) c
   ·have c2':¬ F f p 0<F f p (m - 1):=c2;rw[decide_eq_false c2];have hsz:m<=p.size:=by rw[e.1];omega
    have eq:∀k,k<m->F f p k=F f p 0:=by intro k hk;have:=c 0 k (by omega) hk;have:=c k (m - 1) (by omega) (by omega);omega
    have hF:∀k,F f (kas_rev p 0 m) k=F f p k:=by
     intro k;rw[rY hsz]
     split
     ·rw[eq _ (by omega),eq k (by omega)]
     ·rfl
    refine JH (by omega) (e.rev _ _) (by omega) ?_ h;intro i j hij hj;rw[hF,hF]
    by_cases r:j=m
    ·subst r
     by_cases r2:i=j
     ·subst r2;exact ak _
     ·have:=eq i (by omega);have:=eq (j - 1) (by omega);omega
    ·rw[eq i (by omega),eq j (by omega)];exact ak _
  ·rw[if_neg q1];have:m=1:=by omega
   subst this;refine JH (by omega) e (by omega) ?_ h;intro i j hij hj
   by_cases r:i=j
   ·subst r;exact ak _
   ·have h1:i=0:=by omega
    have h2:j=1:=by omega
    subst h1;subst h2;exact gr hlt
theorem AY {p:Array Nat}(e:Ent n p) (hn:0<n) {k:Nat}(hi:Inc f p k) {Q:Nat->ag->Prop}:∀(fu l r:Nat) (s:ag),r - l<=fu->l<=r->r<=k->
  (∀i,i<l->F f p i<=F f p k)->(∀i,r<=i->i<k->F f p k<F f p i)->
  (∀l',l'<=k->(∀i,i<l'->F f p i<=F f p k)->(∀i,l'<=i->i<k->F f p k<F f p i)->Q l' s)->(kas_place p k fu l r).kasWp (lE n f) Q s
 |0,l,r,s,h1,h2,h3,ha,hb,h=>by
  have:l=r:=by omega
  subst this;exact h l h3 ha hb
 |fu+1,l,r,s,h1,h2,h3,ha,hb,h=>by
  unfold kas_place
  by_cases q:l>=r
  ·rw[if_pos q];have:l=r:=by omega
   subst this;exact h l h3 ha hb
  ·rw[if_neg q];refine⟨e.lt hn _,e.lt hn _, ?_⟩
   by_cases c:f (p.getD k 0)<f (p.getD ((l+r) / 2) 0)
   ·have c':F f p k<F f p ((l+r) / 2):=c;rw[decide_eq_true c];refine AY e hn hi fu l ((l+r) / 2) s (by omega) (by omega) (by omega) ha ?_ h;intro i i1 i2;have:=hi ((l+r) / 2) i i1 i2;omega
   ·have c':¬ F f p k<F f p ((l+r) / 2):=c;rw[decide_eq_false c];refine AY e hn hi fu ((l+r) / 2+1) r s (by omega) (by omega) (by omega) ?_ hb h;intro i i1;have:=hi i ((l+r) / 2) (by omega) (by omega);omega
theorem JI (hn:0<n) {Q:Array Nat->ag->Prop}:∀(fu k:Nat) (p:Array Nat) (s:ag),Ent n p->k+fu<=n->Inc f p k->(∀p',Ent n p'->Inc f p' (k+fu)->Q p' s)->(kas_bin fu p k).kasWp (lE n f) Q s
 |0,k,p,s,e,h1,hi,h=>h p e hi
 |fu+1,k,p,s,e,h1,hi,h=>by
  unfold kas_bin;rw[KasT.kasWp_bind];refine AY e hn hi k 0 k s (by omega) (by omega) (ak _) (λi hi=>absurd hi (by omega)) (λi a b=>absurd b (by omega)) λl hl ha hb=>?_;have hsz:k<p.size:=by rw[e.1];omega
  refine JI hn fu (k+1) _ s (e.bubble _ _) (by omega) ?_ λp' e' i'=>h p' e' (by rw[show k+(fu+1)=k+1+fu by omega];exact i');intro i j hij hj;rw[JF hsz (by omega),JF hsz (by omega)];have hkl:k - (k - l)=l:=by omega
  rw[hkl]
  by_cases i1:i=l
  ·rw[if_pos i1]
   by_cases j1:j=l
   ·rw[if_pos j1];exact ak _
   ·rw[if_neg j1,if_pos (by omega)];exact gr (hb (j - 1) (by omega) (by omega))
  ·rw[if_neg i1]
   by_cases i2:l<i/\i<=k
   ·rw[if_pos i2,if_neg (by omega),if_pos (by omega)];exact hi (i - 1) (j - 1) (by omega) (by omega)
   ·rw[if_neg i2]
    by_cases j1:j=l
    ·rw[if_pos j1];exact ha i (by omega)
    ·rw[if_neg j1]
     by_cases j2:l<j/\j<=k
     ·rw[if_pos j2];exact hi i (j - 1) (by omega) (by omega)
     ·rw[if_neg j2];exact hi i j hij (by omega)
theorem WR (hn:1<=n) {Q:Array Nat->ag->Prop}(h:∀p,Ent n p->Inc f p n->Q p s):(kas_sort n).kasWp (lE n f) Q s:=by
 unfold kas_sort;rw[KasT.kasWp_bind];refine WQ hn ⟨by simp,by simp⟩ λm p e h1 h2 hi=>?_;show KasT.kasWp _ (if m<n then _ else _) _ _
 by_cases q:m<n
 ·rw[if_pos q];have:max m 1=m:=by omega
  rw[this];refine JI (by omega) (n - m) m p s e (by omega) hi λp' e' i'=>h p' e' ?_;rw[show m+(n - m)=n by omega]at i';exact i'
 ·rw[if_neg q];have:m=n:=by omega
  subst this;exact h p e hi
theorem JJ {α:Type}{cmp:Nat->Nat->(Bool->ag->Prop)->ag->Prop}{I:ag->Prop}(hc:∀i j C s,I s->i<n->j<n->(∀s',I s'->C (decide (f i<f j)) s')->cmp i j C s):
  ∀(t:KasT α) (Q:α->Prop) (Q':α->ag->Prop) (s₀ s:ag),t.kasWp (lE n f) (λa _=>Q a) s₀->I s->(∀a s',Q a->I s'->Q' a s')->t.kasWp cmp Q' s
 | .ret a,Q,Q',s₀,s,h,hi,k=>k a s h hi
 | .ask i j c,Q,Q',s₀,s,h,hi,k=>hc i j _ s hi h.1 h.2.1 λs' hi'=>JJ hc (c _) Q Q' s₀ s' h.2.2 hi' k
end SoM
namespace L2
structure Sto {α:Type}(lt:α->α->Bool):Prop where
 irr:∀x,lt x x=false
 tr:∀x y z,lt x y=true->lt y z=true->lt x z=true
 tot:∀x y,lt x y=false->lt y x=false->x=y
section
variable{α:Type}{lt:α->α->Bool}
theorem Sto.asy (o:Sto lt) {x y:α}(h:lt x y=true):lt y x=false:=by
 cases q:lt y x with
 |false=>rfl
 |true=>have:=o.tr x y x h q;rw[o.irr]at this;cases this
theorem Sto.lt_le (o:Sto lt) {x y z:α}(h:lt x y=true) (h2:lt z y=false):lt x z=true:=by
 cases q:lt y z with
 |true=>exact o.tr x y z h q
 |false=>rw[<-o.tot y z q h2];exact h
abbrev fT (lt:α->α->Bool) (l:List α):Prop:=l.Pairwise λa b=>lt b a=false
abbrev gU (lt:α->α->Bool) (l:List α):Prop:=l.Pairwise λa b=>lt a b=true
theorem JK (o:Sto lt):∀{l l':List α},fT lt l->fT lt l'->l.Perm l'->l=l'
 | [],l',_,_,p=>(List.nil_perm.mp p).symm
 |x::r,[],_,_,p=>by simp at p
 |x::r,y::r',h,h',p=>by
  have h1:=fh.mp h;have h2:=fh.mp h';have e:x=y:=by
   refine o.tot x y ?_ ?_
   ·rcases bg.mp (p.mem_iff.mp (bh ..))with e|e
    ·rw[e];exact o.irr y
    ·exact h2.1 x e
   ·rcases bg.mp (p.mem_iff.mpr (bh ..))with e|e
    ·rw[e];exact o.irr x
    ·exact h1.1 y e
  subst e;rw[JK o h1.2 h2.2 (List.Perm.cons_inv p)]
def jY (lt:α->α->Bool) (x:α):List α->List α
 | []=>[x]
 |y::r=>if lt y x then y::jY lt x r else if lt x y then x::y::r else y::r
def dJ (lt:α->α->Bool):List α->List α
 | []=>[]
 |x::r=>jY lt x (dJ lt r)
theorem AZ (o:Sto lt) (x z:α):∀l,z∈jY lt x l↔z=x∨z∈l
 | []=>by simp[jY]
 |y::r=>by
  unfold jY
  split
  ·rw[bg,AZ o x z r,bg];constructor
   ·rintro (h|h|h)
    ·exact .inr (.inl h)
    ·exact .inl h
    ·exact .inr (.inr h)
   ·rintro (h|h|h)
    ·exact .inr (.inl h)
    ·exact .inl h
    ·exact .inr (.inr h)
  ·rename_i q1
   split
   ·simp
   ·rename_i q2;have e:=o.tot x y (by simpa using q2) (by simpa using q1);subst e;simp
theorem pH (o:Sto lt) (z:α):∀l,z∈dJ lt l↔z∈l
 | []=>.rfl
 |x::r=>by rw[dJ,AZ o,pH o z r,bg]
theorem JL (o:Sto lt) (x:α):∀l,gU lt l->gU lt (jY lt x l)
 | [],_=>by simp[jY,gU]
 |y::r,h=>by
  have h1:=fh.mp h;unfold jY
  split
  ·rename_i q;refine fh.mpr ⟨λz hz=>?_,JL o x r h1.2⟩
   rcases(AZ o x z r).mp hz with rfl|hz
   ·exact q
   ·exact h1.1 z hz
  ·split
   ·rename_i q;refine fh.mpr ⟨λz hz=>?_,h⟩
    rcases bg.mp hz with rfl|hz
    ·exact q
    ·exact o.tr _ _ _ q (h1.1 z hz)
   ·exact h
theorem vO (o:Sto lt):∀l,gU lt (dJ lt l)
 | []=>wo
 |x::r=>JL o x _ (vO o r)
theorem JM (o:Sto lt) {l:List α}(h:gU lt l):fT lt l:=h.imp λh=>o.asy h
theorem vP (o:Sto lt) {l:List α}(h:gU lt l):l.Nodup:=h.imp λ{a b} h e=>by rw[e,o.irr]at h;cases h
theorem WS (o:Sto lt) {l l':List α}(h:gU lt l) (h':gU lt l') (m:∀z,z∈l↔z∈l'):l=l':=by refine JK o (JM o h) (JM o h') ?_;exact(oi (vP o h) (vP o h')).mpr m
theorem WT (o:Sto lt) {l l':List α}(h:gU lt l') (m:∀z,z∈l'↔z∈l):l'=dJ lt l:=WS o h (vO o l) λz=>(m z).trans (pH o z l).symm
def rk (lt:α->α->Bool) (ks:List α) (x:α):Nat:=ks.countP λy=>lt y x
theorem A0 {p q:α->Bool}:∀(l:List α),(∀y,p y=true->q y=true)->l.countP p<=l.countP q
 | [],_=>ak _
 |y::r,h=>by
  have:=A0 r h;rw[qk,qk]
  cases hp:p y with
  |true=>rw[h y hp];simp;omega
  |false=>cases q y <;> simp <;> omega
theorem JN {p q:α->Bool}:∀(l:List α),(∀y,p y=true->q y=true)->∀x,x∈l->q x=true->p x=false->l.countP p<l.countP q
 | [],_,x,hx,_,_=>by simp at hx
 |y::r,h,x,hx,h1,h2=>by
  rw[qk,qk]
  rcases bg.mp hx with rfl|hx
  ·have:=A0 r h;rw[h1,h2];simp;omega
  ·have:=JN r h x hx h1 h2
   cases hp:p y with
   |true=>rw[h y hp];simp;omega
   |false=>cases q y <;> simp <;> omega
theorem JO (o:Sto lt) {ks:List α}{x z:α}(hx:x∈ks):decide (rk lt ks x<rk lt ks z)=lt x z:=by
 cases q:lt x z with
 |true=>exact decide_eq_true (JN ks (λy h=>o.tr y x z h q) x hx q (o.irr x))
 |false=>exact decide_eq_false (Nat.not_lt.mpr (A0 ks λy h=>o.lt_le h q))
theorem WU (o:Sto lt) {ks:List α}{x z:α}(hz:z∈ks) (h:rk lt ks x<=rk lt ks z):lt z x=false:=by rw[<-JO o hz];exact decide_eq_false (Nat.not_lt.mpr h)
end
def cR:List Int->List Int->Bool
 | [],[]=>false
 | [],_::_=>true
 |_::_,[]=>false
 |a::x,b::y=>if a==b then cR x y else decide (a<b)
theorem stoL:Sto cR:=by
 refine⟨λx=>?_,λx=>?_,λx=>?_⟩
 ·induction x with
  |nil=>rfl
  |cons a x ih=>simp[cR,ih]
 ·induction x with
  |nil=>
   intro y z h1 h2
   cases z with
   |nil=>cases y with
    |nil=>exact h1
    |cons b y=>cases h2
   |cons c z=>rfl
  |cons a x ih=>
   intro y z h1 h2
   cases y with
   |nil=>cases h1
   |cons b y=>
    cases z with
    |nil=>cases h2
    |cons c z=>
     simp only[cR,beq_iff_eq]at h1 h2 ⊢
     by_cases e1:a=b <;> by_cases e2:b=c
     ·rw[if_pos e1]at h1;rw[if_pos e2]at h2;rw[if_pos (e1.trans e2)];exact ih y z h1 h2
     ·rw[if_neg e2]at h2;rw[if_neg (by rw[e1];exact e2)];rw[e1];exact h2
     ·rw[if_neg e1]at h1;rw[if_neg (by rw[<-e2];exact e1)];rw[<-e2];exact h1
     ·rw[if_neg e1]at h1;rw[if_neg e2]at h2;simp only[decide_eq_true_eq]at h1 h2;rw[if_neg (by omega)];simp;omega
 ·induction x with
  |nil=>
   intro y h1 h2
   cases y with
   |nil=>rfl
   |cons b y=>cases h1
  |cons a x ih=>
   intro y h1 h2
   cases y with
   |nil=>cases h2
   |cons b y=>
    simp only[cR,beq_iff_eq]at h1 h2
    by_cases e:a=b
    ·subst e;rw[if_pos rfl]at h1 h2;rw[ih y h1 h2]
    ·rw[if_neg e]at h1;rw[if_neg (cy e)]at h2;simp at h1 h2;omega
def eX (p q:Int×Int):Bool:=if p.1==q.1 then decide (p.2<q.2)else decide (p.1<q.1)
def jI (p:Int×Int):List Int:=[p.1,p.2]
theorem rZ (p q:Int×Int):cR (jI p) (jI q)=eX p q:=by
 unfold eX jI cR
 split
 ·unfold cR
  split
  ·rename_i h;simp at h;simp[cR,h]
  ·rfl
 ·rfl
theorem WV {p q:Int×Int}(h:jI p=jI q):p=q:=by obtain⟨a,b⟩:=p;obtain⟨c,d⟩:=q;simp[jI]at h;rw[h.1,h.2]
theorem stoP:Sto eX:=⟨λx=>by rw[<-rZ];exact stoL.irr _,λx y z h1 h2=>by rw[<-rZ]at *;exact stoL.tr _ _ _ h1 h2,λx y h1 h2=>by rw[<-rZ]at *;exact WV (stoL.tot _ _ h1 h2)⟩
section
variable{α β:Type}{lt:α->α->Bool}{lt':β->β->Bool}{f:α->β}
theorem JP (h:∀x y,lt' (f x) (f y)=lt x y) (x:α):∀l,jY lt' (f x) (l.map f)=(jY lt x l).map f
 | []=>rfl
 |y::r=>by
  simp only[dw,jY,h]
  split
  ·rw[JP h x r];rfl
  ·split <;> rfl
theorem JQ (h:∀x y,lt' (f x) (f y)=lt x y):∀l,dJ lt' (l.map f)=(dJ lt l).map f
 | []=>rfl
 |x::r=>by rw[dw,dJ,JQ h r,JP h];rfl
end
end L2
namespace SM
open PySem PySem.SetTable
def fT (l:List Nat):Prop:=l.Pairwise (·<·)
theorem A1 {l:List Nat}(hr:fT l) {i k x:Nat}(a:l[i]?=some x) (b:l[k]?=some x):i=k:=by
 obtain⟨p1,p2⟩:=az.mp a;obtain⟨q1,q2⟩:=az.mp b
 rcases Nat.lt_trichotomy i k with h|h|h
 ·have:=gi.mp hr i k p1 q1 h;omega
 ·exact h
 ·have:=gi.mp hr k i q1 p1 h;omega
theorem WW (xs:Array Nat) (j:Nat) (hr:fT xs.toList):∀(fuel lo hi:Nat),lo<=hi->hi<=xs.size->hi - lo<=fuel->
  (∀i (h:i<xs.size),i<lo->xs[i]<j)->(∀i (h:i<xs.size),hi<=i->j<=xs[i])->
  (∀i (h:i<xs.size),i<below.go xs j fuel lo hi->xs[i]<j)/\(∀i (h:i<xs.size),below.go xs j fuel lo hi<=i->j<=xs[i])/\below.go xs j fuel lo hi<=xs.size:=by
 intro fuel
 induction fuel with
 |zero=>
  intro lo hi h1 h2 h3 ha hb;have:lo=hi:=by omega
  subst this;exact⟨ha,hb,h2⟩
 |succ n ih=>
  intro lo hi h1 h2 h3 ha hb;unfold below.go
  by_cases hlt:lo<hi
  ·rw[if_pos hlt];dsimp only;have hm:(lo+hi) / 2<xs.size:=by omega
   have e:xs.getD ((lo+hi) / 2) j=xs[(lo+hi) / 2]:=by simp[jq,hm]
   have mono:∀a b (ha:a<xs.size) (hb:b<xs.size),a<b->xs[a]<xs[b]:=by intro a b ha hb hab;have:=gi.mp hr a b (by simpa using ha) (by simpa using hb) hab;simpa using this
   by_cases hc:xs.getD ((lo+hi) / 2) j<j
   ·rw[if_pos hc];refine ih _ _ (by omega) h2 (by omega) ?_ hb;intro i h hi';rw[e]at hc
    by_cases q:i=(lo+hi) / 2
    ·subst q;exact hc
    ·have:=mono i _ h hm (by omega);omega
   ·rw[if_neg hc];refine ih _ _ (by omega) (by omega) (by omega) ha ?_;intro i h hi';rw[e]at hc
    by_cases q:i=(lo+hi) / 2
    ·subst q;omega
    ·have:=mono _ i hm h (by omega);omega
  ·rw[if_neg hlt];have:lo=hi:=by omega
   subst this;exact⟨ha,hb,h2⟩
theorem sD {xs:Array Nat}{j:Nat}(hr:fT xs.toList):
  (∀i (h:i<xs.size),i<below xs j->xs[i]<j)/\(∀i (h:i<xs.size),below xs j<=i->j<=xs[i])/\below xs j<=xs.size:=
 WW xs j hr xs.size 0 xs.size (iu _) (ak _) (by omega) (λi h hi=>absurd hi (by omega)) (λi h hi=>absurd h (by omega))
theorem JR {xs:Array Nat}{j:Nat}(hr:fT xs.toList) (hm:j∈xs.toList):xs[below xs j]?=some j:=by
 obtain⟨h1,h2,h3⟩:=sD (j:=j) hr;obtain⟨i,hi,e⟩:=jl hm;have hi':i<xs.size:=by simpa using hi
 have e':xs[i]=j:=by simpa using e
 have hle:below xs j<=i:=by
  rcases jd i (below xs j)with q|q
  ·have:=h1 i hi' q;omega
  ·exact q
 have hb:below xs j<xs.size:=by omega
 have:=h2 (below xs j) hb (ak _);have mono:∀a b (ha:a<xs.size) (hb:b<xs.size),a<b->xs[a]<xs[b]:=by intro a b ha hb hab;have:=gi.mp hr a b (by simpa using ha) (by simpa using hb) hab;simpa using this
 have hE:below xs j=i:=by
  rcases jd (below xs j) i with q|q
  ·have:=mono _ _ hb hi' q;omega
  ·omega
 rw[dz hb]
 congr 1
 have:∀k (hk:k<xs.size),k=i->xs[k]=xs[i]:=by intro k hk e;subst e;rfl
 rw[this _ hb hE,e']
theorem WX {xs:Array Nat}{j:Nat}(hm:j∉xs.toList):(xs[below xs j]?==some j)=false:=by rw[beq_eq_false_iff_ne];intro e;obtain⟨h,e⟩:=cj.mp e;exact hm (by rw[<-e];simp)
theorem sE {α:Type}(xs:Array α) (p:Nat) (x:α) (hp:p<=xs.size):(insertAt xs p x).toList=xs.toList.take p++x::xs.toList.drop p:=by unfold insertAt;rw[Array.toList_append,Array.toList_push];simp[Array.toList_extract,qt]
theorem WY {xs:Array Nat}{j:Nat}(hr:fT xs.toList) (hm:j∉xs.toList):fT (insertAt xs (below xs j) j).toList:=by
 obtain⟨h1,h2,h3⟩:=sD (j:=j) hr;rw[sE _ _ _ h3];unfold fT at hr ⊢;have hlt:∀a∈xs.toList.take (below xs j),a<j:=by intro a ha;obtain⟨i,hi,e⟩:=jl ha;rw[jm]at hi;rw[List.getElem_take]at e;have:=h1 i (by simp at hi;omega) (by omega);simp at e;omega
 have hgt:∀a∈xs.toList.drop (below xs j),j<a:=by
  intro a ha;obtain⟨i,hi,e⟩:=jl ha;rw[mm]at hi;rw[List.getElem_drop]at e;have q:=h2 (below xs j+i) (by simp at hi;omega) (by omega);have ne:a≠j:=by rintro rfl;exact hm (List.mem_of_mem_drop ha)
  simp at e;omega
 rw[List.pairwise_append];refine⟨hr.sublist (List.take_sublist _ _), ?_, ?_⟩
 ·rw[fh];exact⟨hgt,hr.sublist (List.drop_sublist _ _)⟩
 ·intro a ha b hb
  rcases bg.mp hb with rfl|hb
  ·exact hlt a ha
  ·have:=hlt a ha;have:=hgt b hb;omega
def lF (mask:Nat) (p:Probe):Probe:=
 if p.more>0 then{ p with j:=p.j+1,more:=p.more - 1 } else
 { p with j:=(leap mask p.i p.perturb).1,more:=runEnd mask (leap mask p.i p.perturb).1 - (leap mask p.i p.perturb).1,i:=(leap mask p.i p.perturb).1,perturb:=(leap mask p.i p.perturb).2 }
theorem JS (t:gn) (p:Probe):t.advance p=lF t.mask p:=by
 unfold SetTable.advance lF
 split <;> rfl
def WZ (mask:Nat) (h:Int):Probe:={ j:=bits h % (mask+1),more:=runEnd mask (bits h % (mask+1)) - bits h % (mask+1),i:=bits h % (mask+1),perturb:=bits h,dummy:=none }
def dB (mask:Nat) (h:Int):Nat->Probe
 |0=>WZ mask h
 |n+1=>lF mask (dB mask h n)
def pr (mask:Nat) (h:Int) (n:Nat):Nat:=(dB mask h n).j
theorem W0 (mask:Nat) (p:Probe):(lF mask p).dummy=p.dummy:=by unfold lF;split <;> rfl
theorem JT (mask:Nat) (h:Int):∀n,(dB mask h n).dummy=none
 |0=>rfl
 |n+1=>by rw[dB,W0,JT mask h n]
def nM (mask i pt:Nat):Probe:={ j:=i,more:=runEnd mask i - i,i:=i,perturb:=pt,dummy:=none }
def bs (mask:Nat) (h:Int):Nat->Nat×Nat
 |0=>(bits h % (mask+1),bits h)
 |L+1=>leap mask (bs mask h L).1 (bs mask h L).2
theorem W2 (mask i:Nat):runEnd mask i - i<=9:=by unfold runEnd;split <;> omega
theorem vQ (mask:Nat) (h:Int) (i pt:Nat) (n:Nat) (e:dB mask h n=nM mask i pt):∀k,k<=runEnd mask i - i->dB mask h (n+k)={ nM mask i pt with j:=i+k,more:=runEnd mask i - i - k }
 |0,_=>by rw[Nat.add_zero,e];rfl
 |k+1,hk=>by have ih:=vQ mask h i pt n e k (by omega);rw[show n+(k+1)=(n+k)+1 from rfl,dB,ih];unfold lF;rw[if_pos (show runEnd mask i - i - k>0 by omega)];simp[nM];omega
theorem JU (mask:Nat) (h:Int):∀L,∃n,n<=10*L/\dB mask h n=nM mask (bs mask h L).1 (bs mask h L).2
 |0=>⟨0,by omega,rfl⟩
 |L+1=>by obtain⟨n,hn,e⟩:=JU mask h L;have r:=vQ mask h _ _ n e (runEnd mask (bs mask h L).1 - (bs mask h L).1) (ak _);have:=W2 mask (bs mask h L).1;refine⟨n+(runEnd mask (bs mask h L).1 - (bs mask h L).1)+1,by omega, ?_⟩;rw[dB,r];unfold lF;rw[if_neg (by simp)];rfl
theorem JV (mask:Nat) (h:Int):∀L,(bs mask h L).2=bits h / 32 ^ L
 |0=>by simp[bs]
 |L+1=>by rw[bs];show(bs mask h L).2 / 32=_;rw[JV mask h L,Nat.div_div_eq_div_mul,Nat.pow_succ]
theorem W3 (h:Int):bits h<2 ^ 64:=by unfold bits;omega
theorem W4 (mask:Nat) (h:Int) {L:Nat}(hL:13<=L):(bs mask h L).2=0:=by
 rw[JV];have h1:=W3 h;have h2:(32:Nat) ^ 13<=32 ^ L:=Nat.pow_le_pow_right (by decide) hL;have h3:(2:Nat) ^ 64<32 ^ 13:=by decide
 exact Nat.div_eq_of_lt (by omega)
def fx (mask x:Nat):Nat:=(x*5+1) % (mask+1)
def mI (mask:Nat):Nat->Nat->Nat
 |0,x=>x
 |n+1,x=>mI mask n (fx mask x)
theorem JW (mask:Nat):∀n x,mI mask (n+1) x=fx mask (mI mask n x)
 |0,x=>rfl
 |n+1,x=>by rw[mI,JW mask n,mI]
theorem JX (mask:Nat) (h:Int):∀n,(bs mask h (13+n)).1=mI mask n (bs mask h 13).1
 |0=>rfl
 |n+1=>by rw[JW,<-JX mask h n,show 13+(n+1)=(13+n)+1 from rfl,bs];show((bs mask h (13+n)).1*5+1+(bs mask h (13+n)).2 / 32) % (mask+1)=_;rw[W4 mask h (by omega)];rfl
def pI (mask:Nat):Nat->Nat->Nat
 |0,_=>0
 |n+1,x=>2 ^ x ||| pI mask n (fx mask x)
theorem JY (mask j:Nat):∀n x,(pI mask n x).testBit j=true->∃k,k<n/\mI mask k x=j
 |0,x,h=>by simp[pI]at h
 |n+1,x,h=>by
  rw[pI,Nat.testBit_or,Bool.or_eq_true]at h
  rcases h with h|h
  ·rw[Nat.testBit_two_pow,decide_eq_true_eq]at h;exact⟨0,by omega,h⟩
  ·obtain⟨k,hk,e⟩:=JY mask j n _ h;exact⟨k+1,by omega,e⟩
def kL (mask:Nat):Prop:=mask=7∨mask=31∨mask=127
def JZ (mask:Nat):Bool:=(bf (mask+1)).all λx=>pI mask (mask+1) x==2 ^ (mask+1) - 1
theorem W5 {mask:Nat}(g:kL mask):JZ mask=true:=by rcases g with rfl|rfl|rfl <;> decide +kernel
theorem W6 {mask x j:Nat}(g:kL mask) (hx:x<=mask) (hj:j<=mask):∃k,k<=mask/\mI mask k x=j:=by
 have h1:=W5 g;unfold JZ at h1;rw[fi]at h1;have h2:=h1 x (bw.mpr (by omega));rw[beq_iff_eq]at h2;have h3:(pI mask (mask+1) x).testBit j=true:=by rw[h2,Nat.testBit_two_pow_sub_one,decide_eq_true_eq];omega
 obtain⟨k,hk,e⟩:=JY mask j _ _ h3;exact⟨k,by omega,e⟩
theorem vR (a m:Nat):a % (m+1)<=m:=by have:=Nat.mod_lt a (show 0<m+1 by omega);omega
theorem W7 (mask:Nat) (h:Int):∀L,(bs mask h L).1<=mask
 |0=>vR _ _
 |L+1=>vR _ _
theorem J0 {mask j:Nat}(g:kL mask) (h:Int) (hj:j<=mask):∃L,L<=13+mask/\(bs mask h L).1=j:=by obtain⟨k,hk,e⟩:=W6 g (W7 mask h 13) hj;exact⟨13+k,by omega,by rw[JX];exact e⟩
theorem W8 {mask j:Nat}(g:kL mask) (h:Int) (hj:j<=mask):∃n,n<10*turns mask/\pr mask h n=j:=by obtain⟨L,hL,e⟩:=J0 g h hj;obtain⟨n,hn,e2⟩:=JU mask h L;refine⟨n,by unfold turns;omega, ?_⟩;unfold pr;rw[e2];exact e
theorem J1 {mask i:Nat}(hi:i<=mask):runEnd mask i<=mask:=by unfold runEnd;split <;> omega
theorem J2 {mask:Nat}(h:Int):∀n,(dB mask h n).i<=mask/\(dB mask h n).j+(dB mask h n).more<=mask
 |0=>by
  have e:bits h % (mask+1)<=mask:=vR _ _;have:=J1 e;have:bits h % (mask+1)<=runEnd mask (bits h % (mask+1)):=by unfold runEnd;split <;> omega
  exact⟨e,by show bits h % (mask+1)+(runEnd mask (bits h % (mask+1)) - bits h % (mask+1))<=mask;omega⟩
 |n+1=>by
  obtain⟨h1,h2⟩:=J2 (mask:=mask) h n;rw[dB];unfold lF
  split
  ·exact⟨h1,by dsimp only;omega⟩
  ·dsimp only;have e:(leap mask (dB mask h n).i (dB mask h n).perturb).1<=mask:=vR _ _;have:=J1 e;have:(leap mask (dB mask h n).i (dB mask h n).perturb).1<=runEnd mask (leap mask (dB mask h n).i (dB mask h n).perturb).1:=by unfold runEnd;split <;> omega
   exact⟨e,by omega⟩
theorem A2 {mask:Nat}(h:Int) (n:Nat):pr mask h n<=mask:=by have:=(J2 (mask:=mask) h n).2;unfold pr;omega
def Way (mask:Nat) (occ:Nat->Prop) (h:Int) (j:Nat):Prop:=∃n,pr mask h n=j/\∀m,m<n->occ (pr mask h m)
theorem Way.mono {mask:Nat}{occ occ':Nat->Prop}{h:Int}{j:Nat}(w:Way mask occ h j) (k:∀x,occ x->occ' x):Way mask occ' h j:=let ⟨n,e,a⟩:=w;⟨n,e,λm hm=>k _ (a m hm)⟩
structure TOk (t:gn) (hs:List Int):Prop where
 size:t.place.size=hs.length
 rise:fT t.place.toList
 nod:t.dummies=#[]
 bnd:∀j∈t.place.toList,j<=t.mask
 room:hs.length<=t.mask
 msk:kL t.mask
 way:∀(i:Nat) (h:Int) (j:Nat),hs[i]?=some h->t.place.toList[i]?=some j->Way t.mask (·∈t.place.toList) h j
 plain:t.plain=true
theorem TOk.fits {t:gn}{hs:List Int}(T:TOk t hs):t.fits hs.length=true:=by unfold SetTable.fits SetTable.fill;rw[T.nod,T.size];simpa using T.room
theorem TOk.gave {t:gn}{hs:List Int}(T:TOk t hs):t.gaveWay=false:=by
 unfold SetTable.gaveWay
 rcases T.msk with e|e|e <;> rw[e] <;> rfl
theorem J3 (j:Nat):SetTable.has #[] j=false:=by unfold SetTable.has;simp
theorem TOk.slot_live {t:gn}{hs:List Int}(T:TOk t hs) {j:Nat}(h:j∈t.place.toList):∃i,t.slot j=.live i/\t.place.toList[i]?=some j:=by refine⟨below t.place j, ?_,by simpa using JR T.rise h⟩;unfold SetTable.slot;dsimp only;rw[JR T.rise h];simp
theorem TOk.slot_empty {t:gn}{hs:List Int}(T:TOk t hs) {j:Nat}(h:j∉t.place.toList):t.slot j=.empty:=by unfold SetTable.slot;dsimp only;rw[WX h,T.nod,J3];rfl
theorem TOk.empty_there {t:gn}{hs:List Int}(T:TOk t hs):∃j,j<=t.mask/\j∉t.place.toList:=by
 rcases pw (∃j,j<=t.mask/\j∉t.place.toList)with h|h
 ·exact h
 ·exfalso
  have h1:∀j,j∈bf (t.mask+1)->j∈t.place.toList:=by
   intro j hj
   rcases pw (j∈t.place.toList)with q|q
   ·exact q
   ·exact absurd ⟨j,by have:=bw.mp hj;omega,q⟩ h
  have h2:=(ql (n:=t.mask+1)).length_le_of_subset h1;rw[gw]at h2;have h3:t.place.toList.length=hs.length:=by rw[<-T.size];simp
  have:=T.room;omega
theorem W9 {t:gn}{hs:List Int}(T:TOk t hs) (hashAt:Nat->Int) (h:Int):∀(fuel n N:Nat),n<=N->N - n<fuel->pr t.mask h N∉t.place.toList->
  ∃m,n<=m/\m<=N/\(∀l,n<=l->l<m->pr t.mask h l∈t.place.toList/\∀i,t.place.toList[i]?=some (pr t.mask h l)->hashAt i≠h) /\
   ((pr t.mask h m∉t.place.toList/\probe.go t hashAt h fuel (dB t.mask h n)=some (.empty (pr t.mask h m) none)) ∨
    (∃i,t.place.toList[i]?=some (pr t.mask h m)/\hashAt i=h/\probe.go t hashAt h fuel (dB t.mask h n)=some (.candidate (pr t.mask h m) i (dB t.mask h (m+1))))):=by
 intro fuel
 induction fuel with
 |zero=>intro n N _ h2 _;omega
 |succ f ih=>
  intro n N h1 h2 h3;have hj:(dB t.mask h n).j=pr t.mask h n:=rfl
  rcases pw (pr t.mask h n∈t.place.toList)with hm|hm
  ·obtain⟨i,e1,e2⟩:=T.slot_live hm
   by_cases hh:hashAt i=h
   ·refine⟨n,ak _,h1,λl a b=>absurd a (by omega),.inr ⟨i,e2,hh, ?_⟩⟩;rw[probe.go,hj,e1];dsimp only;rw[if_pos (beq_iff_eq.mpr hh),JS];rfl
   ·have hne:n≠N:=by rintro rfl;exact h3 hm
    obtain⟨m,a1,a2,a3,a4⟩:=ih (n+1) N (by omega) (by omega) h3;have e3:probe.go t hashAt h (f+1) (dB t.mask h n)=probe.go t hashAt h f (dB t.mask h (n+1)):=by rw[probe.go,hj,e1];dsimp only;rw[if_neg (by intro q;exact hh (beq_iff_eq.mp q)),JS];rfl
    refine⟨m,by omega,a2,λl b1 b2=>?_,by rw[e3];exact a4⟩
    rcases jd n l with q|q
    ·exact a3 l (by omega) b2
    ·have:l=n:=by omega
     subst this;refine⟨hm,λi' e'=>?_⟩;have:i'=i:=A1 T.rise e' e2;subst this;exact hh
  ·refine⟨n,ak _,h1,λl a b=>absurd a (by omega),.inl ⟨hm, ?_⟩⟩;rw[probe.go,hj,T.slot_empty hm];dsimp only;rw[JT]
theorem TOk.stops {t:gn}{hs:List Int}(T:TOk t hs) (h:Int):∃N,N<10*turns t.mask/\pr t.mask h N∉t.place.toList:=by obtain⟨j,hj,hn⟩:=T.empty_there;obtain⟨N,hN,e⟩:=W8 T.msk h hj;exact⟨N,hN,by rw[e];exact hn⟩
theorem TOk.before {t:gn}{hs:List Int}(T:TOk t hs) {h:Int}{i j m:Nat}(e1:hs[i]?=some h) (e2:t.place.toList[i]?=some j) (hm:pr t.mask h m∉t.place.toList):∃n,n<m/\pr t.mask h n=j:=by
 obtain⟨n,e,a⟩:=T.way i h j e1 e2;refine⟨n, ?_,e⟩
 rcases jd n m with q|q
 ·exact q
 ·exfalso
  rcases jd m n with r|r
  ·exact hm (a m r)
  ·have:m=n:=by omega
   subst this;exact hm (by rw[e];exact bx e2)
theorem J4 {xs:Array Nat}{p j x:Nat}(hp:p<=xs.size):x∈(insertAt xs p j).toList↔x=j∨x∈xs.toList:=by
 rw[sE _ _ _ hp,bq,bg];have e:x∈xs.toList↔x∈xs.toList.take p∨x∈xs.toList.drop p:=by rw[<-bq,Ak]
 rw[e];constructor
 ·rintro (a|a|a)
  ·exact .inr (.inl a)
  ·exact .inl a
  ·exact .inr (.inr a)
 ·rintro (a|a|a)
  ·exact .inr (.inl a)
  ·exact .inl a
  ·exact .inr (.inr a)
theorem XA {t:gn}(hn:t.dummies=#[]) (j:Nat):t.put j=({ t with place:=insertAt t.place (below t.place j) j },below t.place j):=by unfold SetTable.put;dsimp only;rw[hn,J3];cases t;subst hn;rfl
theorem J5 {α:Type}(l:List α) (x:α) (p i:Nat) (hp:p<=l.length):(l.take p++x::l.drop p)[i]?=if i<p then l[i]? else if i=p then some x else l[i - 1]?:=by
 have hl:(l.take p).length=p:=by rw[jm];omega
 by_cases h1:i<p
 ·rw[if_pos h1,ed (by omega),zd h1]
 ·rw[if_neg h1,gb (by omega),hl]
  by_cases h2:i=p
  ·subst h2;rw[if_pos rfl,Nat.sub_self];rfl
  ·rw[if_neg h2];obtain⟨k,rfl⟩:∃k,i=p+(k+1):=⟨i - p - 1,by omega⟩
   rw[show p+(k+1) - p=k+1 by omega,qj,List.getElem?_drop,show p+(k+1) - 1=p+k by omega]
theorem TOk.put {t:gn}{hs:List Int}(T:TOk t hs) {h:Int}{n:Nat}(hn:pr t.mask h n∉t.place.toList) (hw:∀m,m<n->pr t.mask h m∈t.place.toList) (hr:hs.length+1<=t.mask):
  TOk { t with place:=insertAt t.place (below t.place (pr t.mask h n)) (pr t.mask h n) } (hs.take (below t.place (pr t.mask h n))++h::hs.drop (below t.place (pr t.mask h n))):=by
 have hb:=(sD (j:=pr t.mask h n) T.rise).2.2;have hs':t.place.toList.length=hs.length:=by rw[<-T.size];simp
 have hlen:(hs.take (below t.place (pr t.mask h n))++h::hs.drop (below t.place (pr t.mask h n))).length=hs.length+1:=by rw[cm,cf,jm,mm];have:=T.size;omega
 refine⟨?_,WY T.rise hn,T.nod, ?_, ?_,T.msk, ?_,T.plain⟩
 ·show(insertAt t.place (below t.place (pr t.mask h n)) (pr t.mask h n)).size=_;rw[hlen];have:(insertAt t.place (below t.place (pr t.mask h n)) (pr t.mask h n)).toList.length=hs.length+1:=by rw[sE _ _ _ hb,cm,cf,jm,mm,hs'];have:=T.size;omega
  simpa using this
 ·intro j hj
  rcases(J4 hb).mp hj with rfl|hj
  ·exact A2 h n
  ·exact T.bnd j hj
 ·rw[hlen];exact hr
 ·intro i h' j e1 e2;have e2':(t.place.toList.take (below t.place (pr t.mask h n))++pr t.mask h n::t.place.toList.drop (below t.place (pr t.mask h n)))[i]?=some j:=by rw[<-sE _ _ _ hb];exact e2
  have hb2:below t.place (pr t.mask h n)<=hs.length:=by rw[<-T.size];exact hb
  rw[J5 _ _ _ _ hb2]at e1;rw[J5 _ _ _ _ (by rw[hs'];exact hb2)]at e2';have mono:∀x,x∈t.place.toList->x∈(insertAt t.place (below t.place (pr t.mask h n)) (pr t.mask h n)).toList:=λx hx=>(J4 hb).mpr (.inr hx)
  by_cases q1:i<below t.place (pr t.mask h n)
  ·rw[if_pos q1]at e1 e2';exact(T.way _ _ _ e1 e2').mono mono
  ·rw[if_neg q1]at e1 e2'
   by_cases q2:i=below t.place (pr t.mask h n)
   ·rw[if_pos q2]at e1 e2'
    cases e1;cases e2'
    exact⟨n,rfl,λm hm=>mono _ (hw m hm)⟩
   ·rw[if_neg q2]at e1 e2';exact(T.way _ _ _ e1 e2').mono mono
def gC (owner:Array (Option Nat)) (j:Nat):Prop:=(owner.getD j (some 0)).isSome=true
theorem J6 {P:Nat->Bool}{n:Nat}(h:(bf n).find? P=none):∀k,k<n->P k=false:=by intro k hk;have:=List.find?_eq_none.mp h k (bw.mpr hk);simpa using this
theorem XB {P:Nat->Bool}:∀{n k:Nat},(bf n).find? P=some k->k<n/\P k=true/\∀l,l<k->P l=false:=by
 intro n
 induction n with
 |zero=>intro k h;simp at h
 |succ n ih=>
  intro k h;rw[vp,List.find?_append]at h
  cases q:(bf n).find? P with
  |some k'=>rw[q]at h;simp at h;subst h;obtain⟨a,b,c⟩:=ih q;exact⟨by omega,b,c⟩
  |none=>
   rw[q]at h
   by_cases hp:P n=true
   ·simp[hp]at h;subst h;exact⟨by omega,hp,λl hl=>J6 q l hl⟩
   ·simp[hp]at h
theorem XC {mask:Nat}{h:Int}{L n:Nat}(e:dB mask h n=nM mask (bs mask h L).1 (bs mask h L).2):dB mask h (n+(runEnd mask (bs mask h L).1 - (bs mask h L).1)+1)=nM mask (bs mask h (L+1)).1 (bs mask h (L+1)).2:=by have r:=vQ mask h _ _ n e (runEnd mask (bs mask h L).1 - (bs mask h L).1) (ak _);rw[dB,r];unfold lF;rw[if_neg (by simp)];rfl
theorem XD {mask:Nat}{h:Int}{owner:Array (Option Nat)}:∀(fuel L n:Nat),dB mask h n=nM mask (bs mask h L).1 (bs mask h L).2->(∀k,k<n->gC owner (pr mask h k))->
  (∃L',L<=L'/\L'<L+fuel/\¬ gC owner (bs mask h L').1)->
  ∃n,layClean.free mask owner fuel (bs mask h L).1 (bs mask h L).2=some (pr mask h n)/\¬ gC owner (pr mask h n)/\∀m,m<n->gC owner (pr mask h m):=by
 intro fuel
 induction fuel with
 |zero=>rintro L n _ _ ⟨L',a,b,_⟩;omega
 |succ f ih=>
  rintro L n e hb ⟨L',a1,a2,a3⟩
  have r:=vQ mask h _ _ n e;have hle:(bs mask h L).1<=runEnd mask (bs mask h L).1:=by unfold runEnd;split <;> omega
  rw[layClean.free]
  cases q:(bf (runEnd mask (bs mask h L).1+1 - (bs mask h L).1)).find? λk=>(owner.getD ((bs mask h L).1+k) (some 0)).isNone with
  |some k=>
   obtain⟨b1,b2,b3⟩:=XB q;dsimp only;have ek:pr mask h (n+k)=(bs mask h L).1+k:=by unfold pr;rw[r k (by omega)]
   refine⟨n+k,by rw[ek], ?_,λm hm=>?_⟩
   ·rw[ek];unfold gC;simp at b2;simp[b2]
   ·rcases jd m n with z|z
    ·exact hb m z
    ·obtain⟨l,rfl⟩:∃l,m=n+l:=⟨m - n,by omega⟩
     have el:pr mask h (n+l)=(bs mask h L).1+l:=by unfold pr;rw[r l (by omega)]
     rw[el];have:=b3 l (by omega);unfold gC
     cases w:owner.getD ((bs mask h L).1+l) (some 0)with
     |none=>rw[w]at this;simp at this
     |some _=>rfl
  |none=>
   dsimp only;have b:=J6 q;have hocc:∀l,l<=runEnd mask (bs mask h L).1 - (bs mask h L).1->gC owner ((bs mask h L).1+l):=by
    intro l hl;have:=b l (by omega);unfold gC
    cases w:owner.getD ((bs mask h L).1+l) (some 0)with
    |none=>rw[w]at this;simp at this
    |some _=>rfl
   have hne:L≠L':=by
    rintro rfl
    exact a3 (by simpa using hocc 0 (by omega))
   refine ih (L+1) _ (XC e) (λk hk=>?_) ⟨L',by omega,by omega,a3⟩
   rcases jd k n with z|z
   ·exact hb k z
   ·obtain⟨l,rfl⟩:∃l,k=n+l:=⟨k - n,by omega⟩
    have el:pr mask h (n+l)=(bs mask h L).1+l:=by unfold pr;rw[r l (by omega)]
    rw[el];exact hocc l (by omega)
structure LOk (mask:Nat) (hs:List Int) (owner:Array (Option Nat)) (k:Nat):Prop where
 size:owner.size=mask+1
 own:∀(j i:Nat),owner[j]?=some (some i)->i<k/\∃h,hs[i]?=some h/\Way mask (gC owner) h j
 all:∀(i:Nat),i<k->∃j:Nat,owner[j]?=some (some i)
 inj:∀(j j' i:Nat),owner[j]?=some (some i)->owner[j']?=some (some i)->j=j'
theorem sF {owner:Array (Option Nat)}{j:Nat}(hj:j<owner.size):gC owner j↔∃i,owner[j]?=some (some i):=by
 unfold gC;rw[dz hj];simp only[jq,hj,dif_pos,Array.getInternal_eq_getElem,zc]
 cases owner[j] <;> simp
theorem LOk.free {mask k:Nat}{hs:List Int}{owner:Array (Option Nat)}(O:LOk mask hs owner k) (hk:k<=mask):∃j,j<=mask/\¬ gC owner j:=by
 rcases pw (∃j,j<=mask/\¬ gC owner j)with h|h
 ·exact h
 ·exfalso
  have h1:∀j,j<=mask->∃i,owner[j]?=some (some i):=λj hj=>by
   rcases pw (gC owner j)with q|q
   ·exact(sF (by rw[O.size];omega)).mp q
   ·exact absurd ⟨j,hj,q⟩ h
  let f:Nat->Nat:=λj=>match owner[j]? with|some (some i)=>i|_=>0
  have hf:∀j,j<=mask->owner[j]?=some (some (f j)):=λj hj=>by obtain⟨i,e⟩:=h1 j hj;show owner[j]?=some (some (match owner[j]? with|some (some i)=>i|_=>0));rw[e]
  have nd:((bf (mask+1)).map f).Nodup:=by rw[xq];rw[uk];refine uh ?_ (ql (n:=mask+1));intro a b ha hb hab e;have ea:=hf a (by have:=bw.mp ha;omega);have eb:=hf b (by have:=bw.mp hb;omega);rw[e]at ea;exact hab (O.inj _ _ _ ea eb)
  have sub:∀x,x∈(bf (mask+1)).map f->x∈bf k:=by intro x hx;obtain⟨j,hj,rfl⟩:=ck.mp hx;exact bw.mpr (O.own j _ (hf j (by have:=bw.mp hj;omega))).1
  have:=nd.length_le_of_subset sub;simp at this;omega
theorem LOk.step {mask k:Nat}{hs:List Int}{owner:Array (Option Nat)}{h:Int}(g:kL mask) (O:LOk mask hs owner k) (hk:k<=mask) (hh:hs[k]?=some h):
  ∃j,layClean.free mask owner (turns mask) (bits h % (mask+1)) (bits h)=some j/\LOk mask hs (owner.setIfInBounds j (some k)) (k+1):=by
 obtain⟨j0,hj0,hn0⟩:=O.free hk;obtain⟨L,hL,eL⟩:=J0 g h hj0;obtain⟨n,e,hn,hw⟩:=XD (mask:=mask) (h:=h) (owner:=owner) (turns mask) 0 0 rfl (λk hk=>absurd hk (by omega)) ⟨L,by omega,by unfold turns;omega,by rw[eL];exact hn0⟩;refine⟨pr mask h n,e, ?_⟩;have hjl:pr mask h n<owner.size:=by rw[O.size];have:=A2 (mask:=mask) h n;omega
 have hjn:owner[pr mask h n]?=some none:=by
  rw[dz hjl];have:¬ ∃i,owner[pr mask h n]?=some (some i):=λq=>hn ((sF hjl).mpr q)
  cases w:owner[pr mask h n]with
  |none=>rfl
  |some i=>exact absurd ⟨i,by rw[dz hjl,w]⟩ this
 have get:∀j,(owner.setIfInBounds (pr mask h n) (some k))[j]?=if pr mask h n=j then some (some k)else owner[j]?:=by
  intro j;rw[Array.getElem?_setIfInBounds]
  by_cases q:pr mask h n=j
  ·rw[if_pos q,if_pos q,if_pos hjl]
  ·rw[if_neg q,if_neg q]
 have hsz:(owner.setIfInBounds (pr mask h n) (some k)).size=mask+1:=by rw[Array.size_setIfInBounds];exact O.size
 have occm:∀x,gC owner x->gC (owner.setIfInBounds (pr mask h n) (some k)) x:=by
  intro x hx
  by_cases hl:x<owner.size
  ·obtain⟨i,e⟩:=(sF hl).mp hx;refine(sF (by rw[hsz,<-O.size];exact hl)).mpr ?_;rw[get]
   by_cases q:pr mask h n=x
   ·exact⟨k,if_pos q⟩
   ·exact⟨i,by rw[if_neg q];exact e⟩
  ·unfold gC;simp[jq,hl]
 refine⟨hsz, ?_, ?_, ?_⟩
 ·intro j i e;rw[get]at e
  by_cases q:pr mask h n=j
  ·rw[if_pos q]at e;cases e;exact⟨by omega,h,hh,n,q,λm hm=>occm _ (hw m hm)⟩
  ·rw[if_neg q]at e;obtain⟨a,h',b,c⟩:=O.own j i e;exact⟨by omega,h',b,c.mono occm⟩
 ·intro i hi
  by_cases q:i=k
  ·subst q;exact⟨pr mask h n,by rw[get,if_pos rfl]⟩
  ·obtain⟨j,e⟩:=O.all i (by omega);refine⟨j, ?_⟩;rw[get]
   by_cases z:pr mask h n=j
   ·rw[<-z,hjn]at e;cases e
   ·rw[if_neg z];exact e
 ·intro j j' i e e';rw[get]at e e'
  by_cases z:pr mask h n=j
  ·rw[if_pos z]at e;cases e
   by_cases z':pr mask h n=j'
   ·exact z.symm.trans z'
   ·rw[if_neg z']at e';have:=(O.own j' _ e').1;omega
  ·rw[if_neg z]at e
   by_cases z':pr mask h n=j'
   ·rw[if_pos z']at e';cases e';have:=(O.own j _ e).1;omega
   ·rw[if_neg z']at e';exact O.inj _ _ _ e e'
theorem J7 {mask:Nat}{hs:List Int}(g:kL mask) (hl:hs.length<=mask):∀(l pre:List Int) (owner:Array (Option Nat)),hs=pre++l->LOk mask hs owner pre.length->
  ∃owner',l.foldl (λ(acc:Option (Array (Option Nat)×Nat)) h=>do
    let (owner,k) <-acc
    let j <-layClean.free mask owner (turns mask) (bits h % (mask+1)) (bits h)
    pure (owner.setIfInBounds j (some k),k+1)) (some (owner,pre.length))=some (owner',hs.length)/\LOk mask hs owner' hs.length
 | [],pre,owner,e,O=>by rw[jg]at e;subst e;exact⟨owner,rfl,O⟩
 |h::l,pre,owner,e,O=>by
  have hh:hs[pre.length]?=some h:=by rw[e];simp
  obtain⟨j,e1,O1⟩:=O.step g (by rw[e]at hl;simp at hl;omega) hh;have e2:hs=(pre++[h])++l:=by rw[e];simp
  have hlen:(pre++[h]).length=pre.length+1:=by simp
  obtain⟨o',a,b⟩:=J7 g hl l (pre++[h]) _ e2 (by rw[hlen];exact O1);refine⟨o', ?_,b⟩;rw[List.foldl_cons];rw[<-a,hlen]
  congr 1
  show(do let j <-layClean.free mask owner (turns mask) (bits h % (mask+1)) (bits h);pure (owner.setIfInBounds j (some pre.length),pre.length+1))=_;rw[e1];rfl
theorem XE {mask:Nat}{hs:Array Int}(g:kL mask) (hl:hs.size<=mask):∃owner,layClean mask hs=some owner/\LOk mask hs.toList owner hs.size:=by
 have O0:LOk mask hs.toList (Array.replicate (mask+1) none) 0:=by
  refine⟨by simp, ?_,λi hi=>absurd hi (by omega), ?_⟩
  ·intro j i e;rw[zb]at e
   split at e <;> simp at e
  ·intro j j' i e;rw[zb]at e
   split at e <;> simp at e
 obtain⟨o',a,b⟩:=J7 g (by simpa using hl) hs.toList [] _ rfl O0;refine⟨o', ?_,by simpa using b⟩;unfold layClean;rw[<-Array.foldl_toList];simp only[ni]at a;rw[a];rfl
theorem Way.mono' {mask:Nat}{occ occ':Nat->Prop}{h:Int}{j:Nat}(w:Way mask occ h j) (k:∀x,x<=mask->occ x->occ' x):Way mask occ' h j:=let ⟨n,e,a⟩:=w;⟨n,e,λm hm=>k _ (A2 h m) (a m hm)⟩
theorem J8 (g:Nat->Option Nat):∀(l:List Nat),l.Pairwise (·<·)->((l.filterMap λj=>(g j).map ((j,·):Nat->Nat×Nat)).map dy).Pairwise (·<·)
 | [],_=>by simp
 |j::l,h=>by
  rw[fh]at h;have ih:=J8 g l h.2
  cases e:g j with
  |none=>simpa[cp,e]using ih
  |some i=>
   simp only[cp,e,Option.map_some,dw,fh];refine⟨?_,ih⟩;intro a ha;obtain⟨⟨x,y⟩,hp,rfl⟩:=ck.mp ha;obtain⟨z,hz,ez⟩:=gz.mp hp
   cases q:g z with
   |none=>rw[q]at ez;simp at ez
   |some i'=>rw[q]at ez;simp at ez;have:=h.1 z hz;omega
theorem XF {mask finger moves:Nat}{led:Bool}{hs:Array Int}(g:kL mask) (hl:hs.size<=mask):
  ∃t order,laid mask finger moves led true hs=some (t,order)/\t.mask=mask/\t.led=led/\order.toList.Perm (bf hs.size)/\TOk t (order.toList.filterMap (hs.toList[·]?)):=by
 obtain⟨owner,e,O⟩:=XE g hl;generalize hlive:(bf (mask+1)).filterMap (λj=>(owner.getD j none).map ((j,·):Nat->Nat×Nat))=live;have hmem:∀j i,(j,i)∈live↔owner[j]?=some (some i):=by
  intro j i;rw[<-hlive,gz];constructor
  ·rintro ⟨x,hx,ex⟩
   have hx':x<owner.size:=by rw[O.size];exact bw.mp hx
   have eg:owner.getD x none=owner[x]:=by simp[jq,hx']
   rw[eg]at ex
   cases q:owner[x]with
   |none=>rw[q]at ex;simp at ex
   |some i'=>rw[q]at ex;simp at ex;obtain⟨rfl,rfl⟩:=ex;rw[dz hx',q]
  ·intro h;obtain⟨hx',q⟩:=cj.mp h;refine⟨j,bw.mpr (by rw[<-O.size];exact hx'), ?_⟩;have eg:owner.getD j none=owner[j]:=by simp[jq,hx']
   rw[eg,q];rfl
 have hrise:(live.map dy).Pairwise (·<·):=by rw[<-hlive];exact J8 _ _ (List.pairwise_lt_range)
 have hperm:(live.map oj).Perm (bf hs.size):=by
  refine(oi ?_ ql).mpr ?_
  ·rw[xq,uk];rw[uk]at hrise;refine uh ?_ hrise
   rintro ⟨a,i⟩ ⟨b,i'⟩ ha hb hab e
   have e':i=i':=e;subst e';have:=O.inj a b i ((hmem _ _).mp ha) ((hmem _ _).mp hb);have hab':a<b:=hab;omega
  ·intro i;rw[bw];constructor
   ·intro h;obtain⟨⟨j,i'⟩,hp,rfl⟩:=ck.mp h;exact(O.own j i' ((hmem _ _).mp hp)).1
   ·intro h;obtain⟨j,ej⟩:=O.all i h;exact ck.mpr ⟨(j,i),(hmem _ _).mpr ej,rfl⟩
 have hlen:live.length=hs.size:=by simpa using hperm.length_eq
 have hget:∀(i:Nat),((live.map oj).filterMap (hs.toList[·]?))[i]?=(live[i]?).bind λp=>hs.toList[p.2]?:=by
  have gen:∀(l:List (Nat×Nat)),(∀p∈l,p.2<hs.toList.length)->∀(i:Nat),((l.map oj).filterMap (hs.toList[·]?))[i]?=(l[i]?).bind λp=>hs.toList[p.2]?:=by
   intro l
   induction l with
   |nil=>intro _ i;simp
   |cons p l ih=>
    intro hp i;have h1:=hp p (bh ..);have e1:hs.toList[p.2]?=some hs.toList[p.2]:=ba h1;rw[dw,cp,e1]
    cases i with
    |zero=>simp[e1]
    |succ i=>simp only[qj];exact ih (λq hq=>hp q (av _ hq)) i
  intro i;refine gen live ?_ i
  rintro ⟨j,k⟩ hp
  have:=(O.own j k ((hmem _ _).mp hp)).1;simpa using this
 have hlen':((live.map oj).filterMap (hs.toList[·]?)).length=hs.size:=by
  have gen:∀(l:List (Nat×Nat)),(∀p∈l,p.2<hs.toList.length)->((l.map oj).filterMap (hs.toList[·]?)).length=l.length:=by
   intro l
   induction l with
   |nil=>intro _;rfl
   |cons p l ih=>intro hp;have h1:=hp p (bh ..);have e1:hs.toList[p.2]?=some hs.toList[p.2]:=ba h1;rw[dw,cp,e1];show(_::_).length=_;rw[cf,cf,ih (λq hq=>hp q (av _ hq))]
  rw[gen live ?_,hlen]
  rintro ⟨j,k⟩ hp
  have:=(O.own j k ((hmem _ _).mp hp)).1;simpa using this
 refine⟨{ mask,place:=(live.map dy).toArray,dummies:=#[],finger,led,moves,plain:=true },(live.map oj).toArray, ?_,rfl,rfl,hperm, ?_⟩
 ·unfold laid;rw[e];show some _=some _;rw[hlive]
 ·refine⟨(by show(live.map dy).toArray.size=((live.map oj).filterMap (hs.toList[·]?)).length;rw[hlen',aw,br,hlen]),hrise,rfl, ?_,by rw[hlen'];exact hl,g, ?_,rfl⟩
  ·intro j hj;obtain⟨⟨x,y⟩,hp,rfl⟩:=ck.mp (show j∈live.map dy from hj);have:=(hmem _ _).mp hp;obtain⟨hx',_⟩:=cj.mp this;have:=O.size;show x<=mask;omega
  ·intro i h j e1 e2;have e1':((live.map oj).filterMap (hs.toList[·]?))[i]?=some h:=e1;rw[hget]at e1';have e2':(live.map dy)[i]?=some j:=e2;rw[du]at e2'
   cases q:live[i]? with
   |none=>rw[q]at e2';cases e2'
   |some p=>
    obtain⟨x,k⟩:=p;rw[q]at e1' e2';simp at e1' e2';subst e2';have hp:=bx q;obtain⟨a,h',b,c⟩:=O.own x k ((hmem _ _).mp hp);have hh:h'=h:=by
     have:hs.toList[k]?=some h:=by simpa using e1'
     rw[b]at this;exact cz this
    subst hh;refine c.mono' λy hy ho=>?_;obtain⟨i',ei⟩:=(sF (by rw[O.size];omega)).mp ho;exact ck.mpr ⟨(y,i'),(hmem _ _).mpr ei,rfl⟩
end SM
namespace SR
open PySem PySem.Spec PyProof.Rows SM
section
variable{prog:bj}{w:cq}
def hk (prog:bj) (w:cq) (k:List Int):Int:=tupleKeyHash (intKind prog w) k
abbrev KB:=List (List Int×ah)
def fU (prog:bj) (w:cq) (kb:KB):List (Int×af):=kb.map λp=>(hk prog w p.1,gm p.2)
structure Parts (prog:bj) (w:cq) (h:cw) (a:ah) (kb:KB) (o:Obj) (es:Array (Int×af)) (ep:Nat) (t:gn):Prop where
 obj:h.get? a=some o
 ex:o.ExactSet
 data:o.data=.set es ep t
 es:es.toList=fU prog w kb
 tab:TOk t (kb.map λp=>hk prog w p.1)
 nd:(kb.map dy).Nodup
 nf:kb.length*5<t.mask*3
 led:t.led=!w.params.followText "set-order"
def jZ (prog:bj) (w:cq) (h:cw) (a:ah) (kb:KB):Prop:=∃o es ep t,Parts prog w h a kb o es ep t
def vS (prog:bj) (w:cq) (h:cw) (kb:KB):Prop:=∀p∈kb,fw (intKind prog w) h p.1 p.2
variable{h:cw}{a:ah}{kb:KB}{o:Obj}{es:Array (Int×af)}{ep:Nat}{t:gn}
theorem Parts.size (P:Parts prog w h a kb o es ep t):es.size=kb.length:=by have:=congrArg pf P.es;simpa[fU]using this
theorem Parts.fits (P:Parts prog w h a kb o es ep t):t.fits es.size=true:=by have:=P.tab.fits;rw[br]at this;rw[P.size];exact this
theorem Parts.at_ (P:Parts prog w h a kb o es ep t) {i:Nat}{p:List Int×ah}(e:kb[i]?=some p):es[i]?=some (hk prog w p.1,.ref p.2):=by
 have:es.toList[i]?=some (hk prog w p.1,gm p.2):=by rw[P.es];simp[fU,e]
 simpa using this
theorem Parts.hash_at (P:Parts prog w h a kb o es ep t) {i:Nat}{p:List Int×ah}(e:kb[i]?=some p):(es[i]?.map (·.1)).getD 0=hk prog w p.1:=by rw[P.at_ e];rfl
end
section
variable{prog:bj}{w:cq}{A:cu}{E:af->ag->Prop}{s:ag}{a:ah}{kb:KB}{o:Obj}{es:Array (Int×af)}{ep:Nat}{t:gn}
theorem J9 {ks:List Int}{b:ah}{Q:Bool->ag->Prop}(hb:fw (intKind prog w) s.heap ks b) (h:Q false s):wpAny (model prog w) A (ofAClassStatement 8 (.ref b)) Q E s:=by
 obtain⟨o,items,n,ho,hc,hd,hi⟩:=hb;unfold ofAClassStatement;refine aa (ph (T := "tuple") ⟨o,ho,hc⟩ ?_);show wpAny _ _ ((if(("tuple" : String) == "tuple")=true then(pure true:Sem Bool)else isSubtype (.type "tuple") (.type "tuple")) >>= _) _ _ s;rw[if_pos (by decide)];refine aa (ai ?_);simp only[nc,cg,if_false];refine aa (ja ho hd ?_);refine aa ?_;show wpAny _ _ (forIn items _ _) _ _ s;rw[<-Az];refine sd _ (λrest r s'=>r.1=none/\s'=s/\∀v∈rest,carriedByValue v=true) _ ?_ ?_ _ _ ⟨rfl,rfl,hi.byValue⟩
 ·rintro v rest r s' ⟨hr,rfl,hall⟩
  have hv:=hall v bh;have e:ofAClassStatement 7 v=pure false:=by
   cases v with
   |ref a=>simp[carriedByValue]at hv
   |_=>rfl
  rw[e];refine aa (ai ?_);simp only[cg,if_false];exact ai ⟨rfl,rfl,λu hu'=>hall u (av _ hu')⟩
 ·rintro ⟨r1,r2⟩ s' ⟨hr,rfl,_⟩
  simp only at hr;subst hr;exact ai h
theorem XG {k:List Int}{b:ah}{Q:Bool->ag->Prop}(hb:fw (intKind prog w) s.heap k b):∀(l:List af),(∀y∈l,∃k' b',y=.ref b'/\fw (intKind prog w) s.heap k' b')->Q false s->
  wpAny (model prog w) A (searchCouldBeSeen (.ref b) l) Q E s:=by
 intro l hl h;unfold searchCouldBeSeen;refine aa ?_;refine sd _ (λrest r s'=>r.1=none/\s'=s/\∀y∈rest,∃k' b',y=.ref b'/\fw (intKind prog w) s.heap k' b') _ ?_ ?_ _ _ ⟨rfl,rfl,hl⟩
 ·rintro y rest r s' ⟨hr,rfl,hall⟩
  obtain⟨k',b',rfl,hb'⟩:=hall y bh;have fin:r.1=none/\s'=s'/\∀y∈rest,∃k' b',y=.ref b'/\fw (intKind prog w) s'.heap k' b':=⟨hr,rfl,λu hu=>hall u (av _ hu)⟩
  dsimp only
  split
  ·exact ai ⟨rfl,rfl,fin.2.2⟩
  ·refine aa (wpAny_eqIsQuiet_tuple hb ?_);simp only[nc,cg,if_false];refine aa (wpAny_eqIsQuiet_tuple hb' ?_);simp only[nc,cg,if_false];refine aa (J9 hb ?_);simp only[cg,if_false];refine aa (J9 hb' ?_);simp only[cg,if_false];exact ai ⟨rfl,rfl,fin.2.2⟩
 ·rintro ⟨r1,r2⟩ s' ⟨hr,rfl,_⟩
  simp only at hr;subst hr;exact ai h
end
end SR
namespace SR
open PySem PySem.Spec PyProof.Rows SM
section
variable{prog:bj}{w:cq}{A:cu}{E:af->ag->Prop}{s:ag}{a:ah}{kb:KB}{o:Obj}{es:Array (Int×af)}{ep:Nat}{t:gn}{k:List Int}{b:ah}
theorem mem_keys {kb:KB}{k:List Int}:k∈kb.map dy↔∃(i:Nat) (b:ah),kb[i]?=some (k,b):=by
 constructor
 ·intro h;obtain⟨⟨k',b⟩,hp,rfl⟩:=ck.mp h;obtain⟨i,hi,e⟩:=jl hp;exact⟨i,b,by rw[ba hi,e]⟩
 ·rintro ⟨i,b,e⟩
  exact ck.mpr ⟨(k,b),bx e,rfl⟩
theorem XH (P:Parts prog w s.heap a kb o es ep t) (T:vS prog w s.heap kb) (hb:fw (intKind prog w) s.heap k b) (hu:A.units<cLine) {Q:SetFound->ag->Prop}
  (hin:k∈kb.map dy->Q (.there none) s)
  (hout:k∉kb.map dy->∀n,pr t.mask (hk prog w k) n∉t.place.toList->(∀m,m<n->pr t.mask (hk prog w k) m∈t.place.toList)->Q (.free (pr t.mask (hk prog w k) n) false) s)
  (N:Nat) (hN:N<10*qu t.mask) (hNe:pr t.mask (hk prog w k) N∉t.place.toList):
  ∀(fuel n:Nat) (stand:Option SetTable.Probe),stand.getD (t.probeStart (hk prog w k))=dB t.mask (hk prog w k) n->n<=N->N - n<fuel->
   (∀l,l<n->pr t.mask (hk prog w k) l∈t.place.toList/\∀(i:Nat) p,t.place.toList[i]?=some (pr t.mask (hk prog w k) l)->kb[i]?=some p->p.1≠k)->
   wpAny (model prog w) A (setSearchFrom a (.ref b) (hk prog w k) true fuel stand) Q E s:=by
 intro fuel
 induction fuel with
 |zero=>intro n stand _ _ h2;omega
 |succ f ih=>
  intro n stand hst h1 h2 hseen;have hlen:t.place.toList.length=kb.length:=by have:=P.tab.size;simpa using this
  have kbat:∀{i j:Nat},t.place.toList[i]?=some j->∃p,kb[i]?=some p:=λ{i j} e=>by obtain⟨hi,_⟩:=az.mp e;exact⟨kb[i]'(by omega),ba (by omega)⟩
  unfold setSearchFrom;refine aa (jc P.obj P.data P.fits ?_);dsimp only;rw[P.tab.gave];simp only[cg,if_false];obtain⟨m,a1,a2,a3,a4⟩:=W9 P.tab (λi=>(es[i]?.map (·.1)).getD 0) (hk prog w k) (10*qu t.mask) n N h1 (by omega) hNe;have pass:∀l,l<m->pr t.mask (hk prog w k) l∈t.place.toList/\∀(i:Nat) p,t.place.toList[i]?=some (pr t.mask (hk prog w k) l)->kb[i]?=some p->p.1≠k:=by
   intro l hl
   rcases jd l n with q|q
   ·exact hseen l q
   ·obtain⟨b1,b2⟩:=a3 l q hl;refine⟨b1,λi p e1 e2 e3=>b2 i e1 ?_⟩;show(es[i]?.map (·.1)).getD 0=_;rw[P.hash_at e2,e3]
  rcases a4 with⟨b1,b2⟩|⟨i,b1,b2,b3⟩
  ·have e:∀g:Nat->Int,g=(λi=>(es[i]?.map (·.1)).getD 0)->t.probe g (hk prog w k) (stand.getD (t.probeStart (hk prog w k)))=some (.empty (pr t.mask (hk prog w k) m) none):=by rintro g rfl;rw[hst];exact b2
   rw[e]
   rotate_left
   ·rfl
   refine ai (hout ?_ m b1 λl hl=>(pass l hl).1);intro hmem;obtain⟨i,b',ei⟩:=mem_keys.mp hmem;obtain⟨j,ej⟩:∃j,t.place.toList[i]?=some j:=by obtain⟨hi,_⟩:=az.mp ei;exact⟨_,ba (by omega)⟩
   obtain⟨n',hn',e'⟩:=P.tab.before (i:=i) (h:=hk prog w k) (by rw[du,ei];rfl) ej b1;exact(pass n' hn').2 i (k,b') (by rw[e'];exact ej) ei rfl
  ·have e:∀g:Nat->Int,g=(λi=>(es[i]?.map (·.1)).getD 0)->t.probe g (hk prog w k) (stand.getD (t.probeStart (hk prog w k)))=some (.candidate (pr t.mask (hk prog w k) m) i (dB t.mask (hk prog w k) (m+1))):=by rintro g rfl;rw[hst];exact b3
   rw[e]
   rotate_left
   ·rfl
   dsimp only;obtain⟨p,ep'⟩:=kbat b1;have hp:=T p (bx ep');have es1:t.sameMemory t.moves t.mask=some true:=by unfold SetTable.sameMemory;simp
   obtain⟨i2,e2,e3⟩:=P.tab.slot_live (bx b1);have hi2:i2=i:=A1 P.tab.rise e3 b1;subst hi2;have nxt:¬ p.1=k->wpAny (model prog w) A (setSearchFrom a (.ref b) (hk prog w k) true f (some (dB t.mask (hk prog w k) (m+1)))) Q E s:=by
    intro hpk;have hmN:m≠N:=by rintro rfl;exact hNe (bx b1)
    refine ih (m+1) _ rfl (by omega) (by omega) ?_
    ·intro l hl
     rcases jd l m with q|q
     ·exact pass l q
     ·have:l=m:=by omega
      subst this;refine⟨bx b1,λi' p' z1 z2=>?_⟩;have:i'=i2:=A1 P.tab.rise z1 b1;subst this;rw[ep']at z2;cases z2;exact hpk
   cases hl:t.led
   case' true=>simp only[nc,cg,if_false]
   case' false=>
    simp only[Bool.not_false,if_true];refine aa (XG hb _ ?_ ?_)
    ·intro y hy;obtain⟨e1,he1,rfl⟩:=ck.mp hy;have he2:=(Array.mem_filter.mp (Al.mp he1)).1;have he3:e1∈fU prog w kb:=by rw[<-P.es];exact Al.mpr he2
     obtain⟨q,hq,rfl⟩:=ck.mp he3;exact⟨q.1,q.2,rfl,T q hq⟩
    simp only[cg,if_false]
   all_goals
    rw[P.at_ ep'];dsimp only;refine aa (gu (wpAny_eqBool_tuple hu hp hb ?_));refine aa (jc P.obj P.data P.fits ?_);dsimp only
    by_cases hpk:p.1=k
    ·rw[decide_eq_true hpk];simp only[Bool.true_and,if_true];exact ai (hin (mem_keys.mpr ⟨i2,p.2,by rw[ep',<-hpk]⟩))
    ·rw[decide_eq_false hpk];simp only[sf,cg,if_false];rw[es1];dsimp only;simp only[if_true];rw[e2];dsimp only;rw[P.at_ ep'];dsimp only;refine aa (wpAny_isSame_ref_self ?_);refine aa (ai ?_);simp only[if_true];exact nxt hpk
theorem XI (P:Parts prog w s.heap a kb o es ep t) (T:vS prog w s.heap kb) (hb:fw (intKind prog w) s.heap k b) (hu:A.units<cLine) {Q:SetFound->ag->Prop}
  (hin:k∈kb.map dy->Q (.there none) s)
  (hout:k∉kb.map dy->∀n,pr t.mask (hk prog w k) n∉t.place.toList->(∀m,m<n->pr t.mask (hk prog w k) m∈t.place.toList)->Q (.free (pr t.mask (hk prog w k) n) false) s):
  wpAny (model prog w) A (setSearch a (.ref b) (hk prog w k) true) Q E s:=by
 obtain⟨N,hN,hNe⟩:=P.tab.stops (hk prog w k);have hm:10*qu t.mask<=1420:=by
  unfold qu
  rcases P.tab.msk with e|e|e <;> rw[e] <;> decide
 exact XH P T hb hu hin hout N hN hNe 100000 0 none rfl (iu _) (by omega) λl hl=>absurd hl (by omega)
theorem XJ {Q:Bool->ag->Prop}(hb:fw (intKind prog w) s.heap k b) (h:Q true s):wpAny (model prog w) A (hashByValue 8 (.ref b)) Q E s:=by
 have hT:=hb.typeIs;obtain⟨o,items,n,ho,hc,hd,hi⟩:=hb;unfold hashByValue;refine aa (wpAny_specialOf hT F.slot_tuple_hash.lookup ?_);dsimp only;refine aa (ja ho hd ?_);refine aa ?_;show wpAny _ _ (forIn items _ _) _ _ s;rw[<-Az];have hv:∀v∈items.toList,∃i t,v=.int i t:=by
  clear hd ho
  generalize items.toList=l at hi
  induction hi with
  |nil=>intro v h;cases h
  |cons h1 _ ih=>
   intro v hv
   rcases bg.mp hv with rfl|hv
   ·obtain⟨t,e⟩:=ku h1;exact⟨_,t,e⟩
   ·exact ih v hv
 refine sd _ (λrest r s'=>r.1=none/\s'=s/\∀v∈rest,∃i t,v=.int i t) _ ?_ ?_ _ _ ⟨rfl,rfl,hv⟩
 ·rintro v rest r s' ⟨hr,rfl,hall⟩
  obtain⟨i,t,rfl⟩:=hall v bh;refine aa (ai ?_);simp only[nc,cg,if_false];exact ai ⟨rfl,rfl,λu hu'=>hall u (av _ hu')⟩
 ·rintro ⟨r1,r2⟩ s' ⟨hr,rfl,_⟩
  simp only at hr;subst hr;exact ai h
end
end SR
namespace SR
open PySem PySem.Spec PyProof.Rows SM
section
variable{prog:bj}{w:cq}{A:cu}{E:af->ag->Prop}{s:ag}{a:ah}{kb:KB}{o:Obj}{es:Array (Int×af)}{ep:Nat}{t:gn}{k:List Int}{b:ah}
theorem XM (p:Nat):(fU prog w kb).take p++(hk prog w k,gm b)::(fU prog w kb).drop p=fU prog w (kb.take p++(k,b)::kb.drop p):=by simp[fU,zm,ua]
theorem XN (p:Nat):(kb.map λq=>hk prog w q.1).take p++hk prog w k::(kb.map λq=>hk prog w q.1).drop p=(kb.take p++(k,b)::kb.drop p).map λq=>hk prog w q.1:=by simp[zm,ua]
theorem vT {α:Type}(l:List α) (x:α) (p:Nat):(l.take p++x::l.drop p).Perm (x::l):=by have h:(l.take p++x::l.drop p).Perm (x::(l.take p++l.drop p)):=List.perm_middle;rwa [Ak]at h
theorem A3 {p:Nat}(h:(kb.map dy).Nodup) (hk:k∉kb.map dy):((kb.take p++(k,b)::kb.drop p).map dy).Nodup:=by have q:=(vT kb (k,b) p).map dy;exact q.nodup_iff.mpr (js.mpr ⟨hk,h⟩)
theorem KC {es':Array (Int×af)}{t':gn}(hd:o.data=.set es ep t) (ho:s.heap.get? a=some o):(s.heap.update a (Obj.putSet es' t')).get? a=some { o with data:=.set es' (ep+1) t' }:=by have:=mf (Obj.putSet es' t') ho (by rw[putSet_of es' t' hd];rfl);rw[putSet_of es' t' hd]at this;exact this
theorem KD {α:Type}:∀(l:List α),(bf l.length).filterMap (λi=>l[i]?)=l
 | []=>rfl
 |x::l=>by
  rw[cf,zw,cp];simp only[List.getElem?_cons_zero,List.filterMap_map]
  congr 1
  exact KD l
theorem KG {kb:KB}{mask' wanted:Nat}{Q:Unit->ag->Prop}(ho:s.heap.get? a=some o) (hex:o.ExactSet) (hd:o.data=.set es ep t) (hes:es.toList=fU prog w kb) (hT:TOk t (kb.map λp=>hk prog w p.1)) (nd:(kb.map dy).Nodup) (hled:t.led=!w.params.followText "set-order")
  (hw:Aa wanted - 1=mask') (hg:kL mask') (hl:kb.length*5<mask'*3) (hz:Aa wanted<=cn)
  (h:∀h' kb',fv a s.heap h'->jZ prog w h' a kb'->kb'.Perm kb->Q () { s with heap:=h' }):
  wpAny (model prog w) A (setRelay a wanted) Q E s:=by
 have hsz:es.size=kb.length:=by have:=congrArg pf hes;simpa[fU]using this
 have hfit:t.fits es.size=true:=by have:=hT.fits;rw[br]at this;rw[hsz];exact this
 have eh:(es.map (·.1)).toList=kb.map λp=>hk prog w p.1:=by rw[Array.toList_map,hes];simp[fU]
 have hs':(es.map (·.1)).size=kb.length:=by simp[hsz]
 unfold setRelay;refine aa (jc ho hd hfit ?_);dsimp only;rw[if_neg (by omega)];obtain⟨t',order,e1,e2,e3,e4,e5⟩:=XF (mask:=mask') (finger:=t.finger) (moves:=t.movedTo mask') (led:=t.led) (hs:=es.map (·.1)) hg (by rw[hs'];omega);have er:t.relaid (es.map (·.1)) wanted=some (t',order):=by unfold SetTable.relaid;rw[hw,hT.plain];exact e1
 rw[er];have hlt:∀i∈order.toList,i<kb.length:=λi hi=>by have:=bw.mp (e4.mem_iff.mp hi);omega
 have hfm:∀(l:List Nat),(∀i∈l,i<kb.length)->l.filterMap (λi=>es[i]?)=fU prog w (l.filterMap λi=>kb[i]?):=by
  intro l hl
  induction l with
  |nil=>rfl
  |cons i l ih=>
   have hi:=hl i bh;have q1:kb[i]?=some kb[i]:=ba hi;have q2:es[i]?=some (hk prog w kb[i].1,gm kb[i].2):=by
    have:es.toList[i]?=some (hk prog w kb[i].1,gm kb[i].2):=by rw[hes];simp[fU,q1]
    simpa using this
   rw[cp,cp,q1,q2];simp only;rw[ih λj hj=>hl j (av _ hj)];rfl
 have hkey:∀(l:List Nat),(∀i∈l,i<kb.length)->l.filterMap (λi=>(es.map (·.1)).toList[i]?)=(l.filterMap λi=>kb[i]?).map λp=>hk prog w p.1:=by
  intro l hl
  induction l with
  |nil=>rfl
  |cons i l ih=>
   have hi:=hl i bh;have q1:kb[i]?=some kb[i]:=ba hi;have q2:(es.map (·.1)).toList[i]?=some (hk prog w kb[i].1):=by rw[eh];simp[q1]
   rw[cp,cp,q1,q2];simp only;rw[ih λj hj=>hl j (av _ hj)];rfl
 have hperm:(order.toList.filterMap λi=>kb[i]?).Perm kb:=by have q:=e4.filterMap (λi=>kb[i]?);rw[hs']at q;exact q.trans (List.Perm.of_eq (KD kb))
 have hes2:(order.filterMap (es[·]?)).toList=fU prog w (order.toList.filterMap λi=>kb[i]?):=by rw[Array.toList_filterMap];exact hfm _ hlt
 have hsz2:(order.filterMap (es[·]?)).size=es.size:=by have:=congrArg pf hes2;rw[kj]at this;rw[this,hsz];simp[fU,hperm.length_eq]
 show wpAny _ _ ((if((order.filterMap (es[·]?)).size != es.size)=true then(unsupported "internal:set-table-lost-an-element" >>= λ_=>pure (order.filterMap (es[·]?),t'))else pure (order.filterMap (es[·]?),t')) >>= _) _ _ s;rw[if_neg (by rw[hsz2];simp)];refine aa (ai ?_);dsimp only;refine wpAny_storeSet_of ho hd ?_ (by rw[hsz2,hsz];rcases hg with q|q|q <;> (rw[q]at hl;rw[jk];omega));refine h _ (order.toList.filterMap λi=>kb[i]?) (lx ..) ⟨_,_,_,t',KC hd ho,hex,rfl,hes2, ?_, ?_, ?_,e3.trans hled⟩ hperm
 ·rw[<-hkey _ hlt];exact e5
 ·exact(hperm.map dy).nodup_iff.mpr nd
 ·rw[hperm.length_eq,e2];exact hl
theorem XO (P:Parts prog w s.heap a kb o es ep t) (T:vS prog w s.heap kb) (hb:fw (intKind prog w) s.heap k b) (hu:A.units<cLine) (h76:k∉kb.map dy->kb.length+1<=76) {Q:Bool->ag->Prop}
  (h:∀h' kb' r,fv a s.heap h'->jZ prog w h' a kb'->(k∈kb.map dy->kb'.Perm kb)->(k∉kb.map dy->kb'.Perm ((k,b)::kb))->Q r { s with heap:=h' }):
  wpAny (model prog w) A (setAddHashed a (.ref b) (hk prog w k)) Q E s:=by
 unfold setAddHashed;refine gu ?_;unfold setAddHashedIn;refine aa (jc P.obj P.data P.fits ?_);dsimp only;have hbs:byScan (.ref b) es=false:=by simp[byScan,Value.scannable]
 rw[hbs];simp only[cg,if_false];refine aa (XI P T hb hu (λhin=>?_) λhout n hn hw=>?_)
 ·dsimp only;refine ai ?_;have:=h s.heap kb false (rz ..) ⟨o,es,ep,t,P⟩ (λ_=>.refl _) λq=>absurd hin q;exact this
 ·dsimp only;refine aa (jc P.obj P.data P.fits ?_);dsimp only;rw[XA P.tab.nod];dsimp only;rw[if_pos P.tab.plain];refine aa (XJ hb ?_);simp only[if_true];have hlen:=P.nf;have hmask:=P.tab.msk;have hroom:(kb.map λp=>hk prog w p.1).length+1<=t.mask:=by
   rw[br]
   rcases hmask with q|q|q <;> (rw[q]at hlen ⊢;omega)
  have T2:=P.tab.put (h:=hk prog w k) (n:=n) hn hw hroom;have hbl:=(sD (j:=pr t.mask (hk prog w k) n) P.tab.rise).2.2;generalize hp:qv t.place (pr t.mask (hk prog w k) n)=p at T2 hbl ⊢;rw[XN (b:=b)]at T2;have hesl:(ij es p (hk prog w k,gm b)).toList=fU prog w (kb.take p++(k,b)::kb.drop p):=by rw[sE _ _ _ (by rw[P.size,<-show t.place.size=kb.length from by have:=P.tab.size;simpa using this];exact hbl),P.es,XM]
  have hsz:(ij es p (hk prog w k,gm b)).size=kb.length+1:=by have:=congrArg pf hesl;simp only[fU,br,kj]at this;rw[this,(vT kb (k,b) p).length_eq];rfl
  refine aa (wpAny_storeSet_of P.obj P.data ?_ (by rw[hsz,jk];have:=h76 hout;omega));have hlen2:(kb.take p++(k,b)::kb.drop p).length=kb.length+1:=(vT kb (k,b) p).length_eq;have ho2:=KC (s:=s) (es':=ij es p (hk prog w k,gm b)) (t':={ t with place:=ij t.place p (pr t.mask (hk prog w k) n) }) P.data P.obj;have fill:({ t with place:=ij t.place p (pr t.mask (hk prog w k) n) }:gn).tooFull=decide ((kb.length+1)*5>=t.mask*3):=by unfold SetTable.tooFull SetTable.fill;have e1:=T2.size;rw[br,hlen2]at e1;have e1':(ij t.place p (pr t.mask (hk prog w k) n)).size=kb.length+1:=e1;dsimp only;rw[P.tab.nod,e1'];rfl
  simp only[Bool.not_false,Bool.true_and];rw[fill];have fin:∀h' kb',fv a (s.heap.update a (Obj.putSet (ij es p (hk prog w k,gm b)) { t with place:=ij t.place p (pr t.mask (hk prog w k) n) })) h'->jZ prog w h' a kb'->
    kb'.Perm (kb.take p++(k,b)::kb.drop p)->Q true { s with heap:=h' }:=λh' kb' sb st pm=>
   h h' kb' true ((lx ..).trans sb) st (λq=>absurd q hout) λ_=>pm.trans (vT kb (k,b) p)
  by_cases full:(kb.length+1)*5>=t.mask*3
  ·rw[decide_eq_true full,if_pos rfl];have h76':=h76 hout;have hcase:(t.mask=7/\kb.length=4)∨(t.mask=31/\kb.length=18):=by
    rcases hmask with q|q|q
    ·left;rw[q]at hlen full;exact⟨q,by omega⟩
    ·right;rw[q]at hlen full;exact⟨q,by omega⟩
    ·rw[q]at full;omega
   have es0:es.size=kb.length:=P.size
   rcases hcase with⟨q1,q2⟩|⟨q1,q2⟩
   ·refine aa (KG (mask':=31) (kb:=kb.take p++(k,b)::kb.drop p) ho2 P.ex rfl hesl T2 (A3 P.nd hout) P.led (by rw[es0,q2];decide) (.inr (.inl rfl)) (by rw[hlen2,q2];decide) (by rw[es0,q2,jk];decide) λh' kb' sb st pm=>ai (fin h' kb' sb st pm))
   ·refine aa (KG (mask':=127) (kb:=kb.take p++(k,b)::kb.drop p) ho2 P.ex rfl hesl T2 (A3 P.nd hout) P.led (by rw[es0,q2];decide) (.inr (.inr rfl)) (by rw[hlen2,q2];decide) (by rw[es0,q2,jk];decide) λh' kb' sb st pm=>ai (fin h' kb' sb st pm))
  ·rw[decide_eq_false full,if_neg fz];refine ai (fin _ _ (rz ..) ⟨_,_,_,_,ho2,P.ex,rfl,hesl,T2,A3 P.nd hout, ?_,P.led⟩ (.refl _));rw[hlen2];exact Nat.lt_of_not_le full
end
end SR
namespace SR
open PySem PySem.Spec PyProof.Rows SM
theorem Parts.keep {prog:bj}{w:cq}{h h':cw}{a:ah}{kb:KB}(S:jZ prog w h a kb) (k:∀o,h.get? a=some o->h'.get? a=some o):jZ prog w h' a kb:=by obtain⟨o,es,ep,t,P⟩:=S;exact⟨o,es,ep,t,k o P.obj,P.ex,P.data,P.es,P.tab,P.nd,P.nf,P.led⟩
theorem vU {prog:bj}{w:cq}{h h':cw}{ks:List Int}{a:ah}(x:fw (intKind prog w) h ks a) (k:∀o,h.get? a=some o->h'.get? a=some o):fw (intKind prog w) h' ks a:=by obtain⟨o,items,n,ho,r⟩:=x;exact⟨o,items,n,k o ho,r⟩
section
variable{prog:bj}{w:cq}{A:cu}{R:xw->ag->Prop}{I:ah}{fp wr:List ah}{n:Nat}{P:Nat->af->Prop}{St:Nat->cw->Prop}
structure Upto (ky:Nat->List Int) (ad:Nat->ah) (i:Nat) (kb:KB):Prop where
 from_:∀p∈kb,∃j,j<i/\p=(ky j,ad j)
 all:∀j,j<i->ky j∈kb.map dy
theorem XQ (W:Walks prog w A.in1 I fp wr n P St) (S:ah) (hSf:S∉fp) (ad:Nat->ah) (ky:Nat->List Int) (hval:∀i v,P i v->v=.ref (ad i)) (hu:A.units+2<cLine)
  (U:List (List Int)) (hU:U.length<=76) (hky:∀i,i<n->ky i∈U) (hS:∀i,i<n->ad i≠S/\ad i∉wr):
  ∀(m i:Nat) (s:ag) (kb:KB),n - i=m->i<=n->St i s.heap->jZ prog w s.heap S kb->Upto ky ad i kb->(∀j,j<n->fw (intKind prog w) s.heap (ky j) (ad j))->
   (∀h' tk kb',(∀b o,b∉S::wr->s.heap.get? b=some o->h'.get? b=some o)->jZ prog w h' S kb'->Upto ky ad n kb'->R (.ok (.ret .none)) { s with heap:=h',toks:=tk })->
   codeAny (model prog w) A (.builtin "set.update.loop" ⟨[.ref S,.ref I],[]⟩) R s:=by
 have hSw:S∉wr:=λh=>hSf (W.sub _ h);intro m
 induction m with
 |zero=>
  intro i s kb hk hi hst hT hup hkeys hR;have hin:i=n:=by omega
  subst hin;refine oz F.entry_set_update_loop ?_;rw[mn F.plain_set_update_loop _];show wpAny _ A.in1 (pyNext (.ref I) >>= _) _ _ s;refine aa (W.done s _ _ hst λh' tk hm=>?_);exact ai (hR h' tk kb (λb o hb e=>hm b o (λz=>hb (av _ z)) e) (Parts.keep hT λo e=>hm S o hSw e) hup)
 |succ m ih=>
  intro i s kb hk hi hst hT hup hkeys hR;have hlt:i<n:=by omega
  refine oz F.entry_set_update_loop ?_;rw[mn F.plain_set_update_loop _];show wpAny _ A.in1 (pyNext (.ref I) >>= _) _ _ s;refine aa (W.item i s _ _ hlt hst λv h' tk hP hst' hm=>?_);have ev:=hval i v hP;subst ev;have hT':jZ prog w h' S kb:=Parts.keep hT λo e=>hm S o hSw e;have hkeys':∀j,j<n->fw (intKind prog w) h' (ky j) (ad j):=λj hj=>vU (hkeys j hj) λo e=>hm _ o (hS j hj).2 e;show wpAny _ A.in1 (holding [gm (ad i)] (setAdd S (.ref (ad i))) >>= _) _ _ _;refine aa (gu ?_);unfold setAdd;refine gu ?_;refine aa (wpAny_pyHash_tuple (s:={ s with heap:=h',toks:=tk }) (show A.in1.units<cLine by show A.units+1<cLine;omega) (hkeys' i hlt) ?_);obtain⟨o,es,ep,t,Pt⟩:=hT';have tups:vS prog w h' kb:=λp hp=>by obtain⟨j,hj,rfl⟩:=hup.from_ p hp;exact hkeys' j (by omega)
  have hsub:∀x∈kb.map dy,x∈U:=λx hx=>by obtain⟨p,hp,rfl⟩:=ck.mp hx;obtain⟨j,hj,rfl⟩:=hup.from_ p hp;exact hky j (by omega)
  refine XO (s:={ s with heap:=h',toks:=tk+((ky i).length+1) }) (a:=S) (k:=ky i) (b:=ad i) Pt tups (hkeys' i hlt) (by show A.units+1<cLine;omega) (λhout=>?_) λh2 kb2 r sb hT2 q1 q2=>?_
  ·have nd:(ky i::kb.map dy).Nodup:=js.mpr ⟨hout,Pt.nd⟩;have:=nd.length_le_of_subset (l₂:=U) λx hx=>by
    rcases bg.mp hx with rfl|hx
    ·exact hky i hlt
    ·exact hsub x hx
   simp at this;omega
  ·have hup2:Upto ky ad (i+1) kb2:=by
    by_cases hin:ky i∈kb.map dy
    ·have pm:=q1 hin;refine⟨λp hp=>?_,λj hj=>?_⟩
     ·obtain⟨j,hj,e⟩:=hup.from_ p (pm.mem_iff.mp hp);exact⟨j,by omega,e⟩
     ·rw[(pm.map dy).mem_iff]
      rcases jd j i with z|z
      ·exact hup.all j z
      ·have:j=i:=by omega
       subst this;exact hin
    ·have pm:=q2 hin;refine⟨λp hp=>?_,λj hj=>?_⟩
     ·rcases bg.mp (pm.mem_iff.mp hp)with z|z
      ·exact⟨i,by omega,z⟩
      ·obtain⟨j,hj,e⟩:=hup.from_ p z;exact⟨j,by omega,e⟩
     ·rw[(pm.map dy).mem_iff,dw,bg]
      rcases jd j i with z|z
      ·exact .inr (hup.all j z)
      ·have:j=i:=by omega
       subst this;exact .inl rfl
   refine ai ⟨plainId_quiet F.plain_set_update_loop _,ih (i+1) _ kb2 (by omega) hlt (W.frame _ _ _ hst' λb hb o e=>?_) hT2 hup2 (λj hj=>?_) λh3 tk3 kb3 k3 hT3 hup3=>?_⟩
   ·rw[sb.2 b (λz:b=S=>hSf (by rw[<-z];exact hb))];exact e
   ·exact vU (hkeys' j hj) λo e=>(sb.2 _ (hS j hj).1).trans e
   ·refine hR h3 tk3 kb3 (λb o hb e=>k3 b o hb ?_) hT3 hup3;exact(sb.2 b λz=>hb (by rw[z];exact bh)).trans (hm b o (λz=>hb (av _ z)) e)
end
end SR
namespace SR
open PySem PySem.Spec PyProof.Rows SM
theorem walk_slots:Slot "set" "__iter__" "set.__iter__"/\Slot "set_iterator" "__next__" "set_iterator.__next__"/\Slot "set_iterator" "__iter__" "set_iterator.__iter__"/\Slot "set" "__len__" "set.__len__":=by
 refine⟨Slot.of (owner := "set") (n := "__iter__") ?_ ?_ ?_ ?_ ?_ ?_,Slot.of (owner := "set_iterator") (n := "__next__") ?_ ?_ ?_ ?_ ?_ ?_,Slot.of (owner := "set_iterator") (n := "__iter__") ?_ ?_ ?_ ?_ ?_ ?_,Slot.of (owner := "set") (n := "__len__") ?_ ?_ ?_ ?_ ?_ ?_⟩
 all_goals first
  |decide +kernel
  |(rw[typeLookup_type,builtinLookup_eq_fast];kernel_rfl)
  |(rw[isSubtype_type];kernel_rfl)
  |(left;decide +kernel)
  |(right;decide +kernel)
theorem vV (a:af):argsOk "set.__iter__" ⟨[a],[]⟩/\argsOk "set_iterator.__next__" ⟨[a],[]⟩/\argsOk "set_iterator.__iter__" ⟨[a],[]⟩:=by refine⟨?_, ?_, ?_⟩ <;> unfold argsOk <;> kernel_rfl
theorem KH:entryFor table "set_iterator.__next__" = some lg.«set_iterator.__next__»:=entryFor_of_fast (by kernel_rfl)
theorem XR:entryFor table "set.__iter__" = some lg.«frozenset.__iter__»:=entryFor_alias (id' := "frozenset.__iter__") (by kernel_rfl) rfl (by decide +kernel) (by kernel_rfl)
theorem XS:entryFor table "set_iterator.__iter__" = some lg.«dict_keyiterator.__iter__»:=entryFor_alias (id' := "dict_keyiterator.__iter__") (by kernel_rfl) rfl (by decide +kernel) (by kernel_rfl)
end SR
namespace SR
open PySem PySem.Spec PyProof.Rows SM
theorem erase_perm {α:Type}:∀(l:List α) (i:Nat) (h:i<l.length),(l[i]::l.eraseIdx i).Perm l
 | [],_,h=>absurd h (by simp)
 |x::r,0,_=>.refl _
 |x::r,i+1,h=>by have ih:=erase_perm r i (by simpa using h);show((r[i]'(by simpa using h))::x::r.eraseIdx i).Perm (x::r);exact(List.Perm.swap _ _ _).trans (ih.cons x)
theorem KI {α:Type}(next:Nat->Nat):∀(fuel k:Nat) (l:List α) (out:Array α),l.length<=fuel->(wg next fuel k l out).toList.Perm (out.toList++l)
 |0,k,l,out,h=>by have:l=[]:=zt.mp (by omega);subst this;rw[wg];simp
 |fuel+1,k,l,out,h=>by
  rw[wg]
  cases l with
  |nil=>simp
  |cons x r=>have hlt:next k % (x::r).length<(x::r).length:=Nat.mod_lt _ (by simp);rw[ba hlt];dsimp only;refine(KI next fuel (k+1) _ _ (by rw[xr hlt];omega)).trans ?_;rw[Array.toList_push,pj];refine xu _ ?_;exact erase_perm _ _ hlt
theorem XT {α:Type}(next:Nat->Nat) (xs:Array α):(pickOrder next xs).toList.Perm xs.toList:=by unfold pickOrder;have:=KI next xs.size 0 xs.toList #[] (by simp);simpa using this
section
variable{prog:bj}{w:cq}
def gW (w:cq) (a:ah) (ep:Nat) (es:Array (Int×af)):Array (Int×af):=if w.params.followText "set-order" then pickOrder (w.params.setOrder a ep) es else es
theorem KJ (w:cq) (a:ah) (ep:Nat) (es:Array (Int×af)):(gW w a ep es).toList.Perm es.toList:=by
 unfold gW
 split
 ·exact XT _ _
 ·exact .refl _
theorem vW (w:cq) (a:ah) (ep:Nat) (es:Array (Int×af)):(gW w a ep es).size=es.size:=by simpa using(KJ w a ep es).length_eq
def fV (w:cq) (t:gn) (i:Nat):Nat:=if w.params.followText "set-order" then 0 else match i with|0=>0|j+1=>t.place.getD j 0+1
def jJ (a:ah) (slot i n ep:Nat):Obj:={ cls:=.type "set_iterator",data:=.fields #[rawInt slot,rawInt i,.ref a,rawInt n,rawInt ep] }
theorem XU {t:gn}{hs:List Int}(T:TOk t hs) (hb:w.params.followText "set-order" = false) {i:Nat}(hi:i<=t.place.size):qv t.place (fV w t i)=i:=by
 obtain⟨h1,h2,h3⟩:=sD (j:=fV w t i) T.rise;have mono:∀a b (ha:a<t.place.size) (hb:b<t.place.size),a<b->t.place[a]<t.place[b]:=by intro a b ha hb hab;have:=gi.mp T.rise a b (by simpa using ha) (by simpa using hb) hab;simpa using this
 unfold fV at h1 h2 h3 ⊢;rw[hb]at h1 h2 h3 ⊢;simp only[cg,if_false]at h1 h2 h3 ⊢
 cases i with
 |zero=>
  dsimp only at h1 h2 h3 ⊢;generalize qv t.place 0=r at h1 h2 h3 ⊢
  cases r with
  |zero=>rfl
  |succ r=>have:=h1 r (by omega) (by omega);omega
 |succ j=>
  dsimp only at h1 h2 h3 ⊢;have hj:j<t.place.size:=by omega
  have ej:t.place.getD j 0=t.place[j]:=by simp[jq,hj]
  rw[ej]at h1 h2 h3 ⊢;generalize qv t.place (t.place[j]+1)=r at h1 h2 h3 ⊢
  rcases Nat.lt_trichotomy r (j+1)with q|q|q
  ·have:=h2 j hj (by omega);omega
  ·exact q
  ·have:=h1 (j+1) (by omega) q;have:=mono j (j+1) hj (by omega) (by omega);omega
end
section
variable{prog:bj}{w:cq}{A:cu}{E:af->ag->Prop}{s:ag}{a it:ah}{kb:KB}{o:Obj}{es:Array (Int×af)}{ep:Nat}{t:gn}
theorem XW {Q:Bool->ag->Prop}(P:Parts prog w s.heap a kb o es ep t) (h:Q false s):wpAny (model prog w) A (setDrawn a) Q E s:=by
 unfold setDrawn setsByText;refine aa (jc P.obj P.data P.fits ?_);dsimp only;refine aa (aa (kq (ai ?_)));have e:(!(w.params.followText "set-order")&&((!t.plain)&&decide (es.size>1)))=false:=by rw[P.tab.plain];simp
 show wpAny _ _ (pure (!(w.params.followText "set-order")&&((!t.plain)&&decide (es.size>1)))) _ _ s;rw[e];exact ai h
theorem XX {Q:af->ag->Prop}(P:Parts prog w s.heap a kb o es ep t) (h:Q (.ref s.heap.objs.size) { s with heap:=s.heap.push (jJ a 0 0 es.size ep) }):
  wpAny (model prog w) A (pyIter (.ref a)) Q E s:=by
 have hT:s.TypeIs (.ref a) "set" := ⟨o,P.obj,P.ex.1⟩;refine wpAny_pyIter_slot hT walk_slots.1 (gk walk_slots.1 hT XR ?_ (vV _).1);unfold lg.«frozenset.__iter__» Builtin.Frozenset.slot0;refine aa (m:=(do Builtin.Frozenset.addrOf (<-slotArgs "__iter__" 0 ⟨[.ref a],[]⟩).1:Sem ah)) (ai ?_);unfold Builtin.Frozenset.sizeOf;refine aa (aa (uw P.obj P.data P.fits (ai ?_)));refine aa (XW P ?_);simp only[cg,if_false];refine aa (ai ?_);refine aa (wpAny_setEpoch_of P.obj P.data P.fits ?_);refine aa (fg ?_ (by size_fits));refine ai ⟨_,rfl,"set_iterator",_,⟨_,ay _ rfl,rfl⟩,walk_slots.2.1.lookup,h⟩
end
end SR
namespace SR
open PySem PySem.Spec PyProof.Rows SM
section
variable{prog:bj}{w:cq}{A:cu}{E:af->ag->Prop}{s:ag}{a it:ah}{kb:KB}{o:Obj}{es:Array (Int×af)}{ep:Nat}{t:gn}
theorem KL {i:Nat}{Q:Option (af×Nat)->ag->Prop}(P:Parts prog w s.heap a kb o es ep t) (hi:i<=es.size)
  (h:Q (((gW w a ep es)[i]?).map λe=>(e.2,fV w t (i+1))) s):wpAny (model prog w) A (setNext a (fV w t i) i ep) Q E s:=by
 unfold setNext setsByText;refine aa (jc P.obj P.data P.fits ?_);dsimp only;refine aa (aa (kq (ai ?_)));have hps:t.place.size=es.size:=by have:=P.tab.size;rw[P.size];simpa using this
 show wpAny _ _ (if w.params.followText "set-order" = true then _ else _) _ _ s
 by_cases hb:w.params.followText "set-order" = true
 ·rw[if_pos hb,if_neg (by simp)];refine aa ?_;unfold setWalk setsByText;refine aa (jc P.obj P.data P.fits ?_);dsimp only;refine aa (aa (kq (ai ?_)));show wpAny _ _ (if w.params.followText "set-order" = true then _ else _) _ _ s;rw[if_pos hb];refine aa (kq (ai (ai ?_)));unfold gW fV at h;unfold fV;rw[if_pos hb]at h ⊢;rw[if_pos hb]at h;exact h
 ·have hb':w.params.followText "set-order" = false:=by simpa using hb
  rw[if_neg hb];have hl:t.led=true:=by rw[P.led,hb'];rfl
  have hd:((!t.plain)&&decide (es.size>1))=false:=by rw[P.tab.plain];rfl
  show wpAny _ _ (if((!t.plain)&&decide (es.size>1))=true then _ else _) _ _ s;rw[hd];simp only[cg,if_false];show wpAny _ _ ((if((!t.led)&&!es.isEmpty)=true then _ else _) >>= _) _ _ s;rw[hl];simp only[nc,Bool.false_and,cg,if_false];refine aa (ai ?_);have hbl:=XU (w:=w) P.tab hb' (i:=i) (by omega);rw[hbl];unfold gW at h;rw[if_neg hb]at h;refine ai ?_
  by_cases hlt:i<es.size
  ·have e1:es[i]?=some es[i]:=dz hlt;have e2:t.place[i]?=some t.place[i]:=dz (by omega);rw[e1]at h;rw[e1,e2];have e3:fV w t (i+1)=t.place[i]+1:=by unfold fV;rw[if_neg hb];simp[jq,show i<t.place.size by omega]
   rw[e3]at h;exact h
  ·have e1:es[i]?=none:=kv (by omega);rw[e1]at h ⊢;exact h
theorem XY {i:Nat}{x:Int×af}{Q:Option af->ag->Prop}(P:Parts prog w s.heap a kb o es ep t) (hit:s.heap.get? it=some (jJ a (fV w t i) i es.size ep)) (hx:(gW w a ep es)[i]?=some x)
  (hQ:∀h',h'.get? it=some (jJ a (fV w t (i+1)) (i+1) es.size ep)->fv it s.heap h'->Q (some x.2) { s with heap:=h' }):wpAny (model prog w) A (pyNext (.ref it)) Q E s:=by
 have hT:s.TypeIs (.ref it) "set_iterator" := ⟨_,hit,rfl⟩;have hlt:i<es.size:=by rw[<-vW w a ep es];exact(cj.mp hx).1
 unfold pyNext;refine aa (uy (gg (name:=km "__next__") hT walk_slots.2.1 (gk walk_slots.2.1 hT KH ?_ (vV _).2.1)));unfold lg.«set_iterator.__next__»;refine aa (m:=slotArgs "__next__" 0 ⟨[.ref it],[]⟩) (ai ?_);refine aa (wpAny_fieldsOf hit rfl ?_);dsimp only;show wpAny _ _ (setEntries a >>= _) _ _ s;refine aa (uw P.obj P.data P.fits ?_);rw[if_neg (by simp)];show wpAny _ _ (setNext a ((fV w t i:Nat):Int).toNat ((i:Nat):Int).toNat ((ep:Nat):Int).toNat >>= _) _ _ s;rw[ey,ey,ey];refine aa (KL P (gr hlt) ?_);rw[hx];show wpAny _ _ (setField (.ref it) 0 (rawInt ((fV w t (i+1):Nat):Int)) >>= _) _ _ s;refine aa (iw hit (by simp) λh1 g1 b1=>?_);refine aa (iw g1 (by simp) λh2 g2 b2=>?_);refine ai ⟨_,rfl,ai (hQ h2 ?_ (b1.trans b2))⟩;rw[g2];rfl
theorem XZ {i:Nat}{Q:Option af->ag->Prop}(hh:A.handled=none) (P:Parts prog w s.heap a kb o es ep t) (hit:s.heap.get? it=some (jJ a (fV w t i) i es.size ep)) (hi:i=es.size)
  (hQ:∀h',Au it s.heap h'->Q none { s with heap:=h' }):wpAny (model prog w) A (pyNext (.ref it)) Q E s:=by
 have hT:s.TypeIs (.ref it) "set_iterator" := ⟨_,hit,rfl⟩;unfold pyNext;refine aa (uy (gg (name:=km "__next__") hT walk_slots.2.1 (gk walk_slots.2.1 hT KH ?_ (vV _).2.1)));unfold lg.«set_iterator.__next__»;refine aa (m:=slotArgs "__next__" 0 ⟨[.ref it],[]⟩) (ai ?_);refine aa (wpAny_fieldsOf hit rfl ?_);dsimp only;show wpAny _ _ (setEntries a >>= _) _ _ s;refine aa (uw P.obj P.data P.fits ?_);rw[if_neg (by simp)];show wpAny _ _ (setNext a ((fV w t i:Nat):Int).toNat ((i:Nat):Int).toNat ((ep:Nat):Int).toNat >>= _) _ _ s;rw[ey,ey,ey];refine aa (KL P (lr hi) ?_);rw[kv (by rw[vW];omega)];show wpAny _ _ (setField (.ref it) 2 je >>= _) _ _ s;refine aa (iw hit (by simp) λh1 g1 b1=>?_);show wpAny _ _ (newExc (.type "StopIteration") [] >>= _) _ _ _;refine aa ?_;simp only[newExc,newTuple];refine aa (fg ?_ (by size_fits));refine aa (m:=firstArgMember _ _) (ze (a:=je) (by first|rfl|(simp only[firstArgMember];rfl)) ?_);refine fg ?_ (by size_fits);simp only[raiseNew];refine aa (wpAny_handled ?_);rw[show A.in1.handled=none from hh];refine aa (ai (wpAny_throw ?_));refine aa (yz (T := "StopIteration") (b:=true) ⟨_,ay _ rfl,rfl⟩ isSubtype_stop ?_);exact ai (hQ _ ((b1.extBut.push _).push _))
end
end SR
namespace SR
open PySem PySem.Spec PyProof.Rows SM
section
variable{prog:bj}{w:cq}{A:cu}{E:af->ag->Prop}{s:ag}{a:ah}{kb:KB}{o:Obj}{es:Array (Int×af)}{ep:Nat}{t:gn}
theorem Parts.at' {h h':cw}(P:Parts prog w h a kb o es ep t) (k:h'.get? a=some o):Parts prog w h' a kb o es ep t:=⟨k,P.ex,P.data,P.es,P.tab,P.nd,P.nf,P.led⟩
theorem X0 (hh:A.handled=none) (I:ah) (hne:a≠I):
  Walks prog w A I [I,a] [I] es.size (λi v=>∃x,(gW w a ep es)[i]?=some x/\v=x.2) (λi h=>Parts prog w h a kb o es ep t/\h.get? I=some (jJ a (fV w t i) i es.size ep)) where
 sub:=λb hb=>by rw[de.mp hb];exact bh ..
 frame:=λi h h' ⟨p,q⟩ k=>⟨p.at' (k a (by simp) _ p.obj),k I (by simp) _ q⟩
 item:=λi s Q E hi ⟨p,q⟩ hQ=>by
  have hi':i<(gW w a ep es).size:=by rw[vW];exact hi
  have hx:(gW w a ep es)[i]?=some (gW w a ep es)[i]:=dz hi';refine XY p q hx λh' q' sb=>hQ _ h' s.toks ⟨_,hx,rfl⟩ ⟨p.at' ((sb.2 a hne).trans p.obj),q'⟩ λb o hb e=>?_;exact(sb.2 b λz=>hb (by rw[z];exact bh ..)).trans e
 done:=λs Q E ⟨p,q⟩ hQ=>XZ hh p q rfl λh' x=>hQ h' s.toks λb o hb e=>x b o (λz=>hb (by rw[z];exact bh ..)) e
 self:=λi s Q E ⟨_,q⟩ hQ=>by have hT:s.TypeIs (.ref I) "set_iterator" := ⟨_,q,rfl⟩;refine wpAny_pyIter_slot hT walk_slots.2.2.1 (gk walk_slots.2.2.1 hT XS ?_ (vV _).2.2);exact ai ⟨_,rfl,"set_iterator",_,⟨_,q,rfl⟩,walk_slots.2.1.lookup,hQ⟩
theorem X1 {S:ah}{n:Nat}{Q:Unit->ag->Prop}(h:s.heap.get? S=some (seqObj "list" #[] n)) (q:∀h' c,h'.get? S=some (seqObj "list" #[] c)->(∀b o,b≠S->s.heap.get? b=some o->h'.get? b=some o)->Q () { s with heap:=h' }):
  wpAny (model prog w) A (uz (.ref S)) Q E s:=by
 unfold uz;refine aa (vc h rfl ?_);have h1:=sv h (λx=>x.push je);refine vc h1 rfl ?_;have h2:=sv h1 (λx=>x.pop);refine q _ _ h2 λb o hb e=>?_;rw[nu _ _ _ _ hb,nu _ _ _ _ hb];exact e
theorem X2 {Q:List af->ag->Prop}(hh:A.handled=none) (P:Parts prog w s.heap a kb o es ep t) (hn:es.size<=cn)
  (q:∀(h':cw) (tk:Nat),(∀b o,s.heap.get? b=some o->h'.get? b=some o)->s.heap.objs.size<=h'.objs.size->Q ((gW w a ep es).toList.map (·.2)) { s with heap:=h',toks:=tk }):wpAny (model prog w) A (collect (.ref a)) Q E s:=by
 have la:a<s.heap.objs.size:=ao P.obj;have up1:∀b o,s.heap.get? b=some o->(s.heap.push (seqObj "list" #[] 0)).get? b=some o:=λb o e=>aj _ e;have hS1:(s.heap.push (seqObj "list" #[] 0)).get? s.heap.objs.size=some (seqObj "list" #[] 0):=ay _ rfl;have P1:Parts prog w (s.heap.push (seqObj "list" #[] 0)) a kb o es ep t:=P.at' (up1 a o P.obj);have hT1:sj { s with heap:=s.heap.push (seqObj "list" #[] 0) } (.ref a) "set" := ⟨o,P1.obj,P1.ex.1⟩;unfold collect;refine aa (wpAny_runValue (oz entry_proto_collect' ?_));rw[mn F.plain_proto_collect _];refine aa (m:=newList []) (Ba (ai ⟨Code.quiet_builtin _ (by decide +kernel),oz entry_list_iadd' ?_⟩));rw[mn F.plain_list_iadd _];show wpAny _ A.in1 (ub (.ref s.heap.objs.size) (.ref a) (.ref s.heap.objs.size)) _ _ { s with heap:=s.heap.push (seqObj "list" #[] 0) };unfold ub;refine aa (ph hT1 ?_);have ne:um (.ref s.heap.objs.size) (.ref a)=false:=by simp[um,ig la]
 rw[if_neg (by rw[ne];decide)];refine aa (XX P1 ?_);have sz:(s.heap.push (seqObj "list" #[] 0)).objs.size=s.heap.objs.size+1:=size_push' _ _;rw[sz];have up2:∀b o,(s.heap.push (seqObj "list" #[] 0)).get? b=some o->((s.heap.push (seqObj "list" #[] 0)).push (jJ a 0 0 es.size ep)).get? b=some o:=λb o e=>aj _ e;have P2:Parts prog w ((s.heap.push (seqObj "list" #[] 0)).push (jJ a 0 0 es.size ep)) a kb o es ep t:=P1.at' (up2 a o P1.obj);have hT2:sj { s with heap:=(s.heap.push (seqObj "list" #[] 0)).push (jJ a 0 0 es.size ep) } (.ref a) "set" := ⟨o,P2.obj,P2.ex.1⟩;have hI2:((s.heap.push (seqObj "list" #[] 0)).push (jJ a 0 0 es.size ep)).get? (s.heap.objs.size+1)=some (jJ a 0 0 es.size ep):=by rw[<-sz];exact ay _ rfl
 refine aa (gu ?_);unfold Builtin.List.listLengthHint;refine aa (wpAny_specialOf hT2 walk_slots.2.2.2.lookup ?_);have spl:splitId "set.__len__" = some ("set","__len__"):=by decide +kernel
 dsimp only;rw[spl];dsimp only;refine aa (yz (b:=true) hT2 sub_set_self ?_);rw[if_neg (by decide),if_pos (by decide +kernel)];refine aa (ph hT2 (ai ?_));rw[if_pos (by decide +kernel)];refine aa (si ?_);refine aa (X1 (s:={ s with heap:=(s.heap.push (seqObj "list" #[] 0)).push (jJ a 0 0 es.size ep) }) (up2 _ _ hS1) λh3 c hS3 up3=>?_);have neS:∀b o,s.heap.get? b=some o->b≠s.heap.objs.size:=λb o e=>bc (ao e);have P3:Parts prog w h3 a kb o es ep t:=P2.at' (up3 a o (bc la) P2.obj);have hI3:h3.get? (s.heap.objs.size+1)=some (jJ a 0 0 es.size ep):=up3 _ _ (mz _) hI2;have hz:fV w t 0=0:=by unfold fV;split <;> rfl
 have hh2:A.in1.handled=none:=by simp[hh]
 have nin:s.heap.objs.size∉[s.heap.objs.size+1,a]:=λm=>by
  rcases bg.mp m with e|m
  ·exact mz _ e.symm
  ·exact ig la (de.mp m)
 refine ai ⟨plainId_quiet F.plain_extend_loop _,codeAny_extend_loopS (A:=A) ((X0 (kb:=kb) (o:=o) (t:=t) (ep:=ep) (es:=es) hh2 (s.heap.objs.size+1) (a:=a) (bc (iz la))).toS) hn s.heap.objs.size nin _ es.size 0 { s with heap:=h3 } #[] c rfl (iu _)
  ⟨P3,by rw[hz];exact hI3⟩ hS3 (ItemsOf.nil _) λs' acc c' mv hS' ia=>?_⟩
 have eacc:acc.toList=(gW w a ep es).toList.map (·.2):=by
  apply lj
  intro i;rw[md,du,md]
  cases q:acc[i]? with
  |some v=>obtain⟨x,h1,h2⟩:=ia.2 i v q;rw[h1,h2];rfl
  |none=>have h1:acc.size<=i:=Array.getElem?_eq_none_iff.mp q;rw[kv (by rw[vW,<-ia.1];exact h1)];rfl
 obtain⟨hp,gs,dr,tk,os⟩:=s';have e1:gs=s.gens:=mv.gens;have e2:dr=s.drawn:=mv.drawn;have e3:os=s.os:=mv.os;subst e1;subst e2;subst e3;show wpAny _ A (load s.heap.objs.size >>= _) _ _ _;refine aa (wpAny_load hS' (ai ?_));rw[eacc];refine q hp tk (λb o e=>mv.heap b o (λm=>?_) (up3 b o (neS b o e) (up2 b o (up1 b o e)))) (gr (ao hS'))
 rcases bg.mp m with z|m
 ·exact neS b o e z
 ·exact bc (iz (ao e)) (de.mp m)
end
end SR
namespace SR
open PySem PySem.Spec PySem.W PyProof.Rows SoM L2
section
variable{prog:bj}{w:cq}{A:cu}{E:af->ag->Prop}{s:ag}
theorem KN {fin:Bool}{Q:Bool->ag->Prop}:∀{kx ky:List Int}{vx vy:List af}(i:Nat),ItemsAre (intKind prog w) kx vx->ItemsAre (intKind prog w) ky vy->fin=decide (vx.length<vy.length)->Q (cR kx ky) s->KatLex prog w A true fin Q (vx.zip vy) i s
 |_,_,_,_,i,.nil,.nil,hf,h=>by subst hf;exact kat_nil h
 |_,_,_,_,i,.nil,.cons _ _,hf,h=>by subst hf;refine kat_nil ?_;rw[decide_eq_true (by simp)];exact h
 |_,_,_,_,i,.cons _ _,.nil,hf,h=>by subst hf;refine kat_nil ?_;rw[decide_eq_false (by simp)];exact h
 |_,_,_,_,i,.cons (k:=a) hu hx,.cons (k:=b) hv hy,hf,h=>by
  obtain⟨t,rfl⟩:=ku hu;obtain⟨t',rfl⟩:=ku hv;refine kat_cons (wpAny_eqBool_int (kat_go (λe=>?_) λe=>?_))
  ·refine kat_yes (KN (i+1) hx hy (hf.trans (by simp)) ?_);rw[cR,if_pos e]at h;exact h
  ·have h':Q (decide (a<b)) s:=by rw[cR,if_neg (by rw[e];simp)]at h;exact h
   refine kat_no ?_
   cases q:i==0 with
   |true=>exact oneLt_int h'
   |false=>exact kat_one _ _ (vv h')
theorem X3 {x y:ah}{kx ky:List Int}{Q:Bool->ag->Prop}(hx:fw (intKind prog w) s.heap kx x) (hy:fw (intKind prog w) s.heap ky y) (h:Q (cR kx ky) s):wpAny (model prog w) A (keyLt' (tuples' true) (.ref x) (.ref y)) Q E s:=by obtain⟨ox,ix,nx,e1,_,d1,i1⟩:=hx;obtain⟨oy,iy,ny,e2,_,d2,i2⟩:=hy;exact kat_lt e1 d1 e2 d2 (KN 0 i1 i2 (by simp) h)
def KeysAt (prog:bj) (w:cq) (h:cw) (n:Nat) (ad:Nat->ah) (ky:Nat->List Int):Prop:=∀i,i<n->fw (intKind prog w) h (ky i) (ad i)/\ky i≠[]
def bO (n:Nat) (ad:Nat->ah):List af:=(bf n).map λi=>.ref (ad i)
theorem kA (n:Nat) (ad:Nat->ah):(bO n ad).length=n:=by simp[bO]
theorem A4 {n:Nat}{ad:Nat->ah}{i:Nat}(h:i<n):(bO n ad).getD i je=.ref (ad i):=by simp[bO,h]
theorem KO:∀(l:List Nat) {ad:Nat->ah}{ky:Nat->List Int},(∀i∈l,fw (intKind prog w) s.heap (ky i) (ad i)/\ky i≠[])->∃fs:List af,KatTups s.heap (l.map λi=>.ref (ad i)) fs/\fs.length=l.length/\∀v∈fs,∃a t,v=.int a t
 | [],_,_,_=>⟨[],trivial,rfl,by simp⟩
 |i::l,ad,ky,h=>by
  obtain⟨fs,t,hl,hv⟩:=KO l (ad:=ad) (ky:=ky) λj hj=>h j (av _ hj);obtain⟨⟨o,its,n,e,c,d,r⟩,ne⟩:=h i (bh ..)
  cases q:its.toList with
  |nil=>rw[q]at r;cases hk:ky i with
   |nil=>exact absurd hk ne
   |cons a b=>rw[hk]at r;cases r
  |cons v vs=>
   rw[q]at r
   cases hk:ky i with
   |nil=>exact absurd hk ne
   |cons a b=>
    rw[hk]at r
    cases r with
    |cons hu _=>
     obtain⟨tk,rfl⟩:=ku hu;refine⟨.int a tk::fs,KatTups.cons e c d (by rw[<-md,q];rfl) t,by simp[hl],λv hv'=>?_⟩
     rcases bg.mp hv' with rfl|hv'
     ·exact⟨_,_,rfl⟩
     ·exact hv v hv'
theorem X4 {n:Nat}{ad:Nat->ah}{ky:Nat->List Int}{G:Array Nat->ag->Prop}(h2:2<=n) (hk:KeysAt prog w s.heap n ad ky)
  (h:∀p,Ent n p->fT cR (p.toList.map ky)->G p s):
  wpAny (model prog w) A (keyKind' (bO n ad).toArray) (λκ s'=>(kas_sort (bO n ad).length).kasWp (kas_ask prog w A κ (bO n ad)) G s') (λ_ _=>False) s:=by
 obtain⟨fs,t,hl,hv⟩:=KO (prog:=prog) (w:=w) (s:=s) (bf n) (ad:=ad) (ky:=ky) λi hi=>hk i (bw.mp hi);refine kat_kind (T:=.type "int") t (by rw[hl,gw];omega) (λv hv'=>?_) (by decide) ?_
 ·obtain⟨a,tk,rfl⟩:=hv v hv';exact .now
 ·rw[kA]
  let ks:=(bf n).map ky
  have mem:∀i,i<n->ky i∈ks:=λi hi=>ck.mpr ⟨i,bw.mpr hi,rfl⟩;refine JJ (n:=n) (f:=λi=>rk cR ks (ky i)) (I:=λs'=>s'=s) (λi j C s' hs hi hj hC=>?_) (kas_sort n) (λp=>Ent n p/\fT cR (p.toList.map ky)) G s s (WR (by omega) λp e inc=>⟨e, ?_⟩) rfl λp s' hp hs=>by subst hs;exact h p hp.1 hp.2
  ·subst hs;show wpAny (model prog w) A (keyLt' (tuples' true) ((bO n ad).getD i je) ((bO n ad).getD j je)) C (λ_ _=>False) s';rw[A4 hi,A4 hj];refine X3 (hk i hi).1 (hk j hj).1 ?_;have:=hC s' rfl;rwa [JO stoL (mem i hi)]at this
  ·refine gi.mpr λi j hi hj hij=>?_;have hj':j<p.size:=by simpa using hj
   have hi':i<p.size:=by omega
   have z:=inc i j (gr hij) (by rw[<-e.1];exact hj');unfold SoM.F at z;have ei:p.getD i 0=p[i]:=by simp[jq,hi']
   have ej:p.getD j 0=p[j]:=by simp[jq,hj']
   rw[ei,ej]at z;have lt:∀k (hk:k<p.size),p[k]<n:=λk hk=>bw.mp (e.2.mem_iff.mp (by simp));have:=WU stoL (mem _ (lt j hj')) z;simpa using this
end
end SR
namespace SR
open PySem PySem.Spec PySem.W PyProof.Rows SoM L2
section
variable{prog:bj}{w:cq}{A:cu}{E:af->ag->Prop}{s:ag}
abbrev vX (h h':cw):Prop:=∀b o,h.get? b=some o->h'.get? b=some o
def Sorted (n:Nat) (ad:Nat->ah) (ky:Nat->List Int) (out:List af):Prop:=∃p:List Nat,p.Perm (bf n)/\fT cR (p.map ky)/\out=p.map λi=>.ref (ad i)
theorem Sorted.len {n:Nat}{ad:Nat->ah}{ky:Nat->List Int}{out:List af}(h:Sorted n ad ky out):out.length=n:=by obtain⟨p,pp,_,e⟩:=h;rw[e,br,pp.length_eq,gw]
theorem KeysAt.keep {h h':cw}{n:Nat}{ad:Nat->ah}{ky:Nat->List Int}(k:KeysAt prog w h n ad ky) (g:∀i,i<n->∀o,h.get? (ad i)=some o->h'.get? (ad i)=some o):KeysAt prog w h' n ad ky:=λi hi=>⟨vU (k i hi).1 (g i hi),(k i hi).2⟩
theorem X5 {a:ah}{n c:Nat}{ad:Nat->ah}{ky:Nat->List Int}{P:Fin->ag->Prop}(ho:s.heap.get? a=some (seqObj "list" (bO n ad).toArray c)) (h64:n<64) (hk:KeysAt prog w s.heap n ad ky)
  (q:∀h' e out,Sorted n ad ky out->h'.get? a=some (seqObj "list" out.toArray e)->(∀b o,b≠a->s.heap.get? b=some o->h'.get? b=some o)->P (.done (.ret .none)) { s with heap:=h' }):
  wpAny (model prog w) A (lg.«list.sort» ⟨[.ref a],[]⟩) P E s:=by
 have la:a<s.heap.objs.size:=ao ho;obtain⟨e1,g1⟩:∃e1,(s.heap.update a (mw λ_=>(#[]:Array af))).get? a=some (seqObj "list" #[] e1):=⟨_,sv ho λ_=>#[]⟩
 have k1:∀b o,b≠a->s.heap.get? b=some o->(s.heap.update a (mw λ_=>(#[]:Array af))).get? b=some o:=λb o hb e=>by rw[nu _ _ _ _ hb];exact e
 generalize hH1:s.heap.update a (mw λ_=>(#[]:Array af))=H1 at g1 k1;have k3:vX H1 ((H1.push (seqObj "tuple" (bO n ad).toArray 0)).push (seqObj "list" #[] 0)):=λb o e=>aj _ (aj _ e);have ne:∀i,i<n->ad i≠a:=λi hi e=>by obtain⟨⟨o,its,m,e1,c1,_⟩,_⟩:=hk i hi;rw[e,ho]at e1;cases e1;exact absurd (Value.type.inj c1) (by decide)
 have K3:KeysAt prog w ((H1.push (seqObj "tuple" (bO n ad).toArray 0)).push (seqObj "list" #[] 0)) n ad ky:=hk.keep λi hi o e=>k3 _ o (k1 _ o (ne i hi) e);have g3:=k3 a _ g1;have kk:∀b o,b≠a->s.heap.get? b=some o->((H1.push (seqObj "tuple" (bO n ad).toArray 0)).push (seqObj "list" #[] 0)).get? b=some o:=λb o hb e=>k3 b o (k1 b o hb e);have sl:n<=cn:=by rw[jk];omega
 have fin:∀(out:List af),Sorted n ad ky out->wpAny (model prog w) A (do
   let touched:=(<-seqEpoch a) != e1
   Builtin.List.listUpdate (.ref a) λ_=>out.toArray
   if let some e:=(none:Option af)then rule "list.sort.comparison-raised"; throw e
   if touched then rule "list.sort.modified"; raiseError "ValueError" "list modified during sort"
   ret .none) P E { s with heap:=(H1.push (seqObj "tuple" (bO n ad).toArray 0)).push (seqObj "list" #[] 0) }:=λout ho'=>by
  refine aa (seqEpoch_at g3 rfl ?_);refine aa (vc g3 rfl ?_ (iu _) (by rw[aw,ho'.len];omega));simp only[bne_self_eq_false,cg,if_false];exact ai (q _ _ out ho' (sv g3 λ_=>out.toArray) λb o hb e=>by rw[nu _ _ _ _ hb];exact kk b o hb e)
 generalize hH3:(H1.push (seqObj "tuple" (bO n ad).toArray 0)).push (seqObj "list" #[] 0)=H3 at k3 K3 g3 kk fin;rw[list_sort_plain];refine aa (listItems_at ho rfl (aa (vc ho rfl ?_ (by rw[aw,kA];exact sl) (iu _))));rw[hH1];refine aa (seqEpoch_at g1 rfl (aa (wpAny_newTuple (aa (Ba (gu ?_) (iu _))) (by show(bO n ad).length<=_;rw[kA];exact sl))));show wpAny (model prog w) A _ P E { s with heap:=(H1.push (seqObj "tuple" (bO n ad).toArray 0)).push (seqObj "list" #[] 0) };rw[hH3];have hz:(bO n ad).toArray.size=n:=by rw[aw,kA]
 dsimp only
 by_cases h2:n<2
 ·rw[if_pos (by rw[hz];exact h2),if_pos (by rw[hz];exact h2)];refine aa (ai ?_);rw[StateT.run_pure];refine aa (ai ?_);have e:(arrOf (SortSt.mk' general' ((bO n ad).toArray.zip (bO n ad).toArray) #[] 7 none)).map (·.2)=(bO n ad).toArray:=by show(((bO n ad).toArray.zip (bO n ad).toArray)).map (·.2)=_;rw[Array.map_snd_zip (ak _)]
  dsimp only;rw[e];refine fin _ ⟨bf n,.refl _, ?_,rfl⟩;refine gi.mpr λi j hi hj hij=>?_;rw[br,gw]at hj;omega
 ·have h2':2<=n:=by omega
  rw[if_neg (by rw[hz];exact h2),if_neg (by rw[hz];exact h2)];refine aa (jn (X4 (A:=A) (s:={ s with heap:=H3 }) (G:=λp s'=>s'={ s with heap:=H3 }/\Ent n p/\fT cR (p.toList.map ky)) h2' K3 λp e r=>⟨rfl,e,r⟩) (λκ s0 hκ=>?_) λ_ _ x=>x.elim);refine aa (jn (kat_run (ks:=bO n ad) (vs:=bO n ad) (Q:=λst' s'=>∃p:Array Nat,p.size=(bO n ad).length/\arrOf st'=p.map (kas_item ((bO n ad).toArray.zip (bO n ad).toArray))/\failedOf st'=none/\s'={ s with heap:=H3 }/\Ent n p/\fT cR (p.toList.map ky))
   rfl (by rw[kA];exact h2') (by rw[kA];exact h64) (λp st' s' z1 z2 z3 z4=>⟨p,z1,z2,z3,z4⟩) hκ) ?_ λ_ _ e=>e)
  rintro ⟨⟨⟩,st'⟩ s' ⟨p,_,z2,z3,rfl,z5,z6⟩
  dsimp only;rw[kat_snds rfl z2,z3];have e:(p.toList.map λi=>(bO n ad).getD i je)=p.toList.map λi=>.ref (ad i):=List.map_congr_left λi hi=>A4 (bw.mp (z5.2.mem_iff.mp hi));rw[e];exact fin _ ⟨p.toList,z5.2,z6,rfl⟩
theorem X6 {x:af}{n:Nat}{ad:Nat->ah}{ky:Nat->List Int}{Q:af->ag->Prop}(h64:n<64) (hk:KeysAt prog w s.heap n ad ky)
  (hc:∀(Q':List af->ag->Prop) (E':af->ag->Prop),(∀h' tk,vX s.heap h'->s.heap.objs.size<=h'.objs.size->Q' (bO n ad) { s with heap:=h',toks:=tk })->wpAny (model prog w) A.in1 (collect x) Q' E' s)
  (q:∀h' tk D e out,Sorted n ad ky out->s.heap.objs.size<=D->h'.get? D=some (seqObj "list" out.toArray e)->vX s.heap h'->Q (.ref D) { s with heap:=h',toks:=tk }):
  wpAny (model prog w) A (call (.builtin "sorted") [x]) Q E s:=by
 refine Calls.call_function_entry kind_sorted plain_sorted entry_sorted (args_sorted1 _) ?_;unfold lg.«sorted»;refine aa (m:=checkCount "sorted" 1 1 _) (ai (aa (hc _ _ λh1 tk k1 sz=>aa (Ba ?_ (by rw[kA,jk];omega)))));have g:(h1.push (seqObj "list" (bO n ad).toArray 0)).get? h1.objs.size=some (seqObj "list" (bO n ad).toArray 0):=ay _ rfl;have k2:vX s.heap (h1.push (seqObj "list" (bO n ad).toArray 0)):=λb o e=>aj _ (k1 b o e);refine aa (gu (gk slot_list_sort ⟨_,g,rfl⟩ entry_list_sort (X5 (s:={ s with heap:=h1.push (seqObj "list" (bO n ad).toArray 0),toks:=tk }) g h64 (hk.keep λi hi o e=>k2 _ o e) λh' e out so ho ke=>⟨_,rfl, ?_⟩) (args_list_sort _)));exact ai ⟨_,rfl,q h' tk h1.objs.size e out so sz ho λb o e=>ke b o (bc (ar (ao e) sz)) (k2 b o e)⟩
end
end SR
namespace SR
open PySem PySem.Spec PyProof.Rows SM
def bare (w:cq):Obj:={ cls:=.type "set",dict:=none,data:=.set #[] 0 (.fresh 0 0 (!w.params.followText "set-order")) }
section
variable{prog:bj}{w:cq}{A:cu}{E:af->ag->Prop}{s:ag}
theorem X7 {h:cw}{a:ah}(e:h.get? a=some (bare w)):jZ prog w h a []:=by
 have tok:∀led:Bool,TOk (.fresh 0 0 led) []:=λled=>⟨rfl,.nil,rfl,(λj hj=>nomatch hj),iu _,.inl rfl,(λi h j e=>nomatch e),rfl⟩
 exact⟨bare w,#[],0,_,e,⟨rfl,rfl,rfl⟩,rfl,rfl,tok _,.nil,(by show 0*5<7*3;decide),rfl⟩
theorem X8 (a:af) {Q:af->ag->Prop}(q:Q (.ref s.heap.objs.size) { s with heap:=s.heap.push (bare w) }):
  codeAny (model prog w) A (.call (.builtin "set.__new__") ⟨[.type "set",a],[]⟩) (wants Q E) s:=by
 refine uf F.plain_set_new F.entry_set_new (ze (F.newCall_set_1 a) ?_);have self:=sub_set_self;unfold lg.«set.__new__» Builtin.Frozenset.newClass;cases s
 wp_walk
 exact kq (ai (aa (wpAny_alloc (ai (ai q)))))
theorem X9 {v:af}{Q N:af->ag->Prop}(hn:codeAny (model prog w) A.in1 (.call (.builtin "set.__new__") ⟨[.type "set",v],[]⟩) (wants N E) s)
  (hi:∀x s1,N x s1->s1.TypeIs x "set"/\codeAny (model prog w) A.in1 (.call (.builtin "set.__init__") ⟨[x,v],[]⟩) (wants (λr s2=>r=.none/\Q x s2) E) s1):wpAny (model prog w) A (call (.type "set") [v]) Q E s:=by
 have f:=F.called_set;obtain⟨_,_,fm⟩:=f.mro;have fd:=f.made;have fs:=f.sub;have ft:=f.notType;have fc:=f.canCreate;have fk:=F.typeCall_set_1 v;have fl:=f.init.lookup;have q:(Code.builtin "type.__call__" ⟨[.type "set",v],[]⟩).quiet=true:=Code.quiet_builtin _ (by decide +kernel);refine Ac (codeAny_of_tree (ai ⟨q,oz F.entry_type_call ?_⟩));rw[Around.under_plain (weight_type_call_type "set" [v] []) rfl]
 repeat (any_goals (first|assumption|wp_step))
 refine mq hn ?_
 rintro (e|fl1) s1 h1
 ·exact h1
 ·cases fl1 <;> try exact h1.elim
  rename_i x;obtain⟨hx,hr⟩:=hi x s1 h1;have fb:=f.init.bind x
  repeat (any_goals (first|assumption|wp_step))
  refine mq hr ?_
  rintro (e|fl2) s2 h2
  ·exact h2
  ·cases fl2 <;> try exact h2.elim
   obtain⟨rfl,h3⟩:=h2
   repeat (any_goals (first|assumption|wp_step))
theorem KQ {l:ah}{T:String}{it:Obj}{n:Nat}{P:Nat->af->Prop}{St:Nat->cw->Prop}{fp wr:List ah}(ad:Nat->ah) (ky:Nat->List Int) (U:List (List Int)) {Q:af->ag->Prop}
  (hu:A.units+8<cLine) (hT:s.TypeIs (.ref l) T) (n1:isSubtype (.type T) (.type "set")=pure false) (n2:isSubtype (.type T) (.type "frozenset")=pure false) (n3:(Aw T==Aw "dict")=false)
  (hi:∀(B:cu) (Q':af->ag->Prop) (E':af->ag->Prop),Q' (.ref (s.heap.objs.size+1)) { s with heap:=(s.heap.push (bare w)).push it }->wpAny (model prog w) B (pyIter (.ref l)) Q' E' { s with heap:=s.heap.push (bare w) })
  (W:Walks prog w A.in1.in1.in1 (s.heap.objs.size+1) fp wr n P St) (hfp:s.heap.objs.size∉fp) (hwr:∀b∈wr,s.heap.objs.size<b) (h0:St 0 ((s.heap.push (bare w)).push it))
  (hval:∀i v,P i v->v=.ref (ad i)) (hU:U.length<=76) (hky:∀i,i<n->ky i∈U) (hkeys:∀j,j<n->fw (intKind prog w) s.heap (ky j) (ad j))
  (q:∀(h':cw) (tk:Nat) kb,jZ prog w h' s.heap.objs.size kb->Upto ky ad n kb->(∀b o,s.heap.get? b=some o->h'.get? b=some o)->Q (.ref s.heap.objs.size) { s with heap:=h',toks:=tk }):
  wpAny (model prog w) A (call (.type "set") [.ref l]) Q E s:=by
 refine X9 (N:=λx s1=>x=.ref s.heap.objs.size/\s1={ s with heap:=s.heap.push (bare w) }) (X8 _ ⟨rfl,rfl⟩) ?_
 rintro x s1 ⟨rfl,rfl⟩
 have up:∀b o,s.heap.get? b=some o->(s.heap.push (bare w)).get? b=some o:=λb o e=>aj _ e;have hb:(s.heap.push (bare w)).get? s.heap.objs.size=some (bare w):=ay _ rfl;have hS:sj { s with heap:=s.heap.push (bare w) } (.ref s.heap.objs.size) "set" := ⟨_,hb,rfl⟩;refine⟨hS,uf F.called_set.init.plain F.entry_set_init (check_set_init_1 hS ?_)⟩;obtain⟨ol,el,cl⟩:=hT;have hl1:sj { s with heap:=s.heap.push (bare w) } (.ref l) T:=⟨ol,up l ol el,cl⟩
 have lt:∀j,j<n->ad j<s.heap.objs.size:=λj hj=>let ⟨_,_,_,e,_⟩:=hkeys j hj;ao e;have hb2:((s.heap.push (bare w)).push it).get? s.heap.objs.size=some (bare w):=aj _ hb;have run:∀(R:xw->ag->Prop),(∀h' tk kb,jZ prog w h' s.heap.objs.size kb->Upto ky ad n kb->(∀b o,s.heap.get? b=some o->h'.get? b=some o)->R (.ok (.ret .none)) { s with heap:=h',toks:=tk })->
   codeAny (model prog w) A.in1.in1 (.builtin "set.update.loop" ⟨[.ref s.heap.objs.size,.ref (s.heap.objs.size+1)],[]⟩) R { s with heap:=(s.heap.push (bare w)).push it }:=λR hR=>by
  refine XQ W s.heap.objs.size hfp ad ky hval (by show A.units+1+1+2<cLine;omega) U hU hky (λj hj=>⟨bc (lt j hj),λm=>Nat.lt_asymm (lt j hj) (hwr _ m)⟩) n 0 _ [] rfl (iu _) h0 (X7 hb2)
   ⟨(λp hp=>nomatch hp),λj hj=>absurd hj (Nat.not_lt_zero j)⟩ (λj hj=>vU (hkeys j hj) λo e=>aj _ (up _ o e)) λh' tk kb keep S u=>hR h' tk kb S u λb o e=>?_
  have hlt:=ao e;exact keep b o (λm=>(bg.mp m).elim (bc hlt) λm=>Nat.lt_asymm hlt (hwr b m)) (aj _ (up b o e))
 unfold lg.«set.__init__» noKeywords Builtin.Frozenset.updateFrom;generalize hPI:pyIter=PI;unfold bare at hb
 wp_walk
 subst hPI;refine hi _ _ _ ?_;refine aa (wpAny_runValue (run _ λh' tk kb S u keep=>?_));exact ai (ai ⟨rfl,q h' tk kb S u keep⟩)
end
end SR
namespace L2.Mr
open PySem PySem.Spec PyProof.Rows SR
def TupsAre (H:Hp):List V->List (List Int)->Prop
 | [],[]=>True
 |v::vs,k::ks=>(∃b,v=.ref b/\H b=some (.tup (k.map V.int)))/\TupsAre H vs ks
 |_,_=>False
def YA:V->ah
 | .ref b=>b
 |_=>0
def eN (vs:List V) (i:Nat):ah:=YA (vs.getD i .non)
section
variable{X:Cx}{pins:List (ah×Obj)}{σ:St}{H H':Hp}{s:ag}
theorem TupsAre.len:∀{vs:List V}{ks:List (List Int)},TupsAre H vs ks->vs.length=ks.length
 | [],[],_=>rfl
 | [],_::_,h=>h.elim
 |_::_,[],h=>h.elim
 |v::vs,k::ks,h=>by rw[cf,cf,TupsAre.len h.2]
theorem TupsAre.at_:∀{vs:List V}{ks:List (List Int)}{i:Nat},TupsAre H vs ks->i<ks.length->vs[i]?=some (.ref (eN vs i))/\H (eN vs i)=some (.tup ((ks.getD i []).map V.int))
 | [],[],_,_,h=>by simp at h
 | [],_::_,_,h,_=>h.elim
 |_::_,[],_,h,_=>h.elim
 |v::vs,k::ks,0,h,_=>by obtain⟨⟨b,rfl,e⟩,_⟩:=h;exact⟨rfl,e⟩
 |v::vs,k::ks,i+1,h,hi=>by
  obtain⟨e1,e2⟩:=TupsAre.at_ (i:=i) h.2 (by simpa using hi);have ea:eN (v::vs) (i+1)=eN vs i:=by simp[eN]
  exact⟨by rw[ea];simpa using e1,by rw[ea];simpa using e2⟩
theorem KR:∀{k:List Int}{its:List af}{prog:bj}{w:cq},Vals (k.map V.int) its->ItemsAre (intKind prog w) k its
 | [],_,_,_,.nil=>.nil
 |n::k,_,_,_,.cons h1 h2=>by obtain⟨t,rfl⟩:=h1;exact .cons (intKind_is _ _ _ _) (KR h2)
theorem A5 (I:Inv X pins σ H s) {b:ah}{k:List Int}(e:H b=some (.tup (k.map V.int))):fw (intKind X.prog X.w) s.heap k b:=by obtain⟨_,its,r,o,e1,c,_,n,d⟩:=I.hok b _ e;exact⟨o,its.toArray,n,e1,c,d,KR r⟩
theorem KS {vs:List V}{ks:List (List Int)}{its:List af}(h:TupsAre H vs ks) (r:Vals vs its):its=bO ks.length (eN vs):=by
 have hl:=r.length;have hl2:=h.len
 apply lj
 intro i
 by_cases hi:i<ks.length
 ·obtain⟨e1,_⟩:=h.at_ hi;obtain⟨u,e2,e3⟩:=r.get e1;cases e3;rw[e2];simp[bO,hi]
 ·rw[Am (by omega),Am (by rw[kA];omega)]
theorem YB {n:Nat}{ad:Nat->ah}{ky:Nat->List Int}{out:List af}(so:Sorted n ad ky out) (hH:∀i,i<n->H (ad i)=some (.tup ((ky i).map V.int))):
  ∃(p:List Nat) (vs':List V),p.Perm (bf n)/\fT cR (p.map ky)/\Vals vs' out/\TupsAre H vs' (p.map ky):=by
 obtain⟨p,pp,r,rfl⟩:=so;refine⟨p,p.map λi=>V.ref (ad i),pp,r, ?_, ?_⟩
 ·clear pp r
  induction p with
  |nil=>exact .nil
  |cons i p ih=>exact .cons rfl ih
 ·have:∀q:List Nat,(∀i∈q,i<n)->TupsAre H (q.map λi=>V.ref (ad i)) (q.map ky):=λq=>by
   induction q with
   |nil=>intro _;trivial
   |cons i q ih=>exact λh=>⟨⟨_,rfl,hH i (h i (bh ..))⟩,ih λj hj=>h j (av _ hj)⟩
  exact this p λi hi=>bw.mp (pp.mem_iff.mp hi)
theorem YC {α:Type}{p:List Nat}{n:Nat}{l:List α}{d:α}(h:p.Perm (bf n)) (hl:l.length=n):(p.map λi=>l.getD i d).Perm l:=by
 refine(h.map _).trans ?_;have:(bf n).map (λi=>l.getD i d)=l:=by
  apply ve (by simp[hl])
  intro i h1 h2;simp[h2]
 rw[this]
def vY (prog:bj) (w:cq) (l:ah) (o:Obj) (kb:KB):Prop:=∃es ep t,∀h:cw,h.get? l=some o->Parts prog w h l kb o es ep t
structure KbOk (H:Hp) (kb:KB) (ks:List (List Int)):Prop where
 tup:∀p∈kb,H p.2=some (.tup (p.1.map V.int))
 frm:∀p∈kb,p.1∈ks
 all:∀k∈ks,k∈kb.map dy
abbrev KU (X:Cx):List V->Hp->VK->Prop:=λxs H Q=>∃(p:ah) (vs:List V) (ks:List (List Int)),xs=[.ref p]/\H p=some (.lst vs)/\TupsAre H vs ks/\(dJ cR ks).length<=76/\∀l o kb,H l=none->vY X.prog X.w l o kb->KbOk H kb ks->Q (.ref l) (aM H l (.frz o (.own 0)))
theorem sub_list:isSubtype (.type "list") (.type "set")=pure false/\isSubtype (.type "list") (.type "frozenset")=pure false:=⟨F.sub_list_set,F.sub_list_frozenset⟩
theorem YD {k:Nat}(rm:Room k X.A):CallR X (.type "set") (KU X):=by
 intro pins s σ H xs us Q I rv ⟨p,vs,ks,e,hp,ht,hU,q⟩;subst e;obtain⟨u,rfl,ru⟩:=iE rv;cases ru;obtain⟨its,rits,pl,hz⟩:=I.list (SqL.of hp);have hits:=KS ht rits;have lp:=I.hok.lt hp;have hI:s.heap.IsList p (bO ks.length (eN vs)).toArray:=by rw[<-hits];exact pl.isList
 have hsz:(bO ks.length (eN vs)).toArray.size=ks.length:=by rw[aw,kA]
 have hh:X.A.in1.in1.in1.handled=none:=rm.hd;have hne:p≠s.heap.objs.size+1:=bc (iz lp);have hb:(s.heap.push (bare X.w)).IsList p (bO ks.length (eN vs)).toArray:=hI.push _;have hs1:(s.heap.push (bare X.w)).objs.size=s.heap.objs.size+1:=size_push' _ _;have W:=tw (prog:=X.prog) (w:=X.w) (A:=X.A.in1.in1.in1) hh (s.heap.objs.size+1) p hne (bO ks.length (eN vs)).toArray;rw[hsz]at W;refine KQ (T := "list") (it:={ cls:=.type "list_iterator",data:=.fields #[.ref p,.int 0 0] }) (eN vs) (λi=>ks.getD i []) (dJ cR ks) (by have:=rm.un;omega) hI.typeIs sub_list.1 sub_list.2 (by decide) (λB Q' E' hQ=>?_) W ?_ ?_ ?_ (λi v hv=>?_) hU (λi hi=>?_) (λj hj=>?_) λh' tk kb hS hup k=>?_
 ·refine kh hb ?_;rw[<-hs1]at hQ;exact hQ
 ·intro m
  rcases bg.mp m with z|m
  ·exact mz _ z.symm
  ·exact ig lp (de.mp m)
 ·intro b hb;rw[de.mp hb];exact ic _
 ·refine⟨⟨{ cls:=.type "list_iterator",data:=.fields #[.ref p,.int 0 0] }, ?_,rfl,rfl⟩,hb.push _⟩;rw[<-hs1];exact ay _ rfl
 ·have hi:i<ks.length:=by have:=(cj.mp hv).1;rwa [hsz]at this
  have:(bO ks.length (eN vs))[i]?=some (.ref (eN vs i)):=by simp[bO,hi]
  rw[An,this]at hv;exact(cz hv).symm
 ·refine(pH stoL _ _).mpr ?_;show ks.getD i []∈ks;simp[hi]
 ·exact A5 I (ht.at_ hj).2
 ·obtain⟨o,es,ep,t,P⟩:=hS;refine⟨.ref s.heap.objs.size,_,I.laid (t':=tk) (o:=.frz o (.own 0)) k (ak _) ⟨P.obj,o,P.obj⟩,rfl,q _ o kb (I.hok.fresh (ak _)) ⟨es,ep,t,λh e=>P.at' e⟩ ⟨λz hz=>?_,λz hz=>?_,λz hz=>?_⟩⟩
  ·obtain⟨j,hj,rfl⟩:=hup.from_ z hz;exact(ht.at_ hj).2
  ·obtain⟨j,hj,rfl⟩:=hup.from_ z hz;show ks.getD j []∈ks;simp[hj]
  ·obtain⟨j,hj,rfl⟩:=jl hz;have:=hup.all j hj;simpa[hj]using this
abbrev KW (X:Cx):List V->Hp->VK->Prop:=λxs H Q=>∃(l:ah) (o:Obj) (kb:KB) (ks:List (List Int)),xs=[.ref l]/\H l=some (.frz o (.own 0))/\vY X.prog X.w l o kb/\KbOk H kb ks/\(∀k∈ks,k≠[])/\(dJ cR ks).length<64/\∀D vs',H D=none->TupsAre H vs' (dJ cR ks)->Q (.ref D) (aM H D (.lst vs'))
theorem YE {α β:Type}{f:α->β}:∀{l:List β}{l':List β},l.Perm l'->∀xs:List α,l'=xs.map f->∃ys:List α,ys.Perm xs/\l=ys.map f:=by
 intro l l' h
 induction h with
 |nil=>intro xs e;exact⟨xs,.refl _,e⟩
 |cons a _ ih=>
  intro xs e
  cases xs with
  |nil=>cases e
  |cons x xs=>simp only[dw,Av]at e;obtain⟨ys,p,e'⟩:=ih xs e.2;exact⟨x::ys,p.cons x,by simp[e.1,e']⟩
 |swap a b l=>
  intro xs e
  cases xs with
  |nil=>cases e
  |cons x xs=>
   cases xs with
   |nil=>simp at e
   |cons y xs=>simp only[dw,Av]at e;exact⟨y::x::xs,.swap ..,by simp[e.1,e.2.1,e.2.2]⟩
 |trans _ _ ih1 ih2=>intro xs e;obtain⟨ys,p,e'⟩:=ih2 xs e;obtain⟨zs,p',e''⟩:=ih1 ys e';exact⟨zs,p'.trans p,e''⟩
theorem YF {k:Nat}(rm:Room k X.A):CallR X (.builtin "sorted") (KW X):=by
 intro pins s σ H xs us Q I rv ⟨l,o,kb,ks,e,hl,⟨es,ep,t,hP⟩,kO,ne,h64,q⟩;subst e;obtain⟨u,rfl,ru⟩:=iE rv;cases ru;have P:=hP s.heap (I.hok l _ hl).1;have pe:(gW X.w l ep es).toList.Perm (fU X.prog X.w kb):=by rw[<-P.es];exact KJ _ _ _ _
 obtain⟨kc,pk,ek⟩:=YE pe kb rfl;have mem:∀i,i<kc.length->kc.getD i ([],0)∈kb:=λi hi=>pk.mem_iff.mp (by simp[hi]);have hn:(kb.map dy).length=(dJ cR ks).length:=by refine List.Perm.length_eq ((oi P.nd (vP stoL (vO stoL ks))).mpr λz=>?_);rw[pH stoL];refine⟨λh=>?_,λh=>kO.all z h⟩;obtain⟨p,hp,rfl⟩:=ck.mp h;exact kO.frm p hp
 have hlen:kc.length<64:=by rw[pk.length_eq];rw[br]at hn;omega
 have hes:es.size=kc.length:=by rw[P.size,pk.length_eq]
 have KA:KeysAt X.prog X.w s.heap kc.length (λi=>(kc.getD i ([],0)).2) (λi=>(kc.getD i ([],0)).1):=λi hi=>⟨A5 I (kO.tup _ (mem i hi)),ne _ (kO.frm _ (mem i hi))⟩
 have er:(gW X.w l ep es).toList.map (·.2)=bO kc.length (λi=>(kc.getD i ([],0)).2):=by
  rw[ek,qw]
  apply ve (by simp[kA])
  intro i h1 h2;have hi:i<kc.length:=by simpa using h1
  simp[bO,hi]
 refine X6 hlen KA (λQ' E' hQ=>?_) λh' tk D e out so hD ho k=>?_
 ·refine X2 (show X.A.in1.handled=none from rm.hd) P (by rw[hes,jk];omega) λh' tk kk sz=>?_;rw[er];exact hQ h' tk kk sz
 ·obtain⟨pp,vs',h1,h2,h3,h4⟩:=YB (H:=H) so λi hi=>kO.tup _ (mem i hi);have pm:(pp.map λi=>(kc.getD i ([],0)).1).Perm (kb.map dy):=by have:=((YC (d:=(([],0):List Int×ah)) h1 rfl).trans pk).map dy;rwa [qw]at this
  have nd:(pp.map λi=>(kc.getD i ([],0)).1).Nodup:=pm.nodup_iff.mpr P.nd;have rs:gU cR (pp.map λi=>(kc.getD i ([],0)).1):=by
   refine(h2.and nd).imp λ{a b} ⟨x,y⟩=>?_
   cases q:cR a b with
   |true=>rfl
   |false=>exact absurd (stoL.tot a b q x) y
  have e1:(pp.map λi=>(kc.getD i ([],0)).1)=dJ cR ks:=WT stoL rs λz=>by rw[pm.mem_iff];refine⟨λh=>?_,λh=>kO.all z h⟩;obtain⟨p,hp,rfl⟩:=ck.mp h;exact kO.frm p hp
  rw[e1]at h4;refine⟨.ref D,_,I.laid (t':=tk) k hD (show ObjOk X.prog X.w _ _ _ (.lst vs') from⟨?_,out,e,h3,ho⟩),rfl,q D vs' (I.hok.fresh hD) h4⟩;rw[h4.len,jk];omega
end
def pJ:Dv->Option (List Int)
 | .tup xs=>bQ gS xs
 |_=>none
def vZ (k:List Int):Dv:=.tup (k.map Dv.int)
section
variable{X:Cx}{G:Cfg}{E:XK}{k:Nat}{e a b:bp}{es:List bp}{ma mb:M Dv}{aR:M (List Dv)}{p p2 pos pos2:Pos}
theorem A6 {μ:Nat->ah}{n:Nat}{H:Hp}:∀{xs:List Dv}{vs:List V}{ks:List (List Int)},RelDL G μ n H xs vs->bQ pJ xs=some ks->TupsAre H vs ks
 | [],_,ks,r,e=>by cases e;rw[RelDL]at r;subst r;trivial
 |x::xs,_,ks,r,e=>by
  rw[RelDL]at r;obtain⟨v,rr,rfl,r1,r2⟩:=r;unfold bQ at e
  cases x with
  |tup ds=>
   dsimp only[pJ]at e
   cases q:bQ gS ds with
   |none=>rw[q]at e;cases e
   |some zs=>
    rw[q]at e;dsimp only at e
    cases q2:bQ pJ xs with
    |none=>rw[q2]at e;cases e
    |some ys=>rw[q2]at e;cases e;rw[RelD]at r1;obtain⟨b,us,rfl,h1,h2⟩:=r1;rw[rQ h2 q]at h1;exact⟨⟨b,rfl,h1⟩,A6 r2 q2⟩
  |_=>cases e
theorem KY {μ:Nat->ah}{n:Nat}{H:Hp}:∀{vs:List V}{ks:List (List Int)},TupsAre H vs ks->RelDL G μ n H (ks.map vZ) vs
 | [],[],_=>RelDL.nil
 | [],_::_,h=>h.elim
 |_::_,[],h=>h.elim
 |v::vs,k::ks,h=>by obtain⟨⟨b,rfl,e⟩,h2⟩:=h;refine RelDL.cons ?_ (KY h2);unfold vZ;rw[RelD];exact⟨b,_,rfl,e,qQ k⟩
def wC (ks:List (List Int)):Bool:=ks.all λk=>!k.isEmpty
theorem YG {ks:List (List Int)}(h:wC ks=true):∀k∈ks,k≠[]:=λk hk e=>by have:=fi.mp h k hk;rw[e]at this;cases this
theorem YH:dh "set" = some (.type "set"):=by decide +kernel
end
open PySem.SeqAt PySem.MeetsSeq PySem.MeetsSeq2 PySem.MeetsSeq3
section
variable{X:Cx}{G:Cfg}{E:XK}{k:Nat}{e a b o:bp}{es:List bp}{mo me ma mb:M Dv}{aR:M (List Dv)}{p p2 pos pos2 apos cpos np:Pos}{y:Str}
theorem YI {prog:bj}{w:cq}{A:cu}{Ee:af->ag->Prop}{s:ag}{t sl:ah}{items:Array af}{vl vu:af}{lo hi:Option Int}{Q:af->ag->Prop}(ht:IsTup s.heap t items) (hs:s.heap.IsSliceOf sl vl vu .none) (pl:ud vl lo) (pu:ud vu hi)
  (h0:HT.sIx items.size 0 lo=0) (h1:HT.sIx items.size items.size hi=items.size) (h:Q (.ref t) s):wpAny (model prog w) A (getItem (.ref t) (.ref sl)) Q Ee s:=by
 obtain⟨os,hos,hcs,hds⟩:=id hs;have hTs:s.TypeIs (.ref sl) "slice" := ⟨os,hos,hcs⟩;have tt:=ht.typeIs;obtain⟨ot,et,ct,_⟩:=id ht;unfold getItem
 try with_reducible refine gu ?_
 first|refine aa (ai ?_)|skip
 refine aa (wpAny_sequenceKey tt (by decide) (aa (gg (name:=km "__getitem__") tt fq (gk fq tt PySem.F.entry_tuple_getitem ?_ (PySem.F.args_tuple_getitem_2 _ _)))));refine aa (m:=slotArgs "__getitem__" 1 ⟨[.ref t,.ref sl],[]⟩) (ai (aa (tupleItemsOf_ ht (aa (ph hTs ?_)))));rw[if_pos (by decide)];refine aa (HT.sliceApplied_gen hs pl pu ?_);rw[h0,h1];show wpAny _ _ (if(((0:Nat):Int)==0&&(1:Int)==1&&(items.size - 0)==items.size)=true then _ else _) _ _ s;rw[if_pos (by simp)];unfold Builtin.Tuple.tupleIsExact;refine aa (aa (ph tt (ai ?_)));rw[if_pos (by decide)];refine aa (si (ai ⟨_,rfl,ai h⟩))
theorem YJ:SlR X (λx lo hi H Q=>∃a xs,x=.ref a/\SqT X.K H a xs/\HT.sIx xs.length 0 lo=0/\HT.sIx xs.length xs.length hi=xs.length/\Q (.ref a) H):=by
 intro pins s σ H x v vl vu lo hi sl Q I rx hs pl pu ⟨a,xs,ex,hx,h0,h1,q⟩;subst ex;cases rx;obtain⟨its,r,ht,hz⟩:=I.tuple hx;have hlen:its.toArray.size=xs.length:=by rw[aw];exact r.length.symm
 exact⟨"tuple",_,fq.lookup,ht.typeIs,YI ht hs pl pu (by rw[hlen];exact h0) (by rw[hlen];exact h1) ⟨.ref a,H,I,rfl,q⟩⟩
def wD (x:Dv) (lo hi:Option Int) (h:Hs):Rs Dv:=match x with
 | .ref j=>match getL h j with
  |some xs=>.ok (.ref h.length) (h++[.lst (mF xs lo hi)])
  |none=>.bad
 | .tup xs=>.ok (.tup (mF xs lo hi)) h
 |_=>.bad
theorem YK {xs:List Dv}{lo hi:Option Int}(h0:HT.sIx xs.length 0 lo=0) (h1:HT.sIx xs.length xs.length hi=xs.length):mF xs lo hi=xs:=by unfold mF;rw[h0,h1];simp
def sG (m:M Dv) (lo hi:MO):M Dv:=λρ h=>(m ρ h).bind λx h1=>(lo ρ h1).bind λl h2=>(hi ρ h2).bind λu h3=>wD x l u h3
theorem YL {lo hi:Option bp}{ml mh:MO}(ho:aH X G E o mo) (hl:vI X G E lo ml) (hh:vI X G E hi mh):aH X G E (.Subscript o (.Slice lo hi none p2) pos) (sG mo ml mh):=λhK=>
 PE.imp (QY (SlR.or (SlR.or RC Q0) YJ) (ho hK) (hl hK) (hh hK)) λσ H Q ⟨μ,ρ,h,rs,s,oo⟩=>eS rs s oo λμ1 x h1 vx H1 x1 rs1 s1 r1 o1=>by
  refine⟨μ1,ρ,h1,rs1,s1,(o1.bind (R1:=λ_ _ _ a b=>b=a)).mono λl' H2 ⟨μ2,l,h2,x2,s2,el,o2⟩=>?_⟩;subst el;refine⟨μ2,ρ,h2,rs1.mono x2,s2,(o2.bind (R1:=λ_ _ _ a b=>b=a)).mono λu' H3 ⟨μ3,u,h3,x3,s3,eu,o3⟩=>?_⟩;subst eu;have r3:=RelD.mono (x2.trans x3) _ _ r1
  cases x with
  |ref j=>
   dsimp only[wD]at o3
   cases q:getL h3 j with
   |none=>rw[q]at o3;exact o3.elim
   |some xs=>rw[q]at o3;obtain⟨vs,ea,ra⟩:=s3.ob j _ (cX q);obtain⟨_,rfl⟩:=r3;exact .inl (.inl ⟨_,vs,rfl,SqL.of ea,λp hp=>mV s3 (IK ra _ _) hp o3⟩)
  |tup xs=>
   dsimp only[wD]at o3;obtain⟨a,vs,rfl,ea,ra⟩:=r3
   by_cases hw:HT.sIx xs.length 0 l'=0/\HT.sIx xs.length xs.length u'=xs.length
   ·refine .inr ⟨a,vs,rfl,SqT.of ea,by rw[ra.length];exact hw.1,by rw[ra.length];exact hw.2,o3 μ3 _ _ Ext.refl s3 ?_⟩;rw[YK hw.1 hw.2];exact⟨a,vs,rfl,ea,ra⟩
   ·exact .inl (.inr ⟨a,vs,rfl,SqT.of ea,by rw[ra.length];exact hw,λp hp=>o3 μ3 _ _ (Ext.same (cJ hp)) (s3.same (cJ hp)) ⟨p,_,rfl,bT,RelDL.mono (Ext.same (cJ hp)) _ _ (IK ra _ _)⟩⟩)
  |_=>exact o3.elim
def fF (x y:Dv) (h:Hs):Rs Dv:=match x,y with
 | .int i,.int j=>.ok (.bl (decide (i<j))) h
 | .tup xs,.tup ys=>match bQ gS xs,bQ gS ys with
  |some ns,some ms=>.ok (.bl (HT.lexLt ns ms)) h
  |_,_=>.bad
 |_,_=>.bad
theorem KZ:∀x y:List Int,HT.lexLt x y=cR x y
 | [],[]=>rfl
 | [],_::_=>rfl
 |_::_,[]=>rfl
 |a::x,b::y=>by
  rw[HT.lexLt_cons,cR,KZ x y]
  by_cases h:a=b <;> simp[h]
theorem K0:eG G (λx y H Q=>(jM λi j=>.bl (decide (i<j))) x y H Q∨FI G.K x y H Q) fF:=by
 intro E μ h H x y vx vy Q s rx ry o;unfold fF at o
 split at o
 ·rename_i i j;exact .inl (uM E μ h H (.int i) (.int j) vx vy Q s rx ry o)
 ·rename_i xs ys
  cases q1:bQ gS xs with
  |none=>rw[q1]at o;exact o.elim
  |some ns=>
   cases q2:bQ gS ys with
   |none=>rw[q1,q2]at o;exact o.elim
   |some ms=>rw[q1,q2]at o;obtain⟨a,us,rfl,ea,ra⟩:=rx;obtain⟨b,ws,rfl,eb,rb⟩:=ry;exact .inr ⟨a,b,ns,ms,rfl,rfl,SqT.of (by rw[ea,rQ ra q1]),SqT.of (by rw[eb,rQ rb q2]),o.val s rfl⟩
 ·exact o.elim
theorem A7 (g:Good X G E k) (ha:aH X G E a ma) (hb:aH X G E b mb):aH X G E (.Compare a [.Lt] [b] pos) (m2 fF ma mb):=λhK=>qN (OpR.or EY (FJ (by have:=g.room.un;omega))) (by rw[hK];exact K0) ha hb (kU _) hK
theorem K1 (g:Good X G E k) (ha:aH X G E a ma) (hb:aH X G E b mb):eR X G E (.Compare a [.Lt] [b] pos) (mB (m2 fF ma mb)):=λhK=>lN (OpR.or EY (FJ (by have:=g.room.un;omega))) (by rw[hK];exact K0) ha hb (kU _) hK
def bU (j:Int):List Int:=(bf j.toNat).map λk:Nat=>(k:Int)
theorem YM:CallR X (.type "range") (λxs H Q=>∃j:Int,xs=[.int j]/\∀l,H l=none->Q (.ref l) (aM H l (.rng 0 j))):=by intro pins s σ H xs us Q I rv ⟨j,e,q⟩;subst e;obtain⟨u,rfl,ru⟩:=iE rv;obtain⟨t,rfl⟩:=ru;refine call_range_1 ⟨.ref s.heap.objs.size,_,I.laid (t':=s.toks+1+1) (o:=.rng 0 j) (λb ob q=>aj _ q) (ak _) ⟨_,_,_,ay _ rfl⟩,rfl,q _ (I.hok.fresh (ak _))⟩
theorem YN (rm:Room k X.A):CallR X (.type "list") (λxs H Q=>∃(l:ah) (j:Int),xs=[.ref l]/\H l=some (.rng 0 j)/\0<=j/\j<=1000/\∀D,H D=none->Q (.ref D) (aM H D (.lst ((bU j).map V.int)))):=by
 intro pins s σ H xs us Q I rv ⟨l,j,e,hl,h0,h1,q⟩;subst e;obtain⟨u,rfl,ru⟩:=iE rv;cases ru;obtain⟨t,u,v,hr⟩:=I.hok l _ hl;refine call_list_range (n:=j.toNat) (a:=0) (b:=j) (c:=1) rm.hd hr (small_one (by omega) (by omega) (by omega) (by omega)) ?_ (by omega) λh' tk acc c ke ho ia=>?_
 ·rw[rangeSize_one]
  split <;> omega
 ·have hv:Vals ((bU j).map V.int) acc.toList:=by
   have:∀(n:Nat) (as:List af),as.length=n->(∀(i:Nat) (v:af),as[i]?=some v->∃t,v=Value.int (0+(i:Int)*1) t)->Vals (((bf n).map λk:Nat=>(k:Int)).map V.int) as:=λn=>by
    induction n with
    |zero=>intro as hl _;rw[zt.mp hl];exact .nil
    |succ n ih=>
     intro as hl hi;have hne:as≠[]:=λz=>by rw[z]at hl;cases hl
     have e:=List.dropLast_concat_getLast hne;rw[<-e,vp,gq,gq];have hlast:as[n]?=some (as.getLast hne):=by
      rw[List.getLast_eq_getElem,ba (by omega)]
      congr 2;omega
     obtain⟨t,ht⟩:=hi n _ hlast;refine Vals.append (ih as.dropLast (by simp[hl]) λi v hv=>hi i v ?_) ?_
     ·rw[List.getElem?_dropLast]at hv
      split at hv
      ·exact hv
      ·cases hv
     ·refine .cons ?_ .nil;show RelV (.int (n:Int)) _;rw[ht];exact⟨t,by simp⟩
   refine this j.toNat acc.toList (by simpa using ia.1) λi v hv=>?_;exact ia.2 i v (by simpa using hv)
  refine⟨.ref s.heap.objs.size,_,I.laid (t':=tk) ke (ak _) (show ObjOk X.prog X.w _ _ _ (.lst ((bU j).map V.int)) from⟨?_,acc.toList,c,hv, ?_⟩),rfl,q _ (I.hok.fresh (ak _))⟩
  ·rw[br,bU,br,gw,jk];omega
  ·rw[ho]
def nO:Dv->Hs->Rs Dv
 | .int j,h=>if(decide (0<=j)&&decide (j<=1000))=true then .ok (.ref h.length) (h++[.lst ((bU j).map Dv.int)])else .bad
 |_,_=>.bad
theorem YO (g:Good X G E k) (hg:Gl X "list") (hm:X.mg "list" = none) (hg2:Gl X "range") (hm2:X.mg "range" = none) (ha:dQ X G E [e] aR)
  (he:au [e] X.env=[(false,eval e X.env)]:=by rfl) (he2:au [Expr.Call (.Name "range" p2) [e] [] pos2] X.env=[(false,eval (.Call (.Name "range" p2) [e] [] pos2) X.env)]:=by rfl):
  aH X G E (.Call (.Name "list" p) [.Call (.Name "range" p2) [e] [] pos2] [] pos) (aF (f1 nO) aR):=λhK=>
 PE.imp (tY (YN g.room) hg hm uO (gY (tY YM hg2 hm2 boot_range (ha hK) (by decide) (by decide) he rfl) jN he2) (by decide) (by decide) he2 rfl) λσ H Q ⟨μ,ρ,h,rs,s,o⟩=>by
  refine iX rs s o λμ1 ds h1 vs H1 x1 rs1 s1 r1 o1=>?_;unfold f1 at o1
  split at o1
  ·rename_i d;obtain⟨v,rfl,rv⟩:=oO r1
   cases d with
   |int j=>
    dsimp only[nO]at o1
    split at o1
    ·rename_i h0;rw[dj]at h0;have j0:0<=j:=by simpa using h0.1
     have j1:j<=1000:=by simpa using h0.2
     rw[RelD]at rv;subst rv;refine⟨j,rfl,λl hl=>?_⟩;have sm:=cJ (o:=.rng 0 j) hl;refine⟨l,j,rfl,bT,j0,j1,λD hD=>?_⟩;exact mV (E:=E) (s1.same sm) (qQ _) hD (λμ' H' v x'=>o1 μ' H' v ((Ext.same sm).trans x'))
    ·exact o1.elim
   |_=>exact o1.elim
  ·exact o1.elim
end
section
variable{mo me:M Dv}{ml mh:MO}
end
section
variable{X:Cx}{G:Cfg}{E:XK}{k:Nat}{e a b o:bp}{es:List bp}{mo me ma mb:M Dv}{aR:M (List Dv)}{p p2 pos pos2 apos cpos np:Pos}{y:Str}
theorem sub_tuple:isSubtype (.type "tuple") (.type "set")=pure false/\isSubtype (.type "tuple") (.type "frozenset")=pure false:=by constructor <;> (rw[isSubtype_type];kernel_rfl)
abbrev K2 (X:Cx):List V->Hp->VK->Prop:=λxs H Q=>∃(p:ah) (vs:List V) (ks:List (List Int)),xs=[.ref p]/\H p=some (.tup vs)/\TupsAre H vs ks/\(dJ cR ks).length<=76/\∀l o kb,H l=none->vY X.prog X.w l o kb->KbOk H kb ks->Q (.ref l) (aM H l (.frz o (.own 0)))
theorem YQ (rm:Room k X.A):CallR X (.type "set") (K2 X):=by
 intro pins s σ H xs us Q I rv ⟨p,vs,ks,e,hp,ht,hU,q⟩;subst e;obtain⟨u,rfl,ru⟩:=iE rv;cases ru;obtain⟨its,rits,pl,hz⟩:=I.tuple (SqT.of hp);have hits:=KS ht rits;have lp:=I.hok.lt hp;have hI:s.heap.IsTuple p (bO ks.length (eN vs)).toArray:=by rw[<-hits];exact pl
 have hsz:(bO ks.length (eN vs)).toArray.size=ks.length:=by rw[aw,kA]
 have hne:p≠s.heap.objs.size+1:=bc (iz lp);have hb:(s.heap.push (bare X.w)).IsTuple p (bO ks.length (eN vs)).toArray:=IsTup.push (items:=(bO ks.length (eN vs)).toArray) hI _;have hs1:(s.heap.push (bare X.w)).objs.size=s.heap.objs.size+1:=size_push' _ _;have W:=Walks.tuple (prog:=X.prog) (w:=X.w) (A:=X.A.in1.in1.in1) (show X.A.in1.in1.in1.handled=none from rm.hd) (s.heap.objs.size+1) p hne (bO ks.length (eN vs)).toArray;rw[hsz]at W;refine KQ (T := "tuple") (it:={ cls:=.type "tuple_iterator",data:=.fields #[.ref p,.int 0 0] }) (eN vs) (λi=>ks.getD i []) (dJ cR ks) (by have:=rm.un;omega) hI.typeIs sub_tuple.1 sub_tuple.2 (by decide) (λB Q' E' hQ=>?_) W (λm=>?_) (λb hb=>?_) ⟨⟨{ cls:=.type "tuple_iterator",data:=.fields #[.ref p,.int 0 0] }, ?_,rfl,rfl⟩,IsTup.push (items:=(bO ks.length (eN vs)).toArray) hb _⟩ (λi v hv=>?_) hU (λi hi=>?_) (λj hj=>A5 I (ht.at_ hj).2) λh' tk kb hS hup k=>?_
 ·refine qe hb ?_;rw[<-hs1]at hQ;exact hQ
 ·rcases bg.mp m with z|m
  ·exact mz _ z.symm
  ·exact ig lp (de.mp m)
 ·rw[de.mp hb];exact ic _
 ·rw[<-hs1];exact ay _ rfl
 ·have hi:i<ks.length:=by have:=(cj.mp hv).1;rwa [hsz]at this
  have:(bO ks.length (eN vs))[i]?=some (.ref (eN vs i)):=by simp[bO,hi]
  rw[An,this]at hv;exact(cz hv).symm
 ·refine(pH stoL _ _).mpr ?_;show ks.getD i []∈ks;simp[hi]
 ·obtain⟨o,es,ep,t,P⟩:=hS;refine⟨.ref s.heap.objs.size,_,I.laid (t':=tk) (o:=.frz o (.own 0)) k (ak _) ⟨P.obj,o,P.obj⟩,rfl,q _ o kb (I.hok.fresh (ak _)) ⟨es,ep,t,λh e=>P.at' e⟩ ⟨λz hz=>?_,λz hz=>?_,λz hz=>?_⟩⟩
  ·obtain⟨j,hj,rfl⟩:=hup.from_ z hz;exact(ht.at_ hj).2
  ·obtain⟨j,hj,rfl⟩:=hup.from_ z hz;show ks.getD j []∈ks;simp[hj]
  ·obtain⟨j,hj,rfl⟩:=jl hz;have:=hup.all j hj;simpa[hj]using this
theorem YR (rm:Room k X.A):CallR X (.type "set") (λxs H Q=>KU X xs H Q∨K2 X xs H Q):=by
 intro pins s σ H xs us Q I rv h
 rcases h with h|h
 ·exact YD rm pins s σ H xs us Q I rv h
 ·exact YQ rm pins s σ H xs us Q I rv h
def pK (x:Dv) (h:Hs):Option (List (List Int)):=match x with
 | .ref i=>match getL h i with
  |some xs=>bQ pJ xs
  |none=>none
 | .tup xs=>bQ pJ xs
 |_=>none
def pL (x:Dv) (h:Hs):Rs Dv:=match pK x h with
 |some ks=>if(wC ks&&decide ((dJ cR ks).length<64))=true then .ok (.ref h.length) (h++[.lst ((dJ cR ks).map vZ)])else .bad
 |none=>.bad
theorem YS (g:Good X G E k) (hg:Gl X "sorted") (hm:X.mg "sorted" = none) (hg2:Gl X "set") (hm2:X.mg "set" = none) (ha:dQ X G E [e] aR)
  (he:au [e] X.env=[(false,eval e X.env)]:=by rfl) (he2:au [Expr.Call (.Name "set" p2) [e] [] pos2] X.env=[(false,eval (.Call (.Name "set" p2) [e] [] pos2) X.env)]:=by rfl):
  aH X G E (.Call (.Name "sorted" p) [.Call (.Name "set" p2) [e] [] pos2] [] pos) (aF (f1 pL) aR):=λhK=>
 PE.imp (qD (YF g.room) hg hm WG (gY (tY (YR g.room) hg2 hm2 YH (ha hK) (by decide) (by decide) he rfl) jN he2) (by decide) (by decide) he2 rfl) λσ H Q ⟨μ,ρ,h,rs,s,o⟩=>by
  refine iX rs s o λμ1 ds h1 vs H1 x1 rs1 s1 r1 o1=>?_;unfold f1 at o1
  split at o1
  ·rename_i d;obtain⟨v,rfl,rv⟩:=oO r1;unfold pL at o1
   cases q:pK d h1 with
   |none=>rw[q]at o1;exact o1.elim
   |some ks=>
    rw[q]at o1;dsimp only at o1
    split at o1
    ·rename_i h0;rw[dj]at h0;have h64:(dJ cR ks).length<64:=by simpa using h0.2
     have fin:∀(l:ah) (o:Obj) (kb:KB),H1 l=none->vY X.prog X.w l o kb->KbOk H1 kb ks->KW X [.ref l] (aM H1 l (.frz o (.own 0))) Q:=λl o kb hl so ko=>by have sm:=cJ (o:=.frz o (.own 0)) hl;refine⟨l,o,kb,ks,rfl,bT,so,⟨λp hp=>sm _ _ (ko.tup p hp),ko.frm,ko.all⟩,YG h0.1,h64,λD vs' hD ht=>?_⟩;exact mV (E:=E) (s1.same sm) (KY ht) hD (λμ' H' v x'=>o1 μ' H' v ((Ext.same sm).trans x'))
     cases d with
     |ref i=>
      dsimp only[pK]at q
      cases q1:getL h1 i with
      |none=>rw[q1]at q;cases q
      |some xs=>rw[q1]at q;obtain⟨vs,e1,r2⟩:=s1.ob i _ (cX q1);obtain⟨_,rfl⟩:=rv;exact .inl ⟨_,vs,ks,rfl,e1,A6 r2 q,by omega,fin⟩
     |tup xs=>obtain⟨a,vs,rfl,e1,r2⟩:=rv;exact .inr ⟨_,vs,ks,rfl,e1,A6 r2 q,by omega,fin⟩
     |_=>cases q
    ·exact o1.elim
  ·exact o1.elim
end
theorem A8 {α β:Type}{f g:α->Option β}:∀l:List α,(∀x∈l,f x=g x)->l.filterMap f=l.filterMap g
 | [],_=>rfl
 |x::l,h=>by rw[cp,cp,h x (by simp),A8 l λy hy=>h y (by simp[hy])]
section
variable{X:Cx}{G:Cfg}{E:XK}{o:bp}{mo:M Dv}{ms:MO}{se:bp}{p2 pos:Pos}
end
end L2.Mr
namespace L2.Mr.Com
open PySem PySem.Spec PyProof.Rows L2 L2.Mr
def wF:MS:=(aN (dN (m1 (bE pE) (aB 0)) (m1 oI (m1 (bE kK) (aB 0)))))
def F_qz:List Dv->Hs->Rs Dv:=aT 1 1 (wF)
def sH:MS:=(aN (dN (aF F_qz (aA (aB 0) aC)) (oH oZ oZ (aB 1) (aB 0) (aB 2))))
def F_qp:List Dv->Hs->Rs Dv:=aT 3 3 (sH)
def A9:MS:=(aN (mL jR (cB (aR lY (aA (aB 0) (aA (sG (aB 0) (rK (mC (.int 1))) rJ) aC))) [none,none] (cY 2 (bM (aE 0) (bM (aE 1) dD))) dO (bP (m2 fF (aB 0) (aB 1))))))
def F_qw:List Dv->Hs->Rs Dv:=aT 1 1 (A9)
def wG:MS:=(aN (aF F_qp (aA (aB 1) (aA (mC (.int 0)) (aA (m2 gA (aB 0) (mC (.int 1))) aC)))))
def F_qy:List Dv->Hs->Rs Dv:=aT 2 2 (wG)
def sJ:MS:=(aN (dN (m1 (bE hY) (aB 1)) (mL jR (cB (cU eB (aB 1)) [none,some 0] (aE 0) dO (bP (aF F_qy (aA (aB 1) (aA (aB 0) aC))))))))
def F_qo:List Dv->Hs->Rs Dv:=aT 2 2 (sJ)
def nQ:MS:=(aN (dN (aF F_qo (aA (aB 0) (aA (aB 1) aC))) (m2 cK (aF (f1 gB) (aA (aB 1) aC)) (mC (.int 2)))))
def F_q1:List Dv->Hs->Rs Dv:=aT 2 2 (nQ)
def wH:MS:=(aN (mL jR (cB (cU eB (aB 1)) [none,some 0] (aE 0) dO (bP (aF F_q1 (aA (aB 1) (aA (aB 0) aC)))))))
def F_qu:List Dv->Hs->Rs Dv:=aT 2 2 (wH)
def BA:MS:=(aN (mL qX (cB (cU eB (aB 0)) [none,none] (cY 2 (bM (aE 0) (bM (aE 1) dD))) dO (bP (m2 cK (aB 0) (aB 1))))))
def F_qv:List Dv->Hs->Rs Dv:=aT 1 1 (BA)
def BB:MS:=(aN (mL jR (cB (cU eB (aB 0)) [none,none,none,none,some 0] (cY 2 (bM (aE 0) (bM (aE 1) dD))) dO (jF (cU eB (aB 4)) (cY 2 (bM (aE 2) (bM (aE 3) dD))) (mB (m2 cK (aB 1) (aB 2))) (bP (m2 (eC false) (aL (aA (aB 0) (aA (aB 3) aC))) (aB 4)))))))
def F_qi:List Dv->Hs->Rs Dv:=aT 1 1 (BB)
def mJ:MS:=(aJ (aX (iH (dU (bW (m1 (bE hY) (aB 0)))) (mB (m2 cT (aF (f1 gB) (aA (aB 0) aC)) (mC (.int 2))))) (aN (mC (.bl false))) bK) (aJ (aK (aB 0) (cY 2 (bM (aE 1) (bM (aE 2) dD)))) (aJ (aX (iH (dU (bW (aF F_qp (aA (aB 1) (aA (mC (.int 1)) (aA (mC (.int 6)) aC)))))) (dU (bW (m1 (bE hY) (aB 2))))) (aN (mC (.bl false))) bK) (aJ (aX (iH (dU (bW (aF F_qu (aA (aB 1) (aA (aB 2) aC))))) (dU (bW (aF F_qw (aA (aB 2) aC))))) (aN (mC (.bl false))) bK) (aN (dN (m1 oI (aF F_qv (aA (aB 2) aC))) (aF F_qi (aA (aB 2) aC))))))))
def F_qx:List Dv->Hs->Rs Dv:=aT 1 3 (mJ)
def wI (scr:List Int):MS:=(aJ (aX (mB (m2 fF (aB 1) (aF (f1 (iI scr)) (aA (aB 0) aC)))) (aN (m2 (eU scr) (aB 0) (aB 1))) bK) (aN (mC (.int 0))))
def F_qe (scr:List Int):List Dv->Hs->Rs Dv:=aT 2 2 (wI scr)
def wJ (scr:List Int):MS:=(aJ (aK (aF (F_qe scr) (aA (aB 0) (aA (aB 1) aC))) (aE 2)) (aJ (aX (mB (m2 mG (aB 2) (m2 rL (mC (.int 10)) (mC (.int 18))))) (aN (aV (aA (m2 gA (aB 2) (m2 rL (mC (.int 10)) (mC (.int 18)))) (aA (mC (.bl true)) aC)))) bK) (aN (aV (aA (m2 gI (aB 2) (mC (.int 2147483647))) (aA (mC (.bl false)) aC))))))
def F_qn (scr:List Int):List Dv->Hs->Rs Dv:=aT 2 3 (wJ scr)
def wK:MS:=(aJ (aX (bW (m2 aQ (aB 0) (mC (.int 1)))) (aJ (aK (m2 gI (m2 aQ (aB 0) (mC (.int 0))) (aB 1)) (aE 2)) (aJ (iK (aB 0) (mC (.int 0)) (m2 rS (m2 aQ (aB 0) (mC (.int 0))) (aB 1))) (aN (aB 2)))) bK) (aJ (iK (aB 0) (mC (.int 0)) (m2 gI (m2 bH (m2 iP (m2 aQ (aB 0) (mC (.int 0))) (mC (.int 48271))) (mC (.int 29))) (mC (.int 2147483647)))) (aJ (aK (m2 gI (m2 bH (m2 bH (m2 iP (m2 aQ (aB 0) (mC (.int 0))) (m2 aQ (aB 0) (mC (.int 0)))) (m2 iP (mC (.int 39373)) (m2 aQ (aB 0) (mC (.int 0))))) (mC (.int 7))) (mC (.int 2147483629))) (aE 3)) (aJ (aK (m2 gI (m2 bH (m2 iP (aB 3) (aB 3)) (m2 iP (mC (.int 16807)) (aB 3))) (mC (.int 2147483587))) (aE 3)) (aN (m2 gI (m2 rS (aB 3) (mC (.int 8))) (aB 1)))))))
def F_qs:List Dv->Hs->Rs Dv:=aT 2 4 (wK)
def sL (Fs:List Dv->Hs->Rs Dv):MS:=(aJ (aX (bW (m1 (bE pF) (aB 1))) (aJ (aX (iH (mB (m2 cT (m1 (bE hY) (aB 0)) (m1 (bE hY) (aB 1)))) (mB (m2 cT (m1 (bE rN) (aB 0)) (m1 (bE rN) (aB 1))))) (aN (mC (.bl false))) bK) (aJ (aX (mB (m2 cT (aF (f1 gB) (aA (aB 0) aC)) (aF (f1 gB) (aA (aB 1) aC)))) (aN (mC (.bl false))) bK) (aN (mL jR (cB (aR lY (aA (aB 0) (aA (aB 1) aC))) [none,none] (cY 2 (bM (aE 0) (bM (aE 1) dD))) dO (bP (aF Fs (aA (aB 0) (aA (aB 1) aC))))))))) bK) (aN (dN (m2 cK (aB 0) (aB 1)) (m2 cK (m1 (bE kK) (aB 0)) (m1 (bE kK) (aB 1))))))
def F_qr:Nat->List Dv->Hs->Rs Dv
 |0=>λ_ _=>.bad
 |n+1=>aT 2 2 (sL (F_qr n))
end L2.Mr.Com
namespace L2
open PySem PySem.Spec PyProof.Rows
theorem Inv.reXe {X:Cx}{pins:List (ah×Obj)}{σ:St}{H:Hp}{s:ag}(z:af->ag->Prop) (I:Inv X pins σ H s):Inv { X with xe:=z } pins σ H s:=⟨⟨I.ok.mod,I.ok.kind,I.ok.glob,I.ok.blt,I.ok.above,I.ok.inj,I.ok.has,I.ok.cab,I.ok.hd,I.ok.frames,I.ok.stk,I.ok.exf,I.ok.bs,I.ok.bsz,I.ok.noex,I.ok.exfs,I.ok.funs,I.ok.frf⟩,I.os,I.bare,I.base,I.loc,I.cell,I.free,I.freeC,I.pin,I.hok,I.len⟩
def Ent (X:Cx) (s:ag) (H:Hp) (ex:List ah):Prop:=∃pins σ,Inv X pins σ H s/\∀b∈ex,bZ X pins H b/\b<s.heap.objs.size
def YT (X:Cx) (C:ah):af->ag->Prop:=λx s'=>∃m,s'.heap.Ns C m/\∀h',fv C s'.heap h'->∀cenv:Env,cenv.locals=C->wpAny (model X.prog X.w) X.A (passOn "comprehension.variables-let-go" x cenv:Sem af) (λ_ _=>False) X.xe { s' with heap:=h' }
def K4 (X:Cx) (s:ag) (H:Hp) (ex:List ah):af->ag->Prop:=λe s'=>Ent X s H ex->notedBy (model X.prog X.w) X.A X.env (YT X s.heap.objs.size) e s'
def jK (X:Cx) (scope:gh) (N:List Str) (s:ag) (H:Hp) (ex:List ah):Cx:={ bV X scope N s H ex with xe:=K4 X s H ex }
section
variable{X:Cx}{D:ah}
theorem YU {elt:bp}{gens:List jf}{sc:gh}{ps:Pos}{d:Nat}{it:ah}{tg:bp}{ifs:List bp}{p:Pos}{inner:Sem Unit}{g:TG}{tt:TT}{ti:TC}{J:It}{fp:List ah}{tn:Nat->cw->Prop}{R:xw->ag->Prop}
  (hE:∀e s',X.xe e s'->notedBy (model X.prog X.w) X.A X.env (λe s'=>R (.error e) s') e s') (hc:X.calm=true)
  (ht:compTurn (.ListComp elt gens sc ps) d (.ref it) (.ref D) X.env=iW p (.ref it) tg ifs X.env inner (.compLoop (.ListComp elt gens sc ps) d (.ref it) (.ref D) X.env))
  (hg:PG X tg g) (htt:PTs X ifs tt) (hi:PCl X D inner ti) (T:Turn X.prog X.w X.K tg J fp it tn)
  {pins:List (ah×Obj)}{s:ag}{σ:St}{H:Hp}{xs:List V}{K:St->Hp->List V->Prop}(I:Inv X pins σ H s) (a:AccAt s D xs) (f:bZ X pins H D) (st:tn 0 s.heap) (hf:∀b∈fp,bZ X pins H b) (hD:D∉fp)
  (h:mT J g tt ti K σ H xs) (hR:∀σ' H' xs' s',Inv X pins σ' H' s'->AccAt s' D xs'->H' D=none->K σ' H' xs'->R (.ok .next) s'):
  codeAny (model X.prog X.w) X.A (.compLoop (.ListComp elt gens sc ps) d (.ref it) (.ref D) X.env) R s:=by
 obtain⟨W,⟨m0,w0⟩,turn⟩:=h;have stat:∀{H':Hp},(∀b∈fp,H' b=none)->∀b∈fp,bZ X pins H' b:=λhn b hb=>⟨hn b hb,(hf b hb).2⟩
 have statD:∀{H':Hp},H' D=none->bZ X pins H' D:=λhn=>⟨hn,f.2⟩
 refine codeAny_loop rfl (λn s'=>∃i σ' H' xs',Inv X pins σ' H' s'/\AccAt s' D xs'/\H' D=none/\tn i s'.heap/\(∀b∈fp,H' b=none)/\W i n σ' H' xs') ?_ m0 ⟨0,σ,H,xs,I,a,f.1,st,λb hb=>(hf b hb).1,w0⟩
 rintro n s3 ⟨i,σ3,H3,xs3,I3,a3,n3,st3,fr3,w3⟩
 show wpAny _ X.A ((compTurn (.ListComp elt gens sc ps) d (.ref it) (.ref D) X.env).onRaise (λx=>do noteFrame x X.env;theTreesLotGoes x)) _ _ s3;rw[ht];refine wpAny_noted (jn (Q:=λfin s'=>match fin with | .done f=>R (.ok f) s' | .again c'=>c'=.compLoop (.ListComp elt gens sc ps) d (.ref it) (.ref D) X.env/\∃m,m<n/\∃i σ' H' xs',Inv X pins σ' H' s'/\AccAt s' D xs'/\H' D=none/\tn i s'.heap/\(∀b∈fp,H' b=none)/\W i m σ' H' xs') (E:=X.xe) ?_ (λ_ _ z=>z) λe s' z=>hE e s' z);unfold iW;refine aa (og (aa ?_));have I3':=I3.pinD a3 (statD n3);have fr3':∀b∈fp,bZ X (pins++fJ [D] s3.heap) H3 b:=λb hb=>by
  obtain⟨g0,g1,g2,g3,g4,g5⟩:=stat fr3 b hb;refine⟨g0,g1,g2,g3,g4,λp hp=>?_⟩
  rcases bq.mp hp with z|z
  ·exact g5 p (fy _ z)
  ·rcases bq.mp z with z|z
   ·exact g5 p (bo _ z)
   ·have:=(pZ z).1;have e:p.1=D:=by simpa using this
    rw[e];rintro rfl;exact hD hb
 rcases turn i n σ3 H3 xs3 w3 with⟨stop,qn⟩|⟨go,N,hN,step⟩
 ·refine aU (T.done X rfl rfl rfl hc i _ s3 σ3 H3 X.xe I3' fr3' st3 stop) λr s4 ⟨hr,I4⟩=>?_;subst hr;obtain⟨a4,n4⟩:=Inv.atD a3 I4;exact ai (hR σ3 H3 xs3 s4 I4.unpinned a4 n4 qn)
 ·refine aU (T.item X rfl rfl rfl hc i _ s3 σ3 H3 X.xe I3' fr3' st3 go) λr s4 ⟨u,hr,h4⟩=>?_;subst hr;refine aa (aU h4 λ_ s5 ⟨x,H5,I5,r5,y5,st5,fr5⟩=>?_);obtain⟨a5,n5⟩:=Inv.atD a3 I5;have I5u:=I5.unpinned;have I5p:=I5u.pinned (stat fr5) (T.obj _ _ st5);have fD5:bZ X (pins++fJ fp s5.heap) H5 D:=by
   obtain⟨g0,g1,g2,g3,g4,g5⟩:=statD n5;refine⟨g0,g1,g2,g3,g4,λp hp=>?_⟩
   rcases bq.mp hp with z|z
   ·exact g5 p (fy _ z)
   ·rcases bq.mp z with z|z
    ·exact g5 p (bo _ z)
    ·rintro rfl;exact hD (pZ z).1
  have I5':=I5p.pinD a5 fD5;refine aa (aU (hg _ s5 σ3 H5 x u _ I5' r5 (step x H5 y5)) λ_ s6 ⟨σ6,H6,I6,q6⟩=>?_);obtain⟨a6,n6⟩:=Inv.atD a5 I6;have pin':∀{s σ H},Inv X (pins++fJ fp s5.heap) σ H s->tn (i+1) s.heap/\∀b∈fp,H b=none:=λ{s σ H} J=>by refine⟨T.keep _ _ _ st5 λb hb o e=>(J.pin (b,o) (bo _ (bo _ (lL hb e)))).1,λb hb=>?_⟩;obtain⟨o,e,d⟩:=T.obj _ _ st5 b hb;exact(J.pin (b,o) (bo _ (bo _ (lL hb e)))).2.1
  have fD6:bZ X (pins++fJ fp s5.heap) H6 D:=⟨n6,fD5.2⟩
  have I6u:=I6.unpinned;have I6p:=I6u.pinD a6 fD6;refine aa (aU (htt _ s6 σ6 H6 _ I6p q6) λb s7 ⟨H7,I7,q7⟩=>?_);obtain⟨a7,n7⟩:=Inv.atD a6 I7;have I7u:=I7.unpinned;have fin:∀{s8 σ8 H8 xs8},Inv X (pins++fJ fp s5.heap) σ8 H8 s8->AccAt s8 D xs8->H8 D=none->N σ8 H8 xs8->
    ∃m,m<n/\∃i σ' H' xs',Inv X pins σ' H' s8/\AccAt s8 D xs'/\H' D=none/\tn i s8.heap/\(∀b∈fp,H' b=none)/\W i m σ' H' xs':=λ{s8 σ8 H8 xs8} J a8 n8 q8=>by
   obtain⟨m',hm,w8⟩:=hN σ8 H8 xs8 q8;obtain⟨t8,fr8⟩:=pin' J;exact⟨m',hm,i+1,σ8,H8,xs8,J.unpinned,a8,n8,t8,fr8,w8⟩
  cases b with
  |true=>
   rw[if_pos rfl]at q7 ⊢;have fD7:bZ X (pins++fJ fp s5.heap) H7 D:=⟨n7,fD5.2⟩
   refine aa (aU (hi _ s7 σ6 H7 xs3 N I7u a7 fD7 q7) λ_ s8 ⟨σ8,H8,xs8,I8,a8,n8,q8⟩=>?_);exact ai ⟨rfl,fin I8 a8 n8 q8⟩
  |false=>rw[if_neg fz]at q7 ⊢;exact ai ⟨rfl,fin I7u a7 n7 q7⟩
end
section
variable{X:Cx}
theorem YV {elt:bp}{sc:gh}{ps:Pos}{tg iter:bp}{ifs:List bp}{wi:TI}{g:TG}{tt:TT}{te:TE}{N:List Str}{cap:List (Option Nat)}
  (hc:X.calm=true) (C:CapOk X sc N cap) (hi:PI X tg iter wi) (hg:∀s H ex,PG (jK X sc N s H ex) tg g) (htt:∀s H ex,PTs (jK X sc N s H ex) ifs tt) (hel:∀s H ex,PE (jK X sc N s H ex) elt te)
  (hs:∀x,foldedSetIterable iter X.env x=pure x):PE X (.ListComp elt [⟨tg,iter,ifs,0⟩] sc ps) (qI wi cap g tt (qG te)):=by
 intro pins s σ H Q I h;rw[eval_ListComp];have hcl:closureFor sc X.env=pure (cS X.env sc.names []):=uB λx hx=>I.ok.has x (C.free x hx);refine rf (use:=none) (g:=⟨tg,iter,ifs,0⟩) (gs:=[]) rfl hs hcl C.kind C.nd (aU (hi pins s σ H _ I h) λv s1 h1=>aU h1 λitv s2 h2=>?_);obtain⟨it,fp,tn,J,H2,e,I2,T,st2,f2,lp⟩:=h2;subst e;refine fg (F5 ?_);dsimp only;generalize hs3:({ s2 with heap:=s2.heap.push { cls:=.type "list",dict:=none,data:=.seq ([]:List af).toArray } }:ag)=s3;have kp:∀b o,s2.heap.get? b=some o->s3.heap.get? b=some o:=λb o e=>by rw[<-hs3];exact aj _ e
 have I3:Inv X pins σ H2 s3:=by rw[<-hs3];exact I2.kept (t':=s2.toks) λb o e=>aj _ e
 have eD:s3.heap.get? s2.heap.objs.size=some { cls:=.type "list",data:=.seq ([]:List af).toArray 0 }:=by rw[<-hs3];exact ay _ rfl
 have nD:H2 s2.heap.objs.size=none:=I2.hok.fresh (ak _);have fD:bZ X pins H2 s2.heap.objs.size:=I2.fpOk (ak _) nD;have hlt:s2.heap.objs.size<s3.heap.objs.size:=ao eD;have hex:∀b∈s2.heap.objs.size::fp,bZ X pins H2 b/\b<s3.heap.objs.size:=λb hb=>by
  rcases bg.mp hb with rfl|hb
  ·exact⟨fD,hlt⟩
  ·obtain⟨o,e,_⟩:=T.obj 0 _ st2 b hb;exact⟨f2 b hb,ao (kp b o e)⟩
 have hDfp:s2.heap.objs.size∉fp:=λz=>by obtain⟨o,e,_⟩:=T.obj 0 _ st2 _ z;exact fj _ (ao e)
 have I4:=(F7 (N:=N) (ex:=s2.heap.objs.size::fp) I3 C hex).reXe (K4 X s3 H2 (s2.heap.objs.size::fp));have F4:=F8 (N:=N) I3 C hex;have st4:tn 0 (pushCells (s3.heap.push { cls:=.type "dict",data:=.dict #[] }) sc.names):=T.keep 0 _ _ st2 λb hb o e=>ka _ _ _ _ (aj _ (kp b o e));have a4:AccAt { s3 with heap:=pushCells (s3.heap.push { cls:=.type "dict",data:=.dict #[] }) sc.names } s2.heap.objs.size []:=⟨iu _,[],0,.nil,ka _ _ _ _ (aj _ eD)⟩
 have loop:codeAny (model X.prog X.w) X.A (.compLoop (.ListComp elt [⟨tg,iter,ifs,0⟩] sc ps) 0 (.ref it) (.ref s2.heap.objs.size) (jK X sc N s3 H2 (s2.heap.objs.size::fp)).env) (compPost (model X.prog X.w) X.A X.xe none (EP X pins σ Q) (.ref s2.heap.objs.size) s3.heap.objs.size)
   { s3 with heap:=pushCells (s3.heap.push { cls:=.type "dict",data:=.dict #[] }) sc.names }:=by
  refine YU (X:=jK X sc N s3 H2 (s2.heap.objs.size::fp)) (λe s' z=>?_) hc (zD elt tg iter ifs sc ps (.ref it) _ _) (hg _ _ _) (htt _ _ _) (qH (hel _ _ _)) T I4 a4 (F4 _ (bh ..)) st4 (λb hb=>F4 b (av _ hb)) hDfp lp λσ' H' xs' s' I' a' n' k'=>?_
  ·exact z ⟨pins,σ,I3,hex⟩
  ·have I'':Inv (bV X sc N s3 H2 (s2.heap.objs.size::fp)) pins σ' H' s':=I'.reXe _;obtain⟨m,hn,_⟩:=I''.loc;refine⟨m,hn,λh' hh=>?_⟩;have I5:=zC I3 hex I'' hh;obtain⟨hz,its,n,r,eD⟩:=a';have eD':h'.get? s2.heap.objs.size=some { cls:=.type "list",data:=.seq its.toArray n }:=(hh.2 _ (bc hlt)).trans eD;exact⟨.ref s2.heap.objs.size,aM H' s2.heap.objs.size (.lst xs'),I5.adopt ⟨n',fD.2⟩ (dk I2.sz (ak _)) ⟨hz,its,n,r,eD'⟩,rfl,k' _ n'⟩
 subst hs3;exact zE rfl loop (T.self _ 0 _ _ _ st4 loop)
end
end L2
namespace L2.Mr
open PySem PySem.Spec PyProof.Rows
def kB (T:ah) (h:cw):Prop:=∃oT ts,h.get? T=some oT/\oT.data=.fields ts/\3<ts.size
theorem BC {P:bj}{w:cq}{H:Hp}{h:cw}{T:ah}(x:kB T h):ObjOk P w H h T (.ext (kB T)):=⟨x,(let ⟨oe,_,he,_⟩:=x;⟨oe,he⟩),λ_ _ ⟨oe,vs,he,r⟩ k=>⟨oe,vs,k oe he,r⟩⟩
section
variable{M:vq}{A:cu}{E:af->ag->Prop}{s:ag}{base:cw}{env:Env}{outer:List Env}{L e T:ah}{C a0:af}{Q:Unit->ag->Prop}
theorem YW (hfr:A.frames=some (env::outer)) (hl:s.heap.FunFrames base (env::outer)) (hf:env.frame=some L)
  (hx:cD C e T a0 s.heap) (ht:cQ T s.heap) (hne:T≠e)
  (k:∀h' T',s.heap.objs.size<=T'->(∀b o,b≠e->b≠T->b∉cH (env::outer)->s.heap.get? b=some o->h'.get? b=some o)->(∀b o,b≠e->b≠T->s.heap.get? b=some o->∃sl,h'.get? b=some { o with slots:=sl })->
   cD C e T' a0 h'->cQ T h'->kB T' h'->Q () { s with heap:=h' }):wpAny M A (noteFrame (.ref e) env) Q E s:=by
 obtain⟨oe,vs,he,rfl,hd,h0,h1,hdn⟩:=hx;obtain⟨oT,ts,hT,hdT,h3⟩:=ht;have l3:3<ts.size:=(cj.mp h3).1;have l1:1<vs.size:=(cj.mp h1).1;have nT:=qU hl hT hdT;have ne:=qU hl he hd;unfold noteFrame;rw[hf];refine aa (di he hd h1 ?_);rw[if_pos (by simp)];refine aa (di hT hdT h3 ?_);rw[if_neg (by simp[rawInt])];refine aa (nE hT hdT l3 λg o' sb gT _ _ dT=>?_);have hl':g.FunFrames base (env::outer):=hl.of_keeps λb o q nf=>⟨o,sb.extBut _ _ (λz=>by subst z;rw[hT]at q;cases q;exact nf ts hdT) q,rfl⟩
 refine aa (wpAny_frameOf_fun (s:={ s with heap:=g }) hfr hl' hf λg1 so=>aa (wpAny_entryPlaceOf λpl hpl=>aa (HC hpl λob ts' dt hts nf=>?_)));have he':g.get? e=some oe:=sb.extBut _ _ (cy hne) he;have e1:g1.get? e=some oe:=(so.2.1 e ne).trans he';have lt:e<g1.objs.size:=ao e1;refine nE (s:={ s with heap:=g1.push ob }) (aj _ e1) hd l1 λg2 oe2 sb2 ge c2 dn2 d2=>?_;have gT':g2.get? g1.objs.size=some ob:=sb2.extBut _ _ (ig lt) (ay _ nf);have kp:∀b o,b≠e->g1.get? b=some o->g2.get? b=some o:=λb o hb q=>sb2.extBut _ _ hb (aj _ q);refine k g2 g1.objs.size (by rw[<-sb.1];exact lr so.1.symm) (λb o n1 n2 n3 q=>kp b o n1 ((so.2.1 b n3).trans (sb.extBut _ _ n2 q))) (λb o n1 n2 q=>?_) ⟨oe2,_,ge,c2,d2, ?_, ?_,dn2.trans hdn⟩ ⟨_,_,kp T _ hne ((so.2.1 T nT).trans gT),dT, ?_⟩ ⟨ob,ts',gT',dt,hts⟩
 ·obtain⟨sl,q'⟩:=so.2.2 b o (sb.extBut _ _ n2 q);exact⟨sl,kp b _ n1 q'⟩
 ·rw[uj (by decide)];exact h0
 ·rw[df l1]
 ·rw[df l3]
theorem YX (hfr:A.frames=some (env::outer)) (hl:s.heap.FunFrames base (env::outer)) (hf:env.frame=some L)
  (hx:cD C e T a0 s.heap) (ht:kB T s.heap) (hne:T≠e) (k1:∀h',fv T s.heap h'->cQ T h'->Q () { s with heap:=h' })
  (k:∀h' T',s.heap.objs.size<=T'->(∀b o,b≠e->b≠T->b∉cH (env::outer)->s.heap.get? b=some o->h'.get? b=some o)->(∀b o,b≠e->b≠T->s.heap.get? b=some o->∃sl,h'.get? b=some { o with slots:=sl })->
   cD C e T' a0 h'->cQ T h'->cQ T' h'->Q () { s with heap:=h' }):
  wpAny M A (noteFrame (.ref e) env) (λ_ s'=>wpAny M A (setFlight (.ref e) none) Q E s') E s:=by
 obtain⟨oe,vs,he,rfl,hd,h0,h1,hdn⟩:=hx;obtain⟨oT,ts,hT,hdT,l3⟩:=ht;have nT:=qU hl hT hdT;unfold noteFrame;rw[hf];refine aa (di he hd h1 ?_);rw[if_pos (by simp)];refine aa (di hT hdT (dz l3) ?_)
 by_cases hv:(ts[3]==rawInt L)=true
 ·rw[if_pos hv];exact ai (zT he hd h1 hT hdT l3 k1)
 ·rw[if_neg hv];refine aa (nE hT hdT l3 λg o' sb gT _ _ dT=>?_);have hl':g.FunFrames base (env::outer):=hl.of_keeps λb o q nf=>⟨o,sb.extBut _ _ (λz=>by subst z;rw[hT]at q;cases q;exact nf ts hdT) q,rfl⟩
  refine zU (s:={ s with heap:=g }) hfr hl' hf (sb.extBut _ _ (cy hne) he) hd hdn (cj.mp h1).1 h0 λh' T' c x=>?_;refine k h' T' (by rw[<-sb.1];exact c.new) (λb o n1 n2 n3 q=>c.keep b o n1 n3 (sb.extBut _ _ n2 q)) (λb o n1 n2 q=>c.slot b o n1 (sb.extBut _ _ n2 q)) x ⟨_,_,c.keep T _ hne nT gT,dT, ?_⟩ c.tb;rw[df l3]
end
theorem K5 {P:bj}{w:cq}{fs:List ah}{h h':cw}{H:Hp}{e T T':ah}{ψ0 ψ ψe ψ':cw->Prop}(hok:HOk P w H h) (hfree:∀b∈fs,H b=none) (he:H e=some (.ext ψ0)) (hT:H T=some (.ext ψ)) (hnew:h.objs.size<=T')
  (keep:∀b o,b≠e->b≠T->b∉fs->h.get? b=some o->h'.get? b=some o) (slot:∀b o,b≠e->b≠T->h.get? b=some o->∃sl,h'.get? b=some { o with slots:=sl })
  (oke:∀H',ObjOk P w H' h' e (.ext ψe)) (okT:∀H',ObjOk P w H' h' T (.ext ψ)) (okT':∀H',ObjOk P w H' h' T' (.ext ψ')):
  Un fs [] H (aM (aM H e (.ext ψe)) T' (.ext ψ')) h h'/\HOk P w (aM (aM H e (.ext ψe)) T' (.ext ψ')) h'/\kZ e H (aM (aM H e (.ext ψe)) T' (.ext ψ'))/\T'≠e/\H T'=none:=by
 have nT':H T'=none:=hok.fresh hnew;have eT':T'≠e:=(cW he nT').symm;have sx:kZ e H (aM (aM H e (.ext ψe)) T' (.ext ψ')):=λb o hbe q=>by rw[bA (cW q nT'),bA hbe];exact q
 refine⟨⟨λb o q n hb _=>keep b o (cW he n).symm (cW hT n).symm hb q,λb o q n _ _=>slot b o (cW he n).symm (cW hT n).symm q,λb o q n _=>?_,λb o q _=>?_,λb xs q=>?_,λb o u q=>?_,λb ps q=>?_⟩, ?_,sx,eT',nT'⟩
 ·rw[bA (bc (ar (ao q) hnew)),bA (cW he n).symm];exact n
 ·by_cases h1:b=e
  ·subst h1;exact oU (oke H)
  ·by_cases h2:b=T
   ·subst h2;exact oU (okT H)
   ·obtain⟨sl,z⟩:=slot b o h1 h2 q;exact⟨_,z⟩
 ·exact sx b _ (eO q he (by intro z;cases z)) q
 ·exact sx b _ (eO q he (by intro z;cases z)) q
 ·exact⟨#[],by rw[sx b _ (eO q he (by intro z;cases z)) q];simp⟩
 ·intro a o q
  by_cases h1:a=T'
  ·subst h1;rw[bT]at q;cases q;exact okT' _
  ·rw[bA h1]at q
   by_cases h2:a=e
   ·subst h2;rw[bT]at q;cases q;exact oke _
   ·rw[bA h2]at q
    by_cases h3:a=T
    ·subst h3;rw[hT]at q;cases q;exact okT _
    ·have nf:a∉fs:=λz=>by rw[hfree a z]at q;cases q
     refine(hok a o q).stay (λb u hb z=>?_) (λb z=>sx b _ (eO z he (by intro y;cases y)) z) λb xs z=>sx b _ (eO z he (by intro y;cases y)) z
     rcases hb with rfl|hb
     ·exact keep b u h2 h3 nf z
     ·exact keep b u (eO hb he (by intro y;cases y)) (eO hb hT (by intro y;cases y)) (λy=>by rw[hfree b y]at hb;cases hb) z
theorem K6 {P:bj}{w:cq}{fs:List ah}{h h':cw}{H:Hp}{T:ah}{ψ ψ':cw->Prop}(hok:HOk P w H h) (hT:H T=some (.ext ψ)) (sb:fv T h h') (okT:∀H',ObjOk P w H' h' T (.ext ψ')):
  Un fs [] H (aM H T (.ext ψ')) h h'/\HOk P w (aM H T (.ext ψ')) h':=by
 have sx:∀b o,b≠T->H b=some o->aM H T (.ext ψ') b=some o:=λb o hb q=>by rw[bA hb];exact q
 refine⟨⟨λb o q n _ _=>sb.extBut b o (cW hT n).symm q,λb o q n _ _=>⟨o.slots,sb.extBut b o (cW hT n).symm q⟩,λb o q n _=>?_,λb o q _=>?_,λb xs q=>?_,λb o u q=>?_,λb ps q=>?_⟩, ?_⟩
 ·rw[bA (cW hT n).symm];exact n
 ·by_cases h1:b=T
  ·subst h1;exact oU (okT H)
  ·exact⟨o,sb.extBut b o h1 q⟩
 ·exact sx b _ (eO q hT (by intro z;cases z)) q
 ·exact sx b _ (eO q hT (by intro z;cases z)) q
 ·exact⟨#[],by rw[sx b _ (eO q hT (by intro z;cases z)) q];simp⟩
 ·intro a o q
  by_cases h1:a=T
  ·subst h1;rw[bT]at q;cases q;exact okT _
  ·rw[bA h1]at q;refine(hok a o q).stay (λb u hb z=>?_) (λb z=>sx b _ (eO z hT (by intro y;cases y)) z) λb xs z=>sx b _ (eO z hT (by intro y;cases y)) z
   rcases hb with rfl|hb
   ·exact sb.extBut _ _ h1 z
   ·exact sb.extBut _ _ (eO hb hT (by intro y;cases y)) z
def BD (base:cw) (H0 H:Hp) (C:af) (e:ah):Prop:=∃T a0 T',H0 e=some (.ext (cD C e T a0))/\(∃h,cD C e T a0 h)/\H e=some (.ext (cD C e T' a0))/\H T'=some (.ext (kB T'))/\H0 T'=none/\base.get? e=none/\T'≠e/\kZ e H0 H
section
variable{P:bj}{w:cq}{M:vq}{A:cu}{E:af->ag->Prop}{s:ag}{H H0:Hp}{base:cw}{env:Env}{outer:List Env}{L e:ah}{C:af}{Q:Unit->ag->Prop}
theorem YY (hfr:A.frames=some (env::outer)) (hl:s.heap.FunFrames base (env::outer)) (hf:env.frame=some L) (hok:HOk P w H s.heap) (hfree:∀b∈cH (env::outer),H b=none) (fl:oV base H C e)
  (k:∀h' H',Un (cH (env::outer)) [] H H' s.heap h'->HOk P w H' h'->BD base H H' C e->Q () { s with heap:=h' }):wpAny M A (noteFrame (.ref e) env) Q E s:=by
 obtain⟨T,a0,he,hT,hb,hne⟩:=fl;have xe:cD C e T a0 s.heap:=(show ObjOk P w H s.heap e _ from hok e _ he).1;have xt:cQ T s.heap:=(show ObjOk P w H s.heap T _ from hok T _ hT).1;refine YW hfr hl hf xe xt hne λh' T' hnew keep slot x' t0 t'=>?_;obtain⟨un,hok',sx,eT',nT'⟩:=K5 (ψe:=cD C e T' a0) (ψ':=kB T') hok hfree he hT hnew keep slot (λ_=>uX x') (λ_=>nF t0) (λ_=>BC t');exact k h' _ un hok' ⟨T,a0,T',he,⟨_,xe⟩,by rw[bA (cy eT'),bT],bT,nT',hb,eT',sx⟩
theorem YZ (hfr:A.frames=some (env::outer)) (hl:s.heap.FunFrames base (env::outer)) (hf:env.frame=some L) (hok:HOk P w H s.heap) (hfree:∀b∈cH (env::outer),H b=none) (fl:BD base H0 H C e)
  (k:∀h' H',Un (cH (env::outer)) [] H H' s.heap h'->HOk P w H' h'->oV base H' C e->kZ e H0 H'->Q () { s with heap:=h' }):
  wpAny M A (noteFrame (.ref e) env) (λ_ s'=>wpAny M A (setFlight (.ref e) none) Q E s') E s:=by
 obtain⟨T0,a0,T,h0,x0,he,hT,n0,hb,hne,sx0⟩:=fl;have xe:cD C e T a0 s.heap:=(show ObjOk P w H s.heap e _ from hok e _ he).1;have xt:kB T s.heap:=(show ObjOk P w H s.heap T _ from hok T _ hT).1;refine YX hfr hl hf xe xt hne (λh' sb t'=>?_) λh' T' hnew keep slot x' t0 t'=>?_
 ·obtain⟨un,hok'⟩:=K6 (fs:=cH (env::outer)) (ψ':=cQ T) hok hT sb (λ_=>nF t');exact k h' _ un hok' ⟨T,a0,by rw[bA (cy hne)];exact he,bT,hb,hne⟩ λb o hbe q=>by rw[bA (cW q n0)];exact sx0 b o hbe q
 ·obtain⟨un,hok',sx,eT',nT'⟩:=K5 (ψe:=cD C e T' a0) (ψ':=cQ T') hok hfree he hT hnew keep slot (λ_=>uX x') (λ_=>BC (let ⟨a,b,c,d,f⟩:=t0;⟨a,b,c,d,(cj.mp f).1⟩)) (λ_=>nF t');exact k h' _ un hok' ⟨T',a0,by rw[bA (cy eT'),bT],bT,hb,eT'⟩ λb o hbe q=>sx b o hbe (sx0 b o hbe q)
end
def BE (X:Cx) (E:XK):Prop:=∀(pins:List (ah×Obj)) (σ:St) (H0 H:Hp) (s:ag) (e:ah) (C:af),Inv X pins σ H s->BD X.base H0 H C e->E (.ref e) none H0->X.xe (.ref e) s
section
variable{P:bj}{w:cq}{K:aq}{mg:Str->Option af}{base:cw}{N:List Str}{qual:Str}{scope:gh}{f:ah}{cdv:af}{A:cu}{outer:List Env}{s0:ag}{H0:Hp}{E0:XK}{G:Cfg}{E:XK}{k:Nat}
theorem Y0 (hE:∀u H',E u none H'->E0 u none H') (hF:uY E):BE (eE (bF P w base) P w K mg base N qual scope f cdv A outer s0 H0 E0) E:=by intro pins σ Hb H s e C I fb he;refine aa (YZ (P:=P) (w:=w) (H:=H) (base:=base) I.ok.frames I.stack rfl I.hok I.stkFree fb λh'' H'' un2 hok2 fl2 sx=>?_);have I2:=I.call (h':=h'') (g':=s.gens) (d':=s.drawn) (t':=s.toks) un2 hok2 I.bare (λb z=>absurd z (by simp));obtain⟨T,a0,T1,h1,x1,_⟩:=id fb;obtain⟨T2,a2,h3,_⟩:=id fl2;exact⟨e,C,H'',rfl,I2.os,I2.bare,I2.base,hok2,fl2,hE _ _ (hF e Hb H'' sx ⟨C,T,a0,T2,a2,h1,x1,h3⟩ he)⟩
theorem Y1 {X:Cx}{sc:gh}{N':List Str}{s:ag}{H:Hp}{ex:List ah}(hs:X.stack=X.env::X.outer) (hf:X.env.frame=some X.env.locals) (pc:BE X E):qC (bF X.prog X.w X.base) (jK X sc N' s H ex) E:=by
 intro pins σ1 H1 s1 u s' I1 ⟨e,C,H',eu,os,bare,un,hok,fl,he⟩ ⟨pins0,σ0,I0,hex⟩;subst eu;have I':=I1.call' os un hok bare (λb z=>absurd z (by simp));have fr:X.A.frames=some (X.env::X.outer):=by rw[<-hs];exact I0.ok.frames
 have stk:s'.heap.FunFrames X.base (X.env::X.outer):=by rw[<-hs];exact I'.stack
 refine YY (P:=X.prog) (w:=X.w) (base:=X.base) fr stk hf hok (by rw[<-hs];exact I'.stkFree) fl λh'' H'' un2 hok2 fb=>?_;have I2:Inv (jK X sc N' s H ex) pins σ1 H'' { s' with heap:=h'' }:=I'.call (h':=h'') (g':=s'.gens) (d':=s'.drawn) (t':=s'.toks) (by rw[show(jK X sc N' s H ex).stack=X.stack from rfl,hs];exact un2) hok2 I'.bare (λb z=>absurd z (by simp));have I2b:Inv (bV X sc N' s H ex) [] σ1 H'' { s' with heap:=h'' }:=Inv.reXe (X:=jK X sc N' s H ex) (λ_ _=>False) (I2.pins_of λ_ z=>nomatch z);obtain⟨m,hn,_⟩:=I2b.loc;refine⟨m,hn,λh3 hh cenv _=>?_⟩;have I3:=zC (I0.pins_of (pins':=[]) λ_ z=>nomatch z) (λb hb=>⟨(let ⟨f0,f1,f2,f3,f4,f5⟩:=(hex b hb).1;⟨f0,f1,f2,f3,f4,λp hp=>f5 p (by simp at hp;exact fy _ hp)⟩),(hex b hb).2⟩) I2b hh;obtain⟨T,a0,T',g1,g2,g3,g4,g5,g6,g7,g8⟩:=id fb;have xe:cD C e T' a0 h3:=(show ObjOk X.prog X.w H'' h3 e _ from I3.hok e _ g3).1;have xt:kB T' h3:=(show ObjOk X.prog X.w H'' h3 T' _ from I3.hok T' _ g4).1;obtain⟨oe,vs,xh,rfl,hd,h0,h1,hdn⟩:=xe;obtain⟨oT,ts,hT,hdT,l3⟩:=xt;unfold PySem.passOn;refine aa (di (s:={ s' with heap:=h3 }) xh hd h1 ?_);rw[if_neg (by simp)];refine aa (aa (di (s:={ s' with heap:=h3 }) xh hd h1 ?_));rw[if_pos (by simp)];refine nE (s:={ s' with heap:=h3 }) hT hdT l3 λh4 oT4 sb gT _ _ dT=>?_;have ok4:kB T' h4:=⟨oT4,_,gT,dT,by simpa using l3⟩
 obtain⟨un4,hok4⟩:=K6 (fs:=cH X.stack) (ψ':=kB T') I3.hok g4 sb (λ_=>BC ok4);have e4:aM H'' T' (.ext (kB T'))=H'':=funext λb=>by
  by_cases hb:b=T'
  ·subst hb;rw[bT,g4]
  ·rw[bA hb]
 rw[e4]at un4 hok4;have I4:=I3.call (h':=h4) (g':=s'.gens) (d':=s'.drawn) (t':=s'.toks) un4 hok4 I'.bare (λb z=>absurd z (by simp));exact wpAny_throw (pc [] σ0 H' H'' _ e _ I4 fb he)
theorem Y2 {X:Cx}{F:List Dv->Hs->Rs Dv}{ps:List Str}{fd:bu}{x:Str}{p pos:Pos}{e:bp}{es:List bp}{ms:M (List Dv)}{j:Nat}(hr:Room k X.A) (hp:qC (bF X.prog X.w X.base) X E) (Fn:FnOk X.prog X.w X.K X.mg X.base (bF X.prog X.w X.base) j f fd ps (cF G F)) (hj:j<=k)
  (hg:Gl X x) (hm:X.mg x=some (.ref f)) (hk:jv X.K (.ref f)=true) (hb:Binds X.K fd ps []) (ha:dQ X G E (e::es) ms)
  (hdb:(x==("__debug__" : Str))=false:=by decide) (he:au (e::es) X.env=(false,eval e X.env)::au es X.env:=by rfl) (hpl:(backTo pos (au es X.env)).any (·.1)=false:=by rfl):
  aH X G E (.Call (.Name x p) (e::es) [] pos) (aF F ms):=λhK=>
 PE.imp (E7 Fn (hr.mono hj) hg hm hk hb .nil hp (ha hK) hdb he hpl) λσ H Q ⟨μ,ρ,h,rs,s,o⟩=>iX rs s o λμ1 ds1 h1 vs H1 x1 rs1 s1 r1 o1=>by rw[jg];exact⟨μ1,h1,ds1,r1,s1,o1⟩
end
def iA (src:Src) (st:cG) (test:M Bool) (me:M Dv):Nat->Nat->Ev->Hs->List Dv->Rs (List Dv)
 |0,_=>λρ h acc=>if src.fin h=true then .ok acc h else .bad
 |f+1,k=>λρ h acc=>match src.get k h with
  |none=>.bad
  |some d=>match st d ρ with
   |none=>.bad
   |some ρ1=>(test ρ1 h).bind λb h2=>if b=true then(me ρ1 h2).bind λd h3=>if acc.length<1000000 then iA src st test me f (k+1) ρ1 h3 (acc++[d])else .bad else iA src st test me f (k+1) ρ1 h2 acc
def mK (mi:M Src) (cap:List (Option Nat)) (st:cG) (test:M Bool) (me:M Dv):M (List Dv):=λρ h=>(mi ρ h).bind λsrc h1=>iA src st test me src.n 0 (fQ cap ρ) h1 []
theorem BF {src:Src}{st:cG}{test:M Bool}{me:M Dv}:∀(f k:Nat) (ρ ρ':Ev) (h h':Hs) (acc xs:List Dv),eK src st test (bP me) f k ρ h acc=.ok (ρ',xs) h'->iA src st test me f k ρ h acc=.ok xs h'
 |0,k,ρ,ρ',h,h',acc,xs,e=>by
  unfold eK at e;unfold iA
  split at e
  ·rename_i hf;cases e;rw[if_pos hf]
  ·cases e
 |f+1,k,ρ,ρ',h,h',acc,xs,e=>by
  unfold eK at e;unfold iA
  cases q:src.get k h with
  |none=>rw[q]at e;cases e
  |some d=>
   rw[q]at e;dsimp only at e ⊢
   cases q2:st d ρ with
   |none=>rw[q2]at e;cases e
   |some ρ1=>
    rw[q2]at e;dsimp only at e ⊢
    cases q3:test ρ1 h with
    |bad=>rw[q3]at e;cases e
    |ex c h1=>rw[q3]at e;cases e
    |ok b h2=>
     rw[q3]at e;show(if b=true then _ else _)=_
     cases b with
     |false=>rw[if_neg (by decide)];exact BF f (k+1) _ _ _ _ _ _ e
     |true=>
      rw[if_pos rfl];dsimp only[bP]at e
      cases q4:me ρ1 h2 with
      |bad=>rw[q4]at e;cases e
      |ex c h1=>rw[q4]at e;cases e
      |ok d2 h3=>
       rw[q4]at e;dsimp only at e;show(if acc.length<1000000 then _ else _)=_
       by_cases hl:acc.length<1000000
       ·rw[if_pos hl]at e ⊢;exact BF f (k+1) _ _ _ _ _ _ e
       ·rw[if_neg hl]at e;cases e
theorem Y3 {mi:M Src}{cap:List (Option Nat)}{st:cG}{test:M Bool}{me:M Dv}{ρ:Ev}{h h':Hs}{xs:List Dv}(e:cB mi cap st test (bP me) ρ h=.ok xs h'):mK mi cap st test me ρ h=.ok xs h':=by
 unfold cB at e;unfold mK
 cases q:mi ρ h with
 |bad=>rw[q]at e;cases e
 |ex c h1=>rw[q]at e;cases e
 |ok src h1=>
  show iA src st test me src.n 0 (fQ cap ρ) h1 []=_;rw[q,Rs.bind_ok]at e
  cases q2:eK src st test (bP me) src.n 0 (fQ cap ρ) h1 []with
  |bad=>rw[q2]at e;cases e
  |ex c h2=>rw[q2]at e;cases e
  |ok r h2=>rw[q2]at e;cases e;exact BF _ _ _ _ _ _ _ _ q2
theorem Y4 {mi:M Src}{cap:List (Option Nat)}{st:cG}{test:M Bool}{me:M Dv}{ρ ρ1:Ev}{h h1 h2:Hs}{src:Src}{n c:Nat}{d:Dv}(e1:mi ρ h=.ok src h1) (e2:src.n=n+1) (e3:src.get 0 h1=some d) (e4:st d (fQ cap ρ)=some ρ1) (e5:test ρ1 h1=.ex c h2):mK mi cap st test me ρ h=.ex c h2:=by unfold mK;rw[e1];show iA src st test me src.n 0 (fQ cap ρ) h1 []=_;rw[e2];unfold iA;rw[e3];dsimp only;rw[e4];dsimp only;rw[e5];rfl
theorem Out.at {α β:Type}{G:Cfg}{E:XK}{μ:Nat->ah}{n:Nat}{H H':Hp}{r:Rs α}{R:(Nat->ah)->Nat->Hp->α->β->Prop}{Q:β->Hp->Prop}(o:Out G E μ n H r R Q) (x:Ext μ n H μ n H'):Out G E μ n H' r R Q:=by
 cases r with
 |bad=>exact o
 |ex c h'=>exact λμ' H1 u x1=>o μ' H1 u (x.trans x1)
 |ok d h'=>exact λμ' H1 u x1=>o μ' H1 u (x.trans x1)
section
variable{G:Cfg}
theorem Y5 {E:XK}{src:Src}{st:cG}{test:M Bool}{me:M Dv}{J:It}{μ1:Nat->ah}{h1:Hs}{H1:Hp}{ρ:Ev}{σ:St}{xs:List Dv}{vs:List V}{Q:VK}
  (ok:ItOk G μ1 h1.length H1 src J) (rs:RelS G μ1 h1.length H1 ρ σ) (s1:Sim G μ1 h1 H1) (r:RelDL G μ1 h1.length H1 xs vs) (o:Out G E μ1 h1.length H1 (iA src st test me src.n 0 ρ h1 xs) (RL G) Q):
  mT J (mZ G st) (fP G E test) (qG (fO G E me)) (λ_ H' vs=>∀p,H' p=none->Q (.ref p) (aM H' p (.lst vs))) σ H1 vs:=by
 refine⟨λi m σ H vs=>∃μ2 ρ2 h2 xs2,Ext μ1 h1.length H1 μ2 h2.length H/\RelS G μ2 h2.length H ρ2 σ/\Sim G μ2 h2 H/\RelDL G μ2 h2.length H xs2 vs/\i+m=src.n/\Out G E μ2 h2.length H (iA src st test me m i ρ2 h2 xs2) (RL G) Q,⟨src.n,μ1,ρ,h1,xs,Ext.refl,rs,s1,r,Ai _,o⟩, ?_⟩
 rintro i m σ2 H2 vs2 ⟨μ2,ρ2,h2,xs2,x2,rs2,s2,r2,him,o2⟩
 cases m with
 |zero=>
  unfold iA at o2
  split at o2
  ·rename_i hf;exact .inl ⟨(ok i μ2 _ H2 x2 s2).2 (by omega) hf,λp hp=>o2 μ2 _ _ (Ext.same (cJ hp)) (s2.same (cJ hp)) ⟨p,vs2,rfl,bT,s2.not hp,RelDL.mono (Ext.same (cJ hp)) _ _ r2⟩⟩
  ·exact o2.elim
 |succ m=>
  unfold iA at o2
  cases q:src.get i h2 with
  |none=>rw[q]at o2;exact o2.elim
  |some d=>
   rw[q]at o2;dsimp only at o2
   cases q2:st d ρ2 with
   |none=>rw[q2]at o2;exact o2.elim
   |some ρ3=>
    rw[q2]at o2;dsimp only at o2;obtain⟨go,yl⟩:=(ok i μ2 h2 H2 x2 s2).1 (by omega) d q;refine .inr ⟨go,λσ' H' vs'=>∃μ3 ρ4 h4 xs4,Ext μ1 h1.length H1 μ3 h4.length H'/\RelS G μ3 h4.length H' ρ4 σ'/\Sim G μ3 h4 H'/\RelDL G μ3 h4.length H' xs4 vs'/\(i+1)+m=src.n/\Out G E μ3 h4.length H' (iA src st test me m (i+1) ρ4 h4 xs4) (RL G) Q,
     λσ' H' vs' z=>⟨m,ic m,z⟩,λx H' hy=>?_⟩
    obtain⟨sm,rx⟩:=yl x H' hy;have xsm:Ext μ2 h2.length H2 μ2 h2.length H':=Ext.same sm;refine⟨μ2,ρ2,h2.length,d,ρ3,rs2.mono xsm,rx,q2,λσ3 rs3=>⟨μ2,ρ3,h2,rs3,s2.same sm,((o2.at xsm).bind (R1:=RB)).mono λb H4 ⟨μ4,b',h4,x4,s4,rb,o4⟩=>?_⟩⟩;have eb:b=b':=rb;subst eb
    cases b with
    |false=>rw[if_neg (by decide)]at o4 ⊢;exact⟨μ4,ρ3,h4,xs2,(x2.trans xsm).trans x4,rs3.mono x4,s4,RelDL.mono (xsm.trans x4) _ _ r2,by omega,o4⟩
    |true=>
     rw[if_pos rfl]at o4 ⊢;refine⟨μ4,ρ3,h4,rs3.mono x4,s4,(o4.bind (R1:=RelD G)).mono λv H5 ⟨μ5,d5,h5,x5,s5,r5,o5⟩=>?_⟩
     split at o5
     ·rename_i hl;refine⟨?_,μ5,ρ3,h5,xs2++[d5],((x2.trans xsm).trans x4).trans x5,(rs3.mono x4).mono x5,s5,(RelDL.mono ((xsm.trans x4).trans x5) _ _ r2).append (RelDL.cons r5 RelDL.nil),by omega,o5⟩;rw[r2.length];exact ar hl (by decide)
     ·exact o5.elim
theorem Y6 {E:XK}{mi:M Src}{cap:List (Option Nat)}{st:cG}{test:M Bool}{me:M Dv}{σ:St}{H:Hp}{Q:VK}(t:qT G E (mK mi cap st test me) σ H Q):qI (uS G E mi) cap (mZ G st) (fP G E test) (qG (fO G E me)) σ H Q:=by obtain⟨μ,ρ,h,rs,s,o⟩:=t;exact⟨μ,ρ,h,rs,s,(o.bind (R1:=ItOk G)).mono λJ H1 ⟨μ1,src,h1,x1,s1,ok,o1⟩=>Y5 ok (G8 (rs.mono x1) cap) s1 RelDL.nil o1⟩
end
section
variable{X:Cx}{G:Cfg}{E:XK}{elt tg iter:bp}{ifs:List bp}{sc:gh}{ps pos:Pos}{mi:M Src}{st:cG}{test:M Bool}{me:M Dv}{N:List Str}{cap:List (Option Nat)}
def K7 (X:Cx) (G:Cfg) (E:XK) (ifs:List bp) (m:M Bool):Prop:=X.K=G.K->PTs X ifs (fP G E m)
theorem Y7 {Y:Cx}{c:bp}{m:M Bool}(h:eR Y G E c m):K7 Y G E [c] m:=λhK=>GA (h hK)
theorem Y8 (hc:X.calm=true) (C:CapOk X sc N cap) (hi:hV X G E tg iter mi) (hg:∀s H ex,iZ (jK X sc N s H ex) G tg st) (htt:∀s H ex,K7 (jK X sc N s H ex) G E ifs test) (hel:∀s H ex,aH (jK X sc N s H ex) G E elt me)
  (hs:∀x,foldedSetIterable iter X.env x=pure x:=by intro _;rfl):nB X G E (.ListComp elt [⟨tg,iter,ifs,0⟩] sc ps) (mK mi cap st test me):=λhK=>
 PE.imp (YV hc C (hi hK) (λs H ex=>hg s H ex hK) (λs H ex=>htt s H ex hK) (λs H ex=>hel s H ex hK) hs) λ_ _ _ t=>Y6 t
end
section
variable{P:bj}{w:cq}{K:aq}{mg:Str->Option af}{base:cw}{N:List Str}{qual:Str}{f:ah}{G:Cfg}{k:Nat}
theorem Y9 {x qual:Str}{st:gp}{fd:bu}{ps:List Str}{mb:MS}(Fn:Fun K x qual st f fd) (S:FnScope N ps (aW st)) (hK:K=G.K)
  (hbody:∀(cdv:af) (A:cu) (outer:List Env) (s:ag) (H:Hp) (E₀ E:XK),Good (eE (bF P w base) P w K mg base N qual (aW st) f cdv A outer s H E₀) G E k->BE (eE (bF P w base) P w K mg base N qual (aW st) f cdv A outer s H E₀) E->hO (eE (bF P w base) P w K mg base N qual (aW st) f cdv A outer s H E₀) G E (iV st) mb):
  FnOk P w K mg base (bF P w base) (k+1) f fd ps (cF G (aT ps.length N.length mb)):=by
 obtain⟨oc,od,kV,doc,pm,an,cdv,ct,osl,rfl,lk,hcd⟩:=Fn.ex;have hlen:∀vs H Q E,cF G (aT ps.length N.length mb) vs H Q E->vs.length=ps.length:=λvs H Q E ⟨μ,h,ds,r,sm,o⟩=>by
  rw[r.length];unfold aT at o
  by_cases hd:ds.length=ps.length
  ·exact hd
  ·rw[if_neg hd]at o;exact o.elim
 refine tW lk hcd S hlen λA outer s H vs Q E hr hsp=>?_;have hl:=hlen _ _ _ _ hsp;obtain⟨μ,h,ds,r,sm,o⟩:=hsp;have o':Out G E μ h.length H (bG (mb (bL N.length ds) h)) (RelD G) Q:=by unfold aT at o;rw[if_pos (by rw[<-r.length];exact hl)]at o;exact o
 have hEB:∀u H',EB G μ h.length H (mb (bL N.length ds) h) u none H'->E u none H':=λu H' ⟨c,h',μ',er,x,s',fl⟩=>by rw[er]at o';exact o' μ' H' u x s' fl
 refine⟨_,hbody cdv A outer s H E (EB G μ h.length H (mb (bL N.length ds) h)) (uZ hr hK hEB qV) (Y0 hEB qV) hK, ?_⟩;refine⟨μ,bL N.length ds,h,zW r N,sm, ?_⟩
 cases q:mb (bL N.length ds) h with
 |bad=>rw[q]at o';exact o'.elim
 |bk ρ h'=>rw[q]at o';exact o'.elim
 |ct ρ h'=>rw[q]at o';exact o'.elim
 |rt d h'=>rw[q]at o';exact o'
 |nx ρ h'=>rw[q]at o';exact λμ' H' σ' x' s' rs'=>o' μ' H' .non x' s' rfl
 |ex c h'=>exact λμ' H' u x' s' fl=>⟨c,h',μ',rfl,x',s',fl⟩
end
end L2.Mr
namespace L2.Mr.Cod
open PySem PySem.Spec PyProof.Rows L2 L2.Mr L2.Mr.Com
def BG:MS:=(aX (dU (bW (aF F_qp (aA (aB 0) (aA (aB 1) (aA (aB 2) aC)))))) (zZ 1 [1,2]) bK)
def F_qg:List Dv->Hs->Rs Dv:=aT 3 3 (BG)
def wL:MS:=(aX (dU (bW (aF F_qx (aA (aB 0) aC)))) (zX 0 (aA (mC (.str "this is no order")) aC)) bK)
def F_qq:List Dv->Hs->Rs Dv:=aT 1 1 (wL)
def sM:MS:=(aJ (aK (m2 aQ (aB 0) (mC (.int 1))) (aE 3)) (aN (dN (m2 cT (aB 1) (aB 2)) (dN (m2 (eC true) (aL (aA (aB 1) (aA (aB 2) aC))) (aB 3)) (m2 (eC true) (aL (aA (aB 2) (aA (aB 1) aC))) (aB 3))))))
def F_qt:List Dv->Hs->Rs Dv:=aT 3 4 (sM)
def wN:MS:=(aJ (aK (aB 0) (cY 2 (bM (aE 2) (bM (aE 3) dD)))) (aJ (aK (cN (cB (cU eB (aB 3)) [none,none] (cY 2 (bM (aE 0) (bM (aE 1) dD))) dO (bP (aL (aA (aB 0) (aA (aB 1) (aA (mC (.int 1)) aC))))))) (aE 4)) (aJ (aK (cN (cB (aR bX (aA (aB 2) aC)) [none,none,some 1,some 0,some 2] (aE 0) dO (jF (aR bX (aA (aB 4) aC)) (aE 1) (bW (aF F_qt (aA (aB 3) (aA (aB 0) (aA (aB 1) aC))))) (bP (aL (aA (aB 0) (aA (aB 1) (aA (m1 oY (aB 2)) aC)))))))) (aE 5)) (aN (m2 bH (aB 4) (aB 5))))))
def F_q0:List Dv->Hs->Rs Dv:=aT 2 6 (wN)
def wO:MS:=(aN (cN (cB (aR pG (aA (aB 0) aC)) [none,none,some 1,some 0] (cY 2 (bM (aE 0) (bM (aE 1) dD))) dO (bP (aF (f1 (fB dF)) (aA (m2 bH (aV (aA (aB 1) aC)) (cN (cB (cU kG (aB 2)) [none,none,none,some 3,some 0] (cY 3 (bM (aE 0) (bM (aE 1) (bM (aE 2) dD)))) (mB (m2 cK (aB 1) (aB 4))) (bP (m2 bH (m2 aQ (aB 3) (aB 0)) (aB 2)))))) aC))))))
def F_q2:List Dv->Hs->Rs Dv:=aT 2 2 (wO)
def sN:MS:=(aJ (eJ (aF F_qq (aA (aB 0) aC))) (aJ (eJ (aF F_qg (aA (aB 1) (aA (mC (.int 0)) (aA (mC (.int 5)) aC))))) (aJ (aK (aF F_q0 (aA (aB 0) (aA (aB 1) aC))) (aE 2)) (aJ (aK (m2 jV (aV (aA (mC (.int 0)) aC)) (m2 aQ (aB 0) (mC (.int 0)))) (aE 3)) (aJ (eV (mB (m2 fF (aF (f1 (fB dF)) (aA (aB 3) aC)) (m2 aQ (aB 0) (mC (.int 0))))) (aJ (aK (aF F_q2 (aA (aB 3) (aA (aB 2) aC))) (aE 4)) (aJ (aX (mB (m2 cK (aB 4) (aB 3))) (aN (aF (f1 gF) (aA (aB 3) aC))) bK) (aK (aB 4) (aE 3)))) 40) (aN (mC .non)))))))
def F_q3:List Dv->Hs->Rs Dv:=aT 2 5 (sN)
def sO:MS:=(aN (aF (f1 (fB jX)) (aA (cN (mK (aR bX (aA (m2 bH (mC (.int 5)) (mC (.int 1))) aC)) [none,some 0] (aE 0) (mB (m2 (gO true) (aF F_q3 (aA (aB 1) (aA (aB 0) aC))) (mC .non))) (aB 0))) aC)))
def F_qj:List Dv->Hs->Rs Dv:=aT 1 1 (sO)
def wQ:MS:=(aN (aF F_q3 (aA (aB 0) (aA (aF F_qj (aA (aB 0) aC)) aC))))
def F_qd:List Dv->Hs->Rs Dv:=aT 1 1 (wQ)
def wR:MS:=(aJ (aK (aF (f1 nO) (aA (aB 1) aC)) (aE 2)) (aJ (aK (aV aC) (aE 3)) (aJ (eV (mB (m2 cT (aB 2) (aV aC))) (eJ (iJ (aB 3) (rH (aB 2) (aF F_qs (aA (aB 0) (aA (aF (f1 gB) (aA (aB 2) aC)) aC)))))) 40) (aN (aF (f1 gF) (aA (aB 3) aC))))))
def F_ql:List Dv->Hs->Rs Dv:=aT 2 4 (wR)
def wU:MS:=(aJ (aK (aF (f1 jU) (aA (aB 1) aC)) (aE 2)) (aJ (cV (aR bX (aA (aB 0) aC)) (aE 3) (cV (aR bX (aA (aB 0) aC)) (aE 4) (cV (aR bX (aA (aB 0) aC)) (aE 5) (aX (gK (mB (m2 (eC false) (aL (aA (aB 4) (aA (aB 3) aC))) (aB 2))) (gK (mB (m2 (eC false) (aL (aA (aB 3) (aA (aB 5) aC))) (aB 2))) (mB (m2 (eC true) (aL (aA (aB 4) (aA (aB 5) aC))) (aB 2))))) (eJ (iJ (aB 2) (aL (aA (aB 4) (aA (aB 5) aC))))) bK)))) (aN (aF (f1 gF) (aA (aF (f1 pL) (aA (aB 2) aC)) aC)))))
def F_qh:List Dv->Hs->Rs Dv:=aT 2 6 (wU)
def wV:MS:=(aJ (aK (m2 gA (aB 1) (m2 aQ (aV (aA (mC (.int 0)) (aA (mC (.int 0)) (aA (mC (.int 1)) (aA (mC (.int 0)) (aA (mC (.int 2)) (aA (mC (.int 1)) (aA (mC (.int 3)) (aA (m2 gA (aB 1) (mC (.int 1))) aC))))))))) (aF F_qs (aA (aB 0) (aA (mC (.int 8)) aC))))) (aE 2)) (aJ (aK (aF fZ (aA (mC (.int 1)) (aA (aB 2) aC))) (aE 2)) (aJ (aK (aF F_ql (aA (aB 0) (aA (aB 2) aC))) (aE 3)) (aJ (aK (aF F_qs (aA (aB 0) (aA (mC (.int 5)) aC))) (aE 4)) (aJ (aK (cN (cB (cU eB (aB 3)) [none,some 0] (aE 0) dO (bP (aF F_qs (aA (aB 1) (aA (mC (.int 3)) aC)))))) (aE 5)) (aJ (aK (aV aC) (aE 6)) (aJ (cV (aR bX (aA (aB 2) aC)) (aE 7) (cV (aR jC (aA (m2 bH (aB 7) (mC (.int 1))) (aA (aB 2) aC))) (aE 8) (aJ (aK (m2 fF (aF F_qs (aA (aB 0) (aA (mC (.int 4)) aC))) (m2 aQ (aV (aA (mC (.int 1)) (aA (mC (.int 2)) (aA (mC (.int 3)) aC)))) (m2 gI (aB 4) (mC (.int 3))))) (aE 9)) (aJ (aX (mB (m2 cK (aB 4) (mC (.int 3)))) (aK (m2 cK (m2 aQ (aB 5) (aB 7)) (m2 aQ (aB 5) (aB 8))) (aE 9)) bK) (aJ (aX (mB (m2 cK (aB 4) (mC (.int 4)))) (aK (m2 fF (m2 aQ (aB 5) (aB 7)) (m2 aQ (aB 5) (aB 8))) (aE 9)) bK) (aX (bW (aB 9)) (eJ (iJ (aB 6) (aL (aA (m2 aQ (aB 3) (aB 7)) (aA (m2 aQ (aB 3) (aB 8)) aC))))) bK)))))) (aN (aL (aA (aB 2) (aA (aF F_qh (aA (aB 2) (aA (aB 6) aC))) aC)))))))))))
def F_qm:List Dv->Hs->Rs Dv:=aT 2 10 (wV)
def wW:MS:=(aJ (aK (aV aC) (aE 1)) (aJ (cV (aR bX (aA (m2 aQ (aB 0) (mC (.int 0))) aC)) (aE 2) (cV (aR jC (aA (m2 bH (aB 2) (mC (.int 1))) (aA (m2 aQ (aB 0) (mC (.int 0))) aC))) (aE 3) (aX (gK (mB (m2 (eC true) (aL (aA (aB 2) (aA (aB 3) aC))) (m2 aQ (aB 0) (mC (.int 1))))) (mB (m2 (eC true) (aL (aA (aB 3) (aA (aB 2) aC))) (m2 aQ (aB 0) (mC (.int 1)))))) (eJ (iJ (aB 1) (aL (aA (aB 2) (aA (aB 3) aC))))) bK))) (aN (aB 1))))
def F_qk:List Dv->Hs->Rs Dv:=aT 1 4 (wW)
def K8:MS:=(aJ (aK (m2 jV (aV (aA (mC (.int 0)) aC)) (m2 aQ (aB 0) (mC (.int 0)))) (aE 2)) (aJ (cV (aR bX (aA (m2 bH (m2 iP (m2 aQ (aB 0) (mC (.int 0))) (m2 aQ (aB 0) (mC (.int 0)))) (mC (.int 2))) aC)) (aE 3) (aJ (aK (aF (f1 jU) (aA (aB 2) aC)) (aE 4)) (aJ (cV (cU eB (m2 aQ (aB 0) (mC (.int 1)))) (cY 2 (bM (aE 5) (bM (aE 6) dD))) (iK (aB 4) (aB 6) (aF fZ (aA (m2 aQ (aB 4) (aB 6)) (aA (m2 bH (m2 aQ (aB 2) (aB 5)) (mC (.int 1))) aC))))) (aJ (cV (cU kG (aF F_qk (aA (aB 0) aC))) (cY 2 (bM (aE 5) (bM (aE 6) dD))) (aJ (iK (aB 4) (aB 5) (aF fZ (aA (m2 aQ (aB 4) (aB 5)) (aA (m2 gA (m2 aQ (aB 2) (aB 6)) (aB 1)) aC)))) (iK (aB 4) (aB 6) (aF fZ (aA (m2 aQ (aB 4) (aB 6)) (aA (m2 gA (m2 aQ (aB 2) (aB 5)) (aB 1)) aC)))))) (aJ (aX (mB (m2 cK (aB 4) (aB 2))) (aN (aF (f1 gF) (aA (aB 2) aC))) bK) (aJ (aK (aB 4) (aE 2)) (aX (mB (m2 mG (aF (f1 (fB dF)) (aA (aB 2) aC)) (m2 aQ (aB 0) (mC (.int 0))))) (aN (mC .non)) bK))))))) (aN (mC .non))))
def F_qb:List Dv->Hs->Rs Dv:=aT 2 7 (K8)
def K9:MS:=(aJ (aK (mC (.int 0)) (aE 1)) (aJ (eV (mB (m2 (gO false) (aF F_qb (aA (aB 0) (aA (aB 1) aC))) (mC .non))) (aK (m2 bH (aB 1) (mC (.int 1))) (aE 1)) 40) (aN (aB 1))))
def F_qa:List Dv->Hs->Rs Dv:=aT 1 2 (K9)
def wX:MS:=(aJ (aK (aV (aA (mC .non) (aA (aL aC) (aA (aL (aA (mC (.int 0)) (aA (aL aC) aC))) (aA (aL (aA (mC (.int 7)) (aA (aL aC) aC))) (aA (aL (aA (mC (.bl true)) (aA (aL aC) aC))) (aA (aL (aA (mC (.int 2)) (aA (aV (aA (aL (aA (mC (.int 0)) (aA (mC (.int 1)) aC))) aC)) aC))) (aA (aL (aA (mC (.int 2)) (aA (aL (aA (aL (aA (mC (.int 1)) (aA (mC (.int 0)) aC))) (aA (aL (aA (mC (.int 0)) (aA (mC (.int 1)) aC))) aC))) aC))) (aA (aL (aA (mC (.int 2)) (aA (aL (aA (aL (aA (mC (.int 0)) (aA (mC (.int 0)) aC))) aC)) aC))) (aA (aV (aA (mC (.int 2)) (aA (aL aC) aC))) aC)))))))))) (aE 1)) (aJ (aK (m2 bH (aB 1) (aV (aA (aL (aA (mC (.int 3)) (aA (aL (aA (aL (aA (mC (.int 0)) (aA (mC (.int 1)) aC))) (aA (aL (aA (mC (.int 1)) (aA (mC (.int 2)) aC))) aC))) aC))) (aA (aL (aA (mC (.int 2)) (aA (aL (aA (aL (aA (mC (.int 0)) (aA (mC (.int 1)) aC))) (aA (aL (aA (mC (.int 0)) (aA (mC (.int 1)) aC))) aC))) aC))) (aA (aL (aA (mC (.int 2)) (aA (aL (aA (aL (aA (mC (.int 0)) (aA (mC (.int 2)) aC))) aC)) aC))) (aA (aL (aA (mC (.int 2)) (aA (aL (aA (aL (aA (mC (.int 0)) (aA (mC (.bl true)) aC))) aC)) aC))) (aA (aL (aA (mC (.int 2)) aC)) (aA (aL (aA (mC (.int 2)) (aA (aL aC) (aA (aL aC) aC)))) aC)))))))) (aE 1)) (aJ (aK (m2 bH (aB 1) (aV (aA (aL (aA (mC (.int 3)) (aA (aL (aA (aL (aA (mC (.int 0)) (aA (mC (.int 2)) aC))) (aA (aL (aA (mC (.int 0)) (aA (mC (.int 1)) aC))) aC))) aC))) (aA (mC (.str "2: 0<1")) (aA (mC .edc) (aA (aL (aA (mC (.int 2)) (aA (aL (aA (aL (aA (mC (.int 0)) (aA (mC (.int 1)) (aA (mC (.int 1)) aC)))) aC)) aC))) (aA (aL (aA (mC (.int 2)) (aA (aL (aA (aL (aA (mC (.int 0)) (aA (mC (.int 1)) aC))) (aA (aL (aA (mC (.int 1)) (aA (mC (.int 0)) aC))) aC))) aC))) aC))))))) (aE 1)) (aN (m2 aQ (aB 1) (aF F_qs (aA (aB 0) (aA (mC (.int 20)) aC))))))))
def F_qc:List Dv->Hs->Rs Dv:=aT 1 2 (wX)
end L2.Mr.Cod
namespace L2.Mr
open PySem PySem.Spec PyProof.Rows L2
section
variable{X:Cx}{G:Cfg}{E:XK}{pos:Pos}
end
def mM:M Dv:=λ_ _=>.bad
def wY (f:bp->M Dv):List bp->M (List Dv)
 | []=>aC
 |e::es=>aA (f e) (wY f es)
def lG (lk:Str->Option Nat):Nat->bp->M Dv
 |0,_=>mM
 |n+1,e=>match e with
  | .Constant c _ _=>match c with
   | .int i=>mC (.int i)
   | .bool b=>mC (.bl b)
   | .none=>mC .non
   | .str x=>mC (.str x)
   |_=>mM
  | .Tuple es _ _=>aL (wY (lG lk n) es)
  | .List es _=>aV (wY (lG lk n) es)
  | .Dict [] [] _=>mC .edc
  | .Name x _=>match lk x with
   |some i=>aB i
   |none=>mM
  | .UnaryOp .USub a _=>m1 oY (lG lk n a)
  |_=>mM
def LA (e:bp):Prop:=∀es env,au (e::es) env=(false,eval e env)::au es env
section
variable{X:Cx}{G:Cfg}{E:XK}{lk:Str->Option Nat}
theorem wZ {e:bp}:aH X G E e mM:=λ_ pins s σ H Q _ ⟨_,_,_,_,_,o⟩=>o.elim
theorem ZA {e:bp}{es:List bp}{ms:M (List Dv)}:dQ X G E (e::es) (aA mM ms):=λ_ pos pins s σ H Q _ ⟨_,_,_,_,_,o⟩=>o.elim
theorem BH {f:bp->M Dv}(hf:∀e,aH X G E e (f e)/\(LA e∨f e=mM)):∀es,dQ X G E es (wY f es)
 | []=>aO
 |e::es=>by
  obtain⟨a,b|b⟩:=hf e
  ·exact aG a (BH hf es) (b es X.env)
  ·show dQ X G E (e::es) (aA (f e) _);rw[b];exact ZA
theorem xA (hv:∀x i pos,lk x=some i->aH X G E (.Name x pos) (aB i)):∀n e,aH X G E e (lG lk n e)/\(LA e∨lG lk n e=mM)
 |0,_=>⟨wZ,.inr rfl⟩
 |n+1,e=>by
  unfold lG
  split
  ·split
   ·exact⟨aY,.inl λ_ _=>rfl⟩
   ·exact⟨iG,.inl λ_ _=>rfl⟩
   ·exact⟨mU,.inl λ_ _=>rfl⟩
   ·exact⟨GK,.inl λ_ _=>rfl⟩
   ·exact⟨wZ,.inr rfl⟩
  ·exact⟨gJ (BH (xA hv n) _),.inl λ_ _=>rfl⟩
  ·exact⟨gZ (BH (xA hv n) _),.inl λ_ _=>rfl⟩
  ·exact⟨VG,.inl λ_ _=>rfl⟩
  ·rename_i x pos
   split
   ·rename_i i q;exact⟨hv x i pos q,.inl λ_ _=>rfl⟩
   ·exact⟨wZ,.inr rfl⟩
  ·exact⟨IP (xA hv n _).1,.inl λ_ _=>rfl⟩
  ·exact⟨wZ,.inr rfl⟩
theorem nS (n:Nat) {e:bp}{m:M Dv}(h:lG (λ_=>none) n e=m:=by rfl):aH X G E e m:=h▸(xA (λ_ _ _ h=>by cases h) n e).1
end
structure SW (X:Cx) (G:Cfg) (E:XK) (st:gp) (m:MS):Prop where
 ok:gM X G E st m
structure SWs (X:Cx) (G:Cfg) (E:XK) (st:List gp) (m:MS):Prop where
 ok:hO X G E st m
section
variable{X:Cx}{G:Cfg}{E:XK}{st:gp}{rest:List gp}{m u:MS}{pos:Pos}
theorem BI (a:SW X G E st m) (b:SWs X G E rest u):SWs X G E (st::rest) (aJ m u):=⟨bD a.ok b.ok⟩
theorem ZC (a:SW X G E st m):SWs X G E [st] m:=⟨bB a.ok⟩
theorem ZD (n:Nat) {i:Nat}{x:Str}{pos':Pos}{e:bp}{me:M Dv}(hN:X.N.Nodup) (hi:X.N[i]?=some x) (hx:lK X.env.scope x) (h:lG (λ_=>none) n e=me:=by rfl) (hs:swapsWith e (some (.Name x pos')) pos.line X.env=pure false:=by rfl) (hf:X.fn x=true∨X.env.scope.names.lookup x=some .local:=by first|exact .inl rfl|exact .inr rfl|assumption):
  SW X G E (.Assign [.Name x pos'] e pos) (aK me (aE i)):=⟨cL hN hi hx (nS n h) hs hf⟩
theorem LB (n:Nat) {i:Nat}{x:Str}{pos' p2 p3:Pos}{e:bp}{me:M Dv}(hN:X.N.Nodup) (hi:X.N[i]?=some x) (hx:lK X.env.scope x) (hv:aH X G E (.Name x p2) (aB i)) (h:lG (λ_=>none) n e=me:=by rfl) (hs:swapsWith (.BinOp (.Name x p2) .Add e p3) (some (.Name x pos')) pos.line X.env=pure false:=by rfl) (hf:X.fn x=true∨X.env.scope.names.lookup x=some .local:=by first|exact .inl rfl|exact .inr rfl|assumption):
  SW X G E (.Assign [.Name x pos'] (.BinOp (.Name x p2) .Add e p3) pos) (aK (m2 bH (aB i) me) (aE i)):=⟨cL hN hi hx (fS hv (nS n h)) hs hf⟩
end
section
variable{P:bj}{w:cq}{K:aq}{mg:Str->Option af}{base:cw}{G:Cfg}{N:List Str}{f:ah}{k:Nat}
theorem ZE {x qual:Str}{st:gp}{fd:bu}{ps:List Str}{mb:MS}(Fn:Fun K x qual st f fd) (S:FnScope N ps (aW st)) (hK:K=G.K)
  (hbody:∀(cdv:af) (A:cu) (outer:List Env) (s:ag) (H:Hp) (E₀ E:XK),Good (eE (bF P w base) P w K mg base N qual (aW st) f cdv A outer s H E₀) G E k->SWs (eE (bF P w base) P w K mg base N qual (aW st) f cdv A outer s H E₀) G E (iV st) mb):
  FnOk P w K mg base (bF P w base) (k+1) f fd ps (cF G (aT ps.length N.length mb)):=dP Fn S hK λcdv A outer s H E₀ E g=>(hbody cdv A outer s H E₀ E g).ok
end
end L2.Mr
namespace L2.Mr.K52
open PySem PySem.Spec PyProof.Rows L2 L2.Mr L2.Mr.Cod
open L2.Mr.Com
def tblV:List (Nat×Bool):=[(0,true),(1,true)]
def tbl0:List (Nat×Bool):=[(0,true),(1,false)]
def tbl1:List (Nat×Bool):=[(0,false),(1,true)]
def tbl2:List (Nat×Bool):=[(0,false),(1,false)]
def tbl3:List (Nat×Bool):=[(0,false),(1,false)]
def tbl4:List (Nat×Bool):=[(0,false),(1,false)]
def tbl5:List (Nat×Bool):=[(0,false),(1,false)]
def tbl6:List (Nat×Bool):=[(0,false),(1,false)]
def tbl7:List (Nat×Bool):=[(0,false),(1,false)]
def tbl8:List (Nat×Bool):=[(0,false),(1,false)]
def tbl9:List (Nat×Bool):=[(0,false),(1,false)]
def tbl10:List (Nat×Bool):=[(0,false),(1,false)]
def tbl11:List (Nat×Bool):=[(0,false),(1,false)]
def tbl12:List (Nat×Bool):=[(0,false),(1,false)]
def tbl13:List (Nat×Bool):=[(0,false),(1,false)]
def iR:MS:=(aJ (aK (aV (aA (m1 (bE (cZ none tbl0)) (aB 1)) (aA (m1 (bE (cZ none tbl1)) (aB 1)) (aA (m1 (bE (cZ none tbl2)) (aB 1)) aC)))) (aE 3)) (aJ (aK (m2 bH (aB 3) (aV (aA (m1 (bE (cZ none tbl3)) (aB 1)) (aA (m1 (bE (cZ none tbl4)) (aB 1)) (aA (m1 (bE (cZ none tbl5)) (aB 1)) aC))))) (aE 3)) (aJ (aK (m2 bH (aB 3) (aV (aA (m1 (bE (cZ none tbl6)) (aB 1)) (aA (m1 (bE (cZ none tbl7)) (aB 1)) (aA (m1 (bE (cZ none tbl8)) (aB 1)) aC))))) (aE 3)) (aJ (aK (m2 bH (aB 3) (aV (aA (m1 (bE (cZ none tbl9)) (aB 1)) (aA (m1 (bE (cZ none tbl10)) (aB 1)) (aA (m1 (bE (cZ none tbl11)) (aB 1)) aC))))) (aE 3)) (aJ (aK (m2 bH (aB 3) (aV (aA (m1 (bE (cZ none tbl12)) (aB 1)) (aA (m1 (bE (cZ none tbl13)) (aB 1)) aC)))) (aE 3)) (aJ (aX (dU (bW (m1 (bE (cZ none tblV)) (aB 1)))) (aN (mC .non)) bK) (aN (cN (cB (aR bX (aA (mC (.int 14)) aC)) [none,some 3] (aE 0) (bW (m2 aQ (aB 1) (aB 0))) (bP (aB 0)))))))))))
def sP:M Dv:=(aF F_qj (aA (aB 0) aC))
def sQ:M Dv:=(aF F_qd (aA (aB 0) aC))
def xB (scr:List Int):MS:=(aJ (aK (aF (F_qn scr) (aA (aB 0) (aA (aB 1) aC))) (aE 2)) (aJ (aK (aF F_qm (aA (aB 2) (aA (mC (.int 6)) aC))) (aE 3)) (aJ (aK (aF F_qa (aA (aB 3) aC)) (aE 4)) (aJ (cV (aR bX (aA (mC (.int 2)) aC)) (aE 5) (aJ (aX (dU (bW (aF (F_qr 6) (aA (aF F_qj (aA (aB 3) aC)) (aA (aB 4) aC))))) (aN (mC (.bl false))) bK) (aX (dU (bW (aF (F_qr 6) (aA (aF F_qd (aA (aB 3) aC)) (aA (aF F_qb (aA (aB 3) (aA (aB 4) aC))) aC))))) (aN (mC (.bl false))) bK))) (aJ (aK (aF F_qc (aA (aB 2) aC)) (aE 6)) (aJ (aX (mB (m2 cT (jT [6] 4 14 iR sP) (aV (aA (mC (.int 0)) aC)))) (aN (mC (.bl false))) bK) (aX (mB (m2 cT (jT [6] 4 14 iR sQ) (aV (aA (mC (.int 0)) aC)))) (aN (mC (.bl false))) bK)))))))
def LC (scr:List Int):MS:=(cV (aR bX (aA (aF fZ (aA (mC (.int 1)) (aA (aF oQ (aA (aF (f1 (iI scr)) (aA (aB 0) aC)) (aA (mC (.int 8)) aC))) aC))) aC)) (aE 1) (xB scr))
def ZF:MS:=(aN (mC (.bl true)))
def xC (scr:List Int):MS:=(aJ (LC scr) ZF)
def F_q4 (scr:List Int):List Dv->Hs->Rs Dv:=aT 1 7 (xC scr)
def dG (i:Nat):gp:=ae.main.body.getD i (.Pass ⟨0,0,0,0⟩)
abbrev BJ:gp:=dG 17
abbrev BK:gp:=dG 18
abbrev BL:gp:=dG 19
abbrev xD:gp:=dG 20
abbrev BM:gp:=dG 24
abbrev xE:gp:=dG 25
abbrev BN:gp:=dG 26
abbrev xF:gp:=dG 27
abbrev xG:gp:=dG 28
abbrev xH:gp:=dG 29
abbrev BO:gp:=dG 30
abbrev BP:gp:=dG 31
abbrev BQ:gp:=dG 32
abbrev sR:gp:=dG 34
abbrev xI:gp:=dG 35
abbrev BR:gp:=dG 36
abbrev xJ:gp:=dG 37
abbrev BS:gp:=dG 38
abbrev BU:gp:=dG 40
abbrev BV:gp:=dG 41
abbrev BW:gp:=dG 42
abbrev BX:gp:=dG 43
abbrev BY:gp:=dG 44
abbrev xK:gp:=dG 45
abbrev BZ:gp:=dG 46
abbrev CA:gp:=dG 47
abbrev CB:gp:=dG 48
abbrev xM:gp:=dG 49
abbrev CC:gp:=dG 50
abbrev nV:gp:=dG 51
abbrev sT:gp:=dG 52
structure Ad where
 f_qz:ah
 fd_qz:bu
 f_qp:ah
 fd_qp:bu
 f_qg:ah
 fd_qg:bu
 f_qw:ah
 fd_qw:bu
 f_qy:ah
 fd_qy:bu
 f_qo:ah
 fd_qo:bu
 f_q1:ah
 fd_q1:bu
 f_qu:ah
 fd_qu:bu
 f_qv:ah
 fd_qv:bu
 f_qi:ah
 fd_qi:bu
 f_qx:ah
 fd_qx:bu
 f_qq:ah
 fd_qq:bu
 f_qt:ah
 fd_qt:bu
 f_q0:ah
 fd_q0:bu
 f_q2:ah
 fd_q2:bu
 f_q3:ah
 fd_q3:bu
 f_qj:ah
 fd_qj:bu
 f_qd:ah
 fd_qd:bu
 f_qe:ah
 fd_qe:bu
 f_qn:ah
 fd_qn:bu
 f_qs:ah
 fd_qs:bu
 f_ql:ah
 fd_ql:bu
 f_qh:ah
 fd_qh:bu
 f_qm:ah
 fd_qm:bu
 f_qk:ah
 fd_qk:bu
 f_qb:ah
 fd_qb:bu
 f_qa:ah
 fd_qa:bu
 f_qr:ah
 fd_qr:bu
 f_qc:ah
 fd_qc:bu
 f_qf:ah
 fd_qf:bu
 f_q4:ah
 fd_q4:bu
 c_NoOrder:ah
 c_NoNumber:ah
 c_NoPairs:ah
 c_Round:ah
 c_NoThing:ah
 c_NoRow:ah
 c_TooMany:ah
 c_TooFew:ah
 c_NoText:ah
 c_NoLine:ah
 c_NoDeed:ah
 c_NoSeating:ah
 c_NoRing:ah
 c_NoSizes:ah
 t_MOST_THINGS:Tok
 t_MOST_APART:Tok
 NE:ah
 cc:ah
 P:ah
structure Tx (K:aq) (mg:Str->Option af) (G:Cfg) (A:Ad):Prop where
 hK:K=G.K
 F_qz:Fun K "is_whole" "is_whole" BJ A.f_qz A.fd_qz
 B_qz:Binds K A.fd_qz ["thing"] []
 m_qz:mg "is_whole" = some (.ref A.f_qz)
 F_qp:Fun K "is_between" "is_between" BK A.f_qp A.fd_qp
 B_qp:Binds K A.fd_qp ["thing","low","high"] []
 m_qp:mg "is_between" = some (.ref A.f_qp)
 F_qg:Fun K "need_between" "need_between" BL A.f_qg A.fd_qg
 B_qg:Binds K A.fd_qg ["thing","low","high"] []
 m_qg:mg "need_between" = some (.ref A.f_qg)
 F_qw:Fun K "is_rising" "is_rising" xD A.f_qw A.fd_qw
 B_qw:Binds K A.fd_qw ["parts"] []
 m_qw:mg "is_rising" = some (.ref A.f_qw)
 F_qy:Fun K "is_thing" "is_thing" BM A.f_qy A.fd_qy
 B_qy:Binds K A.fd_qy ["many","thing"] []
 m_qy:mg "is_thing" = some (.ref A.f_qy)
 F_qo:Fun K "are_things" "are_things" xE A.f_qo A.fd_qo
 B_qo:Binds K A.fd_qo ["many","thing"] []
 m_qo:mg "are_things" = some (.ref A.f_qo)
 F_q1:Fun K "is_pair" "is_pair" BN A.f_q1 A.fd_q1
 B_q1:Binds K A.fd_q1 ["many","thing"] []
 m_q1:mg "is_pair" = some (.ref A.f_q1)
 F_qu:Fun K "are_pairs" "are_pairs" xF A.f_qu A.fd_qu
 B_qu:Binds K A.fd_qu ["many","things"] []
 m_qu:mg "are_pairs" = some (.ref A.f_qu)
 F_qv:Fun K "has_alike" "has_alike" xG A.f_qv A.fd_qv
 B_qv:Binds K A.fd_qv ["pairs"] []
 m_qv:mg "has_alike" = some (.ref A.f_qv)
 F_qi:Fun K "is_complete" "is_complete" xH A.f_qi A.fd_qi
 B_qi:Binds K A.fd_qi ["pairs"] []
 m_qi:mg "is_complete" = some (.ref A.f_qi)
 F_qx:Fun K "is_order" "is_order" BO A.f_qx A.fd_qx
 B_qx:Binds K A.fd_qx ["thing"] []
 m_qx:mg "is_order" = some (.ref A.f_qx)
 F_qq:Fun K "need_order" "need_order" BP A.f_qq A.fd_qq
 B_qq:Binds K A.fd_qq ["order"] []
 m_qq:mg "need_order" = some (.ref A.f_qq)
 F_qt:Fun K "are_loose" "are_loose" BQ A.f_qt A.fd_qt
 B_qt:Binds K A.fd_qt ["order","one","other"] []
 m_qt:mg "are_loose" = some (.ref A.f_qt)
 F_q0:Fun K "needs_of" "needs_of" sR A.f_q0 A.fd_q0
 B_q0:Binds K A.fd_q0 ["order","reach"] []
 m_q0:mg "needs_of" = some (.ref A.f_q0)
 F_q2:Fun K "raised" "raised" xI A.f_q2 A.fd_q2
 B_q2:Binds K A.fd_q2 ["places","needs"] []
 m_q2:mg "raised" = some (.ref A.f_q2)
 F_q3:Fun K "seated" "seated" BR A.f_q3 A.fd_q3
 B_q3:Binds K A.fd_q3 ["order","reach"] []
 m_q3:mg "seated" = some (.ref A.f_q3)
 F_qj:Fun K "least_reach" "least_reach" xJ A.f_qj A.fd_qj
 B_qj:Binds K A.fd_qj ["order"] []
 m_qj:mg "least_reach" = some (.ref A.f_qj)
 F_qd:Fun K "least_seating" "least_seating" BS A.f_qd A.fd_qd
 B_qd:Binds K A.fd_qd ["order"] []
 m_qd:mg "least_seating" = some (.ref A.f_qd)
 F_qe:Fun K "_law_cell_at" "_law_cell_at" BU A.f_qe A.fd_qe
 B_qe:Binds K A.fd_qe ["_law_script","_law_k"] []
 m_qe:mg "_law_cell_at" = some (.ref A.f_qe)
 F_qn:Fun K "_law_state" "_law_state" BV A.f_qn A.fd_qn
 B_qn:Binds K A.fd_qn ["_law_script","_law_k"] []
 m_qn:mg "_law_state" = some (.ref A.f_qn)
 F_qs:Fun K "_law_take" "_law_take" BW A.f_qs A.fd_qs
 B_qs:Binds K A.fd_qs ["_law_state_here","_law_many"] []
 m_qs:mg "_law_take" = some (.ref A.f_qs)
 F_ql:Fun K "_law_mixed" "_law_mixed" BX A.f_ql A.fd_ql
 B_ql:Binds K A.fd_ql ["_law_state_here","_law_many"] []
 m_ql:mg "_law_mixed" = some (.ref A.f_ql)
 F_qh:Fun K "_law_closed" "_law_closed" BY A.f_qh A.fd_qh
 B_qh:Binds K A.fd_qh ["_law_many","_law_pairs"] []
 m_qh:mg "_law_closed" = some (.ref A.f_qh)
 F_qm:Fun K "_law_order" "_law_order" xK A.f_qm A.fd_qm
 B_qm:Binds K A.fd_qm ["_law_state_here","_law_most"] []
 m_qm:mg "_law_order" = some (.ref A.f_qm)
 F_qk:Fun K "_law_loose" "_law_loose" BZ A.f_qk A.fd_qk
 B_qk:Binds K A.fd_qk ["_law_order_here"] []
 m_qk:mg "_law_loose" = some (.ref A.f_qk)
 F_qb:Fun K "_law_least_with" "_law_least_with" CA A.f_qb A.fd_qb
 B_qb:Binds K A.fd_qb ["_law_order_here","_law_reach"] []
 m_qb:mg "_law_least_with" = some (.ref A.f_qb)
 F_qa:Fun K "_law_least_reach" "_law_least_reach" CB A.f_qa A.fd_qa
 B_qa:Binds K A.fd_qa ["_law_order_here"] []
 m_qa:mg "_law_least_reach" = some (.ref A.f_qa)
 F_qr:Fun K "_law_same" "_law_same" xM A.f_qr A.fd_qr
 B_qr:Binds K A.fd_qr ["_law_found","_law_due"] []
 m_qr:mg "_law_same" = some (.ref A.f_qr)
 F_qc:Fun K "_law_bad_order" "_law_bad_order" CC A.f_qc A.fd_qc
 B_qc:Binds K A.fd_qc ["_law_state_here"] []
 m_qc:mg "_law_bad_order" = some (.ref A.f_qc)
 F_qf:Fun K "_law_refused" "_law_refused" nV A.f_qf A.fd_qf
 B_qf:Binds K A.fd_qf ["_law_call"] []
 m_qf:mg "_law_refused" = some (.ref A.f_qf)
 F_q4:Fun K "law" "law" sT A.f_q4 A.fd_q4
 B_q4:Binds K A.fd_q4 ["_law_script"] []
 m_q4:mg "law" = some (.ref A.f_q4)
 z_ValueError:mg "ValueError" = none
 z_all:mg "all" = none
 z_any:mg "any" = none
 z_bool:mg "bool" = none
 z_enumerate:mg "enumerate" = none
 z_int:mg "int" = none
 z_isinstance:mg "isinstance" = none
 z_len:mg "len" = none
 z_list:mg "list" = none
 z_max:mg "max" = none
 z_min:mg "min" = none
 z_range:mg "range" = none
 z_set:mg "set" = none
 z_sorted:mg "sorted" = none
 z_tuple:mg "tuple" = none
 z_zip:mg "zip" = none
 c_MOST_THINGS:mg "MOST_THINGS" = some (.int 6 A.t_MOST_THINGS)
 c_MOST_APART:mg "MOST_APART" = some (.int 5 A.t_MOST_APART)
 n_NoOrder:mg "NoOrder" = some (.ref A.c_NoOrder)
 n_NoNumber:mg "NoNumber" = some (.ref A.c_NoNumber)
 n_NoPairs:mg "NoPairs" = some (.ref A.c_NoPairs)
 n_Round:mg "Round" = some (.ref A.c_Round)
 n_NoThing:mg "NoThing" = some (.ref A.c_NoThing)
 n_NoRow:mg "NoRow" = some (.ref A.c_NoRow)
 n_TooMany:mg "TooMany" = some (.ref A.c_TooMany)
 n_TooFew:mg "TooFew" = some (.ref A.c_TooFew)
 n_NoText:mg "NoText" = some (.ref A.c_NoText)
 n_NoLine:mg "NoLine" = some (.ref A.c_NoLine)
 n_NoDeed:mg "NoDeed" = some (.ref A.c_NoDeed)
 n_NoSeating:mg "NoSeating" = some (.ref A.c_NoSeating)
 n_NoRing:mg "NoRing" = some (.ref A.c_NoRing)
 n_NoSizes:mg "NoSizes" = some (.ref A.c_NoSizes)
 ns_NoOrder:qg K dm "NoOrder" = some (some (.ref A.c_NoOrder))
 x_NoOrder:ou K A.c_NoOrder qW "ValueError.__new__" = true
 ce_NoOrder:A.c_NoOrder=G.cl 0
 ns_NoNumber:qg K dm "NoNumber" = some (some (.ref A.c_NoNumber))
 x_NoNumber:ou K A.c_NoNumber qW "ValueError.__new__" = true
 ce_NoNumber:A.c_NoNumber=G.cl 1
 ktV:∀c b,tblV.lookup c=some b->cx G.K (.ref (G.cl c)) (.type "ValueError")=some b/\ExK G.K (G.cl c)
 kt0:∀c b,tbl0.lookup c=some b->cx G.K (.ref (G.cl c)) (.ref A.c_NoOrder)=some b/\ExK G.K (G.cl c)
 kt1:∀c b,tbl1.lookup c=some b->cx G.K (.ref (G.cl c)) (.ref A.c_NoNumber)=some b/\ExK G.K (G.cl c)
 kt2:∀c b,tbl2.lookup c=some b->cx G.K (.ref (G.cl c)) (.ref A.c_NoPairs)=some b/\ExK G.K (G.cl c)
 kt3:∀c b,tbl3.lookup c=some b->cx G.K (.ref (G.cl c)) (.ref A.c_Round)=some b/\ExK G.K (G.cl c)
 kt4:∀c b,tbl4.lookup c=some b->cx G.K (.ref (G.cl c)) (.ref A.c_NoThing)=some b/\ExK G.K (G.cl c)
 kt5:∀c b,tbl5.lookup c=some b->cx G.K (.ref (G.cl c)) (.ref A.c_NoRow)=some b/\ExK G.K (G.cl c)
 kt6:∀c b,tbl6.lookup c=some b->cx G.K (.ref (G.cl c)) (.ref A.c_TooMany)=some b/\ExK G.K (G.cl c)
 kt7:∀c b,tbl7.lookup c=some b->cx G.K (.ref (G.cl c)) (.ref A.c_TooFew)=some b/\ExK G.K (G.cl c)
 kt8:∀c b,tbl8.lookup c=some b->cx G.K (.ref (G.cl c)) (.ref A.c_NoText)=some b/\ExK G.K (G.cl c)
 kt9:∀c b,tbl9.lookup c=some b->cx G.K (.ref (G.cl c)) (.ref A.c_NoLine)=some b/\ExK G.K (G.cl c)
 kt10:∀c b,tbl10.lookup c=some b->cx G.K (.ref (G.cl c)) (.ref A.c_NoDeed)=some b/\ExK G.K (G.cl c)
 kt11:∀c b,tbl11.lookup c=some b->cx G.K (.ref (G.cl c)) (.ref A.c_NoSeating)=some b/\ExK G.K (G.cl c)
 kt12:∀c b,tbl12.lookup c=some b->cx G.K (.ref (G.cl c)) (.ref A.c_NoRing)=some b/\ExK G.K (G.cl c)
 kt13:∀c b,tbl13.lookup c=some b->cx G.K (.ref (G.cl c)) (.ref A.c_NoSizes)=some b/\ExK G.K (G.cl c)
 n_NearError:mg "NearError" = some (.ref A.NE)
 e1:jh K (.ref A.NE) (.type "BaseException")=some true
 e2:jh K (.type "type") (.type "tuple")=some false
 e3:vk K (.ref A.NE) (.ref A.NE)=some true
 e4:∀c,c<14->jh K (.ref (G.cl c)) (.ref A.NE)=some true
 lq:(("law" : Str) ++ ".<locals>.") ++ "<lambda>" = G.lq
 tab:G.tab=some A.P
 code:A.fd_q4.code=.ref A.cc
theorem LD:(["one","other"]:List Str).Nodup:=by decide +kernel
theorem ZG:(["part","many"]:List Str).Nodup:=by decide +kernel
theorem ZH:(["thing","many"]:List Str).Nodup:=by decide +kernel
theorem xN:(["a","b"]:List Str).Nodup:=by decide +kernel
theorem xO:(["a","b","middle","c","pairs"]:List Str).Nodup:=by decide +kernel
theorem LF:(["thing","many","pairs"]:List Str).Nodup:=by decide +kernel
theorem ZI:(["order","one","other","pairs"]:List Str).Nodup:=by decide +kernel
theorem xP:(["order","reach","many","pairs","up","aside"]:List Str).Nodup:=by decide +kernel
theorem LG:(["a","b","reach","order","many"]:List Str).Nodup:=by decide +kernel
theorem LH:(["thing","place","needs","places"]:List Str).Nodup:=by decide +kernel
theorem CD:(["a","b","by","places","thing"]:List Str).Nodup:=by decide +kernel
theorem xQ:(["order","reach","needs","places","higher"]:List Str).Nodup:=by decide +kernel
theorem ZJ:(["reach","order"]:List Str).Nodup:=by decide +kernel
theorem ZK:(["_law_script","_law_k","_law_cell"]:List Str).Nodup:=by decide +kernel
theorem CF:(["_law_state_here","_law_many","_law_found","_law_stirred"]:List Str).Nodup:=by decide +kernel
theorem LI:(["_law_state_here","_law_many","_law_left","_law_found"]:List Str).Nodup:=by decide +kernel
theorem xR:(["_law_many","_law_pairs","_law_found","_law_middle","_law_a","_law_b"]:List Str).Nodup:=by decide +kernel
theorem kC:(["_law_state_here","_law_most","_law_many","_law_row","_law_way","_law_kind","_law_pairs","_law_at","_law_later","_law_linked"]:List Str).Nodup:=by decide +kernel
theorem ZL:(["_law_thing","_law_state_here"]:List Str).Nodup:=by decide +kernel
theorem CG:(["_law_order_here","_law_found","_law_a","_law_b"]:List Str).Nodup:=by decide +kernel
theorem mO:(["_law_order_here","_law_reach","_law_found","_law_turn","_law_up","_law_a","_law_b"]:List Str).Nodup:=by decide +kernel
theorem LJ:(["_law_order_here","_law_reach"]:List Str).Nodup:=by decide +kernel
theorem LK:(["_law_one","_law_other"]:List Str).Nodup:=by decide +kernel
theorem CH:(["_law_state_here","_law_some"]:List Str).Nodup:=by decide +kernel
theorem sU:(["_law_call","_law_error","e","_law_marks"]:List Str).Nodup:=by decide +kernel
theorem ZM:(["_law_k","_law_marks"]:List Str).Nodup:=by decide +kernel
theorem pM:(["_law_script","_law_k","_law_state_here","_law_order_here","_law_least","_law_turn","_law_none"]:List Str).Nodup:=by decide +kernel
section
variable{P:bj}{w:cq}{K:aq}{mg:Str->Option af}{base:cw}{G:Cfg}{A:Ad}
theorem ZN:FnScope ["thing"] ["thing"] (aW BJ):=⟨rfl,rfl,rfl,by decide +kernel,rfl,by decide +kernel,by decide +kernel⟩
theorem ZO (T:Tx K mg G A):FnOk P w K mg base (bF P w base) 1 A.f_qz A.fd_qz ["thing"] (cF G F_qz):=dP (k:=0) (N:=["thing"]) (mb:=wF) T.F_qz ZN T.hK λcdv Ar outer s H E₀ E g=>(bB (bS (lO (VV rfl T.z_isinstance rfl T.z_int (aD 0)) (mX (GN (AK rfl T.z_isinstance rfl T.z_bool (aD 0)))))))
theorem ZP:FnScope ["thing","low","high"] ["thing","low","high"] (aW BK):=⟨rfl,rfl,rfl,by decide +kernel,rfl,by decide +kernel,by decide +kernel⟩
theorem CI (T:Tx K mg G A):FnOk P w K mg base (bF P w base) 2 A.f_qp A.fd_qp ["thing","low","high"] (cF G F_qp):=dP (k:=1) (N:=["thing","low","high"]) (mb:=sH) T.F_qp ZP T.hK λcdv Ar outer s H E₀ E g=>(bB (bS (lO (cC g (ZO T) (by decide) rfl T.m_qz T.F_qz.kp T.B_qz (aG (aD 0) aO)) (mX (VM (aD 1) (aD 0) (aD 2))))))
theorem ZQ:FnScope ["thing","low","high"] ["thing","low","high"] (aW BL):=⟨rfl,rfl,rfl,by decide +kernel,rfl,by decide +kernel,by decide +kernel⟩
theorem ZR (T:Tx K mg G A):FnOk P w K mg base (bF P w base) 3 A.f_qg A.fd_qg ["thing","low","high"] (cF G F_qg):=dP (k:=2) (N:=["thing","low","high"]) (mb:=BG) T.F_qg ZQ T.hK λcdv Ar outer s H E₀ E g=>(bB (dZ (kE (gL (cC g (CI T) (by decide) rfl T.m_qp T.F_qp.kp T.B_qp (aG (aD 0) (aG (aD 1) (aG (aD 2) aO)))))) (bB (S5 (slots:=[1,2]) g rfl T.n_NoNumber T.ns_NoNumber T.x_NoNumber T.ce_NoNumber (PTxs.cons (HG (by decide)) (PTxs.cons (HI (pW (i:=1) rfl (by first|exact Aq rfl|exact Or.inr (Aq rfl)))) (PTxs.cons (HG (by decide)) (PTxs.cons (HI (pW (i:=2) rfl (by first|exact Aq rfl|exact Or.inr (Aq rfl)))) PTxs.nil)))) (λσ hh=>⟨trivial,hh 1 (by decide),trivial,hh 2 (by decide),trivial⟩))) dY))
theorem ZS:FnScope ["parts"] ["parts"] (aW xD):=⟨rfl,rfl,rfl,by decide +kernel,rfl,by decide +kernel,by decide +kernel⟩
theorem ZT (T:Tx K mg G A):FnOk P w K mg base (bF P w base) 1 A.f_qw A.fd_qw ["parts"] (cF G F_qw):=dP (k:=0) (N:=["parts"]) (mb:=A9) T.F_qw ZS T.hK λcdv Ar outer s H E₀ E g=>(bB (bS (qY g.calm rfl T.z_all (lT g.calm (iO (N:=["one","other"]) (cap:=[none,none]) (os:=(aW xD)) (oN:=["parts"]) rfl rfl rfl (by decide +kernel) rfl (by decide +kernel) (by decide +kernel) (by decide +kernel)) (HU rfl T.z_zip (aG (aD 0) (aG (YL (aD 0) (VF aY) VE) aO))) (λs H ex=>(jB (eM g).calm (dW (cA (i:=0) LD rfl (by first|exact .inl rfl|exact .inr rfl)) (dW (cA (i:=1) LD rfl (by first|exact .inl rfl|exact .inr rfl)) jA)))) (λs H ex=>kH) (λs H ex=>(A7 (eM g) (aD 0) (aD 1)))))))
theorem ZU:FnScope ["many","thing"] ["many","thing"] (aW BM):=⟨rfl,rfl,rfl,by decide +kernel,rfl,by decide +kernel,by decide +kernel⟩
theorem ZV (T:Tx K mg G A):FnOk P w K mg base (bF P w base) 3 A.f_qy A.fd_qy ["many","thing"] (cF G F_qy):=dP (k:=2) (N:=["many","thing"]) (mb:=wG) T.F_qy ZU T.hK λcdv Ar outer s H E₀ E g=>(bB (bS (cC g (CI T) (by decide) rfl T.m_qp T.F_qp.kp T.B_qp (aG (aD 1) (aG aY (aG (pA (aD 0) aY) aO))))))
theorem ZW:FnScope ["many","thing"] ["many","thing"] (aW xE):=⟨rfl,rfl,rfl,by decide +kernel,rfl,by decide +kernel,by decide +kernel⟩
theorem ZX (T:Tx K mg G A):FnOk P w K mg base (bF P w base) 4 A.f_qo A.fd_qo ["many","thing"] (cF G F_qo):=dP (k:=3) (N:=["many","thing"]) (mb:=sJ) T.F_qo ZW T.hK λcdv Ar outer s H E₀ E g=>(bB (bS (lO (rO rfl T.z_isinstance rfl T.z_tuple (aD 1)) (mX (qY g.calm rfl T.z_all (lT g.calm (iO (N:=["part","many"]) (cap:=[none,some 0]) (os:=(aW xE)) (oN:=["many","thing"]) rfl rfl rfl (by decide +kernel) rfl (by decide +kernel) (by decide +kernel) (by decide +kernel)) (lR (aD 1)) (λs H ex=>(cA (i:=0) ZG rfl (by first|exact .inl rfl|exact .inr rfl))) (λs H ex=>kH) (λs H ex=>(cC (eM g) (ZV T) (by decide) rfl T.m_qy T.F_qy.kp T.B_qy (aG (aD 1) (aG (aD 0) aO))))))))))
theorem ZY:FnScope ["many","thing"] ["many","thing"] (aW BN):=⟨rfl,rfl,rfl,by decide +kernel,rfl,by decide +kernel,by decide +kernel⟩
theorem ZZ (T:Tx K mg G A):FnOk P w K mg base (bF P w base) 5 A.f_q1 A.fd_q1 ["many","thing"] (cF G F_q1):=dP (k:=4) (N:=["many","thing"]) (mb:=nQ) T.F_q1 ZY T.hK λcdv Ar outer s H E₀ E g=>(bB (bS (lO (cC g (ZX T) (by decide) rfl T.m_qo T.F_qo.kp T.B_qo (aG (aD 0) (aG (aD 1) aO))) (mX (rM g (rP rfl T.z_len (aG (aD 1) aO)) aY)))))
theorem Z0:FnScope ["many","things"] ["many","things"] (aW xF):=⟨rfl,rfl,rfl,by decide +kernel,rfl,by decide +kernel,by decide +kernel⟩
theorem Z1 (T:Tx K mg G A):FnOk P w K mg base (bF P w base) 6 A.f_qu A.fd_qu ["many","things"] (cF G F_qu):=dP (k:=5) (N:=["many","things"]) (mb:=wH) T.F_qu Z0 T.hK λcdv Ar outer s H E₀ E g=>(bB (bS (qY g.calm rfl T.z_all (lT g.calm (iO (N:=["thing","many"]) (cap:=[none,some 0]) (os:=(aW xF)) (oN:=["many","things"]) rfl rfl rfl (by decide +kernel) rfl (by decide +kernel) (by decide +kernel) (by decide +kernel)) (lR (aD 1)) (λs H ex=>(cA (i:=0) ZH rfl (by first|exact .inl rfl|exact .inr rfl))) (λs H ex=>kH) (λs H ex=>(cC (eM g) (ZZ T) (by decide) rfl T.m_q1 T.F_q1.kp T.B_q1 (aG (aD 1) (aG (aD 0) aO))))))))
theorem Z2:FnScope ["pairs"] ["pairs"] (aW xG):=⟨rfl,rfl,rfl,by decide +kernel,rfl,by decide +kernel,by decide +kernel⟩
theorem Z3 (T:Tx K mg G A):FnOk P w K mg base (bF P w base) 1 A.f_qv A.fd_qv ["pairs"] (cF G F_qv):=dP (k:=0) (N:=["pairs"]) (mb:=BA) T.F_qv Z2 T.hK λcdv Ar outer s H E₀ E g=>(bB (bS (TZ g.calm rfl T.z_any (lT g.calm (iO (N:=["a","b"]) (cap:=[none,none]) (os:=(aW xG)) (oN:=["pairs"]) rfl rfl rfl (by decide +kernel) rfl (by decide +kernel) (by decide +kernel) (by decide +kernel)) (lR (aD 0)) (λs H ex=>(jB (eM g).calm (dW (cA (i:=0) xN rfl (by first|exact .inl rfl|exact .inr rfl)) (dW (cA (i:=1) xN rfl (by first|exact .inl rfl|exact .inr rfl)) jA)))) (λs H ex=>kH) (λs H ex=>(rM (eM g) (aD 0) (aD 1)))))))
theorem Z4:FnScope ["pairs"] ["pairs"] (aW xH):=⟨rfl,rfl,rfl,by decide +kernel,rfl,by decide +kernel,by decide +kernel⟩
theorem Z5 (T:Tx K mg G A):FnOk P w K mg base (bF P w base) 1 A.f_qi A.fd_qi ["pairs"] (cF G F_qi):=dP (k:=0) (N:=["pairs"]) (mb:=BB) T.F_qi Z4 T.hK λcdv Ar outer s H E₀ E g=>(bB (bS (qY g.calm rfl T.z_all (SO g.calm (iO (N:=["a","b","middle","c","pairs"]) (cap:=[none,none,none,none,some 0]) (os:=(aW xH)) (oN:=["pairs"]) rfl rfl rfl (by decide +kernel) rfl (by decide +kernel) (by decide +kernel) (by decide +kernel)) (lR (aD 0)) (λs H ex=>(jB (eM g).calm (dW (cA (i:=0) xO rfl (by first|exact .inl rfl|exact .inr rfl)) (dW (cA (i:=1) xO rfl (by first|exact .inl rfl|exact .inr rfl)) jA)))) (λs H ex=>kH) (λs H ex=>(lR (aD 4))) (λs H ex=>(jB (eM g).calm (dW (cA (i:=2) xO rfl (by first|exact .inl rfl|exact .inr rfl)) (dW (cA (i:=3) xO rfl (by first|exact .inl rfl|exact .inr rfl)) jA)))) (λs H ex=>(uW (pD (eM g) (aD 1) (aD 2)))) (λs H ex=>(WL (eM g) (gJ (aG (aD 0) (aG (aD 3) aO))) (aD 4)))))))
theorem Z6:FnScope ["thing","many","pairs"] ["thing"] (aW BO):=⟨rfl,rfl,rfl,by decide +kernel,rfl,by decide +kernel,by decide +kernel⟩
theorem Z7 (T:Tx K mg G A):FnOk P w K mg base (bF P w base) 7 A.f_qx A.fd_qx ["thing"] (cF G F_qx):=dP (k:=6) (N:=["thing","many","pairs"]) (mb:=mJ) T.F_qx Z6 T.hK λcdv Ar outer s H E₀ E g=>(bD (dZ (SndW.t (uK (kE (gL (rO rfl T.z_isinstance rfl T.z_tuple (aD 0)))) (uJ (nK g (rP rfl T.z_len (aG (aD 0) aO)) aY)))) (bB (bS iG)) dY) (bD (G5 (aD 0) (jB g.calm (dW (cA (i:=1) LF rfl (by first|exact .inl rfl|exact .inr rfl)) (dW (cA (i:=2) LF rfl (by first|exact .inl rfl|exact .inr rfl)) jA)))) (bD (dZ (SndW.t (uK (kE (gL (cC g (CI T) (by decide) rfl T.m_qp T.F_qp.kp T.B_qp (aG (aD 1) (aG aY (aG (AH rfl T.c_MOST_THINGS) aO)))))) (uJ (kE (gL (rO rfl T.z_isinstance rfl T.z_tuple (aD 2))))))) (bB (bS iG)) dY) (bD (dZ (SndW.t (uK (kE (gL (cC g (Z1 T) (by decide) rfl T.m_qu T.F_qu.kp T.B_qu (aG (aD 1) (aG (aD 2) aO))))) (uJ (kE (gL (cC g (ZT T) (by decide) rfl T.m_qw T.F_qw.kp T.B_qw (aG (aD 2) aO))))))) (bB (bS iG)) dY) (bB (bS (lO (GN (cC g (Z3 T) (by decide) rfl T.m_qv T.F_qv.kp T.B_qv (aG (aD 2) aO))) (mX (cC g (Z5 T) (by decide) rfl T.m_qi T.F_qi.kp T.B_qi (aG (aD 2) aO))))))))))
theorem Z8:FnScope ["order"] ["order"] (aW BP):=⟨rfl,rfl,rfl,by decide +kernel,rfl,by decide +kernel,by decide +kernel⟩
theorem Z9 (T:Tx K mg G A):FnOk P w K mg base (bF P w base) 8 A.f_qq A.fd_qq ["order"] (cF G F_qq):=dP (k:=7) (N:=["order"]) (mb:=wL) T.F_qq Z8 T.hK λcdv Ar outer s H E₀ E g=>(bB (dZ (kE (gL (cC g (Z7 T) (by decide) rfl T.m_qx T.F_qx.kp T.B_qx (aG (aD 0) aO)))) (bB (S1 g rfl T.n_NoOrder T.ns_NoOrder T.x_NoOrder T.ce_NoOrder (aG GK aO))) dY))
theorem a9:FnScope ["order","one","other","pairs"] ["order","one","other"] (aW BQ):=⟨rfl,rfl,rfl,by decide +kernel,rfl,by decide +kernel,by decide +kernel⟩
theorem b9 (T:Tx K mg G A):FnOk P w K mg base (bF P w base) 1 A.f_qt A.fd_qt ["order","one","other"] (cF G F_qt):=dP (k:=0) (N:=["order","one","other","pairs"]) (mb:=sM) T.F_qt a9 T.hK λcdv Ar outer s H E₀ E g=>(bD (cL (i:=3) ZI rfl (by first|exact .inl rfl|exact .inr rfl) (cO (aD 0) aY)) (bB (bS (lO (VL g (aD 1) (aD 2)) (lO (JA g (gJ (aG (aD 1) (aG (aD 2) aO))) (aD 3)) (mX (JA g (gJ (aG (aD 2) (aG (aD 1) aO))) (aD 3))))))))
theorem c6:FnScope ["order","reach","many","pairs","up","aside"] ["order","reach"] (aW sR):=⟨rfl,rfl,rfl,by decide +kernel,rfl,by decide +kernel,by decide +kernel⟩
theorem c7 (T:Tx K mg G A):FnOk P w K mg base (bF P w base) 2 A.f_q0 A.fd_q0 ["order","reach"] (cF G F_q0):=dP (k:=1) (N:=["order","reach","many","pairs","up","aside"]) (mb:=wN) T.F_q0 c6 T.hK λcdv Ar outer s H E₀ E g=>(bD (G5 (aD 0) (jB g.calm (dW (cA (i:=2) xP rfl (by first|exact .inl rfl|exact .inr rfl)) (dW (cA (i:=3) xP rfl (by first|exact .inl rfl|exact .inr rfl)) jA)))) (bD (JE (i:=4) xP rfl g.calm (iO (N:=["a","b"]) (cap:=[none,none]) (os:=(aW sR)) (oN:=["order","reach","many","pairs","up","aside"]) rfl rfl rfl (by decide +kernel) rfl (by decide +kernel) (by decide +kernel) (by decide +kernel)) (lR (aD 3)) (λs H ex=>(jB (eM g).calm (dW (cA (i:=0) xN rfl (by first|exact .inl rfl|exact .inr rfl)) (dW (cA (i:=1) xN rfl (by first|exact .inl rfl|exact .inr rfl)) jA)))) (λs H ex=>kH) (λs H ex=>(gJ (aG (aD 0) (aG (aD 1) (aG aY aO)))))) (bD (WO (i:=5) xP rfl g.calm (iO (N:=["a","b","reach","order","many"]) (cap:=[none,none,some 1,some 0,some 2]) (os:=(aW sR)) (oN:=["order","reach","many","pairs","up","aside"]) rfl rfl rfl (by decide +kernel) rfl (by decide +kernel) (by decide +kernel) (by decide +kernel)) (jD rfl T.z_range (aG (aD 2) aO)) (λs H ex=>(cA (i:=0) LG rfl (by first|exact .inl rfl|exact .inr rfl))) (λs H ex=>kH) (λs H ex=>(jD rfl T.z_range (aG (aD 4) aO))) (λs H ex=>(cA (i:=1) LG rfl (by first|exact .inl rfl|exact .inr rfl))) (λs H ex=>(uW (gL (cC (eM g) (b9 T) (by decide) rfl T.m_qt T.F_qt.kp T.B_qt (aG (aD 3) (aG (aD 0) (aG (aD 1) aO))))))) (λs H ex=>(gJ (aG (aD 0) (aG (aD 1) (aG (IP (aD 2)) aO)))))) (bB (bS (fS (aD 4) (aD 5)))))))
theorem c8:FnScope ["places","needs"] ["places","needs"] (aW xI):=⟨rfl,rfl,rfl,by decide +kernel,rfl,by decide +kernel,by decide +kernel⟩
theorem c9 (T:Tx K mg G A):FnOk P w K mg base (bF P w base) 1 A.f_q2 A.fd_q2 ["places","needs"] (cF G F_q2):=dP (k:=0) (N:=["places","needs"]) (mb:=wO) T.F_q2 c8 T.hK λcdv Ar outer s H E₀ E g=>(bB (bS (uU (lT g.calm (iO (N:=["thing","place","needs","places"]) (cap:=[none,none,some 1,some 0]) (os:=(aW xI)) (oN:=["places","needs"]) rfl rfl rfl (by decide +kernel) rfl (by decide +kernel) (by decide +kernel) (by decide +kernel)) (WC rfl T.z_enumerate (aG (aD 0) aO)) (λs H ex=>(jB (eM g).calm (dW (cA (i:=0) LH rfl (by first|exact .inl rfl|exact .inr rfl)) (dW (cA (i:=1) LH rfl (by first|exact .inl rfl|exact .inr rfl)) jA)))) (λs H ex=>kH) (λs H ex=>(AO (eM g).calm rfl T.z_max (aG (fS (gZ (aG (aD 1) aO)) (uU (lT (eM g).calm (iO (N:=["a","b","by","places","thing"]) (cap:=[none,none,none,some 3,some 0]) (os:={ kind:=.function,names:=[(".0",.local),("thing",.cell),("place",.local),("max",.globalImplicit),("needs",.cell),("places",.cell)],isGenerator:=false,isCoroutine:=false }) (oN:=["thing","place","needs","places"]) rfl rfl rfl (by decide +kernel) rfl (by decide +kernel) (by decide +kernel) (by decide +kernel)) (G6 (aD 2)) (λs H ex=>(jB (eM (eM g)).calm (dW (cA (i:=0) CD rfl (by first|exact .inl rfl|exact .inr rfl)) (dW (cA (i:=1) CD rfl (by first|exact .inl rfl|exact .inr rfl)) (dW (cA (i:=2) CD rfl (by first|exact .inl rfl|exact .inr rfl)) jA))))) (λs H ex=>(uW (pD (eM (eM g)) (aD 1) (aD 4)))) (λs H ex=>(fS (cO (aD 3) (aD 0)) (aD 2)))))) aO)))))))
theorem d3:FnScope ["order","reach","needs","places","higher"] ["order","reach"] (aW BR):=⟨rfl,rfl,rfl,by decide +kernel,rfl,by decide +kernel,by decide +kernel⟩
theorem LL (T:Tx K mg G A):FnOk P w K mg base (bF P w base) 9 A.f_q3 A.fd_q3 ["order","reach"] (cF G F_q3):=dP (k:=8) (N:=["order","reach","needs","places","higher"]) (mb:=sN) T.F_q3 d3 T.hK λcdv Ar outer s H E₀ E g=>(bD (oS (cC g (Z9 T) (by decide) rfl T.m_qq T.F_qq.kp T.B_qq (aG (aD 0) aO))) (bD (oS (cC g (ZR T) (by decide) rfl T.m_qg T.F_qg.kp T.B_qg (aG (aD 1) (aG aY (aG (AH rfl T.c_MOST_APART) aO))))) (bD (cL (i:=2) xQ rfl (by first|exact .inl rfl|exact .inr rfl) (cC g (c7 T) (by decide) rfl T.m_q0 T.F_q0.kp T.B_q0 (aG (aD 0) (aG (aD 1) aO)))) (bD (cL (i:=3) xQ rfl (by first|exact .inl rfl|exact .inr rfl) (IV (nS 2) (cO (aD 0) aY))) (bD (AG 40 g.own (K1 g (AO g.calm rfl T.z_max (aG (aD 3) aO)) (cO (aD 0) aY)) (bD (cL (i:=4) xQ rfl (by first|exact .inl rfl|exact .inr rfl) (cC g (c9 T) (by decide) rfl T.m_q2 T.F_q2.kp T.B_q2 (aG (aD 3) (aG (aD 2) aO)))) (bD (dZ (pD g (aD 4) (aD 3)) (bB (bS (uP rfl T.z_tuple (aG (aD 3) aO)))) dY) (bB (cL (i:=3) xQ rfl (by first|exact .inl rfl|exact .inr rfl) (aD 4)))))) (bB (bS mU)))))))
theorem d4:FnScope ["order"] ["order"] (aW xJ):=⟨rfl,rfl,rfl,by decide +kernel,rfl,by decide +kernel,by decide +kernel⟩
theorem CJ (T:Tx K mg G A):FnOk P w K mg base (bF P w base) 10 A.f_qj A.fd_qj ["order"] (cF G F_qj):=Y9 (k:=9) (N:=["order"]) (mb:=sO) T.F_qj d4 T.hK λcdv Ar outer s H E₀ E g p=>(bB (bS (WH g.calm rfl T.z_min (aG (uU (Y8 g.calm (iO (N:=["reach","order"]) (cap:=[none,some 0]) (os:=(aW xJ)) (oN:=["order"]) rfl rfl rfl (by decide +kernel) rfl (by decide +kernel) (by decide +kernel) (by decide +kernel)) (jD rfl T.z_range (aG (fS (AH rfl T.c_MOST_APART) aY) aO)) (λs H ex=>(cA (i:=0) ZJ rfl (by first|exact .inl rfl|exact .inr rfl))) (λs H ex=>(Y7 (WN (Y2 g.room (Y1 rfl rfl p) (LL T) (by decide) rfl T.m_q3 T.F_q3.kp T.B_q3 (aG (aD 1) (aG (aD 0) aO))) mU))) (λs H ex=>(aD 0)))) aO))))
theorem d6:FnScope ["order"] ["order"] (aW BS):=⟨rfl,rfl,rfl,by decide +kernel,rfl,by decide +kernel,by decide +kernel⟩
theorem LM (T:Tx K mg G A):FnOk P w K mg base (bF P w base) 11 A.f_qd A.fd_qd ["order"] (cF G F_qd):=dP (k:=10) (N:=["order"]) (mb:=wQ) T.F_qd d6 T.hK λcdv Ar outer s H E₀ E g=>(bB (bS (cC g (LL T) (by decide) rfl T.m_q3 T.F_q3.kp T.B_q3 (aG (aD 0) (aG (cC g (CJ T) (by decide) rfl T.m_qj T.F_qj.kp T.B_qj (aG (aD 0) aO)) aO)))))
theorem d7:FnScope ["_law_script","_law_k"] ["_law_script","_law_k"] (aW BU):=⟨rfl,rfl,rfl,by decide +kernel,rfl,by decide +kernel,by decide +kernel⟩
theorem d8 (T:Tx K mg G A):FnOk P w K mg base (bF P w base) 1 A.f_qe A.fd_qe ["_law_script","_law_k"] (cF G (F_qe G.scr)):=dP (k:=0) (N:=["_law_script","_law_k"]) (mb:=(wI G.scr)) T.F_qe d7 T.hK λcdv Ar outer s H E₀ E g=>(bD (dZ (K1 g (aD 1) (G2 rfl T.z_len (aG (aD 0) aO))) (bB (bS (SD (aD 0) (aD 1)))) dY) (bB (bS aY)))
theorem d9:FnScope ["_law_script","_law_k","_law_cell"] ["_law_script","_law_k"] (aW BV):=⟨rfl,rfl,rfl,by decide +kernel,rfl,by decide +kernel,by decide +kernel⟩
theorem h8 (T:Tx K mg G A):FnOk P w K mg base (bF P w base) 2 A.f_qn A.fd_qn ["_law_script","_law_k"] (cF G (F_qn G.scr)):=dP (k:=1) (N:=["_law_script","_law_k","_law_cell"]) (mb:=(wJ G.scr)) T.F_qn d9 T.hK λcdv Ar outer s H E₀ E g=>(bD (cL (i:=2) ZK rfl (by first|exact .inl rfl|exact .inr rfl) (cC g (d8 T) (by decide) rfl T.m_qe T.F_qe.kp T.B_qe (aG (aD 0) (aG (aD 1) aO)))) (bD (dZ (IQ (aD 2) (IM aY aY)) (bB (bS (gZ (aG (pA (aD 2) (IM aY aY)) (aG iG aO))))) dY) (bB (bS (gZ (aG (nJ (aD 2) aY) (aG iG aO)))))))
theorem h9:FnScope ["_law_state_here","_law_many","_law_found","_law_stirred"] ["_law_state_here","_law_many"] (aW BW):=⟨rfl,rfl,rfl,by decide +kernel,rfl,by decide +kernel,by decide +kernel⟩
theorem pN (T:Tx K mg G A):FnOk P w K mg base (bF P w base) 1 A.f_qs A.fd_qs ["_law_state_here","_law_many"] (cF G F_qs):=dP (k:=0) (N:=["_law_state_here","_law_many","_law_found","_law_stirred"]) (mb:=wK) T.F_qs h9 T.hK λcdv Ar outer s H E₀ E g=>(bD (dZ (gL (cO (aD 0) aY)) (bD (cL (i:=2) CF rfl (by first|exact .inl rfl|exact .inr rfl) (nJ (cO (aD 0) aY) (aD 1))) (bD (rA (aD 0) aY (IY (cO (aD 0) aY) (aD 1))) (bB (bS (aD 2))))) dY) (bD (rA (aD 0) aY (nJ (fS (pC (cO (aD 0) aY) aY) aY) aY)) (bD (cL (i:=3) CF rfl (by first|exact .inl rfl|exact .inr rfl) (nJ (fS (fS (pC (cO (aD 0) aY) (cO (aD 0) aY)) (pC aY (cO (aD 0) aY))) aY) aY)) (bD (cL (i:=3) CF rfl (by first|exact .inl rfl|exact .inr rfl) (nJ (fS (pC (aD 3) (aD 3)) (pC aY (aD 3))) aY)) (bB (bS (nJ (IY (aD 3) aY) (aD 1))))))))
theorem i0:FnScope ["_law_state_here","_law_many","_law_left","_law_found"] ["_law_state_here","_law_many"] (aW BX):=⟨rfl,rfl,rfl,by decide +kernel,rfl,by decide +kernel,by decide +kernel⟩
theorem i6 (T:Tx K mg G A):FnOk P w K mg base (bF P w base) 2 A.f_ql A.fd_ql ["_law_state_here","_law_many"] (cF G F_ql):=dP (k:=1) (N:=["_law_state_here","_law_many","_law_left","_law_found"]) (mb:=wR) T.F_ql i0 T.hK λcdv Ar outer s H E₀ E g=>(bD (cL (i:=2) LI rfl (by first|exact .inl rfl|exact .inr rfl) (YO g rfl T.z_list rfl T.z_range (aG (aD 1) aO))) (bD (cL (i:=3) LI rfl (by first|exact .inl rfl|exact .inr rfl) (gZ aO)) (bD (AG 40 g.own (nK g (aD 2) (gZ aO)) (bB (oS (vB (aD 3) (VC (aD 2) (cC g (pN T) (by decide) rfl T.m_qs T.F_qs.kp T.B_qs (aG (aD 0) (aG (rP rfl T.z_len (aG (aD 2) aO)) aO)))))))) (bB (bS (uP rfl T.z_tuple (aG (aD 3) aO)))))))
theorem i7:FnScope ["_law_many","_law_pairs","_law_found","_law_middle","_law_a","_law_b"] ["_law_many","_law_pairs"] (aW BY):=⟨rfl,rfl,rfl,by decide +kernel,rfl,by decide +kernel,by decide +kernel⟩
theorem i8 (T:Tx K mg G A):FnOk P w K mg base (bF P w base) 1 A.f_qh A.fd_qh ["_law_many","_law_pairs"] (cF G F_qh):=dP (k:=0) (N:=["_law_many","_law_pairs","_law_found","_law_middle","_law_a","_law_b"]) (mb:=wU) T.F_qh i7 T.hK λcdv Ar outer s H E₀ E g=>(bD (cL (i:=2) xR rfl (by first|exact .inl rfl|exact .inr rfl) (IU rfl T.z_list (aG (aD 1) aO))) (bD (jE g.own g.calm (jD rfl T.z_range (aG (aD 0) aO)) (cA (i:=3) xR rfl (by first|exact .inl rfl|exact .inr rfl)) (bB (jE g.own g.calm (jD rfl T.z_range (aG (aD 0) aO)) (cA (i:=4) xR rfl (by first|exact .inl rfl|exact .inr rfl)) (bB (jE g.own g.calm (jD rfl T.z_range (aG (aD 0) aO)) (cA (i:=5) xR rfl (by first|exact .inl rfl|exact .inr rfl)) (bB (dZ (SndW.t (zM (JB g (gJ (aG (aD 4) (aG (aD 3) aO))) (aD 2)) (zM (JB g (gJ (aG (aD 3) (aG (aD 5) aO))) (aD 2)) (GL (AR g (gJ (aG (aD 4) (aG (aD 5) aO))) (aD 2)))))) (bB (oS (vB (aD 2) (gJ (aG (aD 4) (aG (aD 5) aO)))))) dY))))))) (bB (bS (uP rfl T.z_tuple (aG (YS g rfl T.z_sorted rfl T.z_set (aG (aD 2) aO)) aO))))))
theorem i9:FnScope ["_law_state_here","_law_most","_law_many","_law_row","_law_way","_law_kind","_law_pairs","_law_at","_law_later","_law_linked"] ["_law_state_here","_law_most"] (aW xK):=⟨rfl,rfl,rfl,by decide +kernel,rfl,by decide +kernel,by decide +kernel⟩
theorem j3 (T:Tx K mg G A):FnOk P w K mg base (bF P w base) 3 A.f_qm A.fd_qm ["_law_state_here","_law_most"] (cF G F_qm):=dP (k:=2) (N:=["_law_state_here","_law_most","_law_many","_law_row","_law_way","_law_kind","_law_pairs","_law_at","_law_later","_law_linked"]) (mb:=wV) T.F_qm i9 T.hK λcdv Ar outer s H E₀ E g=>(bD (cL (i:=2) kC rfl (by first|exact .inl rfl|exact .inr rfl) (pA (aD 1) (cO (gZ (aG aY (aG aY (aG aY (aG aY (aG aY (aG aY (aG aY (aG (pA (aD 1) aY) aO))))))))) (cC g (pN T) (by decide) rfl T.m_qs T.F_qs.kp T.B_qs (aG (aD 0) (aG aY aO)))))) (bD (cL (i:=2) kC rfl (by first|exact .inl rfl|exact .inr rfl) (qR g.calm rfl T.z_max (aG aY (aG (aD 2) aO)))) (bD (cL (i:=3) kC rfl (by first|exact .inl rfl|exact .inr rfl) (cC g (i6 T) (by decide) rfl T.m_ql T.F_ql.kp T.B_ql (aG (aD 0) (aG (aD 2) aO)))) (bD (cL (i:=4) kC rfl (by first|exact .inl rfl|exact .inr rfl) (cC g (pN T) (by decide) rfl T.m_qs T.F_qs.kp T.B_qs (aG (aD 0) (aG aY aO)))) (bD (JE (i:=5) kC rfl g.calm (iO (N:=["_law_thing","_law_state_here"]) (cap:=[none,some 0]) (os:=(aW xK)) (oN:=["_law_state_here","_law_most","_law_many","_law_row","_law_way","_law_kind","_law_pairs","_law_at","_law_later","_law_linked"]) rfl rfl rfl (by decide +kernel) rfl (by decide +kernel) (by decide +kernel) (by decide +kernel)) (lR (aD 3)) (λs H ex=>(cA (i:=0) ZL rfl (by first|exact .inl rfl|exact .inr rfl))) (λs H ex=>kH) (λs H ex=>(cC (eM g) (pN T) (by decide) rfl T.m_qs T.F_qs.kp T.B_qs (aG (aD 1) (aG aY aO))))) (bD (cL (i:=6) kC rfl (by first|exact .inl rfl|exact .inr rfl) (gZ aO)) (bD (jE g.own g.calm (jD rfl T.z_range (aG (aD 2) aO)) (cA (i:=7) kC rfl (by first|exact .inl rfl|exact .inr rfl)) (bB (jE g.own g.calm (G7 rfl T.z_range (aG (fS (aD 7) aY) (aG (aD 2) aO))) (cA (i:=8) kC rfl (by first|exact .inl rfl|exact .inr rfl)) (bD (cL (i:=9) kC rfl (by first|exact .inl rfl|exact .inr rfl) (A7 g (cC g (pN T) (by decide) rfl T.m_qs T.F_qs.kp T.B_qs (aG (aD 0) (aG aY aO))) (cO (nS 2) (nJ (aD 4) aY)))) (bD (dZ (pD g (aD 4) aY) (bB (cL (i:=9) kC rfl (by first|exact .inl rfl|exact .inr rfl) (rM g (cO (aD 5) (aD 7)) (cO (aD 5) (aD 8))))) dY) (bD (dZ (pD g (aD 4) aY) (bB (cL (i:=9) kC rfl (by first|exact .inl rfl|exact .inr rfl) (A7 g (cO (aD 5) (aD 7)) (cO (aD 5) (aD 8))))) dY) (bB (dZ (gL (aD 9)) (bB (oS (vB (aD 6) (gJ (aG (cO (aD 3) (aD 7)) (aG (cO (aD 3) (aD 8)) aO)))))) dY)))))))) (bB (bS (gJ (aG (aD 2) (aG (cC g (i8 T) (by decide) rfl T.m_qh T.F_qh.kp T.B_qh (aG (aD 2) (aG (aD 6) aO))) aO))))))))))))
theorem j5:FnScope ["_law_order_here","_law_found","_law_a","_law_b"] ["_law_order_here"] (aW BZ):=⟨rfl,rfl,rfl,by decide +kernel,rfl,by decide +kernel,by decide +kernel⟩
theorem j6 (T:Tx K mg G A):FnOk P w K mg base (bF P w base) 1 A.f_qk A.fd_qk ["_law_order_here"] (cF G F_qk):=dP (k:=0) (N:=["_law_order_here","_law_found","_law_a","_law_b"]) (mb:=wW) T.F_qk j5 T.hK λcdv Ar outer s H E₀ E g=>(bD (cL (i:=1) CG rfl (by first|exact .inl rfl|exact .inr rfl) (gZ aO)) (bD (jE g.own g.calm (jD rfl T.z_range (aG (cO (aD 0) aY) aO)) (cA (i:=2) CG rfl (by first|exact .inl rfl|exact .inr rfl)) (bB (jE g.own g.calm (G7 rfl T.z_range (aG (fS (aD 2) aY) (aG (cO (aD 0) aY) aO))) (cA (i:=3) CG rfl (by first|exact .inl rfl|exact .inr rfl)) (bB (dZ (SndW.t (zM (AR g (gJ (aG (aD 2) (aG (aD 3) aO))) (cO (aD 0) aY)) (GL (AR g (gJ (aG (aD 3) (aG (aD 2) aO))) (cO (aD 0) aY))))) (bB (oS (vB (aD 1) (gJ (aG (aD 2) (aG (aD 3) aO)))))) dY))))) (bB (bS (aD 1)))))
theorem j7:FnScope ["_law_order_here","_law_reach","_law_found","_law_turn","_law_up","_law_a","_law_b"] ["_law_order_here","_law_reach"] (aW CA):=⟨rfl,rfl,rfl,by decide +kernel,rfl,by decide +kernel,by decide +kernel⟩
theorem LN (T:Tx K mg G A):FnOk P w K mg base (bF P w base) 2 A.f_qb A.fd_qb ["_law_order_here","_law_reach"] (cF G F_qb):=dP (k:=1) (N:=["_law_order_here","_law_reach","_law_found","_law_turn","_law_up","_law_a","_law_b"]) (mb:=K8) T.F_qb j7 T.hK λcdv Ar outer s H E₀ E g=>(bD (cL (i:=2) mO rfl (by first|exact .inl rfl|exact .inr rfl) (IV (nS 2) (cO (aD 0) aY))) (bD (jE g.own g.calm (jD rfl T.z_range (aG (fS (pC (cO (aD 0) aY) (cO (aD 0) aY)) aY) aO)) (cA (i:=3) mO rfl (by first|exact .inl rfl|exact .inr rfl)) (bD (cL (i:=4) mO rfl (by first|exact .inl rfl|exact .inr rfl) (IU rfl T.z_list (aG (aD 2) aO))) (bD (jE g.own g.calm (lR (cO (aD 0) aY)) (jB g.calm (dW (cA (i:=5) mO rfl (by first|exact .inl rfl|exact .inr rfl)) (dW (cA (i:=6) mO rfl (by first|exact .inl rfl|exact .inr rfl)) jA))) (bB (rA (aD 4) (aD 6) (qR g.calm rfl T.z_max (aG (cO (aD 4) (aD 6)) (aG (fS (cO (aD 2) (aD 5)) aY) aO)))))) (bD (jE g.own g.calm (G6 (cC g (j6 T) (by decide) rfl T.m_qk T.F_qk.kp T.B_qk (aG (aD 0) aO))) (jB g.calm (dW (cA (i:=5) mO rfl (by first|exact .inl rfl|exact .inr rfl)) (dW (cA (i:=6) mO rfl (by first|exact .inl rfl|exact .inr rfl)) jA))) (bD (rA (aD 4) (aD 5) (qR g.calm rfl T.z_max (aG (cO (aD 4) (aD 5)) (aG (pA (cO (aD 2) (aD 6)) (aD 1)) aO)))) (bB (rA (aD 4) (aD 6) (qR g.calm rfl T.z_max (aG (cO (aD 4) (aD 6)) (aG (pA (cO (aD 2) (aD 5)) (aD 1)) aO))))))) (bD (dZ (pD g (aD 4) (aD 2)) (bB (bS (uP rfl T.z_tuple (aG (aD 2) aO)))) dY) (bD (cL (i:=2) mO rfl (by first|exact .inl rfl|exact .inr rfl) (aD 4)) (bB (dZ (IQ (AO g.calm rfl T.z_max (aG (aD 2) aO)) (cO (aD 0) aY)) (bB (bS mU)) dY)))))))) (bB (bS mU))))
theorem j8:FnScope ["_law_order_here","_law_reach"] ["_law_order_here"] (aW CB):=⟨rfl,rfl,rfl,by decide +kernel,rfl,by decide +kernel,by decide +kernel⟩
theorem j9 (T:Tx K mg G A):FnOk P w K mg base (bF P w base) 3 A.f_qa A.fd_qa ["_law_order_here"] (cF G F_qa):=dP (k:=2) (N:=["_law_order_here","_law_reach"]) (mb:=K9) T.F_qa j8 T.hK λcdv Ar outer s H E₀ E g=>(bD (cL (i:=1) LJ rfl (by first|exact .inl rfl|exact .inr rfl) aY) (bD (AG 40 g.own (WM (cC g (LN T) (by decide) rfl T.m_qb T.F_qb.kp T.B_qb (aG (aD 0) (aG (aD 1) aO))) mU) (bB (cL (i:=1) LJ rfl (by first|exact .inl rfl|exact .inr rfl) (fS (aD 1) aY)))) (bB (bS (aD 1)))))
theorem k6:FnScope ["_law_found","_law_due"] ["_law_found","_law_due"] (aW xM):=⟨rfl,rfl,rfl,by decide +kernel,rfl,by decide +kernel,by decide +kernel⟩
theorem CK (T:Tx K mg G A):∀n,FnOk P w K mg base (bF P w base) n A.f_qr A.fd_qr ["_law_found","_law_due"] (cF G (F_qr n))
 |0=>V0
 |n+1=>by have okS:=CK T n;exact dP (N:=["_law_found","_law_due"]) (mb:=sL (F_qr n)) T.F_qr k6 T.hK λcdv Ar outer s H E₀ E g=>(bD (dZ (gL (VX rfl T.z_isinstance rfl T.z_tuple rfl T.z_list (aD 1))) (bD (dZ (SndW.t (uK (nK g (rO rfl T.z_isinstance rfl T.z_tuple (aD 0)) (rO rfl T.z_isinstance rfl T.z_tuple (aD 1))) (uJ (nK g (IS rfl T.z_isinstance rfl T.z_list (aD 0)) (IS rfl T.z_isinstance rfl T.z_list (aD 1)))))) (bB (bS iG)) dY) (bD (dZ (nK g (rP rfl T.z_len (aG (aD 0) aO)) (rP rfl T.z_len (aG (aD 1) aO))) (bB (bS iG)) dY) (bB (bS (qY g.calm rfl T.z_all (lT g.calm (iO (N:=["_law_one","_law_other"]) (cap:=[none,none]) (os:=(aW xM)) (oN:=["_law_found","_law_due"]) rfl rfl rfl (by decide +kernel) rfl (by decide +kernel) (by decide +kernel) (by decide +kernel)) (HU rfl T.z_zip (aG (aD 0) (aG (aD 1) aO))) (λs H ex=>(jB (eM g).calm (dW (cA (i:=0) LK rfl (by first|exact .inl rfl|exact .inr rfl)) (dW (cA (i:=1) LK rfl (by first|exact .inl rfl|exact .inr rfl)) jA)))) (λs H ex=>kH) (λs H ex=>(cC (eM g) okS (ak _) rfl T.m_qr T.F_qr.kp T.B_qr (aG (aD 0) (aG (aD 1) aO)))))))))) dY) (bB (bS (lO (rM g (aD 0) (aD 1)) (mX (rM g (AK rfl T.z_isinstance rfl T.z_bool (aD 0)) (AK rfl T.z_isinstance rfl T.z_bool (aD 1))))))))
theorem k7:FnScope ["_law_state_here","_law_some"] ["_law_state_here"] (aW CC):=⟨rfl,rfl,rfl,by decide +kernel,rfl,by decide +kernel,by decide +kernel⟩
theorem k8 (T:Tx K mg G A):FnOk P w K mg base (bF P w base) 2 A.f_qc A.fd_qc ["_law_state_here"] (cF G F_qc):=ZE (k:=1) (N:=["_law_state_here","_law_some"]) (mb:=wX) T.F_qc k7 T.hK λcdv Ar outer s H E₀ E g=>(BI (ZD 5 (i:=1) CH rfl (by first|exact .inl rfl|exact .inr rfl)) (BI (LB 5 (i:=1) CH rfl (by first|exact .inl rfl|exact .inr rfl) (aD 1)) (BI (LB 5 (i:=1) CH rfl (by first|exact .inl rfl|exact .inr rfl) (aD 1)) (ZC (SW.mk (bS (cO (aD 1) (cC g (pN T) (by decide) rfl T.m_qs T.F_qs.kp T.B_qs (aG (aD 0) (aG aY aO))))))))))
theorem k9:FnScope ["_law_call","_law_error","e","_law_marks"] ["_law_call"] (aW nV):=⟨rfl,rfl,rfl,by decide +kernel,rfl,by decide +kernel,by decide +kernel⟩
theorem l6 {k:Nat}(T:Tx K mg G A) (cdv:af) (Ar:cu) (outer:List Env) (s:ag) (H:Hp) (E₀ E:XK) (g:Good (eE (bF P w base) P w K mg base ["_law_call","_law_error","e","_law_marks"] "_law_refused" (aW nV) A.f_qf cdv Ar outer s H E₀) G E k):hO (eE (bF P w base) P w K mg base ["_law_call","_law_error","e","_law_marks"] "_law_refused" (aW nV) A.f_qf cdv Ar outer s H E₀) G E ((iV nV).drop 2) iR:=(bD (cL (i:=3) sU rfl (by first|exact .inl rfl|exact .inr rfl) (gZ (aG (hZ rfl T.z_isinstance rfl T.n_NoOrder (aD 1) (λ_ h=>by cases h) T.kt0) (aG (hZ rfl T.z_isinstance rfl T.n_NoNumber (aD 1) (λ_ h=>by cases h) T.kt1) (aG (hZ rfl T.z_isinstance rfl T.n_NoPairs (aD 1) (λ_ h=>by cases h) T.kt2) aO))))) (bD (cL (i:=3) sU rfl (by first|exact .inl rfl|exact .inr rfl) (fS (aD 3) (gZ (aG (hZ rfl T.z_isinstance rfl T.n_Round (aD 1) (λ_ h=>by cases h) T.kt3) (aG (hZ rfl T.z_isinstance rfl T.n_NoThing (aD 1) (λ_ h=>by cases h) T.kt4) (aG (hZ rfl T.z_isinstance rfl T.n_NoRow (aD 1) (λ_ h=>by cases h) T.kt5) aO)))))) (bD (cL (i:=3) sU rfl (by first|exact .inl rfl|exact .inr rfl) (fS (aD 3) (gZ (aG (hZ rfl T.z_isinstance rfl T.n_TooMany (aD 1) (λ_ h=>by cases h) T.kt6) (aG (hZ rfl T.z_isinstance rfl T.n_TooFew (aD 1) (λ_ h=>by cases h) T.kt7) (aG (hZ rfl T.z_isinstance rfl T.n_NoText (aD 1) (λ_ h=>by cases h) T.kt8) aO)))))) (bD (cL (i:=3) sU rfl (by first|exact .inl rfl|exact .inr rfl) (fS (aD 3) (gZ (aG (hZ rfl T.z_isinstance rfl T.n_NoLine (aD 1) (λ_ h=>by cases h) T.kt9) (aG (hZ rfl T.z_isinstance rfl T.n_NoDeed (aD 1) (λ_ h=>by cases h) T.kt10) (aG (hZ rfl T.z_isinstance rfl T.n_NoSeating (aD 1) (λ_ h=>by cases h) T.kt11) aO)))))) (bD (cL (i:=3) sU rfl (by first|exact .inl rfl|exact .inr rfl) (fS (aD 3) (gZ (aG (hZ rfl T.z_isinstance rfl T.n_NoRing (aD 1) (λ_ h=>by cases h) T.kt12) (aG (hZ rfl T.z_isinstance rfl T.n_NoSizes (aD 1) (λ_ h=>by cases h) T.kt13) aO))))) (bD (dZ (kE (gL (VY rfl T.z_isinstance rfl T.z_ValueError (aD 1) (λ_ h=>by cases h) T.ktV))) (bB (bS mU)) dY) (bB (bS (uU (lT g.calm (iO (N:=["_law_k","_law_marks"]) (cap:=[none,some 3]) (os:=(aW nV)) (oN:=["_law_call","_law_error","e","_law_marks"]) rfl rfl rfl (by decide +kernel) rfl (by decide +kernel) (by decide +kernel) (by decide +kernel)) (jD rfl T.z_range (aG aY aO)) (λs H ex=>(cA (i:=0) ZM rfl (by first|exact .inl rfl|exact .inr rfl))) (λs H ex=>(uW (gL (cO (aD 1) (aD 0))))) (λs H ex=>(aD 0))))))))))))
theorem LO {k:Nat}{Nl:List Str}{params:kd}{body:bp}{scope:gh}{me:M Dv}(T:Tx K mg G A) (LS:LamScope Nl scope) (hb:∀(cl:List (Str×ah)) (pm cdv ct:af),bindArgs (nt "<lambda>" G.lq params body scope cl pm cdv ct) ⟨[],[]⟩=pure [])
  (hbody:∀(f:ah) (cdv:af) (cl:List (Str×ah)) (A:cu) (outer:List Env) (s:ag) (H:Hp) (E₀ E:XK),Good (iL P w K mg base Nl G.lq scope f cdv cl A outer s H E₀) G E k->aH (iL P w K mg base Nl G.lq scope f cdv cl A outer s H E₀) G E body me):
  FnOk P w K mg base (bF P w base) (k+2) A.f_qf A.fd_qf ["_law_call"] (vE G base Nl params body scope me 4 14 iR):=
 UP T.F_qf k9 T.hK rfl rfl rfl rfl rfl rfl rfl (by decide) (by decide) (by decide) (by decide) (by decide) (λ_ _=>rfl) (λ_ _=>rfl) (λ_ _=>rfl) rfl T.n_NearError T.e1 T.e2 T.e3 T.e4 LS hb hbody (l6 T)
theorem l8:FnScope ["_law_script","_law_k","_law_state_here","_law_order_here","_law_least","_law_turn","_law_none"] ["_law_script"] (aW sT):=⟨rfl,rfl,rfl,by decide +kernel,rfl,by decide +kernel,by decide +kernel⟩
theorem l9 (T:Tx K mg G A) (hC:jy base A.cc A.P) (hB:lA mg base):FnOk P w K mg base (bF P w base) 15 A.f_q4 A.fd_q4 ["_law_script"] (cF G (F_q4 G.scr)):=VZ (k:=14) (N:=["_law_script","_law_k","_law_state_here","_law_order_here","_law_least","_law_turn","_law_none"]) (mb:=xC G.scr) T.F_q4 l8 T.hK λcdv Ar outer s H E₀ E hcd g=>(bD (jE g.own g.calm (jD rfl T.z_range (aG (qR g.calm rfl T.z_max (aG aY (aG (SJ g.calm rfl T.z_min (aG (G2 rfl T.z_len (aG (aD 0) aO)) (aG aY aO))) aO))) aO)) (cA (i:=1) pM rfl (by first|exact .inl rfl|exact .inr rfl)) (bD (cL (i:=2) pM rfl (by first|exact .inl rfl|exact .inr rfl) (cC g (h8 T) (by decide) rfl T.m_qn T.F_qn.kp T.B_qn (aG (aD 0) (aG (aD 1) aO)))) (bD (cL (i:=3) pM rfl (by first|exact .inl rfl|exact .inr rfl) (cC g (j3 T) (by decide) rfl T.m_qm T.F_qm.kp T.B_qm (aG (aD 2) (aG aY aO)))) (bD (cL (i:=4) pM rfl (by first|exact .inl rfl|exact .inr rfl) (cC g (j9 T) (by decide) rfl T.m_qa T.F_qa.kp T.B_qa (aG (aD 3) aO))) (bD (jE g.own g.calm (jD rfl T.z_range (aG aY aO)) (cA (i:=5) pM rfl (by first|exact .inl rfl|exact .inr rfl)) (bD (dZ (kE (gL (cC g (CK T 6) (by decide) rfl T.m_qr T.F_qr.kp T.B_qr (aG (cC g (CJ T) (by decide) rfl T.m_qj T.F_qj.kp T.B_qj (aG (aD 3) aO)) (aG (aD 4) aO))))) (bB (bS iG)) dY) (bB (dZ (kE (gL (cC g (CK T 6) (by decide) rfl T.m_qr T.F_qr.kp T.B_qr (aG (cC g (LM T) (by decide) rfl T.m_qd T.F_qd.kp T.B_qd (aG (aD 3) aO)) (aG (cC g (LN T) (by decide) rfl T.m_qb T.F_qb.kp T.B_qb (aG (aD 3) (aG (aD 4) aO))) aO))))) (bB (bS iG)) dY)))) (bD (cL (i:=6) pM rfl (by first|exact .inl rfl|exact .inr rfl) (cC g (k8 T) (by decide) rfl T.m_qc T.F_qc.kp T.B_qc (aG (aD 2) aO))) (bD (dZ (nK g (IT (Nl:=["_law_none"]) (caps:=[6]) (me:=sP) (os:=aW sT) (oN:=["_law_script","_law_k","_law_state_here","_law_order_here","_law_least","_law_turn","_law_none"]) g (j:=11+2) (by decide) (λ_=>rfl) (λbase _ _=>LO (k:=11) T ⟨rfl,rfl,rfl,by decide +kernel,by decide +kernel,by decide +kernel⟩ (λ_ _ _ _=>rfl) (λf cdv cl Ar outer s H E₀ E g=>(cC g (CJ T) (by decide) rfl T.m_qj T.F_qj.kp T.B_qj (aG (aD 0) aO)))) rfl T.m_qf T.F_qf.kp T.B_qf rfl T.lq T.tab (hcd.symm.trans T.code) hC hB ⟨rfl,rfl,rfl,by decide +kernel,by decide +kernel,by decide +kernel⟩ rfl rfl (by decide +kernel) rfl (by decide +kernel)) (nS 2)) (bB (bS iG)) dY) (bB (dZ (nK g (IT (Nl:=["_law_none"]) (caps:=[6]) (me:=sQ) (os:=aW sT) (oN:=["_law_script","_law_k","_law_state_here","_law_order_here","_law_least","_law_turn","_law_none"]) g (j:=11+2) (by decide) (λ_=>rfl) (λbase _ _=>LO (k:=11) T ⟨rfl,rfl,rfl,by decide +kernel,by decide +kernel,by decide +kernel⟩ (λ_ _ _ _=>rfl) (λf cdv cl Ar outer s H E₀ E g=>(cC g (LM T) (by decide) rfl T.m_qd T.F_qd.kp T.B_qd (aG (aD 0) aO)))) rfl T.m_qf T.F_qf.kp T.B_qf rfl T.lq T.tab (hcd.symm.trans T.code) hC hB ⟨rfl,rfl,rfl,by decide +kernel,by decide +kernel,by decide +kernel⟩ rfl rfl (by decide +kernel) rfl (by decide +kernel)) (nS 2)) (bB (bS iG)) dY))))))))) (bB (bS iG)))
end
end L2.Mr.K52
namespace L2.Mr
open PySem PySem.Spec PyProof.Rows L2
def bump (up:List Int) (b v:Int):Option (List Int):=match dM up.length b with
 |none=>none
 |some k=>match up[k]? with
  |none=>none
  |some u=>some (up.set k (if v>u then v else u))
def lI (fs:List Int):List Int->List (Int×Int)->Option (List Int)
 |up,[]=>some up
 |up,p::ps=>match cI fs p.1 with
  |none=>none
  |some f=>match bump up p.2 (f+1)with
   |none=>none
   |some up1=>lI fs up1 ps
def mP (r:Int) (fs:List Int):List Int->List (Int×Int)->Option (List Int)
 |up,[]=>some up
 |up,p::ps=>match cI fs p.2 with
  |none=>none
  |some f2=>match bump up p.1 (f2 - r)with
   |none=>none
   |some up1=>match cI fs p.1 with
    |none=>none
    |some f1=>match bump up1 p.2 (f1 - r)with
     |none=>none
     |some up2=>mP r fs up2 ps
theorem LP {α β:Type}(f:α->β) (xs:List α) (i:Int):cI (xs.map f) i=(cI xs i).map f:=by
 unfold cI;rw[br]
 cases dM xs.length i with
 |none=>rfl
 |some k=>simp
section
variable{H:Hs}{j:Nat}{up up1:List Int}{b v:Int}{ρ:Ev}{x:Nat}
theorem CL {mv:M Dv}(hj:getL H j=some (up.map Dv.int)) (h4:ρ[4]?=some (some (.ref j))) (hx:ρ[x]?=some (some (.int b))) (hv:mv ρ H=.ok (.int v) H) (h:bump up b v=some up1):
  iK (aB 4) (aB x) (aF fZ (aA (m2 aQ (aB 4) (aB x)) (aA mv aC))) ρ H=.nx ρ (H.set j (.lst (up1.map Dv.int))):=by
 unfold bump at h
 split at h
 ·cases h
 ·rename_i k hk
  split at h
  ·cases h
  ·rename_i u hu;cases h;have ha:cI (up.map Dv.int) b=some (.int u):=by rw[LP];unfold cI;rw[hk];simp[hu]
   have hk':dM (up.map Dv.int).length b=some k:=by rw[br];exact hk
   simp only[iK,aF,aA,m2,aB,h4,hx,Rs.bind_ok,aQ,eW,eU,hj,hJ,ha,hv,aC,fZ,if_true];simp only[Rs.thenS,qZ,hj,hk',List.map_set]
end
theorem LQ {H:Hs}{j:Nat}{xs:List Dv}(e:getL H j=some xs):H.set j (.lst xs)=H:=by
 apply lj
 intro k
 by_cases hk:j=k
 ·subst hk;rw[da (nL e),cX e]
 ·rw[dg hk]
def b1:MS:=iK (aB 4) (aB 6) (aF fZ (aA (m2 aQ (aB 4) (aB 6)) (aA (m2 bH (m2 aQ (aB 2) (aB 5)) (mC (.int 1))) aC)))
def b2:MS:=aJ (iK (aB 4) (aB 5) (aF fZ (aA (m2 aQ (aB 4) (aB 5)) (aA (m2 gA (m2 aQ (aB 2) (aB 6)) (aB 1)) aC)))) (iK (aB 4) (aB 6) (aF fZ (aA (m2 aQ (aB 4) (aB 6)) (aA (m2 gA (m2 aQ (aB 2) (aB 5)) (aB 1)) aC))))
def pO:cG:=cY 2 (bM (aE 5) (bM (aE 6) dD))
section
variable{d:Dv}{r:Int}{i j:Nat}{fs:List Int}
theorem xS {H:Hs}{a f:Int}(e:getL H i=some (fs.map Dv.int)) (h:cI fs a=some f):aQ (.ref i) (.int a) H=.ok (.int f) H:=by
 have:cI (fs.map Dv.int) a=some (.int f):=by rw[LP,h];rfl
 simp only[aQ,eW,eU,e,hJ,this,if_true]
theorem m6 {H:Hs}{x3:Option Dv}{up up1:List Int}{a b f:Int}(ei:getL H i=some (fs.map Dv.int)) (ej:getL H j=some (up.map Dv.int)) (hf:cI fs a=some f) (h:bump up b (f+1)=some up1):
  b1 [some d,some (.int r),some (.ref i),x3,some (.ref j),some (.int a),some (.int b)] H=.nx [some d,some (.int r),some (.ref i),x3,some (.ref j),some (.int a),some (.int b)] (H.set j (.lst (up1.map Dv.int))):=
 CL (x:=6) ej rfl rfl (by simp[m2,aB,xS ei hf,mC,bH,kF]) h
theorem m7 {H:Hs}{x3:Option Dv}{up up1 up2:List Int}{a b f f2:Int}(hij:j≠i) (ei:getL H i=some (fs.map Dv.int)) (ej:getL H j=some (up.map Dv.int)) (hf:cI fs a=some f) (hf2:cI fs b=some f2) (h:bump up a (f2 - r)=some up1) (h2:bump up1 b (f - r)=some up2):
  b2 [some d,some (.int r),some (.ref i),x3,some (.ref j),some (.int a),some (.int b)] H=.nx [some d,some (.int r),some (.ref i),x3,some (.ref j),some (.int a),some (.int b)] (H.set j (.lst (up2.map Dv.int))):=by
 unfold b2;rw[bJ (CL (x:=5) ej rfl rfl (by simp[m2,aB,xS ei hf2,gA,hG]) h)];have ei':getL (H.set j (.lst (up1.map Dv.int))) i=some (fs.map Dv.int):=by rw[lB hij];exact ei
 rw[CL (x:=6) (jG ej) rfl rfl (by simp[m2,aB,xS ei' hf,gA,hG]) h2,uq]
theorem m8 {H H1:Hs}{x3 x5 x6:Option Dv}{up v:List Int}{ps:List (Int×Int)}{mi:M Src}(hij:j≠i) (ei:getL H i=some (fs.map Dv.int)) (ej:getL H j=some (up.map Dv.int)) (h:lI fs up ps=some v)
  (hi:mi [some d,some (.int r),some (.ref i),x3,some (.ref j),x5,x6] H=.ok (cM (ps.map aI)) H):
  ∃y5 y6,cV mi pO b1 [some d,some (.int r),some (.ref i),x3,some (.ref j),x5,x6] H=.nx [some d,some (.int r),some (.ref i),x3,some (.ref j),y5,y6] (H.set j (.lst (v.map Dv.int))):=by
 have hn:(cM (ps.map aI)).n=ps.length:=by simp[cM]
 obtain⟨ρ',H',h1,y5,y6,up',h2,h3,h4⟩:=mH (b:=b1) (sg:=pO) hi (λk ρ H'=>∃(y5 y6:Option Dv) (up':List Int),ρ=[some d,some (.int r),some (.ref i),x3,some (.ref j),y5,y6]/\H'=H.set j (.lst (up'.map Dv.int))/\lI fs up' (ps.drop k)=some v)
  (λk ρ H' hk ⟨y5,y6,up',e1,e2,e3⟩=>by
   subst e1;subst e2;rw[hn]at hk;rw[pd hk]at e3;unfold lI at e3
   cases hf:cI fs ps[k].1 with
   |none=>rw[hf]at e3;cases e3
   |some f=>
    rw[hf]at e3;dsimp only at e3
    cases hb:bump up' ps[k].2 (f+1)with
    |none=>rw[hb]at e3;cases e3
    |some up1=>
     rw[hb]at e3;dsimp only at e3;have ei':getL (H.set j (.lst (up'.map Dv.int))) i=some (fs.map Dv.int):=by rw[lB hij];exact ei
     refine⟨aI ps[k],[some d,some (.int r),some (.ref i),x3,some (.ref j),some (.int ps[k].1),some (.int ps[k].2)],_,_,by simp[cM,hk],rfl,m6 ei' (jG ej) hf hb,_,_,up1,rfl,by rw[uq],e3⟩) (λ_ _ _=>rfl) ⟨x5,x6,up,rfl,(LQ ej).symm,h⟩
 rw[hn,List.drop_length]at h4;have:up'=v:=by simpa[lI]using h4
 subst this;exact⟨y5,y6,by rw[h1,h2,h3]⟩
theorem m9 {H:Hs}{x3 x5 x6:Option Dv}{q:Nat}{up v:List Int}{qs:List (Int×Int)}{mi:M Src}{H0:Hs}(hij:j≠i) (hqj:j≠q) (ei:getL H i=some (fs.map Dv.int)) (ej:getL H j=some (up.map Dv.int)) (eq:getL H q=some (qs.map aI)) (h:mP r fs up qs=some v)
  (hi:mi [some d,some (.int r),some (.ref i),x3,some (.ref j),x5,x6] H0=.ok (jP q qs.length) H):
  ∃y5 y6,cV mi pO b2 [some d,some (.int r),some (.ref i),x3,some (.ref j),x5,x6] H0=.nx [some d,some (.int r),some (.ref i),x3,some (.ref j),y5,y6] (H.set j (.lst (v.map Dv.int))):=by
 have hn:(jP q qs.length).n=qs.length:=rfl;obtain⟨ρ',H',h1,y5,y6,up',h2,h3,h4⟩:=mH (b:=b2) (sg:=pO) hi (λk ρ H'=>∃(y5 y6:Option Dv) (up':List Int),ρ=[some d,some (.int r),some (.ref i),x3,some (.ref j),y5,y6]/\H'=H.set j (.lst (up'.map Dv.int))/\mP r fs up' (qs.drop k)=some v)
  (λk ρ H' hk ⟨y5,y6,up',e1,e2,e3⟩=>by
   subst e1;subst e2;rw[hn]at hk;rw[pd hk]at e3;unfold mP at e3;have ei':getL (H.set j (.lst (up'.map Dv.int))) i=some (fs.map Dv.int):=by rw[lB hij];exact ei
   have eq':getL (H.set j (.lst (up'.map Dv.int))) q=some (qs.map aI):=by rw[lB hqj];exact eq
   cases hf:cI fs qs[k].2 with
   |none=>rw[hf]at e3;cases e3
   |some f=>
    rw[hf]at e3;dsimp only at e3
    cases hb:bump up' qs[k].1 (f - r)with
    |none=>rw[hb]at e3;cases e3
    |some up1=>
     rw[hb]at e3;dsimp only at e3
     cases hf2:cI fs qs[k].1 with
     |none=>rw[hf2]at e3;cases e3
     |some f2=>
      rw[hf2]at e3;dsimp only at e3
      cases hb2:bump up1 qs[k].2 (f2 - r)with
      |none=>rw[hb2]at e3;cases e3
      |some up2=>
       rw[hb2]at e3;dsimp only at e3;have eg:(jP q qs.length).get k (H.set j (.lst (up'.map Dv.int)))=some (aI qs[k]):=by simp[jP,eq',hk]
       refine⟨aI qs[k],[some d,some (.int r),some (.ref i),x3,some (.ref j),some (.int qs[k].1),some (.int qs[k].2)],_,_,eg,rfl,m7 hij ei' (jG ej) hf2 hf hb hb2,_,_,up2,rfl,by rw[uq],e3⟩)
  (λρ H' ⟨_,_,up',_,e2,_⟩=>by
   subst e2;have eq':getL (H.set j (.lst (up'.map Dv.int))) q=some (qs.map aI):=by rw[lB hqj];exact eq
   simp[jP,eq']) ⟨x5,x6,up,rfl,(LQ ej).symm,h⟩
 rw[hn,List.drop_length]at h4;have:up'=v:=by simpa[mP]using h4
 subst this;exact⟨y5,y6,by rw[h1,h2,h3]⟩
end
theorem LR:∀xs ys:List Int,fX (xs.map Dt.int) (ys.map Dt.int)=decide (xs=ys)
 | [],[]=>by simp[fX]
 | [],y::ys=>by simp[fX]
 |x::xs,[]=>by simp[fX]
 |x::xs,y::ys=>by simp only[dw,fX,LR xs ys,bN];rw[gy];simp
theorem LU {H:Hs}{i j:Nat}{xs ys:List Int}(ei:getL H i=some (xs.map Dv.int)) (ej:getL H j=some (ys.map Dv.int)):cK (.ref i) (.ref j) H=.ok (.bl (decide (xs=ys))) H:=by
 have p:∀(i:Nat) (xs:List Int),getL H i=some (xs.map Dv.int)->bR cE H (.ref i)=some (.lst (xs.map Dt.int)):=λi xs e=>by show bR (28+1+1) H (.ref i)=_;rw[bR];simp only[e,AU]
 unfold cK;rw[p i xs ei,p j ys ej];simp only[bN,LR]
def nW (ps qs:List (Int×Int)) (r:Int) (fs:List Int):Option (List Int):=match lI fs fs ps with
 |none=>none
 |some up=>mP r fs up qs
def kM (n:Int) (ps qs:List (Int×Int)) (r:Int):Nat->List Int->Option (Option (List Int))
 |0,fs=>some none
 |f+1,fs=>match nW ps qs r fs with
  |none=>none
  |some up=>if up=fs then some (some fs)else if up.length=0 then none else if dF up>=n then some none else kM n ps qs r f up
def iB:Option (List Int)->Dv
 |none=>.non
 |some fs=>.tup (fs.map Dv.int)
def iS (Fl:List Dv->Hs->Rs Dv):MS:=aJ (aK (aF (f1 jU) (aA (aB 2) aC)) (aE 4)) (aJ (cV (cU eB (m2 aQ (aB 0) (mC (.int 1)))) pO b1) (aJ (cV (cU kG (aF Fl (aA (aB 0) aC))) pO b2) (aJ (aX (mB (m2 cK (aB 4) (aB 2))) (aN (aF (f1 gF) (aA (aB 2) aC))) bK) (aJ (aK (aB 4) (aE 2)) (aX (mB (m2 mG (aF (f1 (fB dF)) (aA (aB 2) aC)) (m2 aQ (aB 0) (mC (.int 0))))) (aN (mC .non)) bK)))))
def xT (Fl:List Dv->Hs->Rs Dv):MS:=aJ (aK (m2 jV (aV (aA (mC (.int 0)) aC)) (m2 aQ (aB 0) (mC (.int 0)))) (aE 2)) (aJ (cV (aR bX (aA (m2 bH (m2 iP (m2 aQ (aB 0) (mC (.int 0))) (m2 aQ (aB 0) (mC (.int 0)))) (mC (.int 2))) aC)) (aE 3) (iS Fl)) (aN (mC .non)))
theorem CM:∀ns:List Int,bQ gS (ns.map Dv.int)=some ns
 | []=>rfl
 |n::ns=>by simp[bQ,gS,CM ns]
section
variable{d:Dv}{n r:Int}{ps qs:List (Int×Int)}{Fl:List Dv->Hs->Rs Dv}
theorem n9 (hx0:∀H,aQ d (.int 0) H=.ok (.int n) H) (hx1:∀H,aQ d (.int 1) H=.ok (.tup (ps.map aI)) H) (hL:∀H,Fl [d] H=.ok (.ref H.length) (H++[Ob.lst (qs.map aI)]))
  {H:Hs}{i:Nat}{x3 x4 x5 x6:Option Dv}{fs up:List Int}(ei:getL H i=some (fs.map Dv.int)) (ht:nW ps qs r fs=some up):
  ∃(H':Hs),Fr [] H H'/\(up=fs->iS Fl [some d,some (.int r),some (.ref i),x3,x4,x5,x6] H=.rt (.tup (fs.map Dv.int)) H') /\
   (up≠fs->up.length≠0->if dF up>=n then iS Fl [some d,some (.int r),some (.ref i),x3,x4,x5,x6] H=.rt .non H' else ∃(j:Nat) (y4 y5 y6:Option Dv),iS Fl [some d,some (.int r),some (.ref i),x3,x4,x5,x6] H=.nx [some d,some (.int r),some (.ref j),x3,y4,y5,y6] H'/\getL H' j=some (up.map Dv.int)):=by
 unfold nW at ht
 cases hp:lI fs fs ps with
 |none=>rw[hp]at ht;cases ht
 |some u1=>
  rw[hp]at ht;dsimp only at ht;have li:=nL ei;have w0:aK (aF (f1 jU) (aA (aB 2) aC)) (aE 4) [some d,some (.int r),some (.ref i),x3,x4,x5,x6] H=.nx [some d,some (.int r),some (.ref i),x3,some (.ref H.length),x5,x6] (H++[Ob.lst (fs.map Dv.int)]):=by simp[aK,aF,aA,aB,aC,f1,jU,eW,oR,fY,ei,aE]
  have f0:Fr [] H (H++[Ob.lst (fs.map Dv.int)]):=Fr.app;have ei0:=jH (l:=[Ob.lst (fs.map Dv.int)]) ei;have ej0:getL (H++[Ob.lst (fs.map Dv.int)]) H.length=some (fs.map Dv.int):=by simp[getL]
  have hl0:(H++[Ob.lst (fs.map Dv.int)]).length=H.length+1:=by simp
  generalize hH0:H++[Ob.lst (fs.map Dv.int)]=H0 at w0 f0 ei0 ej0 hl0;obtain⟨y5,y6,w1⟩:=m8 (d:=d) (r:=r) (i:=i) (j:=H.length) (H:=H0) (H1:=H0) (x3:=x3) (x5:=x5) (x6:=x6) (mi:=cU eB (m2 aQ (aB 0) (mC (.int 1)))) (by omega) ei0 ej0 hp (by simp[cU,m2,aB,mC,hx1,eB]);have ei1:getL (H0.set H.length (Ob.lst (u1.map Dv.int))) i=some (fs.map Dv.int):=by rw[lB (by omega)];exact ei0
  have ej1:getL (H0.set H.length (Ob.lst (u1.map Dv.int))) H.length=some (u1.map Dv.int):=jG ej0;have f1':Fr [] H (H0.set H.length (Ob.lst (u1.map Dv.int))):=f0.trans (T:=[H.length]) Fr.set (by simp);have hl1:(H0.set H.length (Ob.lst (u1.map Dv.int))).length=H.length+1:=by simp[hl0]
  generalize H0.set H.length (Ob.lst (u1.map Dv.int))=H1 at w1 ei1 ej1 f1' hl1;have eq2:getL (H1++[Ob.lst (qs.map aI)]) H1.length=some (qs.map aI):=by simp[getL]
  obtain⟨z5,z6,w2⟩:=m9 (d:=d) (r:=r) (i:=i) (j:=H.length) (H:=H1++[Ob.lst (qs.map aI)]) (H0:=H1) (x3:=x3) (x5:=y5) (x6:=y6) (q:=H1.length) (mi:=cU kG (aF Fl (aA (aB 0) aC))) (by omega) (by omega) (jH ei1) (jH ej1) eq2 ht (by simp[cU,aF,aA,aB,aC,hL,kG,eq2]);have ei2:getL ((H1++[Ob.lst (qs.map aI)]).set H.length (Ob.lst (up.map Dv.int))) i=some (fs.map Dv.int):=by rw[lB (by omega)];exact jH ei1
  have ej2:getL ((H1++[Ob.lst (qs.map aI)]).set H.length (Ob.lst (up.map Dv.int))) H.length=some (up.map Dv.int):=jG (jH ej1);have f2':Fr [] H ((H1++[Ob.lst (qs.map aI)]).set H.length (Ob.lst (up.map Dv.int))):=(f1'.trans (T:=[]) Fr.app (by simp)).trans (T:=[H.length]) Fr.set (by simp);generalize (H1++[Ob.lst (qs.map aI)]).set H.length (Ob.lst (up.map Dv.int))=H2 at w2 ei2 ej2 f2';have t:mB (m2 cK (aB 4) (aB 2)) [some d,some (.int r),some (.ref i),x3,some (.ref H.length),z5,z6] H2=.ok (decide (up=fs)) H2:=by simp[mB,m2,aB,LU ej2 ei2,cP]
  refine⟨H2,f2',λh=>?_,λh hz=>?_⟩
  ·unfold iS;rw[bJ w0,bJ w1,bJ w2];unfold aJ;rw[vM (t.trans (by rw[decide_eq_true h]))];simp[aN,aF,aA,aB,aC,f1,gF,ei2,Rs.thenS]
  ·have hz':0<up.length:=by omega
   have w3:aX (mB (m2 cK (aB 4) (aB 2))) (aN (aF (f1 gF) (aA (aB 2) aC))) bK [some d,some (.int r),some (.ref i),x3,some (.ref H.length),z5,z6] H2=.nx [some d,some (.int r),some (.ref i),x3,some (.ref H.length),z5,z6] H2:=by rw[rV (t.trans (by rw[decide_eq_false h]))];rfl
   have w4:aK (aB 4) (aE 2) [some d,some (.int r),some (.ref i),x3,some (.ref H.length),z5,z6] H2=.nx [some d,some (.int r),some (.ref H.length),x3,some (.ref H.length),z5,z6] H2:=rfl;have t2:mB (m2 mG (aF (f1 (fB dF)) (aA (aB 2) aC)) (m2 aQ (aB 0) (mC (.int 0)))) [some d,some (.int r),some (.ref H.length),x3,some (.ref H.length),z5,z6] H2=.ok (decide (dF up>=n)) H2:=by simp[mB,m2,aF,aA,aB,aC,f1,fB,ej2,CM,hz',mC,hx0,mG,hG,cP]
   split
   ·rename_i hm;unfold iS;rw[bJ w0,bJ w1,bJ w2,bJ w3,bJ w4,vM (t2.trans (by rw[decide_eq_true hm]))];rfl
   ·rename_i hm;refine⟨H.length,some (.ref H.length),z5,z6, ?_,ej2⟩;unfold iS;rw[bJ w0,bJ w1,bJ w2,bJ w3,bJ w4,rV (t2.trans (by rw[decide_eq_false hm]))];rfl
theorem LV {m:Int}(hx0:∀H,aQ d (.int 0) H=.ok (.int n) H) (hx1:∀H,aQ d (.int 1) H=.ok (.tup (ps.map aI)) H) (hL:∀H,Fl [d] H=.ok (.ref H.length) (H++[Ob.lst (qs.map aI)])) (res:Option (List Int)):
  ∀(f k:Nat) (fs:List Int) (H:Hs) (i:Nat) (x3 x4 x5 x6:Option Dv),getL H i=some (fs.map Dv.int)->kM n ps qs r f fs=some res->
   ∃H',Fr [] H H'/\(eZ (bY 0 m) (aE 3) (iS Fl) f k [some d,some (.int r),some (.ref i),x3,x4,x5,x6] H=.rt (iB res) H'∨res=none/\∃ρ',eZ (bY 0 m) (aE 3) (iS Fl) f k [some d,some (.int r),some (.ref i),x3,x4,x5,x6] H=.nx ρ' H')
 |0,k,fs,H,i,x3,x4,x5,x6,ei,h=>by cases h;exact⟨H,Fr.refl,.inr ⟨rfl,_,rfl⟩⟩
 |f+1,k,fs,H,i,x3,x4,x5,x6,ei,h=>by
  unfold kM at h
  cases ht:nW ps qs r fs with
  |none=>rw[ht]at h;cases h
  |some up=>
   rw[ht]at h;dsimp only at h;obtain⟨H1,f1,c1,c2⟩:=n9 (x3:=some (.int (0+(k:Int)))) (x4:=x4) (x5:=x5) (x6:=x6) hx0 hx1 hL ei ht;have ex:∀(rr:Sr),(∀ρ h,rr≠.nx ρ h)->(∀ρ h,rr≠.ct ρ h)->(∀ρ h,rr≠.bk ρ h)->iS Fl [some d,some (.int r),some (.ref i),some (.int (0+(k:Int))),x4,x5,x6] H=rr->eZ (bY 0 m) (aE 3) (iS Fl) (f+1) k [some d,some (.int r),some (.ref i),x3,x4,x5,x6] H=rr:=λrr h1 h2 h3 e=>by
    rw[eZ];have e':iS Fl (List.set [some d,some (.int r),some (.ref i),x3,x4,x5,x6] 3 (some (.int (0+(k:Int))))) H=rr:=e;simp only[bY,aE];rw[e']
    cases rr with
    |nx ρ h=>exact absurd rfl (h1 ρ h)
    |ct ρ h=>exact absurd rfl (h2 ρ h)
    |bk ρ h=>exact absurd rfl (h3 ρ h)
    |_=>rfl
   split at h
   ·rename_i he;cases h;exact⟨H1,f1,.inl (ex _ (by simp) (by simp) (by simp) (c1 he))⟩
   ·rename_i he
    split at h
    ·cases h
    ·rename_i hz;have c:=c2 he hz
     split at h
     ·rename_i hm;cases h;rw[if_pos hm]at c;exact⟨H1,f1,.inl (ex _ (by simp) (by simp) (by simp) c)⟩
     ·rename_i hm;rw[if_neg hm]at c;obtain⟨j,y4,y5,y6,c3,ej⟩:=c;obtain⟨H2,f2,q⟩:=LV hx0 hx1 hL res f (k+1) up H1 j (some (.int (0+(k:Int)))) y4 y5 y6 ej h;refine⟨H2,f1.trans f2 (by simp), ?_⟩;rw[AS (d:=.int (0+(k:Int))) (ρ1:=[some d,some (.int r),some (.ref i),some (.int (0+(k:Int))),x4,x5,x6]) rfl rfl c3];exact q
theorem o6 (N:Nat) (hn:n=N) (h6:N<=6) (hx0:∀H,aQ d (.int 0) H=.ok (.int n) H) (hx1:∀H,aQ d (.int 1) H=.ok (.tup (ps.map aI)) H) (hL:∀H,Fl [d] H=.ok (.ref H.length) (H++[Ob.lst (qs.map aI)])) {res:Option (List Int)}{H:Hs}
  (h:kM n ps qs r (N*N+2) (ax N 0)=some res):∃H',aT 2 7 (xT Fl) [d,.int r] H=.ok (iB res) H'/\Fr [] H H':=by
 have n0:0<=n:=by omega
 have n6:n<=6:=by omega
 have w0:aK (m2 jV (aV (aA (mC (.int 0)) aC)) (m2 aQ (aB 0) (mC (.int 0)))) (aE 2) [some d,some (.int r),none,none,none,none,none] H=.nx [some d,some (.int r),some (.ref (H.length+1)),none,none,none,none] (H++[Ob.lst [.int 0]]++[Ob.lst ((ax N (0:Int)).map Dv.int)]):=by
  have e0:getL (H++[Ob.lst [.int 0]]) H.length=some [.int 0]:=by simp[getL]
  have c0:eI n=true:=by simp[eI];omega
  have c1:n<9223372036854775808:=by omega
  have c2 : -9223372036854775808<=n:=by omega
  have c3:n.toNat=N:=by omega
  have c4:N<=1000000:=by omega
  have c5:(ax N [Dv.int 0]).flatten=ax N (Dv.int 0):=by simp
  simp[aK,m2,aV,aA,mC,aC,lim,aB,hx0,jV,e0,c0,c1,c2,c3,c4,aE]
 have ei:getL (H++[Ob.lst [.int 0]]++[Ob.lst ((ax N (0:Int)).map Dv.int)]) (H.length+1)=some ((ax N (0:Int)).map Dv.int):=by simp[getL]
 have f0:Fr [] H (H++[Ob.lst [.int 0]]++[Ob.lst ((ax N (0:Int)).map Dv.int)]):=Fr.trans (T:=[]) Fr.app Fr.app (by simp);generalize H++[Ob.lst [.int 0]]++[Ob.lst ((ax N (0:Int)).map Dv.int)]=H0 at w0 ei f0;have hi:aR bX (aA (m2 bH (m2 iP (m2 aQ (aB 0) (mC (.int 0))) (m2 aQ (aB 0) (mC (.int 0)))) (mC (.int 2))) aC) [some d,some (.int r),some (.ref (H.length+1)),none,none,none,none] H0=.ok (bY 0 (n*n+2)) H0:=by
  have c0:eI n=true:=by simp[eI];omega
  have q:aA (m2 bH (m2 iP (m2 aQ (aB 0) (mC (.int 0))) (m2 aQ (aB 0) (mC (.int 0)))) (mC (.int 2))) aC [some d,some (.int r),some (.ref (H.length+1)),none,none,none,none] H0=.ok [.int (n*n+2)] H0:=by simp[aA,m2,aB,mC,hx0,iP,jO,qO,c0,bH,kF,aC]
  have b1:n*n<=36:=by have:=Int.mul_le_mul n6 n6 n0 (by omega);omega
  have b0:0<=n*n:=Int.mul_nonneg n0 n0;have b2:jQ (n*n+2)=true:=by
   generalize n*n=m at b1 b0;have h1:(-4611686018427387904:Int)<=m+2:=by omega
   have h2:m+2<4611686018427387904:=by omega
   unfold jQ;rw[decide_eq_true h1,decide_eq_true h2];rfl
  unfold aR;rw[q,Rs.bind_ok];simp only[bX,b2,if_true]
 have hN:(bY 0 (n*n+2)).n=N*N+2:=by
  show(n*n+2 - 0).toNat=_;rw[hn];have:((N:Int)*(N:Int))=((N*N:Nat):Int):=by simp
  omega
 obtain⟨H',f1,q⟩:=LV (m:=n*n+2) hx0 hx1 hL res (N*N+2) 0 (ax N 0) H0 (H.length+1) none none none none ei h;refine⟨H', ?_,f0.trans f1 (by simp)⟩;show bG (xT Fl [some d,some (.int r),none,none,none,none,none] H)=_;unfold xT;rw[bJ w0]
 rcases q with q|⟨rfl,ρ',q⟩
 ·have:cV (aR bX (aA (m2 bH (m2 iP (m2 aQ (aB 0) (mC (.int 0))) (m2 aQ (aB 0) (mC (.int 0)))) (mC (.int 2))) aC)) (aE 3) (iS Fl) [some d,some (.int r),some (.ref (H.length+1)),none,none,none,none] H0=.rt (iB res) H':=by rw[vL hi,hN];exact q
  unfold aJ;rw[this];rfl
 ·rw[bJ ((vL hi).trans (by rw[hN];exact q))];rfl
def sV (n:Int) (N:Nat) (ps qs:List (Int×Int)):Nat->Int->Option Int
 |0,_=>none
 |f+1,r=>match kM n ps qs r (N*N+2) (ax N 0)with
  |none=>none
  |some none=>sV n N ps qs f (r+1)
  |some (some _)=>some r
theorem LW (N:Nat) (Fw:List Dv->Hs->Rs Dv) (hw:∀(r:Int) (res:Option (List Int)) (H:Hs),kM n ps qs r (N*N+2) (ax N 0)=some res->∃H',Fw [d,.int r] H=.ok (iB res) H'/\Fr [] H H') (v:Int):
  ∀(f:Nat) (r:Int) (H:Hs),sV n N ps qs f r=some v->∃H',eV (mB (m2 (gO false) (aF Fw (aA (aB 0) (aA (aB 1) aC))) (mC .non))) (aK (m2 bH (aB 1) (mC (.int 1))) (aE 1)) f [some d,some (.int r)] H=.nx [some d,some (.int v)] H'/\Fr [] H H'
 |0,r,H,h=>by cases h
 |f+1,r,H,h=>by
  unfold sV at h
  cases q:kM n ps qs r (N*N+2) (ax N 0)with
  |none=>rw[q]at h;cases h
  |some res=>
   obtain⟨H1,h1,f1⟩:=hw r res H q;rw[q]at h
   cases res with
   |none=>dsimp only at h;obtain⟨H2,h2,f2⟩:=LW N Fw hw v f (r+1) H1 h;refine⟨H2, ?_,f1.trans f2 (by simp)⟩;rw[<-h2,eV];simp[mB,m2,aF,aA,aB,aC,h1,iB,mC,gO,mE,cP,Rs.thenS,aK,bH,kF,aE]
   |some fs=>cases h;refine⟨H1, ?_,f1⟩;rw[eV];simp[mB,m2,aF,aA,aB,aC,h1,iB,mC,gO,mE,cP,Rs.thenS]
end
theorem xU {α:Type}{src:Src}{sg:cG}{t:M Bool}{m:MC}(xs:List α) (out:α->List Dv) (S:Ev->Hs->Prop)
  (fin:∀ρ h,S ρ h->src.fin h=true)
  (step:∀k (hk:k<xs.length) ρ h,S ρ h->∃d ρ1,src.get k h=some d/\sg d ρ=some ρ1 /\
   ((∃h2,t ρ1 h=.ok false h2/\out xs[k]=[]/\S ρ1 h2)∨∃h2,t ρ1 h=.ok true h2/\∀acc:List Dv,acc.length+(out xs[k]).length<=900000->∃ρ3 h3,m ρ1 h2 acc=.ok (ρ3,acc++out xs[k]) h3/\S ρ3 h3)):
  ∀(f k:Nat) (ρ:Ev) (h:Hs) (acc:List Dv),f+k=xs.length->S ρ h->acc.length+((xs.drop k).flatMap out).length<=900000->∃ρ' h',eK src sg t m f k ρ h acc=.ok (ρ',acc++(xs.drop k).flatMap out) h'/\S ρ' h'
 |0,k,ρ,h,acc,e,s,hl=>by have:xs.drop k=[]:=List.drop_eq_nil_of_le (by omega);exact⟨ρ,h,by simp[eK,fin ρ h s,this],s⟩
 |f+1,k,ρ,h,acc,e,s,hl=>by
  have hk:k<xs.length:=by omega
  obtain⟨d,ρ1,e1,e2,e3⟩:=step k hk ρ h s;rw[pd hk,ji]at hl ⊢;rw[cm]at hl
  rcases e3 with⟨h2,e3,e4,s2⟩|⟨h2,e3,e4⟩
  ·obtain⟨ρ',h',e5,s5⟩:=xU xs out S fin step f (k+1) ρ1 h2 acc (by omega) s2 (by omega);exact⟨ρ',h',by simp[eK,e1,e2,e3,e4,e5],s5⟩
  ·obtain⟨ρ3,h3,e6,s3⟩:=e4 acc (by omega);obtain⟨ρ',h',e5,s5⟩:=xU xs out S fin step f (k+1) ρ3 h3 (acc++out xs[k]) (by omega) s3 (by rw[cm];omega);exact⟨ρ',h',by simp[eK,e1,e2,e3,e6,e5],s5⟩
theorem LX {α:Type}{mi:M Src}{cap:List (Option Nat)}{src:Src}{sg:cG}{t:M Bool}{m:MC}{ρ:Ev}{H H1:Hs}(xs:List α) (out:α->List Dv) (S:Ev->Hs->Prop)
  (hi:mi ρ H=.ok src H1) (hn:src.n=xs.length) (s0:S (fQ cap ρ) H1) (fin:∀ρ h,S ρ h->src.fin h=true)
  (step:∀k (hk:k<xs.length) ρ h,S ρ h->∃d ρ1,src.get k h=some d/\sg d ρ=some ρ1 /\
   ((∃h2,t ρ1 h=.ok false h2/\out xs[k]=[]/\S ρ1 h2)∨∃h2,t ρ1 h=.ok true h2/\∀acc:List Dv,acc.length+(out xs[k]).length<=900000->∃ρ3 h3,m ρ1 h2 acc=.ok (ρ3,acc++out xs[k]) h3/\S ρ3 h3))
  (hl:(xs.flatMap out).length<=900000):∃ρ' H',cB mi cap sg t m ρ H=.ok (xs.flatMap out) H'/\S ρ' H':=by
 obtain⟨ρ',h',e,s⟩:=xU xs out S fin step xs.length 0 (fQ cap ρ) H1 [] (by omega) s0 (by simpa using hl);refine⟨ρ',h', ?_,s⟩;unfold cB;rw[hi,Rs.bind_ok,hn,e];simp
theorem LY {e:M Dv}{ρ:Ev}{h h1:Hs}{d:Dv}{acc:List Dv}(he:e ρ h=.ok d h1) (hl:acc.length+[d].length<=900000):bP e ρ h acc=.ok (ρ,acc++[d]) h1:=by
 have:acc.length<1000000:=by simp at hl;omega
 simp[bP,he,this]
theorem kN {α:Type}{mi:M Src}{cap:List (Option Nat)}{src:Src}{sg:cG}{t:M Bool}{e:M Dv}{ρ:Ev}{H H1:Hs}(xs:List α) (g:α->Option Dv) (S:Ev->Prop)
  (hi:mi ρ H=.ok src H1) (hn:src.n=xs.length) (s0:S (fQ cap ρ)) (fin:src.fin H1=true)
  (step:∀k (hk:k<xs.length) ρ,S ρ->∃d ρ1,src.get k H1=some d/\sg d ρ=some ρ1/\S ρ1/\match g xs[k]with
   |none=>t ρ1 H1=.ok false H1
   |some v=>t ρ1 H1=.ok true H1/\e ρ1 H1=.ok v H1)
  (hl:xs.length<=900000):cB mi cap sg t (bP e) ρ H=.ok (xs.filterMap g) H1:=by
 have fm:∀l:List α,l.flatMap (λx=>(g x).toList)=l.filterMap g:=λl=>by
  induction l with
  |nil=>rfl
  |cons x l ih=>rw[ji,ih,cp];cases g x <;> rfl
 have len:(xs.filterMap g).length<=xs.length:=ie g xs;obtain⟨ρ',H',h,_,rfl⟩:=LX (mi:=mi) (cap:=cap) (src:=src) (sg:=sg) (t:=t) (m:=bP e) (ρ:=ρ) (H:=H) (H1:=H1) xs (λx=>(g x).toList) (λρ h=>S ρ/\h=H1) hi hn ⟨s0,rfl⟩ (λρ h s=>by rw[s.2];exact fin)
  (λk hk ρ h ⟨s,e1⟩=>by
   subst e1;obtain⟨d,ρ1,e1,e2,s1,e3⟩:=step k hk ρ s;refine⟨d,ρ1,e1,e2, ?_⟩
   cases q:g xs[k]with
   |none=>rw[q]at e3;exact .inl ⟨h,e3,rfl,s1,rfl⟩
   |some v=>rw[q]at e3;exact .inr ⟨h,e3.1,λacc hl=>⟨ρ1,h,LY e3.2 hl,s1,rfl⟩⟩) (by rw[fm];omega)
 rw[h,fm]
theorem LZ {α β:Type}{mi mj:M Src}{cap:List (Option Nat)}{src:Src}{sg sg2:cG}{t2:M Bool}{e:M Dv}{ρ:Ev}{H H1:Hs}(xs:List α) (ys:α->List β) (g:α->β->Option Dv) (S:Ev->Prop)
  (hi:mi ρ H=.ok src H1) (hn:src.n=xs.length) (s0:S (fQ cap ρ)) (fin:src.fin H1=true)
  (step:∀k (hk:k<xs.length) ρ,S ρ->∃(d:Dv) (ρ1:Ev) (src2:Src) (S2:Ev->Prop),src.get k H1=some d/\sg d ρ=some ρ1/\S2 ρ1/\(∀ρ,S2 ρ->S ρ)/\mj ρ1 H1=.ok src2 H1/\src2.n=(ys xs[k]).length/\src2.fin H1=true /\
   ∀j (hj:j<(ys xs[k]).length) ρ,S2 ρ->∃d ρ2,src2.get j H1=some d/\sg2 d ρ=some ρ2/\S2 ρ2/\match g xs[k] (ys xs[k])[j]with
    |none=>t2 ρ2 H1=.ok false H1
    |some v=>t2 ρ2 H1=.ok true H1/\e ρ2 H1=.ok v H1)
  (hl:(xs.flatMap λx=>(ys x).filterMap (g x)).length<=900000):cB mi cap sg dO (jF mj sg2 t2 (bP e)) ρ H=.ok (xs.flatMap λx=>(ys x).filterMap (g x)) H1:=by
 have fm:∀(x:α) (l:List β),l.flatMap (λy=>(g x y).toList)=l.filterMap (g x):=λx l=>by
  induction l with
  |nil=>rfl
  |cons y l ih=>rw[ji,ih,cp];cases g x y <;> rfl
 obtain⟨ρ',H',h,_,rfl⟩:=LX (mi:=mi) (cap:=cap) (src:=src) (sg:=sg) (t:=dO) (m:=jF mj sg2 t2 (bP e)) (ρ:=ρ) (H:=H) (H1:=H1) xs (λx=>(ys x).filterMap (g x)) (λρ h=>S ρ/\h=H1) hi hn ⟨s0,rfl⟩ (λρ h s=>by rw[s.2];exact fin)
  (λk hk ρ h ⟨s,e1⟩=>by
   subst e1;obtain⟨d,ρ1,src2,S2,e1,e2,s1,sS,e3,e4,e5,e6⟩:=step k hk ρ s;refine⟨d,ρ1,e1,e2,.inr ⟨h,rfl,λacc hl=>?_⟩⟩;obtain⟨ρ3,h3,r,s3,rfl⟩:=xU (src:=src2) (sg:=sg2) (t:=t2) (m:=bP e) (ys xs[k]) (λy=>(g xs[k] y).toList) (λρ hh=>S2 ρ/\hh=h) (λρ hh s=>by rw[s.2];exact e5)
    (λj hj ρ hh ⟨s,e1⟩=>by
     subst e1;obtain⟨d,ρ2,z1,z2,z3,z4⟩:=e6 j hj ρ s;refine⟨d,ρ2,z1,z2, ?_⟩
     cases q:g xs[k] (ys xs[k])[j]with
     |none=>rw[q]at z4;exact .inl ⟨hh,z4,rfl,z3,rfl⟩
     |some v=>rw[q]at z4;exact .inr ⟨hh,z4.1,λacc hl=>⟨ρ2,hh,LY z4.2 hl,z3,rfl⟩⟩) (ys xs[k]).length 0 ρ1 h acc (by omega) ⟨s1,rfl⟩ (by rw[List.drop_zero,fm];exact hl)
   refine⟨ρ3,h3, ?_,sS ρ3 s3,rfl⟩;unfold jF;rw[e3];dsimp only;rw[e4,r,List.drop_zero,fm]) hl
 exact h
theorem L0 {c:M Bool}{b:MS}{f:Nat}{ρ:Ev}{h h1:Hs}(e:c ρ h=.ok false h1):eV c b (f+1) ρ h=.nx ρ h1:=by show(c ρ h).thenS _=_;rw[e];rfl
theorem CN {c:M Bool}{b:MS}{f:Nat}{ρ ρ2:Ev}{h h1 h2:Hs}(e:c ρ h=.ok true h1) (q:b ρ h1=.nx ρ2 h2):eV c b (f+1) ρ h=eV c b f ρ2 h2:=by show(c ρ h).thenS _=_;rw[e];simp[Rs.thenS,q]
theorem o7 {c:M Bool}{b:MS}{f:Nat}{ρ:Ev}{d:Dv}{h h1 h2:Hs}(e:c ρ h=.ok true h1) (q:b ρ h1=.rt d h2):eV c b (f+1) ρ h=.rt d h2:=by show(c ρ h).thenS _=_;rw[e];simp[Rs.thenS,q]
theorem xV:∀bs:List Bool,bQ lU (bs.map Dv.bl)=some bs
 | []=>rfl
 |b::bs=>by rw[dw,bQ,xV bs];rfl
end L2.Mr
namespace L2.Mr.Com
open PySem PySem.Spec PyProof.Rows L2 L2.Mr
def aZ (n:Nat) (ps:List (Int×Int)):Dv:=.tup [.int n,.tup (ps.map aI)]
theorem L6 {n:Nat}{ps:List (Int×Int)}(H:Hs):aQ (aZ n ps) (.int 0) H=.ok (.int n) H:=rfl
theorem sW {n:Nat}{ps:List (Int×Int)}(H:Hs):aQ (aZ n ps) (.int 1) H=.ok (.tup (ps.map aI)) H:=rfl
theorem pP {α:Type}{ml:M (List Dv)}{ρ:Ev}{H H1:Hs}{xs:List α}{f:α->Bool}(h:ml ρ H=.ok (xs.filterMap λx=>some (.bl (f x))) H1):mL jR ml ρ H=.ok (.bl (xs.all f)) H1:=by
 have e:(xs.filterMap λx=>some (Dv.bl (f x)))=(xs.map f).map Dv.bl:=by simp
 unfold mL;rw[h,Rs.bind_ok,e];unfold jR;rw[xV];simp[List.all_map]
theorem o8 {α:Type}{ml:M (List Dv)}{ρ:Ev}{H H1:Hs}{xs:List α}{f:α->Bool}(h:ml ρ H=.ok (xs.filterMap λx=>some (.bl (f x))) H1):mL qX ml ρ H=.ok (.bl (xs.any f)) H1:=by
 have e:(xs.filterMap λx=>some (Dv.bl (f x)))=(xs.map f).map Dv.bl:=by simp
 unfold mL;rw[h,Rs.bind_ok,e];unfold qX;rw[xV];simp[zy]
section
variable{H:Hs}{n x:Int}{ps:List (Int×Int)}
theorem L7:F_qz [.int x] H=.ok (.bl true) H:=by simp[F_qz,wF,aT,bL,aN,dN,m1,aB,bE,gG,pE,kK,oI,bG]
theorem xW {lo hi:Int}:F_qp [.int x,.int lo,.int hi] H=.ok (.bl (decide (lo<=x)&&decide (x<=hi))) H:=by
 by_cases h:lo<=x
 ·simp[F_qp,sH,aT,bL,aN,dN,aF,aA,aB,aC,L7,oH,oZ,hG,h,bG]
 ·simp[F_qp,sH,aT,bL,aN,dN,aF,aA,aB,aC,L7,oH,oZ,hG,h,bG]
def dX (n x:Int):Bool:=decide (0<=x)&&decide (x<=n - 1)
theorem o9:F_qy [.int n,.int x] H=.ok (.bl (dX n x)) H:=by simp[F_qy,wG,aT,bL,aN,aF,aA,aB,aC,mC,m2,gA,hG,xW,bG,dX]
theorem p0 {xs:List Int}(hl:xs.length<=1000):F_qo [.int n,.tup (xs.map Dv.int)] H=.ok (.bl (xs.all (dX n))) H:=by have h:cB (cU eB (aB 1)) [none,some 0] (aE 0) dO (bP (aF F_qy (aA (aB 1) (aA (aB 0) aC)))) [some (.int n),some (.tup (xs.map Dv.int))] H=.ok (xs.filterMap λx=>some (.bl (dX n x))) H:=kN xs (λx=>some (.bl (dX n x))) (λρ=>∃a,ρ=[a,some (.int n)]) rfl (by simp[cM]) ⟨_,rfl⟩ rfl (λk hk ρ ⟨a,e⟩=>by subst e;exact⟨.int xs[k],_,by simp[cM,hk],rfl,⟨_,rfl⟩,rfl,by simp[aF,aA,aB,aC,o9]⟩) (by omega);simp[F_qo,sJ,aT,bL,aN,dN,m1,bE,aB,gG,hY,pP h,bG]
def kP (n:Int) (p:Int×Int):Bool:=dX n p.1&&dX n p.2
theorem p6 (p:Int×Int):F_q1 [.int n,aI p] H=.ok (.bl (kP n p)) H:=by
 have h:F_qo [.int n,aI p] H=.ok (.bl (kP n p)) H:=by have:=p0 (H:=H) (n:=n) (xs:=[p.1,p.2]) (by simp);simpa[aI,kP]using this
 have hlen:f1 gB [aI p] H=.ok (.int 2) H:=rfl
 cases q:kP n p with
 |false=>simp[F_q1,nQ,aT,bL,aN,dN,aF,aA,aB,aC,h,q,bG]
 |true=>simp[F_q1,nQ,aT,bL,aN,dN,aF,aA,aB,aC,h,q,bG,m2,hlen,mC,cK,cE,bR,bN]
theorem p7 (hl:ps.length<=1000):F_qu [.int n,.tup (ps.map aI)] H=.ok (.bl (ps.all (kP n))) H:=by have h:cB (cU eB (aB 1)) [none,some 0] (aE 0) dO (bP (aF F_q1 (aA (aB 1) (aA (aB 0) aC)))) [some (.int n),some (.tup (ps.map aI))] H=.ok (ps.filterMap λp=>some (.bl (kP n p))) H:=kN ps (λp=>some (.bl (kP n p))) (λρ=>∃a,ρ=[a,some (.int n)]) rfl (by simp[cM]) ⟨_,rfl⟩ rfl (λk hk ρ ⟨a,e⟩=>by subst e;exact⟨aI ps[k],_,by simp[cM,hk],rfl,⟨_,rfl⟩,rfl,by simp[aF,aA,aB,aC,p6]⟩) (by omega);simp[F_qu,wH,aT,bL,aN,pP h,bG]
theorem p8 (hl:ps.length<=1000):F_qv [.tup (ps.map aI)] H=.ok (.bl (ps.any λp=>decide (p.1=p.2))) H:=by have h:cB (cU eB (aB 0)) [none,none] (cY 2 (bM (aE 0) (bM (aE 1) dD))) dO (bP (m2 cK (aB 0) (aB 1))) [some (.tup (ps.map aI))] H=.ok (ps.filterMap λp=>some (.bl (decide (p.1=p.2)))) H:=kN ps (λp=>some (.bl (decide (p.1=p.2)))) (λρ=>∃a b,ρ=[a,b]) rfl (by simp[cM]) ⟨_,_,rfl⟩ rfl (λk hk ρ ⟨a,b,e⟩=>by subst e;refine⟨aI ps[k],[some (.int ps[k].1),some (.int ps[k].2)],by simp[cM,hk],rfl,⟨_,_,rfl⟩,rfl, ?_⟩;simp[m2,aB,cK,cE,bR,bN];rw[gy];simp) (by omega);simp[F_qv,BA,aT,bL,aN,o8 h,bG]
theorem p9 (p q:Int×Int):fF (aI p) (aI q) H=.ok (.bl (eX p q)) H:=by simp only[fF,aI,bQ,gS,KZ];rw[<-rZ];rfl
def kQ (ps:List (Int×Int)):Bool:=(ps.zip (ps.drop 1)).all λq=>eX q.1 q.2
theorem rising_of:∀{ps:List (Int×Int)},kQ ps=true↔gU eX ps
 | []=>by simp[kQ,gU]
 | [p]=>by simp[kQ,gU]
 |p::q::r=>by
  have ih:=rising_of (ps:=q::r);have e:kQ (p::q::r)=(eX p q&&kQ (q::r)):=by simp[kQ]
  rw[e,dj,ih];constructor
  ·rintro ⟨h1,h2⟩
   refine fh.mpr ⟨λz hz=>?_,h2⟩
   rcases bg.mp hz with rfl|hz
   ·exact h1
   ·exact stoP.tr _ _ _ h1 ((fh.mp h2).1 z hz)
  ·intro h;have:=fh.mp h;exact⟨this.1 q (by simp),this.2⟩
theorem q9 (ds:List Dv):mF ds (some 1) none=ds.drop 1:=by
 unfold mF;rw[show HT.sIx ds.length 0 (some 1)=min 1 ds.length from HT.sIx_nat ds.length 0 1,HT.sIx_none]
 cases ds with
 |nil=>rfl
 |cons a r=>simp
theorem r8 (hl:ps.length<=1000):F_qw [.tup (ps.map aI)] H=.ok (.bl (kQ ps)) H:=by
 have hi:aR lY (aA (aB 0) (aA (sG (aB 0) (rK (mC (.int 1))) rJ) aC)) [some (.tup (ps.map aI))] H=.ok (lW (ps.map aI) ((ps.drop 1).map aI)) H:=by simp[aR,aA,aB,sG,rK,mC,IL,rJ,wD,aC,lY,q9,ua]
 have hz:((ps.map aI).zip ((ps.drop 1).map aI)).map (λq=>Dv.tup [q.1,q.2])=(ps.zip (ps.drop 1)).map λq=>Dv.tup [aI q.1,aI q.2]:=by rw[List.zip_map,qw];rfl
 have h:cB (aR lY (aA (aB 0) (aA (sG (aB 0) (rK (mC (.int 1))) rJ) aC))) [none,none] (cY 2 (bM (aE 0) (bM (aE 1) dD))) dO (bP (m2 fF (aB 0) (aB 1))) [some (.tup (ps.map aI))] H=.ok ((ps.zip (ps.drop 1)).filterMap λq=>some (.bl (eX q.1 q.2))) H:=
  kN (ps.zip (ps.drop 1)) (λq=>some (.bl (eX q.1 q.2))) (λρ=>∃a b,ρ=[a,b]) hi (by simp[lW,cM]) ⟨_,_,rfl⟩ rfl (λk hk ρ ⟨a,b,e⟩=>by
   subst e;refine⟨.tup [aI (ps.zip (ps.drop 1))[k].1,aI (ps.zip (ps.drop 1))[k].2],[some (aI (ps.zip (ps.drop 1))[k].1),some (aI (ps.zip (ps.drop 1))[k].2)], ?_,rfl,⟨_,_,rfl⟩,rfl, ?_⟩
   ·show(((ps.map aI).zip ((ps.drop 1).map aI)).map (λq=>Dv.tup [q.1,q.2]))[k]?=_;rw[hz,du,ba hk];rfl
   ·simp only[m2,aB];exact p9 _ _) (by rw[List.length_zip];omega)
 simp[F_qw,A9,aT,bL,aN,pP h,bG,kQ]
def sX (ps:List (Int×Int)):Bool:=ps.all λp=>ps.all λq=>!decide (p.2=q.1)||decide ((p.1,q.2)∈ps)
theorem r9 (hl:ps.length<=900):F_qi [.tup (ps.map aI)] H=.ok (.bl (sX ps)) H:=by
 let g:Int×Int->Int×Int->Option Dv:=λp q=>if p.2=q.1 then some (.bl (decide ((p.1,q.2)∈ps)))else none
 have h:cB (cU eB (aB 0)) [none,none,none,none,some 0] (cY 2 (bM (aE 0) (bM (aE 1) dD))) dO (jF (cU eB (aB 4)) (cY 2 (bM (aE 2) (bM (aE 3) dD))) (mB (m2 cK (aB 1) (aB 2))) (bP (m2 (eC false) (aL (aA (aB 0) (aA (aB 3) aC))) (aB 4)))) [some (.tup (ps.map aI))] H=.ok (ps.flatMap λp=>ps.filterMap (g p)) H:=
  LZ ps (λ_=>ps) g (λρ=>∃a b c d,ρ=[a,b,c,d,some (.tup (ps.map aI))]) rfl (by simp[cM]) ⟨_,_,_,_,rfl⟩ rfl (λk hk ρ ⟨a,b,c,d,e⟩=>by
   subst e;refine⟨aI ps[k],[some (.int ps[k].1),some (.int ps[k].2),c,d,some (.tup (ps.map aI))],cM (ps.map aI),λρ=>∃c d,ρ=[some (.int ps[k].1),some (.int ps[k].2),c,d,some (.tup (ps.map aI))],by simp[cM,hk],rfl,⟨_,_,rfl⟩,λρ ⟨c,d,e⟩=>⟨_,_,_,_,e⟩,rfl,by simp[cM],rfl,λj hj ρ ⟨c,d,e⟩=>?_⟩;subst e;refine⟨aI ps[j],[some (.int ps[k].1),some (.int ps[k].2),some (.int ps[j].1),some (.int ps[j].2),some (.tup (ps.map aI))],by simp[cM,hj],rfl,⟨_,_,rfl⟩, ?_⟩;have te:mB (m2 cK (aB 1) (aB 2)) [some (.int ps[k].1),some (.int ps[k].2),some (.int ps[j].1),some (.int ps[j].2),some (.tup (ps.map aI))] H=.ok (decide (ps[k].2=ps[j].1)) H:=by simp[mB,m2,aB,cK,cE,bR,bN,cP];rw[gy];simp
   by_cases c1:ps[k].2=ps[j].1
   ·rw[decide_eq_true c1]at te;have hg:g ps[k] ps[j]=some (.bl (decide ((ps[k].1,ps[j].2)∈ps))):=if_pos c1;rw[hg];refine⟨te, ?_⟩;have hx:aL (aA (aB 0) (aA (aB 3) aC)) [some (.int ps[k].1),some (.int ps[k].2),some (.int ps[j].1),some (.int ps[j].2),some (.tup (ps.map aI))] H=.ok (aI (ps[k].1,ps[j].2)) H:=rfl;unfold m2;rw[hx,Rs.bind_ok];show(Rs.ok (Dv.tup (ps.map aI)) H).bind _=_;rw[Rs.bind_ok,lD];rfl
   ·rw[decide_eq_false c1]at te;have hg:g ps[k] ps[j]=none:=if_neg c1;rw[hg];exact te) (by
   have:∀l:List (Int×Int),(l.flatMap λp=>ps.filterMap (g p)).length<=l.length*ps.length:=λl=>by
    induction l with
    |nil=>simp
    |cons p l ih=>rw[ji,cm,cf,oh];have:=ie (g p) ps;omega
   have h2:=this ps;have h3:ps.length*ps.length<=900*900:=ly hl hl;omega)
 have hb:(ps.flatMap λp=>ps.filterMap (g p))=(ps.flatMap λp=>ps.filterMap λq=>if p.2=q.1 then some (decide ((p.1,q.2)∈ps))else none).map Dv.bl:=by
  rw[List.map_flatMap]
  congr 1
  funext p
  rw[uc]
  congr 1
  funext q
  show(if p.2=q.1 then some (Dv.bl (decide ((p.1,q.2)∈ps)))else none)=_
  split <;> rfl
 have hall:mL jR (cB (cU eB (aB 0)) [none,none,none,none,some 0] (cY 2 (bM (aE 0) (bM (aE 1) dD))) dO (jF (cU eB (aB 4)) (cY 2 (bM (aE 2) (bM (aE 3) dD))) (mB (m2 cK (aB 1) (aB 2))) (bP (m2 (eC false) (aL (aA (aB 0) (aA (aB 3) aC))) (aB 4))))) [some (.tup (ps.map aI))] H=.ok (.bl (sX ps)) H:=by
  unfold mL;rw[h,Rs.bind_ok,hb];unfold jR;rw[xV];dsimp only
  congr 2
  rw[gy];unfold sX;simp only[fi,qo,gz,id];constructor
  ·intro h p hp q hq
   by_cases c:p.2=q.1
   ·have:=h (decide ((p.1,q.2)∈ps)) ⟨p,hp,q,hq,if_pos c⟩;simp[c,this]
   ·simp[c]
  ·rintro h b ⟨p,hp,q,hq,e⟩
   have:=h p hp q hq
   by_cases c:p.2=q.1
   ·rw[if_pos c]at e;cases e;simpa[c]using this
   ·rw[if_neg c]at e;cases e
 simp[F_qi,BB,aT,bL,aN,hall,bG]
def pQ (n:Int) (ps:List (Int×Int)):Bool:=decide (1<=n)&&decide (n<=6)&&ps.all (kP n)&&kQ ps&&!(ps.any λp=>decide (p.1=p.2))&&sX ps
theorem L8 {n:Int}(hl:ps.length<=900):F_qx [.tup [.int n,.tup (ps.map aI)]] H=.ok (.bl (pQ n ps)) H:=by
 have b:=xW (H:=H) (x:=n) (lo:=1) (hi:=6);have p1:=p7 (H:=H) (n:=n) (ps:=ps) (by omega);have p2:=r8 (H:=H) (ps:=ps) (by omega);have p3:=p8 (H:=H) (ps:=ps) (by omega);have p4:=r9 (H:=H) (ps:=ps) hl;have hlen:f1 gB [.tup [.int n,.tup (ps.map aI)]] H=.ok (.int 2) H:=rfl;unfold pQ;generalize (decide (1<=n)&&decide (n<=6))=c0 at b ⊢;generalize ps.all (kP n)=c1 at p1 ⊢;generalize kQ ps=c2 at p2 ⊢;generalize (ps.any λp=>decide (p.1=p.2))=c3 at p3 ⊢;generalize sX ps=c4 at p4 ⊢
 cases c0 <;> cases c1 <;> cases c2 <;> cases c3 <;> cases c4 <;>
  simp[F_qx,mJ,aT,bL,aJ,aX,iH,dU,bW,m1,bE,aB,gG,hY,eY,mB,m2,aF,aA,aC,hlen,mC,cT,cE,bR,bN,cP,bK,aK,cY,bM,aE,dD,b,p1,p2,p3,p4,aN,dN,oI,bG]
end
structure OrdP (n:Nat) (ps:List (Int×Int)):Prop where
 n1:1<=n
 n6:n<=6
 rng:∀p∈ps,0<=p.1/\p.1<n/\0<=p.2/\p.2<n
 rise:gU eX ps
 irr:∀p∈ps,p.1≠p.2
 tr:∀p∈ps,∀q∈ps,p.2=q.1->(p.1,q.2)∈ps
section
variable{n:Nat}{ps:List (Int×Int)}{H:Hs}
def CO (n:Nat):List (Int×Int):=(bf n).flatMap λa:Nat=>(bf n).map λb:Nat=>((a:Int),(b:Int))
theorem t9 (n:Nat):(CO n).length=n*n:=by
 unfold CO;have:∀l:List Nat,(l.flatMap λa:Nat=>(bf n).map λb:Nat=>((a:Int),(b:Int))).length=l.length*n:=λl=>by
  induction l with
  |nil=>simp
  |cons a l ih=>rw[ji,cm,ih,cf,oh];simp;omega
 rw[this];simp
theorem u0 {p:Int×Int}(h:0<=p.1/\p.1<n/\0<=p.2/\p.2<n):p∈CO n:=by obtain⟨a,b⟩:=p;simp only at h;refine qo.mpr ⟨a.toNat,bw.mpr (by omega),ck.mpr ⟨b.toNat,bw.mpr (by omega), ?_⟩⟩;simp;omega
theorem u5 (hr:gU eX ps) (hp:∀p∈ps,0<=p.1/\p.1<n/\0<=p.2/\p.2<n):ps.length<=n*n:=by rw[<-t9 n];exact(vP stoP hr).length_le_of_subset λp h=>u0 (hp p h)
theorem OrdP.len (o:OrdP n ps):ps.length<=36:=by have h1:=u5 o.rise o.rng;have h2:n*n<=6*6:=ly o.n6 o.n6;omega
theorem OrdP.b (o:OrdP n ps):pQ n ps=true:=by
 have h1:=o.n1;have h6:=o.n6;unfold pQ;simp only[dj,decide_eq_true_eq,Bool.not_eq_true'];refine⟨⟨⟨⟨⟨by omega,by omega⟩, ?_⟩,rising_of.mpr o.rise⟩, ?_⟩, ?_⟩
 ·refine fi.mpr λp hp=>?_;have:=o.rng p hp;simp[kP,dX];omega
 ·refine List.any_eq_false.mpr λp hp=>?_;simpa using o.irr p hp
 ·refine fi.mpr λp hp=>fi.mpr λq hq=>?_
  by_cases c:p.2=q.1
  ·simp[c,o.tr p hp q hq c]
  ·simp[c]
theorem u6 (o:OrdP n ps):F_qx [aZ n ps] H=.ok (.bl true) H:=by have:=L8 (H:=H) (n:=(n:Int)) (ps:=ps) (by have:=o.len;omega);rw[o.b]at this;exact this
end
theorem u7 (H:Hs) (n:Nat) (a:Int) (b:Bool) (m:Int) (h0:0<m) (h1:m<18446744073709551616) (e:getL H n=some [.int a,.bl b]):
  ∃r a',0<=r/\r<m/\F_qs [.ref n,.int m] H=.ok (.int r) (H.set n (.lst [.int a',.bl b])):=by
 cases b with
 |true=>refine⟨a % m,a / m,Int.emod_nonneg _ (by omega),Int.emod_lt_of_pos _ h0, ?_⟩;simp[F_qs,wK,aT,bL,aJ,aX,bW,m2,aB,mC,aQ,eW,eU,e,hJ,cI,dM,eY,aK,gI,jO,oK,h0,aE,iK,rS,rR,h1,qZ,aN,bG]
 |false=>
  have q1:∀ys,getL (H.set n (.lst ys)) n=some ys:=λys=>jG e;generalize hs:(a*48271+29) % 2147483647=s;have s0:0<=s:=by omega
  have s1:s<2147483647:=by omega
  generalize ht:(s*s+39373*s+7) % 2147483629=t;have t0:0<=t:=by omega
  have t1:t<2147483629:=by omega
  generalize hu:(t*t+16807*t) % 2147483587=u;refine⟨u / 8 % m,s,Int.emod_nonneg _ (by omega),Int.emod_lt_of_pos _ h0, ?_⟩;have w1:eI s=true:=by simp[eI];omega
  have w2:eI t=true:=by simp[eI];omega
  have w3:eI 48271=true:=by decide
  have w4:eI 39373=true:=by decide
  have w5:eI 16807=true:=by decide
  simp[F_qs,wK,aT,bL,aJ,aX,bW,m2,aB,mC,aQ,eW,eU,e,hJ,cI,dM,eY,aK,gI,jO,oK,h0,aE,iK,rS,rR,h1,qZ,aN,bG,bK,bH,kF,iP,qO,w1,w2,w3,w4,w5,q1,hs,ht,hu]
def St (n:Nat) (H:Hs):Prop:=∃a b,getL H n=some [.int a,.bl b]
theorem St.fr {n:Nat}{S:List Nat}{H H':Hs}(s:St n H) (f:Fr S H H') (h:n∉S):St n H':=let ⟨a,b,e⟩:=s;⟨a,b,f.getL e h⟩
theorem pR {H:Hs}{n:Nat}(m:Int) (s:St n H) (h0:0<m:=by decide) (h1:m<18446744073709551616:=by decide):
  ∃r H',0<=r/\r<m/\F_qs [.ref n,.int m] H=.ok (.int r) H'/\Fr [n] H H'/\St n H':=by
 obtain⟨a,b,e⟩:=s;obtain⟨r,a',r0,r1,ht⟩:=u7 H n a b m h0 h1 e;exact⟨r,_,r0,r1,ht,Fr.set,a',b,jG e⟩
theorem u9 (scr:List Int) (k:Nat) (h:Hs):∃H',F_qn scr [.scr,.int k] h=.ok (.ref h.length) H'/\Fr [] h H'/\St h.length H':=by
 have cell:∃c,F_qe scr [.scr,.int k] h=.ok (.int c) h:=by
  by_cases hk:k<scr.length
  ·refine⟨scr[k], ?_⟩;have hk':(k:Int)<scr.length:=by omega
   simp[F_qe,wI,aT,bL,aJ,aX,mB,m2,aB,mC,fF,aF,f1,iI,fY,aA,aC,cP,hk',hk,eU,hJ,cI,dM,aN,bG]
  ·refine⟨0, ?_⟩;have hk':¬ (k:Int)<scr.length:=by omega
   simp[F_qe,wI,aT,bL,aJ,aX,mB,m2,aB,mC,fF,aF,f1,iI,fY,aA,aC,cP,hk',hk,eU,hJ,cI,dM,aN,bG,bK]
 obtain⟨c,hc⟩:=cell;have fin:∀a b,Fr [] h (h++[Ob.lst [.int a,.bl b]])/\St h.length (h++[Ob.lst [.int a,.bl b]]):=λa b=>⟨Fr.app,a,b,by rw[V5];rfl⟩
 by_cases hg:c>=1000000000000000000
 ·refine⟨_, ?_,fin (c - 1000000000000000000) true⟩;simp[F_qn,wJ,aT,bL,aJ,aK,aF,aA,aB,aC,hc,aE,aX,mB,m2,mG,hG,rL,jO,qP,mC,cP,hg,aN,aV,gA,lim,bG]
 ·refine⟨_, ?_,fin (c % 2147483647) false⟩;simp[F_qn,wJ,aT,bL,aJ,aK,aF,aA,aB,aC,hc,aE,aX,mB,m2,mG,hG,rL,jO,qP,mC,cP,hg,aN,aV,gA,lim,bG,bK,gI,oK]
theorem St.lt {st:Nat}{H:Hs}(s:St st H):st<H.length:=let ⟨_,_,e⟩:=s;nL e
theorem v5 {H:Hs}{q:Nat}{ks:List Int}(e:getL H q=some (ks.map Dv.int)):cT (.ref q) (.ref H.length) (H++[.lst []])=.ok (.bl (!ks.isEmpty)) (H++[.lst []]):=by
 have p1:bR cE (H++[.lst []]) (.ref q)=some (.lst (ks.map Dt.int)):=by show bR (28+1+1) (H++[.lst []]) (.ref q)=_;rw[bR];simp only[jH (l:=[.lst []]) e,AU]
 have p2:bR cE (H++[.lst []]) (.ref H.length)=some (.lst []):=by
  show bR (28+1+1) (H++[.lst []]) (.ref H.length)=_;rw[bR];have:getL (H++[.lst []]) H.length=some []:=by simp[getL]
  simp only[this];rfl
 unfold cT;rw[p1,p2]
 cases ks <;> simp[bN,fX]
def xX:M Bool:=mB (m2 cT (aB 2) (aV aC))
def xY:MS:=eJ (iJ (aB 3) (rH (aB 2) (aF F_qs (aA (aB 0) (aA (aF (f1 gB) (aA (aB 2) aC)) aC)))))
section
variable{st a b:Nat}{d:Dv}
theorem L9 (hab:a≠b) (has:a≠st) (hbs:b≠st):∀(f:Nat) (ls fs:List Int) (H:Hs),ls.length<f->ls.length+fs.length<=100->getL H a=some (ls.map Dv.int)->getL H b=some (fs.map Dv.int)->St st H->
  ∃(H':Hs) (ys:List Int),eV xX xY f [some (.ref st),some d,some (.ref a),some (.ref b)] H=.nx [some (.ref st),some d,some (.ref a),some (.ref b)] H'/\getL H' b=some (ys.map Dv.int)/\ys.Perm (fs++ls)/\St st H'/\Fr [st,a,b] H H'
 |0,ls,fs,H,h,_,_,_,_=>by omega
 |f+1,ls,fs,H,h,hl,ea,eb,s=>by
  have tc:xX [some (.ref st),some d,some (.ref a),some (.ref b)] H=.ok (!ls.isEmpty) (H++[.lst []]):=by simp[xX,mB,m2,aB,aV,aC,lim,v5 ea,cP]
  have ea1:=jH (l:=[Ob.lst []]) ea;have eb1:=jH (l:=[Ob.lst []]) eb;have g1:Fr [st,a,b] H (H++[Ob.lst []]):=Fr.app;have s1:=s.fr (Fr.app (S:=[]) (l:=[Ob.lst []])) (by simp);generalize H++[Ob.lst []]=H1 at tc ea1 eb1 g1 s1
  cases hls:ls with
  |nil=>subst hls;refine⟨H1,fs, ?_,eb1,by simp,s1,g1⟩;exact L0 tc
  |cons x r=>
   have hne:ls.isEmpty=false:=by rw[hls];rfl
   have hpos:(0:Int)<ls.length:=by rw[hls];simp
   obtain⟨k,H2,k0,k1,ht,f2,s2⟩:=pR (ls.length:Int) s1 hpos (by omega);have ea2:=f2.getL ea1 (by simpa using has);have eb2:=f2.getL eb1 (by simpa using hbs);have hk:k.toNat<ls.length:=by omega
   have ixk:dM (ls.map Dv.int).length k=some k.toNat:=by unfold dM;rw[if_pos k0,br,if_pos k1]
   have getk:(ls.map Dv.int)[k.toNat]?=some (.int ls[k.toNat]):=by simp[hk]
   have hlen:f1 gB [.ref a] H1=.ok (.int ls.length) H1:=by show(if eW (.ref a)=true then iI [] (.ref a) H1 else .bad)=_;simp[eW,iI,fY,ea1]
   have hz:(ls.map Dv.int).length<=1000000:=by rw[br];omega
   have pop:vH (.ref a) (.int k) H2=.ok (.int ls[k.toNat]) (H2.set a (.lst ((ls.eraseIdx k.toNat).map Dv.int))):=by
    simp only[vH,ea2,ixk,getk,hz,if_true];have em:(ls.map Dv.int).eraseIdx k.toNat=(ls.eraseIdx k.toNat).map Dv.int:=by rw[ux,ux,gq,zm,ua]
    rw[em]
   have eb3:getL (H2.set a (.lst ((ls.eraseIdx k.toNat).map Dv.int))) b=some (fs.map Dv.int):=by rw[lB hab];exact eb2
   have ea3:getL (H2.set a (.lst ((ls.eraseIdx k.toNat).map Dv.int))) a=some ((ls.eraseIdx k.toNat).map Dv.int):=jG ea2;have f3:Fr [st,a,b] H2 (H2.set a (.lst ((ls.eraseIdx k.toNat).map Dv.int))):=Fr.set.mono (by simp);have s3:St st (H2.set a (.lst ((ls.eraseIdx k.toNat).map Dv.int))):=s2.fr Fr.set (by simpa using cy has);generalize hH3:H2.set a (.lst ((ls.eraseIdx k.toNat).map Dv.int))=H3 at pop eb3 ea3 f3 s3;have hfl:(fs.map Dv.int).length<1000000:=by rw[br];omega
   have body:xY [some (.ref st),some d,some (.ref a),some (.ref b)] H1=.nx [some (.ref st),some d,some (.ref a),some (.ref b)] (H3.set b (.lst ((fs++[ls[k.toNat]]).map Dv.int))):=by
    have isA:jS (.ref a) H1=true:=by simp[jS,ea1]
    have isB:jS (.ref b) H1=true:=by simp[jS,eb1]
    have hpop:rH (aB 2) (aF F_qs (aA (aB 0) (aA (aF (f1 gB) (aA (aB 2) aC)) aC))) [some (.ref st),some d,some (.ref a),some (.ref b)] H1=.ok (.int ls[k.toNat]) H3:=by simp[rH,aB,isA,aF,aA,aC,hlen,ht,pop]
    have happ:lV (.ref b) (.int ls[k.toNat]) H3=.ok .non (H3.set b (.lst ((fs++[ls[k.toNat]]).map Dv.int))):=by simp only[lV,eb3,hfl,if_true,gq];rfl
    simp[xY,eJ,iJ,aB,isB,hpop,happ]
   have hlen2:(ls.eraseIdx k.toNat).length=ls.length - 1:=xr hk;obtain⟨H',ys,w,e',pm,s',f'⟩:=L9 hab has hbs f (ls.eraseIdx k.toNat) (fs++[ls[k.toNat]]) (H3.set b (.lst ((fs++[ls[k.toNat]]).map Dv.int))) (by omega) (by rw[cm];simp;omega) (by rw[lB (cy hab)];exact ea3) (jG eb3) (s3.fr Fr.set (by simpa using cy hbs));refine⟨H',ys, ?_,e', ?_,s', ?_⟩
   ·rw[hne]at tc;rw[CN tc body];exact w
   ·rw[<-hls];refine pm.trans ?_;rw[pj];refine xu fs ?_;have:=SR.erase_perm ls k.toNat hk;simpa using this
   ·exact(((g1.trans f2 (by simp)).trans f3 (by simp)).trans (T:=[b]) Fr.set (by simp)).trans f' (by simp)
end
def v9 (n:Nat) (ps:List (Int×Int)):Prop:=∀p∈ps,0<=p.1/\p.1<n/\0<=p.2/\p.2<n
theorem MA:∀ps:List (Int×Int),bQ pJ (ps.map aI)=some (ps.map jI)
 | []=>rfl
 |p::ps=>by rw[dw,bQ,MA ps];rfl
theorem y7 (ps:List (Int×Int)):wC (ps.map jI)=true:=by simp[wC,jI]
theorem y8 (ps:List (Int×Int)):(ps.map jI).map vZ=ps.map aI:=by rw[qw];rfl
section
variable{H:Hs}{ps:List (Int×Int)}{d:Dv}
theorem y9 (h:pK d H=some (ps.map jI)) (hl:(dJ eX ps).length<64):pL d H=.ok (.ref H.length) (H++[.lst ((dJ eX ps).map aI)]):=by unfold pL;rw[h];dsimp only;rw[JQ rZ,br,if_pos (by rw[y7];simpa using hl),y8]
end
section
variable{H:Hs}{ps:List (Int×Int)}
theorem z00 {i:Nat}(e:getL H i=some (ps.map aI)):pK (.ref i) H=some (ps.map jI):=by simp only[pK,e,MA]
end
theorem CP {H:Hs}{i k:Nat}{xs:List Int}(e:getL H i=some (xs.map Dv.int)) (hk:k<xs.length):aQ (.ref i) (.int (k:Int)) H=.ok (.int xs[k]) H:=by
 have h1:dM (xs.map Dv.int).length (k:Int)=some k:=by unfold dM;rw[br,if_pos (by omega),if_pos (by omega)];simp
 have h2:cI (xs.map Dv.int) (k:Int)=some (.int xs[k]):=by unfold cI;rw[h1];simp[hk]
 simp only[aQ,eW,eU,e,hJ,h2,if_true]
theorem eq_int (x y:Int) (H:Hs):cK (.int x) (.int y) H=.ok (.bl (x==y)) H:=by simp[cK,cE,bR,bN]
theorem CQ:∀{ys:List Int},ys.Nodup->∀i (h:i<ys.length),rT ys[i] ys=some i
 | [],_,i,h=>by simp at h
 |y::ys,nd,0,h=>by simp[rT]
 |y::ys,nd,i+1,h=>by
  have h1:=js.mp nd;have hi:i<ys.length:=by simpa using h
  have ne:y≠ys[i]:=λz=>h1.1 (by rw[z];exact ib hi);simp[rT,ne,CQ h1.2 i hi]
def MB (n:Nat) (ps:List (Int×Int)):Prop:=v9 n ps/\∃f:Int->Int,∀p∈ps,f p.1<f p.2
section
variable{st ir ip im n:Nat}{ys ms:List Int}{w:Int}{d1:Dv}
end
theorem CS {m:Int}(h0:0<=m) (h:m<=100):jQ m=true:=by
 have h1:(-4611686018427387904:Int)<=m:=by omega
 have h2:m<4611686018427387904:=by omega
 unfold jQ;rw[decide_eq_true h1,decide_eq_true h2];rfl
theorem xZ {H:Hs}{j:Int}(h0:0<=j) (h1:j<=100):bX [.int j] H=.ok (bY 0 j) H:=by simp only[bX,CS h0 h1,if_true]
theorem MD {H:Hs}{i j:Int}(h0:0<=i) (h1:i<=100) (h2:0<=j) (h3:j<=100):jC [.int i,.int j] H=.ok (bY i j) H:=by simp only[jC,CS h0 h1,CS h2 h3,and_self,if_true]
def pS (ys:List Int) (n:Nat) (ps:List (Int×Int)):Prop:=∀p∈ps,∃i j,i<j/\j<n/\p=(ys.getD i 0,ys.getD j 0)
section
variable{st ir ip im n:Nat}{ys ms:List Int}{w:Int}{d1:Dv}
theorem z01 (pm:ys.Perm (bU n)) {ps:List (Int×Int)}(h:pS ys n ps):MB n ps:=by
 have hl:ys.length=n:=by rw[pm.length_eq];simp[bU]
 have nd:ys.Nodup:=by refine pm.nodup_iff.mpr ?_;unfold bU;simp only[ey];refine List.Pairwise.map _ ?_ (ql (n:=n));intro a b h e;exact h (by omega)
 have mem:∀i,i<n->0<=ys.getD i 0/\ys.getD i 0<n:=λi hi=>by have hm:ys.getD i 0∈bU n:=pm.mem_iff.mp (by simp[show i<ys.length by omega]);simp only[bU,ck,bw,ey]at hm;obtain⟨k,hk,e⟩:=hm;omega
 refine⟨λp hp=>?_,λa=>((rT a ys).getD 0:Nat),λp hp=>?_⟩
 ·obtain⟨i,j,hij,hj,rfl⟩:=h p hp;exact⟨(mem i (by omega)).1,(mem i (by omega)).2,(mem j hj).1,(mem j hj).2⟩
 ·obtain⟨i,j,hij,hj,rfl⟩:=h p hp;have hi':i<ys.length:=by omega
  have hj':j<ys.length:=by omega
  have e1:ys.getD i 0=ys[i]:=by simp[hi']
  have e2:ys.getD j 0=ys[j]:=by simp[hj']
  simp only[e1,e2,CQ nd i hi',CQ nd j hj',Option.getD_some];omega
end
section
variable{st:Nat}
end
end L2.Mr.Com
namespace L2.Mr.Cod
open PySem PySem.Spec PyProof.Rows L2 L2.Mr
open L2.Mr.Com
section
variable{st n:Nat}
theorem z02 {H:Hs}(hn:n<=6):nO (.int n) H=.ok (.ref H.length) (H++[.lst ((bU n).map Dv.int)]):=by
 have c:(decide (0<=(n:Int))&&decide ((n:Int)<=1000))=true:=by simp;omega
 simp only[nO,c,if_true]
theorem z03:wR=aJ (aK (aF (f1 nO) (aA (aB 1) aC)) (aE 2)) (aJ (aK (aV aC) (aE 3)) (aJ (eV xX xY 40) (aN (aF (f1 gF) (aA (aB 3) aC))))):=rfl
theorem z04 {H:Hs}(s:Com.St st H) (hn:n<=6):∃(ys:List Int) (H':Hs),F_ql [.ref st,.int n] H=.ok (.tup (ys.map Dv.int)) H'/\ys.Perm (bU n)/\Com.St st H'/\Fr [st] H H':=by
 have lt:=s.lt;have hL:=z02 (H:=H) hn;have hlen:(bU n).length<=6:=by simp[bU];omega
 generalize bU n=xs at hL hlen;have w0:aK (aF (f1 nO) (aA (aB 1) aC)) (aE 2) [some (.ref st),some (.int n),none,none] H=.nx [some (.ref st),some (.int n),some (.ref H.length),none] (H++[.lst (xs.map Dv.int)]):=by generalize (n:Int)=z at hL;simp[aK,aF,L2.Mr.f1,aA,aB,aC,hL,aE]
 have w1:aK (aV aC) (aE 3) [some (.ref st),some (.int n),some (.ref H.length),none] (H++[.lst (xs.map Dv.int)])=.nx [some (.ref st),some (.int n),some (.ref H.length),some (.ref (H.length+1))] (H++[.lst (xs.map Dv.int)]++[.lst []]):=by simp[aK,aV,aC,lim,aE]
 have ea:getL (H++[.lst (xs.map Dv.int)]++[.lst []]) H.length=some (xs.map Dv.int):=jH (by simp[getL]);have eb:getL (H++[.lst (xs.map Dv.int)]++[.lst []]) (H.length+1)=some (([]:List Int).map Dv.int):=by simp[getL]
 have f0:Fr [st] H (H++[.lst (xs.map Dv.int)]++[.lst []]):=Fr.trans (T:=[]) Fr.app Fr.app (by simp);have s0:Com.St st (H++[.lst (xs.map Dv.int)]++[.lst []]):=(s.fr (Fr.app (S:=[]) (l:=[.lst (xs.map Dv.int)])) (by simp)).fr (Fr.app (S:=[])) (by simp);obtain⟨H',ys,w2,e2,pm,s2,f2⟩:=L9 (st:=st) (a:=H.length) (b:=H.length+1) (d:=.int n) (by omega) (by omega) (by omega) 40 xs [] _ (by omega) (by simp;omega) ea eb s0;refine⟨ys,H', ?_,by simpa using pm,s2,f0.trans f2 (by simp)⟩;show bG (wR [some (.ref st),some (.int n),none,none] H)=_;rw[z03,bJ w0,bJ w1,bJ w2];simp[aN,aF,L2.Mr.f1,gF,aA,aB,aC,e2,bG]
def wS (m:Int) (S:List (Int×Int)) (a b:Int):List (Int×Int):=if(a,m)∈S/\(m,b)∈S/\(a,b)∉S then S++[(a,b)]else S
def wB (m a:Int) (bs:List Int) (S:List (Int×Int)):List (Int×Int):=bs.foldl (λS b=>wS m S a b) S
def wA (m:Int) (as bs:List Int) (S:List (Int×Int)):List (Int×Int):=as.foldl (λS a=>wB m a bs S) S
def wM (ms xs:List Int) (S:List (Int×Int)):List (Int×Int):=ms.foldl (λS m=>wA m xs xs S) S
theorem sY {m a b:Int}{S:List (Int×Int)}{p:Int×Int}(h:p∈S):p∈wS m S a b:=by unfold wS;split <;> simp[h]
theorem CT {m a b:Int}{S:List (Int×Int)}{p:Int×Int}(h:p∈wS m S a b):p∈S∨(p=(a,b)/\(a,m)∈S/\(m,b)∈S):=by
 unfold wS at h
 split at h
 ·rename_i c
  rcases bq.mp h with h|h
  ·exact .inl h
  ·exact .inr ⟨de.mp h,c.1,c.2.1⟩
 ·exact .inl h
theorem wS_in {m a b x:Int}{S:List (Int×Int)}:(x,m)∈wS m S a b↔(x,m)∈S:=by
 refine⟨λh=>?_,sY⟩
 rcases CT h with h|⟨e,h1,_⟩
 ·exact h
 ·cases e;exact h1
theorem wS_out {m a b x:Int}{S:List (Int×Int)}:(m,x)∈wS m S a b↔(m,x)∈S:=by
 refine⟨λh=>?_,sY⟩
 rcases CT h with h|⟨e,_,h1⟩
 ·exact h
 ·cases e;exact h1
theorem sZ {m a:Int}{p:Int×Int}:∀{bs:List Int}{S:List (Int×Int)},p∈S->p∈wB m a bs S
 | [],_,h=>h
 |b::bs,S,h=>sZ (bs:=bs) (sY (b:=b) h)
theorem wB_in {m a x:Int}:∀{bs:List Int}{S:List (Int×Int)},(x,m)∈wB m a bs S↔(x,m)∈S
 | [],_=>Iff.rfl
 |b::bs,S=>(wB_in (bs:=bs) (S:=wS m S a b)).trans wS_in
theorem wB_out {m a x:Int}:∀{bs:List Int}{S:List (Int×Int)},(m,x)∈wB m a bs S↔(m,x)∈S
 | [],_=>Iff.rfl
 |b::bs,S=>(wB_out (bs:=bs) (S:=wS m S a b)).trans wS_out
theorem ME {m a:Int}{p:Int×Int}:∀{bs:List Int}{S:List (Int×Int)},p∈wB m a bs S->p∈S∨(p.1,m)∈S/\(m,p.2)∈S
 | [],_,h=>.inl h
 |b::bs,S,h=>by
  rcases ME (bs:=bs) (S:=wS m S a b) h with h|⟨h1,h2⟩
  ·rcases CT h with h|⟨e,h1,h2⟩
   ·exact .inl h
   ·subst e;exact .inr ⟨h1,h2⟩
  ·exact .inr ⟨wS_in.mp h1,wS_out.mp h2⟩
theorem MF {m a b:Int}:∀{bs:List Int}{S:List (Int×Int)},b∈bs->(a,m)∈S->(m,b)∈S->(a,b)∈wB m a bs S
 |c::bs,S,hb,h1,h2=>by
  rcases bg.mp hb with rfl|hb
  ·refine sZ (bs:=bs) ?_;show(a,b)∈wS m S a b;unfold wS
   by_cases q:(a,b)∈S
   ·rw[if_neg (λz=>z.2.2 q)];exact q
   ·rw[if_pos ⟨h1,h2,q⟩];simp
  ·exact MF (bs:=bs) hb (sY h1) (sY h2)
theorem yA {m:Int}{bs:List Int}{p:Int×Int}:∀{as:List Int}{S:List (Int×Int)},p∈S->p∈wA m as bs S
 | [],_,h=>h
 |a::as,S,h=>yA (as:=as) (sZ h)
theorem wA_in {m x:Int}{bs:List Int}:∀{as:List Int}{S:List (Int×Int)},(x,m)∈wA m as bs S↔(x,m)∈S
 | [],_=>Iff.rfl
 |a::as,S=>(wA_in (as:=as) (S:=wB m a bs S)).trans wB_in
theorem wA_out {m x:Int}{bs:List Int}:∀{as:List Int}{S:List (Int×Int)},(m,x)∈wA m as bs S↔(m,x)∈S
 | [],_=>Iff.rfl
 |a::as,S=>(wA_out (as:=as) (S:=wB m a bs S)).trans wB_out
theorem tD {m:Int}{bs:List Int}{p:Int×Int}:∀{as:List Int}{S:List (Int×Int)},p∈wA m as bs S->p∈S∨(p.1,m)∈S/\(m,p.2)∈S
 | [],_,h=>.inl h
 |a::as,S,h=>by
  rcases tD (as:=as) (S:=wB m a bs S) h with h|⟨h1,h2⟩
  ·exact ME h
  ·exact .inr ⟨wB_in.mp h1,wB_out.mp h2⟩
theorem tE {m a b:Int}{bs:List Int}(hb:b∈bs):∀{as:List Int}{S:List (Int×Int)},a∈as->(a,m)∈S->(m,b)∈S->(a,b)∈wA m as bs S
 |c::as,S,ha,h1,h2=>by
  rcases bg.mp ha with rfl|ha
  ·exact yA (as:=as) (MF hb h1 h2)
  ·exact tE hb (as:=as) ha (sZ h1) (sZ h2)
def pT (xs:List Int) (S:List (Int×Int)):Prop:=∀p∈S,p.1∈xs/\p.2∈xs
theorem z05 {m:Int}{xs as bs:List Int}{S:List (Int×Int)}(h:pT xs S):pT xs (wA m as bs S):=λp hp=>by
 rcases tD hp with hp|⟨h1,h2⟩
 ·exact h p hp
 ·exact⟨(h _ h1).1,(h _ h2).2⟩
theorem z06 {m k:Int}{xs:List Int}{S:List (Int×Int)}(hX:pT xs S) (hk:∀a b,(a,k)∈S->(k,b)∈S->(a,b)∈S):∀a b,(a,k)∈wA m xs xs S->(k,b)∈wA m xs xs S->(a,b)∈wA m xs xs S:=λa b h1 h2=>by
 rcases tD h1 with h1|⟨h1,h1'⟩ <;> rcases tD h2 with h2|⟨h2,h2'⟩
 ·exact yA (hk a b h1 h2)
 ·exact tE (hX _ h2').2 (hX _ h1).1 (hk _ _ h1 h2) h2'
 ·exact tE (hX _ h2).2 (hX _ h1).1 h1 (hk _ _ h1' h2)
 ·exact tE (hX _ h2').2 (hX _ h1).1 h1 h2'
theorem MG {xs:List Int}:∀{ms:List Int}{S:List (Int×Int)}(D:Int->Prop),pT xs S->(∀k,D k->∀a b,(a,k)∈S->(k,b)∈S->(a,b)∈S)->
  pT xs (wM ms xs S)/\(∀p∈S,p∈wM ms xs S)/\∀k,D k∨k∈ms->∀a b,(a,k)∈wM ms xs S->(k,b)∈wM ms xs S->(a,b)∈wM ms xs S
 | [],S,D,hX,h=>⟨hX,λ_ hp=>hp,λk hk=>h k (hk.resolve_right (by simp))⟩
 |m::ms,S,D,hX,h=>by
  obtain⟨h1,h2,h3⟩:=MG (ms:=ms) (S:=wA m xs xs S) (λk=>D k∨k=m) (z05 hX) (λk hk=>by
   rcases hk with hk|rfl
   ·exact z06 hX (h k hk)
   ·exact λa b q1 q2=>tE (hX _ (wA_out.mp q2)).2 (hX _ (wA_in.mp q1)).1 (wA_in.mp q1) (wA_out.mp q2))
  refine⟨h1,λp hp=>h2 p (yA hp),λk hk=>h3 k ?_⟩
  rcases hk with hk|hk
  ·exact .inl (.inl hk)
  ·rcases bg.mp hk with hk|hk
   ·exact .inl (.inr hk)
   ·exact .inr hk
theorem MH {xs:List Int}{f:Int->Int}:∀{ms:List Int}{S:List (Int×Int)},(∀p∈S,f p.1<f p.2)->∀p∈wM ms xs S,f p.1<f p.2
 | [],_,h=>h
 |m::ms,S,h=>MH (ms:=ms) (S:=wA m xs xs S) λp hp=>by
  rcases tD hp with hp|⟨h1,h2⟩
  ·exact h p hp
  ·have:=h _ h1;have:=h _ h2;simp only at *;omega
end
section
variable{n i:Nat}{H:Hs}{S:List (Int×Int)}{m a b:Int}{x0 x1 x3 x4 x5:Option Dv}
theorem CU (neg:Bool) (p:Int×Int) (e:getL H i=some (S.map aI)):eC neg (aI p) (.ref i) H=.ok (.bl (if neg then !decide (p∈S)else decide (p∈S))) H:=by
 have e':(S.map iQ).any (λt=>bN t (iQ p))=decide (p∈S):=by
  rw[gy];simp only[zy,qi,vn,JD,decide_eq_true_eq];constructor
  ·rintro ⟨q,hq,rfl⟩;exact hq
  ·intro h;exact⟨p,h,rfl⟩
 have h1:bQ (bR cE H) (S.map aI)=some (S.map iQ):=AW 28 H S;have h2:bR cE H (aI p)=some (iQ p):=AV 28 H p;show mD [] neg (aI p) (.ref i) H=_;simp only[mD,fY,e,h1,h2,e']
def nX:MS:=aX (gK (mB (m2 (eC false) (aL (aA (aB 4) (aA (aB 3) aC))) (aB 2))) (gK (mB (m2 (eC false) (aL (aA (aB 3) (aA (aB 5) aC))) (aB 2))) (mB (m2 (eC true) (aL (aA (aB 4) (aA (aB 5) aC))) (aB 2))))) (eJ (iJ (aB 2) (aL (aA (aB 4) (aA (aB 5) aC))))) bK
def CV:MS:=cV (aR bX (aA (aB 0) aC)) (aE 5) nX
def CW:MS:=cV (aR bX (aA (aB 0) aC)) (aE 4) CV
theorem z07:wU=aJ (aK (aF (f1 jU) (aA (aB 1) aC)) (aE 2)) (aJ (cV (aR bX (aA (aB 0) aC)) (aE 3) CW) (aN (aF (f1 gF) (aA (aF (f1 pL) (aA (aB 2) aC)) aC)))):=rfl
theorem z08 (e:getL H i=some (S.map aI)) (hl:S.length<=500):
  ∃H',nX [x0,x1,some (.ref i),some (.int m),some (.int a),some (.int b)] H=.nx [x0,x1,some (.ref i),some (.int m),some (.int a),some (.int b)] H'/\getL H' i=some ((wS m S a b).map aI)/\Fr [i] H H':=by
 have t1:=CU false (a,m) e;have t2:=CU false (m,b) e;have t3:=CU true (a,b) e;simp only[aI,cg,if_false,if_true]at t1 t2 t3;have hz:S.length<1000000:=by omega
 by_cases c1:(a,m)∈S
 ·by_cases c2:(m,b)∈S
  ·by_cases c3:(a,b)∈S
   ·refine⟨H, ?_,by unfold wS;rw[if_neg (λz=>z.2.2 c3)];exact e,Fr.refl⟩;simp[nX,aX,gK,mB,m2,aL,aA,aB,aC,lim,t1,t2,t3,c1,c2,c3,cP,bK]
   ·refine⟨H.set i (.lst (S.map aI++[aI (a,b)])), ?_, ?_,Fr.set⟩
    ·simp[nX,aX,gK,mB,m2,aL,aA,aB,aC,lim,t1,t2,t3,c1,c2,c3,cP,eJ,iJ,jS,e,lV,hz,aI]
    ·unfold wS;rw[if_pos ⟨c1,c2,c3⟩,gq];exact jG e
  ·refine⟨H, ?_,by unfold wS;rw[if_neg (λz=>c2 z.2.1)];exact e,Fr.refl⟩;simp[nX,aX,gK,mB,m2,aL,aA,aB,aC,lim,t1,t2,c1,c2,cP,bK]
 ·refine⟨H, ?_,by unfold wS;rw[if_neg (λz=>c1 z.1)];exact e,Fr.refl⟩;simp[nX,aX,gK,mB,m2,aL,aA,aB,aC,lim,t1,c1,cP,bK]
theorem CY {bd:MS}{k:Nat}{ρ:Ev}(h0:∀H,aR bX (aA (aB 0) aC) ρ H=.ok (bY 0 n) H) (P:Nat->List (Int×Int)->Ev->Hs->Prop) (g:List (Int×Int)->Int->List (Int×Int))
  (step:∀(j:Nat) S ρ H,j<n->P j S ρ H->∃ρ1 ρ2 H',aE k (.int j) ρ=some ρ1/\bd ρ1 H=.nx ρ2 H'/\P (j+1) (g S j) ρ2 H') (hP:P 0 S ρ H):
  ∃ρ' H',cV (aR bX (aA (aB 0) aC)) (aE k) bd ρ H=.nx ρ' H'/\P n ((bU n).foldl g S) ρ' H':=by
 obtain⟨ρ',H',w,h⟩:=mH (sg:=aE k) (b:=bd) (h0 H) (λj ρ H=>P j (((bU n).take j).foldl g S) ρ H)
  (λj ρ H hj h=>by
   have hj':j<n:=by simpa[bY]using hj
   obtain⟨ρ1,ρ2,H',e1,e2,e3⟩:=step j _ ρ H hj' h;refine⟨.int j,ρ1,ρ2,H',by simp[bY],e1,e2, ?_⟩;have hq:(bU n).take (j+1)=(bU n).take j++[(j:Int)]:=by
    have hl:j<(bU n).length:=by simp[bU];omega
    rw[List.take_add_one];have:(bU n)[j]?=some (j:Int):=by rw[ba hl];simp[bU]
    rw[this];rfl
   rw[hq,List.foldl_append];exact e3) (λ_ _ _=>rfl) (by simpa using hP)
 refine⟨ρ',H',w, ?_⟩;have:(bY 0 (n:Int)).n=n:=by simp[bY]
 rw[this,qt (by simp[bU])]at h;exact h
theorem CZ (hn:n<=6) {ρ:Ev}:∀H,aR bX (aA (aB 0) aC) (some (.int n)::ρ) H=.ok (bY 0 n) H:=λH=>by have q:aA (aB 0) aC (some (.int (n:Int))::ρ) H=.ok [.int n] H:=rfl;unfold aR;rw[q,Rs.bind_ok];exact xZ (by omega) (by omega)
theorem z09:(wS m S a b).length<=S.length+1:=by unfold wS;split <;> simp
theorem z0a (hn:n<=6) (e:getL H i=some (S.map aI)) (hl:S.length<=400):
  ∃y5 H',CV [some (.int n),x1,some (.ref i),some (.int m),some (.int a),x5] H=.nx [some (.int n),x1,some (.ref i),some (.int m),some (.int a),y5] H'/\getL H' i=some ((wB m a (bU n) S).map aI)/\(wB m a (bU n) S).length<=S.length+n/\Fr [i] H H':=by
 obtain⟨ρ',H',w,y5,e1,e2,e3,e4⟩:=CY (S:=S) (H:=H) (bd:=nX) (k:=5) (ρ:=[some (.int n),x1,some (.ref i),some (.int m),some (.int a),x5]) (CZ hn) (λj S' ρ H'=>∃y5,ρ=[some (.int n),x1,some (.ref i),some (.int m),some (.int a),y5]/\getL H' i=some (S'.map aI)/\S'.length<=S.length+j/\Fr [i] H H') (λS b=>wS m S a b)
  (λj S' ρ H' hj ⟨y5,e1,e2,e3,e4⟩=>by subst e1;obtain⟨H2,w2,e5,f5⟩:=z08 (x0:=some (.int n)) (x1:=x1) (m:=m) (a:=a) (b:=(j:Int)) e2 (by omega);have:=z09 (m:=m) (a:=a) (b:=(j:Int)) (S:=S');exact⟨_,_,H2,rfl,w2,_,rfl,e5,by omega,e4.trans f5 (by simp)⟩) ⟨x5,rfl,e,by omega,Fr.refl⟩
 subst e1;exact⟨y5,H',w,e2,e3,e4⟩
theorem z0b (hn:n<=6) (e:getL H i=some (S.map aI)) (hl:S.length<=300):
  ∃y4 y5 H',CW [some (.int n),x1,some (.ref i),some (.int m),x4,x5] H=.nx [some (.int n),x1,some (.ref i),some (.int m),y4,y5] H'/\getL H' i=some ((wA m (bU n) (bU n) S).map aI)/\(wA m (bU n) (bU n) S).length<=S.length+6*n/\Fr [i] H H':=by
 obtain⟨ρ',H',w,y4,y5,e1,e2,e3,e4⟩:=CY (S:=S) (H:=H) (bd:=CV) (k:=4) (ρ:=[some (.int n),x1,some (.ref i),some (.int m),x4,x5]) (CZ hn) (λj S' ρ H'=>∃y4 y5,ρ=[some (.int n),x1,some (.ref i),some (.int m),y4,y5]/\getL H' i=some (S'.map aI)/\S'.length<=S.length+6*j/\Fr [i] H H') (λS a=>wB m a (bU n) S)
  (λj S' ρ H' hj ⟨y4,y5,e1,e2,e3,e4⟩=>by subst e1;obtain⟨z5,H2,w2,e5,l5,f5⟩:=z0a (x1:=x1) (x5:=y5) (m:=m) (a:=(j:Int)) hn e2 (by omega);exact⟨_,_,H2,rfl,w2,_,_,rfl,e5,by omega,e4.trans f5 (by simp)⟩) ⟨x4,x5,rfl,e,by omega,Fr.refl⟩
 subst e1;exact⟨y4,y5,H',w,e2,e3,e4⟩
theorem z0c {j:Nat}{ps:List (Int×Int)}(n1:1<=n) (hn:n<=6) (e:getL H j=some (ps.map aI)) (hl:ps.length<=40) (g:MB n ps):
  ∃(cs:List (Int×Int)) (H':Hs),F_qh [.int n,.ref j] H=.ok (.tup (cs.map aI)) H'/\OrdP n cs/\Fr [] H H':=by
 have w0:aK (aF (f1 jU) (aA (aB 1) aC)) (aE 2) [some (.int n),some (.ref j),none,none,none,none] H=.nx [some (.int n),some (.ref j),some (.ref H.length),none,none,none] (H++[.lst (ps.map aI)]):=by simp[aK,aF,f1,jU,eW,oR,fY,aA,aB,aC,e,aE]
 have g0:getL (H++[Ob.lst (ps.map aI)]) H.length=some (ps.map aI):=by simp[getL]
 have f0:Fr [] H (H++[Ob.lst (ps.map aI)]):=Fr.app;obtain⟨q,hq⟩:∃q,q=H.length:=⟨_,rfl⟩
 rw[<-hq]at w0 g0;obtain⟨H0,hH0⟩:∃H0,H0=H++[Ob.lst (ps.map aI)]:=⟨_,rfl⟩
 rw[<-hH0]at w0 g0 f0;obtain⟨ρ',H1,w1,y3,y4,y5,e1,e2,e3,e4⟩:=CY (S:=ps) (H:=H0) (bd:=CW) (k:=3) (ρ:=[some (.int n),some (.ref j),some (.ref q),none,none,none]) (CZ hn) (λk S' ρ H'=>∃y3 y4 y5,ρ=[some (.int n),some (.ref j),some (.ref q),y3,y4,y5]/\getL H' q=some (S'.map aI)/\S'.length<=ps.length+36*k/\Fr [q] H0 H') (λS m=>wA m (bU n) (bU n) S)
  (λk S' ρ H' hj ⟨y3,y4,y5,e1,e2,e3,e4⟩=>by subst e1;obtain⟨z4,z5,H2,w2,e5,l5,f5⟩:=z0b (x1:=some (.ref j)) (x4:=y4) (x5:=y5) (m:=(k:Int)) hn e2 (by omega);exact⟨_,_,H2,rfl,w2,_,_,_,rfl,e5,by omega,e4.trans f5 (by simp)⟩) ⟨none,none,none,rfl,g0,by omega,Fr.refl⟩
 subst e1;have hX:pT (bU n) ps:=λp hp=>by have:=g.1 p hp;simp only[bU,ck,bw,ey];exact⟨⟨p.1.toNat,by omega,by omega⟩,p.2.toNat,by omega,by omega⟩
 obtain⟨k1,k2,k3⟩:=MG (xs:=bU n) (ms:=bU n) (S:=ps) (λ_=>False) hX (λ_ h=>h.elim);obtain⟨f,hf⟩:=g.2;have k4:=MH (xs:=bU n) (ms:=bU n) (f:=f) hf;change getL H1 q=some ((wM (bU n) (bU n) ps).map aI)at e2;generalize wM (bU n) (bU n) ps=W at e2 k1 k2 k3 k4;have hr:=vO stoP W;have hm:∀p,p∈dJ eX W↔p∈W:=λp=>pH stoP p W;have o:OrdP n (dJ eX W):=by
  refine⟨n1,hn,λp hp=>?_,hr,λp hp e=>?_,λp hp r hr' e=>?_⟩
  ·have:=k1 p ((hm p).mp hp);simp only[bU,ck,bw,ey]at this;obtain⟨⟨k,hk,e⟩,k',hk',e'⟩:=this;omega
  ·have:=k4 p ((hm p).mp hp);rw[e]at this;omega
  ·refine(hm _).mpr (k3 p.2 (.inr (k1 p ((hm p).mp hp)).2) p.1 r.2 ((hm p).mp hp) ?_);rw[e];exact(hm r).mp hr'
 have hs:=y9 (z00 e2) (by have:=o.len;omega);have f1':Fr [] H1 (H1++[Ob.lst ((dJ eX W).map aI)]):=Fr.app;have g2:getL (H1++[Ob.lst ((dJ eX W).map aI)]) H1.length=some ((dJ eX W).map aI):=by simp[getL]
 refine⟨dJ eX W,H1++[Ob.lst ((dJ eX W).map aI)], ?_,o,(f0.trans e4 (λx hx=>.inr (by rw[de.mp hx,hq];exact ak _))).trans f1' (by simp)⟩;show bG (wU [some (.int n),some (.ref j),none,none,none,none] H)=_;rw[z07,bJ w0,bJ w1];generalize H1++[Ob.lst ((dJ eX W).map aI)]=H2 at hs g2;simp[aN,aF,f1,gF,aA,aB,aC,hs,g2,bG]
end
theorem MI {H:Hs}{ys:List Int}{k:Nat}(hk:k<ys.length):aQ (.tup (ys.map Dv.int)) (.int k) H=.ok (.int (ys.getD k 0)) H:=by
 have h1:dM (ys.map Dv.int).length (k:Int)=some k:=by
  unfold dM;have hl:(ys.map Dv.int).length=ys.length:=by simp
  rw[hl,if_pos (by omega),if_pos (by omega)];simp
 have h2:cI (ys.map Dv.int) (k:Int)=some (.int (ys.getD k 0)):=by unfold cI;rw[h1];simp[hk]
 simp only[aQ,eW,eU,hJ,h2,if_true]
section
variable{st ip im n:Nat}{ys ms:List Int}{w:Int}{d1:Dv}
abbrev ev (st ip im n:Nat) (w:Int) (d1:Dv) (ys:List Int) (x7 x8 x9:Option Dv):Ev:=[some (.ref st),some d1,some (.int n),some (.tup (ys.map Dv.int)),some (.int w),some (.ref im),some (.ref ip),x7,x8,x9]
def q1:MS:=aK (m2 fF (aF F_qs (aA (aB 0) (aA (mC (.int 4)) aC))) (m2 aQ (aV (aA (mC (.int 1)) (aA (mC (.int 2)) (aA (mC (.int 3)) aC)))) (m2 gI (aB 4) (mC (.int 3))))) (aE 9)
def q2:MS:=aX (mB (m2 cK (aB 4) (mC (.int 3)))) (aK (m2 cK (m2 aQ (aB 5) (aB 7)) (m2 aQ (aB 5) (aB 8))) (aE 9)) bK
def q3:MS:=aX (mB (m2 cK (aB 4) (mC (.int 4)))) (aK (m2 fF (m2 aQ (aB 5) (aB 7)) (m2 aQ (aB 5) (aB 8))) (aE 9)) bK
def q4:MS:=aX (bW (aB 9)) (eJ (iJ (aB 6) (aL (aA (m2 aQ (aB 3) (aB 7)) (aA (m2 aQ (aB 3) (aB 8)) aC))))) bK
def oB:MS:=aJ q1 (aJ q2 (aJ q3 q4))
structure Sd (st im:Nat) (ms:List Int) (H:Hs):Prop where
 s:Com.St st H
 m:getL H im=some (ms.map Dv.int)
theorem Sd.fr {H H':Hs}{S:List Nat}(h:Sd st im ms H) (f:Fr S H H') (s':Com.St st H') (h2:im∉S):Sd st im ms H':=⟨s',f.getL h.m h2⟩
theorem z0d {H:Hs}{x9:Option Dv}{ps:List (Int×Int)}{i j:Nat}(D:Sd st im ms H) (ep:getL H ip=some (ps.map aI)) (hw:0<=w/\w<5) (hi:i<n) (hj:j<n) (hy:ys.length=n) (hm:ms.length=n) (hl:ps.length<=1000)
  (h2:im≠st) (h3:ip≠st) (h5:im≠ip):
  ∃(x9':Option Dv) (H':Hs) (ps':List (Int×Int)),oB (ev st ip im n w d1 ys (some (.int i)) (some (.int j)) x9) H=.nx (ev st ip im n w d1 ys (some (.int i)) (some (.int j)) x9') H'/\getL H' ip=some (ps'.map aI)/\(ps'=ps∨ps'=ps++[(ys.getD i 0,ys.getD j 0)])/\Sd st im ms H'/\Fr [st,ip] H H':=by
 obtain⟨r0,H0,_,_,t0,f0,s0⟩:=pR 4 D.s;have D0:=D.fr f0 s0 (by simpa using h2);have ep0:=f0.getL ep (by simpa using h3);have fA:Fr [] H0 (H0++[Ob.lst [.int 1,.int 2,.int 3]]):=Fr.app;have eA:getL (H0++[Ob.lst [.int 1,.int 2,.int 3]]) H0.length=some [.int 1,.int 2,.int 3]:=by simp[getL]
 have near:∃c,aQ (.ref H0.length) (.int (w % 3)) (H0++[Ob.lst [.int 1,.int 2,.int 3]])=.ok (.int c) (H0++[Ob.lst [.int 1,.int 2,.int 3]]):=by
  have hw':w=0∨w=1∨w=2∨w=3∨w=4:=by omega
  rcases hw' with rfl|rfl|rfl|rfl|rfl
  ·exact⟨1,by simp only[aQ,eW,eU,eA];rfl⟩
  ·exact⟨2,by simp only[aQ,eW,eU,eA];rfl⟩
  ·exact⟨3,by simp only[aQ,eW,eU,eA];rfl⟩
  ·exact⟨1,by simp only[aQ,eW,eU,eA];rfl⟩
  ·exact⟨2,by simp only[aQ,eW,eU,eA];rfl⟩
 obtain⟨c,hc⟩:=near;have hmod:gI (.int w) (.int 3) (H0++[Ob.lst [.int 1,.int 2,.int 3]])=.ok (.int (w % 3)) (H0++[Ob.lst [.int 1,.int 2,.int 3]]):=by
  have hw':w=0∨w=1∨w=2∨w=3∨w=4:=by omega
  rcases hw' with rfl|rfl|rfl|rfl|rfl <;> rfl
 have hlst:aV (aA (mC (.int 1)) (aA (mC (.int 2)) (aA (mC (.int 3)) aC))) (ev st ip im n w d1 ys (some (.int i)) (some (.int j)) x9) H0=.ok (.ref H0.length) (H0++[Ob.lst [.int 1,.int 2,.int 3]]):=rfl;have DA:=D0.fr fA (s0.fr fA (by simp)) (by simp);have epA:=fA.getL ep0 (by simp);have fHA:Fr [st] H (H0++[Ob.lst [.int 1,.int 2,.int 3]]):=f0.trans fA (by simp);generalize H0++[Ob.lst [.int 1,.int 2,.int 3]]=HA at hc hmod hlst DA epA fHA;have w1:q1 (ev st ip im n w d1 ys (some (.int i)) (some (.int j)) x9) H=.nx (ev st ip im n w d1 ys (some (.int i)) (some (.int j)) (some (.bl (decide (r0<c))))) HA:=by
  have a1:aF F_qs (aA (aB 0) (aA (mC (.int 4)) aC)) (ev st ip im n w d1 ys (some (.int i)) (some (.int j)) x9) H=.ok (.int r0) H0:=by simp[aF,aA,aB,mC,aC,t0]
  have a2:m2 gI (aB 4) (mC (.int 3)) (ev st ip im n w d1 ys (some (.int i)) (some (.int j)) x9) HA=.ok (.int (w % 3)) HA:=by simp[m2,aB,mC,hmod]
  have a3:m2 aQ (aV (aA (mC (.int 1)) (aA (mC (.int 2)) (aA (mC (.int 3)) aC)))) (m2 gI (aB 4) (mC (.int 3))) (ev st ip im n w d1 ys (some (.int i)) (some (.int j)) x9) H0=.ok (.int c) HA:=by show(aV _ _ H0).bind _=_;rw[hlst,Rs.bind_ok,a2,Rs.bind_ok,hc]
  unfold q1 aK;have a4:m2 fF (aF F_qs (aA (aB 0) (aA (mC (.int 4)) aC))) (m2 aQ (aV (aA (mC (.int 1)) (aA (mC (.int 2)) (aA (mC (.int 3)) aC)))) (m2 gI (aB 4) (mC (.int 3)))) (ev st ip im n w d1 ys (some (.int i)) (some (.int j)) x9) H=.ok (.bl (decide (r0<c))) HA:=by show(aF _ _ _ H).bind _=_;rw[a1,Rs.bind_ok,a3,Rs.bind_ok];rfl
  rw[a4];rfl
 have hmi:=CP DA.m (k:=i) (by omega);have hmj:=CP DA.m (k:=j) (by omega);generalize ms[i]=va at hmi;generalize ms[j]=vb at hmj;have w2:∀b,∃b',q2 (ev st ip im n w d1 ys (some (.int i)) (some (.int j)) (some (.bl b))) HA=.nx (ev st ip im n w d1 ys (some (.int i)) (some (.int j)) (some (.bl b'))) HA:=λb=>by
  by_cases q:w=3
  ·subst q;refine⟨va==vb, ?_⟩;simp[q2,aX,mB,m2,aB,mC,Com.eq_int,cP,aK,hmi,hmj,aE]
  ·refine⟨b, ?_⟩;have q':(w==3)=false:=by simpa using q
   simp[q2,aX,mB,m2,aB,mC,Com.eq_int,q',cP,bK]
 have w3:∀b,∃b',q3 (ev st ip im n w d1 ys (some (.int i)) (some (.int j)) (some (.bl b))) HA=.nx (ev st ip im n w d1 ys (some (.int i)) (some (.int j)) (some (.bl b'))) HA:=λb=>by
  by_cases q:w=4
  ·subst q;refine⟨decide (va<vb), ?_⟩;simp[q3,aX,mB,m2,aB,mC,Com.eq_int,cP,aK,hmi,hmj,fF,aE]
  ·refine⟨b, ?_⟩;have q':(w==4)=false:=by simpa using q
   simp[q3,aX,mB,m2,aB,mC,Com.eq_int,q',cP,bK]
 obtain⟨b2,w2⟩:=w2 (decide (r0<c));obtain⟨b,w3⟩:=w3 b2;have t:bW (aB 9) (ev st ip im n w d1 ys (some (.int i)) (some (.int j)) (some (.bl b))) HA=.ok b HA:=rfl;unfold oB;rw[bJ w1,bJ w2,bJ w3];unfold q4
 cases b with
 |false=>refine⟨some (.bl false),HA,ps, ?_,epA,.inl rfl,DA,fHA.mono (by simp)⟩;rw[rV t];rfl
 |true=>
  have hyi:=MI (H:=HA) (ys:=ys) (k:=i) (by omega);have hyj:=MI (H:=HA) (ys:=ys) (k:=j) (by omega);generalize ys.getD i 0=va at hyi ⊢;generalize ys.getD j 0=vb at hyj ⊢;have hz:(ps.map aI).length<1000000:=by rw[br];omega
  have fC:Fr [ip] HA (HA.set ip (.lst ((ps++[(va,vb)]).map aI))):=Fr.set;refine⟨some (.bl true),HA.set ip (.lst ((ps++[(va,vb)]).map aI)),ps++[(va,vb)], ?_,jG epA,.inr rfl,DA.fr fC (DA.s.fr fC (by simpa using cy h3)) (by simpa using h5),(fHA.mono (T:=[st,ip]) (by simp)).trans fC (by simp)⟩;rw[vM t];have isP':jS (.ref ip) HA=true:=by simp[jS,epA]
  have happ:lV (.ref ip) (.tup [.int (va),.int (vb)]) HA=.ok .non (HA.set ip (.lst ((ps++[(va,vb)]).map aI))):=by simp only[lV,epA,hz,if_true,gq];rfl
  simp[eJ,iJ,aB,isP',aL,aA,m2,hyi,hyj,aC,lim,happ]
def yB:MS:=cV (aR jC (aA (m2 bH (aB 7) (mC (.int 1))) (aA (aB 2) aC))) (aE 8) oB
theorem z0e {H:Hs}{x8 x9:Option Dv}{ps:List (Int×Int)}{i:Nat}(D:Sd st im ms H) (ep:getL H ip=some (ps.map aI)) (hw:0<=w/\w<5) (hi:i<n) (hn:n<=6) (hy:ys.length=n) (hm:ms.length=n) (hl:ps.length<=500) (hb:pS ys n ps)
  (h2:im≠st) (h3:ip≠st) (h5:im≠ip):
  ∃(x8' x9':Option Dv) (H':Hs) (ps':List (Int×Int)),yB (ev st ip im n w d1 ys (some (.int i)) x8 x9) H=.nx (ev st ip im n w d1 ys (some (.int i)) x8' x9') H'/\getL H' ip=some (ps'.map aI)/\pS ys n ps'/\ps'.length<=ps.length+6/\Sd st im ms H'/\Fr [st,ip] H H':=by
 have hi0:aR jC (aA (m2 bH (aB 7) (mC (.int 1))) (aA (aB 2) aC)) (ev st ip im n w d1 ys (some (.int i)) x8 x9) H=.ok (bY ((i:Int)+1) n) H:=by have q:aA (m2 bH (aB 7) (mC (.int 1))) (aA (aB 2) aC) (ev st ip im n w d1 ys (some (.int i)) x8 x9) H=.ok [.int ((i:Int)+1),.int n] H:=rfl;unfold aR;rw[q,Rs.bind_ok];exact MD (by omega) (by omega) (by omega) (by omega)
 have hN:(bY ((i:Int)+1) (n:Int)).n=n - (i+1):=by show((n:Int) - ((i:Int)+1)).toNat=_;omega
 obtain⟨ρ',H',r1,x8',x9',ps',e1,e2,e3,e4,e5,e6⟩:=mH (b:=oB) (sg:=aE 8) hi0 (λk ρ H'=>∃(x8' x9':Option Dv) (ps':List (Int×Int)),ρ=ev st ip im n w d1 ys (some (.int i)) x8' x9'/\getL H' ip=some (ps'.map aI)/\pS ys n ps'/\ps'.length<=ps.length+k/\Sd st im ms H'/\Fr [st,ip] H H')
  (λk ρ H' hk ⟨x8',x9',ps',e1,e2,e3,e4,e5,e6⟩=>by
   subst e1;rw[hN]at hk;have hj:i+1+k<n:=by omega
   obtain⟨x9n,H2,ps2,b1,b2,b3,b4,b5⟩:=z0d (x9:=x9') (w:=w) (d1:=d1) (ip:=ip) (n:=n) (i:=i) (j:=i+1+k) (ys:=ys) e5 e2 hw hi hj hy hm (by omega) h2 h3 h5;have ej:(((i+1+k:Nat)):Int)=(i:Int)+1+(k:Int):=by omega
   rw[ej]at b1;refine⟨.int ((i:Int)+1+(k:Int)),ev st ip im n w d1 ys (some (.int i)) (some (.int ((i:Int)+1+(k:Int)))) x9',_,H2,rfl,rfl,b1,_,_,ps2,rfl,b2, ?_, ?_,b4,e6.trans b5 λj hj=>.inl hj⟩
   ·rcases b3 with rfl|rfl
    ·exact e3
    ·intro p hp
     rcases bq.mp hp with hp|hp
     ·exact e3 p hp
     ·rw[de.mp hp];exact⟨i,i+1+k,by omega,hj,rfl⟩
   ·rcases b3 with rfl|rfl
    ·omega
    ·rw[cm];simp;omega) (λ_ _ _=>rfl) ⟨x8,x9,ps,rfl,ep,hb,by omega,D,Fr.refl⟩
 rw[hN]at e4;exact⟨x8',x9',H',ps',by unfold yB;rw[r1,e1],e2,e3,by omega,e5,e6⟩
def DB:MS:=cV (aR bX (aA (aB 2) aC)) (aE 7) yB
theorem z0f {H:Hs}{x7 x8 x9:Option Dv}(D:Sd st im ms H) (ep:getL H ip=some (([]:List (Int×Int)).map aI)) (hw:0<=w/\w<5) (hn:n<=6) (hy:ys.length=n) (hm:ms.length=n)
  (h2:im≠st) (h3:ip≠st) (h5:im≠ip):
  ∃(x7' x8' x9':Option Dv) (H':Hs) (ps':List (Int×Int)),DB (ev st ip im n w d1 ys x7 x8 x9) H=.nx (ev st ip im n w d1 ys x7' x8' x9') H'/\getL H' ip=some (ps'.map aI)/\pS ys n ps'/\ps'.length<=36/\Sd st im ms H'/\Fr [st,ip] H H':=by
 have hi0:aR bX (aA (aB 2) aC) (ev st ip im n w d1 ys x7 x8 x9) H=.ok (bY 0 n) H:=by have q:aA (aB 2) aC (ev st ip im n w d1 ys x7 x8 x9) H=.ok [.int n] H:=rfl;unfold aR;rw[q,Rs.bind_ok];exact xZ (by omega) (by omega)
 have hN:(bY 0 (n:Int)).n=n:=by simp[bY]
 obtain⟨ρ',H',r1,x7',x8',x9',ps',e1,e2,e3,e4,e5,e6⟩:=mH (b:=yB) (sg:=aE 7) hi0 (λk ρ H'=>∃(x7' x8' x9':Option Dv) (ps':List (Int×Int)),ρ=ev st ip im n w d1 ys x7' x8' x9'/\getL H' ip=some (ps'.map aI)/\pS ys n ps'/\ps'.length<=6*k/\Sd st im ms H'/\Fr [st,ip] H H')
  (λk ρ H' hk ⟨x7',x8',x9',ps',e1,e2,e3,e4,e5,e6⟩=>by
   subst e1;rw[hN]at hk;obtain⟨x8n,x9n,H2,ps2,b1,b2,b3,b4,b5,b6⟩:=z0e (x8:=x8') (x9:=x9') (w:=w) (d1:=d1) (ip:=ip) (n:=n) (i:=k) (ys:=ys) e5 e2 hw hk hn hy hm (by omega) e3 h2 h3 h5;have ek:(0:Int)+(k:Int)=(k:Int):=by omega
   refine⟨.int (0+(k:Int)),ev st ip im n w d1 ys (some (.int k)) x8' x9',_,H2,rfl,by rw[ek];rfl,b1,_,_,_,ps2,rfl,b2,b3,by omega,b5,e6.trans b6 λj hj=>.inl hj⟩) (λ_ _ _=>rfl) ⟨x7,x8,x9,[],rfl,ep,λp hp=>by simp at hp,by simp,D,Fr.refl⟩
 rw[hN]at e4;exact⟨x7',x8',x9',H',ps',by unfold DB;rw[r1,e1],e2,e3,by omega,e5,e6⟩
end
def MJ:M (List Dv):=(aA (mC (.int 0)) (aA (mC (.int 0)) (aA (mC (.int 1)) (aA (mC (.int 0)) (aA (mC (.int 2)) (aA (mC (.int 1)) (aA (mC (.int 3)) (aA (m2 gA (aB 1) (mC (.int 1))) aC))))))))
def z1:MS:=aK (m2 gA (aB 1) (m2 aQ (aV MJ) (aF F_qs (aA (aB 0) (aA (mC (.int 8)) aC))))) (aE 2)
def z2:MS:=aK (aF fZ (aA (mC (.int 1)) (aA (aB 2) aC))) (aE 2)
def z3:MS:=aK (aF F_ql (aA (aB 0) (aA (aB 2) aC))) (aE 3)
def z4:MS:=aK (aF F_qs (aA (aB 0) (aA (mC (.int 5)) aC))) (aE 4)
def DC:M (List Dv):=cB (cU eB (aB 3)) [none,some 0] (aE 0) dO (bP (aF F_qs (aA (aB 1) (aA (mC (.int 3)) aC))))
def z5:MS:=aK (cN DC) (aE 5)
def z6:MS:=aK (aV aC) (aE 6)
def z9:MS:=aN (aL (aA (aB 2) (aA (aF F_qh (aA (aB 2) (aA (aB 6) aC))) aC)))
theorem z0g:wV=aJ z1 (aJ z2 (aJ z3 (aJ z4 (aJ z5 (aJ z6 (aJ DB z9)))))):=rfl
section
variable{st:Nat}
theorem z0h {H:Hs}{x2 x3 x4 x5 x6 x7 x8 x9:Option Dv}(s:Com.St st H):∃(v:Int) (H':Hs),0<=v/\v<=5/\z1 [some (.ref st),some (.int 6),x2,x3,x4,x5,x6,x7,x8,x9] H=.nx [some (.ref st),some (.int 6),some (.int (6 - v)),x3,x4,x5,x6,x7,x8,x9] H'/\Com.St st H'/\Fr [st] H H':=by
 have fA:Fr [] H (H++[Ob.lst [.int 0,.int 0,.int 1,.int 0,.int 2,.int 1,.int 3,.int 5]]):=Fr.app;have eA:getL (H++[Ob.lst [.int 0,.int 0,.int 1,.int 0,.int 2,.int 1,.int 3,.int 5]]) H.length=some (([0,0,1,0,2,1,3,5]:List Int).map Dv.int):=by simp[getL]
 have sA:=s.fr fA (by simp);have lt:=s.lt;have hd:aV MJ [some (.ref st),some (.int 6),x2,x3,x4,x5,x6,x7,x8,x9] H=.ok (.ref H.length) (H++[Ob.lst [.int 0,.int 0,.int 1,.int 0,.int 2,.int 1,.int 3,.int 5]]):=rfl;generalize H++[Ob.lst [.int 0,.int 0,.int 1,.int 0,.int 2,.int 1,.int 3,.int 5]]=HA at fA eA sA hd;obtain⟨r,H1,r0,r1,t1,f1,s1⟩:=pR 8 sA;have e1:=f1.getL eA (by simp;omega);obtain⟨k,rfl⟩:∃k:Nat,r=k:=⟨r.toNat,by omega⟩
 have hk:k<8:=by omega
 have hx:=CP e1 (k:=k) (by simpa using hk);have hv:0<=([0,0,1,0,2,1,3,5]:List Int)[k]/\([0,0,1,0,2,1,3,5]:List Int)[k]<=5:=by
  match k,hk with
  |0,_=>simp
  |1,_=>simp
  |2,_=>simp
  |3,_=>simp
  |4,_=>simp
  |5,_=>simp
  |6,_=>simp
  |7,_=>simp
 generalize ([0,0,1,0,2,1,3,5]:List Int)[k]=v at hx hv;refine⟨v,H1,hv.1,hv.2, ?_,s1,fA.mono (T:=[st]) (by simp) |>.trans f1 (by simp)⟩;have ht:aF F_qs (aA (aB 0) (aA (mC (.int 8)) aC)) [some (.ref st),some (.int 6),x2,x3,x4,x5,x6,x7,x8,x9] HA=.ok (.int k) H1:=by simp[aF,aA,aB,mC,aC,t1]
 unfold z1 aK m2;show((Rs.ok (Dv.int 6) H).bind _).thenS _=_;rw[Rs.bind_ok,hd,Rs.bind_ok,ht,Rs.bind_ok,hx,Rs.bind_ok];rfl
theorem z0i {H:Hs}{ys:List Int}{x1 x2 x4 x5 x6 x7 x8 x9:Option Dv}(s:Com.St st H) (hl:ys.length<=100):∃(ms:List Int) (H':Hs),ms.length=ys.length/\z5 [some (.ref st),x1,x2,some (.tup (ys.map Dv.int)),x4,x5,x6,x7,x8,x9] H=.nx [some (.ref st),x1,x2,some (.tup (ys.map Dv.int)),x4,some (.ref H'.length),x6,x7,x8,x9] (H'++[.lst (ms.map Dv.int)])/\Com.St st H'/\Fr [st] H H':=by
 have hi:cU eB (aB 3) [some (.ref st),x1,x2,some (.tup (ys.map Dv.int)),x4,x5,x6,x7,x8,x9] H=.ok (cM (ys.map Dv.int)) H:=rfl;obtain⟨ρ',H',acc',h1,a,ms,h2,h3,h4,h5,h6⟩:=rW (src:=cM (ys.map Dv.int)) (sg:=aE 0) (t:=dO) (m:=bP (aF F_qs (aA (aB 1) (aA (mC (.int 3)) aC))))
  (λk ρ H' acc=>∃(a:Option Dv) (ms:List Int),ρ=[a,some (.ref st)]/\acc=ms.map Dv.int/\ms.length=k/\Com.St st H'/\Fr [st] H H')
  (λk ρ H' acc hk ⟨a,ms,e1,e2,e3,e4,e5⟩=>by
   subst e1;subst e2;have hk':k<ys.length:=by simpa[cM]using hk
   obtain⟨r,H1,r0,r1,t1,f1,s1⟩:=pR 3 e4;refine⟨.int ys[k],[some (.int ys[k]),some (.ref st)],by simp[cM,hk'],rfl,.inr ⟨H',[some (.int ys[k]),some (.ref st)],(ms++[r]).map Dv.int,H1,rfl, ?_,_,ms++[r],rfl,rfl,by simp[e3],s1,e5.trans f1 (by simp)⟩⟩;have hz:ms.length<1000000:=by omega
   simp[bP,aF,aA,aB,mC,aC,t1,hz]) (λρ H' acc _=>rfl) ys.length 0 [none,some (.ref st)] H [] (by simp[cM]) ⟨none,[],rfl,rfl,rfl,s,Fr.refl⟩
 refine⟨ms,H',by simpa[cM]using h4, ?_,h5,h6⟩;have hc:DC [some (.ref st),x1,x2,some (.tup (ys.map Dv.int)),x4,x5,x6,x7,x8,x9] H=.ok (ms.map Dv.int) H':=by unfold DC cB;rw[hi,Rs.bind_ok];have hcap:fQ [none,some 0] [some (.ref st),x1,x2,some (.tup (ys.map Dv.int)),x4,x5,x6,x7,x8,x9]=[none,some (.ref st)]:=rfl;rw[hcap,show(cM (ys.map Dv.int)).n=ys.length by simp[cM],h1];dsimp only;rw[h3]
 unfold z5 aK cN;rw[hc];rfl
theorem z0j {H:Hs}(s:Com.St st H):∃(n:Nat) (cs:List (Int×Int)) (H':Hs),F_qm [.ref st,.int 6] H=.ok (aZ n cs) H'/\OrdP n cs/\Com.St st H'/\Fr [st] H H':=by
 have lt:=s.lt;obtain⟨v,H1,v0,v1,w1,s1,f1'⟩:=z0h (x2:=none) (x3:=none) (x4:=none) (x5:=none) (x6:=none) (x7:=none) (x8:=none) (x9:=none) s;obtain⟨n,hn⟩:∃n:Nat,(6:Int) - v=n:=⟨(6 - v).toNat,by omega⟩
 have n1:1<=n:=by omega
 have n6:n<=6:=by omega
 rw[hn]at w1;have w2:z2 [some (.ref st),some (.int 6),some (.int n),none,none,none,none,none,none,none] H1=.nx [some (.ref st),some (.int 6),some (.int n),none,none,none,none,none,none,none] H1:=by
  have hm:fZ [.int 1,.int (n:Int)] H1=.ok (.int n) H1:=by
   show Rs.ok (Dv.int (if(n:Int)>1 then(n:Int)else 1)) H1=_
   split
   ·rfl
   ·rw[show(1:Int)=n by omega]
  simp[z2,aK,aF,aA,mC,aB,aC,hm,aE]
 obtain⟨ys,H2,t2,pm,s2,f2⟩:=z04 s1 n6;have hy:ys.length=n:=by rw[pm.length_eq];simp[bU]
 have w3:z3 [some (.ref st),some (.int 6),some (.int n),none,none,none,none,none,none,none] H1=.nx [some (.ref st),some (.int 6),some (.int n),some (.tup (ys.map Dv.int)),none,none,none,none,none,none] H2:=by generalize ys.map Dv.int=Y at t2;simp[z3,aK,aF,aA,aB,aC,t2,aE]
 obtain⟨w,H3,w0,w5,t3,f3,s3⟩:=pR 5 s2;have w4:z4 [some (.ref st),some (.int 6),some (.int n),some (.tup (ys.map Dv.int)),none,none,none,none,none,none] H2=.nx [some (.ref st),some (.int 6),some (.int n),some (.tup (ys.map Dv.int)),some (.int w),none,none,none,none,none] H3:=by simp[z4,aK,aF,aA,aB,mC,aC,t3,aE]
 obtain⟨ms,H4,hm,w6,s4,f4⟩:=z0i (ys:=ys) (x1:=some (.int 6)) (x2:=some (.int n)) (x4:=some (.int w)) (x5:=none) (x6:=none) (x7:=none) (x8:=none) (x9:=none) s3 (by omega);have fN:Fr [] H4 (H4++[Ob.lst (ms.map Dv.int)]):=Fr.app;have gN:getL (H4++[Ob.lst (ms.map Dv.int)]) H4.length=some (ms.map Dv.int):=by simp[getL]
 have l4:=s4.lt;obtain⟨im,him⟩:∃im,im=H4.length:=⟨_,rfl⟩
 rw[<-him]at w6 gN;have s5:=s4.fr fN (by simp);have hle5:(H4++[Ob.lst (ms.map Dv.int)]).length=im+1:=by simp[him]
 generalize H4++[Ob.lst (ms.map Dv.int)]=H5 at w6 gN s5 fN hle5;have w7:z6 [some (.ref st),some (.int 6),some (.int n),some (.tup (ys.map Dv.int)),some (.int w),some (.ref im),none,none,none,none] H5=.nx [some (.ref st),some (.int 6),some (.int n),some (.tup (ys.map Dv.int)),some (.int w),some (.ref im),some (.ref H5.length),none,none,none] (H5++[.lst []]):=rfl;have fM:Fr [] H5 (H5++[Ob.lst []]):=Fr.app;have eP:getL (H5++[Ob.lst []]) H5.length=some (([]:List (Int×Int)).map aI):=by simp[getL]
 have D:Sd st im ms (H5++[Ob.lst []]):=⟨s5.fr fM (by simp),fM.getL gN (by simp)⟩
 obtain⟨x7,x8,x9,H6,ps,w8,eP6,hb,hlp,D6,f6⟩:=z0f (d1:=.int 6) (w:=w) (ip:=H5.length) (n:=n) (ys:=ys) (x7:=none) (x8:=none) (x9:=none) D eP ⟨w0,w5⟩ n6 hy (by omega) (by omega) (by omega) (by omega);obtain⟨cs,H7,t7,o,f7⟩:=z0c n1 n6 eP6 (by omega) (z01 pm hb);have hfall:Fr [st] H H7:=by
  have g1:Fr [st] H H3:=(f1'.trans f2 (by simp)).trans f3 (by simp);have g2:Fr [st] H (H5++[Ob.lst []]):=((g1.trans f4 (by simp)).trans fN (by simp)).trans fM (by simp);refine(g2.trans f6 λj hj=>?_).trans f7 (by simp)
  rcases bg.mp hj with rfl|hj
  ·exact .inl (by simp)
  ·rw[de.mp hj];have:=g1.le;have:=f4.le;right;omega
 refine⟨n,cs,H7, ?_,o,D6.s.fr f7 (by simp),hfall⟩;show bG (wV [some (.ref st),some (.int 6),none,none,none,none,none,none,none,none] H)=_;rw[z0g,bJ w1,bJ w2,bJ w3,bJ w4,bJ w6,bJ w7,bJ w8];have w9:z9 (ev st H5.length im n w (.int 6) ys x7 x8 x9) H6=.rt (aZ n cs) H7:=by
  have h1:aF F_qh (aA (aB 2) (aA (aB 6) aC)) (ev st H5.length im n w (.int 6) ys x7 x8 x9) H6=.ok (.tup (cs.map aI)) H7:=by show(aA (aB 2) (aA (aB 6) aC) (ev st H5.length im n w (.int 6) ys x7 x8 x9) H6).bind _=_;have:aA (aB 2) (aA (aB 6) aC) (ev st H5.length im n w (.int 6) ys x7 x8 x9) H6=.ok [.int n,.ref H5.length] H6:=rfl;rw[this,Rs.bind_ok,t7]
  unfold z9 aN aL aA;show((((Rs.ok (Dv.int n) H6).bind _).bind _).thenS _)=_;rw[Rs.bind_ok];show(((((aF F_qh (aA (aB 2) (aA (aB 6) aC)) (ev st H5.length im n w (.int 6) ys x7 x8 x9) H6).bind _).bind _).bind _).thenS _)=_;rw[h1];rfl
 rw[w9];rfl
end
end L2.Mr.Cod
namespace L2.Mr.K01
open PySem PySem.Spec PyProof.Rows L2 L2.Mr L2.Mr.Com
end L2.Mr.K01
namespace L2.Mr.Com
open PySem PySem.Spec PyProof.Rows L2 L2.Mr
def T0 (H:Hs):Dv->Prop
 | .ref i=>∃xs,getL H i=some xs
 | .exc _=>False
 | .scr=>False
 |_=>True
def TK:Nat->Hs->Dv->Prop
 |0,H,d=>T0 H d
 |k+1,H,d=>T0 H d/\∀ds,d=.tup ds->ds.length<=500/\∀x∈ds,TK k H x
theorem TK.t0:∀{k:Nat}{H:Hs}{d:Dv},TK k H d->T0 H d
 |0,_,_,h=>h
 |_+1,_,_,h=>h.1
theorem TK.tup {k:Nat}{H:Hs}{ds:List Dv}(hl:ds.length<=500) (h:∀x∈ds,TK k H x):TK (k+1) H (.tup ds):=⟨trivial,λ_ e=>by cases e;exact⟨hl,h⟩⟩
theorem TK.of {k:Nat}{H:Hs}{d:Dv}(h0:T0 H d) (h:∀ds,d≠.tup ds):TK k H d:=by
 cases k with
 |zero=>exact h0
 |succ k=>exact⟨h0,λds e=>absurd e (h ds)⟩
theorem T0.fr {st:Nat}{H H':Hs}{d:Dv}(h:T0 H d) (f:Fr [st] H H') (s:St st H'):T0 H' d:=by
 cases d with
 |ref i=>
  obtain⟨xs,e⟩:=h
  by_cases c:i=st
  ·subst c;obtain⟨a,b,e⟩:=s;exact⟨_,e⟩
  ·exact⟨xs,f.getL e (by simpa using c)⟩
 |_=>exact h
theorem TK.fr {st:Nat}{H H':Hs}(f:Fr [st] H H') (s:St st H'):∀{k:Nat}{d:Dv},TK k H d->TK k H' d
 |0,_,h=>T0.fr h f s
 |k+1,_,h=>⟨h.1.fr f s,λds e=>⟨(h.2 ds e).1,λx hx=>TK.fr f s ((h.2 ds e).2 x hx)⟩⟩
def nY:Dv->Bool
 | .tup _=>true
 |_=>false
def isInt:Dv->Bool
 | .int _=>true
 |_=>false
section
variable{H:Hs}{d:Dv}{n:Int}
theorem DD (h:T0 H d):bE hY d H=.ok (.bl (nY d)) H:=by
 cases d with
 |ref i=>obtain⟨xs,e⟩:=h;simp[bE,gG,e,hY,nY]
 |exc c=>exact h.elim
 |scr=>exact h.elim
 |_=>rfl
theorem z0k (h:T0 H d):bE pE d H=.ok (.bl (match d with | .int _=>true | .bl _=>true|_=>false)) H:=by
 cases d with
 |ref i=>obtain⟨xs,e⟩:=h;simp[bE,gG,e,pE]
 |exc c=>exact h.elim
 |scr=>exact h.elim
 |_=>rfl
theorem z0l (h:T0 H d):bE kK d H=.ok (.bl (match d with | .bl _=>true|_=>false)) H:=by
 cases d with
 |ref i=>obtain⟨xs,e⟩:=h;simp[bE,gG,e,kK]
 |exc c=>exact h.elim
 |scr=>exact h.elim
 |_=>rfl
theorem z0m (h:T0 H d):F_qz [d] H=.ok (.bl (isInt d)) H:=by
 have e1:=z0k h;have e2:=z0l h
 cases d <;> simp[F_qz,wF,aT,bL,aN,dN,m1,aB,e1,e2,oI,bG,isInt]
def tF (lo hi:Int):Dv->Bool
 | .int x=>decide (lo<=x)&&decide (x<=hi)
 |_=>false
theorem MK {lo hi:Int}(h:T0 H d):F_qp [d,.int lo,.int hi] H=.ok (.bl (tF lo hi d)) H:=by
 have w:=z0m h
 cases d with
 |int x=>exact xW
 |_=>simp[F_qp,sH,aT,bL,aN,dN,aF,aA,aB,aC,w,isInt,bG,tF]
def tB (n:Int) (d:Dv):Bool:=tF 0 (n - 1) d
theorem z0n (h:T0 H d):F_qy [.int n,d] H=.ok (.bl (tB n d)) H:=by simp[F_qy,wG,aT,bL,aN,aF,aA,aB,aC,mC,m2,gA,hG,MK h,bG,tB]
def pU (n:Int):Dv->Bool
 | .tup ys=>ys.all (tB n)
 |_=>false
theorem z0o (h:TK 1 H d):F_qo [.int n,d] H=.ok (.bl (pU n d)) H:=by
 have e:=DD h.1
 cases d with
 |tup xs=>obtain⟨hl,hx⟩:=h.2 xs rfl;have h:cB (cU eB (aB 1)) [none,some 0] (aE 0) dO (bP (aF F_qy (aA (aB 1) (aA (aB 0) aC)))) [some (.int n),some (.tup xs)] H=.ok (xs.filterMap λx=>some (.bl (tB n x))) H:=kN xs (λx=>some (.bl (tB n x))) (λρ=>∃a,ρ=[a,some (.int n)]) rfl (by simp[cM]) ⟨_,rfl⟩ rfl (λk hk ρ ⟨a,e⟩=>by subst e;exact⟨xs[k],_,by simp[cM,hk],rfl,⟨_,rfl⟩,rfl,by simp[aF,aA,aB,aC,z0n (hx xs[k] (ib hk))]⟩) (by omega);simp[F_qo,sJ,aT,bL,aN,dN,m1,bE,aB,gG,hY,pP h,bG,pU]
 |_=>simp[F_qo,sJ,aT,bL,aN,dN,m1,aB,e,nY,bG,pU]
def pB (n:Int):Dv->Bool
 | .tup ys=>ys.all (tB n)&&decide (ys.length=2)
 |_=>false
theorem z0p (ys:List Dv):f1 gB [.tup ys] H=.ok (.int ys.length) H:=rfl
theorem z0q (h:TK 1 H d):F_q1 [.int n,d] H=.ok (.bl (pB n d)) H:=by
 have h1:=z0o (n:=n) h
 cases d with
 |tup ys=>
  cases q:ys.all (tB n)with
  |false=>simp[F_q1,nQ,aT,bL,aN,dN,aF,aA,aB,aC,h1,pU,pB,q,bG]
  |true=>
   have e:((ys.length:Int)==2)=decide (ys.length=2):=by rw[gy];simp;omega
   simp[F_q1,nQ,aT,bL,aN,dN,aF,aA,aB,aC,h1,pU,pB,q,bG,m2,z0p,mC,eq_int,e]
 |_=>simp[F_q1,nQ,aT,bL,aN,dN,aF,aA,aB,aC,h1,pU,pB,bG]
theorem z0r {xs:List Dv}(h:TK 2 H (.tup xs)):F_qu [.int n,.tup xs] H=.ok (.bl (xs.all (pB n))) H:=by obtain⟨hl,hx⟩:=h.2 xs rfl;have h:cB (cU eB (aB 1)) [none,some 0] (aE 0) dO (bP (aF F_q1 (aA (aB 1) (aA (aB 0) aC)))) [some (.int n),some (.tup xs)] H=.ok (xs.filterMap λp=>some (.bl (pB n p))) H:=kN xs (λp=>some (.bl (pB n p))) (λρ=>∃a,ρ=[a,some (.int n)]) rfl (by simp[cM]) ⟨_,rfl⟩ rfl (λk hk ρ ⟨a,e⟩=>by subst e;exact⟨xs[k],_,by simp[cM,hk],rfl,⟨_,rfl⟩,rfl,by simp[aF,aA,aB,aC,z0q (hx xs[k] (ib hk))]⟩) (by omega);simp[F_qu,wH,aT,bL,aN,pP h,bG]
def nZ:Dv->Option (Int×Int)
 | .tup [.int a,.int b]=>some (a,b)
 |_=>none
theorem z0s {x:Dv}(h:pB n x=true):∃p,x=aI p/\nZ x=some p:=by
 match x,h with
 | .tup [.int a,.int b],_=>exact⟨(a,b),rfl,rfl⟩
 | .tup [a,b],h=>
  simp[pB]at h;obtain⟨h1,h2⟩:=h
  cases a <;> first|(cases h1;done)|skip
  cases b <;> first|(cases h2;done)|skip
  exact⟨_,rfl,rfl⟩
 | .tup [],h=>simp[pB]at h
 | .tup [_],h=>simp[pB]at h
 | .tup (_::_::_::_),h=>simp[pB]at h
theorem ML:∀{xs:List Dv},(∀x∈xs,∃p,x=aI p/\nZ x=some p)->xs=(xs.filterMap nZ).map aI
 | [],_=>rfl
 |x::xs,h=>by obtain⟨p,e,q⟩:=h x (by simp);rw[List.filterMap_cons_some q,dw,<-ML λy hy=>h y (by simp[hy]),<-e]
def fH:Dv->Bool
 | .tup [.int n,.tup xs]=>xs.all (pB n)&&pQ n (xs.filterMap nZ)
 |_=>false
theorem gH {ds:List Dv}(h:ds.length≠2):∃L:Int,f1 gB [.tup ds] H=.ok (.int L) H/\cT (.int L) (.int 2) H=.ok (.bl true) H:=by
 refine⟨ds.length,rfl, ?_⟩;have:((ds.length:Int)==2)=false:=by simp;omega
 simp[cT,cE,bR,bN,this]
theorem DE {ds:List Dv}(h:ds.length≠2):F_qx [.tup ds] H=.ok (.bl false) H:=by obtain⟨L,hlen,hne⟩:=gH (H:=H) h;have e:bE hY (.tup ds) H=.ok (.bl true) H:=rfl;simp[F_qx,mJ,aT,bL,aJ,aX,iH,dU,bW,m1,aB,mB,m2,aF,aA,aC,mC,aN,e,eY,hlen,hne,cP,bG]
theorem DF {ds:List Dv}(h:ds.length≠2):fH (.tup ds)=false:=by
 unfold fH
 split
 ·rename_i e;cases e;simp at h
 ·rfl
theorem z0t (h:TK 3 H d):F_qx [d] H=.ok (.bl (fH d)) H:=by
 have e:=DD h.1
 cases d with
 |tup ds=>
  obtain⟨hl,hx⟩:=h.2 ds rfl
  match ds,hl,hx,e,h with
  | [a,b],hl,hx,e,h=>
   have ha:=hx a (by simp);have hb:=hx b (by simp);have b1:=MK (lo:=1) (hi:=6) ha.t0;have b2:=DD hb.t0;have hlen:f1 gB [.tup [a,b]] H=.ok (.int 2) H:=rfl
   cases q1:tF 1 6 a with
   |false=>
    rw[q1]at b1;have:fH (.tup [a,b])=false:=by
     cases a with
     |int n=>
      cases b with
      |tup xs=>
       have:¬ (1<=n/\n<=6):=by simpa[tF]using q1
       simp only[fH,Bool.and_eq_false_iff];right;unfold pQ
       by_cases c:1<=n
       ·have:¬ n<=6:=λc'=>this ⟨c,c'⟩;simp[this]
       ·simp[c]
      |_=>rfl
     |_=>rfl
    rw[this];simp[F_qx,mJ,aT,bL,aJ,aX,iH,dU,bW,m1,aB,e,nY,eY,mB,m2,aF,aA,aC,hlen,mC,cT,cE,bR,bN,cP,bK,aK,cY,bM,aE,dD,b1,aN,bG]
   |true=>
    rw[q1]at b1
    cases a with
    |int n=>
     cases b with
     |tup xs=>
      have p1:=z0r (n:=n) hb
      cases q2:xs.all (pB n)with
      |false=>rw[q2]at p1;simp[fH,q2,F_qx,mJ,aT,bL,aJ,aX,iH,dU,bW,m1,aB,e,b2,nY,eY,mB,m2,aF,aA,aC,hlen,mC,cT,cE,bR,bN,cP,bK,aK,cY,bM,aE,dD,b1,p1,aN,bG]
      |true=>
       have ex:=ML λx hx=>z0s (fi.mp q2 x hx);have hle:(xs.filterMap nZ).length<=900:=by have:=ie nZ xs;have:=(hb.2 xs rfl).1;omega
       have:=L8 (H:=H) (n:=n) (ps:=xs.filterMap nZ) hle;rw[<-ex]at this;rw[this];simp[fH,q2]
     |_=>simp[fH,F_qx,mJ,aT,bL,aJ,aX,iH,dU,bW,m1,aB,e,b2,nY,eY,mB,m2,aF,aA,aC,hlen,mC,cT,cE,bR,bN,cP,bK,aK,cY,bM,aE,dD,b1,aN,bG]
    |_=>cases q1
  | [],hl,hx,e,h=>exact(DE (by simp)).trans (by rw[DF (by simp)])
  | [a],hl,hx,e,h=>exact(DE (by simp)).trans (by rw[DF (by simp)])
  |a::b::c::r,hl,hx,e,h=>exact(DE (by simp)).trans (by rw[DF (by simp)])
 |_=>simp[F_qx,mJ,aT,bL,aJ,aX,iH,dU,bW,m1,aB,e,nY,eY,mC,aN,bG,fH]
end
section
variable{H:Hs}{d:Dv}{n:Int}
end
section
variable{H:Hs}{d:Dv}
end
theorem T0.fr0 {H H':Hs}{d:Dv}(h:T0 H d) (f:Fr [] H H'):T0 H' d:=by
 cases d with
 |ref i=>obtain⟨xs,e⟩:=h;exact⟨xs,f.getL e (by simp)⟩
 |_=>exact h
theorem TK.fr0 {H H':Hs}(f:Fr [] H H'):∀{k:Nat}{d:Dv},TK k H d->TK k H' d
 |0,_,h=>T0.fr0 h f
 |k+1,_,h=>⟨h.1.fr0 f,λds e=>⟨(h.2 ds e).1,λx hx=>TK.fr0 f ((h.2 ds e).2 x hx)⟩⟩
def MM (P:Ev->Hs->Prop):Prop:=∀ρ H H',P ρ H->Fr [] H H'->P ρ H'
def Wr (P:Ev->Hs->Prop) (k:Nat) (m:M Dv):Prop:=∀ρ H,P ρ H->∃d H',m ρ H=.ok d H'/\Fr [] H H'/\TK k H' d
def kR (P:Ev->Hs->Prop) (k n:Nat) (ms:M (List Dv)):Prop:=∀ρ H,P ρ H->∃ds H',ms ρ H=.ok ds H'/\Fr [] H H'/\ds.length=n/\∀x∈ds,TK k H' x
section
variable{P:Ev->Hs->Prop}{k n m':Nat}{m:M Dv}{ms:M (List Dv)}
theorem DG:kR P k 0 aC:=λρ H _=>⟨[],H,rfl,Fr.refl,rfl,λx hx=>by cases hx⟩
theorem DH (hP:MM P) (h:Wr P k m) (hs:kR P k n ms):kR P k (n+1) (aA m ms):=λρ H p=>by
 obtain⟨d,H1,e1,f1,t1⟩:=h ρ H p;obtain⟨ds,H2,e2,f2,l2,t2⟩:=hs ρ H1 (hP ρ H H1 p f1);refine⟨d::ds,H2, ?_,f1.trans f2 (by simp),by simp[l2],λx hx=>?_⟩
 ·unfold aA;rw[e1,Rs.bind_ok,e2,Rs.bind_ok]
 ·rcases bg.mp hx with rfl|hx
  ·exact t1.fr0 f2
  ·exact t2 x hx
theorem tG (h:∀ρ H,P ρ H->∃d,m ρ H=.ok d H/\TK k H d):Wr P k m:=λρ H p=>let ⟨d,e,t⟩:=h ρ H p;⟨d,H,e,Fr.refl,t⟩
theorem DI {i:Int}:Wr P k (mC (.int i)):=tG λρ H _=>⟨_,rfl,TK.of trivial λ_ e=>by cases e⟩
theorem DJ {i:Bool}:Wr P k (mC (.bl i)):=tG λρ H _=>⟨_,rfl,TK.of trivial λ_ e=>by cases e⟩
theorem DK:Wr P k (mC .non):=tG λρ H _=>⟨_,rfl,TK.of trivial λ_ e=>by cases e⟩
theorem DL {s}:Wr P k (mC (.str s)):=tG λρ H _=>⟨_,rfl,TK.of trivial λ_ e=>by cases e⟩
theorem DM:Wr P k (mC .edc):=tG λρ H _=>⟨_,rfl,TK.of trivial λ_ e=>by cases e⟩
theorem yC (h:kR P k n ms) (hn:n<=500):Wr P (k+1) (aL ms):=λρ H p=>by obtain⟨ds,H1,e1,f1,l1,t1⟩:=h ρ H p;refine⟨.tup ds,H1, ?_,f1,TK.tup (by omega) t1⟩;unfold aL lim;rw[e1,Rs.bind_ok,if_pos (by omega)]
theorem DN (h:kR P 0 n ms) (hn:n<=500):Wr P 0 (aL ms):=λρ H p=>let ⟨d,H',e,f,t⟩:=yC h hn ρ H p;⟨d,H',e,f,t.1⟩
theorem DO (h:kR P 0 n ms) (hn:n<=500):Wr P k (aV ms):=λρ H p=>by obtain⟨ds,H1,e1,f1,l1,t1⟩:=h ρ H p;refine⟨.ref H1.length,H1++[.lst ds], ?_,f1.trans (T:=[]) Fr.app (by simp),TK.of ⟨ds,by simp[getL]⟩ λ_ e=>by cases e⟩;unfold aV lim;rw[e1,Rs.bind_ok,if_pos (by omega)]
end
theorem DP {ρ:Ev}{H H1 H2:Hs}{st i j:Nat}{ml:M Dv}(hv:aB st ρ H=.ok (.ref i) H) (e1:ml ρ H=.ok (.ref j) H1) (e2:bH (.ref i) (.ref j) H1=.ok (.ref H1.length) H2):m2 bH (aB st) ml ρ H=.ok (.ref H1.length) H2:=by unfold m2;rw[hv,Rs.bind_ok,e1,Rs.bind_ok,e2]
end L2.Mr.Com
namespace L2.Mr.Cod
open PySem PySem.Spec PyProof.Rows L2 L2.Mr
open L2.Mr.Com
section
variable{H:Hs}
theorem MN {n:Nat}{x:Int}:F_qr (n+1) [.int x,.int x] H=.ok (.bl true) H:=by simp[F_qr,sL,aT,bL,aJ,aX,bW,m1,bE,aB,gG,pF,eY,bK,aN,dN,m2,cK,cE,bR,bN,kK,bG]
theorem z0u {n:Nat}{xs:List Dv}(hl:xs.length<=1000) (h:∀x∈xs,F_qr n [x,x] H=.ok (.bl true) H):F_qr (n+1) [.tup xs,.tup xs] H=.ok (.bl true) H:=by
 have hc:cB (aR lY (aA (aB 0) (aA (aB 1) aC))) [none,none] (cY 2 (bM (aE 0) (bM (aE 1) dD))) dO (bP (aF (F_qr n) (aA (aB 0) (aA (aB 1) aC)))) [some (.tup xs),some (.tup xs)] H=.ok (xs.filterMap λx=>some (.bl ((λ_=>true) x))) H:=kN xs (λx=>some (.bl ((λ_=>true) x))) (λρ=>∃a b,ρ=[a,b]) rfl (by simp[lW,cM]) ⟨_,_,rfl⟩ rfl (λk hk ρ ⟨a,b,e⟩=>by subst e;refine⟨.tup [xs[k],xs[k]],[some xs[k],some xs[k]],by simp[lW,cM,hk],rfl,⟨_,_,rfl⟩,rfl, ?_⟩;simp[aF,aA,aB,aC,h xs[k] (ib hk)]) (by omega);have hz:=pP hc;have ht:xs.all (λ_=>true)=true:=by simp
 rw[ht]at hz;have e1:bE pF (.tup xs) H=.ok (.bl true) H:=rfl;have e2:bE hY (.tup xs) H=.ok (.bl true) H:=rfl;have e3:bE rN (.tup xs) H=.ok (.bl false) H:=rfl;have e4:f1 gB [.tup xs] H=.ok (.int xs.length) H:=rfl;have n1:cT (.bl true) (.bl true) H=.ok (.bl false) H:=rfl;have n2:cT (.bl false) (.bl false) H=.ok (.bl false) H:=rfl;have n3:∀i:Int,cT (.int i) (.int i) H=.ok (.bl false) H:=λi=>by simp[cT,cE,bR,bN]
 simp[F_qr,sL,aT,bL,aJ,aX,bW,m1,aB,e1,e2,e3,eY,iH,mB,m2,n1,n2,cP,bK,aF,aA,aC,e4,n3,aN,hz,bG]
theorem z0v {n:Nat}{xs:List Int}(hl:xs.length<=1000):F_qr (n+2) [.tup (xs.map Dv.int),.tup (xs.map Dv.int)] H=.ok (.bl true) H:=z0u (by simpa using hl) λy hy=>by obtain⟨p,_,rfl⟩:=ck.mp hy;exact MN
theorem yD {i j:Nat}{xs ys:List Dv}(e1:getL H i=some xs) (e2:getL H j=some ys) (hl:xs.length+ys.length<=500):bH (.ref i) (.ref j) H=.ok (.ref H.length) (H++[.lst (xs++ys)]):=by simp[bH,kF,e1,e2,lim];omega
theorem MP {i j:Nat}{ds:List Dv}(e:getL H i=some ds) (hj:j<ds.length):aQ (.ref i) (.int j) H=.ok ds[j] H:=by
 have h1:dM ds.length (j:Int)=some j:=by unfold dM;rw[if_pos (by omega),if_pos (by omega)];simp
 have h2:cI ds (j:Int)=some ds[j]:=by unfold cI;rw[h1];simp[hj]
 simp only[aQ,eW,eU,e,hJ,h2,if_true]
theorem gX {x:List Dv}:getL (H++[.lst x]) H.length=some x:=by simp[getL]
end
def tH:M (List Dv):=(aA (mC .non) (aA (aL aC) (aA (aL (aA (mC (.int 0)) (aA (aL aC) aC))) (aA (aL (aA (mC (.int 7)) (aA (aL aC) aC))) (aA (aL (aA (mC (.bl true)) (aA (aL aC) aC))) (aA (aL (aA (mC (.int 2)) (aA (aV (aA (aL (aA (mC (.int 0)) (aA (mC (.int 1)) aC))) aC)) aC))) (aA (aL (aA (mC (.int 2)) (aA (aL (aA (aL (aA (mC (.int 1)) (aA (mC (.int 0)) aC))) (aA (aL (aA (mC (.int 0)) (aA (mC (.int 1)) aC))) aC))) aC))) (aA (aL (aA (mC (.int 2)) (aA (aL (aA (aL (aA (mC (.int 0)) (aA (mC (.int 0)) aC))) aC)) aC))) (aA (aV (aA (mC (.int 2)) (aA (aL aC) aC))) aC)))))))))
def tI:M (List Dv):=(aA (aL (aA (mC (.int 3)) (aA (aL (aA (aL (aA (mC (.int 0)) (aA (mC (.int 1)) aC))) (aA (aL (aA (mC (.int 1)) (aA (mC (.int 2)) aC))) aC))) aC))) (aA (aL (aA (mC (.int 2)) (aA (aL (aA (aL (aA (mC (.int 0)) (aA (mC (.int 1)) aC))) (aA (aL (aA (mC (.int 0)) (aA (mC (.int 1)) aC))) aC))) aC))) (aA (aL (aA (mC (.int 2)) (aA (aL (aA (aL (aA (mC (.int 0)) (aA (mC (.int 2)) aC))) aC)) aC))) (aA (aL (aA (mC (.int 2)) (aA (aL (aA (aL (aA (mC (.int 0)) (aA (mC (.bl true)) aC))) aC)) aC))) (aA (aL (aA (mC (.int 2)) aC)) (aA (aL (aA (mC (.int 2)) (aA (aL aC) (aA (aL aC) aC)))) aC))))))
def tJ:M (List Dv):=(aA (aL (aA (mC (.int 3)) (aA (aL (aA (aL (aA (mC (.int 0)) (aA (mC (.int 2)) aC))) (aA (aL (aA (mC (.int 0)) (aA (mC (.int 1)) aC))) aC))) aC))) (aA (mC (.str "2: 0<1")) (aA (mC .edc) (aA (aL (aA (mC (.int 2)) (aA (aL (aA (aL (aA (mC (.int 0)) (aA (mC (.int 1)) (aA (mC (.int 1)) aC)))) aC)) aC))) (aA (aL (aA (mC (.int 2)) (aA (aL (aA (aL (aA (mC (.int 0)) (aA (mC (.int 1)) aC))) (aA (aL (aA (mC (.int 1)) (aA (mC (.int 0)) aC))) aC))) aC))) aC)))))
theorem z0w:wX=aJ (aK (aV tH) (aE 1)) (aJ (aK (m2 bH (aB 1) (aV tI)) (aE 1)) (aJ (aK (m2 bH (aB 1) (aV tJ)) (aE 1)) (aN (m2 aQ (aB 1) (aF F_qs (aA (aB 0) (aA (mC (.int 20)) aC))))))):=rfl
theorem z0x {ρ:Ev}{H H':Hs}{ds:List Dv}(e:tH ρ H=.ok ds H'):∀x∈ds,fH x=false:=by
 have e2:Rs.ok _ _=Rs.ok ds H':=e;injection e2 with e3 e4;subst e3
 repeat' (first|exact sy _|refine sh.mpr ⟨rfl, ?_⟩)
theorem z0y {ρ:Ev}{H H':Hs}{ds:List Dv}(e:tI ρ H=.ok ds H'):∀x∈ds,fH x=false:=by
 have e2:Rs.ok _ _=Rs.ok ds H':=e;injection e2 with e3 e4;subst e3
 repeat' (first|exact sy _|refine sh.mpr ⟨rfl, ?_⟩)
theorem z0z {ρ:Ev}{H H':Hs}{ds:List Dv}(e:tJ ρ H=.ok ds H'):∀x∈ds,fH x=false:=by
 have e2:Rs.ok _ _=Rs.ok ds H':=e;injection e2 with e3 e4;subst e3
 repeat' (first|exact sy _|refine sh.mpr ⟨rfl, ?_⟩)
def MnB (n:Nat) (H:Hs) (i:Nat):Prop:=∃ds,getL H i=some ds/\ds.length=n/\(∀x∈ds,TK 3 H x)/\∀x∈ds,fH x=false
section
variable{n m:Nat}{H H':Hs}{i j:Nat}
theorem MnB.fr0 (h:MnB n H i) (f:Fr [] H H'):MnB n H' i:=by obtain⟨ds,e,l,t,b⟩:=h;exact⟨ds,f.getL e (by simp),l,λx hx=>(t x hx).fr0 f,b⟩
theorem MnB.fr {st:Nat}(h:MnB n H i) (f:Fr [st] H H') (s:Com.St st H') (hi:i≠st):MnB n H' i:=by obtain⟨ds,e,l,t,b⟩:=h;exact⟨ds,f.getL e (by simpa using hi),l,λx hx=>(t x hx).fr f s,b⟩
theorem DQ {ms:M (List Dv)}{ρ:Ev}(h:kR (λ_ _=>True) 3 n ms) (hb:∀{ρ:Ev}{H H':Hs}{ds:List Dv},ms ρ H=.ok ds H'->∀x∈ds,fH x=false) (hn:n<=500):∃i H',aV ms ρ H=.ok (.ref i) H'/\MnB n H' i/\Fr [] H H'/\H.length<=i:=by obtain⟨ds,H1,e1,f1,l1,t1⟩:=h ρ H trivial;refine⟨H1.length,H1++[.lst ds], ?_,⟨ds,gX,l1,λx hx=>(t1 x hx).fr0 Fr.app,hb e1⟩,f1.trans (T:=[]) Fr.app (by simp),f1.le⟩;unfold aV lim;rw[e1,Rs.bind_ok,if_pos (by omega)]
theorem MQ (a:MnB n H i) (b:MnB m H j) (hn:n+m<=500):∃H',bH (.ref i) (.ref j) H=.ok (.ref H.length) H'/\MnB (n+m) H' H.length/\Fr [] H H':=by
 obtain⟨ds,e1,l1,t1,b1⟩:=a;obtain⟨es,e2,l2,t2,b2⟩:=b;refine⟨_,yD e1 e2 (by omega),⟨ds++es,gX,by simp[l1,l2],λx hx=>?_,λx hx=>?_⟩,Fr.app⟩
 ·rcases bq.mp hx with hx|hx
  ·exact(t1 x hx).fr0 Fr.app
  ·exact(t2 x hx).fr0 Fr.app
 ·rcases bq.mp hx with hx|hx
  ·exact b1 x hx
  ·exact b2 x hx
end
theorem z10 {st:Nat}{H:Hs}(s:Com.St st H):∃d H',F_qc [.ref st] H=.ok d H'/\TK 3 H' d/\fH d=false/\Com.St st H'/\Fr [st] H H':=by
 have hP:MM λ_ _=>True:=λ_ _ _ _ _=>trivial;have lt:=s.lt;have k1:kR (λ_ _=>True) 3 9 tH:=(by
   unfold tH
   repeat' (first|exact DG|apply DH hP|exact DI|exact DJ|exact DK|exact DL|exact DM|apply yC|apply DN|apply DO)
   all_goals decide)
 have k2:kR (λ_ _=>True) 3 6 tI:=(by
   unfold tI
   repeat' (first|exact DG|apply DH hP|exact DI|exact DJ|exact DK|exact DL|exact DM|apply yC|apply DN|apply DO)
   all_goals decide)
 have k3:kR (λ_ _=>True) 3 5 tJ:=(by
   unfold tJ
   repeat' (first|exact DG|apply DH hP|exact DI|exact DJ|exact DK|exact DL|exact DM|apply yC|apply DN|apply DO)
   all_goals decide)
 obtain⟨i1,H1,e1,m1,f1,l1⟩:=DQ (ρ:=[some (.ref st),none]) (H:=H) k1 z0x (by decide);obtain⟨j2,H2,e2,m2',f2,l2⟩:=DQ (ρ:=[some (.ref st),some (.ref i1)]) (H:=H1) k2 z0y (by decide);obtain⟨H3,e3,m3,f3⟩:=MQ (m1.fr0 f2) m2' (by decide);obtain⟨j4,H4,e4,m4,f4,l4⟩:=DQ (ρ:=[some (.ref st),some (.ref H2.length)]) (H:=H3) k3 z0z (by decide);obtain⟨H5,e5,m5,f5⟩:=MQ (m3.fr0 f4) m4 (by decide);have g:Fr [] H H5:=(((f1.trans f2 (by simp)).trans f3 (by simp)).trans f4 (by simp)).trans f5 (by simp);obtain⟨r,H6,r0,r1,t6,f6,s6⟩:=pR 20 (s.fr g (by simp));have hle:H.length<=H4.length:=((f1.trans (f2.trans (f3.trans f4 (by simp)) (by simp)) (by simp)):Fr [] H H4).le;obtain⟨ds,e7,l7,t7,b7⟩:=m5.fr f6 s6 (by omega);obtain⟨j,rfl⟩:∃j:Nat,r=j:=⟨r.toNat,by omega⟩
 have hj:j<ds.length:=by omega
 have e8:=MP e7 hj;refine⟨ds[j],H6, ?_,t7 _ (ib hj),b7 _ (ib hj),s6,(g.mono (T:=[st]) (by simp)).trans f6 (by simp)⟩;show bG (wX [some (.ref st),none] H)=_;have w1:aK (aV tH) (aE 1) [some (.ref st),none] H=.nx [some (.ref st),some (.ref i1)] H1:=by unfold aK;rw[e1];rfl
 have w2:aK (L2.Mr.m2 bH (aB 1) (aV tI)) (aE 1) [some (.ref st),some (.ref i1)] H1=.nx [some (.ref st),some (.ref H2.length)] H3:=by unfold aK;rw[DP rfl e2 e3];rfl
 have w3:aK (L2.Mr.m2 bH (aB 1) (aV tJ)) (aE 1) [some (.ref st),some (.ref H2.length)] H3=.nx [some (.ref st),some (.ref H4.length)] H5:=by unfold aK;rw[DP rfl e4 e5];rfl
 rw[z0w,bJ w1,bJ w2,bJ w3];simp[aN,L2.Mr.m2,aB,aF,aA,mC,aC,t6,e8,bG]
end L2.Mr.Cod
namespace L2.Mr
open PySem PySem.Spec PyProof.Rows L2
def IsMx (x:Int) (P:Int->Prop):Prop:=P x/\∀y,P y->y<=x
theorem IsMx.uniq {x y:Int}{P Q:Int->Prop}(a:IsMx x P) (b:IsMx y Q) (h:∀z,P z↔Q z):x=y:=by have h1:=a.2 y ((h y).mpr b.1);have h2:=b.2 x ((h x).mp a.1);omega
theorem MR {f:Nat->Int}:∀k,(∃i,i<=k/\fR (λa b=>decide (a>b)) f k=f i)/\∀i,i<=k->f i<=fR (λa b=>decide (a>b)) f k
 |0=>⟨⟨0,ak _,rfl⟩,λi hi=>by
  have:i=0:=by omega
  subst this;exact sk _⟩
 |k+1=>by
  obtain⟨⟨i,hi,e⟩,h⟩:=MR (f:=f) k;have he:fR (λa b=>decide (a>b)) f (k+1)=if decide (f (k+1)>fR (λa b=>decide (a>b)) f k)then f (k+1)else fR (λa b=>decide (a>b)) f k:=rfl
  generalize fR (λa b=>decide (a>b)) f k=z at e h he;rw[he]
  by_cases c:f (k+1)>z
  ·rw[if_pos (decide_eq_true c)];refine⟨⟨k+1,ak _,rfl⟩,λj hj=>?_⟩
   by_cases q:j=k+1
   ·subst q;exact sk _
   ·have:=h j (by omega);omega
  ·rw[if_neg (by simpa using c)];refine⟨⟨i,by omega,e⟩,λj hj=>?_⟩
   by_cases q:j=k+1
   ·subst q;omega
   ·exact h j (by omega)
theorem MT {f:Nat->Int}:∀k,(∃i,i<=k/\fR (λa b=>decide (a<b)) f k=f i)/\∀i,i<=k->fR (λa b=>decide (a<b)) f k<=f i
 |0=>⟨⟨0,ak _,rfl⟩,λi hi=>by
  have:i=0:=by omega
  subst this;exact sk _⟩
 |k+1=>by
  obtain⟨⟨i,hi,e⟩,h⟩:=MT (f:=f) k;have he:fR (λa b=>decide (a<b)) f (k+1)=if decide (f (k+1)<fR (λa b=>decide (a<b)) f k)then f (k+1)else fR (λa b=>decide (a<b)) f k:=rfl
  generalize fR (λa b=>decide (a<b)) f k=z at e h he;rw[he]
  by_cases c:f (k+1)<z
  ·rw[if_pos (decide_eq_true c)];refine⟨⟨k+1,ak _,rfl⟩,λj hj=>?_⟩
   by_cases q:j=k+1
   ·subst q;exact sk _
   ·have:=h j (by omega);omega
  ·rw[if_neg (by simpa using c)];refine⟨⟨i,by omega,e⟩,λj hj=>?_⟩
   by_cases q:j=k+1
   ·subst q;omega
   ·exact h j (by omega)
theorem tK {ns:List Int}(h:ns≠[]):IsMx (dF ns) (·∈ns):=by
 have hl:0<ns.length:=nv.mpr h;obtain⟨⟨i,hi,e⟩,hx⟩:=MR (f:=λi=>ns.getD i 0) (ns.length - 1);refine⟨?_,λy hy=>?_⟩
 ·show dF ns∈ns;unfold dF;rw[e];have:i<ns.length:=by omega
  simp[this]
 ·obtain⟨k,hk,rfl⟩:=iq.mp hy;have:=hx k (by omega);have e2:ns.getD k 0=ns[k]:=by simp[hk]
  rw[e2]at this;exact this
theorem z11 {ns:List Int}(h:ns≠[]):jX ns∈ns/\∀y∈ns,jX ns<=y:=by
 have hl:0<ns.length:=nv.mpr h;obtain⟨⟨i,hi,e⟩,hx⟩:=MT (f:=λi=>ns.getD i 0) (ns.length - 1);refine⟨?_,λy hy=>?_⟩
 ·unfold jX;rw[e];have:i<ns.length:=by omega
  simp[this]
 ·obtain⟨k,hk,rfl⟩:=iq.mp hy;have:=hx k (by omega);have e2:ns.getD k 0=ns[k]:=by simp[hk]
  rw[e2]at this;exact this
def Up (fs:List Int) (L:List (Int×Int)) (up:List Int):Prop:=up.length=fs.length/\∀t,t<fs.length->IsMx (up.getD t 0) (λy=>y=fs.getD t 0∨((t:Int),y)∈L)
theorem Up.nil {fs:List Int}:Up fs [] fs:=⟨rfl,λt _=>⟨.inl rfl,λy hy=>by
 rcases hy with rfl|hy
 ·exact sk _
 ·simp at hy⟩⟩
theorem Up.bump {fs up:List Int}{L:List (Int×Int)}{b v:Int}(h:Up fs L up) (b0:0<=b) (b1:b<fs.length):∃up1,bump up b v=some up1/\Up fs (L++[(b,v)]) up1:=by
 obtain⟨hl,hu⟩:=h;obtain⟨k,rfl⟩:∃k:Nat,b=k:=⟨b.toNat,by omega⟩
 have hk:k<up.length:=by omega
 have e1:dM up.length (k:Int)=some k:=by unfold dM;rw[if_pos (by omega),if_pos (by omega)];simp
 have e2:up[k]?=some (up.getD k 0):=by simp[hk]
 refine⟨up.set k (if v>up.getD k 0 then v else up.getD k 0),by unfold L2.Mr.bump;rw[e1];dsimp only;rw[e2],by simp[hl],λt ht=>?_⟩;have hh:=hu t ht
 by_cases q:k=t
 ·subst q;have es:(up.set k (if v>up.getD k 0 then v else up.getD k 0)).getD k 0=if v>up.getD k 0 then v else up.getD k 0:=by simp[hk]
  rw[es];generalize up.getD k 0=u at hh ⊢
  by_cases c:v>u
  ·rw[if_pos c];refine⟨.inr (by simp),λy hy=>?_⟩
   rcases hy with hy|hy
   ·have:=hh.2 y (.inl hy);omega
   ·rcases bq.mp hy with hy|hy
    ·have:=hh.2 y (.inr hy);omega
    ·simp only[de,wj]at hy;omega
  ·rw[if_neg c];refine⟨?_,λy hy=>?_⟩
   ·rcases hh.1 with z|z
    ·exact .inl z
    ·exact .inr (bq.mpr (.inl z))
   ·rcases hy with hy|hy
    ·exact hh.2 y (.inl hy)
    ·rcases bq.mp hy with hy|hy
     ·exact hh.2 y (.inr hy)
     ·simp only[de,wj]at hy;omega
 ·have es:(up.set k (if v>up.getD k 0 then v else up.getD k 0)).getD t 0=up.getD t 0:=by simp[ki,dg q]
  rw[es];refine⟨?_,λy hy=>?_⟩
  ·rcases hh.1 with z|z
   ·exact .inl z
   ·exact .inr (bq.mpr (.inl z))
  ·rcases hy with hy|hy
   ·exact hh.2 y (.inl hy)
   ·rcases bq.mp hy with hy|hy
    ·exact hh.2 y (.inr hy)
    ·simp only[de,wj]at hy;omega
theorem yE {fs:List Int}{a:Int}(h0:0<=a) (h1:a<fs.length):cI fs a=some (fs.getD a.toNat 0):=by
 obtain⟨k,rfl⟩:∃k:Nat,a=k:=⟨a.toNat,by omega⟩
 have hk:k<fs.length:=by omega
 unfold cI dM;rw[if_pos (by omega),if_pos (by omega)];simp[hk]
def oA (N:Nat) (ps:List (Int×Int)):Prop:=∀p∈ps,0<=p.1/\p.1<N/\0<=p.2/\p.2<N
theorem MU {fs:List Int}:∀{ps:List (Int×Int)}{up:List Int}{L:List (Int×Int)},oA fs.length ps->Up fs L up->∃up1,lI fs up ps=some up1/\Up fs (L++ps.map λp=>(p.2,fs.getD p.1.toNat 0+1)) up1
 | [],up,L,_,h=>⟨up,rfl,by simpa using h⟩
 |p::ps,up,L,hp,h=>by have hq:=hp p (by simp);obtain⟨u1,e1,h1⟩:=h.bump (b:=p.2) (v:=fs.getD p.1.toNat 0+1) hq.2.2.1 hq.2.2.2;obtain⟨u2,e2,h2⟩:=MU (ps:=ps) (λq hq=>hp q (by simp[hq])) h1;refine⟨u2, ?_,by simpa using h2⟩;unfold lI;rw[yE hq.1 hq.2.1];dsimp only;rw[e1];exact e2
theorem MV {fs:List Int}{r:Int}:∀{ps:List (Int×Int)}{up:List Int}{L:List (Int×Int)},oA fs.length ps->Up fs L up->∃up1,mP r fs up ps=some up1/\Up fs (L++ps.flatMap λp=>[(p.1,fs.getD p.2.toNat 0 - r),(p.2,fs.getD p.1.toNat 0 - r)]) up1
 | [],up,L,_,h=>⟨up,rfl,by simpa using h⟩
 |p::ps,up,L,hp,h=>by have hq:=hp p (by simp);obtain⟨u1,e1,h1⟩:=h.bump (b:=p.1) (v:=fs.getD p.2.toNat 0 - r) hq.1 hq.2.1;obtain⟨u1',e1',h1'⟩:=h1.bump (b:=p.2) (v:=fs.getD p.1.toNat 0 - r) hq.2.2.1 hq.2.2.2;obtain⟨u2,e2,h2⟩:=MV (ps:=ps) (λq hq=>hp q (by simp[hq])) h1';refine⟨u2, ?_,by simpa using h2⟩;unfold mP;rw[yE hq.2.2.1 hq.2.2.2];dsimp only;rw[e1];dsimp only;rw[yE hq.1 hq.2.1];dsimp only;rw[e1'];exact e2
theorem z12 {fs:List Int}{r:Int}{ps qs:List (Int×Int)}(hp:oA fs.length ps) (hq:oA fs.length qs):∃up,nW ps qs r fs=some up/\Up fs ((ps.map λp=>(p.2,fs.getD p.1.toNat 0+1))++qs.flatMap λp=>[(p.1,fs.getD p.2.toNat 0 - r),(p.2,fs.getD p.1.toNat 0 - r)]) up:=by obtain⟨u1,e1,h1⟩:=MU hp (Up.nil (fs:=fs));obtain⟨u2,e2,h2⟩:=MV (r:=r) hq h1;refine⟨u2, ?_,by simpa using h2⟩;unfold nW;rw[e1];exact e2
theorem Up.ext {fs L1 L2 u1 u2} (a:Up fs L1 u1) (b:Up fs L2 u2) (h:∀(t:Nat) (y:Int),t<fs.length->(((t:Int),y)∈L1↔((t:Int),y)∈L2)):u1=u2:=by
 apply ve (by rw[a.1,b.1])
 intro t h1 h2;have ht:t<fs.length:=by rw[<-a.1];exact h1
 have:=(a.2 t ht).uniq (b.2 t ht) λz=>by rw[h t z ht]
 simpa[h1,h2]using this
end L2.Mr
namespace L2.Mr.Cod
open PySem PySem.Spec PyProof.Rows L2 L2.Mr
open L2.Mr.Com
def iC (ps:List (Int×Int)) (a:Nat):Nat->List (Int×Int)
 |0=>[]
 |k+1=>iC ps a k++if((a:Int),(a:Int)+1+(k:Int))∈ps∨((a:Int)+1+(k:Int),(a:Int))∈ps then[]else[((a:Int),(a:Int)+1+(k:Int))]
def iT (n:Nat) (ps:List (Int×Int)):Nat->List (Int×Int)
 |0=>[]
 |k+1=>iT n ps k++iC ps k (n - (k+1))
def gD (n:Nat) (ps:List (Int×Int)):List (Int×Int):=iT n ps n
theorem DR (ps:List (Int×Int)) (a:Nat):∀k,(iC ps a k).length<=k
 |0=>ak _
 |k+1=>by
  have:=DR ps a k;unfold iC
  split <;> simp <;> omega
theorem MW (n:Nat) (ps:List (Int×Int)):∀k,(iT n ps k).length<=k*n
 |0=>by simp[iT]
 |k+1=>by have h1:=MW n ps k;have h2:=DR ps k (n - (k+1));unfold iT;rw[cm,oh];omega
section
variable{n:Nat}{ps:List (Int×Int)}{i:Nat}
def mQ:MS:=aX (gK (mB (m2 (eC true) (aL (aA (aB 2) (aA (aB 3) aC))) (m2 aQ (aB 0) (mC (.int 1))))) (mB (m2 (eC true) (aL (aA (aB 3) (aA (aB 2) aC))) (m2 aQ (aB 0) (mC (.int 1)))))) (eJ (iJ (aB 1) (aL (aA (aB 2) (aA (aB 3) aC))))) bK
theorem z13 {H:Hs}{a b:Int}{acc:List (Int×Int)}(e:getL H i=some (acc.map aI)) (hl:acc.length<1000):
  mQ [some (aZ n ps),some (.ref i),some (.int a),some (.int b)] H=.nx [some (aZ n ps),some (.ref i),some (.int a),some (.int b)] (H.set i (.lst ((acc++if(a,b)∈ps∨(b,a)∈ps then[]else[(a,b)]).map aI))):=by
 have self:H.set i (.lst (acc.map aI))=H:=by
  apply lj
  intro k
  by_cases hk:i=k
  ·subst hk;rw[da (nL e),cX e]
  ·rw[dg hk]
 have t1:∀(x y:Int),mB (m2 (eC true) (λ_ h=>.ok (aI (x,y)) h) (λ_ h=>.ok (.tup (ps.map aI)) h)) [] H=.ok (!decide ((x,y)∈ps)) H:=λx y=>by simp[mB,m2,lD,cP]
 have hl':acc.length<1000000:=by omega
 by_cases h1:(a,b)∈ps
 ·simp[mQ,aX,gK,mB,m2,aL,aA,aB,aC,lim,mC,sW];rw[show Dv.tup [.int a,.int b]=aI (a,b) from rfl,lD];simp[h1,cP,bK,self]
 ·by_cases h2:(b,a)∈ps
  ·simp[mQ,aX,gK,mB,m2,aL,aA,aB,aC,lim,mC,sW];rw[show Dv.tup [.int a,.int b]=aI (a,b) from rfl,show Dv.tup [.int b,.int a]=aI (b,a) from rfl,lD];simp[h1,cP,lD,h2,bK,self]
  ·simp[mQ,aX,gK,mB,m2,aL,aA,aB,aC,lim,mC,sW];rw[show Dv.tup [.int a,.int b]=aI (a,b) from rfl,show Dv.tup [.int b,.int a]=aI (b,a) from rfl,lD];simp only[h1,Rs.bind_ok,cP,lD];simp[h2,h1,eJ,iJ,aB,jS,e,aL,aA,aC,lim,lV,hl'];rfl
theorem z14 {a:Nat}{x3:Option Dv}{H:Hs}{acc:List (Int×Int)}(hn:n<=10) (ha:a<n) (hl:acc.length<=200) (e:getL H i=some (acc.map aI)):
  ∃y3,cV (aR jC (aA (m2 bH (aB 2) (mC (.int 1))) (aA (m2 aQ (aB 0) (mC (.int 0))) aC))) (aE 3) mQ [some (aZ n ps),some (.ref i),some (.int a),x3] H =
   .nx [some (aZ n ps),some (.ref i),some (.int a),y3] (H.set i (.lst ((acc++iC ps a (n - (a+1))).map aI))):=by
 have hi:aR jC (aA (m2 bH (aB 2) (mC (.int 1))) (aA (m2 aQ (aB 0) (mC (.int 0))) aC)) [some (aZ n ps),some (.ref i),some (.int a),x3] H=.ok (bY ((a:Int)+1) n) H:=by have q:aA (m2 bH (aB 2) (mC (.int 1))) (aA (m2 aQ (aB 0) (mC (.int 0))) aC) [some (aZ n ps),some (.ref i),some (.int a),x3] H=.ok [.int ((a:Int)+1),.int n] H:=rfl;unfold aR;rw[q,Rs.bind_ok];exact MD (by omega) (by omega) (by omega) (by omega)
 have hN:(bY ((a:Int)+1) n).n=n - (a+1):=by show((n:Int) - ((a:Int)+1)).toNat=_;omega
 obtain⟨ρ',H',h1,y3,h2,h3⟩:=mH (b:=mQ) (sg:=aE 3) hi (λk ρ H'=>∃y3,ρ=[some (aZ n ps),some (.ref i),some (.int a),y3]/\H'=H.set i (.lst ((acc++iC ps a k).map aI)))
  (λk ρ H' hk ⟨y3,e1,e2⟩=>by
   subst e1;subst e2;have e':getL (H.set i (.lst ((acc++iC ps a k).map aI))) i=some ((acc++iC ps a k).map aI):=jG e;refine⟨.int ((a:Int)+1+(k:Int)),_,_,_,rfl,rfl,z13 e' (by have:=DR ps a k;rw[cm];omega),_,rfl, ?_⟩;rw[uq,iC,pj]) (λ_ _ _=>rfl) ⟨x3,rfl,by
   have self:H.set i (.lst (acc.map aI))=H:=by
    apply lj
    intro k
    by_cases hk:i=k
    ·subst hk;rw[da (nL e),cX e]
    ·rw[dg hk]
   rw[iC,jg,self]⟩
 rw[hN]at h3;exact⟨y3,by rw[h1,h2,h3]⟩
theorem z15 {H:Hs}(hn:n<=10):F_qk [aZ n ps] H=.ok (.ref H.length) (H++[.lst ((gD n ps).map aI)]):=by
 have e0:getL (H++[.lst []]) H.length=some (([]:List (Int×Int)).map aI):=by simp[getL]
 have w0:aK (aV aC) (aE 1) [some (aZ n ps),none,none,none] H=.nx [some (aZ n ps),some (.ref H.length),none,none] (H++[.lst []]):=rfl;have hi:aR bX (aA (m2 aQ (aB 0) (mC (.int 0))) aC) [some (aZ n ps),some (.ref H.length),none,none] (H++[.lst []])=.ok (bY 0 n) (H++[.lst []]):=by have q:aA (m2 aQ (aB 0) (mC (.int 0))) aC [some (aZ n ps),some (.ref H.length),none,none] (H++[.lst []])=.ok [.int n] (H++[.lst []]):=rfl;unfold aR;rw[q,Rs.bind_ok];exact xZ (by omega) (by omega)
 have hN:(bY 0 (n:Int)).n=n:=by simp[bY]
 obtain⟨ρ',H',h1,y2,y3,h2,h3⟩:=mH (b:=cV (aR jC (aA (m2 bH (aB 2) (mC (.int 1))) (aA (m2 aQ (aB 0) (mC (.int 0))) aC))) (aE 3) mQ) (sg:=aE 2) hi
  (λk ρ H'=>∃y2 y3,ρ=[some (aZ n ps),some (.ref H.length),y2,y3]/\H'=H++[.lst ((iT n ps k).map aI)])
  (λk ρ H' hk ⟨y2,y3,e1,e2⟩=>by
   subst e1;subst e2;rw[hN]at hk;have e':getL (H++[.lst ((iT n ps k).map aI)]) H.length=some ((iT n ps k).map aI):=by simp[getL]
   have hb:(iT n ps k).length<=200:=by have h1:=MW n ps k;have h2:k*n<=10*10:=ly (by omega) hn;omega
   obtain⟨z3,hz⟩:=z14 (x3:=y3) (ps:=ps) hn hk hb e';refine⟨.int (0+(k:Int)),[some (aZ n ps),some (.ref H.length),some (.int (k:Int)),y3],_,_,rfl,by simp[aE],hz,_,_,rfl, ?_⟩;rw[V7,iT];rfl) (λ_ _ _=>rfl) ⟨none,none,rfl,rfl⟩
 rw[hN]at h3;show bG (wW [some (aZ n ps),none,none,none] H)=_;have z:wW [some (aZ n ps),none,none,none] H=.rt (.ref H.length) (H++[.lst ((gD n ps).map aI)]):=by show aJ (aK (aV aC) (aE 1)) (aJ (cV (aR bX (aA (m2 aQ (aB 0) (mC (.int 0))) aC)) (aE 2) (cV (aR jC (aA (m2 bH (aB 2) (mC (.int 1))) (aA (m2 aQ (aB 0) (mC (.int 0))) aC))) (aE 3) mQ)) (aN (aB 1))) _ _=_;rw[bJ w0,bJ h1,h2,h3];rfl
 rw[z];rfl
end
def fI (ps:List (Int×Int)) (a b:Int):Prop:=a≠b/\(a,b)∉ps/\(b,a)∉ps
instance (ps:List (Int×Int)) (a b:Int):Decidable (fI ps a b):=by unfold fI;infer_instance
theorem mem_looseB {ps:List (Int×Int)}{a:Nat}{q:Int×Int}:∀{k:Nat},q∈iC ps a k↔∃j,j<k/\q=((a:Int),(a:Int)+1+(j:Int))/\q∉ps/\(q.2,q.1)∉ps
 |0=>by simp[iC]
 |k+1=>by
  unfold iC;rw[bq,mem_looseB (k:=k)];constructor
  ·rintro (⟨j,hj,h⟩|h)
   ·exact⟨j,by omega,h⟩
   ·split at h
    ·simp at h
    ·rename_i c;rw[de]at h;subst h;exact⟨k,by omega,rfl,λz=>c (.inl z),λz=>c (.inr z)⟩
  ·rintro ⟨j,hj,h,h1,h2⟩
   by_cases q:j=k
   ·subst q;right;subst h;rw[if_neg (λz=>z.elim h1 h2)];simp
   ·exact .inl ⟨j,by omega,h,h1,h2⟩
theorem MX {n:Nat}{ps:List (Int×Int)}{q:Int×Int}:∀{k:Nat},q∈iT n ps k↔∃a,a<k/\q∈iC ps a (n - (a+1))
 |0=>by simp[iT]
 |k+1=>by
  unfold iT;rw[bq,MX (k:=k)];constructor
  ·rintro (⟨a,ha,h⟩|h)
   ·exact⟨a,by omega,h⟩
   ·exact⟨k,by omega,h⟩
  ·rintro ⟨a,ha,h⟩
   by_cases q:a=k
   ·subst q;exact .inr h
   ·exact .inl ⟨a,by omega,h⟩
theorem mem_loose {n:Nat}{ps:List (Int×Int)}{q:Int×Int}:q∈gD n ps↔0<=q.1/\q.1<q.2/\q.2<n/\fI ps q.1 q.2:=by
 unfold gD;rw[MX];constructor
 ·rintro ⟨a,ha,h⟩
  obtain⟨j,hj,rfl,h1,h2⟩:=mem_looseB.mp h;exact⟨by omega,by simp only;omega,by simp only;omega,by simp only[ne_eq];omega,h1,h2⟩
 ·rintro ⟨h0,h1,h2,_,h3,h4⟩
  refine⟨q.1.toNat,by omega,mem_looseB.mpr ⟨(q.2 - q.1 - 1).toNat,by omega, ?_,h3,h4⟩⟩
  apply Ao <;> simp only <;> omega
def iD (n:Nat) (ps:List (Int×Int)) (r:Int):List (Int×Int×Int):=(bf n).flatMap λa:Nat=>(bf n).filterMap λb:Nat=>if fI ps a b then some ((a:Int),(b:Int),-r)else none
def fG (n:Nat) (ps:List (Int×Int)) (r:Int):List (Int×Int×Int):=ps.map (λp=>(p.1,p.2,1))++iD n ps r
def dR (fs:List Int) (nd:List (Int×Int×Int)) (t:Int):List Int:=nd.filterMap λq=>if q.2.1=t then some (fs.getD q.1.toNat 0+q.2.2)else none
def RR (fs:List Int) (nd:List (Int×Int×Int)):List Int:=(bf fs.length).map λt:Nat=>dF (fs.getD t 0::dR fs nd t)
theorem mem_asd {n:Nat}{ps:List (Int×Int)}{r:Int}{q:Int×Int×Int}:q∈iD n ps r↔(0<=q.1/\q.1<n/\0<=q.2.1/\q.2.1<n)/\fI ps q.1 q.2.1/\q.2.2 = -r:=by
 unfold iD;simp only[qo,bw,gz];constructor
 ·rintro ⟨a,ha,b,hb,h⟩
  split at h
  ·rename_i c;cases h;exact⟨by simp only;omega,c,rfl⟩
  ·cases h
 ·rintro ⟨⟨h0,h1,h2,h3⟩,h4,h5⟩
  refine⟨q.1.toNat,by omega,q.2.1.toNat,by omega, ?_⟩;have e1:((q.1.toNat:Nat):Int)=q.1:=by omega
  have e2:((q.2.1.toNat:Nat):Int)=q.2.1:=by omega
  rw[e1,e2,if_pos h4,<-h5]
theorem iU {fs:List Int}{nd:List (Int×Int×Int)}:(RR fs nd).length=fs.length:=by simp[RR]
theorem tL {fs:List Int}{nd:List (Int×Int×Int)}:Up fs (nd.map λq=>(q.2.1,fs.getD q.1.toNat 0+q.2.2)) (RR fs nd):=by
 refine⟨iU,λt ht=>?_⟩;have e:(RR fs nd).getD t 0=dF (fs.getD t 0::dR fs nd t):=by simp[RR,ht]
 rw[e];have h:=tK (ns:=fs.getD t 0::dR fs nd t) (by simp);have hm:∀y,y∈fs.getD t 0::dR fs nd t↔(y=fs.getD t 0∨((t:Int),y)∈nd.map λq=>(q.2.1,fs.getD q.1.toNat 0+q.2.2)):=λy=>by
  rw[bg];refine or_congr_right ?_;unfold dR;simp only[gz,ck];constructor
  ·rintro ⟨q,hq,h⟩
   split at h
   ·rename_i c;cases h;exact⟨q,hq,by rw[c]⟩
   ·cases h
  ·rintro ⟨q,hq,h⟩
   obtain⟨h1,h2⟩:=rh h;exact⟨q,hq,by rw[if_pos h1,h2]⟩
 exact⟨(hm _).mp h.1,λy hy=>h.2 y ((hm y).mpr hy)⟩
section
variable{n:Nat}{ps:List (Int×Int)}{r:Int}{fs:List Int}
theorem z16 (hp:oA n ps) (hl:fs.length=n):nW ps (gD n ps) r fs=some (RR fs (fG n ps r)):=by
 have hq:oA n (gD n ps):=λq hq=>by obtain⟨h0,h1,h2,_⟩:=mem_loose.mp hq;omega
 obtain⟨up,e,h⟩:=z12 (r:=r) (by rw[hl];exact hp) (by rw[hl];exact hq);rw[e]
 congr 1
 refine h.ext tL λt y ht=>?_;rw[hl]at ht;unfold fG;rw[gq,bq,bq];refine or_congr ?_ ?_
 ·simp only[qw,ck,vn]
 ·simp only[qo,ck,bg,List.not_mem_nil,or_false];constructor
  ·rintro ⟨q,hq,h⟩
   obtain⟨h0,h1,h2,h3,h4,h5⟩:=mem_loose.mp hq
   rcases h with h|h
   ·obtain⟨e1,e2⟩:=rh h;refine⟨(q.2,q.1,-r),mem_asd.mpr ⟨by simp only;omega,⟨λz=>h3 z.symm,h5,h4⟩,rfl⟩, ?_⟩;simp only[e1,e2];rfl
   ·obtain⟨e1,e2⟩:=rh h;refine⟨(q.1,q.2,-r),mem_asd.mpr ⟨by simp only;omega,⟨h3,h4,h5⟩,rfl⟩, ?_⟩;simp only[e1,e2];rfl
  ·rintro ⟨q,hq,h⟩
   obtain⟨⟨h0,h1,h2,h3⟩,⟨h4,h5,h6⟩,h7⟩:=mem_asd.mp hq;obtain⟨e1,e2⟩:=rh h
   by_cases c:q.1<q.2.1
   ·refine⟨(q.1,q.2.1),mem_loose.mpr ⟨h0,c,h3,h4,h5,h6⟩,.inr ?_⟩;rw[<-e1,<-e2,h7];rfl
   ·refine⟨(q.2.1,q.1),mem_loose.mpr ⟨h2,by simp only;omega,h1,λz=>h4 z.symm,h6,h5⟩,.inl ?_⟩;rw[<-e1,<-e2,h7];rfl
def fW (n:Int) (nd:List (Int×Int×Int)):Nat->List Int->Option (Option (List Int))
 |0,_=>none
 |f+1,fs=>if RR fs nd=fs then some (some fs)else if dF (RR fs nd)>=n then some none else fW n nd f (RR fs nd)
theorem MY (hp:oA n ps) (n1:1<=n) {res:Option (List Int)}:∀{f:Nat}{fs:List Int},fs.length=n->fW n (fG n ps r) f fs=some res->kM n ps (gD n ps) r f fs=some res
 |0,_,_,h=>by cases h
 |f+1,fs,hl,h=>by
  unfold fW at h;unfold kM;rw[z16 hp hl];dsimp only
  split at h
  ·rename_i c;rw[if_pos c];exact h
  ·rename_i c;rw[if_neg c,if_neg (by rw[iU];omega)]
   split at h
   ·rename_i c2;rw[if_pos c2];exact h
   ·rename_i c2;rw[if_neg c2];exact MY hp n1 (by rw[iU];exact hl) h
theorem DS {m:Int}{nd:List (Int×Int×Int)}{res:Option (List Int)}:∀{f:Nat}{fs:List Int}(k:Nat),fW m nd f fs=some res->fW m nd (f+k) fs=some res
 |0,_,_,h=>by cases h
 |f+1,fs,k,h=>by
  rw[Nat.add_right_comm];unfold fW at h ⊢
  split at h
  ·rename_i c;rw[if_pos c];exact h
  ·rename_i c;rw[if_neg c]
   split at h
   ·rename_i c2;rw[if_pos c2];exact h
   ·rename_i c2;rw[if_neg c2];exact DS k h
theorem MZ:∀{xs ys:List Int},xs.length=ys.length->(∀t,t<xs.length->xs.getD t 0<=ys.getD t 0)->xs.sum<=ys.sum/\(xs≠ys->xs.sum<ys.sum)
 | [],[],_,_=>by simp
 |x::xs,y::ys,hl,h=>by
  have h0:=h 0 (by simp);simp only[List.getD_cons_zero]at h0;obtain⟨h1,h2⟩:=MZ (xs:=xs) (ys:=ys) (by simpa using hl) λt ht=>by have:=h (t+1) (by simp;omega);simpa using this
  rw[zo,zo];refine⟨by omega,λne=>?_⟩
  by_cases q:xs=ys
  ·subst q;have:x≠y:=λz=>ne (by rw[z]);omega
  ·have:=h2 q;omega
theorem M1:∀{xs:List Int}{b:Int},(∀x∈xs,x<=b)->xs.sum<=xs.length*b
 | [],_,_=>by simp
 |x::xs,b,h=>by
  have h0:=h x (by simp);have h1:=M1 (xs:=xs) (b:=b) λy hy=>h y (by simp[hy]);rw[zo,cf];have e:((xs.length+1:Nat):Int)*b=xs.length*b+b:=by rw[wk,Int.add_mul];simp
  omega
theorem M3 {nd:List (Int×Int×Int)}(n1:1<=n):∀(f:Nat) (fs:List Int),fs.length=n->(∀x∈fs,x<n)->(n:Int)*(n - 1) - fs.sum<f->∃res,fW n nd f fs=some res
 |0,fs,hl,hx,h=>by
  have:=M1 (xs:=fs) (b:=(n:Int) - 1) λx hx'=>by have:=hx x hx';omega
  rw[hl]at this;omega
 |f+1,fs,hl,hx,h=>by
  unfold fW
  by_cases c:RR fs nd=fs
  ·exact⟨_,by rw[if_pos c]⟩
  ·rw[if_neg c]
   by_cases c2:dF (RR fs nd)>=n
   ·exact⟨_,by rw[if_pos c2]⟩
   ·rw[if_neg c2];have up:=tL (fs:=fs) (nd:=nd);have hs:=(MZ (xs:=fs) (ys:=RR fs nd) (by rw[iU]) λt ht=>(up.2 t ht).2 _ (.inl rfl)).2 (cy c);refine M3 n1 f (RR fs nd) (by rw[iU];exact hl) (λx hx'=>?_) (by omega);have:=(tK (ns:=RR fs nd) (λz=>by rw[z]at hx';cases hx')).2 x hx';omega
end
theorem DT {α:Type}{p q:α->Bool}:∀{l:List α},(∀x∈l,p x=true->q x=true)->(l.filter p).length<=(l.filter q).length/\((∃x∈l,q x=true/\p x=false)->(l.filter p).length<(l.filter q).length)
 | [],_=>by simp
 |a::l,h=>by
  obtain⟨h1,h2⟩:=DT (l:=l) λx hx=>h x (by simp[hx]);have ha:=h a (by simp);rw[vf,vf]
  cases hp:p a with
  |true=>
   rw[ha hp];simp only[if_true,cf];refine⟨by omega,λ⟨x,hx,e1,e2⟩=>?_⟩
   rcases bg.mp hx with rfl|hx
   ·rw[hp]at e2;cases e2
   ·have:=h2 ⟨x,hx,e1,e2⟩;omega
  |false=>
   cases hq:q a with
   |true=>simp only[if_true,cf,cg,if_false];exact⟨by omega,λ_=>by omega⟩
   |false=>
    simp only[cg,if_false];refine⟨h1,λ⟨x,hx,e1,e2⟩=>?_⟩
    rcases bg.mp hx with rfl|hx
    ·rw[hq]at e1;cases e1
    ·exact h2 ⟨x,hx,e1,e2⟩
section
variable{n:Nat}{ps:List (Int×Int)}{r:Int}{fs:List Int}
def yF (n:Nat) (ps:List (Int×Int)) (t:Int):Nat:=((bf n).filter λc:Nat=>decide (((c:Int),t)∈ps)).length
theorem z17 (o:OrdP n ps) {a t:Int}(h:(a,t)∈ps):yF n ps a<yF n ps t:=by
 have hr:=o.rng _ h;refine(DT λc hc e=>?_).2 ⟨a.toNat,by simp;omega, ?_, ?_⟩
 ·exact decide_eq_true (o.tr _ (of_decide_eq_true e) _ h rfl)
 ·have:((a.toNat:Nat):Int)=a:=by omega
  rw[this];exact decide_eq_true h
 ·have:((a.toNat:Nat):Int)=a:=by omega
  rw[this];exact decide_eq_false λz=>o.irr _ z rfl
theorem M4 (o:OrdP n ps) {t:Nat}(ht:t<n):yF n ps t<n:=by
 have:=(DT (l:=bf n) (p:=λc:Nat=>decide (((c:Int),(t:Int))∈ps)) (q:=λ_=>true) λ_ _ _=>rfl).2 ⟨t,by simpa using ht,rfl,decide_eq_false λz=>o.irr _ z rfl⟩;have e:((bf n).filter λ_=>true).length=n:=by rw[List.filter_eq_self.mpr (λ_ _=>rfl),gw]
 rw[e]at this;exact this
def DU (n:Nat) (ps:List (Int×Int)) (fs:List Int):Prop:=fs.length=n/\∀t,t<n->fs.getD t 0<=yF n ps t
theorem M5 (o:OrdP n ps) (h:DU n ps fs):DU n ps (RR fs (fG n ps 5)):=by
 refine⟨by rw[iU];exact h.1,λt ht=>?_⟩;have up:=tL (fs:=fs) (nd:=fG n ps 5)
 rcases(up.2 t (by rw[h.1];exact ht)).1 with e|e
 ·rw[e];exact h.2 t ht
 ·obtain⟨q,hq,e⟩:=ck.mp e;obtain⟨e1,e2⟩:=rh e;rw[<-e2]
  rcases bq.mp hq with hq|hq
  ·obtain⟨p,hp,rfl⟩:=ck.mp hq;have hr:=o.rng p hp;have h1:=h.2 p.1.toNat (by omega);have hp':(p.1,p.2)∈ps:=hp;have h2:=z17 o hp';have e3:((p.1.toNat:Nat):Int)=p.1:=by omega
   rw[e3]at h1;simp only at e1;rw[e1]at h2;simp only;omega
  ·obtain⟨⟨h0,h1,_,_⟩,_,h7⟩:=mem_asd.mp hq;have hb:=h.2 q.1.toNat (by omega);have hn:=M4 o (t:=q.1.toNat) (by omega);have n6:=o.n6;omega
theorem M6 (o:OrdP n ps):∀(f:Nat) (fs:List Int),DU n ps fs->fW n (fG n ps 5) f fs≠some none
 |0,_,_,h=>by cases h
 |f+1,fs,hb,h=>by
  unfold fW at h
  split at h
  ·cases h
  ·split at h
   ·rename_i c;have hb':=M5 o hb;have n1:=o.n1;have hne:RR fs (fG n ps 5)≠[]:=λz=>by have:=hb'.1;rw[z]at this;simp at this;omega
    obtain⟨t,ht,e⟩:=iq.mp (tK hne).1;have ht':t<n:=by rw[<-hb'.1];exact ht
    have h1:=hb'.2 t ht';have h2:=M4 o ht';have e2:(RR fs (fG n ps 5)).getD t 0=(RR fs (fG n ps 5))[t]:=by simp[ht]
    rw[e2,e]at h1;omega
   ·exact M6 o f _ (M5 o hb) h
theorem z18 (o:OrdP n ps) (r:Int):∃res,fW n (fG n ps r) (n*n+1) (ax n 0)=some res:=by
 have n1:=o.n1;refine M3 n1 _ _ (by simp) (λx hx=>?_) ?_
 ·rw[qd hx];omega
 ·have e:(ax n (0:Int)).sum=0:=by simp
  rw[e];have e2:(n:Int)*(n - 1)=n*n - n:=by rw[Int.mul_sub,Int.mul_one]
  rw[e2,wk,Int.natCast_mul];omega
def dS (n:Nat) (ps:List (Int×Int)) (r:Int):Option (List Int):=(fW n (fG n ps r) (n*n+1) (ax n 0)).getD none
theorem yG (o:OrdP n ps) (r:Int):fW n (fG n ps r) (n*n+1) (ax n 0)=some (dS n ps r):=by obtain⟨res,e⟩:=z18 o r;unfold dS;rw[e];rfl
theorem DV (o:OrdP n ps) (r:Int):kM n ps (gD n ps) r (n*n+2) (ax n 0)=some (dS n ps r):=MY o.rng o.n1 (by simp) (DS 1 (yG o r))
theorem z19 (o:OrdP n ps):dS n ps 5≠none:=λz=>by have e:=yG o 5;rw[z]at e;exact M6 o _ _ ⟨by simp,λt ht=>by simp[ht]⟩ e
theorem z1a {P:Nat->Prop}(k:Nat) (h:P k):∃v,v<=k/\P v/\∀u,u<v->¬ P u:=by
 induction k using Nat.strongRecOn with
 |ind k ih=>
  by_cases c:∃u,u<k/\P u
  ·obtain⟨u,hu,pu⟩:=c;obtain⟨v,hv,pv,hm⟩:=ih u hu pu;exact⟨v,by omega,pv,hm⟩
  ·exact⟨k,ak _,h,λu hu pu=>c ⟨u,hu,pu⟩⟩
theorem z1b (o:OrdP n ps):∃v:Nat,v<=5/\(∃fs,dS n ps v=some fs)/\∀u:Nat,u<v->dS n ps u=none:=by obtain⟨v,hv,h1,h2⟩:=z1a (P:=λv:Nat=>dS n ps v≠none) 5 (z19 o);refine⟨v,hv,Option.ne_none_iff_exists'.mp h1,λu hu=>?_⟩;have:=h2 u hu;exact Classical.byContradiction this
theorem M7 (o:OrdP n ps) {v:Nat}(h1:∃fs,dS n ps v=some fs) (h2:∀u:Nat,u<v->dS n ps u=none):∀(f r:Nat),r<=v->v - r<f->sV n n ps (gD n ps) f r=some (v:Int)
 |0,r,hr,hf=>by omega
 |f+1,r,hr,hf=>by
  unfold sV;rw[DV o]
  by_cases q:r=v
  ·subst q;obtain⟨fs,e⟩:=h1;rw[e]
  ·rw[h2 r (by omega)];dsimp only;have:=M7 o h1 h2 f (r+1) (by omega) (by omega);rw[wk]at this;exact this
end
section
variable{n:Nat}{ps:List (Int×Int)}{r:Int}{H:Hs}
theorem z1c:F_qb=aT 2 7 (xT F_qk):=rfl
theorem M8 (o:OrdP n ps) (r:Int) (H:Hs):∃H',F_qb [aZ n ps,.int r] H=.ok (iB (dS n ps r)) H'/\Fr [] H H':=by rw[z1c];exact o6 n rfl o.n6 (λH=>L6 H) (λH=>sW H) (λH=>z15 (by have:=o.n6;omega)) (DV o r)
theorem z1d:F_qa=aT 1 2 (aJ (aK (mC (.int 0)) (aE 1)) (aJ (eV (mB (m2 (gO false) (aF F_qb (aA (aB 0) (aA (aB 1) aC))) (mC .non))) (aK (m2 bH (aB 1) (mC (.int 1))) (aE 1)) 40) (aN (aB 1)))):=rfl
theorem z1e (o:OrdP n ps) {v:Nat}(hv:v<=5) (h1:∃fs,dS n ps v=some fs) (h2:∀u:Nat,u<v->dS n ps u=none):∃H',F_qa [aZ n ps] H=.ok (.int v) H'/\Fr [] H H':=by obtain⟨H',w,f⟩:=LW (d:=aZ n ps) (n:=(n:Int)) (ps:=ps) (qs:=gD n ps) n F_qb (λr res H e=>by have:=DV o r;rw[this]at e;cases e;exact M8 o r H) v 40 0 H (M7 o h1 h2 40 0 (by omega) (by omega));refine⟨H', ?_,f⟩;rw[z1d];show bG (aJ _ _ [some (aZ n ps),none] H)=_;rw[bJ (m:=aK (mC (.int 0)) (aE 1)) (ρ:=[some (aZ n ps),none]) (h:=H) (ρ1:=[some (aZ n ps),some (.int 0)]) (h1:=H) rfl,bJ w];rfl
theorem z1f {a b:Int}:F_qt [aZ n ps,.int a,.int b] H=.ok (.bl (decide (fI ps a b))) H:=by
 have h1:=sW (n:=n) (ps:=ps) H;have t1:=lD true H (a,b) ps;have t2:=lD true H (b,a) ps;simp only[aI,if_true]at t1 t2;have hne:cT (.int a) (.int b) H=.ok (.bl (!(a==b))) H:=by simp[cT,cE,bR,bN]
 generalize aZ n ps=d at h1;simp only[fI]
 by_cases c0:a=b
 ·subst c0;simp[F_qt,sM,aT,bL,aJ,aK,m2,aB,mC,h1,aE,aN,dN,hne,bG]
 ·have c0':(a==b)=false:=by simpa using c0
  by_cases c1:(a,b)∈ps
  ·simp[F_qt,sM,aT,bL,aJ,aK,m2,aB,mC,h1,aE,aN,dN,hne,c0',aL,aA,aC,lim,t1,c1,bG]
  ·simp[F_qt,sM,aT,bL,aJ,aK,m2,aB,mC,h1,aE,aN,dN,hne,c0',c0,aL,aA,aC,lim,t1,c1,t2,bG]
def dH (q:Int×Int×Int):Dv:=.tup [.int q.1,.int q.2.1,.int q.2.2]
def nU:M (List Dv):=cB (cU eB (aB 3)) [none,none] (cY 2 (bM (aE 0) (bM (aE 1) dD))) dO (bP (aL (aA (aB 0) (aA (aB 1) (aA (mC (.int 1)) aC)))))
def nA:M (List Dv):=cB (aR bX (aA (aB 2) aC)) [none,none,some 1,some 0,some 2] (aE 0) dO (jF (aR bX (aA (aB 4) aC)) (aE 1) (bW (aF F_qt (aA (aB 3) (aA (aB 0) (aA (aB 1) aC))))) (bP (aL (aA (aB 0) (aA (aB 1) (aA (m1 oY (aB 2)) aC))))))
theorem z1g:wN=aJ (aK (aB 0) (cY 2 (bM (aE 2) (bM (aE 3) dD)))) (aJ (aK (cN nU) (aE 4)) (aJ (aK (cN nA) (aE 5)) (aN (m2 bH (aB 4) (aB 5))))):=rfl
theorem z1h {x0 x1 x2 x4 x5:Option Dv}(hl:ps.length<=1000):nU [x0,x1,x2,some (.tup (ps.map aI)),x4,x5] H=.ok ((ps.map λp=>(p.1,p.2,(1:Int))).map dH) H:=by have h:nU [x0,x1,x2,some (.tup (ps.map aI)),x4,x5] H=.ok (ps.filterMap λp=>some (dH (p.1,p.2,1))) H:=kN ps (λp=>some (dH (p.1,p.2,1))) (λρ=>∃a b,ρ=[a,b]) rfl (by simp[cM]) ⟨_,_,rfl⟩ rfl (λk hk ρ ⟨a,b,e⟩=>by subst e;exact⟨aI ps[k],[some (.int ps[k].1),some (.int ps[k].2)],by simp[cM,hk],rfl,⟨_,_,rfl⟩,rfl,rfl⟩) (by omega);rw[h];simp
theorem z1i {x3 x4 x5:Option Dv}(hn:n<=6):nA [some (aZ n ps),some (.int r),some (.int n),x3,x4,x5] H=.ok ((iD n ps r).map dH) H:=by
 have hr:∀{ρ:Ev}{m:M (List Dv)},m ρ H=.ok [.int n] H->aR bX m ρ H=.ok (bY 0 n) H:=λ{ρ m} e=>by unfold aR;rw[e,Rs.bind_ok];exact xZ (by omega) (by omega)
 have hcap:fQ [none,none,some 1,some 0,some 2] [some (aZ n ps),some (.int r),some (.int n),x3,x4,x5]=[none,none,some (.int r),some (aZ n ps),some (.int n)]:=rfl;have h0:aR bX (aA (aB 2) aC) [some (aZ n ps),some (.int r),some (.int n),x3,x4,x5] H=.ok (bY 0 n) H:=hr rfl;have hL:=λa b=>z1f (n:=n) (ps:=ps) (H:=H) (a:=a) (b:=b);unfold nA;generalize aZ n ps=d at hcap h0 hL;have h:=LZ (mi:=aR bX (aA (aB 2) aC)) (mj:=aR bX (aA (aB 4) aC)) (cap:=[none,none,some 1,some 0,some 2]) (sg:=aE 0) (sg2:=aE 1) (t2:=bW (aF F_qt (aA (aB 3) (aA (aB 0) (aA (aB 1) aC))))) (e:=aL (aA (aB 0) (aA (aB 1) (aA (m1 oY (aB 2)) aC)))) (ρ:=[some d,some (.int r),some (.int n),x3,x4,x5]) (H:=H) (H1:=H)
  (bf n) (λ_=>bf n) (λa b:Nat=>if fI ps a b then some (dH ((a:Int),(b:Int),-r))else none) (λρ=>∃a b,ρ=[a,b,some (.int r),some d,some (.int n)]) h0 (by simp[bY]) (by rw[hcap];exact⟨_,_,rfl⟩) rfl
  (λk hk ρ ⟨a,b,e⟩=>by
   subst e;refine⟨.int (0+(k:Int)),[some (.int (0+(k:Int))),b,some (.int r),some d,some (.int n)],bY 0 n,λρ=>∃b,ρ=[some (.int (0+(k:Int))),b,some (.int r),some d,some (.int n)],rfl,rfl,⟨_,rfl⟩,λρ ⟨b,e⟩=>⟨_,_,e⟩,hr rfl,by simp[bY],rfl,λj hj ρ ⟨b,e⟩=>?_⟩;subst e;refine⟨.int (0+(j:Int)),[some (.int (0+(k:Int))),some (.int (0+(j:Int))),some (.int r),some d,some (.int n)],rfl,rfl,⟨_,rfl⟩, ?_⟩;have e1:(0+(k:Int))=(k:Int):=by omega
   have e2:(0+(j:Int))=(j:Int):=by omega
   rw[e1,e2,om,om];have ht:bW (aF F_qt (aA (aB 3) (aA (aB 0) (aA (aB 1) aC)))) [some (.int (k:Int)),some (.int (j:Int)),some (.int r),some d,some (.int n)] H=.ok (decide (fI ps k j)) H:=by simp[bW,aF,aA,aB,aC,hL,eY]
   by_cases c:fI ps k j
   ·rw[if_pos c];exact⟨by rw[ht,decide_eq_true c],rfl⟩
   ·rw[if_neg c];show _=_;rw[ht,decide_eq_false c]) (by
   have:((bf n).flatMap λa:Nat=>(bf n).filterMap λb:Nat=>if fI ps a b then some (dH ((a:Int),(b:Int),-r))else none).length<=n*n:=by
    have hb:∀l:List Nat,(l.flatMap λa:Nat=>(bf n).filterMap λb:Nat=>if fI ps a b then some (dH ((a:Int),(b:Int),-r))else none).length<=l.length*n:=λl=>by
     induction l with
     |nil=>simp
     |cons a l ih=>rw[ji,cm,cf,oh];have:=ie (λb:Nat=>if fI ps a b then some (dH ((a:Int),(b:Int),-r))else none) (bf n);simp only[gw]at this;omega
    simpa using hb (bf n)
   have:n*n<=6*6:=ly hn hn;omega)
 have e:((bf n).flatMap λa:Nat=>(bf n).filterMap λb:Nat=>if fI ps a b then some (dH ((a:Int),(b:Int),-r))else none)=(iD n ps r).map dH:=by
  have e1:∀a:Nat,((bf n).filterMap λb:Nat=>if fI ps a b then some ((a:Int),(b:Int),-r)else none).map dH=(bf n).filterMap λb:Nat=>if fI ps a b then some (dH ((a:Int),(b:Int),-r))else none:=λa=>by
   rw[uc];refine A8 _ λb _=>?_
   split <;> rfl
  unfold iD;rw[List.map_flatMap];simp only[e1]
 rw[h,e]
theorem M9 (hn:n<=6):(iD n ps r).length<=36:=by
 have hb:∀l:List Nat,(l.flatMap λa:Nat=>(bf n).filterMap λb:Nat=>if fI ps a b then some ((a:Int),(b:Int),-r)else none).length<=l.length*n:=λl=>by
  induction l with
  |nil=>simp
  |cons a l ih=>rw[ji,cm,cf,oh];have:=ie (λb:Nat=>if fI ps a b then some ((a:Int),(b:Int),-r)else none) (bf n);simp only[gw]at this;omega
 have h1:=hb (bf n);have:n*n<=6*6:=ly hn hn;simp only[gw]at h1;unfold iD;omega
theorem z1j (o:OrdP n ps):∃i H',F_q0 [aZ n ps,.int r] H=.ok (.ref i) H'/\getL H' i=some ((fG n ps r).map dH)/\Fr [] H H':=by
 have w0:aK (aB 0) (cY 2 (bM (aE 2) (bM (aE 3) dD))) [some (aZ n ps),some (.int r),none,none,none,none] H=.nx [some (aZ n ps),some (.int r),some (.int n),some (.tup (ps.map aI)),none,none] H:=rfl;have l0:=o.len;have c1:=z1h (H:=H) (x0:=some (aZ n ps)) (x1:=some (.int r)) (x2:=some (.int n)) (x4:=none) (x5:=none) (ps:=ps) (by omega);have w1:aK (cN nU) (aE 4) [some (aZ n ps),some (.int r),some (.int n),some (.tup (ps.map aI)),none,none] H=.nx [some (aZ n ps),some (.int r),some (.int n),some (.tup (ps.map aI)),some (.ref H.length),none] (H++[.lst ((ps.map λp=>(p.1,p.2,(1:Int))).map dH)]):=by unfold aK cN;rw[c1];rfl
 have g1:getL (H++[Ob.lst ((ps.map λp=>(p.1,p.2,(1:Int))).map dH)]) H.length=some ((ps.map λp=>(p.1,p.2,(1:Int))).map dH):=gX;have f1':Fr [] H (H++[Ob.lst ((ps.map λp=>(p.1,p.2,(1:Int))).map dH)]):=Fr.app;obtain⟨i,hi⟩:∃i,i=H.length:=⟨_,rfl⟩
 rw[<-hi]at w1 g1;generalize H++[Ob.lst ((ps.map λp=>(p.1,p.2,(1:Int))).map dH)]=H1 at w1 g1 f1';have c2:=z1i (H:=H1) (x3:=some (.tup (ps.map aI))) (x4:=some (.ref i)) (x5:=none) (ps:=ps) (r:=r) o.n6;have w2:aK (cN nA) (aE 5) [some (aZ n ps),some (.int r),some (.int n),some (.tup (ps.map aI)),some (.ref i),none] H1=.nx [some (aZ n ps),some (.int r),some (.int n),some (.tup (ps.map aI)),some (.ref i),some (.ref H1.length)] (H1++[.lst ((iD n ps r).map dH)]):=by unfold aK cN;rw[c2];rfl
 have g2:getL (H1++[Ob.lst ((iD n ps r).map dH)]) H1.length=some ((iD n ps r).map dH):=gX;have g1':=jH (l:=[Ob.lst ((iD n ps r).map dH)]) g1;have f2:Fr [] H1 (H1++[Ob.lst ((iD n ps r).map dH)]):=Fr.app;obtain⟨j,hj⟩:∃j,j=H1.length:=⟨_,rfl⟩
 rw[<-hj]at w2 g2;generalize H1++[Ob.lst ((iD n ps r).map dH)]=H2 at w2 g2 g1' f2;have la:=M9 (ps:=ps) (r:=r) o.n6;have a:=yD g1' g2 (by simp only[br];omega);refine⟨H2.length,H2++[.lst ((fG n ps r).map dH)], ?_,gX,(f1'.trans f2 (by simp)).trans (T:=[]) Fr.app (by simp)⟩;show bG (wN [some (aZ n ps),some (.int r),none,none,none,none] H)=_;rw[z1g,bJ w0,bJ w1,bJ w2];rw[<-gq]at a;have a':m2 bH (aB 4) (aB 5) [some (aZ n ps),some (.int r),some (.int n),some (.tup (ps.map aI)),some (.ref i),some (.ref j)] H2=.ok (.ref H2.length) (H2++[.lst ((fG n ps r).map dH)]):=a;unfold aN;rw[a'];rfl
end
section
variable{n:Nat}{ps:List (Int×Int)}{r:Int}{H:Hs}{i j:Nat}{fs:List Int}{nd:List (Int×Int×Int)}
def rI:M (List Dv):=cB (cU kG (aB 2)) [none,none,none,some 3,some 0] (cY 3 (bM (aE 0) (bM (aE 1) (bM (aE 2) dD)))) (mB (m2 cK (aB 1) (aB 4))) (bP (m2 bH (m2 aQ (aB 3) (aB 0)) (aB 2)))
def rE:M Dv:=aF (f1 (fB dF)) (aA (m2 bH (aV (aA (aB 1) aC)) (cN rI)) aC)
def rC:M (List Dv):=cB (aR pG (aA (aB 0) aC)) [none,none,some 1,some 0] (cY 2 (bM (aE 0) (bM (aE 1) dD))) dO (bP rE)
theorem z1k:wO=aN (cN rC):=rfl
def tM (N:Nat) (nd:List (Int×Int×Int)):Prop:=∀q∈nd,0<=q.1/\q.1<N
theorem ixg {k:Int}(e:getL H j=some (fs.map Dv.int)) (h0:0<=k) (h1:k<fs.length):aQ (.ref j) (.int k) H=.ok (.int (fs.getD k.toNat 0)) H:=xS e (yE h0 h1)
theorem z1l {t:Int}{x1:Option Dv}(ei:getL H i=some (nd.map dH)) (ej:getL H j=some (fs.map Dv.int)) (hN:tM fs.length nd) (hl:nd.length<=1000):rI [some (.int t),x1,some (.ref i),some (.ref j)] H=.ok ((dR fs nd t).map Dv.int) H:=by
 have hi:cU kG (aB 2) [some (.int t),x1,some (.ref i),some (.ref j)] H=.ok (jP i nd.length) H:=by simp[cU,aB,kG,ei]
 have h:rI [some (.int t),x1,some (.ref i),some (.ref j)] H=.ok (nd.filterMap λq=>if q.2.1=t then some (Dv.int (fs.getD q.1.toNat 0+q.2.2))else none) H:=
  kN nd (λq=>if q.2.1=t then some (Dv.int (fs.getD q.1.toNat 0+q.2.2))else none) (λρ=>∃a b c,ρ=[a,b,c,some (.ref j),some (.int t)]) hi rfl ⟨_,_,_,rfl⟩ (by simp[jP,ei]) (λk hk ρ ⟨a,b,c,e⟩=>by
   subst e;have hq:=hN nd[k] (ib hk);refine⟨dH nd[k],[some (.int nd[k].1),some (.int nd[k].2.1),some (.int nd[k].2.2),some (.ref j),some (.int t)],by simp[jP,ei,hk],rfl,⟨_,_,_,rfl⟩, ?_⟩;generalize nd[k]=q at hq;have hx:=ixg ej hq.1 hq.2
   by_cases c:q.2.1=t
   ·rw[if_pos c];have c':(q.2.1==t)=true:=by simpa using c
    exact⟨by simp[mB,m2,aB,Com.eq_int,c',cP],by simp[m2,aB,hx,bH,kF]⟩
   ·rw[if_neg c];have c':(q.2.1==t)=false:=by simpa using c
    simp[mB,m2,aB,Com.eq_int,c',cP]) (by omega)
 rw[h];have e:(nd.filterMap λq=>if q.2.1=t then some (Dv.int (fs.getD q.1.toNat 0+q.2.2))else none)=(dR fs nd t).map Dv.int:=by
  unfold dR;rw[uc];refine A8 _ λq _=>?_
  split <;> rfl
 rw[e]
theorem DW:∀ns:List Int,bQ gS (ns.map Dv.int)=some ns:=CM
theorem z1m {t:Int}:(dR fs nd t).length<=nd.length:=ie _ _
theorem z1n {t x:Int}(ei:getL H i=some (nd.map dH)) (ej:getL H j=some (fs.map Dv.int)) (hN:tM fs.length nd) (hl:nd.length<=400):∃H',rE [some (.int t),some (.int x),some (.ref i),some (.ref j)] H=.ok (.int (dF (x::dR fs nd t))) H'/\Fr [] H H':=by
 have f1':Fr [] H (H++[Ob.lst [.int x]]):=Fr.app;have g1:getL (H++[Ob.lst [.int x]]) H.length=some [.int x]:=gX;have w1:aV (aA (aB 1) aC) [some (.int t),some (.int x),some (.ref i),some (.ref j)] H=.ok (.ref H.length) (H++[Ob.lst [.int x]]):=rfl;have ei1:=f1'.getL ei (by simp);have ej1:=f1'.getL ej (by simp);obtain⟨p,hp⟩:∃p,p=H.length:=⟨_,rfl⟩
 rw[<-hp]at g1 w1;generalize H++[Ob.lst [.int x]]=H1 at f1' g1 w1 ei1 ej1;have c2:=z1l (t:=t) (x1:=some (.int x)) ei1 ej1 hN (by omega);have w2:cN rI [some (.int t),some (.int x),some (.ref i),some (.ref j)] H1=.ok (.ref H1.length) (H1++[Ob.lst ((dR fs nd t).map Dv.int)]):=by unfold cN;rw[c2];rfl
 have f2:Fr [] H1 (H1++[Ob.lst ((dR fs nd t).map Dv.int)]):=Fr.app;have g2:getL (H1++[Ob.lst ((dR fs nd t).map Dv.int)]) H1.length=some ((dR fs nd t).map Dv.int):=gX;have g1':=f2.getL g1 (by simp);obtain⟨p2,hp2⟩:∃p2,p2=H1.length:=⟨_,rfl⟩
 rw[<-hp2]at g2 w2;generalize H1++[Ob.lst ((dR fs nd t).map Dv.int)]=H2 at f2 g2 g1' w2;have hv:=z1m (fs:=fs) (nd:=nd) (t:=t);have a:=yD g1' g2 (by simp;omega);have ec:[Dv.int x]++(dR fs nd t).map Dv.int=(x::dR fs nd t).map Dv.int:=rfl;rw[ec]at a;have g3:getL (H2++[Ob.lst ((x::dR fs nd t).map Dv.int)]) H2.length=some ((x::dR fs nd t).map Dv.int):=gX;refine⟨H2++[Ob.lst ((x::dR fs nd t).map Dv.int)], ?_,(f1'.trans f2 (by simp)).trans (T:=[]) Fr.app (by simp)⟩;obtain⟨p3,hp3⟩:∃p3,p3=H2.length:=⟨_,rfl⟩
 rw[<-hp3]at a g3;generalize H2++[Ob.lst ((x::dR fs nd t).map Dv.int)]=H3 at a g3;have w3:m2 bH (aV (aA (aB 1) aC)) (cN rI) [some (.int t),some (.int x),some (.ref i),some (.ref j)] H=.ok (.ref p3) H3:=by unfold m2;rw[w1,Rs.bind_ok,w2,Rs.bind_ok,a]
 have hm:fB dF (.ref p3) H3=.ok (.int (dF (x::dR fs nd t))) H3:=by simp only[fB,g3,DW];rw[if_pos (by simp)]
 unfold rE;generalize m2 bH (aV (aA (aB 1) aC)) (cN rI)=M at w3;simp[aF,aA,aC,w3,f1,hm]
theorem z1o (ei:getL H i=some (nd.map dH)) (ej:getL H j=some (fs.map Dv.int)) (hN:tM fs.length nd) (hl:nd.length<=400) (hf:fs.length<=100):∃k H',F_q2 [.ref j,.ref i] H=.ok (.ref k) H'/\getL H' k=some ((RR fs nd).map Dv.int)/\Fr [] H H':=by
 have hi:aR pG (aA (aB 0) aC) [some (.ref j),some (.ref i)] H=.ok (jW j fs.length) H:=by simp[aR,aA,aB,aC,pG,ej]
 obtain⟨ρ',H',acc',h1,a,b,h2,h3,h4⟩:=rW (src:=jW j fs.length) (sg:=cY 2 (bM (aE 0) (bM (aE 1) dD))) (t:=dO) (m:=bP rE)
  (λk ρ H' acc=>∃(a b:Option Dv),ρ=[a,b,some (.ref i),some (.ref j)]/\acc=((RR fs nd).take k).map Dv.int/\Fr [] H H')
  (λk ρ H' acc hk ⟨a,b,e1,e2,e3⟩=>by
   subst e1;subst e2;have hk':k<fs.length:=hk;have ei':=e3.getL ei (by simp);have ej':=e3.getL ej (by simp);obtain⟨H2,w,f⟩:=z1n (t:=(k:Int)) (x:=fs.getD k 0) ei' ej' hN hl;have hg:(jW j fs.length).get k H'=some (.tup [.int k,.int (fs.getD k 0)]):=by simp[jW,ej',hk']
   refine⟨.tup [.int k,.int (fs.getD k 0)],[some (.int k),some (.int (fs.getD k 0)),some (.ref i),some (.ref j)],hg,rfl,.inr ⟨H',[some (.int k),some (.int (fs.getD k 0)),some (.ref i),some (.ref j)],((RR fs nd).take (k+1)).map Dv.int,H2,rfl, ?_,_,_,rfl,rfl,e3.trans f (by simp)⟩⟩;have hq:(RR fs nd).take (k+1)=(RR fs nd).take k++[dF (fs.getD k 0::dR fs nd k)]:=by
    have hl:k<(RR fs nd).length:=by rw[iU];exact hk'
    rw[List.take_add_one,ba hl];simp[RR]
   have hz:(((RR fs nd).take k).map Dv.int).length<1000000:=by simp[iU];omega
   rw[hq,gq];generalize ((RR fs nd).take k).map Dv.int=A at hz ⊢;generalize fs.getD k 0=xx at w ⊢;simp[bP,w,hz]) (λρ H' acc ⟨_,_,_,_,e5⟩=>by simp[jW,e5.getL ej (by simp)]) fs.length 0 [none,none,some (.ref i),some (.ref j)] H [] (by simp[jW]) ⟨none,none,rfl,by simp,Fr.refl⟩
 have ht:(RR fs nd).take (jW j fs.length).n=RR fs nd:=qt (by rw[iU];exact ak _);rw[ht]at h3;have hc:rC [some (.ref j),some (.ref i)] H=.ok ((RR fs nd).map Dv.int) H':=by unfold rC cB;rw[hi,Rs.bind_ok];have hcap:fQ [none,none,some 1,some 0] [some (.ref j),some (.ref i)]=[none,none,some (.ref i),some (.ref j)]:=rfl;rw[hcap,show(jW j fs.length).n=fs.length from rfl,h1];dsimp only;rw[h3]
 refine⟨H'.length,H'++[.lst ((RR fs nd).map Dv.int)], ?_,gX,h4.trans (T:=[]) Fr.app (by simp)⟩;show bG (wO [some (.ref j),some (.ref i)] H)=_;rw[z1k];unfold aN cN;rw[hc];rfl
end
section
variable{n:Nat}{ps:List (Int×Int)}{r:Int}{H:Hs}{i j:Nat}{fs:List Int}{nd:List (Int×Int×Int)}{d:Dv}
theorem z1p (o:OrdP n ps):F_qq [aZ n ps] H=.ok .non H:=by simp[F_qq,wL,aT,bL,aX,dU,bW,aF,aA,aB,aC,u6 o,eY,bK,bG]
theorem z1q (h:TK 3 H d) (hb:fH d=false):F_qq [d] H=.ex 0 H:=by have e:=z0t h;rw[hb]at e;simp[F_qq,wL,aT,bL,aX,dU,bW,aF,aA,aB,aC,e,eY,zX,mC,bG]
theorem z1r {lo hi:Int}(h0:lo<=r) (h1:r<=hi):F_qg [.int r,.int lo,.int hi] H=.ok .non H:=by have e:=xW (H:=H) (x:=r) (lo:=lo) (hi:=hi);rw[decide_eq_true h0,decide_eq_true h1]at e;simp[F_qg,BG,aT,bL,aX,dU,bW,aF,aA,aB,aC,e,eY,bK,bG]
def sC:M Bool:=mB (m2 fF (aF (f1 (fB dF)) (aA (aB 3) aC)) (m2 aQ (aB 0) (mC (.int 0))))
def sB:MS:=aJ (aK (aF F_q2 (aA (aB 3) (aA (aB 2) aC))) (aE 4)) (aJ (aX (mB (m2 cK (aB 4) (aB 3))) (aN (aF (f1 gF) (aA (aB 3) aC))) bK) (aK (aB 4) (aE 3)))
theorem z1s:sN=aJ (eJ (aF F_qq (aA (aB 0) aC))) (aJ (eJ (aF F_qg (aA (aB 1) (aA (mC (.int 0)) (aA (mC (.int 5)) aC))))) (aJ (aK (aF F_q0 (aA (aB 0) (aA (aB 1) aC))) (aE 2)) (aJ (aK (m2 jV (aV (aA (mC (.int 0)) aC)) (m2 aQ (aB 0) (mC (.int 0)))) (aE 3)) (aJ (eV sC sB 40) (aN (mC .non)))))):=rfl
theorem NA {x1 x2 x4:Option Dv}(hx:∀H,aQ d (.int 0) H=.ok (.int n) H) (ej:getL H j=some (fs.map Dv.int)) (hl:fs≠[]):sC [some d,x1,x2,some (.ref j),x4] H=.ok (decide (dF fs<n)) H:=by
 have hm:fB dF (.ref j) H=.ok (.int (dF fs)) H:=by simp only[fB,ej,DW];rw[if_pos (nv.mpr hl)]
 have q:=hx H;generalize (n:Int)=z at q;simp[sC,mB,m2,aF,aA,aB,aC,L2.Mr.f1,hm,mC,q,fF,cP]
theorem NB (n1:1<=n) (hx:∀H,aQ d (.int 0) H=.ok (.int n) H) (hN:tM n nd) (hl:nd.length<=400) (h6:n<=6) {x1:Option Dv}{res:Option (List Int)}:∀(f:Nat) (fs:List Int) (H:Hs) (j:Nat) (x4:Option Dv),fs.length=n->dF fs<n->fW n nd f fs=some res->getL H i=some (nd.map dH)->getL H j=some (fs.map Dv.int)->
  ∃H',Fr [] H H'/\((∃gs,res=some gs/\eV sC sB (f+1) [some d,x1,some (.ref i),some (.ref j),x4] H=.rt (.tup (gs.map Dv.int)) H')∨(res=none/\∃ρ',eV sC sB (f+1) [some d,x1,some (.ref i),some (.ref j),x4] H=.nx ρ' H'))
 |0,fs,H,j,x4,_,_,h,_,_=>by cases h
 |f+1,fs,H,j,x4,hf,hm,h,ei,ej=>by
  have hne:fs≠[]:=λz=>by rw[z]at hf;simp at hf;omega
  have tc:=NA (x1:=x1) (x2:=some (.ref i)) (x4:=x4) hx ej hne;rw[decide_eq_true hm]at tc;obtain⟨k,H1,w1,ek,f1'⟩:=z1o ei ej (by rw[hf];exact hN) hl (by omega);have ej1:=f1'.getL ej (by simp);have ei1:=f1'.getL ei (by simp);have a1:aK (aF F_q2 (aA (aB 3) (aA (aB 2) aC))) (aE 4) [some d,x1,some (.ref i),some (.ref j),x4] H=.nx [some d,x1,some (.ref i),some (.ref j),some (.ref k)] H1:=by simp[aK,aF,aA,aB,aC,w1,aE]
  have te:mB (m2 cK (aB 4) (aB 3)) [some d,x1,some (.ref i),some (.ref j),some (.ref k)] H1=.ok (decide (RR fs nd=fs)) H1:=by have:=LU ek ej1;simp[mB,m2,aB,this,cP]
  unfold fW at h
  by_cases c:RR fs nd=fs
  ·rw[if_pos c]at h;cases h;refine⟨H1,f1',.inl ⟨fs,rfl, ?_⟩⟩;refine o7 tc ?_;unfold sB;rw[bJ a1];unfold aJ;rw[vM (te.trans (by rw[decide_eq_true c]))];simp[aN,aF,aA,aB,aC,L2.Mr.f1,gF,ej1]
  ·rw[if_neg c]at h;have hb:sB [some d,x1,some (.ref i),some (.ref j),x4] H=.nx [some d,x1,some (.ref i),some (.ref k),some (.ref k)] H1:=by unfold sB;rw[bJ a1,bJ (ρ1:=[some d,x1,some (.ref i),some (.ref j),some (.ref k)]) (h1:=H1) (by rw[rV (te.trans (by rw[decide_eq_false c]))];rfl)];rfl
   have hne':RR fs nd≠[]:=λz=>by have:=iU (fs:=fs) (nd:=nd);rw[z,hf]at this;simp at this;omega
   by_cases c2:dF (RR fs nd)>=n
   ·rw[if_pos c2]at h;cases h;refine⟨H1,f1',.inr ⟨rfl,[some d,x1,some (.ref i),some (.ref k),some (.ref k)], ?_⟩⟩;rw[CN tc hb];have t2:=NA (x1:=x1) (x2:=some (.ref i)) (x4:=some (.ref k)) hx ek hne';rw[decide_eq_false (by omega)]at t2;exact L0 t2
   ·rw[if_neg c2]at h;obtain⟨H2,f2,h2⟩:=NB n1 hx hN hl h6 f (RR fs nd) H1 k (some (.ref k)) (by rw[iU];exact hf) (by omega) h ei1 ek;refine⟨H2,f1'.trans f2 (by simp), ?_⟩;rw[CN tc hb];exact h2
theorem z1t (o:OrdP n ps):tM n (fG n ps r):=λq hq=>by
 rcases bq.mp hq with hq|hq
 ·obtain⟨p,hp,rfl⟩:=ck.mp hq;have:=o.rng p hp;exact⟨this.1,this.2.1⟩
 ·obtain⟨⟨h0,h1,_,_⟩,_⟩:=mem_asd.mp hq;exact⟨h0,h1⟩
theorem z1u (n1:1<=n):dF (ax n (0:Int))<n:=by have:=(tK (ns:=ax n (0:Int)) (by intro z;have:=congrArg pf z;simp at this;omega)).1;rw[qd this];omega
theorem NC (o:OrdP n ps) (r0:0<=r) (r5:r<=5):∃H',F_q3 [aZ n ps,.int r] H=.ok (iB (dS n ps r)) H'/\Fr [] H H':=by
 have n1:=o.n1;have n6:=o.n6;have hx0:=λH=>L6 (n:=n) (ps:=ps) H;have hn:=λH=>z1p (H:=H) o;obtain⟨i,H1,w3,ei,f1'⟩:=z1j (H:=H) (r:=r) o;generalize aZ n ps=d at hx0 hn w3;have a1:eJ (aF F_qq (aA (aB 0) aC)) [some d,some (.int r),none,none,none] H=.nx [some d,some (.int r),none,none,none] H:=by simp[eJ,aF,aA,aB,aC,hn]
 have a2:eJ (aF F_qg (aA (aB 1) (aA (mC (.int 0)) (aA (mC (.int 5)) aC)))) [some d,some (.int r),none,none,none] H=.nx [some d,some (.int r),none,none,none] H:=by simp[eJ,aF,aA,aB,mC,aC,z1r r0 r5]
 have a3:aK (aF F_q0 (aA (aB 0) (aA (aB 1) aC))) (aE 2) [some d,some (.int r),none,none,none] H=.nx [some d,some (.int r),some (.ref i),none,none] H1:=by simp[aK,aF,aA,aB,aC,w3,aE]
 have a4:aK (m2 jV (aV (aA (mC (.int 0)) aC)) (m2 aQ (aB 0) (mC (.int 0)))) (aE 3) [some d,some (.int r),some (.ref i),none,none] H1=.nx [some d,some (.int r),some (.ref i),some (.ref (H1.length+1)),none] (H1++[Ob.lst [.int 0]]++[Ob.lst ((ax n (0:Int)).map Dv.int)]):=by
  have e0:getL (H1++[Ob.lst [.int 0]]) H1.length=some [.int 0]:=by simp[getL]
  have q:=hx0 (H1++[Ob.lst [.int 0]]);have c0:eI (n:Int)=true:=by simp[eI];omega
  have c1:(n:Int)<9223372036854775808:=by omega
  have c2 : -9223372036854775808<=(n:Int):=by omega
  have c4:n<=1000000:=by omega
  simp[aK,m2,aV,aA,mC,aC,lim,aB,q,jV,e0,c0,c1,c2,c4,aE]
 have f2:Fr [] H1 (H1++[Ob.lst [.int 0]]++[Ob.lst ((ax n (0:Int)).map Dv.int)]):=Fr.trans (T:=[]) Fr.app Fr.app (by simp);have e2:getL (H1++[Ob.lst [.int 0]]++[Ob.lst ((ax n (0:Int)).map Dv.int)]) (H1.length+1)=some ((ax n (0:Int)).map Dv.int):=by simp[getL]
 have ei2:=f2.getL ei (by simp);generalize H1++[Ob.lst [.int 0]]++[Ob.lst ((ax n (0:Int)).map Dv.int)]=H2 at a4 f2 e2 ei2;have hit:fW n (fG n ps r) 39 (ax n 0)=some (dS n ps r):=by
  have h:=yG o r;have:n*n<=6*6:=ly n6 n6;have e:39=n*n+1+(38 - n*n):=by omega
  rw[e];exact DS _ h
 have hlen:(fG n ps r).length<=400:=by have:=M9 (ps:=ps) (r:=r) n6;have:=o.len;unfold fG;rw[cm,br];omega
 obtain⟨H3,f3,h3⟩:=NB (d:=d) (i:=i) (x1:=some (.int r)) n1 hx0 (z1t o) hlen n6 39 (ax n 0) H2 (H1.length+1) none (by simp) (z1u n1) hit ei2 e2;refine⟨H3, ?_,(f1'.trans f2 (by simp)).trans f3 (by simp)⟩;show bG (sN [some d,some (.int r),none,none,none] H)=_;rw[z1s,bJ a1,bJ a2,bJ a3,bJ a4]
 rcases h3 with⟨gs,e,w⟩|⟨e,ρ',w⟩
 ·rw[e];unfold aJ;rw[w];rfl
 ·rw[e,bJ w];rfl
def lC:M (List Dv):=cB (aR bX (aA (m2 bH (mC (.int 5)) (mC (.int 1))) aC)) [none,some 0] (aE 0) (mB (m2 (gO true) (aF F_q3 (aA (aB 1) (aA (aB 0) aC))) (mC .non))) (bP (aB 0))
def lX:M (List Dv):=mK (aR bX (aA (m2 bH (mC (.int 5)) (mC (.int 1))) aC)) [none,some 0] (aE 0) (mB (m2 (gO true) (aF F_q3 (aA (aB 1) (aA (aB 0) aC))) (mC .non))) (aB 0)
theorem ND:sO=aN (aF (f1 (fB jX)) (aA (cN lX) aC)):=rfl
def eF (n:Nat) (ps:List (Int×Int)) (k:Nat):List Int:=((bf k).filter λr:Nat=>(dS n ps r).isSome).map λr:Nat=>(r:Int)
theorem z1v (o:OrdP n ps):∃H',lC [some (aZ n ps)] H=.ok ((eF n ps 6).map Dv.int) H'/\Fr [] H H':=by
 have hi:aR bX (aA (m2 bH (mC (.int 5)) (mC (.int 1))) aC) [some (aZ n ps)] H=.ok (bY 0 6) H:=rfl;have hs:=λ(k:Nat) (hk:k<6) (H:Hs)=>NC (H:=H) (r:=(k:Int)) o (by omega) (by omega);unfold lC;generalize aZ n ps=d at hi hs;obtain⟨ρ',H',acc',h1,a,h2,h3,h4⟩:=rW (src:=bY 0 6) (sg:=aE 0) (t:=mB (m2 (gO true) (aF F_q3 (aA (aB 1) (aA (aB 0) aC))) (mC .non))) (m:=bP (aB 0))
  (λk ρ H' acc=>∃(a:Option Dv),ρ=[a,some d]/\acc=(eF n ps k).map Dv.int/\Fr [] H H')
  (λk ρ H' acc hk ⟨a,e1,e2,e3⟩=>by
   subst e1;subst e2;have hk':k<6:=hk;obtain⟨H2,w,f⟩:=hs k hk' H';have e0:(0+(k:Int))=(k:Int):=by omega
   refine⟨.int (0+(k:Int)),[some (.int (k:Int)),some d],rfl,by rw[e0];rfl, ?_⟩;have hq:eF n ps (k+1)=eF n ps k++if(dS n ps k).isSome then[(k:Int)]else[]:=by
    unfold eF;rw[vp,List.filter_append,gq]
    congr 1
    rw[vf]
    split <;> rfl
   cases q:dS n ps k with
   |none=>rw[q]at w hq;refine .inl ⟨H2, ?_,_,rfl,by rw[hq];simp,e3.trans f (by simp)⟩;simp[mB,m2,aF,aA,aB,aC,w,iB,mC,gO,mE,cP]
   |some gs=>
    rw[q]at w hq;have hz:((eF n ps k).map Dv.int).length<1000000:=by
     have:(eF n ps k).length<=k:=by unfold eF;rw[br];have:=List.length_filter_le (λr:Nat=>(dS n ps r).isSome) (bf k);simpa using this
     rw[br];omega
    refine .inr ⟨H2,[some (.int (k:Int)),some d],(eF n ps (k+1)).map Dv.int,H2, ?_, ?_,_,rfl,rfl,e3.trans f (by simp)⟩
    ·simp[mB,m2,aF,aA,aB,aC,w,iB,mC,gO,mE,cP]
    ·rw[hq];simp only[Ap,if_true,gq];generalize (eF n ps k).map Dv.int=A at hz ⊢;simp[bP,aB,hz]) (λρ H' acc _=>rfl) 6 0 [none,some d] H [] rfl ⟨none,rfl,rfl,Fr.refl⟩
 refine⟨H', ?_,h4⟩;unfold cB;rw[hi,Rs.bind_ok];have hcap:fQ [none,some 0] [some d]=[none,some d]:=rfl;rw[hcap,show(bY 0 6).n=6 from rfl,h1];dsimp only;rw[h3];rfl
theorem NF (o:OrdP n ps) {v:Nat}(hv:v<=5) (h1:∃fs,dS n ps v=some fs) (h2:∀u:Nat,u<v->dS n ps u=none):∃H',F_qj [aZ n ps] H=.ok (.int v) H'/\Fr [] H H':=by
 obtain⟨H1,c1,f1'⟩:=z1v (H:=H) o;have hm:(v:Int)∈eF n ps 6:=by obtain⟨fs,e⟩:=h1;unfold eF;simp only[ck,kn,bw];exact⟨v,⟨by omega,by rw[e];rfl⟩,rfl⟩
 have hne:eF n ps 6≠[]:=λz=>by rw[z]at hm;cases hm
 have hmin:jX (eF n ps 6)=v:=by
  obtain⟨k1,k2⟩:=z11 hne;have h3:=k2 _ hm;unfold eF at k1;simp only[ck,kn,bw]at k1;obtain⟨u,⟨hu,hs⟩,e⟩:=k1;have e':jX (eF n ps 6)=u:=e.symm
  by_cases c:u<v
  ·rw[h2 u c]at hs;cases hs
  ·omega
 have g:getL (H1++[Ob.lst ((eF n ps 6).map Dv.int)]) H1.length=some ((eF n ps 6).map Dv.int):=gX;have hd:fB jX (.ref H1.length) (H1++[Ob.lst ((eF n ps 6).map Dv.int)])=.ok (.int v) (H1++[Ob.lst ((eF n ps 6).map Dv.int)]):=by simp only[fB,g,DW];rw[if_pos (nv.mpr hne),hmin]
 refine⟨H1++[Ob.lst ((eF n ps 6).map Dv.int)], ?_,f1'.trans (T:=[]) Fr.app (by simp)⟩;have w:cN lX [some (aZ n ps)] H=.ok (.ref H1.length) (H1++[Ob.lst ((eF n ps 6).map Dv.int)]):=by unfold cN;rw[show lX [some (aZ n ps)] H=_ from Y3 c1];rfl
 show bG (sO [some (aZ n ps)] H)=_;rw[ND];generalize H1++[Ob.lst ((eF n ps 6).map Dv.int)]=H2 at hd w;generalize aZ n ps=d at w;generalize cN lX=M at w;simp[aN,aF,aA,aC,w,L2.Mr.f1,hd,bG]
theorem z1w (o:OrdP n ps) {v:Nat}(hv:v<=5) (h1:∃fs,dS n ps v=some fs) (h2:∀u:Nat,u<v->dS n ps u=none):∃H',F_qd [aZ n ps] H=.ok (iB (dS n ps v)) H'/\Fr [] H H':=by obtain⟨H1,w1,f1'⟩:=NF (H:=H) o hv h1 h2;obtain⟨H2,w2,f2⟩:=NC (H:=H1) (r:=(v:Int)) o (by omega) (by omega);refine⟨H2, ?_,f1'.trans f2 (by simp)⟩;generalize aZ n ps=d at w1 w2;simp[F_qd,wQ,aT,bL,aN,aF,aA,aB,aC,w1,w2,bG]
theorem z1x (h:TK 3 H d) (hb:fH d=false):F_q3 [d,.int 0] H=.ex 0 H:=by simp[F_q3,sN,aT,bL,aJ,eJ,aF,aA,aB,aC,z1q h hb,bG]
theorem NG (h:TK 3 H d) (hb:fH d=false):F_qj [d] H=.ex 0 H:=by
 have e:=z1x h hb;have w:lX [some d] H=.ex 0 H:=Y4 (n:=5) (src:=bY 0 6) (d:=.int 0) (ρ1:=[some (.int 0),some d]) rfl rfl rfl rfl (by simp[mB,m2,aF,aA,aB,aC,e]);show bG (sO [some d] H)=_;rw[ND];have w2:cN lX [some d] H=.ex 0 H:=by unfold cN;rw[w];rfl
 generalize cN lX=M at w2;simp[aN,aF,aA,w2,bG]
theorem z1y (h:TK 3 H d) (hb:fH d=false):F_qd [d] H=.ex 0 H:=by simp[F_qd,wQ,aT,bL,aN,aF,aA,aB,aC,NG h hb,bG]
end
section
variable{n:Nat}{ps:List (Int×Int)}{r:Int}{fs gs s:List Int}{nd:List (Int×Int×Int)}
abbrev pl (s:List Int) (a:Int):Int:=s.getD a.toNat 0
structure Feas (n:Nat) (ps:List (Int×Int)) (r:Int) (s:List Int):Prop where
 len:s.length=n
 bd:∀x∈s,0<=x/\x<n
 up:∀p∈ps,pl s p.1<pl s p.2
 near:∀a b:Int,0<=a->a<n->0<=b->b<n->fI ps a b->pl s a - r<=pl s b
theorem z1z {t:Nat}(ht:t<s.length):s.getD t 0∈s:=by simp[ht]
theorem NH (n1:1<=n):∀(f:Nat) (fs:List Int),fs.length=n->(∀x∈fs,0<=x/\x<n)->fW n nd f fs=some (some gs)->gs.length=n/\(∀x∈gs,0<=x/\x<n)/\RR gs nd=gs
 |0,fs,_,_,h=>by cases h
 |f+1,fs,hl,hb,h=>by
  unfold fW at h
  by_cases c:RR fs nd=fs
  ·rw[if_pos c]at h;cases h;exact⟨hl,hb,c⟩
  ·rw[if_neg c]at h
   by_cases c2:dF (RR fs nd)>=n
   ·rw[if_pos c2]at h;cases h
   ·rw[if_neg c2]at h;refine NH n1 f (RR fs nd) (by rw[iU];exact hl) (λx hx=>?_) h;have h1:=(tK (ns:=RR fs nd) (λz=>by rw[z]at hx;cases hx)).2 x hx;refine⟨?_,by omega⟩;obtain⟨t,ht,e⟩:=iq.mp hx;have ht':t<fs.length:=by rw[iU]at ht;exact ht
    have h2:=(tL (fs:=fs) (nd:=nd)).2 t ht' |>.2 _ (.inl rfl)
    have e2:(RR fs nd).getD t 0=(RR fs nd)[t]:=by simp[ht]
    rw[e2,e]at h2;have:=(hb _ (z1z ht')).1;omega
theorem z20 (n1:1<=n):∀x∈ax n (0:Int),0<=x/\x<n:=λx hx=>by rw[qd hx];omega
theorem z21 (o:OrdP n ps) (h:dS n ps r=some gs):Feas n ps r gs:=by
 have e:=yG o r;rw[h]at e;obtain⟨h1,h2,h3⟩:=NH o.n1 _ _ (by simp) (z20 o.n1) e;have up:=tL (fs:=gs) (nd:=fG n ps r);rw[h3]at up;refine⟨h1,h2,λp hp=>?_,λa b a0 a1 b0 b1 hL=>?_⟩
 ·have hr:=o.rng p hp;have:=(up.2 p.2.toNat (by omega)).2 (pl gs p.1+1) (.inr (ck.mpr ⟨(p.1,p.2,1),bq.mpr (.inl (ck.mpr ⟨p,hp,rfl⟩)),by
   apply Ao
   ·simp only;omega
   ·rfl⟩))
  unfold pl at this ⊢;omega
 ·have:=(up.2 b.toNat (by omega)).2 (pl gs a + -r) (.inr (ck.mpr ⟨(a,b,-r),bq.mpr (.inr (mem_asd.mpr ⟨⟨a0,a1,b0,b1⟩,hL,rfl⟩)),by
   apply Ao
   ·simp only;omega
   ·rfl⟩))
  unfold pl at this ⊢;omega
end
end L2.Mr.Cod
namespace L2.Mr.K52
open PySem PySem.Spec PyProof.Rows L2 L2.Mr L2.Mr.Cod
open L2.Mr.Com
def rq (a b c:Nat):List Dv:=[.bl (a==c),.bl (a+1==c),.bl (a+2==c)].take b
def rs1:M (List Dv):=(aA (m1 (bE (cZ none tbl0)) (aB 1)) (aA (m1 (bE (cZ none tbl1)) (aB 1)) (aA (m1 (bE (cZ none tbl2)) (aB 1)) aC)))
def rs2:M (List Dv):=(aA (m1 (bE (cZ none tbl3)) (aB 1)) (aA (m1 (bE (cZ none tbl4)) (aB 1)) (aA (m1 (bE (cZ none tbl5)) (aB 1)) aC)))
def rs3:M (List Dv):=(aA (m1 (bE (cZ none tbl6)) (aB 1)) (aA (m1 (bE (cZ none tbl7)) (aB 1)) (aA (m1 (bE (cZ none tbl8)) (aB 1)) aC)))
def mR:M (List Dv):=(aA (m1 (bE (cZ none tbl9)) (aB 1)) (aA (m1 (bE (cZ none tbl10)) (aB 1)) (aA (m1 (bE (cZ none tbl11)) (aB 1)) aC)))
def DX:M (List Dv):=(aA (m1 (bE (cZ none tbl12)) (aB 1)) (aA (m1 (bE (cZ none tbl13)) (aB 1)) aC))
def yH:M (List Dv):=cB (aR bX (aA (mC (.int 14)) aC)) [none,some 3] (aE 0) (bW (m2 aQ (aB 1) (aB 0))) (bP (aB 0))
def NI:MS:=aX (dU (bW (m1 (bE (cZ none tblV)) (aB 1)))) (aN (mC .non)) bK
theorem z22:iR=aJ (aK (aV rs1) (aE 3)) (aJ (aK (m2 bH (aB 3) (aV rs2)) (aE 3)) (aJ (aK (m2 bH (aB 3) (aV rs3)) (aE 3)) (aJ (aK (m2 bH (aB 3) (aV mR)) (aE 3)) (aJ (aK (m2 bH (aB 3) (aV DX)) (aE 3)) (aJ NI (aN (cN yH))))))):=rfl
section
variable{c:Nat}(hc:c=0) {H:Hs}{x0 x2 x3:Option Dv}
include hc
theorem z23:aV rs1 [x0,some (.exc c),x2,x3] H=.ok (.ref H.length) (H++[.lst (rq 0 3 c)]):=by subst hc;rfl
theorem z24:aV rs2 [x0,some (.exc c),x2,x3] H=.ok (.ref H.length) (H++[.lst (rq 3 3 c)]):=by subst hc;rfl
theorem z25:aV rs3 [x0,some (.exc c),x2,x3] H=.ok (.ref H.length) (H++[.lst (rq 6 3 c)]):=by subst hc;rfl
theorem z26:aV mR [x0,some (.exc c),x2,x3] H=.ok (.ref H.length) (H++[.lst (rq 9 3 c)]):=by subst hc;rfl
theorem z27:aV DX [x0,some (.exc c),x2,x3] H=.ok (.ref H.length) (H++[.lst (rq 12 2 c)]):=by subst hc;rfl
theorem z28:NI [x0,some (.exc c),x2,x3] H=.nx [x0,some (.exc c),x2,x3] H:=by subst hc;rfl
theorem z29 {i:Nat}(e:getL H i=some ((bf 14).map λk=>Dv.bl (k==c))):yH [x0,some (.exc c),x2,some (.ref i)] H=.ok [.int c] H:=by
 have h:yH [x0,some (.exc c),x2,some (.ref i)] H=.ok ((bf 14).filterMap λk=>if k==c then some (.int k)else none) H:=
  kN (bf 14) (λk=>if k==c then some (.int (k:Nat))else none) (λρ=>∃a,ρ=[a,some (.ref i)]) (src:=bY 0 14) rfl rfl ⟨_,rfl⟩ rfl (λk hk ρ ⟨a,e'⟩=>by
   subst e';have hk':k<14:=by simpa using hk
   refine⟨.int (0+k),[some (.int (0+k)),some (.ref i)],rfl,rfl,⟨_,rfl⟩, ?_⟩;have ht:=MP (H:=H) (j:=k) e (by simpa using hk');rw[List.getElem_map,om]at ht;have h0:(0+(k:Int))=(k:Int):=by omega
   rw[h0,om]
   cases q:k==c with
   |true=>simp[bW,m2,aB,ht,q,eY]
   |false=>simp[bW,m2,aB,ht,q,eY]) (by simp)
 rw[h];subst hc;rfl
theorem z2a:∃i H',rF 4 14 iR (.ex c H)=.ok (.ref i) H'/\getL H' i=some [.int c]/\Fr [] H H':=by
 obtain⟨H1,hH1⟩:∃H1,H1=H++[Ob.lst (rq 0 3 c)]:=⟨_,rfl⟩
 have g1:getL H1 H.length=some (rq 0 3 c):=by rw[hH1];exact gX
 have f1:Fr [] H H1:=by rw[hH1];exact Fr.app
 have w1:∀x0 x2 x3,aK (aV rs1) (aE 3) [x0,some (.exc c),x2,x3] H=.nx [x0,some (.exc c),x2,some (.ref H.length)] H1:=λx0 x2 x3=>by unfold aK;rw[z23 hc,hH1];rfl
 have step:∀(G0:Hs) (i:Nat) (xs ys:List Dv) (m:M (List Dv)),getL G0 i=some xs->(∀x0 x2 x3 (G:Hs),aV m [x0,some (.exc c),x2,x3] G=.ok (.ref G.length) (G++[.lst ys]))->xs.length+ys.length<=500->
   ∃G' j,(∀x0 x2,aK (m2 bH (aB 3) (aV m)) (aE 3) [x0,some (.exc c),x2,some (.ref i)] G0=.nx [x0,some (.exc c),x2,some (.ref j)] G')/\getL G' j=some (xs++ys)/\Fr [] G0 G':=by
  intro G0 i xs ys m e hm hl;refine⟨_,_,λx0 x2=>?_,gX (H:=G0++[.lst ys]) (x:=xs++ys),Fr.trans (T:=[]) Fr.app Fr.app (by simp)⟩;have a:=yD (H:=G0++[.lst ys]) (jH e) (gX (H:=G0) (x:=ys)) hl;unfold aK;rw[DP rfl (hm _ _ _ _) a];rfl
 obtain⟨H2,i2,w2,g2,f2⟩:=step H1 H.length (rq 0 3 c) (rq 3 3 c) rs2 g1 (λ_ _ _ _=>z24 hc) (by simp[rq]);obtain⟨H3,i3,w3,g3,f3⟩:=step H2 i2 _ (rq 6 3 c) rs3 g2 (λ_ _ _ _=>z25 hc) (by simp[rq]);obtain⟨H4,i4,w4,g4,f4⟩:=step H3 i3 _ (rq 9 3 c) mR g3 (λ_ _ _ _=>z26 hc) (by simp[rq]);obtain⟨H5,i5,w5,g5,f5⟩:=step H4 i4 _ (rq 12 2 c) DX g4 (λ_ _ _ _=>z27 hc) (by simp[rq]);have g5':getL H5 i5=some ((bf 14).map λk=>Dv.bl (k==c)):=by rw[g5];rfl
 refine⟨H5.length,H5++[.lst [.int c]], ?_,gX,(((f1.trans f2 (by simp)).trans f3 (by simp)).trans f4 (by simp)).trans (T:=[]) (f5.trans (T:=[]) Fr.app (by simp)) (by simp)⟩;have hlt:c<14:=by omega
 show(if c<14 then rD (iR (lZ 4 (.exc c)) H)else .bad)=_;rw[if_pos hlt,z22];show rD (aJ _ _ [none,some (.exc c),none,none] H)=_;rw[bJ (w1 _ _ _),bJ (w2 _ _),bJ (w3 _ _),bJ (w4 _ _),bJ (w5 _ _),bJ (z28 hc)];have hr:cN yH [none,some (.exc c),none,some (.ref i5)] H5=.ok (.ref H5.length) (H5++[.lst [.int c]]):=by unfold cN;rw[z29 hc g5'];rfl
 unfold aN;rw[hr];rfl
theorem NJ {caps:List Nat}{vs:List Dv}{me:M Dv}{ρ:Ev}(hρ:nI caps ρ=some vs) (hm:me (vs.map some) H=.ex c H):
  ∃H',aX (mB (m2 cT (jT caps 4 14 iR me) (aV (aA (mC (.int c)) aC)))) (aN (mC (.bl false))) bK ρ H=.nx ρ H'/\Fr [] H H':=by
 obtain⟨i,H1,e1,g1,f1⟩:=z2a hc (H:=H);refine⟨H1++[.lst [.int c]], ?_,f1.trans (T:=[]) Fr.app (by simp)⟩;have a:jT caps 4 14 iR me ρ H=.ok (.ref i) H1:=by unfold jT;rw[hρ];show rF 4 14 iR (me (vs.map some) H)=_;rw[hm,e1]
 have b:aV (aA (mC (.int c)) aC) ρ H1=.ok (.ref H1.length) (H1++[.lst [.int c]]):=rfl;have d:cT (.ref i) (.ref H1.length) (H1++[.lst [.int c]])=.ok (.bl false) (H1++[.lst [.int c]]):=by have q1:=jH (l:=[.lst [.int c]]) g1;have q2:=gX (H:=H1) (x:=[.int c]);simp[cT,cE,bR,q1,q2,bQ,bN,fX]
 have t:mB (m2 cT (jT caps 4 14 iR me) (aV (aA (mC (.int c)) aC))) ρ H=.ok false (H1++[.lst [.int c]]):=by unfold mB m2;rw[a,Rs.bind_ok,b,Rs.bind_ok,d];rfl
 rw[rV t];rfl
end
section
variable{H:Hs}
theorem z2b {k:Nat}{x:Option (List Int)}(hl:∀xs,x=some xs->xs.length<=1000):F_qr (k+2) [iB x,iB x] H=.ok (.bl true) H:=by
 cases x with
 |none=>simp[iB,F_qr,sL,aT,bL,aJ,aX,bW,m1,bE,aB,gG,pF,eY,bK,aN,dN,m2,cK,cE,bR,bN,kK,bG]
 |some xs=>exact z0v (hl xs rfl)
end
def aS:MS:=aJ (aX (dU (bW (aF (F_qr 6) (aA (aF F_qj (aA (aB 3) aC)) (aA (aB 4) aC))))) (aN (mC (.bl false))) bK) (aX (dU (bW (aF (F_qr 6) (aA (aF F_qd (aA (aB 3) aC)) (aA (aF F_qb (aA (aB 3) (aA (aB 4) aC))) aC))))) (aN (mC (.bl false))) bK)
def NK:MS:=aX (mB (m2 cT (jT [6] 4 14 iR sP) (aV (aA (mC (.int 0)) aC)))) (aN (mC (.bl false))) bK
def NL:MS:=aX (mB (m2 cT (jT [6] 4 14 iR sQ) (aV (aA (mC (.int 0)) aC)))) (aN (mC (.bl false))) bK
theorem z2c (scr:List Int):xB scr=aJ (aK (aF (F_qn scr) (aA (aB 0) (aA (aB 1) aC))) (aE 2)) (aJ (aK (aF F_qm (aA (aB 2) (aA (mC (.int 6)) aC))) (aE 3)) (aJ (aK (aF F_qa (aA (aB 3) aC)) (aE 4)) (aJ (cV (aR bX (aA (mC (.int 2)) aC)) (aE 5) aS) (aJ (aK (aF F_qc (aA (aB 2) aC)) (aE 6)) (aJ NK NL))))):=rfl
section
variable{n:Nat}{ps:List (Int×Int)}{x0 x1 x2 x5 x6:Option Dv}{H:Hs}
theorem DY {F:List Dv->Hs->Rs Dv}{d v:Dv}{H H':Hs}{x0 x1 x2 x4 x5 x6:Option Dv}(h:F [d] H=.ok v H'):aF F (aA (aB 3) aC) [x0,x1,x2,some d,x4,x5,x6] H=.ok v H':=by simp[aF,aA,aB,aC,h]
theorem z2d {F:List Dv->Hs->Rs Dv}{d e v:Dv}{H H':Hs}{x0 x1 x2 x5 x6:Option Dv}(h:F [d,e] H=.ok v H'):aF F (aA (aB 3) (aA (aB 4) aC)) [x0,x1,x2,some d,some e,x5,x6] H=.ok v H':=by simp[aF,aA,aB,aC,h]
theorem NM {S:List Dv->Hs->Rs Dv}{ma mb:M Dv}{v:Dv}{ρ:Ev}{H H1 H2:Hs}(ha:ma ρ H=.ok v H1) (hb:mb ρ H1=.ok v H2) (hs:S [v,v] H2=.ok (.bl true) H2):
  aX (dU (bW (aF S (aA ma (aA mb aC))))) (aN (mC (.bl false))) bK ρ H=.nx ρ H2:=by
 simp[aX,dU,bW,aF,aA,ha,hb,aC,hs,eY,bK]
theorem z2e {k:Nat}{x:Int}:F_qr (k+1) [.int x,.int x] H=.ok (.bl true) H:=MN
theorem z2f (o:OrdP n ps) {v:Nat}(hv:v<=5) (h1:∃fs,dS n ps v=some fs) (h2:∀u:Nat,u<v->dS n ps u=none):∃H1,aS [x0,x1,x2,some (aZ n ps),some (.int v),x5,x6] H=.nx [x0,x1,x2,some (aZ n ps),some (.int v),x5,x6] H1/\Fr [] H H1:=by obtain⟨H1,e1,f1⟩:=NF (H:=H) o hv h1 h2;obtain⟨H2,e2,f2⟩:=z1w (H:=H1) o hv h1 h2;obtain⟨H3,e3,f3⟩:=M8 o (v:Int) H2;have hs:=z2b (k:=4) (H:=H3) (x:=dS n ps v) (λxs h=>by have:=(z21 o h).len;have:=o.n6;omega);have hi:=z2e (k:=5) (x:=(v:Int)) (H:=H1);refine⟨H3, ?_,(f1.trans f2 (by simp)).trans f3 (by simp)⟩;unfold aS;rw[bJ (NM (DY e1) rfl hi)];exact NM (DY e2) (z2d e3) hs
theorem z2g (scr:List Int) (k:Nat) (H:Hs) (x2 x3 x4 x5 x6:Option Dv):∃H' y2 y3 y4 y5 y6,xB scr [some .scr,some (.int k),x2,x3,x4,x5,x6] H=.nx [some .scr,some (.int k),y2,y3,y4,y5,y6] H':=by
 obtain⟨H1,h1,f1',s1⟩:=u9 scr k H;have w1:aK (aF (F_qn scr) (aA (aB 0) (aA (aB 1) aC))) (aE 2) [some .scr,some (.int k),x2,x3,x4,x5,x6] H=.nx [some .scr,some (.int k),some (.ref H.length),x3,x4,x5,x6] H1:=by simp[aK,aF,aA,aB,aC,h1,aE]
 obtain⟨n,cs,H2,h2,o,s2,f2⟩:=z0j s1;have w2:aK (aF F_qm (aA (aB 2) (aA (mC (.int 6)) aC))) (aE 3) [some .scr,some (.int k),some (.ref H.length),x3,x4,x5,x6] H1=.nx [some .scr,some (.int k),some (.ref H.length),some (aZ n cs),x4,x5,x6] H2:=by simp[aK,aF,aA,aB,mC,aC,h2,aE]
 generalize H.length=st at s1 s2 f2 h2 w1 w2;obtain⟨v,hv,hx,hy⟩:=z1b o;obtain⟨Ha,ha,fa⟩:=z1e (H:=H2) o hv hx hy;have sa:=s2.fr fa (by simp);have wa:aK (aF F_qa (aA (aB 3) aC)) (aE 4) [some .scr,some (.int k),some (.ref st),some (aZ n cs),x4,x5,x6] H2=.nx [some .scr,some (.int k),some (.ref st),some (aZ n cs),some (.int v),x5,x6] Ha:=by unfold aK;rw[DY ha];rfl
 have w3:aR bX (aA (mC (.int 2)) aC) [some .scr,some (.int k),some (.ref st),some (aZ n cs),some (.int v),x5,x6] Ha=.ok (bY 0 2) Ha:=rfl;obtain⟨ρ',H3,w4,y5,e4,s3,f3⟩:=mH (sg:=aE 5) (b:=aS) w3 (λ_ ρ Hx=>∃y5,ρ=[some .scr,some (.int k),some (.ref st),some (aZ n cs),some (.int v),y5,x6]/\Com.St st Hx/\Fr [] Ha Hx)
  (λj ρ H' hj ⟨y5,e,s,f⟩=>by subst e;obtain⟨Hy,eb,fb⟩:=z2f (x0:=some .scr) (x1:=some (.int k)) (x2:=some (.ref st)) (x5:=some (.int j)) (x6:=x6) (H:=H') o hv hx hy;exact⟨.int j,[some .scr,some (.int k),some (.ref st),some (aZ n cs),some (.int v),some (.int j),x6],_,Hy,by simp[bY],rfl,eb,_,rfl,s.fr fb (by simp),f.trans fb (by simp)⟩) (λρ H' _=>rfl) ⟨x5,rfl,sa,Fr.refl⟩
 subst e4;obtain⟨d,H5,h5,td,bd,s5,f5⟩:=z10 s3;have w6:aK (aF F_qc (aA (aB 2) aC)) (aE 6) [some .scr,some (.int k),some (.ref st),some (aZ n cs),some (.int v),y5,x6] H3=.nx [some .scr,some (.int k),some (.ref st),some (aZ n cs),some (.int v),y5,some d] H5:=by simp[aK,aF,aA,aB,aC,h5,aE]
 have q4:=NG td bd;obtain⟨H6,w7,f6⟩:=NJ (c:=0) rfl (H:=H5) (caps:=[6]) (vs:=[d]) (me:=sP) (ρ:=[some .scr,some (.int k),some (.ref st),some (aZ n cs),some (.int v),y5,some d]) rfl (by simp[sP,aF,aA,aB,aC,q4]);have q5:=z1y (td.fr0 f6) bd;obtain⟨H7,w8,f7⟩:=NJ (c:=0) rfl (H:=H6) (caps:=[6]) (vs:=[d]) (me:=sQ) (ρ:=[some .scr,some (.int k),some (.ref st),some (aZ n cs),some (.int v),y5,some d]) rfl (by simp[sQ,aF,aA,aB,aC,q5]);refine⟨H7,some (.ref st),some (aZ n cs),some (.int v),y5,some d, ?_⟩;rw[z2c,bJ w1,bJ w2,bJ wa,bJ w4,bJ w6];have v7:NK [some .scr,some (.int k),some (.ref st),some (aZ n cs),some (.int v),y5,some d] H5=.nx [some .scr,some (.int k),some (.ref st),some (aZ n cs),some (.int v),y5,some d] H6:=w7;have v8:NL [some .scr,some (.int k),some (.ref st),some (aZ n cs),some (.int v),y5,some d] H6=.nx [some .scr,some (.int k),some (.ref st),some (aZ n cs),some (.int v),y5,some d] H7:=w8;rw[bJ v7,v8]
end
theorem loop (scr:List Int) (m:Int):∀(f k:Nat) (H:Hs) (x1 x2 x3 x4 x5 x6:Option Dv),∃ρ' H',eZ (bY 0 m) (aE 1) (xB scr) f k [some .scr,x1,x2,x3,x4,x5,x6] H=.nx ρ' H'
 |0,k,H,x1,x2,x3,x4,x5,x6=>⟨_,H,rfl⟩
 |f+1,k,H,x1,x2,x3,x4,x5,x6=>by obtain⟨H1,y2,y3,y4,y5,y6,h⟩:=z2g scr k H x2 x3 x4 x5 x6;obtain⟨ρ',H2,h2⟩:=loop scr m f (k+1) H1 (some (.int k)) y2 y3 y4 y5 y6;refine⟨ρ',H2, ?_⟩;rw[<-h2];exact AS (d:=.int k) (ρ1:=[some .scr,some (.int k),x2,x3,x4,x5,x6]) (by simp[bY]) rfl h
theorem z2h (scr:List Int):∃hh,F_q4 scr [.scr] []=.ok (.bl true) hh:=by
 have hi:∃m:Int,aR bX (aA (aF fZ (aA (mC (.int 1)) (aA (aF oQ (aA (aF (f1 (iI scr)) (aA (aB 0) aC)) (aA (mC (.int 8)) aC))) aC))) aC) [some .scr,none,none,none,none,none,none] []=.ok (bY 0 m) []:=by
  generalize hz:(if(8:Int)<scr.length then(8:Int)else scr.length)=z;have z0:0<=z:=by split at hz <;> omega
  have z1:z<=8:=by split at hz <;> omega
  generalize hm:(if z>(1:Int)then z else 1)=m;have m0:1<=m:=by split at hm <;> omega
  have m1':m<=8:=by split at hm <;> omega
  have hr:jQ m=true:=by simp[jQ];omega
  refine⟨m, ?_⟩;have e1:oQ [.int scr.length,.int 8] []=.ok (.int z) []:=by rw[<-hz];rfl
  have e2:fZ [.int 1,.int z] []=.ok (.int m) []:=by rw[<-hm];rfl
  simp[aR,aA,aF,mC,aB,aC,f1,iI,fY,e1,e2,bX,hr]
 obtain⟨m,hi⟩:=hi;obtain⟨ρ',H',h⟩:=loop scr m (bY 0 m).n 0 [] none none none none none none;refine⟨H', ?_⟩;show bG (xC scr [some .scr,none,none,none,none,none,none] [])=_;unfold xC LC;rw[bJ ((vL hi).trans h)];rfl
open PySem PySem.Spec PySem.Calls PySem.W PyProof.Rows L2 L2.Mr
theorem mk_of {l:OpenLaw}{w:cq}{K:Frag}{h:cw}{mg:Str->Option af}{fa:ah}(hob:ob K=obE) (hnt:noTabs K=true) (X:K.In h) (G:h.Ns dm mg) (hfa:mg "law" = some (.ref fa)):
  ∃(fd:bu) (c P:ah),(∀(s:ag) (u:af),BindsTo s fd ⟨[u],[]⟩ [("_law_script",u)])/\tabIn K "law" = some (c,P)/\noTabs K=true /\
   ∀(base:cw) (a:ah) (ns:List Int),ns.length<=63->K.In base->base.Ns dm mg->CodeHd base c P->lA mg base->Lawful l.prog w K mg base 15 fa fd "_law_script" P a ns:=by
 have hc:obF.all (λf=>f K)=true:=congrArg dy hob;have hf:yJ K=yK:=congrArg oj hob;have e:=hfa.symm.trans (mg_of X G (v:=.ref 390) (dA hc 30 rfl));cases e;refine(λ(z:∀R:Prop,(_->R)->R)=>z _ id) λR hR=>?_;obtain⟨g0,U0,B0,C0,D0⟩:=dE (st:=BJ) (n := "is_whole") (c:=201) (ps:=["thing"]) (dC hf 0 (a:=bI K 202) rfl rfl) (bC hc 62 rfl) (bC hc 93 rfl) λ_ _ _ _ _ _=>iN λ_=>rfl;obtain⟨g1,U1,B1,C1,D1⟩:=dE (st:=BK) (n := "is_between") (c:=208) (ps:=["thing","low","high"]) (dC hf 1 (a:=bI K 209) rfl rfl) (bC hc 63 rfl) (bC hc 94 rfl) λ_ _ _ _ _ _=>AI λ_ _ _=>rfl;obtain⟨g2,U2,B2,C2,D2⟩:=dE (st:=BL) (n := "need_between") (c:=215) (ps:=["thing","low","high"]) (dC hf 2 (a:=bI K 216) rfl rfl) (bC hc 64 rfl) (bC hc 95 rfl) λ_ _ _ _ _ _=>AI λ_ _ _=>rfl;obtain⟨g3,U3,B3,C3,D3⟩:=dE (st:=xD) (n := "is_rising") (c:=220) (ps:=["parts"]) (dC hf 3 (a:=bI K 221) rfl rfl) (bC hc 65 rfl) (bC hc 96 rfl) λ_ _ _ _ _ _=>iN λ_=>rfl;obtain⟨g4,U4,B4,C4,D4⟩:=dE (st:=BM) (n := "is_thing") (c:=227) (ps:=["many","thing"]) (dC hf 4 (a:=bI K 228) rfl rfl) (bC hc 66 rfl) (bC hc 97 rfl) λ_ _ _ _ _ _=>gQ λ_ _=>rfl;obtain⟨g5,U5,B5,C5,D5⟩:=dE (st:=xE) (n := "are_things") (c:=232) (ps:=["many","thing"]) (dC hf 5 (a:=bI K 233) rfl rfl) (bC hc 67 rfl) (bC hc 98 rfl) λ_ _ _ _ _ _=>gQ λ_ _=>rfl;obtain⟨g6,U6,B6,C6,D6⟩:=dE (st:=BN) (n := "is_pair") (c:=239) (ps:=["many","thing"]) (dC hf 6 (a:=bI K 240) rfl rfl) (bC hc 68 rfl) (bC hc 99 rfl) λ_ _ _ _ _ _=>gQ λ_ _=>rfl;obtain⟨g7,U7,B7,C7,D7⟩:=dE (st:=xF) (n := "are_pairs") (c:=244) (ps:=["many","things"]) (dC hf 7 (a:=bI K 245) rfl rfl) (bC hc 69 rfl) (bC hc 100 rfl) λ_ _ _ _ _ _=>gQ λ_ _=>rfl;obtain⟨g8,U8,B8,C8,D8⟩:=dE (st:=xG) (n := "has_alike") (c:=249) (ps:=["pairs"]) (dC hf 8 (a:=bI K 250) rfl rfl) (bC hc 70 rfl) (bC hc 101 rfl) λ_ _ _ _ _ _=>iN λ_=>rfl;obtain⟨g9,U9,B9,C9,D9⟩:=dE (st:=xH) (n := "is_complete") (c:=254) (ps:=["pairs"]) (dC hf 9 (a:=bI K 255) rfl rfl) (bC hc 71 rfl) (bC hc 102 rfl) λ_ _ _ _ _ _=>iN λ_=>rfl;obtain⟨g10,U10,B10,C10,D10⟩:=dE (st:=BO) (n := "is_order") (c:=261) (ps:=["thing"]) (dC hf 10 (a:=bI K 262) rfl rfl) (bC hc 72 rfl) (bC hc 103 rfl) λ_ _ _ _ _ _=>iN λ_=>rfl;obtain⟨g11,U11,B11,C11,D11⟩:=dE (st:=BP) (n := "need_order") (c:=268) (ps:=["order"]) (dC hf 11 (a:=bI K 269) rfl rfl) (bC hc 73 rfl) (bC hc 104 rfl) λ_ _ _ _ _ _=>iN λ_=>rfl;obtain⟨g12,U12,B12,C12,D12⟩:=dE (st:=BQ) (n := "are_loose") (c:=275) (ps:=["order","one","other"]) (dC hf 12 (a:=bI K 276) rfl rfl) (bC hc 74 rfl) (bC hc 105 rfl) λ_ _ _ _ _ _=>AI λ_ _ _=>rfl;obtain⟨g13,U13,B13,C13,D13⟩:=dE (st:=sR) (n := "needs_of") (c:=280) (ps:=["order","reach"]) (dC hf 13 (a:=bI K 281) rfl rfl) (bC hc 75 rfl) (bC hc 106 rfl) λ_ _ _ _ _ _=>gQ λ_ _=>rfl;obtain⟨g14,U14,B14,C14,D14⟩:=dE (st:=xI) (n := "raised") (c:=285) (ps:=["places","needs"]) (dC hf 14 (a:=bI K 286) rfl rfl) (bC hc 76 rfl) (bC hc 107 rfl) λ_ _ _ _ _ _=>gQ λ_ _=>rfl;obtain⟨g15,U15,B15,C15,D15⟩:=dE (st:=BR) (n := "seated") (c:=292) (ps:=["order","reach"]) (dC hf 15 (a:=bI K 293) rfl rfl) (bC hc 77 rfl) (bC hc 108 rfl) λ_ _ _ _ _ _=>gQ λ_ _=>rfl;obtain⟨g16,U16,B16,C16,D16⟩:=dE (st:=xJ) (n := "least_reach") (c:=297) (ps:=["order"]) (dC hf 16 (a:=bI K 298) rfl rfl) (bC hc 78 rfl) (bC hc 109 rfl) λ_ _ _ _ _ _=>iN λ_=>rfl;obtain⟨g17,U17,B17,C17,D17⟩:=dE (st:=BS) (n := "least_seating") (c:=304) (ps:=["order"]) (dC hf 17 (a:=bI K 305) rfl rfl) (bC hc 79 rfl) (bC hc 110 rfl) λ_ _ _ _ _ _=>iN λ_=>rfl;obtain⟨g18,U18,B18,C18,D18⟩:=dE (st:=BU) (n := "_law_cell_at") (c:=311) (ps:=["_law_script","_law_k"]) (dC hf 18 (a:=bI K 312) rfl rfl) (bC hc 80 rfl) (bC hc 111 rfl) λ_ _ _ _ _ _=>gQ λ_ _=>rfl;obtain⟨g19,U19,B19,C19,D19⟩:=dE (st:=BV) (n := "_law_state") (c:=318) (ps:=["_law_script","_law_k"]) (dC hf 19 (a:=bI K 319) rfl rfl) (bC hc 81 rfl) (bC hc 112 rfl) λ_ _ _ _ _ _=>gQ λ_ _=>rfl;obtain⟨g20,U20,B20,C20,D20⟩:=dE (st:=BW) (n := "_law_take") (c:=325) (ps:=["_law_state_here","_law_many"]) (dC hf 20 (a:=bI K 326) rfl rfl) (bC hc 82 rfl) (bC hc 113 rfl) λ_ _ _ _ _ _=>gQ λ_ _=>rfl;obtain⟨g21,U21,B21,C21,D21⟩:=dE (st:=BX) (n := "_law_mixed") (c:=332) (ps:=["_law_state_here","_law_many"]) (dC hf 21 (a:=bI K 333) rfl rfl) (bC hc 83 rfl) (bC hc 114 rfl) λ_ _ _ _ _ _=>gQ λ_ _=>rfl;obtain⟨g22,U22,B22,C22,D22⟩:=dE (st:=BY) (n := "_law_closed") (c:=339) (ps:=["_law_many","_law_pairs"]) (dC hf 22 (a:=bI K 340) rfl rfl) (bC hc 84 rfl) (bC hc 115 rfl) λ_ _ _ _ _ _=>gQ λ_ _=>rfl;obtain⟨g23,U23,B23,C23,D23⟩:=dE (st:=xK) (n := "_law_order") (c:=344) (ps:=["_law_state_here","_law_most"]) (dC hf 23 (a:=bI K 345) rfl rfl) (bC hc 85 rfl) (bC hc 116 rfl) λ_ _ _ _ _ _=>gQ λ_ _=>rfl;obtain⟨g24,U24,B24,C24,D24⟩:=dE (st:=BZ) (n := "_law_loose") (c:=351) (ps:=["_law_order_here"]) (dC hf 24 (a:=bI K 352) rfl rfl) (bC hc 86 rfl) (bC hc 117 rfl) λ_ _ _ _ _ _=>iN λ_=>rfl;obtain⟨g25,U25,B25,C25,D25⟩:=dE (st:=CA) (n := "_law_least_with") (c:=358) (ps:=["_law_order_here","_law_reach"]) (dC hf 25 (a:=bI K 359) rfl rfl) (bC hc 87 rfl) (bC hc 118 rfl) λ_ _ _ _ _ _=>gQ λ_ _=>rfl;obtain⟨g26,U26,B26,C26,D26⟩:=dE (st:=CB) (n := "_law_least_reach") (c:=365) (ps:=["_law_order_here"]) (dC hf 26 (a:=bI K 366) rfl rfl) (bC hc 88 rfl) (bC hc 119 rfl) λ_ _ _ _ _ _=>iN λ_=>rfl;obtain⟨g27,U27,B27,C27,D27⟩:=dE (st:=xM) (n := "_law_same") (c:=370) (ps:=["_law_found","_law_due"]) (dC hf 27 (a:=bI K 371) rfl rfl) (bC hc 89 rfl) (bC hc 120 rfl) λ_ _ _ _ _ _=>gQ λ_ _=>rfl;obtain⟨g28,U28,B28,C28,D28⟩:=dE (st:=CC) (n := "_law_bad_order") (c:=377) (ps:=["_law_state_here"]) (dC hf 28 (a:=bI K 378) rfl rfl) (bC hc 90 rfl) (bC hc 121 rfl) λ_ _ _ _ _ _=>iN λ_=>rfl;obtain⟨g29,U29,B29,C29,D29⟩:=dE (st:=nV) (n := "_law_refused") (c:=382) (ps:=["_law_call"]) (dC hf 29 (a:=bI K 383) rfl rfl) (bC hc 91 rfl) (bC hc 122 rfl) λ_ _ _ _ _ _=>iN λ_=>rfl;obtain⟨g30,U30,B30,C30,D30⟩:=dE (st:=sT) (n := "law") (c:=389) (ps:=["_law_script"]) (dC hf 30 (a:=bI K 390) rfl rfl) (bC hc 92 rfl) (bC hc 123 rfl) λ_ _ _ _ _ _=>iN λ_=>rfl;obtain⟨t_MOST_THINGS,c_MOST_THINGS⟩:=EA (n := "MOST_THINGS") (v:=6) (bC hc 124 rfl);obtain⟨t_MOST_APART,c_MOST_APART⟩:=EA (n := "MOST_APART") (v:=5) (bC hc 125 rfl);have ex_NoOrder:ExK K 37:=⟨dA hc 169 rfl,dA hc 170 rfl,dA hc 171 rfl,dA hc 172 rfl,dA hc 173 rfl,dA hc 174 rfl,DZ (bC hc 175 rfl)⟩
 have ex_NoNumber:ExK K 49:=⟨dA hc 176 rfl,dA hc 177 rfl,dA hc 178 rfl,dA hc 179 rfl,dA hc 180 rfl,dA hc 181 rfl,DZ (bC hc 182 rfl)⟩
 refine hR ⟨g30,389,385,λs v=>.of_eq (D30 [v] rfl),dA hc 126 rfl,hnt,λbase a ns hlen _ _ hC hB=>⟨?_⟩⟩;obtain⟨hh,hl⟩:=z2h ns;refine⟨{ K:=K,cl:=λc=>match c with|0=>37|1=>49|2=>61|3=>73|4=>85|5=>97|6=>145|7=>157|8=>169|9=>181|10=>193|11=>109|12=>121|13=>133|_=>24,scr:=ns,sa:=a,tab:=some 385,lq:=(("law" : Str) ++ ".<locals>.") ++ "<lambda>" },F_q4 ns,hh,rfl,rfl,rfl,rfl,hl, ?_⟩;refine l9 (A:={ f_qz:=202,fd_qz:=g0,f_qp:=209,fd_qp:=g1,f_qg:=216,fd_qg:=g2,f_qw:=221,fd_qw:=g3,f_qy:=228,fd_qy:=g4,f_qo:=233,fd_qo:=g5,f_q1:=240,fd_q1:=g6,f_qu:=245,fd_qu:=g7,f_qv:=250,fd_qv:=g8,f_qi:=255,fd_qi:=g9,f_qx:=262,fd_qx:=g10,f_qq:=269,fd_qq:=g11,f_qt:=276,fd_qt:=g12,f_q0:=281,fd_q0:=g13,f_q2:=286,fd_q2:=g14,f_q3:=293,fd_q3:=g15,f_qj:=298,fd_qj:=g16,f_qd:=305,fd_qd:=g17,f_qe:=312,fd_qe:=g18,f_qn:=319,fd_qn:=g19,f_qs:=326,fd_qs:=g20,f_ql:=333,fd_ql:=g21,f_qh:=340,fd_qh:=g22,f_qm:=345,fd_qm:=g23,f_qk:=352,fd_qk:=g24,f_qb:=359,fd_qb:=g25,f_qa:=366,fd_qa:=g26,f_qr:=371,fd_qr:=g27,f_qc:=378,fd_qc:=g28,f_qf:=383,fd_qf:=g29,f_q4:=390,fd_q4:=g30,c_NoOrder:=37,c_NoNumber:=49,c_NoPairs:=61,c_Round:=73,c_NoThing:=85,c_NoRow:=97,c_TooMany:=145,c_TooFew:=157,c_NoText:=169,c_NoLine:=181,c_NoDeed:=193,c_NoSeating:=109,c_NoRing:=121,c_NoSizes:=133,t_MOST_THINGS:=t_MOST_THINGS,t_MOST_APART:=t_MOST_APART,NE:=24,cc:=389,P:=385 }) ?_ hC hB;exact{ hK:=rfl,F_qz:=U0,B_qz:=B0,m_qz:=mg_of X G (dA hc 0 rfl),F_qp:=U1,B_qp:=B1,m_qp:=mg_of X G (dA hc 1 rfl),F_qg:=U2,B_qg:=B2,m_qg:=mg_of X G (dA hc 2 rfl),F_qw:=U3,B_qw:=B3,m_qw:=mg_of X G (dA hc 3 rfl),F_qy:=U4,B_qy:=B4,m_qy:=mg_of X G (dA hc 4 rfl),F_qo:=U5,B_qo:=B5,m_qo:=mg_of X G (dA hc 5 rfl),F_q1:=U6,B_q1:=B6,m_q1:=mg_of X G (dA hc 6 rfl),F_qu:=U7,B_qu:=B7,m_qu:=mg_of X G (dA hc 7 rfl),F_qv:=U8,B_qv:=B8,m_qv:=mg_of X G (dA hc 8 rfl),F_qi:=U9,B_qi:=B9,m_qi:=mg_of X G (dA hc 9 rfl),F_qx:=U10,B_qx:=B10,m_qx:=mg_of X G (dA hc 10 rfl),F_qq:=U11,B_qq:=B11,m_qq:=mg_of X G (dA hc 11 rfl),F_qt:=U12,B_qt:=B12,m_qt:=mg_of X G (dA hc 12 rfl),F_q0:=U13,B_q0:=B13,m_q0:=mg_of X G (dA hc 13 rfl),F_q2:=U14,B_q2:=B14,m_q2:=mg_of X G (dA hc 14 rfl),F_q3:=U15,B_q3:=B15,m_q3:=mg_of X G (dA hc 15 rfl),F_qj:=U16,B_qj:=B16,m_qj:=mg_of X G (dA hc 16 rfl),F_qd:=U17,B_qd:=B17,m_qd:=mg_of X G (dA hc 17 rfl),F_qe:=U18,B_qe:=B18,m_qe:=mg_of X G (dA hc 18 rfl),F_qn:=U19,B_qn:=B19,m_qn:=mg_of X G (dA hc 19 rfl),F_qs:=U20,B_qs:=B20,m_qs:=mg_of X G (dA hc 20 rfl),F_ql:=U21,B_ql:=B21,m_ql:=mg_of X G (dA hc 21 rfl),F_qh:=U22,B_qh:=B22,m_qh:=mg_of X G (dA hc 22 rfl),F_qm:=U23,B_qm:=B23,m_qm:=mg_of X G (dA hc 23 rfl),F_qk:=U24,B_qk:=B24,m_qk:=mg_of X G (dA hc 24 rfl),F_qb:=U25,B_qb:=B25,m_qb:=mg_of X G (dA hc 25 rfl),F_qa:=U26,B_qa:=B26,m_qa:=mg_of X G (dA hc 26 rfl),F_qr:=U27,B_qr:=B27,m_qr:=mg_of X G (dA hc 27 rfl),F_qc:=U28,B_qc:=B28,m_qc:=mg_of X G (dA hc 28 rfl),F_qf:=U29,B_qf:=B29,m_qf:=mg_of X G (dA hc 29 rfl),F_q4:=U30,B_q4:=B30,m_q4:=mg_of X G (dA hc 30 rfl),z_ValueError:=mg_none_of X G (dA hc 46 rfl),z_all:=mg_none_of X G (dA hc 47 rfl),z_any:=mg_none_of X G (dA hc 48 rfl),z_bool:=mg_none_of X G (dA hc 49 rfl),z_enumerate:=mg_none_of X G (dA hc 50 rfl),z_int:=mg_none_of X G (dA hc 51 rfl),z_isinstance:=mg_none_of X G (dA hc 52 rfl),z_len:=mg_none_of X G (dA hc 53 rfl),z_list:=mg_none_of X G (dA hc 54 rfl),z_max:=mg_none_of X G (dA hc 55 rfl),z_min:=mg_none_of X G (dA hc 56 rfl),z_range:=mg_none_of X G (dA hc 57 rfl),z_set:=mg_none_of X G (dA hc 58 rfl),z_sorted:=mg_none_of X G (dA hc 59 rfl),z_tuple:=mg_none_of X G (dA hc 60 rfl),z_zip:=mg_none_of X G (dA hc 61 rfl),c_MOST_THINGS:=mg_of X G c_MOST_THINGS,c_MOST_APART:=mg_of X G c_MOST_APART,n_NoOrder:=mg_of X G (dA hc 31 rfl),n_NoNumber:=mg_of X G (dA hc 32 rfl),n_NoPairs:=mg_of X G (dA hc 33 rfl),n_Round:=mg_of X G (dA hc 34 rfl),n_NoThing:=mg_of X G (dA hc 35 rfl),n_NoRow:=mg_of X G (dA hc 36 rfl),n_TooMany:=mg_of X G (dA hc 37 rfl),n_TooFew:=mg_of X G (dA hc 38 rfl),n_NoText:=mg_of X G (dA hc 39 rfl),n_NoLine:=mg_of X G (dA hc 40 rfl),n_NoDeed:=mg_of X G (dA hc 41 rfl),n_NoSeating:=mg_of X G (dA hc 42 rfl),n_NoRing:=mg_of X G (dA hc 43 rfl),n_NoSizes:=mg_of X G (dA hc 44 rfl),ns_NoOrder:=dA hc 31 rfl,x_NoOrder:=bC hc 183 rfl,ce_NoOrder:=rfl,ns_NoNumber:=dA hc 32 rfl,x_NoNumber:=bC hc 184 rfl,ce_NoNumber:=rfl,ktV:=dI ⟨dA hc 185 rfl,ex_NoOrder⟩ (dI ⟨dA hc 186 rfl,ex_NoNumber⟩ gR),kt0:=dI ⟨dA hc 141 rfl,ex_NoOrder⟩ (dI ⟨dA hc 155 rfl,ex_NoNumber⟩ gR),kt1:=dI ⟨dA hc 142 rfl,ex_NoOrder⟩ (dI ⟨dA hc 156 rfl,ex_NoNumber⟩ gR),kt2:=dI ⟨dA hc 143 rfl,ex_NoOrder⟩ (dI ⟨dA hc 157 rfl,ex_NoNumber⟩ gR),kt3:=dI ⟨dA hc 144 rfl,ex_NoOrder⟩ (dI ⟨dA hc 158 rfl,ex_NoNumber⟩ gR),kt4:=dI ⟨dA hc 145 rfl,ex_NoOrder⟩ (dI ⟨dA hc 159 rfl,ex_NoNumber⟩ gR),kt5:=dI ⟨dA hc 146 rfl,ex_NoOrder⟩ (dI ⟨dA hc 160 rfl,ex_NoNumber⟩ gR),kt6:=dI ⟨dA hc 147 rfl,ex_NoOrder⟩ (dI ⟨dA hc 161 rfl,ex_NoNumber⟩ gR),kt7:=dI ⟨dA hc 148 rfl,ex_NoOrder⟩ (dI ⟨dA hc 162 rfl,ex_NoNumber⟩ gR),kt8:=dI ⟨dA hc 149 rfl,ex_NoOrder⟩ (dI ⟨dA hc 163 rfl,ex_NoNumber⟩ gR),kt9:=dI ⟨dA hc 150 rfl,ex_NoOrder⟩ (dI ⟨dA hc 164 rfl,ex_NoNumber⟩ gR),kt10:=dI ⟨dA hc 151 rfl,ex_NoOrder⟩ (dI ⟨dA hc 165 rfl,ex_NoNumber⟩ gR),kt11:=dI ⟨dA hc 152 rfl,ex_NoOrder⟩ (dI ⟨dA hc 166 rfl,ex_NoNumber⟩ gR),kt12:=dI ⟨dA hc 153 rfl,ex_NoOrder⟩ (dI ⟨dA hc 167 rfl,ex_NoNumber⟩ gR),kt13:=dI ⟨dA hc 154 rfl,ex_NoOrder⟩ (dI ⟨dA hc 168 rfl,ex_NoNumber⟩ gR),n_NearError:=mg_of X G (dA hc 45 rfl),e1:=dA hc 187 rfl,e2:=dA hc 188 rfl,e3:=dA hc 189 rfl,e4:=hW (dA hc 127 rfl) (hW (dA hc 128 rfl) (hW (dA hc 129 rfl) (hW (dA hc 130 rfl) (hW (dA hc 131 rfl) (hW (dA hc 132 rfl) (hW (dA hc 133 rfl) (hW (dA hc 134 rfl) (hW (dA hc 135 rfl) (hW (dA hc 136 rfl) (hW (dA hc 137 rfl) (hW (dA hc 138 rfl) (hW (dA hc 139 rfl) (hW (dA hc 140 rfl) VJ))))))))))))),lq:=rfl,tab:=rfl,code:=C30 }
end L2.Mr.K52
open PySem PySem.W PyProof.Rows
set_option maxRecDepth 100000 in
set_option maxHeartbeats 0 in
theorem PySem.Challenge.cw_nearorders_k52_least_reaches_holds : PySem.Challenge.rw_nearorders_k52_least_reaches.Holds := by
  w_on; o_law
  refine holds_open (XP := XL L2.Mr.K52.vw []) (YP := L2.Mr.Ys L2.Mr.K52.ob L2.Mr.K52.obE) L2.Mr.K52.left L2.Mr.ys_of L2.Mr.ys_keeps (fun s e => xl_of s (Bool.and_eq_true_iff.mp e).1) XL.keeps (by rfl) (by rfl) (by rfl) (fun s e => recFacts_of (Bool.and_eq_true_iff.mp e).2) (by rfl) (by first | assumption | decide +kernel) (by decide +kernel) ⟨rfl,rfl,rfl,rfl,rfl,by decide +kernel⟩ ?hw ?hc
  case hw => w_witness2
  case hc => exact L2.Mr.walkK (l := PySem.Challenge.rw_nearorders_k52_least_reaches) (n := 63) (k := 15) (x := "_law_script") rfl (by decide) rfl ⟨rfl,by decide,by decide⟩ rfl (fun K w mg fa h hob hnt X G hmg => L2.Mr.K52.mk_of hob hnt X G hmg)