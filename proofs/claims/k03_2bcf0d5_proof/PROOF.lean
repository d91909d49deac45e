import PyProof.Rows.All
import Wide.All
import OpenK.AllK
import Wide.FinOn
import Lean
import PyProof.EqAt
import PyProof.EqKinds
import PyProof.TupleCall
import PyProof.NeKinds
import PyProof.StationsW
import PyProof.ExcClass3
import PyProof.ExcBaseAll.ValueError
import PyProof.ExcArgsOwn
import KE.KIsAll
import PyProof.ZipIter
import PyProof.RulesAs
import KE.KLam
import PyProof.NsDelKeeps
import PyProof.Rows.Range3
import PyProof.SumWalkG
import PyProof.EnumMake
import PyProof.EnumFor
import PyProof.WalkInts
import PyProof.Rows.SortWalk
import KE.KSortAsk
import PySem.SetOps
import KE.KSortTup
import PyProof.Rows.SetFrom
import PyProof.SetRoads
import PyProof.Rows.CallKwBuiltin
import PySem.Challenge.RW_nearorders_k03_things_ahead_behind_and_l
open Array renaming getElem?_eq_some_iff->dj,getElem?_eq_getElem->fj,getElem?_setIfInBounds_self_of_lt->iw,getD->ka,length_toList->lj,getElem?_toList->nr,getElem?_eq_none->rn,perm_iff_toList_perm->xf,getElem?_replicate->zl,mem_toList_iff->Av,forIn_toList->Bk
open Bool renaming false_eq_true->cn,and_eq_true->dm,eq_iff_iff->fw,false_ne_true->gp,not_true->om,and_false->pq,not_eq_true'->vm
open Classical renaming em->qk
open False renaming elim->iu
open ForInStep renaming yield->qo
open Int renaming toNat_natCast->fe
open List renaming size_toArray->av,mem_cons_of_mem->ax,getElem?_eq_getElem->az,range->ba,getElem?_eq_some_iff->bc,mem_cons->bf,length_map->bh,mem_cons_self->bo,replicate->br,filterMap_cons->bu,mem_range->bw,length_append->bx,mem_of_getElem?->cb,mem_append_right->cg,mem_map->cp,pairwise_cons->cx,map_cons->cy,getElem?_set_self->cz,getElem?_map->df,length_cons->dg,mem_singleton->dh,getElem?_append_left->du,getElem?_set_ne->dw,mem_append->dy,getElem?_append_right->fh,all_eq_true->fy,getElem_mem->fz,mem_filterMap->gq,map_append->gr,pairwise_iff_getElem->gw,replicate_succ->gz,lookup_cons->ij,mem_filter->iq,getElem_of_mem->jg,length_take->jk,length_filter_le->jn,nodup_cons->jo,mem_append_left->jr,flatten_cons->jt,getElem_range->kd,length_set->ki,length_range->km,flatMap_cons->kn,getElem?_zip_eq_some->lx,length_filterMap_le->mf,append_assoc->nc,ext_getElem?->nh,map_map->ni,length_drop->nu,getD->nv,append_nil->ow,length_nil->oz,forIn_cons->pd,perm_ext_iff_of_nodup->pv,length->qg,pairwise_map->ql,getElem?_replicate->qv,any_eq_true->qw,getElem?_cons_succ->rf,countP_cons->rg,nodup_range->rh,pairwise_filterMap->rj,pairwise_lt_range->sf,range_succ->tj,mem_iff_getElem->uc,forall_mem_cons->ud,forall_mem_nil->uj,map_drop->uv,zip_cons_cons->ux,map_filterMap->uy,map_nil->vh,take_succ_eq_append_getElem->vn,eraseIdx_eq_take_drop_succ->wa,mem_flatMap->we,not_mem_nil->wg,of_mem_zip->wo,nodup_iff_pairwise_ne->yf,length_eraseIdx_of_lt->yg,getElem?_take_of_lt->zq,map_take->Aa,length_eq_zero_iff->Ae,range_succ_eq_map->Ai,any_map->Ak,length_replicate->An,length_singleton->Ap,take_append_drop->Au,getElem?_eq_none->Ax,getElem?_toArray->Ay,map_congr_left->Bm,flatMap_append->Bn,mem_map_of_mem->Bo
open List.Pairwise renaming nil->oq,imp_of_mem->vg
open List.Perm renaming refl->vt,swap->vv,append_left->yh
open List.cons renaming injEq->Bd
open Nat renaming le_refl->ao,lt_of_lt_of_le->au,ne_of_lt->ay,le_trans->cu,le_of_lt->gh,lt_irrefl->gu,lt_or_ge->iz,ne_of_gt->ji,zero_le->jl,lt_succ_self->jy,lt_succ_of_lt->kr,mul_le_mul->kz,le_add_right->oj,le_of_eq->pj,succ_ne_self->rp,succ_mul->sk,le_succ->wq,zero_add->Aq
open Ne renaming symm->cw
open Option renaming isSome_iff_exists->xh,isSome_some->Az
open Option.some renaming inj->cf,injEq->zm
open Prod renaming fst->dz,snd->pw
open PyProof.Rows renaming slot_tuple_getitem->gg,callWith_type1->jb,IntsAre->lh,AllBare->rz,get?_update_seq->ui,listUpdate_at->wd,lt_int->wt,size_push'->Aw
open PySem renaming wpAny_bind->ae,Value->af,Shared->ag,Addr->ah,wpAny_pure->aj,starEach->aw,Program->bj,Expr->bp,FuncData->bq,Around->cj,sizeLine->ck,World->cm,Heap->cq,mainGlobals->da,bootBuiltins->dv,mem_of_lookup->fg,Scope->fq,wpAny_field->fv,IsTupleKey->gm,wpAny_newObj_type->gn,wpAny_callSpecial?_slot->gv,Stmt->gy,wpAny_call_entry->ib,SetTable->ie,wpAny_holding->ig,wpAny_setField_rec->jc,Comprehension->jd,sizeLine_eq->je,wpAny_seqItems->jf,wpAny_setState_of->jh,Arguments->jw,wpAny_mono->jx,NameKind->kg,wpAny_passesOwn->ku,IsPair->kv,wpAny_truthy_bool->lg,wpAny_askSetting->mm,wpAny_execs_nil->mw,Builtin->my,wpAny_execs_cons->pf,wpAny_pyIter_zip->pg,pushCells_keeps->qc,codeAny_builtin->qe,codeAny_mono->qf,wpAny_typeOf->qi,wpAny_pyIter_tuple->qr,wpAny_Call_Name_kw->qt,wpAny_pyIter_list->sd,wpAny_standAt->sj,wpAny_onRaise->sr,wpAny_comprehension_free->sv,wpAny_forIn_list->ua,call_meets->ue,wpAny_rule->uf,IsPart->uz,codeAny_call_builtin->ve,wpAny_updateSeq_pair->vf,TriplesOk->vj,wpAny_setEntries_of->vz,wpAny_attempt->wb,IsZip->xc,PassesOwn->yi,Result->yj,noFill_tuple_add->ym,wpAny_isInstance->zk,Model->zo,wpAny_of_eq->zr,BindsTo->Ag,wpAny_setField->As,wpAny_letOwnedTupleGo_zip->Bc,seq_tuple_add->Bg,call->Bh,wpAny_newList->Bl
open PySem.Around renaming under_plainId->og,frames_deeper->Ah
open PySem.Builtin.List renaming listTooLong->kq,listExtendWith->uw,listSameRef->vk,listTouch->wc
open PySem.Builtin.Slice renaming slicePlaces->kh,sliceAdjust->oh,sliceApplied->uq
open PySem.Builtin.SmallTypes renaming nextOf->ff,ownedTupleIsFree->qd,stopIteration->qp
open PySem.Builtin.Tuple renaming tupleExact->kj
open PySem.Challenge renaming pw_nearorders_k03_things_ahead_behind_and_l->aa
open PySem.EntryCells renaming newEntry->zj
open PySem.F renaming plainAttrs_list->md,args_tuple_add_2->pz,entry_tuple_add->qh,slot_tuple_add->qu,excBase_ValueError->wk,slot_list_append->xa,type_list_append->xb
open PySem.Heap renaming get?_push_of_some->ak,lt_size->ar,get?_push_size->bg,size_push->fi,SameBut->ik,get?_update_ne->ly,get?_update_other->mz,get?_update_self->nt,ExtBut->Bb
open PySem.Heap.SameBut renaming update->nj,refl->tw
open PySem.IsL renaming update->Ao
open PySem.NameKind renaming free->bz,cell->dk
open PySem.Obj renaming mapSeq->oi,data_mapFields->vc,isFreed_of_fields->Ba
open PySem.PassesOwn renaming leaving->Aj
open PySem.SeqAt renaming EqAt->um,RcAt->Bi
open PySem.SeqAt.EqAt renaming same->qj,int_str->tm,str_int->tq,int_int->tu,none_tuple->wx,bool_tuple->wz,none_bool->xk,none_list->xm,bool_none->xr,bool_bool->xv,bool_list->ya,int_tuple->yc,str_tuple->ye,none_int->yo,none_str->yq,bool_int->yt,bool_str->yv,int_none->yx,int_bool->yz,int_list->zc,str_none->ze,str_bool->zg,str_list->zi,str_str->zx,of_refs->zy
open PySem.SeqAt.RcAt renaming none_tuple->wu,bool_tuple->wy,none_none->xi,none_bool->xj,none_list->xl,bool_none->xq,bool_bool->xu,bool_list->xw,int_tuple->yb,str_tuple->yd,none_int->yn,none_str->yp,bool_int->yr,bool_str->yu,int_none->yw,int_bool->yy,int_list->zb,str_none->zd,str_bool->zf,str_list->zh,int_int->zt,int_str->zu,str_int->zv,str_str->zw
open PySem.SetTable renaming insertAt->ja,turns->sh,below->si,sizeAbove->Al
open PySem.Shared renaming TypeIs->ug
open PySem.Str renaming ofString->lr
open PySem.Value renaming ref->ic,none->jm,isInt_shape->mr,builtin->uh,bool->Be,type->Bf
open PySem.W renaming Frag->aq,kitOne->de,subIn->jq,keepIn->ju,CodeHd->jv,kla_obj->jz,envX->mq,fnOf->ou,kla_fn->ph,tabObj->sy,excIn->ub,methodObj->uk,nsIn->ur,codeIn->wj,kitCls->wm,cellsFrom_some->yk,hideAll_size->Ab,hideAll_none->Ac,hideAll_get->Af,of_hideAll->Am
open PySem.Walks renaming list->Bj
open PySem.pickOrder renaming go->xg
open Sum renaming inl->vp,inr->vq
set_option Elab.async false
set_option linter.all false
set_option maxRecDepth 100000
set_option maxHeartbeats 4000000
namespace L2.Mr
open PySem PySem.Spec PySem.Calls PyProof.Rows PySem.W
def O7 (o:Obj):Bool:=match o.cls,o.data with
 | .none,.fields _=>false
 |_,_=>true
def mV (h:cq):List ah->Frag
 | []=>[]
 |a::as=>match h.get? a with
  |some o=>match O7 o with
   |true=>(a,o)::mV h as
   |false=>mV h as
  |none=>mV h as
def rR (h:cq):Frag:=mV h (ba h.objs.size)
theorem uT (h:cq):∀as,(mV h as).In h
 | [],_,_,e=>nomatch e
 |a::as,b,o,e=>by
  unfold mV at e
  split at e
  ·rename_i o' q
   split at e
   ·rw[ij]at e
    cases z:b==a with
    |true=>rw[z]at e;cases e;rw[eq_of_beq z];exact q
    |false=>rw[z]at e;exact uT h as b o e
   ·exact uT h as b o e
  ·exact uT h as b o e
theorem uU (h:cq):∀as,noTabs (mV h as)=true
 | []=>rfl
 |a::as=>by
  unfold mV
  split
  ·split
   ·rename_i q;show(_&&_)=true;rw[dm];refine⟨?_,uU h as⟩;exact q
   ·exact uU h as
  ·exact uU h as
def cT (K:Frag) (f:ah):Option bq:=match K.lookup f with
 |some o=>match o.data with
  | .func fd=>some { fd with kwdefaults:=.none,doc:=.none,pyModule:=.none,annotations:=none,closureTuple:=.none }
  |_=>none
 |none=>none
theorem O8 {K:Frag}{f:ah}{n q:Str}{A:jw}{B:List gy}{S:fq}{dV cd:af}(h:cT K f=some (fnOf n q A B S dV .none .none .none none cd .none)):
  ∃(oc:af) (od:Option ah) (kV dc pm:af) (an:Option ah) (ct:af) (sl:Array (Option af)),K.lookup f=some ⟨oc,od,.func (fnOf n q A B S dV kV dc pm an cd ct),sl⟩:=by
 unfold cT at h
 split at h
 ·rename_i o e
  split at h
  ·rename_i fd q;obtain⟨oc,od,dt,sl⟩:=o;cases fd;simp only[zm,FuncData.mk.injEq]at h;obtain⟨rfl,rfl,rfl,rfl,rfl,rfl,rfl,rfl,_,_,_,_,rfl,_,rfl⟩:=h;simp only at q;subst q;exact⟨_,_,_,_,_,_,_,_,e⟩
  ·cases h
 ·cases h
theorem mW {F:List (Frag->Bool)}{K:Frag}(h:F.all (λf=>f K)=true) (i:Nat) {f:Frag->Bool}(e:F[i]?=some f):f K=true:=fy.mp h f (cb e)
theorem O9 {l m:List (Option bq)}(h:l=m) (i:Nat) {a b:Option bq}(e:l[i]?=some a) (e':m[i]?=some b):a=b:=by subst h;rw[e]at e';exact cf e'
def uV (K:Frag) (q:ah):Bool:=match K.lookup q with
 |some ⟨_,_,.cls _,_⟩=>true
 |_=>false
theorem FJ {K:Frag}{q:ah}(h:uV K q=true):∃lo ld lc ls,K.lookup q=some ⟨lo,ld,.cls lc,ls⟩:=by
 unfold uV at h
 split at h
 ·exact⟨_,_,_,_,by assumption⟩
 ·cases h
def zQ (K:Frag) (n:Str) (v:Int):Bool:=match nsIn K da n with
 |some (some (.int i _))=>i==v
 |_=>false
theorem PB {K:Frag}{n:Str}{v:Int}(h:zQ K n v=true):∃t,nsIn K da n=some (some (.int v t)):=by
 unfold zQ at h
 split at h
 ·rename_i i t e;rw[eq_of_beq h]at e;exact⟨t,e⟩
 ·cases h
theorem zR (p:bj) (w:cm) (N:Nat) {α:Type}(f:ag->α):(openEnds treeTable p w N).map f=(((Fast.tw10274390034422433532 Fast.tw14364793385576792824 (opening p) w N (PySem.start (opening p)).1 (PySem.start (opening p)).2).bind (Fast.tw14289696077712309145 p)).bind λs₀=>match s₀.heap.isNs da&&s₀.gens.size==0 with
 |true=>(Fast.tw14082659384304107361 Fast.tw14364793385576792824 p w s₀.heap.objs.size (s₀.heap.nsMap da "__annotations__") N s₀ (topStub p)).bind λs₁=>match staticsOk (importedModules p.main.body) s₀.heap s₁.heap&&namesBound p s₁.heap&&gensDone s₁&&laidKept s₀.heap s₁.heap with
   |true=>some s₁
   |false=>none
 |false=>none).map f:=by
 rw[<-Fast.te10274390034422433532,<-Fast.te14364793385576792824,<-Fast.te14289696077712309145,<-Fast.te14082659384304107361];rfl
abbrev FK:List af:=[.type "ValueError",.type "Exception",.type "BaseException",.type "object"]
def PC (s:gy) (cd:ah):Option bq:=match s with
 | .FunctionDef n a b _ _ _ sc _ _ _=>some (fnOf n n a b sc .none .none .none .none none (.ref cd) .none)
 |_=>none
def fE (p:bj) (i:Nat) (cd:ah):Option bq:=PC (p.main.body.getD i (.Pass ⟨0,0,0,0⟩)) cd
def nR (K:Frag) (n:Str) (a:ah):Bool:=decide (nsIn K da n=some (some (.ref a)))
def nN (K:Frag) (n:Str):Bool:=decide (nsIn K da n=some none)
def sI (K:Frag) (a b:af) (v:Bool):Bool:=decide (subIn K a b=some v)
def kI (K:Frag) (a b:ah) (v:Bool):Bool:=decide (kitOne K (.ref a) (.ref b)=some v)
theorem dA {F:List (Frag->Bool)}{K:Frag}(h:F.all (λf=>f K)=true) (i:Nat) {g:Frag->Prop}[∀K,Decidable (g K)] (e:F[i]?=some (λK=>decide (g K))):g K:=of_decide_eq_true (mW h i e)
end L2.Mr
namespace L2.Mr.K03
open PySem PySem.Spec PySem.Calls PySem.W PyProof.Rows L2.Mr
def vw:bj:={ aa with main:={ aa.main with body:=List.filterMap (λi=>aa.main.body[i]?) [1,2,3,4,5,6,7,8,9,10,11,12,14,15,16,18,19,20,21,22,23,24,25,26,27,28,29,30,31,32,33,35,36,37,38,39,40,41,42,43,44,45,46,47] } }
def Xw:ag->Bool:=λs=>xlAt vw [] s&&recOk (RowW.records (OpenRow.toRowW PySem.Challenge.rw_nearorders_k03_things_ahead_behind_and_l.row)) s
def obF:List (Frag->Bool):=[(nR · "is_whole" 166),(nR · "is_between" 173),(nR · "is_rising" 178),(nR · "is_thing" 185),(nR · "are_things" 190),(nR · "is_pair" 197),(nR · "are_pairs" 202),(nR · "has_alike" 207),(nR · "is_complete" 212),(nR · "is_order" 219),(nR · "need_order" 226),(nR · "need_thing" 233),(nR · "ahead_of" 238),(nR · "behind" 243),(nR · "are_loose" 250),(nR · "loose_from" 255),(nR · "loose_pairs" 260),(nR · "turned" 265),(nR · "_law_cell_at" 272),(nR · "_law_state" 279),(nR · "_law_take" 286),(nR · "_law_mixed_row" 293),(nR · "_law_closed" 298),(nR · "_law_order" 303),(nR · "_law_loose" 310),(nR · "_law_bad_order" 317),(nR · "_law_same" 322),(nR · "_law_refused" 327),(nR · "_law_right" 332),(nR · "_law_refusals_right" 337),(nR · "law" 342),(nR · "NoOrder" 37),(nR · "NoNumber" 49),(nR · "NoPairs" 61),(nR · "Round" 73),(nR · "NoThing" 85),(nR · "NoRow" 97),(nR · "TooMany" 109),(nR · "TooFew" 121),(nR · "NoText" 133),(nR · "NoLine" 145),(nR · "NoDeed" 157),(nR · "NearError" 24),(nN · "ValueError"),(nN · "all"),(nN · "any"),(nN · "bool"),(nN · "int"),(nN · "isinstance"),(nN · "len"),(nN · "list"),(nN · "max"),(nN · "min"),(nN · "range"),(nN · "set"),(nN · "sorted"),(nN · "tuple"),(nN · "zip"),(codeIn · (.ref 165) "is_whole"),(codeIn · (.ref 172) "is_between"),(codeIn · (.ref 177) "is_rising"),(codeIn · (.ref 184) "is_thing"),(codeIn · (.ref 189) "are_things"),(codeIn · (.ref 196) "is_pair"),(codeIn · (.ref 201) "are_pairs"),(codeIn · (.ref 206) "has_alike"),(codeIn · (.ref 211) "is_complete"),(codeIn · (.ref 218) "is_order"),(codeIn · (.ref 225) "need_order"),(codeIn · (.ref 232) "need_thing"),(codeIn · (.ref 237) "ahead_of"),(codeIn · (.ref 242) "behind"),(codeIn · (.ref 249) "are_loose"),(codeIn · (.ref 254) "loose_from"),(codeIn · (.ref 259) "loose_pairs"),(codeIn · (.ref 264) "turned"),(codeIn · (.ref 271) "_law_cell_at"),(codeIn · (.ref 278) "_law_state"),(codeIn · (.ref 285) "_law_take"),(codeIn · (.ref 292) "_law_mixed_row"),(codeIn · (.ref 297) "_law_closed"),(codeIn · (.ref 302) "_law_order"),(codeIn · (.ref 309) "_law_loose"),(codeIn · (.ref 316) "_law_bad_order"),(codeIn · (.ref 321) "_law_same"),(codeIn · (.ref 326) "_law_refused"),(codeIn · (.ref 331) "_law_right"),(codeIn · (.ref 336) "_law_refusals_right"),(codeIn · (.ref 341) "law"),(keepIn · (.ref 166)),(keepIn · (.ref 173)),(keepIn · (.ref 178)),(keepIn · (.ref 185)),(keepIn · (.ref 190)),(keepIn · (.ref 197)),(keepIn · (.ref 202)),(keepIn · (.ref 207)),(keepIn · (.ref 212)),(keepIn · (.ref 219)),(keepIn · (.ref 226)),(keepIn · (.ref 233)),(keepIn · (.ref 238)),(keepIn · (.ref 243)),(keepIn · (.ref 250)),(keepIn · (.ref 255)),(keepIn · (.ref 260)),(keepIn · (.ref 265)),(keepIn · (.ref 272)),(keepIn · (.ref 279)),(keepIn · (.ref 286)),(keepIn · (.ref 293)),(keepIn · (.ref 298)),(keepIn · (.ref 303)),(keepIn · (.ref 310)),(keepIn · (.ref 317)),(keepIn · (.ref 322)),(keepIn · (.ref 327)),(keepIn · (.ref 332)),(keepIn · (.ref 337)),(keepIn · (.ref 342)),(zQ · "MOST_THINGS" 6),λK=>decide (tabIn K "_law_refusals_right" = some (336,334)),(sI · (.ref 37) (.ref 24) true),(sI · (.ref 49) (.ref 24) true),(sI · (.ref 61) (.ref 24) true),(sI · (.ref 73) (.ref 24) true),(sI · (.ref 85) (.ref 24) true),(sI · (.ref 97) (.ref 24) true),(sI · (.ref 109) (.ref 24) true),(sI · (.ref 121) (.ref 24) true),(sI · (.ref 133) (.ref 24) true),(sI · (.ref 145) (.ref 24) true),(sI · (.ref 157) (.ref 24) true),(kI · 37 37 true),(kI · 37 49 false),(kI · 37 61 false),(kI · 37 73 false),(kI · 37 85 false),(kI · 37 97 false),(kI · 37 109 false),(kI · 37 121 false),(kI · 37 133 false),(kI · 37 145 false),(kI · 37 157 false),(kI · 85 37 false),(kI · 85 49 false),(kI · 85 61 false),(kI · 85 73 false),(kI · 85 85 true),(kI · 85 97 false),(kI · 85 109 false),(kI · 85 121 false),(kI · 85 133 false),(kI · 85 145 false),(kI · 85 157 false),λK=>decide (findIn K (.ref 37) "__getattribute__" = some (some (.builtin "BaseException.__getattribute__"))),λK=>decide (findIn K (.ref 37) "__getattr__" = some none),λK=>decide (findIn K (.ref 37) "__class__" = some (some (.builtin "object.__class__"))),λK=>decide (mroIn K 37 (.type "object")=some true),(sI · (.ref 37) (.type "BaseException") true),λK=>decide (kitCls K (.ref 37) (.ref 37)=some true),(uV · 37),λK=>decide (findIn K (.ref 85) "__getattribute__" = some (some (.builtin "BaseException.__getattribute__"))),λK=>decide (findIn K (.ref 85) "__getattr__" = some none),λK=>decide (findIn K (.ref 85) "__class__" = some (some (.builtin "object.__class__"))),λK=>decide (mroIn K 85 (.type "object")=some true),(sI · (.ref 85) (.type "BaseException") true),λK=>decide (kitCls K (.ref 85) (.ref 85)=some true),(uV · 85),(excIn · 37 FK "ValueError.__new__"),(excIn · 85 FK "ValueError.__new__"),λK=>decide (kitOne K (.ref 37) (.type "ValueError")=some true),λK=>decide (kitOne K (.ref 85) (.type "ValueError")=some true),(sI · (.ref 24) (.type "BaseException") true),(sI · (.type "type") (.type "tuple") false),λK=>decide (kitCls K (.ref 24) (.ref 24)=some true)]
def zS (K:Frag):List (Option bq):=[cT K 166,cT K 173,cT K 178,cT K 185,cT K 190,cT K 197,cT K 202,cT K 207,cT K 212,cT K 219,cT K 226,cT K 233,cT K 238,cT K 243,cT K 250,cT K 255,cT K 260,cT K 265,cT K 272,cT K 279,cT K 286,cT K 293,cT K 298,cT K 303,cT K 310,cT K 317,cT K 322,cT K 327,cT K 332,cT K 337,cT K 342]
def zT:List (Option bq):=[fE aa 14 165,fE aa 15 172,fE aa 16 177,fE aa 19 184,fE aa 20 189,fE aa 21 196,fE aa 22 201,fE aa 23 206,fE aa 24 211,fE aa 25 218,fE aa 26 225,fE aa 27 232,fE aa 28 237,fE aa 29 242,fE aa 30 249,fE aa 31 254,fE aa 32 259,fE aa 33 264,fE aa 35 271,fE aa 36 278,fE aa 37 285,fE aa 38 292,fE aa 39 297,fE aa 40 302,fE aa 41 309,fE aa 42 316,fE aa 43 321,fE aa 44 326,fE aa 45 331,fE aa 46 336,fE aa 47 341]
def ob (K:Frag):Bool×List (Option bq):=(obF.all (λf=>f K),zS K)
abbrev obE:Bool×List (Option bq):=(true,zT)
theorem FL {α β γ:Type}{o:Option α}{f:α->β}{g:α->γ}{a:β}{b:γ}(h1:o.map f=some a) (h2:o.map g=some b):o.map (λs=>(f s,g s))=some (a,b):=by
 cases o with
 |none=>cases h1
 |some s=>cases h1;cases h2;rfl
theorem PD (w:cm):(openEnds treeTable aa w 8000).map (λs=>openSeen vw [] (importedModules (aa).main.body) Xw true s)=some (openGood vw []):=by rw[zR,Fast.te4187177175401517315];kernel_rfl
theorem PF (w:cm):(openEnds treeTable aa w 8000).map (λs=>obF.all (λf=>f (rR s.heap)))=some true:=by rw[zR];kernel_rfl
theorem PH (w:cm):(openEnds treeTable aa w 8000).map (λs=>zS (rR s.heap))=some zT:=by rw[zR];kernel_rfl
theorem left:LeftO aa vw [] Xw (λs=>ob (rR s.heap)) (λ_=>obE) 8000:=λw=>FL (PD w) (FL (PF w) (PH w))
end L2.Mr.K03
namespace L2
open PySem PySem.Spec PyProof.Rows
abbrev gY:=Sum Int Str
def FN:gY->af->Bool
 | .inl k,v=>Value.isInt k v
 | .inr x,v=>Value.isStrOf x v
def PJ (w:cm):gY->Int
 | .inl k=>hashInt k
 | .inr x=>hashStr w x
theorem lV:∀{k:gY}{v:af},FN k v=true->(∃i t,k=vp i/\v=Value.int i t)∨(∃x t,k=vq x/\v=Value.str x t)
 | .inl i,v,h=>by obtain⟨t,e⟩:=mr (k:=i) (v:=v) h;exact .inl ⟨i,t,rfl,e⟩
 | .inr x,v,h=>by obtain⟨t,e⟩:=Value.isStrOf_shape (x:=x) (v:=v) h;exact .inr ⟨x,t,rfl,e⟩
theorem PK (a b:Int):decide ((vp a:gY)=vp b)=(a==b):=by
 by_cases e:a=b
 ·subst e;simp
 ·have h:¬ (vp a:gY)=vp b:=λq=>e (Sum.inl.inj q);rw[decide_eq_false h];exact(beq_eq_false_iff_ne.mpr e).symm
theorem PL (a b:Str):decide ((vq a:gY)=vq b)=decide (a=b):=by
 by_cases e:a=b
 ·subst e;simp
 ·have h:¬ (vq a:gY)=vq b:=λq=>e (Sum.inr.inj q);rw[decide_eq_false h,decide_eq_false e]
theorem PM (a:Int) (b:Str):decide ((vp a:gY)=vq b)=false:=decide_eq_false (λq=>nomatch q)
theorem PN (a:Str) (b:Int):decide ((vq a:gY)=vp b)=false:=decide_eq_false (λq=>nomatch q)
def zU (prog:bj) (w:cm):PySem.KeyKind prog w gY where
 is:=FN
 hash:=PJ w
 inj:=λv a b ha hb=>by
  rcases lV ha with⟨i,t,rfl,rfl⟩|⟨x,t,rfl,rfl⟩
  ·rcases lV hb with⟨j,u,rfl,e⟩|⟨y,u,rfl,e⟩
   ·injection e with e1 _;rw[e1]
   ·exact nomatch e
  ·rcases lV hb with⟨j,u,rfl,e⟩|⟨y,u,rfl,e⟩
   ·exact nomatch e
   ·injection e with e1 _;rw[e1]
 byValue:=λk v h=>by rcases lV h with⟨i,t,rfl,rfl⟩|⟨x,t,rfl,rfl⟩ <;> rfl
 pyHash:=λhv h=>by
  rcases lV hv with⟨i,t,rfl,rfl⟩|⟨x,t,rfl,rfl⟩
  ·exact wpAny_pyHash_int h
  ·exact wpAny_pyHash_str h
 eqBool:=λhu hv h=>by
  rcases lV hu with⟨i,t,rfl,rfl⟩|⟨x,t,rfl,rfl⟩
  ·rcases lV hv with⟨j,u,rfl,rfl⟩|⟨y,u,rfl,rfl⟩
   ·rw[PK]at h;exact wpAny_eqBool_int h
   ·rw[PM]at h;exact tm i t y u _ _ _ _ h
  ·rcases lV hv with⟨j,u,rfl,rfl⟩|⟨y,u,rfl,rfl⟩
   ·rw[PN]at h;exact tq x t j u _ _ _ _ h
   ·rw[PL]at h;exact wpAny_eqBool_str h
 «strs»:=λk x t v h=>by
  rcases lV h with⟨i,u,rfl,e⟩|⟨y,u,rfl,e⟩
  ·exact nomatch e
  ·injection e with e1 _;subst e1
   cases v <;> rfl
inductive V where
 |non|bl (b:Bool)|int (i:Int)|str (x:Str)|byt (b:Array UInt8)|flt (b:UInt64)|ref (a:ah)|ty (n:String)
 deriving DecidableEq
def RelV:V->af->Prop
 | .non,u=>u=jm
 | .bl b,u=>u=Be b
 | .int i,u=>∃t,u=Value.int i t
 | .str x,u=>∃t,u=Value.str x t
 | .byt b,u=>∃t,u=Value.bytes b t
 | .flt b,u=>∃t,u=Value.float b t
 | .ref a,u=>u=ic a
 | .ty n,u=>u=Bf n
abbrev Vals:List V->List af->Prop:=Paired RelV
theorem Vals.length {xs:List V}{us:List af}(r:Vals xs us):xs.length=us.length:=Paired.length r
theorem Vals.get:∀{xs:List V}{us:List af}{i:Nat}{x:V},Vals xs us->xs[i]?=some x->∃u,us[i]?=some u/\RelV x u
 |_,_,_,_,.nil,e=>by simp at e
 |_,_,0,_,.cons r _,e=>by simp at e;subst e;exact⟨_,rfl,r⟩
 |_,_,i+1,x,.cons _ t,e=>by obtain⟨u,h1,h2⟩:=Vals.get (i:=i) (x:=x) t (by simpa using e);exact⟨u,by simpa using h1,h2⟩
theorem Vals.set {x:V}{u:af}(r:RelV x u):∀{xs:List V}{us:List af}(i:Nat),Vals xs us->Vals (xs.set i x) (us.set i u)
 |_,_,_,.nil=>.nil
 |_,_,0,.cons _ t=>.cons r t
 |_,_,i+1,.cons q t=>.cons q (Vals.set r i t)
theorem Vals.append:∀{xs ys:List V}{us ws:List af},Vals xs us->Vals ys ws->Vals (xs++ys) (us++ws)
 |_,_,_,_,.nil,s=>s
 |_,_,_,_,.cons r t,s=>.cons r (Vals.append t s)
theorem Vals.take:∀{xs:List V}{us:List af}(n:Nat),Vals xs us->Vals (xs.take n) (us.take n)
 |_,_,0,_=>.nil
 |_,_,_+1,.nil=>.nil
 |_,_,n+1,.cons r t=>.cons r (Vals.take n t)
theorem Vals.drop:∀{xs:List V}{us:List af}(n:Nat),Vals xs us->Vals (xs.drop n) (us.drop n)
 |_,_,0,r=>r
 |_,_,_+1,.nil=>.nil
 |_,_,n+1,.cons _ t=>Vals.drop n t
def FO:Option V->Option af->Prop
 |some v,some u=>RelV v u
 |none,none=>True
 |_,_=>False
def KV {κ:Type}:List (κ×V)->List (κ×af)->Prop:=Paired λ(p:κ×V) (q:κ×af)=>p.1=q.1/\RelV p.2 q.2
def kV:gY->V
 | .inl i=>.int i
 | .inr x=>.str x
inductive HO where
 |lst (xs:List V)
 |tup (xs:List V)
 |dK (kvs:List (gY×V))|dT (kvs:List (List gY×V))
 |set (S:Int->Bool) (n:Nat)
 |ins (C dx:ah) (fs:List (Str×V))
 |own (x:ah)
 |xd (fs:List (Str×V))
 |met (f x:ah)
 |rng (lo hi:Int)
 |frz (o:Obj) (u:HO)
 |tbl (ps:Array af)
 |ext (φ:cq->Prop)
abbrev Hp:=ah->Option HO
def aQ (H:Hp) (a:ah) (o:HO):Hp:=λb=>if b=a then some o else H b
theorem cS {H:Hp}{a:ah}{o:HO}:aQ H a o a=some o:=by unfold aQ;rw[if_pos rfl]
theorem bN {H:Hp}{a b:ah}{o:HO}(h:b≠a):aQ H a o b=H b:=by unfold aQ;rw[if_neg h]
theorem mX {H:Hp}{a b:ah}{o u:HO}(h:H a=some o) (h':H b=some u) (d:o≠u):a≠b:=by intro e;subst e;rw[h]at h';exact d (cf h')
theorem fH {H:Hp}{a b:ah}{o:HO}(h:H a=some o) (h':H b=none):a≠b:=by intro e;subst e;rw[h]at h';cases h'
def IsTupX (h:cq) (a:ah) (items:Array af):Prop:=∃o,h.get? a=some o/\o.cls=.type "tuple"/\o.dict=none/\∃n,o.data=.seq items n
theorem IsTupX.tup {h:cq}{a:ah}{items:Array af}(x:IsTupX h a items):IsTup h a items:=let ⟨o,e,c,_,d⟩:=x;⟨o,e,c,d⟩
theorem IsTupX.lt {h:cq}{a:ah}{items:Array af}(x:IsTupX h a items):a<h.objs.size:=let ⟨_,e,_⟩:=x;ar e
theorem IsTupX.new (h:cq) (items:Array af):IsTupX (h.push { cls:=.type "tuple",data:=.seq items }) h.objs.size items:=⟨_,bg _ rfl,rfl,rfl,_,rfl⟩
section
variable(P:bj) (w:cm)
def ObjOk (H:Hp) (h:cq) (a:ah):HO->Prop
 | .lst xs=>xs.length<=ck/\∃(its:List af) (n:Nat),Vals xs its/\h.get? a=some { cls:=.type "list",data:=.seq its.toArray n }
 | .tup xs=>xs.length<=ck/\∃its:List af,Vals xs its/\IsTupX h a its.toArray
 | .dK kvs=>kvs.length<=ck/\(a==sysModules)=false/\∃vs,KV kvs vs/\h.DictOf (zU P w) a vs
 | .dT kvs=>kvs.length<=ck/\(a==sysModules)=false/\∃xs:List (List gY×ah×af),
   Paired (λ(p:List gY×V) (q:List gY×ah×af)=>p.1=q.1/\H q.2.1=some (.tup (p.1.map kV))/\RelV p.2 q.2.2) kvs xs /\
   ∃o es ep,h.get? a=some o/\o.ExactDict/\o.data=.dict es ep/\es.toList=xs.map (entryOfKey (tupleKind (zU P w)))/\(xs.map (·.1)).Nodup
 | .set S n=>h.SetOf (intKind P w) a S n
 | .ins C dx fs=>H dx=some (.own a)/\fs.length<=1000/\dx≠a/\h.get? a=some (PySem.W.instObj C dx) /\
   ∃mA,h.Ns1 dx mA/\(∀f,FO (fs.lookup f) (mA f))/\PySem.Within mA (fs.map (·.1))
 | .own _=>∃o,h.get? a=some o
 | .xd fs=>∃mA,h.Ns1 a mA/\∀f,FO (fs.lookup f) (mA f)
 | .rng lo hi=>∃t u v,h.get? a=some { cls:=.type "range",data:=.fields #[.int lo t,.int hi u,.int 1 v] }
 | .frz o u=>h.get? a=some o/\ObjOk H h a u
 | .tbl ps=>h.get? a=some { cls:=.none,data:=.fields ps }
 | .met f x=>h.get? a=some (uk (.ref f) (.ref x))
 | .ext φ=>φ h/\(∃o,h.get? a=some o)/\∀h1 h2:cq,φ h1->(∀o,h1.get? a=some o->h2.get? a=some o)->φ h2
def HOk (H:Hp) (h:cq):Prop:=∀a o,H a=some o->ObjOk P w H h a o
end
section
variable{P:bj}{w:cm}{H H':Hp}{h h':cq}{a:ah}{o:HO}
theorem ObjOk.lt (x:ObjOk P w H h a o):a<h.objs.size:=by
 cases o with
 |lst xs=>obtain⟨_,_,_,_,e⟩:=x;exact ar e
 |tup xs=>obtain⟨_,_,_,p⟩:=x;exact p.lt
 |dK kvs=>obtain⟨_,_,_,_,o,_,_,e,_⟩:=x;exact ar e
 |dT kvs=>obtain⟨_,_,_,_,o,_,_,e,_⟩:=x;exact ar e
 |set S n=>obtain⟨o,_,_,_,e,_⟩:=x;exact ar e
 |ins C dx fs=>obtain⟨_,_,_,e,_⟩:=x;exact ar e
 |own y=>obtain⟨_,e⟩:=x;exact ar e
 |xd fs=>obtain⟨_,⟨_,_,_,e,_⟩,_⟩:=x;exact ar e
 |rng lo hi=>obtain⟨_,_,_,e⟩:=x;exact ar e
 |frz ob u=>obtain⟨e,_⟩:=x;exact ar e
 |tbl ps=>exact ar (show h.get? a=some _ from x)
 |met f y=>exact ar (show h.get? a=some _ from x)
 |ext φ=>obtain⟨_,⟨_,e⟩,_⟩:=x;exact ar e
theorem Paired.mapP {α β:Type}{F G:α->β->Prop}:∀{l₁:List α}{l₂:List β},Paired F l₁ l₂->(∀a b,F a b->G a b)->Paired G l₁ l₂
 |_,_,.nil,_=>.nil
 |_,_,.cons r t,f=>.cons (f _ _ r) (Paired.mapP t f)
theorem ObjOk.stay (x:ObjOk P w H h a o) (k:∀b u,(b=a∨H b=some (.own a))->h.get? b=some u->h'.get? b=some u)
  (ho:∀b,H b=some (.own a)->H' b=some (.own a)) (ht:∀b xs,H b=some (.tup xs)->H' b=some (.tup xs)):ObjOk P w H' h' a o:=by
 induction o with
 |lst xs=>obtain⟨z,its,n,r,e⟩:=x;exact⟨z,its,n,r,k _ _ (.inl rfl) e⟩
 |tup xs=>obtain⟨z,its,r,ob,e,c⟩:=x;exact⟨z,its,r,ob,k _ _ (.inl rfl) e,c⟩
 |dK kvs=>obtain⟨z,y,vs,r,ob,es,ep,e,c⟩:=x;exact⟨z,y,vs,r,ob,es,ep,k _ _ (.inl rfl) e,c⟩
 |dT kvs=>obtain⟨z,y,xs,r,ob,es,ep,e,c⟩:=x;exact⟨z,y,xs,Paired.mapP r λp q z=>⟨z.1,ht _ _ z.2.1,z.2.2⟩,ob,es,ep,k _ _ (.inl rfl) e,c⟩
 |set S n=>obtain⟨ob,es,ep,t,e,c⟩:=x;exact⟨ob,es,ep,t,k _ _ (.inl rfl) e,c⟩
 |ins C dx fs=>obtain⟨d,z,ne,e,mA,⟨od,es,ep,e2,c⟩,r⟩:=x;exact⟨ho _ d,z,ne,k _ _ (.inl rfl) e,mA,⟨od,es,ep,k _ _ (.inr d) e2,c⟩,r⟩
 |own y=>obtain⟨ob,e⟩:=x;exact⟨ob,k _ _ (.inl rfl) e⟩
 |xd fs=>obtain⟨mA,⟨od,es,ep,e,c⟩,r⟩:=x;exact⟨mA,⟨od,es,ep,k _ _ (.inl rfl) e,c⟩,r⟩
 |rng lo hi=>obtain⟨t,u,v,e⟩:=x;exact⟨t,u,v,k _ _ (.inl rfl) e⟩
 |frz ob u ih=>obtain⟨e,q⟩:=x;exact⟨k _ _ (.inl rfl) e,ih q⟩
 |tbl ps=>have e:h.get? a=some { cls:=.none,data:=.fields ps }:=x;show h'.get? a=some { cls:=.none,data:=.fields ps };exact k a _ (.inl rfl) e
 |met f y=>have e:h.get? a=some (uk (.ref f) (.ref y)):=x;show h'.get? a=some (uk (.ref f) (.ref y));exact k a _ (.inl rfl) e
 |ext φ=>obtain⟨p,⟨o,e⟩,st⟩:=x;exact⟨st _ _ p λo q=>k _ _ (.inl rfl) q,⟨o,k _ _ (.inl rfl) e⟩,st⟩
theorem HOk.lt (x:HOk P w H h) (e:H a=some o):a<h.objs.size:=(x a o e).lt
theorem HOk.fresh (x:HOk P w H h) (e:h.objs.size<=a):H a=none:=by
 cases q:H a with
 |none=>rfl
 |some u=>exact absurd (au (x.lt q) e) (gu _)
theorem HOk.kept (x:HOk P w H h) (k:∀b u,h.get? b=some u->h'.get? b=some u):HOk P w H h':=λa o e=>(x a o e).stay (λb u _ q=>k b u q) (λ_ q=>q) λ_ _ q=>q
theorem HOk.laid (x:HOk P w H h) (k:∀b u,h.get? b=some u->h'.get? b=some u) (hp:h.objs.size<=a) (new:ObjOk P w (aQ H a o) h' a o):HOk P w (aQ H a o) h':=λb u e=>by
 have hn:=x.fresh hp
 by_cases hb:b=a
 ·subst hb;rw[cS]at e;cases e;exact new
 ·rw[bN hb]at e;exact(x b u e).stay (λc v _ q=>k c v q) (λc q=>by rw[bN (fH q hn)];exact q) λc xs q=>by rw[bN (fH q hn)];exact q
end
def Rd (H:Hp) (a:ah) (u:HO):Prop:=H a=some u∨∃o,H a=some (.frz o u)
theorem Rd.ok {P:bj}{w:cm}{H:Hp}{h:cq}{a:ah}{u:HO}(r:Rd H a u) (x:HOk P w H h):ObjOk P w H h a u:=by
 rcases r with r|⟨o,r⟩
 ·exact x a u r
 ·obtain⟨_,q⟩:=x a _ r;exact q
def uW:Option HO->Prop
 |some (.lst _)=>True
 |some (.dK _)=>True
 |some (.dT _)=>True
 |some (.set _ _)=>True
 |some (.ins _ _ _)=>True
 |some (.ext _)=>True
 |_=>False
section
variable{P:bj}{w:cm}{H:Hp}{h h':cq}{x e:ah}{o':HO}
theorem HOk.write (ok:HOk P w H h) (mu:uW (H x)) (he:e=x∨H e=some (.own x)) (k:∀b u,b≠e->h.get? b=some u->h'.get? b=some u) (heo:∃u,h'.get? e=some u)
  (new:ObjOk P w (aQ H x o') h' x o'):HOk P w (aQ H x o') h':=λb u q=>by
 have nown:∀c y,H c=some (.own y)->c≠x:=λc y r z=>by subst z;rw[r]at mu;exact mu
 have ntup:∀c xs,H c=some (.tup xs)->c≠x:=λc xs r z=>by subst z;rw[r]at mu;exact mu
 by_cases hb:b=x
 ·subst hb;rw[cS]at q;cases q;exact new
 ·rw[bN hb]at q
  by_cases hbe:b=e
  ·have q':H b=some (.own x):=by
    rcases he with z|z
    ·exact absurd (hbe.trans z) hb
    ·rw[hbe];exact z
   rw[q]at q';cases q';obtain⟨v,hv⟩:=heo;exact⟨v,by rw[hbe];exact hv⟩
  ·refine(ok b u q).stay (λc v hc r=>k c v ?_ r) (λc r=>by rw[bN (nown c b r)];exact r) λc xs r=>by rw[bN (ntup c xs r)];exact r
   rcases hc with rfl|hc
   ·exact hbe
   ·rintro rfl
    rcases he with z|z
    ·exact nown c b hc z
    ·rw[hc]at z;cases z;exact hb rfl
end
structure Un (fs ex:List ah) (H H':Hp) (h h':cq):Prop where
 keep:∀b o,h.get? b=some o->H b=none->b∉fs->b∉ex->h'.get? b=some o
 slot:∀b o,h.get? b=some o->H b=none->b∈fs->b∉ex->∃sl,h'.get? b=some { o with slots:=sl }
 free:∀b o,h.get? b=some o->H b=none->b∉ex->H' b=none
 there:∀b o,h.get? b=some o->b∉ex->∃o',h'.get? b=some o'
 tups:∀b xs,H b=some (.tup xs)->H' b=some (.tup xs)
 frzs:∀b o u,H b=some (.frz o u)->H' b=some (.frz o u)
 tbls:∀b ps,H b=some (.tbl ps)->∃more,H' b=some (.tbl (ps++more))
section
variable{fs fs' ex ex':List ah}{H H1 H2:Hp}{h h1 h2 h':cq}{a x e:ah}{o:HO}
theorem Un.any (u:Un fs ex H H1 h h1) {b:ah}{ob:Obj}(q:h.get? b=some ob) (n:H b=none) (hx:b∉ex):∃sl,h1.get? b=some { ob with slots:=sl }:=by
 by_cases hb:b∈fs
 ·exact u.slot b ob q n hb hx
 ·exact⟨ob.slots,u.keep b ob q n hb hx⟩
theorem Un.kept (k:∀b u,h.get? b=some u->h'.get? b=some u):Un fs ex H H h h':=⟨λb ob q _ _ _=>k b ob q,λb ob q _ _ _=>⟨ob.slots,k b ob q⟩,λ_ _ _ n _=>n,λb ob q _=>⟨ob,k b ob q⟩,λ_ _ q=>q,λ_ _ _ q=>q,λ_ ps q=>⟨#[],by rw[q];simp⟩⟩
theorem Un.refl:Un fs ex H H h h:=Un.kept λ_ _ q=>q
theorem Un.laid (k:∀b u,h.get? b=some u->h'.get? b=some u) (hp:h.objs.size<=a) (hn:H a=none):Un fs ex H (aQ H a o) h h' where
 keep:=λb u q _ _ _=>k b u q
 slot:=λb u q _ _ _=>⟨u.slots,k b u q⟩
 free:=λb u q n _=>by rw[bN (ay (au (ar q) hp))];exact n
 there:=λb u q _=>⟨u,k b u q⟩
 tups:=λb xs q=>by rw[bN (fH q hn)];exact q
 frzs:=λb u xs q=>by rw[bN (fH q hn)];exact q
 tbls:=λb ps q=>⟨#[],by rw[bN (fH q hn),q];simp⟩
theorem Un.write (mu:uW (H x)) (he:e=x∨H e=some (.own x)) (k:∀b u,b≠e->h.get? b=some u->h'.get? b=some u) (heo:∃u,h'.get? e=some u):Un fs ex H (aQ H x o) h h':=by
 have hx:∀b,H b=none->b≠x:=λb n z=>by subst z;rw[n]at mu;exact mu
 have hb:∀b,H b=none->b≠e:=λb n z=>by
  subst z
  rcases he with r|r
  ·exact hx b n r
  ·rw[n]at r;cases r
 have hm:∀b u,H b=some u->¬ uW (some u)->b≠x:=λb u q nm z=>by subst z;rw[q]at mu;exact nm mu
 refine⟨λb u q n _ _=>k b u (hb b n) q,λb u q n _ _=>⟨u.slots,k b u (hb b n) q⟩,λb u q n _=>by rw[bN (hx b n)];exact n,λb u q _=>?_,
  λb xs q=>by rw[bN (hm b _ q λz=>z)];exact q,λb u xs q=>by rw[bN (hm b _ q λz=>z)];exact q,λb ps q=>⟨#[],by rw[bN (hm b _ q λz=>z),q];simp⟩⟩
 by_cases hbe:b=e
 ·subst hbe;exact heo
 ·exact⟨u,k b u hbe q⟩
end
def uX (h:cq) (H:Hp):List ah:=(ba h.objs.size).filter λa=>(H a).isSome
def jZ (h:cq) (H:Hp):cq:=PySem.W.hideAll h (uX h H)
theorem PQ (h:cq) (H:Hp):(jZ h H).objs.size=h.objs.size:=Ab _ _
theorem PR {h:cq}{H:Hp}{b:ah}{o:Obj}(e:h.get? b=some o) (n:H b=none):(jZ h H).get? b=some o:=Af _ e λhm=>by have q:(H b).isSome=true:=(iq.mp hm).2;rw[n]at q;simp at q
theorem PU {h:cq}{H:Hp}{b:ah}{o:Obj}(e:(jZ h H).get? b=some o):h.get? b=some o/\H b=none:=by
 have e':h.get? b=some o:=Am (uX h H) e;refine⟨e', ?_⟩
 cases q:H b with
 |none=>rfl
 |some x=>have hm:b∈uX h H:=iq.mpr ⟨bw.mpr (ar e'),by simp[q]⟩;have z:(jZ h H).get? b=none:=Ac (uX h H) hm;rw[z]at e;cases e
structure Mod (K:aq) (mg:Str->Option af) (base:cq):Prop where
 kin:K.In base
 glob:base.Ns da mg
 blt:∃mb,base.Ns builtinsNs mb/\∀x:Str,x ≠ "__name__"->mb x=dv x
 nolimit:base.NoLimit
structure Cx where
 prog:bj
 w:cm
 K:aq
 mg:Str->Option af
 base:cq
 A:cj
 N:List Str
 s₀:ag
 H₀:Hp
 env:Env
 outer:List Env
 stack:List Env
 ex:List ah
 fn:Str->Bool
 calm:Bool
 pn:List (ah×Obj)
 xe:af->ag->Prop
def dH (l:List Env):List ah:=l.filterMap (·.frame)
abbrev Cx.fs (X:Cx):List ah:=dH X.outer
def lW (sc:fq) (x:Str):Prop:=sc.names.lookup x=some .local∨sc.names.lookup x=some .cell∨sc.names.lookup x=some .free
def kT (sc:fq) (x:Str):Prop:=sc.names.lookup x=some .local∨sc.names.lookup x=some .cell
def FP (env:Env) (h:cq) (m:Str->Option af) (x:Str) (u:af):Prop:=(env.kindOf x=some .local/\m x=some u)∨((env.kindOf x=some .cell∨env.kindOf x=some .free)/\∃c,env.cells.lookup x=some c/\h.IsCell c (some u))
structure Cx.Ok (X:Cx):Prop where
 mod:Mod X.K X.mg X.base
 kind:X.env.scope.kind=.function
 glob:X.env.globals=da
 blt:X.env.builtins=builtinsNs
 above:X.s₀.heap.objs.size<=X.env.locals
 inj:∀x y c,X.env.cells.lookup x=some c->X.env.cells.lookup y=some c->x=y
 has:∀x,(X.env.kindOf x=some .cell∨X.env.kindOf x=some .free)->∃c,X.env.cells.lookup x=some c
 cab:∀x c,X.fn x=true->X.env.cells.lookup x=some c->X.s₀.heap.objs.size<=c
 hd:X.calm=true->X.A.handled=none
 frames:X.A.frames=some X.stack
 stk:X.stack=X.outer∨(X.stack=X.env::X.outer/\X.env.frame=some X.env.locals)
 exf:∀b∈X.ex,b≠X.env.locals/\∀x c,X.env.cells.lookup x=some c->c≠b
 bs:∀b o,X.base.get? b=some o->X.s₀.heap.get? b=some o/\X.H₀ b=none
 bsz:X.base.objs.size<=X.s₀.heap.objs.size
 noex:∀b o,X.base.get? b=some o->b∉X.ex
 exfs:∀b∈X.ex,b∉X.fs
 funs:X.s₀.heap.FunFrames X.base X.outer
 frf:∀b∈X.fs,X.H₀ b=none
structure Inv (X:Cx) (pins:List (ah×Obj)) (σ:List (Option V)) (H:Hp) (s:ag):Prop where
 ok:X.Ok
 os:s.os=X.s₀.os
 bare:rz s.gens
 base:Un X.fs X.ex X.H₀ H X.s₀.heap s.heap
 loc:∃m,s.heap.Ns X.env.locals m/\∀(i:Nat) (x:Str) (v:V),X.N[i]?=some x->σ[i]?=some (some v)->lW X.env.scope x->∃u,RelV v u/\FP X.env s.heap m x u
 cell:∀x c,X.env.cells.lookup x=some c->∃v,s.heap.IsCell c v
 free:H X.env.locals=none
 freeC:∀x c,X.env.cells.lookup x=some c->H c=none
 pin:∀p∈X.pn++pins,s.heap.get? p.1=some p.2/\H p.1=none/\p.1≠X.env.locals/\p.1∉X.fs/\∀v,p.2.data≠.cell v
 hok:HOk X.prog X.w H s.heap
 len:σ.length=X.N.length
section
variable{X:Cx}{pins:List (ah×Obj)}{σ:List (Option V)}{H H':Hp}{s:ag}{h':cq}
theorem Cx.Ok.nofr (ok:X.Ok) {b:ah}{o:Obj}(e:X.base.get? b=some o):b∉X.fs:=λhb=>by have:=(ok.funs.mem hb).1;rw[e]at this;cases this
theorem Inv.bs (I:Inv X pins σ H s):∀b o,X.base.get? b=some o->s.heap.get? b=some o/\H b=none:=λb o e=>⟨I.base.keep b o (I.ok.bs b o e).1 (I.ok.bs b o e).2 (I.ok.nofr e) (I.ok.noex b o e),I.base.free b o (I.ok.bs b o e).1 (I.ok.bs b o e).2 (I.ok.noex b o e)⟩
theorem Inv.bk (I:Inv X pins σ H s):∀b o,X.base.get? b=some o->s.heap.get? b=some o:=λb o e=>(I.bs b o e).1
theorem Inv.mod (I:Inv X pins σ H s):Mod X.K X.mg X.base:=I.ok.mod
theorem Inv.kIn (I:Inv X pins σ H s):X.K.In s.heap:=I.ok.mod.kin.keeps I.bk
theorem Inv.lt (I:Inv X pins σ H s):X.env.locals<s.heap.objs.size:=let ⟨_,hn,_⟩:=I.loc;hn.lt
theorem Inv.sz (I:Inv X pins σ H s):X.s₀.heap.objs.size<=s.heap.objs.size:=cu I.ok.above (gh I.lt)
theorem Inv.nofs (I:Inv X pins σ H s) {a:ah}(h:s.heap.objs.size<=a):a∉X.fs:=λhb=>by obtain⟨_,o,ho,_⟩:=I.ok.funs.mem hb;exact absurd (au (ar ho) (cu I.sz h)) (gu _)
theorem Inv.cne (I:Inv X pins σ H s):∀x c,X.env.cells.lookup x=some c->c≠X.env.locals:=λx c e z=>by obtain⟨v,o,ho,hd⟩:=I.cell x c e;obtain⟨m,⟨o',es,ep,ho',hd',_⟩,_⟩:=I.loc;rw[z,ho']at ho;cases ho;rw[hd']at hd;cases hd
theorem Inv.funs (I:Inv X pins σ H s):s.heap.FunFrames X.base X.outer:=by
 have all:∀(l:List Env),(∀b∈dH l,b∈X.fs)->X.s₀.heap.FunFrames X.base l->s.heap.FunFrames X.base l:=by
  intro l
  induction l with
  |nil=>intro _ _;trivial
  |cons env r ih=>intro hs hl;obtain⟨hk,⟨L,o,hf,hn,ho,hd⟩,hr⟩:=hl;have hL:L∈X.fs:=hs L (by unfold dH;rw[bu,hf];exact bo);obtain⟨sl,e⟩:=I.base.slot L o ho (I.ok.frf L hL) hL λz=>I.ok.exfs L z hL;exact⟨hk,⟨L,_,hf,hn,e,hd⟩,ih (λb hb=>hs b (by unfold dH;rw[bu,hf];exact ax _ hb)) hr⟩
 exact all X.outer (λ_ hb=>hb) I.ok.funs
theorem Inv.stack (I:Inv X pins σ H s):s.heap.FunFrames X.base X.stack:=by
 rcases I.ok.stk with e|⟨e,hf⟩
 ·rw[e];exact I.funs
 ·rw[e];obtain⟨m,hn,_⟩:=I.loc;refine .cons (by rw[I.ok.kind];decide) hf hn ?_ I.funs;exact Heap.get?_none_of_le (cu I.ok.bsz I.ok.above)
theorem Inv.stkSub (I:Inv X pins σ H s):∀b∈dH X.stack,b∈X.env.locals::X.fs:=λb hb=>by
 rcases I.ok.stk with e|⟨e,hf⟩
 ·rw[e]at hb;exact ax _ hb
 ·rw[e]at hb;unfold dH at hb;rw[bu,hf]at hb;exact hb
theorem Inv.stkFree (I:Inv X pins σ H s):∀b∈dH X.stack,H b=none:=λb hb=>by
 rcases bf.mp (I.stkSub b hb)with e|hb
 ·rw[e];exact I.free
 ·obtain⟨_,o,ho,_⟩:=I.ok.funs.mem hb;exact I.base.free b o ho (I.ok.frf b hb) λz=>I.ok.exfs b z hb
theorem Inv.step {g':Array GenState}{t':Nat}{d':Drawn}{ch:List ah}(I:Inv X pins σ H s)
  (hch:∀b∈ch,(b∈X.ex∨X.s₀.heap.objs.size<=b)/\b≠X.env.locals/\(∀x c,X.env.cells.lookup x=some c->c≠b)/\∀p∈X.pn++pins,p.1≠b)
  (keep:∀b o,b≠X.env.locals->b∉X.fs->b∉ch->s.heap.get? b=some o->H b=none->h'.get? b=some o)
  (slot:∀b o,b≠X.env.locals->b∈X.fs->b∉ch->s.heap.get? b=some o->H b=none->∃sl,h'.get? b=some { o with slots:=sl }) (free:∀b o,b∉ch->s.heap.get? b=some o->H b=none->H' b=none)
  (there:∀b o,b∉ch->s.heap.get? b=some o->∃o',h'.get? b=some o')
  (tups:∀b xs,H b=some (.tup xs)->H' b=some (.tup xs)) (frzs:∀b o u,H b=some (.frz o u)->H' b=some (.frz o u)) (tbls:∀b ps,H b=some (.tbl ps)->∃more,H' b=some (.tbl (ps++more)))
  (ns:∀m,s.heap.Ns X.env.locals m->h'.Ns X.env.locals m) (hok:HOk X.prog X.w H' h') (hg:rz g'):
  Inv X pins σ H' { s with heap:=h',gens:=g',drawn:=d',toks:=t' }:=by
 have neL:∀b o,X.s₀.heap.get? b=some o->b≠X.env.locals:=λb o e=>ay (au (ar e) I.ok.above);have neC:∀b o,X.s₀.heap.get? b=some o->b∉X.ex->b∉ch:=λb o e hx hb=>by
  rcases(hch b hb).1 with z|z
  ·exact hx z
  ·exact absurd (au (ar e) z) (gu _)
 have cellK:∀x c,X.env.cells.lookup x=some c->∀v,s.heap.IsCell c v->h'.IsCell c v:=λx c e v ⟨o,ho,hd⟩=>by
  have nch:c∉ch:=λz=>(hch c z).2.2.1 x c e rfl
  by_cases hc:c∈X.fs
  ·obtain⟨sl,q⟩:=slot c o (I.cne x c e) hc nch ho (I.freeC x c e);exact⟨_,q,hd⟩
  ·exact⟨o,keep c o (I.cne x c e) hc nch ho (I.freeC x c e),hd⟩
 refine⟨I.ok,I.os,hg,⟨λb o e n hb hx=>?_,λb o e n hb hx=>?_,λb o e n hx=>?_,λb o e hx=>?_,λb xs e=>tups b xs (I.base.tups b xs e),λb o xs e=>frzs b o xs (I.base.frzs b o xs e),λb ps e=>?_⟩, ?_,λx c e=>?_, ?_,λx c e=>?_,λp hp=>?_,hok,I.len⟩
 ·exact keep b o (neL b o e) hb (neC b o e hx) (I.base.keep b o e n hb hx) (I.base.free b o e n hx)
 ·obtain⟨sl,e1⟩:=I.base.slot b o e n hb hx;obtain⟨sl',e2⟩:=slot b _ (neL b o e) hb (neC b o e hx) e1 (I.base.free b o e n hx);exact⟨sl',e2⟩
 ·obtain⟨o',e1⟩:=I.base.there b o e hx;exact free b o' (neC b o e hx) e1 (I.base.free b o e n hx)
 ·obtain⟨o',e1⟩:=I.base.there b o e hx;exact there b o' (neC b o e hx) e1
 ·obtain⟨m1,e1⟩:=I.base.tbls b ps e;obtain⟨m2,e2⟩:=tbls b _ e1;exact⟨m1++m2,by rw[e2,Array.append_assoc]⟩
 ·obtain⟨m,hn,hl⟩:=I.loc;refine⟨m,ns m hn,λi x v e1 e2 e3=>?_⟩;obtain⟨u,r,l⟩:=hl i x v e1 e2 e3;refine⟨u,r, ?_⟩
  rcases l with l|⟨k,c,e,z⟩
  ·exact .inl l
  ·exact .inr ⟨k,c,e,cellK x c e _ z⟩
 ·obtain⟨v,z⟩:=I.cell x c e;exact⟨v,cellK x c e v z⟩
 ·obtain⟨m,⟨o,_,_,ho,_⟩,_⟩:=I.loc;exact free _ o (λz=>(hch _ z).2.1 rfl) ho I.free
 ·obtain⟨v,o,ho,hd⟩:=I.cell x c e;exact free c o (λz=>(hch c z).2.2.1 x c e rfl) ho (I.freeC x c e)
 ·obtain⟨e,n,ne,nf,d⟩:=I.pin p hp;have nch:p.1∉ch:=λz=>(hch p.1 z).2.2.2 p hp rfl;exact⟨keep p.1 p.2 ne nf nch e n,free p.1 p.2 nch e n,ne,nf,d⟩
theorem Inv.un {t':Nat}(I:Inv X pins σ H s) (u:Un X.fs [] H H' s.heap h') (hok:HOk X.prog X.w H' h'):Inv X pins σ H' { s with heap:=h',toks:=t' }:=by obtain⟨m,⟨o,es,ep,ho,r⟩,_⟩:=id I.loc;obtain⟨sl,hL⟩:=u.any ho I.free (by simp);exact I.step (g':=s.gens) (d':=s.drawn) (ch:=[]) (λ_ z=>nomatch z) (λb o _ hb _ e n=>u.keep b o e n hb (by simp)) (λb o _ hb _ e n=>u.slot b o e n hb (by simp)) (λb o _ e n=>u.free b o e n (by simp)) (λb o _ e=>u.there b o e (by simp)) u.tups u.frzs u.tbls (λm' hm=>by obtain⟨o',es',ep',ho',r'⟩:=hm;rw[ho]at ho';cases ho';exact⟨_,es',ep',hL,r'⟩) hok I.bare
theorem Inv.call {g':Array GenState}{t':Nat}{d':Drawn}{ch:List ah}(I:Inv X pins σ H s) (u:Un (dH X.stack) ch H H' s.heap h') (hok:HOk X.prog X.w H' h') (hg:rz g')
  (hch:∀b∈ch,(b∈X.ex∨X.s₀.heap.objs.size<=b)/\b≠X.env.locals/\(∀x c,X.env.cells.lookup x=some c->c≠b)/\∀p∈X.pn++pins,p.1≠b):
  Inv X pins σ H' { s with heap:=h',gens:=g',drawn:=d',toks:=t' }:=by
 obtain⟨m,⟨o,es,ep,ho,r⟩,_⟩:=id I.loc;obtain⟨sl,hL⟩:=u.any ho I.free λz=>(hch _ z).2.1 rfl;exact I.step (ch:=ch) hch (λb o hL hb hc e n=>u.keep b o e n (λz=>(bf.mp (I.stkSub b z)).elim hL hb) hc) (λb o _ _ hc e n=>u.any e n hc) (λb o hc e n=>u.free b o e n hc) (λb o hc e=>u.there b o e hc) u.tups u.frzs u.tbls (λm' hm=>by obtain⟨o',es',ep',ho',r'⟩:=hm;rw[ho]at ho';cases ho';exact⟨_,es',ep',hL,r'⟩) hok hg
theorem Inv.turned {t':Nat}{it:ah}(I:Inv X pins σ H s) (k:∀b o,b≠it->s.heap.get? b=some o->h'.get? b=some o) (hn:H it=none) (hL:it≠X.env.locals)
  (h1:it∈X.ex∨X.s₀.heap.objs.size<=it) (h2:∀x c,X.env.cells.lookup x=some c->c≠it) (h3:∀p∈X.pn++pins,p.1≠it):Inv X pins σ H { s with heap:=h',toks:=t' }:=by
 have nit:∀b u,H b=some u->b≠it:=λb u e z=>by rw[z,hn]at e;cases e
 refine I.step (g':=s.gens) (d':=s.drawn) (ch:=[it]) (λb hb=>?_) (λb o _ _ hc e _=>k b o (λz=>hc (by simp[z])) e) (λb o _ _ hc e _=>⟨o.slots,k b o (λz=>hc (by simp[z])) e⟩) (λ_ _ _ _ n=>n)
  (λb o hc e=>⟨o,k b o (λz=>hc (by simp[z])) e⟩) (λ_ _ e=>e) (λ_ _ _ e=>e) (λb ps e=>⟨#[],by rw[e];simp⟩) (λm hm=>?_) (λb u e=>?_) I.bare
 ·have e:b=it:=by simpa using hb
  subst e;exact⟨h1,hL,h2,h3⟩
 ·obtain⟨o,es,ep,ho,r⟩:=hm;exact⟨o,es,ep,k _ o (cw hL) ho,r⟩
 ·refine(I.hok b u e).stay (λc v hc q=>k c v ?_ q) (λ_ q=>q) λ_ _ q=>q
  rcases hc with z|z
  ·rw[z];exact nit b u e
  ·exact nit c _ z
theorem Inv.tok (I:Inv X pins σ H s) (t:Nat):Inv X pins σ H { s with toks:=t }:=I.un (h':=s.heap) (t':=t) Un.refl I.hok
theorem Inv.kept {t':Nat}(I:Inv X pins σ H s) (k:∀b u,s.heap.get? b=some u->h'.get? b=some u):Inv X pins σ H { s with heap:=h',toks:=t' }:=I.un (Un.kept k) (I.hok.kept k)
theorem Inv.laid {a:ah}{o:HO}{t':Nat}(I:Inv X pins σ H s) (k:∀b u,s.heap.get? b=some u->h'.get? b=some u) (hp:s.heap.objs.size<=a) (new:ObjOk X.prog X.w (aQ H a o) h' a o):
  Inv X pins σ (aQ H a o) { s with heap:=h',toks:=t' }:=I.un (Un.laid k hp (I.hok.fresh hp)) (I.hok.laid k hp new)
theorem Inv.write {x e:ah}{o:HO}{t':Nat}(I:Inv X pins σ H s) (mu:uW (H x)) (he:e=x∨H e=some (.own x)) (k:∀b u,b≠e->s.heap.get? b=some u->h'.get? b=some u) (heo:∃u,h'.get? e=some u)
  (new:ObjOk X.prog X.w (aQ H x o) h' x o):Inv X pins σ (aQ H x o) { s with heap:=h',toks:=t' }:=I.un (Un.write mu he k heo) (I.hok.write mu he k heo new)
theorem Inv.pins_of {pins':List (ah×Obj)}(I:Inv X pins σ H s) (h:∀p∈pins',s.heap.get? p.1=some p.2/\H p.1=none/\p.1≠X.env.locals/\p.1∉X.fs/\∀v,p.2.data≠.cell v):Inv X pins' σ H s:=⟨I.ok,I.os,I.bare,I.base,I.loc,I.cell,I.free,I.freeC,λp hp=>(dy.mp hp).elim (λz=>I.pin p (jr _ z)) (h p),I.hok,I.len⟩
theorem zV {N:List Str}(hN:N.Nodup) {i j:Nat}{x:Str}(a:N[i]?=some x) (b:N[j]?=some x):i=j:=by obtain⟨h1,e1⟩:=bc.mp a;obtain⟨h2,e2⟩:=bc.mp b;exact(List.getElem_inj hN).mp (e1.trans e2.symm)
theorem FQ {M:zo}{A:cj}{E:af->ag->Prop}{i:Nat}{x:Str}{v:V}{u:af}{Q:Unit->ag->Prop}(I:Inv X pins σ H s) (hN:X.N.Nodup) (hi:X.N[i]?=some x) (hx:kT X.env.scope x) (r:RelV v u)
  (h:∀s',Inv X pins (σ.set i (some v)) H s'->(∃a,ik a s.heap s'.heap/\(a=X.env.locals∨X.env.cells.lookup x=some a))->Q () s') (hf:X.fn x=true∨X.env.scope.names.lookup x=some .local:=by first|exact .inl rfl|exact .inr rfl|assumption):wpAny M A (storeName X.env x u) Q E s:=by
 obtain⟨m,hn,hl⟩:=id I.loc;have hcls:(X.env.scope.kind==.class||(X.env.scope.kind==.module&&X.env.locals != X.env.globals))=false:=by rw[I.ok.kind];rfl
 have hiσ:i<σ.length:=by rw[I.len];exact(bc.mp hi).1
 have cne:=I.cne;have tracked:∀{a:ah}{h':cq},(∃o,s.heap.get? a=some o/\H a=none)->ik a s.heap h'->HOk X.prog X.w H h':=λ{a h'} ha hs b ob e=>by
  obtain⟨_,_,hfree⟩:=ha;refine(I.hok b ob e).stay (λc w' hc q=>(hs.2 c ?_).trans q) (λ_ q=>q) λ_ _ q=>q
  rintro rfl
  rcases hc with rfl|hc
  ·rw[hfree]at e;cases e
  ·rw[hfree]at hc;cases hc
 rcases hx with hk|hk
 ·refine wpAny_storeName_local hk hn (λh' hn' hs=>?_) hcls;obtain⟨oL,_,_,hoL,_⟩:=id hn;refine h _ ⟨I.ok,I.os,I.bare,⟨λb o e n hb hx=>?_,λb o e n hb hx=>?_,I.base.free,λb o e hx=>?_,I.base.tups,I.base.frzs,I.base.tbls⟩,⟨_,hn',λj y v' e1 e2 e3=>?_⟩,λy c e=>?_,I.free,I.freeC,λp hp=>?_,tracked ⟨oL,hoL,I.free⟩ hs,by simpa using I.len⟩ ⟨_,hs,.inl rfl⟩
  ·exact(hs.2 b (ay (au (ar e) I.ok.above))).trans (I.base.keep b o e n hb hx)
  ·obtain⟨sl,e1⟩:=I.base.slot b o e n hb hx;exact⟨sl,(hs.2 b (ay (au (ar e) I.ok.above))).trans e1⟩
  ·obtain⟨o',e1⟩:=I.base.there b o e hx;exact⟨o',(hs.2 b (ay (au (ar e) I.ok.above))).trans e1⟩
  ·by_cases hj:j=i
   ·subst hj;rw[hi]at e1;cases e1;rw[cz hiσ]at e2;cases e2;exact⟨u,r,.inl ⟨hk,by simp⟩⟩
   ·rw[dw (cw hj)]at e2;obtain⟨u',r',q⟩:=hl j y v' e1 e2 e3;refine⟨u',r', ?_⟩
    rcases q with⟨k,e⟩|⟨k,c,e,z⟩
    ·refine .inl ⟨k, ?_⟩;have:y≠x:=λe=>hj (zV hN e1 (e▸hi));simp[this,e]
    ·exact .inr ⟨k,c,e,z.sameBut hs (cne y c e)⟩
  ·obtain⟨w',z⟩:=I.cell y c e;exact⟨w',z.sameBut hs (cne y c e)⟩
  ·obtain⟨e,n,ne,nf,d⟩:=I.pin p hp;exact⟨(hs.2 p.1 ne).trans e,n,ne,nf,d⟩
 ·have hfn:X.fn x=true:=by
   rcases hf with z|z
   ·exact z
   ·rw[z]at hk;cases hk
  obtain⟨c,hc⟩:=I.ok.has x (.inl hk);obtain⟨w',z⟩:=I.cell x c hc;refine wpAny_storeName_cell I.ok.kind hk hc z (λh' hc' hs=>?_);obtain⟨oc,hoc,hocd⟩:=id z;refine h { s with heap:=h' } ⟨I.ok,I.os,I.bare,⟨λb o e n hb hx=>?_,λb o e n hb hx=>?_,I.base.free,λb o e hx=>?_,I.base.tups,I.base.frzs,I.base.tbls⟩,⟨m,hn.sameBut hs (cw (cne x c hc)),λj y v' e1 e2 e3=>?_⟩,λy c' e=>?_,I.free,I.freeC,λp hp=>?_,tracked ⟨oc,hoc,I.freeC x c hc⟩ hs,by simpa using I.len⟩ ⟨c,hs,.inr hc⟩
  ·exact(hs.2 b (ay (au (ar e) (I.ok.cab x c hfn hc)))).trans (I.base.keep b o e n hb hx)
  ·obtain⟨sl,e1⟩:=I.base.slot b o e n hb hx;exact⟨sl,(hs.2 b (ay (au (ar e) (I.ok.cab x c hfn hc)))).trans e1⟩
  ·obtain⟨o',e1⟩:=I.base.there b o e hx;exact⟨o',(hs.2 b (ay (au (ar e) (I.ok.cab x c hfn hc)))).trans e1⟩
  ·by_cases hj:j=i
   ·subst hj;rw[hi]at e1;cases e1;rw[cz hiσ]at e2;cases e2;exact⟨u,r,.inr ⟨.inl hk,c,hc,hc'⟩⟩
   ·rw[dw (cw hj)]at e2;obtain⟨u',r',q⟩:=hl j y v' e1 e2 e3;refine⟨u',r', ?_⟩
    rcases q with q|⟨k,c',e,z'⟩
    ·exact .inl q
    ·refine .inr ⟨k,c',e,z'.sameBut hs ?_⟩
     rintro rfl
     exact hj (zV hN e1 (I.ok.inj _ _ _ e hc▸hi))
  ·by_cases hcc:c'=c
   ·subst hcc;exact⟨_,hc'⟩
   ·obtain⟨w2,z2⟩:=I.cell y c' e;exact⟨w2,z2.sameBut hs hcc⟩
  ·obtain⟨e,n,ne,nf,d⟩:=I.pin p hp;refine⟨(hs.2 p.1 ?_).trans e,n,ne,nf,d⟩;intro q;rw[q,hoc]at e;have q':oc=p.2:=cf e;exact d w' (by rw[<-q'];exact hocd)
theorem zW {M:zo}{A:cj}{E:af->ag->Prop}{i:Nat}{x:Str}{v:V}{u:af}{Q:Unit->ag->Prop}(I:Inv X pins σ H s) (hN:X.N.Nodup) (hi:X.N[i]?=some x) (hx:kT X.env.scope x) (r:RelV v u)
  (h:∀s',Inv X pins (σ.set i (some v)) H s'->Q () s') (hf:X.fn x=true∨X.env.scope.names.lookup x=some .local:=by first|exact .inl rfl|exact .inr rfl|assumption):wpAny M A (storeName X.env x u) Q E s:=
 FQ I hN hi hx r (λs' I' _=>h s' I') hf
theorem Inv.call' {s':ag}{ch:List ah}(I:Inv X pins σ H s) (ho:s'.os=s.os) (u:Un (dH X.stack) ch H H' s.heap s'.heap) (hok:HOk X.prog X.w H' s'.heap) (hg:rz s'.gens)
  (hch:∀b∈ch,(b∈X.ex∨X.s₀.heap.objs.size<=b)/\b≠X.env.locals/\(∀x c,X.env.cells.lookup x=some c->c≠b)/\∀p∈X.pn++pins,p.1≠b):Inv X pins σ H' s':=by
 obtain⟨h',g',d',t',o'⟩:=s';have e:o'=s.os:=ho;subst e;exact I.call (g':=g') (t':=t') (d':=d') u hok hg hch
end
abbrev XK:=af->Option ah->Hp->Prop
abbrev St:=List (Option V)
abbrev VK:=V->Hp->Prop
abbrev TE:=St->Hp->VK->Prop
abbrev TT:=St->Hp->(Bool->Hp->Prop)->Prop
abbrev TA:=St->Hp->(List V->Hp->Prop)->Prop
structure Ends where
 nx:St->Hp->Prop
 rt:VK
 bk:St->Hp->Prop:=λ_ _=>False
 ct:St->Hp->Prop:=λ_ _=>False
abbrev TS:=Ends->St->Hp->Prop
def EP (X:Cx) (pins:List (ah×Obj)) (σ:St) (Q:VK) (u:af) (s':ag):Prop:=∃v H',Inv X pins σ H' s'/\RelV v u/\Q v H'
def TP (X:Cx) (pins:List (ah×Obj)) (σ:St) (Q:Bool->Hp->Prop) (b:Bool) (s':ag):Prop:=∃H',Inv X pins σ H' s'/\Q b H'
def AP (X:Cx) (pins:List (ah×Obj)) (σ:St) (Q:List V->Hp->Prop) (us:List af) (s':ag):Prop:=∃vs H',Inv X pins σ H' s'/\Vals vs us/\Q vs H'
def SP (X:Cx) (pins:List (ah×Obj)) (D:Ends) (f:Flow) (s':ag):Prop:=
 match f with
 | .next=>∃σ' H',Inv X pins σ' H' s'/\D.nx σ' H'
 | .brk=>∃σ' H',Inv X pins σ' H' s'/\D.bk σ' H'
 | .cont=>∃σ' H',Inv X pins σ' H' s'/\D.ct σ' H'
 | .ret u=>∃v σ' H',Inv X pins σ' H' s'/\RelV v u/\D.rt v H'
def PE (X:Cx) (e:bp) (t:TE):Prop:=∀(pins:List (ah×Obj)) (s:ag) (σ:St) (H:Hp) (Q:VK),Inv X pins σ H s->t σ H Q->wpAny (model X.prog X.w) X.A (eval e X.env) (EP X pins σ Q) X.xe s
def PT (X:Cx) (e:bp) (t:TT):Prop:=∀(pins:List (ah×Obj)) (s:ag) (σ:St) (H:Hp) (Q:Bool->Hp->Prop),Inv X pins σ H s->t σ H Q->wpAny (model X.prog X.w) X.A (isTrue e X.env (eval e X.env)) (TP X pins σ Q) X.xe s
def PW (X:Cx) (e:bp) (t:TT):Prop:=∀(whole:Sem af) (pins:List (ah×Obj)) (s:ag) (σ:St) (H:Hp) (Q:Bool->Hp->Prop),Inv X pins σ H s->t σ H Q->wpAny (model X.prog X.w) X.A (isTrue e X.env whole) (TP X pins σ Q) X.xe s
theorem PW.pt {X:Cx}{e:bp}{t:TT}(h:PW X e t):PT X e t:=h _
def PA (X:Cx) (es:List bp) (t:TA):Prop:=∀(pos:Pos) (pins:List (ah×Obj)) (s:ag) (σ:St) (H:Hp) (Q:List V->Hp->Prop),Inv X pins σ H s->t σ H Q->wpAny (model X.prog X.w) X.A (spliced (backTo pos (aw es X.env))) (AP X pins σ Q) X.xe s
def PS (X:Cx) (st:gy) (t:TS):Prop:=∀(pins:List (ah×Obj)) (s:ag) (σ:St) (H:Hp) (D:Ends),Inv X pins σ H s->t D σ H->wpAny (model X.prog X.w) X.A (exec st X.env) (SP X pins D) X.xe s
def PSs (X:Cx) (st:List gy) (t:TS):Prop:=∀(pins:List (ah×Obj)) (s:ag) (σ:St) (H:Hp) (D:Ends),Inv X pins σ H s->t D σ H->wpAny (model X.prog X.w) X.A (execs st X.env) (SP X pins D) X.xe s
theorem aW {α:Type}{t:Sem α}{Q Q':α->ag->Prop}{M:zo}{A:cj}{E:af->ag->Prop}{s:ag}(h:wpAny M A t Q E s) (hQ:∀a s,Q a s->Q' a s):wpAny M A t Q' E s:=jx h hQ λ_ _ x=>x
section
variable{X:Cx}
def PV (i:Nat):TE:=λσ H Q=>∃v,σ[i]?=some (some v)/\Q v H
def tC (v:V):TE:=λ_ H Q=>Q v H
theorem uY {i:Nat}{x:Str}{pos:Pos}(hN:X.N[i]?=some x) (hv:lW X.env.scope x) (hd:(x==("__debug__" : Str))=false:=by decide) (hcd:(x==("__classdict__" : Str))=false:=by decide):PE X (.Name x pos) (PV i):=by
 intro pins s σ H Q I h;obtain⟨v,e,h⟩:=h;obtain⟨m,hn,hl⟩:=I.loc;obtain⟨u,r,l⟩:=hl i x v hN e hv;have fin:EP X pins σ Q u s:=⟨v,H,I,r,h⟩
 rcases l with⟨hk,hm⟩|⟨hk,c,hc,hcell⟩
 ·exact wpAny_Name (wpAny_loadName_local I.ok.kind hk hn hm fin) hd
 ·rcases hk with hk|hk
  ·exact wpAny_Name (wpAny_loadName_cell I.ok.kind hk hc hcell fin) hd
  ·exact wpAny_Name (wpAny_loadName_free I.ok.kind hk hc hcell fin hcd) hd
theorem PX {i j pos}:PE X (.Constant (.int i) j pos) (tC (.int i)):=λ_ _ _ H _ I h=>wpAny_Constant_int ⟨.int i,H,I.tok _,⟨_,rfl⟩,h⟩
theorem PY {b j pos}:PE X (.Constant (.bool b) j pos) (tC (.bl b)):=λ_ _ _ H _ I h=>Constant_bool ⟨.bl b,H,I,rfl,h⟩
theorem FR {j pos}:PE X (.Constant .none j pos) (tC .non):=λ_ _ _ H _ I h=>Constant_none ⟨.non,H,I,rfl,h⟩
theorem PZ {x j pos}:PE X (.Constant (.str x) j pos) (tC (.str x)):=λ_ _ _ H _ I h=>Calls.Constant_str ⟨.str x,H,I.tok _,⟨_,rfl⟩,h⟩
def Gl (X:Cx) (x:Str):Prop:=X.env.kindOf x=some .globalImplicit
theorem uZ {E:af->ag->Prop}{pins:List (ah×Obj)}{s:ag}{σ:St}{H:Hp}{x:Str}{u:af}{pos:Pos}{Q:af->ag->Prop}(I:Inv X pins σ H s) (hg:Gl X x) (hm:X.mg x=some u) (h:Q u s)
  (hd:(x==("__debug__" : Str))=false:=by decide):wpAny (model X.prog X.w) X.A (eval (.Name x pos) X.env) Q E s:=
 Calls.Name_function_global I.ok.kind hg (Calls.loadGlobal_global (by rw[I.ok.glob];exact I.mod.glob.keeps I.bk) hm h) hd
theorem oO {E:af->ag->Prop}{pins:List (ah×Obj)}{s:ag}{σ:St}{H:Hp}{x:Str}{u:af}{pos:Pos}{Q:af->ag->Prop}(I:Inv X pins σ H s) (hg:Gl X x) (hm:X.mg x=none) (hv:dv x=some u) (h:Q u s)
  (hn:x ≠ "__name__" := by decide) (hd:(x==("__debug__" : Str))=false:=by decide):wpAny (model X.prog X.w) X.A (eval (.Name x pos) X.env) Q E s:=by
 obtain⟨mb,h1,h2⟩:=I.mod.blt;exact Calls.Name_function_global I.ok.kind hg (Calls.loadGlobal_builtin (by rw[I.ok.glob];exact I.mod.glob.keeps I.bk) hm (by rw[I.ok.blt];exact h1.keeps I.bk) ((h2 x hn).trans hv) h) hd
theorem FT {x:Str}{v:V}{u:af}{pos:Pos}(hg:Gl X x) (hm:X.mg x=some u) (r:RelV v u) (hd:(x==("__debug__" : Str))=false:=by decide):PE X (.Name x pos) (tC v):=λ_ _ _ H _ I h=>uZ I hg hm ⟨v,H,I,r,h⟩ hd
variable{a b:bp}{ta tb:TE}{pos:Pos}
def tB (t:TE):TT:=λσ H Q=>t σ H λx H1=>∃c,x=.bl c/\Q c H1
variable{tA tB':TT}{rest:List bp}
def FU (t u:TT):TT:=λσ H Q=>t σ H λc H1=>if c=true then u σ H1 Q else Q false H1
def FV (t u:TT):TT:=λσ H Q=>t σ H λc H1=>if c=true then Q true H1 else u σ H1 Q
def P0 (t:TT):TT:=λσ H Q=>t σ H λc H1=>Q (!c) H1
theorem P4 (ha:PT X a tA):PW X (.BoolOp .And [a] pos) tA:=by
 intro wh pins s σ H Q I h;refine isTrue_and (aW (ha pins s σ H Q I h) λc s1 e=>?_)
 cases c with
 |true=>exact isTrue_and_nil e
 |false=>exact e
theorem P5 (ha:PT X a tA):PW X (.BoolOp .Or [a] pos) tA:=by
 intro wh pins s σ H Q I h;refine isTrue_or (aW (ha pins s σ H Q I h) λc s1 e=>?_)
 cases c with
 |false=>exact isTrue_or_nil e
 |true=>exact e
theorem P6 (ha:PT X a tA) (hb:PW X (.BoolOp .And (b::rest) pos) tB'):PW X (.BoolOp .And (a::b::rest) pos) (FU tA tB'):=by
 intro wh pins s σ H Q I h;refine isTrue_and (aW (ha pins s σ H _ I h) λc s1 ⟨H1,I1,q1⟩=>?_)
 cases c with
 |true=>exact hb wh pins s1 σ H1 Q I1 q1
 |false=>exact⟨H1,I1,q1⟩
theorem P7 (ha:PT X a tA) (hb:PW X (.BoolOp .Or (b::rest) pos) tB'):PW X (.BoolOp .Or (a::b::rest) pos) (FV tA tB'):=by
 intro wh pins s σ H Q I h;refine isTrue_or (aW (ha pins s σ H _ I h) λc s1 ⟨H1,I1,q1⟩=>?_)
 cases c with
 |true=>exact⟨H1,I1,q1⟩
 |false=>exact hb wh pins s1 σ H1 Q I1 q1
theorem P8 (ha:PT X a tA):PT X (.UnaryOp .Not a pos) (P0 tA):=by intro pins s σ H Q I h;exact isTrue_not (ha pins s σ H (λc H1=>Q (!c) H1) I h)
def P9 (ta tb:TE):TE:=λσ H Q=>ta σ H λx H1=>∃c,x=.bl c/\if c=true then tb σ H1 Q else Q (.bl false) H1
def QA (ta:TE):TE:=λσ H Q=>ta σ H λx H1=>∃c,x=.bl c/\Q (.bl (!c)) H1
theorem QB {op} {t:TE}(h:PE X a t):PE X (.BoolOp op [a] pos) t:=λpins s σ H Q I hw=>BoolOp_one (h pins s σ H Q I hw)
theorem QC (ha:PE X a ta) (hb:PE X (.BoolOp .And (b::rest) pos) tb):PE X (.BoolOp .And (a::b::rest) pos) (P9 ta tb):=by
 intro pins s σ H Q I h;refine BoolOp_and (aW (ha pins s σ H _ I h) λv s1 ⟨x,H1,I1,r1,q1⟩=>?_);obtain⟨c,rfl,q1⟩:=q1;cases r1;refine lg ?_
 cases c with
 |true=>exact hb pins s1 σ H1 Q I1 q1
 |false=>exact⟨.bl false,H1,I1,rfl,q1⟩
theorem QD (ha:PE X a ta):PE X (.UnaryOp .Not a pos) (QA ta):=by intro pins s σ H Q I h;refine UnaryOp_ (aW (ha pins s σ H _ I h) λv s1 ⟨x,H1,I1,r1,q1⟩=>?_);obtain⟨c,rfl,q1⟩:=q1;cases r1;exact not_of (lg ⟨.bl (!c),H1,I1,rfl,q1⟩)
end
def SqL (K:aq) (H:Hp) (a:ah) (xs:List V):Prop:=
 Rd H a (.lst xs) ∨
  ∃(o:Obj) (its:Array af) (n:Nat),K.lookup a=some o/\o.cls=.type "list"/\o.dict=none/\o.data=.seq its n/\its.size<=ck/\Vals xs its.toList
def SqT (K:aq) (H:Hp) (a:ah) (xs:List V):Prop:=
 Rd H a (.tup xs) ∨
  ∃(o:Obj) (its:Array af) (n:Nat),K.lookup a=some o/\o.cls=.type "tuple"/\o.data=.seq its n/\its.size<=ck/\Vals xs its.toList
def QE:af->Option V
 | .none=>some .non
 | .bool b=>some (.bl b)
 | .int i _=>some (.int i)
 | .str x _=>some (.str x)
 | .bytes b _=>some (.byt b)
 | .float b _=>some (.flt b)
 | .ref a=>some (.ref a)
 | .type n=>some (.ty n)
 |_=>none
theorem RelV.abs {x:V}{u:af}(r:RelV x u):QE u=some x:=by
 cases x with
 |non=>cases r;rfl
 |bl _=>cases r;rfl
 |int _=>obtain⟨t,rfl⟩:=r;rfl
 |str _=>obtain⟨t,rfl⟩:=r;rfl
 |byt _=>obtain⟨t,rfl⟩:=r;rfl
 |flt _=>obtain⟨t,rfl⟩:=r;rfl
 |ref _=>cases r;rfl
 |ty _=>cases r;rfl
theorem RelV.inj {x y:V}{u:af}(r:RelV x u) (q:RelV y u):x=y:=cf (r.abs.symm.trans q.abs)
theorem Vals.inj:∀{xs ys:List V}{us:List af},Vals xs us->Vals ys us->xs=ys
 |_,_,_,.nil,.nil=>rfl
 |_,_,_,.cons r t,.cons r' t'=>by rw[r.inj r',Vals.inj t t']
section
variable{X:Cx}{pins:List (ah×Obj)}{σ:St}{H:Hp}{s:ag}{a:ah}{xs ys:List V}
theorem SqL.of {K:aq}(h:H a=some (.lst xs)):SqL K H a xs:=.inl (.inl h)
theorem SqT.of {K:aq}(h:H a=some (.tup xs)):SqT K H a xs:=.inl (.inl h)
theorem Inv.list (I:Inv X pins σ H s) (h:SqL X.K H a xs):∃its:List af,Vals xs its/\PlainL s.heap a its.toArray/\xs.length<=ck:=by
 rcases h with h|⟨o,its,n,hk,hc,hd,hs,hz,r⟩
 ·obtain⟨z,its,n,r,e⟩:=h.ok I.hok;exact⟨its,r,⟨_,n,e,rfl,rfl,rfl⟩,z⟩
 ·refine⟨its.toList,r,⟨o,n,I.kIn a o hk,hc,hd,by simpa using hs⟩, ?_⟩;have e:=r.length;simp only[lj]at e;omega
theorem Inv.tuple (I:Inv X pins σ H s) (h:SqT X.K H a xs):∃its:List af,Vals xs its/\IsTup s.heap a its.toArray/\xs.length<=ck:=by
 rcases h with h|⟨o,its,n,hk,hc,hs,hz,r⟩
 ·obtain⟨z,its,r,p⟩:=h.ok I.hok;exact⟨its,r,p.tup,z⟩
 ·refine⟨its.toList,r,⟨o,I.kIn a o hk,hc,n,by simpa using hs⟩, ?_⟩;have e:=r.length;simp only[lj]at e;omega
theorem Inv.list_inj (I:Inv X pins σ H s) (h:SqL X.K H a xs) (h':SqL X.K H a ys):xs=ys:=by
 obtain⟨its,r,⟨o,n,e,_,_,d⟩,_⟩:=I.list h;obtain⟨its',r',⟨o',n',e',_,_,d'⟩,_⟩:=I.list h';rw[e]at e';cases e';rw[d]at d';injection d' with d1 _;have:its=its':=by simpa using congrArg Array.toList d1
 subst this;exact r.inj r'
theorem Inv.tuple_inj (I:Inv X pins σ H s) (h:SqT X.K H a xs) (h':SqT X.K H a ys):xs=ys:=by
 obtain⟨its,r,⟨o,e,_,n,d⟩,_⟩:=I.tuple h;obtain⟨its',r',⟨o',e',_,n',d'⟩,_⟩:=I.tuple h';rw[e]at e';cases e';rw[d]at d';injection d' with d1 _;have:its=its':=by simpa using congrArg Array.toList d1
 subst this;exact r.inj r'
end
abbrev Cx.wish (X:Cx) (E:af->ag->Prop):Cx:={ X with xe:=E }
abbrev Cx.nox (X:Cx):Cx:=X.wish λ_ _=>False
theorem Cx.Ok.wish {X:Cx}(ok:X.Ok) (E:af->ag->Prop):(X.wish E).Ok:=⟨ok.mod,ok.kind,ok.glob,ok.blt,ok.above,ok.inj,ok.has,ok.cab,ok.hd,ok.frames,ok.stk,ok.exf,ok.bs,ok.bsz,ok.noex,ok.exfs,ok.funs,ok.frf⟩
theorem Cx.Ok.unwish {X:Cx}{E:af->ag->Prop}(ok:(X.wish E).Ok):X.Ok:=⟨ok.mod,ok.kind,ok.glob,ok.blt,ok.above,ok.inj,ok.has,ok.cab,ok.hd,ok.frames,ok.stk,ok.exf,ok.bs,ok.bsz,ok.noex,ok.exfs,ok.funs,ok.frf⟩
section
variable{X:Cx}{pins:List (ah×Obj)}{σ:St}{H:Hp}{s:ag}{E:af->ag->Prop}
theorem Inv.wish (I:Inv X pins σ H s) (E:af->ag->Prop):Inv (X.wish E) pins σ H s:=⟨I.ok.wish E,I.os,I.bare,I.base,I.loc,I.cell,I.free,I.freeC,I.pin,I.hok,I.len⟩
theorem Inv.unwish (I:Inv (X.wish E) pins σ H s):Inv X pins σ H s:=⟨I.ok.unwish,I.os,I.bare,I.base,I.loc,I.cell,I.free,I.freeC,I.pin,I.hok,I.len⟩
end
section
variable{X:Cx}{st:gy}{rest:List gy}{t u:TS}{e:bp}{te:TE}{pos:Pos}
def QF:TS:=λD σ H=>D.nx σ H
def QG (t u:TS):TS:=λD σ H=>t { D with nx:=u D } σ H
theorem QH:PSs X [] QF:=λ_ _ σ H _ I h=>mw ⟨σ,H,I,h⟩
theorem QI (h1:PS X st t) (h2:PSs X rest u):PSs X (st::rest) (QG t u):=by
 intro pins s σ H D I h;refine pf (aW (h1 pins s σ H { D with nx:=u D } I h) λf s1 q=>?_)
 cases f with
 |next=>obtain⟨σ',H',I',q⟩:=q;exact h2 pins s1 σ' H' D I' q
 |ret v=>exact q
 |brk=>exact q
 |cont=>exact q
theorem FW (h1:PS X st t):PSs X [st] t:=by
 intro pins s σ H D I h;refine pf (aW (h1 pins s σ H D I h) λf s1 q=>?_)
 cases f with
 |next=>exact mw q
 |ret v=>exact q
 |brk=>exact q
 |cont=>exact q
theorem Inv.quiet {pins:List (ah×Obj)}{σ:St}{H:Hp}{s:ag}(I:Inv X pins σ H s):interactive X.env=false:=by simp[interactive,I.ok.kind]
def QJ (te:TE):TS:=λD σ H=>te σ H λ_ H1=>D.nx σ H1
theorem QK (he:PE X e te) (hs:swapsWith e none pos.line X.env=pure false:=by rfl):PS X (.Expr e pos) (QJ te):=by intro pins s σ H D I h;exact wpAny_Expr_any (aW (he pins s σ H _ I h) λv s1 ⟨x,H1,I1,r1,q1⟩=>⟨σ,H1,I1,q1⟩) I.quiet hs
def QL (te:TE):TS:=λD σ H=>te σ H D.rt
theorem QM (he:PE X e te):PS X (.Return (some e) pos) (QL te):=by intro pins s σ H D I h;exact wpAny_Return_some (aW (he pins s σ H _ I h) λv s1 ⟨x,H1,I1,r1,q1⟩=>⟨x,σ,H1,I1,r1,q1⟩)
def QN (c:TT) (t u:TS):TS:=λD σ H=>c σ H λb H1=>if b=true then t D σ H1 else u D σ H1
theorem QO {c:bp}{a b:List gy}{tc:TT}(hc:PT X c tc) (ha:PSs X a t) (hb:PSs X b u):PS X (.If c a b pos) (QN tc t u):=by
 intro pins s σ H D I h;refine wpAny_If (aW (hc pins s σ H _ I h) λd s1 ⟨H1,I1,q1⟩=>?_)
 cases d with
 |true=>exact ha pins s1 σ H1 D I1 q1
 |false=>exact hb pins s1 σ H1 D I1 q1
end
abbrev TG:=V->St->Hp->(St->Hp->Prop)->Prop
abbrev lX:=List V->St->Hp->(St->Hp->Prop)->Prop
def PG (X:Cx) (target:bp) (t:TG):Prop:=
 ∀(pins:List (ah×Obj)) (s:ag) (σ:St) (H:Hp) (v:V) (u:af) (Q:St->Hp->Prop),Inv X pins σ H s->RelV v u->t v σ H Q->
  wpAny (model X.prog X.w) X.A (assign target X.env u) (λ_ s'=>∃σ' H',Inv X pins σ' H' s'/\Q σ' H') X.xe s
def PGs (X:Cx) (ts:List bp) (t:lX):Prop:=
 ∀(pins:List (ah×Obj)) (s:ag) (σ:St) (H:Hp) (vs:List V) (us:List af) (Q:St->Hp->Prop),Inv X pins σ H s->Vals vs us->t vs σ H Q->
  wpAny (model X.prog X.w) X.A (assignInOrder ((assignEach ts X.env).map (·.2)) us) (λ_ s'=>∃σ' H',Inv X pins σ' H' s'/\Q σ' H') X.xe s
abbrev zX:=V->V->V->Hp->(Hp->Prop)->Prop
def FX (X:Cx) (t:zX):Prop:=
 ∀(pins:List (ah×Obj)) (s:ag) (σ:St) (H:Hp) (o i v:V) (ov iv u:af) (Q:Hp->Prop),Inv X pins σ H s->RelV o ov->RelV i iv->RelV v u->t o i v H Q->
  wpAny (model X.prog X.w) X.A (setItem ov iv u) (λ_ s'=>∃H',Inv X pins σ H' s'/\Q H') X.xe s
section
variable{X:Cx}{pos:Pos}
def zY (i:Nat):TG:=λv σ H Q=>Q (σ.set i (some v)) H
theorem QP {i:Nat}{x:Str}(hN:X.N.Nodup) (hi:X.N[i]?=some x) (hx:kT X.env.scope x) (hf:X.fn x=true∨X.env.scope.names.lookup x=some .local:=by first|exact .inl rfl|exact .inr rfl|assumption):PG X (.Name x pos) (zY i):=by intro pins s σ H v u Q I r h;exact wpAny_assign_Name (zW I hN hi hx r (λs' I'=>⟨_,H,I',h⟩) hf)
def QQ:lX:=λvs σ H Q=>vs=[]/\Q σ H
def QR (t:TG) (u:lX):lX:=λvs σ H Q=>∃v r,vs=v::r/\t v σ H λσ' H'=>u r σ' H' Q
theorem QS:PGs X [] QQ:=by intro pins s σ H vs us Q I r h;obtain⟨e,h⟩:=h;subst e;cases r;exact assignInOrder_nil ⟨σ,H,I,h⟩
theorem QT {e:bp}{es:List bp}{t:TG}{u:lX}(h1:PG X e t) (h2:PGs X es u)
  (hs:(assignEach (e::es) X.env).map (·.2)=assign e X.env::(assignEach es X.env).map (·.2):=by rfl):PGs X (e::es) (QR t u):=by
 intro pins s σ H vs us Q I r h;obtain⟨v,vr,e1,h⟩:=h;subst e1
 cases r with
 |cons r rr=>rw[hs];refine assignInOrder_cons (aW (h1 pins s σ H _ _ _ I r h) λ_ s1 ⟨σ1,H1,I1,q1⟩=>?_);exact h2 pins s1 σ1 H1 _ _ Q I1 rr q1
def QU (K:aq) (n:Nat) (t:lX):TG:=λv σ H Q=>∃a xs,v=.ref a/\SqT K H a xs/\xs.length=n/\t xs σ H Q
theorem QV {es:List bp}{k:Nat}{t:lX}{n:Nat}(hc:X.calm=true) (h:PGs X es t)
  (hn:(assignEach es X.env).length=n:=by rfl) (hst:(assignEach es X.env).findIdx? (·.1)=none:=by rfl):PG X (.Tuple es k pos) (QU X.K n t):=by
 intro pins s σ H v u Q I r hw;obtain⟨a,xs,e1,hq,hl,hw⟩:=hw;subst e1;cases r;obtain⟨its,rv,ht,hz⟩:=I.tuple hq;refine assign_Tuple_tuple (I.ok.hd hc) ht (by simp[hn,<-hl,rv.length]) hst λh' hx=>?_;have I1:Inv X pins σ H { s with heap:=h' }:=I.kept (t':=s.toks) λb o e=>hx b o (ay (ar e)) e;exact h pins _ σ H xs _ Q I1 (by simpa using rv) hw
def QW (to ti:TE) (t:zX):TG:=λv σ H Q=>to σ H λo H1=>ti σ H1 λi H2=>t o i v H2 λH3=>Q σ H3
theorem QX {o i:bp}{to ti:TE}{t:zX}(ho:PE X o to) (hi:PE X i ti) (hs:FX X t)
  (ha:∀v,assign (.Subscript o i pos) X.env v=(do
   let ov <-holding [v] (eval o X.env)
   let iv <-holding [v,ov] (eval i X.env)
   standAt pos
   holding [v,ov,iv] (setItem ov iv v)
   release [v,ov,iv] []):=by intro _;rfl):PG X (.Subscript o i pos) (QW to ti t):=by
 intro pins s σ H v u Q I r h;rw[ha];refine ae (ig (aW (ho pins s σ H _ I h) λov s1 ⟨x,H1,I1,r1,q1⟩=>?_));refine ae (ig (aW (hi pins s1 σ H1 _ I1 q1) λiv s2 ⟨y,H2,I2,r2,q2⟩=>?_));refine ae (sj (ae (ig (aW (hs pins s2 σ H2 x y v ov iv u _ I2 r1 r2 r q2) λ_ s3 ⟨H3,I3,q3⟩=>?_))));exact wpAny_release ⟨σ,H3,I3,q3⟩
def vA (te:TE) (g:TG):TS:=λD σ H=>te σ H λx H1=>g x σ H1 D.nx
theorem FY {tg e:bp}{te:TE}{g:TG}(he:PE X e te) (hg:PG X tg g) (hs:swapsWithSole [tg] e pos.line X.env=pure false:=by rfl) (hw:swappedStores [tg] e X.env=pure none:=by rfl)
  (h1:(assignEach [tg] X.env).map (·.2)=[assign tg X.env]:=by rfl):PS X (.Assign [tg] e pos) (vA te g):=by
 intro pins s σ H D I h;refine wpAny_Assign_stores (aW (he pins s σ H _ I h) λv s1 ⟨x,H1,I1,r1,q1⟩=>?_) hs hw;rw[h1];exact aW (hg pins s1 σ H1 x v _ I1 r1 q1) λ_ s2 q=>q
theorem zZ {i:Nat}{x:Str}{e:bp}{te:TE}{pos':Pos}(hN:X.N.Nodup) (hi:X.N[i]?=some x) (hx:kT X.env.scope x) (he:PE X e te) (hs:swapsWith e (some (.Name x pos')) pos.line X.env=pure false:=by rfl) (hf:X.fn x=true∨X.env.scope.names.lookup x=some .local:=by first|exact .inl rfl|exact .inr rfl|assumption):
  PS X (.Assign [.Name x pos'] e pos) (vA te (zY i)):=by
 intro pins s σ H D I h;refine wpAny_Assign_Name (aW (he pins s σ H _ I h) λv s1 ⟨y,H1,I1,r1,q1⟩=>?_) hs;exact zW I1 hN hi hx r1 (λs2 I2=>⟨_,H1,I2,q1⟩) hf
end
section
variable{X:Cx}{pos:Pos}
def QY (c:TT) (tb:TS):TS:=λD σ H=>∃W:Nat->St->Hp->Prop,(∃m,W m σ H)/\∀m σ H,W m σ H->
 c σ H λb H1=>if b=true then ∃N:St->Hp->Prop,(∀σ' H',N σ' H'->∃m',m'<m/\W m' σ' H')/\tb { D with nx:=N,ct:=N,bk:=D.nx } σ H1 else D.nx σ H1
theorem QZ {c:bp}{body:List gy}{tc:TT}{tb:TS}(hp:yi (model X.prog X.w) X.A X.env X.xe) (hc:PT X c tc) (hb:PSs X body tb):PS X (.While c body [] pos) (QY tc tb):=by
 intro pins s σ H D I h;obtain⟨W,⟨m0,w0⟩,turn⟩:=h;refine wpAny_While (codeAny_whileLoop (λn s'=>∃σ' H',Inv X pins σ' H' s'/\W n σ' H') ?_ m0 ⟨σ,H,I,w0⟩)
 rintro n s1 ⟨σ1,H1,I1,w1⟩
 refine ku hp (aW (hc pins s1 σ1 H1 _ I1 (turn n σ1 H1 w1)) λb s2 ⟨H2,I2,q2⟩=>?_)
 cases b with
 |true=>
  obtain⟨N,hN,q2⟩:=q2;rw[if_pos rfl];refine ku hp (aW (hb pins s2 σ1 H2 _ I2 q2) λf s3 q3=>?_)
  cases f with
  |next=>obtain⟨σ3,H3,I3,n3⟩:=q3;obtain⟨m',hm,w3⟩:=hN σ3 H3 n3;exact⟨m',hm,σ3,H3,I3,w3⟩
  |cont=>obtain⟨σ3,H3,I3,n3⟩:=q3;obtain⟨m',hm,w3⟩:=hN σ3 H3 n3;exact⟨m',hm,σ3,H3,I3,w3⟩
  |brk=>exact q3
  |ret v=>exact q3
 |false=>rw[if_neg gp];exact mw ⟨σ1,H2,I2,q2⟩
end
structure It where
 go:Nat->Hp->Prop
 yld:Nat->Hp->V->Hp->Prop
 stop:Nat->Hp->Prop
def cV (X:Cx) (pins:List (ah×Obj)) (H:Hp) (b:ah):Prop:=H b=none/\b≠X.env.locals/\b∉X.fs/\(b∈X.ex∨X.s₀.heap.objs.size<=b)/\(∀x c,X.env.cells.lookup x=some c->c≠b)/\∀p∈X.pn++pins,p.1≠b
theorem Inv.fpOk {X:Cx}{pins:List (ah×Obj)}{σ:St}{H H':Hp}{s:ag}{b:ah}(I:Inv X pins σ H s) (hb:s.heap.objs.size<=b) (hn:H' b=none):cV X pins H' b:=by
 refine⟨hn,ji (au I.lt hb),I.nofs hb,.inr (cu I.sz hb),λx c e z=>?_,λp hp z=>?_⟩
 ·obtain⟨v,q⟩:=I.cell x c e;exact absurd (au q.lt (by rw[z];exact hb)) (gu _)
 ·exact absurd (au (ar (I.pin p hp).1) (by rw[z];exact hb)) (gu _)
structure Turn (P:bj) (w:cm) (K:aq) (tg:bp) (J:It) (fp:List ah) (it:ah) (tn:Nat->cq->Prop):Prop where
 mem:it∈fp
 obj:∀i h,tn i h->∀b∈fp,∃o,h.get? b=some o/\∀v,o.data≠.cell v
 keep:∀i h h',tn i h->(∀b∈fp,∀o,h.get? b=some o->h'.get? b=some o)->tn i h'
 item:∀(X:Cx),X.prog=P->X.w=w->X.K=K->X.calm=true->∀(i:Nat) (pins:List (ah×Obj)) (s:ag) (σ:St) (H:Hp) (E:af->ag->Prop),Inv X pins σ H s->(∀b∈fp,cV X pins H b)->tn i s.heap->J.go i H->
  wpAny (model P w) X.A (pyNext (.ref it)) (λr s1=>∃u,r=some u /\
   wpAny (model P w) X.A (letOwnedTupleGo tg (.ref it) u) (λ_ s2=>∃x H',Inv X pins σ H' s2/\RelV x u/\J.yld i H x H'/\tn (i+1) s2.heap/\∀b∈fp,H' b=none) E s1) E s
 done:∀(X:Cx),X.prog=P->X.w=w->X.K=K->X.calm=true->∀(i:Nat) (pins:List (ah×Obj)) (s:ag) (σ:St) (H:Hp) (E:af->ag->Prop),Inv X pins σ H s->(∀b∈fp,cV X pins H b)->tn i s.heap->J.stop i H->
  wpAny (model P w) X.A (pyNext (.ref it)) (λr s1=>r=none/\Inv X pins σ H s1) E s
 self:∀(A:cj) (i:Nat) (s:ag) (Q:af->ag->Prop) (E:af->ag->Prop),tn i s.heap->Q (.ref it) s->wpAny (model P w) A (pyIter (.ref it)) Q E s
abbrev TI:=St->Hp->(It->Hp->Prop)->Prop
def FZ (X:Cx) (pins:List (ah×Obj)) (σ:St) (tg:bp) (R:It->Hp->Prop) (itv:af) (s2:ag):Prop:=∃(it:ah) (fp:List ah) (tn:Nat->cq->Prop) (J:It) (H':Hp),itv=.ref it/\Inv X pins σ H' s2/\Turn X.prog X.w X.K tg J fp it tn/\tn 0 s2.heap/\(∀b∈fp,cV X pins H' b)/\R J H'
def PI (X:Cx) (tg iter:bp) (wi:TI):Prop:=
 ∀(pins:List (ah×Obj)) (s:ag) (σ:St) (H:Hp) (R:It->Hp->Prop),Inv X pins σ H s->wi σ H R->
  wpAny (model X.prog X.w) X.A (eval iter X.env) (λv s1=>wpAny (model X.prog X.w) X.A (pyIter v) (FZ X pins σ tg R) X.xe s1) X.xe s
theorem AA {M:zo}{A:cj}{E:af->ag->Prop}{s:ag}{tg:bp}{it:ah}{u:af}{o:Obj}{n:String}{vs:Array af}{Q:Unit->ag->Prop}(ho:s.heap.get? it=some o) (hc:o.cls=.type n) (hd:o.data=.fields vs)
  (hn:["enumerate","zip","dict_itemiterator","dict_reverseitemiterator","odict_iterator","itertools.zip_longest","itertools.pairwise"].contains n=false) (hQ:Q () s):wpAny M A (letOwnedTupleGo tg (.ref it) u) Q E s:=by
 unfold letOwnedTupleGo
 cases tg <;> first
  |exact aj hQ
  |(cases u <;> first
    |exact aj hQ
    |(refine ae (wpAny_load ho ?_);rw[hc,hd];show wpAny M A (if(["enumerate","zip","dict_itemiterator","dict_reverseitemiterator","odict_iterator","itertools.zip_longest","itertools.pairwise"].contains n&&vs[0]?==some (rawInt _))=true then _ else _) Q E s;rw[if_neg (by intro h;rw[hn,Bool.false_and]at h;cases h)];exact aj hQ))
def F0 (K:aq) (a:ah):It:=⟨λi H=>∃xs x,SqL K H a xs/\xs[i]?=some x,λi H x H'=>H'=H/\∀xs,SqL K H a xs->xs[i]?=some x,λi H=>∃xs,SqL K H a xs/\xs.length<=i⟩
def AB (K:aq) (a:ah):It:=⟨λi H=>∃xs x,SqT K H a xs/\xs[i]?=some x,λi H x H'=>H'=H/\∀xs,SqT K H a xs->xs[i]?=some x,λi H=>∃xs,SqT K H a xs/\xs.length<=i⟩
def rS (lo:Int) (n:Nat):It:=⟨λi _=>i<n,λi H x H'=>H'=H/\x=.int (lo+i),λi _=>n<=i⟩
theorem Q0 {P:bj}{w:cm}{K:aq}{tg:bp}(a it:ah):Turn P w K tg (F0 K a) [it] it (λi h=>h.IsListIter it a i) where
 mem:=by simp
 obj:=λi h st b hb=>by
  have e:b=it:=by simpa using hb
  subst e;obtain⟨o,e,c,d⟩:=st;exact⟨o,e,λv z=>by rw[d]at z;cases z⟩
 keep:=λi h h' st k=>st.at λo e=>k it (by simp) o e
 item:=by intro X hP hw hK hc i pins s σ H E I hf st hg;subst hP hw hK;obtain⟨xs,x,hq,hx⟩:=hg;obtain⟨its,rv,p,hz⟩:=I.list hq;obtain⟨u,hu,ru⟩:=rv.get hx;obtain⟨f0,f1,f2,f3,f4,f5⟩:=hf it (by simp);refine wpAny_pyNext_list_item st p.isList (x:=u) (by simpa using hu) λh' st' sb=>?_;have I1:Inv X pins σ H { s with heap:=h' }:=I.turned (t':=s.toks) (λb o hb e=>(sb.2 b hb).trans e) f0 f1 f3 f4 f5;obtain⟨o,e,c,d⟩:=id st';exact⟨u,rfl,AA (s:={ s with heap:=h' }) e c d (by decide) ⟨x,H,I1,ru,⟨rfl,λys hy=>by rw[I.list_inj hy hq];exact hx⟩,st',λb hb=>(hf b hb).1⟩⟩
 done:=by intro X hP hw hK hc i pins s σ H E I hf st hg;subst hP hw hK;obtain⟨xs,hq,hx⟩:=hg;obtain⟨its,rv,p,hz⟩:=I.list hq;obtain⟨f0,f1,f2,f3,f4,f5⟩:=hf it (by simp);have hl:=rv.length;exact wpAny_pyNext_list_end (I.ok.hd hc) st p.isList (by simp;omega) λh' eb=>⟨rfl,I.turned (t':=s.toks) (λb o hb e=>eb b o hb e) f0 f1 f3 f4 f5⟩
 self:=λ_ _ _ _ _ st h=>wpAny_pyIter_listiter st h
theorem Q2 {P:bj}{w:cm}{K:aq}{tg:bp}(a it:ah):Turn P w K tg (AB K a) [it] it (λi h=>h.IsTupleIter it a i) where
 mem:=by simp
 obj:=λi h st b hb=>by
  have e:b=it:=by simpa using hb
  subst e;obtain⟨o,e,c,d⟩:=st;exact⟨o,e,λv z=>by rw[d]at z;cases z⟩
 keep:=λi h h' st k=>st.at λo e=>k it (by simp) o e
 item:=by intro X hP hw hK hc i pins s σ H E I hf st hg;subst hP hw hK;obtain⟨xs,x,hq,hx⟩:=hg;obtain⟨its,rv,p,hz⟩:=I.tuple hq;obtain⟨u,hu,ru⟩:=rv.get hx;obtain⟨f0,f1,f2,f3,f4,f5⟩:=hf it (by simp);refine wpAny_pyNext_tuple_item st (show s.heap.IsTuple a its.toArray from p) (x:=u) (by simpa using hu) λh' st' sb=>?_;have I1:Inv X pins σ H { s with heap:=h' }:=I.turned (t':=s.toks) (λb o hb e=>(sb.2 b hb).trans e) f0 f1 f3 f4 f5;obtain⟨o,e,c,d⟩:=id st';exact⟨u,rfl,AA (s:={ s with heap:=h' }) e c d (by decide) ⟨x,H,I1,ru,⟨rfl,λys hy=>by rw[I.tuple_inj hy hq];exact hx⟩,st',λb hb=>(hf b hb).1⟩⟩
 done:=by intro X hP hw hK hc i pins s σ H E I hf st hg;subst hP hw hK;obtain⟨xs,hq,hx⟩:=hg;obtain⟨its,rv,p,hz⟩:=I.tuple hq;obtain⟨f0,f1,f2,f3,f4,f5⟩:=hf it (by simp);have hl:=rv.length;exact wpAny_pyNext_tuple_end (I.ok.hd hc) st (show s.heap.IsTuple a its.toArray from p) (by simp;omega) λh' eb=>⟨rfl,I.turned (t':=s.toks) (λb o hb e=>eb b o hb e) f0 f1 f3 f4 f5⟩
 self:=λ_ _ _ _ _ st h=>wpAny_pyIter_tupleiter st h
theorem Q3 {P:bj}{w:cm}{K:aq}{tg:bp}(it:ah) (lo:Int) (n:Nat):Turn P w K tg (rS lo n) [it] it (λi h=>IsRangeIter h it (lo+(i:Nat)*1) ((n:Int) - (i:Nat)) 1) where
 mem:=by simp
 obj:=λi h st b hb=>by
  have e:b=it:=by simpa using hb
  subst e;exact⟨_,st,λv z=>by
   have z':Data.fields _=Data.cell v:=z
   cases z'⟩
 keep:=λi h h' st k=>k it (by simp) _ st
 item:=by intro X hP hw hK hc i pins s σ H E I hf st hg;subst hP hw hK;obtain⟨f0,f1,f2,f3,f4,f5⟩:=hf it (by simp);have W:=Walks.range (prog:=X.prog) (w:=X.w) (I.ok.hd hc) it lo 1 n;refine W.item i s _ _ hg st λv h' tk hv st' kk=>?_;obtain⟨t,rfl⟩:=hv;have I1:Inv X pins σ H { s with heap:=h',toks:=tk }:=I.turned (λb o hb e=>kk b o (by simpa using hb) e) f0 f1 f3 f4 f5;refine⟨_,rfl,AA (s:={ s with heap:=h',toks:=tk }) (n := "range_iterator") st' rfl rfl (by decide) ⟨.int (lo+i),H,I1,⟨t, ?_⟩,⟨rfl,rfl⟩,st',λb hb=>(hf b hb).1⟩⟩;rw[Int.mul_one]
 done:=by intro X hP hw hK hc i pins s σ H E I hf st hg;subst hP hw hK;obtain⟨f0,f1,f2,f3,f4,f5⟩:=hf it (by simp);exact wpAny_pyNext_range_end (I.ok.hd hc) st (by have:n<=i:=hg;omega) λh' eb=>⟨rfl,I.turned (t':=s.toks) (λb o hb e=>eb b o hb e) f0 f1 f3 f4 f5⟩
 self:=λ_ _ _ _ _ st h=>wpAny_pyIter_rangeiter st h
section
variable{X:Cx}{tg:bp}
def Q4 (K:aq) (tl:TE):TI:=λσ H R=>tl σ H λx H1=>∃a,x=.ref a/\(∃xs,SqL K H1 a xs)/\R (F0 K a) H1
def Q5 (K:aq) (tl:TE):TI:=λσ H R=>tl σ H λx H1=>∃a,x=.ref a/\(∃xs,SqT K H1 a xs)/\R (AB K a) H1
theorem Q6 {l:bp}{tl:TE}(hl:PE X l tl):PI X tg l (Q4 X.K tl):=by
 intro pins s σ H R I h;refine aW (hl pins s σ H _ I h) λv s1 ⟨x,H1,I1,r1,q1⟩=>?_;obtain⟨a,e,⟨xs,hq⟩,q⟩:=q1;subst e;cases r1;obtain⟨its,rv,p,hz⟩:=I1.list hq;refine sd p.isList ?_;refine⟨s1.heap.objs.size,[s1.heap.objs.size],_,_,H1,rfl,I1.kept (t':=s1.toks) λb o e=>ak _ e,Q0 a _,⟨_,bg _ rfl,rfl,rfl⟩,λb hb=>?_,q⟩;have e:b=s1.heap.objs.size:=by simpa using hb
 subst e;exact I1.fpOk (ao _) (I1.hok.fresh (ao _))
theorem Q7 {l:bp}{tl:TE}(hl:PE X l tl):PI X tg l (Q5 X.K tl):=by
 intro pins s σ H R I h;refine aW (hl pins s σ H _ I h) λv s1 ⟨x,H1,I1,r1,q1⟩=>?_;obtain⟨a,e,⟨xs,hq⟩,q⟩:=q1;subst e;cases r1;obtain⟨its,rv,p,hz⟩:=I1.tuple hq;refine qr (show s1.heap.IsTuple a its.toArray from p) ?_;refine⟨s1.heap.objs.size,[s1.heap.objs.size],_,_,H1,rfl,I1.kept (t':=s1.toks) λb o e=>ak _ e,Q2 a _,⟨_,bg _ rfl,rfl,rfl⟩,λb hb=>?_,q⟩;have e:b=s1.heap.objs.size:=by simpa using hb
 subst e;exact I1.fpOk (ao _) (I1.hok.fresh (ao _))
theorem F1 {pins:List (ah×Obj)}{σ:St}{H:Hp}{s:ag}{R:It->Hp->Prop}{E:af->ag->Prop}{lo hi:Int}{t u v:Tok}{tk:Nat}(I:Inv X pins σ H s) (h1 : -(2 ^ 62)<=lo) (h2:lo<2 ^ 62) (h3 : -(2 ^ 62)<=hi) (h4:hi<2 ^ 62)
  (q:R (rS lo (hi - lo).toNat) H):wpAny (model X.prog X.w) X.A (pyIter (.ref s.heap.objs.size)) (FZ X pins σ tg R) E { s with heap:=s.heap.push { cls:=.type "range",data:=.fields #[.int lo t,.int hi u,.int 1 v] },toks:=tk }:=by
 refine wpAny_pyIter_range (IsRange.new ..) (small_one h1 h2 h3 h4) ?_;have I1:Inv X pins σ H { s with heap:=s.heap.push { cls:=.type "range",data:=.fields #[.int lo t,.int hi u,.int 1 v] },toks:=tk }:=I.kept λb o e=>ak _ e;refine⟨(s.heap.push { cls:=.type "range",data:=.fields #[.int lo t,.int hi u,.int 1 v] }).objs.size,[(s.heap.push { cls:=.type "range",data:=.fields #[.int lo t,.int hi u,.int 1 v] }).objs.size],_,_,H,rfl,
  I1.kept (t':=tk) λb o e=>ak _ e,Q3 _ lo (hi - lo).toNat, ?_,λb hb=>?_,q⟩
 ·have e1:lo+((0:Nat):Int)*1=lo:=by simp
  have e2:(((hi - lo).toNat:Nat):Int) - ((0:Nat):Int)=Builtin.Range.rangeSize lo hi 1:=by rw[rangeSize_one];split <;> omega
  show IsRangeIter _ _ (lo+((0:Nat):Int)*1) ((((hi - lo).toNat:Nat):Int) - ((0:Nat):Int)) 1;rw[e1,e2];exact bg _ rfl
 ·have e:b=(s.heap.push { cls:=.type "range",data:=.fields #[.int lo t,.int hi u,.int 1 v] }).objs.size:=by simpa using hb
  subst e;exact I1.fpOk (ao _) (I1.hok.fresh (ao _))
def Q8 (ta:TA):TI:=λσ H R=>ta σ H λvs H1=>∃j:Int,vs=[.int j]/\-(2 ^ 62)<=j/\j<2 ^ 62/\R (rS 0 j.toNat) H1
def Q9 (ta:TA):TI:=λσ H R=>ta σ H λvs H1=>∃i j:Int,vs=[.int i,.int j]/\(-(2 ^ 62)<=i/\i<2 ^ 62/\-(2 ^ 62)<=j/\j<2 ^ 62)/\R (rS i (j - i).toNat) H1
theorem RA {a:bp}{ta:TA}{p pos:Pos}(hg:Gl X "range") (hm:X.mg "range" = none) (ha:PA X [a] ta) (hs:aw [a] X.env=[(false,eval a X.env)]:=by rfl):PI X tg (.Call (.Name "range" p) [a] [] pos) (Q8 ta):=by
 intro pins s σ H R I h;refine Call_ (oO I hg hm boot_range (jb (aW (ha pos pins s σ H _ I h) λus s1 ⟨vs,H1,I1,r1,q1⟩=>?_) hs rfl));obtain⟨j,e,q1,q2,q⟩:=q1;subst e
 cases r1 with
 |cons r rr=>cases rr;obtain⟨t,rfl⟩:=r;exact call_range_1 (F1 I1 (by omega) (by omega) q1 q2 (by simpa using q))
theorem RC {a b:bp}{ta:TA}{p pos:Pos}(hg:Gl X "range") (hm:X.mg "range" = none) (ha:PA X [a,b] ta) (hs:aw [a,b] X.env=[(false,eval a X.env),(false,eval b X.env)]:=by rfl) (hs2:aw [b] X.env=[(false,eval b X.env)]:=by rfl):
  PI X tg (.Call (.Name "range" p) [a,b] [] pos) (Q9 ta):=by
 intro pins s σ H R I h;refine Call_ (oO I hg hm boot_range (jb (aW (ha pos pins s σ H _ I h) λus s1 ⟨vs,H1,I1,r1,q1⟩=>?_) (by rw[hs,hs2]) (by rw[hs2];rfl)));obtain⟨i,j,e,⟨q1,q2,q3,q4⟩,q⟩:=q1;subst e
 cases r1 with
 |cons r rr=>
  cases rr with
  |cons r' rr=>cases rr;obtain⟨t,rfl⟩:=r;obtain⟨t',rfl⟩:=r';exact call_range_2 (F1 I1 q1 q2 q3 q4 q)
def RD (wi:TI) (g:TG) (tb:TS):TS:=λD σ H=>wi σ H λJ H1=>∃W:Nat->Nat->St->Hp->Prop,(∃m,W 0 m σ H1)/\∀i m σ H,W i m σ H->
 (J.stop i H/\D.nx σ H)∨(J.go i H/\∃N:St->Hp->Prop,(∀σ' H',N σ' H'->∃m',m'<m/\W (i+1) m' σ' H')/\∀x H',J.yld i H x H'->g x σ H' λσ2 H2=>tb { D with nx:=N,ct:=N,bk:=D.nx } σ2 H2)
def jI (fp:List ah) (h:cq):List (ah×Obj):=fp.filterMap λb=>(h.get? b).map λo=>(b,o)
theorem pN {fp:List ah}{h:cq}{b:ah}{o:Obj}(hb:b∈fp) (e:h.get? b=some o):(b,o)∈jI fp h:=gq.mpr ⟨b,hb,by rw[e];rfl⟩
theorem AD {fp:List ah}{h:cq}{p:ah×Obj}(hp:p∈jI fp h):p.1∈fp/\h.get? p.1=some p.2:=by
 obtain⟨b,hb,e⟩:=gq.mp hp
 cases q:h.get? b with
 |none=>rw[q]at e;cases e
 |some o=>rw[q]at e;have e':(b,o)=p:=cf e;subst e';exact⟨hb,q⟩
theorem Inv.pinned {pins:List (ah×Obj)}{σ:St}{H:Hp}{s:ag}{fp:List ah}(I:Inv X pins σ H s) (hf:∀b∈fp,cV X pins H b) (ho:∀b∈fp,∃o,s.heap.get? b=some o/\∀v,o.data≠.cell v):Inv X (pins++jI fp s.heap) σ H s:=I.pins_of λp hp=>(dy.mp hp).elim (λz=>I.pin p (cg _ z)) λz=>by obtain⟨hb,e⟩:=AD z;obtain⟨f0,f1,f2,_⟩:=hf p.1 hb;obtain⟨o,e',d⟩:=ho p.1 hb;rw[e]at e';cases e';exact⟨e,f0,f1,f2,d⟩
theorem Inv.unpinned {pins pl:List (ah×Obj)}{σ:St}{H:Hp}{s:ag}(I:Inv X (pins++pl) σ H s):Inv X pins σ H s:=I.pins_of λp hp=>I.pin p (cg _ (jr _ hp))
theorem RE {iter:bp}{body:List gy}{wi:TI}{g:TG}{tb:TS}{pos:Pos}(hp:yi (model X.prog X.w) X.A X.env X.xe) (hc:X.calm=true) (hi:PI X tg iter wi) (hg:PG X tg g) (hb:PSs X body tb)
  (hs:∀x,foldedSetIterable iter X.env x=pure x:=by intro _;rfl):PS X (.For tg iter body [] pos) (RD wi g tb):=by
 intro pins s σ H D I h;refine wpAny_For (aW (hi pins s σ H _ I h) λv s1 h1=>aW h1 λitv s2 h2=>?_) hs;obtain⟨it,fp,tn,J,H2,e,I2,T,st2,f2,W,⟨m0,w0⟩,turn⟩:=h2;subst e;have stat:∀{H':Hp},(∀b∈fp,H' b=none)->∀b∈fp,cV X pins H' b:=λhn b hb=>⟨hn b hb,(f2 b hb).2⟩
 refine codeAny_forLoop_any (λn s'=>∃i σ' H',Inv X pins σ' H' s'/\tn i s'.heap/\(∀b∈fp,H' b=none)/\W i n σ' H') ?_ m0 ⟨0,σ,H2,I2,st2,λb hb=>(f2 b hb).1,w0⟩
 rintro n s3 ⟨i,σ3,H3,I3,st3,fr3,w3⟩
 rcases turn i n σ3 H3 w3 with⟨stop,qn⟩|⟨go,N,hN,step⟩
 ·refine ku hp (aW (T.done X rfl rfl rfl hc i pins s3 σ3 H3 X.xe I3 (stat fr3) st3 stop) λr s4 ⟨hr,I4⟩=>?_);subst hr;exact mw ⟨σ3,H3,I4,qn⟩
 ·refine ku hp (aW (T.item X rfl rfl rfl hc i pins s3 σ3 H3 X.xe I3 (stat fr3) st3 go) λr s4 ⟨u,hr,h4⟩=>?_);subst hr;refine ku hp (aW h4 λ_ s5 ⟨x,H5,I5,r5,y5,st5,fr5⟩=>?_);have I5':=I5.pinned (stat fr5) (T.obj _ _ st5);refine ku hp (aW (hg _ s5 σ3 H5 x u _ I5' r5 (step x H5 y5)) λ_ s6 ⟨σ6,H6,I6,q6⟩=>?_);refine ku hp (aW (hb _ s6 σ6 H6 _ I6 q6) λf s7 q7=>?_);have again:∀{σ7:St}{H7:Hp},Inv X (pins++jI fp s5.heap) σ7 H7 s7->N σ7 H7->∃m,m<n/\∃i σ' H',Inv X pins σ' H' s7/\tn i s7.heap/\(∀b∈fp,H' b=none)/\W i m σ' H':=λ{σ7 H7} I7 n7=>by obtain⟨m',hm,w7⟩:=hN σ7 H7 n7;refine⟨m',hm,i+1,σ7,H7,I7.unpinned,T.keep _ _ _ st5 λb hb o e=>(I7.pin (b,o) (cg _ (cg _ (pN hb e)))).1,λb hb=>?_,w7⟩;obtain⟨o,e,d⟩:=T.obj _ _ st5 b hb;exact(I7.pin (b,o) (cg _ (cg _ (pN hb e)))).2.1
  cases f with
  |next=>obtain⟨σ7,H7,I7,n7⟩:=q7;exact again I7 n7
  |cont=>obtain⟨σ7,H7,I7,n7⟩:=q7;exact again I7 n7
  |brk=>obtain⟨σ7,H7,I7,q7⟩:=q7;exact⟨σ7,H7,I7.unpinned,q7⟩
  |ret v=>obtain⟨x7,σ7,H7,I7,r7,q7⟩:=q7;exact⟨x7,σ7,H7,I7.unpinned,r7,q7⟩
end
abbrev R2:=V->V->Hp->VK->Prop
def OpR (X:Cx) (f:af->af->Sem af) (r:R2):Prop:=
 ∀(pins:List (ah×Obj)) (s:ag) (σ:St) (H:Hp) (x y:V) (v u:af) (Q:VK),Inv X pins σ H s->RelV x v->RelV y u->r x y H Q->
  wpAny (model X.prog X.w) X.A (f v u) (EP X pins σ Q) X.xe s
def vB (X:Cx) (f:af->Sem af) (r:V->Hp->VK->Prop):Prop:=
 ∀(pins:List (ah×Obj)) (s:ag) (σ:St) (H:Hp) (x:V) (v:af) (Q:VK),Inv X pins σ H s->RelV x v->r x H Q->
  wpAny (model X.prog X.w) X.A (f v) (EP X pins σ Q) X.xe s
def CallR (X:Cx) (f:af) (r:List V->Hp->VK->Prop):Prop:=
 ∀(pins:List (ah×Obj)) (s:ag) (σ:St) (H:Hp) (xs:List V) (us:List af) (Q:VK),Inv X pins σ H s->Vals xs us->r xs H Q->
  wpAny (model X.prog X.w) X.A (call f us) (EP X pins σ Q) X.xe s
def RF (X:Cx) (r:V->Hp->(Bool->Hp->Prop)->Prop):Prop:=
 ∀(pins:List (ah×Obj)) (s:ag) (σ:St) (H:Hp) (x:V) (v:af) (Q:Bool->Hp->Prop),Inv X pins σ H s->RelV x v->r x H Q->
  wpAny (model X.prog X.w) X.A (truthy v) (TP X pins σ Q) X.xe s
def rV (r:R2) (ta tb:TE):TE:=λσ H Q=>ta σ H λx H1=>tb σ H1 λy H2=>r x y H2 Q
def RG (r:V->Hp->VK->Prop) (ta:TE):TE:=λσ H Q=>ta σ H λx H1=>r x H1 Q
def rI (C:Int->Int->Prop) (g:Int->Int->V):R2:=λx y H Q=>∃i j,x=.int i/\y=.int j/\C i j/\Q (g i j) H
def jJ (g:Int->Int->V):R2:=λx y H Q=>∃i j,x=.int i/\y=.int j/\Q (g i j) H
def rU (g:Int->V):V->Hp->VK->Prop:=λx H Q=>∃i,x=.int i/\Q (g i) H
section
variable{X:Cx}{a b c:bp}{ta tb tc:TE}{pos:Pos}
theorem AE (ha:PE X a ta) (hb:PE X b tb) {pins:List (ah×Obj)}{s:ag}{σ:St}{H:Hp}{R:V->V->Hp->Prop}(I:Inv X pins σ H s)
  (h:ta σ H λx H1=>tb σ H1 λy H2=>R x y H2) {Q:af->ag->Prop}{f:af->af->Sem af}
  (hf:∀v u s2 x y H2,Inv X pins σ H2 s2->RelV x v->RelV y u->R x y H2->wpAny (model X.prog X.w) X.A (f v u) Q X.xe s2):
  wpAny (model X.prog X.w) X.A (eval a X.env) (λv s₁=>wpAny (model X.prog X.w) X.A (eval b X.env) (λu s₂=>wpAny (model X.prog X.w) X.A (f v u) Q X.xe s₂) X.xe s₁) X.xe s:=by
 refine aW (ha pins s σ H _ I h) λv s1 ⟨x,H1,I1,r1,q1⟩=>?_;refine aW (hb pins s1 σ H1 _ I1 q1) λu s2 ⟨y,H2,I2,r2,q2⟩=>?_;exact hf v u s2 x y H2 I2 r1 r2 q2
theorem RH {op:Operator}{r:R2}(ho:OpR X (binaryOp op) r) (ha:PE X a ta) (hb:PE X b tb):PE X (.BinOp a op b pos) (rV r ta tb):=by intro pins s σ H Q I h;exact wpAny_BinOp (AE ha hb I h λv u s2 x y H2 I2 rx ry q=>ho pins s2 σ H2 x y v u Q I2 rx ry q)
theorem RI {op:UnaryOp}{r:V->Hp->VK->Prop}(ho:vB X (unaryOp op) r) (ha:PE X a ta):PE X (.UnaryOp op a pos) (RG r ta):=by intro pins s σ H Q I h;exact UnaryOp_ (aW (ha pins s σ H _ I h) λv s1 ⟨x,H1,I1,r1,q1⟩=>ho pins s1 σ H1 x v Q I1 r1 q1)
theorem vC {f:af->af->Sem af}{C:Int->Int->Prop}{g:Int->Int->Int}
  (rule:∀(i j:Int) (t u:Tok) (s:ag) (Q:af->ag->Prop) (E:af->ag->Prop),C i j->Q (.int (g i j) s.toks) { s with toks:=s.toks+1 }->wpAny (model X.prog X.w) X.A (f (.int i t) (.int j u)) Q E s):
  OpR X f (rI C λi j=>.int (g i j)):=by
 intro pins s σ H x y v u Q I rx ry h;obtain⟨i,j,rfl,rfl,hc,q⟩:=h;obtain⟨t,rfl⟩:=rx;obtain⟨t',rfl⟩:=ry;exact rule i j t t' s _ _ hc ⟨.int (g i j),H,I.tok _,⟨_,rfl⟩,q⟩
theorem F2 {f:af->af->Sem af}{g:Int->Int->Int}
  (rule:∀(i j:Int) (t u:Tok) (s:ag) (Q:af->ag->Prop) (E:af->ag->Prop),Q (.int (g i j) s.toks) { s with toks:=s.toks+1 }->wpAny (model X.prog X.w) X.A (f (.int i t) (.int j u)) Q E s):
  OpR X f (jJ λi j=>.int (g i j)):=by
 intro pins s σ H x y v u Q I rx ry h;obtain⟨i,j,rfl,rfl,q⟩:=h;obtain⟨t,rfl⟩:=rx;obtain⟨t',rfl⟩:=ry;exact rule i j t t' s _ _ ⟨.int (g i j),H,I.tok _,⟨_,rfl⟩,q⟩
theorem vD {f:af->af->Sem af}{g:Int->Int->Bool}
  (rule:∀(i j:Int) (t u:Tok) (s:ag) (Q:af->ag->Prop) (E:af->ag->Prop),Q (.bool (g i j)) s->wpAny (model X.prog X.w) X.A (f (.int i t) (.int j u)) Q E s):
  OpR X f (jJ λi j=>.bl (g i j)):=by
 intro pins s σ H x y v u Q I rx ry h;obtain⟨i,j,rfl,rfl,q⟩:=h;obtain⟨t,rfl⟩:=rx;obtain⟨t',rfl⟩:=ry;exact rule i j t t' s _ _ ⟨.bl (g i j),H,I,rfl,q⟩
def AF (i j:Int):Prop:=0<=j/\j<=1000000/\i.natAbs<2 ^ 64
def CMul (i j:Int):Prop:=(-(2 ^ 64)<i/\i<2 ^ 64)∨(-(2 ^ 64)<j/\j<2 ^ 64)
theorem CMul.ok {i j:Int}(h:CMul i j):IntMulOk i j:=by
 rcases h with⟨h1,h2⟩|⟨h1,h2⟩
 ·exact .of_left (intBits_le_64 h1 h2)
 ·exact .of_right (intBits_le_64 h1 h2)
theorem op_add:OpR X (binaryOp .Add) (jJ λi j=>.int (i+j)):=F2 λ_ _ _ _ _ _ _ q=>add_int q
theorem RJ:OpR X (binaryOp .Sub) (jJ λi j=>.int (i - j)):=F2 λ_ _ _ _ _ _ _ q=>sub_int q
theorem RK:OpR X (binaryOp .Mult) (rI CMul λi j=>.int (i*j)):=vC λ_ _ _ _ _ _ _ hc q=>mul_int q hc.ok
theorem RM:OpR X (binaryOp .Mod) (rI (λ_ j=>0<j) λi j=>.int (i % j)):=vC λi j _ _ _ _ _ hc q=>by have h1:(0:Int)<j:=hc;exact mod_int' (by omega) (by rw[Int.fmod_eq_emod_of_nonneg i (by omega)];exact q)
theorem RN:OpR X (binaryOp .Pow) (rI AF λi j=>.int (i ^ j.toNat)):=vC λ_ _ _ _ _ _ _ hc q=>pow_int_small hc.1 hc.2.1 hc.2.2 q
theorem RO {f:af->Sem af}{g:Int->Int}
  (rule:∀(i:Int) (t:Tok) (s:ag) (Q:af->ag->Prop) (E:af->ag->Prop),Q (.int (g i) s.toks) { s with toks:=s.toks+1 }->wpAny (model X.prog X.w) X.A (f (.int i t)) Q E s):
  vB X f (rU λi=>.int (g i)):=by
 intro pins s σ H x v Q I rx h;obtain⟨i,rfl,q⟩:=h;obtain⟨t,rfl⟩:=rx;exact rule i t s _ _ ⟨.int (g i),H,I.tok _,⟨_,rfl⟩,q⟩
theorem RP:vB X (unaryOp .USub) (rU λi=>.int (-i)):=RO λ_ _ _ _ _ q=>neg_int q
end
section
variable{X:Cx}{a b c:bp}{ta tb tc:TE}{pos:Pos}
theorem F3:OpR X (compareOp .Lt) (jJ λi j=>.bl (decide (i<j))):=vD λ_ _ _ _ _ _ _ q=>lt_int q
theorem F5:OpR X (compareOp .LtE) (jJ λi j=>.bl (decide (i<=j))):=vD λ_ _ _ _ _ _ _ q=>le_int q
theorem RQ:OpR X (compareOp .Gt) (jJ λi j=>.bl (decide (j<i))):=vD λ_ _ _ _ _ _ _ q=>gt_int q
theorem RR:OpR X (compareOp .GtE) (jJ λi j=>.bl (decide (j<=i))):=vD λ_ _ _ _ _ _ _ q=>ge_int q
theorem OpR.or {f:af->af->Sem af}{r r':R2}(h:OpR X f r) (h':OpR X f r'):OpR X f (λx y H Q=>r x y H Q∨r' x y H Q):=by
 intro pins s σ H x y v u Q I rx ry q
 rcases q with q|q
 ·exact h pins s σ H x y v u Q I rx ry q
 ·exact h' pins s σ H x y v u Q I rx ry q
theorem mY (b:bp) {op:CmpOp}(h:op≠.In:=by decide) (h2:op≠.NotIn:=by decide):behindInMarks op b=false:=by
 have e1:(op==CmpOp.In)=false:=by cases op <;> first|rfl|exact absurd rfl h
 have e2:(op==CmpOp.NotIn)=false:=by cases op <;> first|rfl|exact absurd rfl h2
 cases b <;> simp[behindInMarks,e1,e2]
theorem RS {op:CmpOp}{r:R2}(ho:OpR X (compareOp op) r) (ha:PE X a ta) (hb:PE X b tb) (hm:behindInMarks op b=false):PE X (.Compare a [op] [b] pos) (rV r ta tb):=by intro pins s σ H Q I h;exact wpAny_Compare1 (AE ha hb I h λv u s2 x y H2 I2 rx ry q=>ho pins s2 σ H2 x y v u Q I2 rx ry q) hm
def RT (t:TE):TT:=λσ H Q=>t σ H λx H'=>∃k,x=.bl k/\Q k H'
theorem RU {op:CmpOp}{r:R2}(ho:OpR X (compareOp op) r) (ha:PE X a ta) (hb:PE X b tb) (hm:behindInMarks op b=false):PT X (.Compare a [op] [b] pos) (RT (rV r ta tb)):=by intro pins s σ H Q I h;refine wpAny_isTrue_Compare1 (aW (ha pins s σ H _ I h) λv s1 ⟨x,H1,I1,r1,q1⟩=>aW (hb pins s1 σ H1 _ I1 q1) λu s2 ⟨y,H2,I2,r2,q2⟩=>aW (ho pins s2 σ H2 x y v u _ I2 r1 r2 q2) λc s3 ⟨z,H3,I3,r3,k,e,q3⟩=>?_) hm;subst e;cases r3;exact lg ⟨H3,I3,q3⟩
def F6 (r r':R2) (ta tb tc:TE):TE:=λσ H Q=>ta σ H λx H1=>tb σ H1 λy H2=>r x y H2 λz H3=>∃k,z=.bl k /\
 (if k=true then tc σ H3 λw' H4=>r' y w' H4 Q else Q (.bl false) H3)
theorem RV {op op':CmpOp}{r r':R2}(ho:OpR X (compareOp op) r) (ho':OpR X (compareOp op') r') (ha:PE X a ta) (hb:PE X b tb) (hc:PE X c tc)
  (hm:lastMarks [op,op'] [b,c]=false:=by with_unfolding_all rfl):PE X (.Compare a [op,op'] [b,c] pos) (F6 r r' ta tb tc):=by
 intro pins s σ H Q I h;refine Compare_chain (aW (ha pins s σ H _ I h) λv s1 ⟨x,H1,I1,r1,q1⟩=>chain_link (aW (hb pins s1 σ H1 _ I1 q1) λu s2 ⟨y,H2,I2,r2,q2⟩=>aW (ho pins s2 σ H2 x y v u _ I2 r1 r2 q2) λd s3 ⟨z,H3,I3,r3,k,e,q3⟩=>?_)) hm;subst e;cases r3;refine lg ?_
 cases k with
 |false=>exact ite_ff ⟨.bl false,H3,I3,rfl,q3⟩
 |true=>exact ite_tt (chain_last (aW (hc pins s3 σ H3 _ I3 q3) λw' s4 ⟨z',H4,I4,r4,q4⟩=>ho' pins s4 σ H4 y z' u w' Q I4 r2 r4 q4))
def F7 (K:aq) (x:V) (H:Hp) (k:Bool):Prop:=
 match x with
 | .non=>k=false
 | .bl b=>k=b
 | .int i=>k=(i != 0)
 | .str y=>y.length<=ck/\k=((y.length:Int) != 0)
 | .byt y=>y.size<=ck/\k=((y.size:Int) != 0)
 | .ref p=>(∃xs,SqL K H p xs/\k=!xs.isEmpty)∨(∃xs,SqT K H p xs/\k=!xs.isEmpty)∨∃kvs,H p=some (.dK kvs)/\k=!kvs.isEmpty
 |_=>False
theorem RW {κ:Type}{kvs:List (κ×V)}{vs:List (κ×af)}(r:KV kvs vs):(!vs.isEmpty)=!kvs.isEmpty:=by cases r <;> rfl
theorem F8 {xs:List V}{its:List af}(r:Vals xs its):(!its.toArray.isEmpty)=!xs.isEmpty:=by cases r <;> simp
theorem pO:(ck:Nat)<2 ^ 63:=by rw[je];decide
theorem RX:RF X (λx H Q=>∃k,F7 X.K x H k/\Q k H):=by
 intro pins s σ H x v Q I rx h;obtain⟨k,e,q⟩:=h;have hl:=pO;have hs:ck=16777216:=je
 cases x with
 |non=>cases rx;have e':k=false:=e;subst e';exact truthy_none ⟨H,I,q⟩
 |bl b=>cases rx;have e':k=b:=e;subst e';exact lg ⟨H,I,q⟩
 |int i=>obtain⟨t,rfl⟩:=rx;have e':k=(i != 0):=e;subst e';exact PySem.P.truthy_int ⟨H,I,q⟩
 |str y=>obtain⟨t,rfl⟩:=rx;obtain⟨hy,e'⟩:y.length<=ck/\k=((y.length:Int) != 0):=e;subst e';exact PySem.P.truthy_str (by omega) ⟨H,I.tok _,q⟩
 |byt y=>obtain⟨t,rfl⟩:=rx;obtain⟨hy,e'⟩:y.size<=ck/\k=((y.size:Int) != 0):=e;subst e';exact PySem.W.truthy_bytes (by omega) ⟨H,I.tok _,q⟩
 |ref p=>
  cases rx;have e':(∃xs,SqL X.K H p xs/\k=!xs.isEmpty)∨(∃xs,SqT X.K H p xs/\k=!xs.isEmpty)∨∃kvs,H p=some (.dK kvs)/\k=!kvs.isEmpty:=e
  rcases e' with⟨xs,hx,e'⟩|⟨xs,hx,e'⟩|⟨kvs,hx,e'⟩
  ·subst e';obtain⟨its,r,pl,hz⟩:=I.list hx;have hlen:=r.length;exact wpAny_truthy_list pl.isList (by simp only[av];omega) ⟨H,I.tok _,by rw[F8 r];exact q⟩
  ·subst e';obtain⟨its,r,pl,hz⟩:=I.tuple hx;have hlen:=r.length;exact truthy_tuple pl (by simp only[av];omega) ⟨H,I.tok _,by rw[F8 r];exact q⟩
  ·subst e';obtain⟨hz,hS,vs,r,m⟩:kvs.length<=ck/\(p==sysModules)=false/\∃vs,KV kvs vs/\s.heap.DictOf (zU X.prog X.w) p vs:=I.hok p _ hx;have hlen:kvs.length=vs.length:=Paired.length r;exact wpAny_truthy_dict hS m (by omega) ⟨H,I.tok _,by rw[RW r];exact q⟩
 |_=>exact(show False from e).elim
theorem RY (ha:PE X a ta) (he:∀whole,isTrue a X.env whole=(do let v <-whole;standAt a.pos;holding [v] (truthy v))):
  PT X a (λσ H Q=>ta σ H λx H'=>∃k,F7 X.K x H' k/\Q k H'):=by
 intro pins s σ H Q I h;exact isTrue_plain (aW (ha pins s σ H _ I h) λv s1 ⟨x,H1,I1,r1,q1⟩=>RX pins s1 σ H1 x v Q I1 r1 q1) (he _)
theorem jK {x:V}{us:List af}(r:Vals [x] us):∃u,us=[u]/\RelV x u:=by
 cases r with
 |cons r1 r2=>cases r2;exact⟨_,rfl,r1⟩
theorem pP {x y:V}{us:List af}(r:Vals [x,y] us):∃u w',us=[u,w']/\RelV x u/\RelV y w':=by
 cases r with
 |cons r1 r2=>
  cases r2 with
  |cons r3 r4=>cases r4;exact⟨_,_,rfl,r1,r3⟩
theorem RZ (hc:X.calm=true):CallR X (.builtin "max") (λxs H Q=>∃i j,xs=[.int i,.int j]/\Q (.int (if j>i then j else i)) H):=by
 intro pins s σ H xs us Q I r h;obtain⟨i,j,rfl,q⟩:=h;obtain⟨u,w',rfl,⟨t,rfl⟩,⟨t',rfl⟩⟩:=pP r;refine max_two_ints (I.ok.hd hc) λh' tk k=>⟨_,H,I.kept k, ?_,q⟩
 by_cases hj:j>i
 ·rw[if_pos hj,if_pos hj];exact⟨_,rfl⟩
 ·rw[if_neg hj,if_neg hj];exact⟨_,rfl⟩
theorem R0 (hc:X.calm=true):CallR X (.builtin "min") (λxs H Q=>∃i j,xs=[.int i,.int j]/\Q (.int (if j<i then j else i)) H):=by
 intro pins s σ H xs us Q I r h;obtain⟨i,j,rfl,q⟩:=h;obtain⟨u,w',rfl,⟨t,rfl⟩,⟨t',rfl⟩⟩:=pP r;refine min_two_ints (I.ok.hd hc) λh' tk k=>⟨_,H,I.kept k, ?_,q⟩
 by_cases hj:j<i
 ·rw[if_pos hj,if_pos hj];exact⟨_,rfl⟩
 ·rw[if_neg hj,if_neg hj];exact⟨_,rfl⟩
end
section
variable{prog:bj}{w:cm}{A:cj}{E:af->ag->Prop}{s:ag}{K:aq}{x dx C f:ah}{mA:Str->Option af}{name:Str}{v:af}
end
section
variable{P:bj}{w:cm}{H H':Hp}{h h':cq}{a C dx:ah}{fs fs':List (Str×V)}
end
section
variable{X:Cx}{pins:List (ah×Obj)}{σ:St}{H:Hp}{s:ag}{a C dx:ah}{fs:List (Str×V)}{f:Str}{v:V}{A:cj}{E:af->ag->Prop}
end
section
variable{X:Cx}{o e value:bp}{f:Str}{pos pos' tpos:Pos}{ta tv:TE}
end
section
variable{X:Cx}{pins:List (ah×Obj)}{σ:St}{H:Hp}{s:ag}{A:cj}{E:af->ag->Prop}{Q:af->ag->Prop}{c:af}{b:Bool}
end
structure Room (k:Nat) (A:cj):Prop where
 hd:A.handled=none
 dp:A.depth+3*k+5<recursionLimit
 un:A.units+16*k+200<cLine
theorem Room.mono {j k:Nat}{A:cj}(r:Room k A) (h:j<=k):Room j A:=⟨r.hd,by have:=r.dp;omega,by have:=r.un;omega⟩
theorem Room.deeper {k:Nat}{A:cj}(r:Room (k+1) A) (env:Env):Room k (A.deeper env):=⟨r.hd,by have:=r.dp;show A.depth+1+3*k+5<_;omega,by have:=r.un;show A.units+3+16*k+200<_;omega⟩
theorem Room.depth {k:Nat}{A:cj}(r:Room k A):A.depth<recursionLimit:=by have:=r.dp;omega
theorem Room.units {k:Nat}{A:cj}(r:Room k A):A.units+64<cLine:=by have:=r.un;omega
def F9:TA:=λ_ H Q=>Q [] H
def GA (ta:TE) (tr:TA):TA:=λσ H Q=>ta σ H λx H1=>tr σ H1 λxs H2=>Q (x::xs) H2
section
variable{X:Cx}{e:bp}{es:List bp}{te:TE}{t:TA}{pos:Pos}
theorem jL:PA X [] F9:=λ_ _ _ _ H Q I h=>Calls.spliced_nil ⟨[],H,I,.nil,h⟩
theorem iA (ha:PE X e te) (hr:PA X es t) (hs:aw (e::es) X.env=(false,eval e X.env)::aw es X.env:=by rfl):PA X (e::es) (GA te t):=by intro pos pins s σ H Q I h;rw[hs];show wpAny _ _ (spliced ((false,eval e X.env)::backTo pos (aw es X.env))) _ _ s;refine Calls.spliced_cons (aW (ha pins s σ H _ I h) λu s1 ⟨x,H1,I1,r1,q1⟩=>?_);exact aW (hr pos pins s1 σ H1 _ I1 q1) λus s2 ⟨xs,H2,I2,r2,q2⟩=>⟨x::xs,H2,I2,.cons r1 r2,q2⟩
def R3 (t:TA):TE:=λσ H Q=>t σ H λxs H1=>xs.length<=ck/\∀p,H1 p=none->Q (.ref p) (aQ H1 p (.tup xs))
def R4 (t:TA):TE:=λσ H Q=>t σ H λxs H1=>xs.length<=ck/\∀p,H1 p=none->Q (.ref p) (aQ H1 p (.lst xs))
theorem GB {x1} (h:PA X es t):PE X (.Tuple es x1 pos) (R3 t):=by intro pins s σ H Q I hq;refine wpAny_Tuple_spliced (aW (h pos pins s σ H _ I hq) λus s1 ⟨xs,H1,I1,r,z,q⟩=>⟨by rw[<-r.length];exact z, ?_⟩);have hf:H1 s1.heap.objs.size=none:=I1.hok.fresh (ao _);refine⟨.ref s1.heap.objs.size,aQ H1 s1.heap.objs.size (.tup xs),I1.laid (t':=s1.toks) (λb u e=>ak _ e) (ao _) ?_,rfl,q _ hf⟩;exact⟨z,us,r,⟨_,bg _ rfl,rfl,rfl,_,rfl⟩⟩
theorem R5 (h:PA X es t):PE X (.List es pos) (R4 t):=by intro pins s σ H Q I hq;refine wpAny_List_spliced (aW (h pos pins s σ H _ I hq) λus s1 ⟨xs,H1,I1,r,z,q⟩=>⟨by rw[<-r.length];exact z, ?_⟩);have hf:H1 s1.heap.objs.size=none:=I1.hok.fresh (ao _);refine⟨.ref s1.heap.objs.size,aQ H1 s1.heap.objs.size (.lst xs),I1.laid (t':=s1.toks) (λb u e=>ak _ e) (ao _) ?_,rfl,q _ hf⟩;exact⟨z,us,0,r,bg _ rfl⟩
end
abbrev Sp:=List V->Hp->VK->XK->Prop
abbrev lY:=List Env->Hp->ag->XK->af->ag->Prop
structure Env0 (P:bj) (w:cm) (K:aq) (mg:Str->Option af) (base:cq) (A:cj) (outer:List Env) (s:ag) (H:Hp):Prop where
 frames:A.frames=some outer
 mod:Mod K mg base
 bs:∀b o,base.get? b=some o->s.heap.get? b=some o/\H b=none
 bsz:base.objs.size<=s.heap.objs.size
 funs:s.heap.FunFrames base outer
 frf:∀b∈dH outer,H b=none
 hok:HOk P w H s.heap
 bare:rz s.gens
def CE (outer:List Env) (P:bj) (w:cm) (H:Hp) (s:ag) (Q:VK) (u:af) (s':ag):Prop:=∃v H',s'.os=s.os/\rz s'.gens/\Un (dH outer) [] H H' s.heap s'.heap/\HOk P w H' s'.heap/\RelV v u/\Q v H'
def CR (CX:lY) (outer:List Env) (P:bj) (w:cm) (H:Hp) (s:ag) (Q:VK) (E:XK) (r:yj) (s':ag):Prop:=
 match r with
 | .ok (.ret u)=>CE outer P w H s Q u s'
 | .ok _=>False
 | .error e=>CX outer H s E e s'
structure FnOk (P:bj) (w:cm) (K:aq) (mg:Str->Option af) (base:cq) (CX:lY) (k:Nat) (f:ah) (fd:bq) (ps:List Str) (sp:Sp):Prop where
 len:∀vs H Q E,sp vs H Q E->vs.length=ps.length
 run:∀(A:cj) (outer:List Env) (s:ag) (H:Hp) (args:Args) (us:List af) (vs:List V) (Q:VK) (E:XK),Room k A->Env0 P w K mg base A outer s H->Ag s fd args (ps.zip us)->Vals vs us->sp vs H Q E->
  codeAny (model P w) A (.call (.ref f) args) (CR CX outer P w H s Q E) s
section
variable{X:Cx}{pins:List (ah×Obj)}{σ:St}{H:Hp}{s s':ag}
theorem Inv.env0 (I:Inv X pins σ H s):Env0 X.prog X.w X.K X.mg X.base X.A X.stack s H:=⟨I.ok.frames,I.ok.mod,I.bs,cu I.ok.bsz I.sz,I.stack,I.stkFree,I.hok,I.bare⟩
theorem Inv.after {Q:VK}{u:af}(I:Inv X pins σ H s) (h:CE X.stack X.prog X.w H s Q u s'):EP X pins σ Q u s':=by obtain⟨v,H',os,bare,un,hok,r,q⟩:=h;obtain⟨hh,g,d,t,os'⟩:=s';obtain rfl:os'=s.os:=os;exact⟨v,H',I.call (h':=hh) (g':=g) (d':=d) (t':=t) (ch:=[]) un hok bare (λb z=>absurd z (by simp)),r,q⟩
end
def R6 (sp:Sp) (dvs:List V) (E:XK) (t:TA):TE:=λσ H Q=>t σ H λvs H1=>sp (vs++dvs) H1 Q E
def Binds (K:aq) (fd:bq) (ps:List Str) (ds:List af):Prop:=∀(s:ag) (us:List af),K.In s.heap->(us++ds).length=ps.length->Ag s fd ⟨us,[]⟩ (ps.zip (us++ds))
theorem Binds.all {K:aq}{fd:bq}{ps:List Str}(h:∀us:List af,us.length=ps.length->bindArgs fd ⟨us,[]⟩=pure (ps.zip us)):Binds K fd ps []:=λs us _ hl=>by rw[ow]at hl ⊢;exact .of_eq (h us hl)
def AG (CX:lY) (X:Cx) (E:XK):Prop:=∀(pins:List (ah×Obj)) (σ:St) (H:Hp) (s:ag) (e:af) (s':ag),Inv X pins σ H s->CX X.stack H s E e s'->X.xe e s'
section
variable{X:Cx}{CX:lY}{k:Nat}{f C:ah}{fd:bq}{ps:List Str}{sp:Sp}{dvs:List V}{ds:List af}{E:XK}{x m:Str}{p pos apos:Pos}{e o:bp}{es:List bp}{ta:TE}{t:TA}
theorem R7 {pins:List (ah×Obj)}{σ:St}{H:Hp}{s:ag}{Q:VK}{us:List af}{vs:List V}(F:FnOk X.prog X.w X.K X.mg X.base CX k f fd ps sp) (hr:Room k X.A) (hb:Binds X.K fd ps ds) (hd:Vals dvs ds) (hx:AG CX X E)
  (I:Inv X pins σ H s) (r:Vals vs us) (h:sp (vs++dvs) H Q E):wpAny (model X.prog X.w) X.A (call (.ref f) us) (EP X pins σ Q) X.xe s:=by
 have r2:Vals (vs++dvs) (us++ds):=r.append hd;have hl:(us++ds).length=ps.length:=by rw[<-r2.length];exact F.len _ _ _ _ h
 refine wpAny_call (qf (F.run X.A X.stack s H ⟨us,[]⟩ (us++ds) (vs++dvs) Q E hr I.env0 (hb s us I.kIn hl) r2 h) λr s' hq=>?_)
 cases r with
 |error e=>exact hx pins σ H s e s' I hq
 |ok fl=>
  cases fl with
  |ret u=>exact I.after hq
  |next=>exact iu hq
  |brk=>exact iu hq
  |cont=>exact iu hq
theorem GC (F:FnOk X.prog X.w X.K X.mg X.base CX k f fd ps sp) (hr:Room k X.A) (hg:Gl X x) (hm:X.mg x=some (.ref f)) (hk:ju X.K (.ref f)=true) (hb:Binds X.K fd ps ds) (hd:Vals dvs ds) (hx:AG CX X E)
  (ha:PA X (e::es) t) (hdb:(x==("__debug__" : Str))=false:=by decide) (he:aw (e::es) X.env=(false,eval e X.env)::aw es X.env:=by rfl) (hpl:(backTo pos (aw es X.env)).any (·.1)=false:=by rfl):
  PE X (.Call (.Name x p) (e::es) [] pos) (R6 sp dvs E t):=by
 intro pins s σ H Q I h;refine qt (uZ I hg hm ?_ hdb);refine PySem.W.callWith_K (h₀:=X.base) I.ok.mod.kin hk (aW (ha pos pins s σ H _ I h) λus s1 ⟨vs,H1,I1,r,q⟩=>⟨I1.kIn, ?_⟩) he hpl;exact R7 F hr hb hd hx I1 r q
end
section
variable{X:Cx}{CX:lY}{k:Nat}{f C:ah}{fd:bq}{ps ks:List Str}{sp:Sp}{E:XK}{x m:Str}{p pos apos kpos:Pos}{e o:bp}{es:List bp}{kws:List Keyword}{te ta:TE}{t tk:TA}{nm:Option Str}
variable{g:List af->List af->List af}{gV:List V->List V->List V}
end
structure FnScope (N P:List Str) (sc:fq):Prop where
 kind:sc.kind=.function
 co:sc.isCoroutine=false
 gen:sc.isGenerator=false
 nd:N.Nodup
 pre:N.take P.length=P
 par:∀x∈P,sc.names.lookup x=some .local∨sc.names.lookup x=some .cell
 nofree:∀y∈sc.names,y.2≠.free
theorem GD {kindOf:Str->Option kg}{x:Str}:∀{binds:List (Str×af)}{m:Str->Option af},(∀v,(x,v)∉binds)->bindL kindOf binds m x=m x
 | [],_,_=>rfl
 |(n,v)::r,m,h=>by
  unfold bindL;rw[GD λw hw=>h w (ax _ hw)]
  split
  ·have:x≠n:=by rintro rfl;exact h v bo
   simp[this]
  ·rfl
theorem GF {kindOf:Str->Option kg}{x:Str}:∀{binds:List (Str×af)}{m:Str->Option af},(∀v,(x,v)∉binds)->bindC kindOf binds m x=m x
 | [],_,_=>rfl
 |(n,v)::r,m,h=>by
  unfold bindC;rw[GF λw hw=>h w (ax _ hw)]
  split
  ·rfl
  ·have:x≠n:=by rintro rfl;exact h v bo
   simp[this]
theorem GG {kindOf:Str->Option kg}{x:Str}{v:af}:∀{P:List Str}{vs:List af}{i:Nat}{m:Str->Option af},P.Nodup->P[i]?=some x->vs[i]?=some v->kindOf x=some .local->
  bindL kindOf (P.zip vs) m x=some v
 | [],_,_,_,_,h,_,_=>by simp at h
 |_::_,[],_,_,_,_,h,_=>by simp at h
 |p::P,w::vs,0,m,nd,h1,h2,hk=>by simp at h1 h2;subst h1;subst h2;show bindL kindOf ((p,w)::P.zip vs) m p=_;unfold bindL;rw[GD λv hv=>(jo.mp nd).1 (wo hv).1,if_pos hk];simp
 |p::P,w::vs,i+1,m,nd,h1,h2,hk=>by show bindL kindOf ((p,w)::P.zip vs) m x=_;unfold bindL;exact GG (i:=i) (jo.mp nd).2 (by simpa using h1) (by simpa using h2) hk
theorem GH {kindOf:Str->Option kg}{x:Str}{v:af}:∀{P:List Str}{vs:List af}{i:Nat}{m:Str->Option af},P.Nodup->P[i]?=some x->vs[i]?=some v->kindOf x≠some .local->
  bindC kindOf (P.zip vs) m x=some v
 | [],_,_,_,_,h,_,_=>by simp at h
 |_::_,[],_,_,_,_,h,_=>by simp at h
 |p::P,w::vs,0,m,nd,h1,h2,hk=>by simp at h1 h2;subst h1;subst h2;show bindC kindOf ((p,w)::P.zip vs) m p=_;unfold bindC;rw[GF λv hv=>(jo.mp nd).1 (wo hv).1,if_neg hk];simp
 |p::P,w::vs,i+1,m,nd,h1,h2,hk=>by show bindC kindOf ((p,w)::P.zip vs) m x=_;unfold bindC;exact GH (i:=i) (jo.mp nd).2 (by simpa using h1) (by simpa using h2) hk
def start (N:List Str) (vs:List V):St:=vs.map some++br (N.length - vs.length) none
def eQ (CX:lY) (P:bj) (w:cm) (K:aq) (mg:Str->Option af) (base:cq) (N:List Str) (qual:Str) (scope:fq) (f:ah) (cd:af) (A:cj) (outer:List Env) (s:ag) (H:Hp) (E:XK):Cx where
 prog:=P
 w:=w
 K:=K
 mg:=mg
 base:=base
 A:=A.deeper (envOfC qual scope s.heap.objs.size f cd)
 N:=N
 s₀:=s
 H₀:=H
 env:=envOfC qual scope s.heap.objs.size f cd
 outer:=outer
 stack:=envOfC qual scope s.heap.objs.size f cd::outer
 ex:=[]
 calm:=true
 fn:=λ_=>true
 pn:=[]
 xe:=λe s'=>wpAny (model P w) (A.deeper (envOfC qual scope s.heap.objs.size f cd)) (leaving (envOfC qual scope s.heap.objs.size f cd) e) (λ_ s''=>CX outer H s E e s'') (λe' s''=>CX outer H s E e' s'') s'
theorem GI {sc:fq}{n:Nat}{x:Str}(h:sc.names.lookup x=some .cell):∃c,(cellsFrom n sc.names []).lookup x=some c:=by have q:=yk sc.names n [] (.inl h);exact xh.mp q
theorem R8 {CX:lY}{P:bj}{w:cm}{K:aq}{mg:Str->Option af}{base:cq}{N ps:List Str}{qual:Str}{scope:fq}{f:ah}{cd:af}{A:cj}{outer:List Env}{s s1:ag}{H:Hp}{E:XK}{us:List af}{vs:List V}
  (S:FnScope N ps scope) (hd:A.handled=none) (e0:Env0 P w K mg base A outer s H) (hl:vs.length=ps.length) (r:Vals vs us)
  (x:InCallC s s.heap.objs.size (bindL (envOfC qual scope s.heap.objs.size f cd).kindOf (ps.zip us) λ_=>none) (cellsFrom (s.heap.objs.size+1) scope.names []) (bindC (envOfC qual scope s.heap.objs.size f cd).kindOf (ps.zip us) λ_=>none) s1):
  Inv (eQ CX P w K mg base N qual scope f cd A outer s H E) [] (start N vs) H s1:=by
 have hpl:ps.length<=N.length:=by have:=congrArg qg S.pre;rw[jk]at this;omega
 obtain⟨h1,tk,rfl,hk⟩:=x.done;have noA:∀b:ah,b∉(eQ CX P w K mg base N qual scope f cd A outer s H E).ex:=λb z=>absurd (show b∈([]:List ah) from z) (by simp);refine⟨⟨e0.mod,S.kind,rfl,rfl,ao _,λy z c h1 h2=>?_,λy hy=>?_,λy c _ h=>?_,λ_=>hd,Ah e0.frames,.inr ⟨rfl,rfl⟩,λb z=>absurd z (noA b),e0.bs,e0.bsz,λb _ _=>noA b,λb z=>absurd z (noA b),e0.funs,e0.frf⟩,
  rfl,e0.bare,Un.kept hk,⟨_,x.toInCall.ns,λi y v h1 h2 h3=>?_⟩,λy c h=>⟨_,x.cell y c h⟩,e0.hok.fresh (ao _),λy c h=>?_,λp hp=>absurd (show p∈([]:List (ah×Obj)) from hp) (by simp),e0.hok.kept hk, ?_⟩
 ·exact name_of_addr x.apart (fg h1) (fg h2)
 ·have hy:scope.names.lookup y=some .cell∨scope.names.lookup y=some .free:=hy
  rcases hy with hy|hy
  ·exact GI hy
  ·exact absurd rfl (S.nofree _ (fg hy))
 ·exact gh (x.above y c (fg h))
 ·have hi:i<vs.length:=by
   unfold start at h2
   by_cases hi:i<vs.length
   ·exact hi
   ·rw[fh (by simpa using hi)]at h2;rw[qv]at h2
    split at h2 <;> cases h2
  have ha:vs[i]?=some v:=by
   unfold start at h2;rw[du (by simpa using hi),df]at h2
   cases e:vs[i]? with
   |none=>rw[e]at h2;cases h2
   |some a=>rw[e]at h2;cases h2;rfl
  obtain⟨u,hu,rv⟩:=r.get ha;have hp:ps[i]?=some y:=by rw[<-S.pre,zq (by omega)];exact h1
  have ndP:ps.Nodup:=by rw[<-S.pre];exact S.nd.sublist (List.take_sublist _ _)
  refine⟨u,rv, ?_⟩
  rcases S.par y (cb hp)with k|k
  ·exact .inl ⟨k,GG ndP hp hu k⟩
  ·obtain⟨c,e⟩:=GI (n:=s.heap.objs.size+1) k;refine .inr ⟨.inl k,c,e, ?_⟩;have q:=x.cell y c e;rw[GH ndP hp hu (by show scope.names.lookup y≠_;rw[k];decide)]at q;exact q
 ·exact e0.hok.fresh (gh (x.above y c (fg h)))
 ·unfold start;show _=N.length;rw[bx,bh,An];omega
theorem vE {CX:lY}{P:bj}{w:cm}{K:aq}{mg:Str->Option af}{base:cq}{k:Nat}{f:ah}{name qual:Str}{params:jw}{body:List gy}{scope:fq}{dV kV doc pm cdv ct oc:af}{an od:Option ah}
  {osl:Array (Option af)}{N ps:List Str}{sp:Sp}(lk:K.lookup f=some ⟨oc,od,.func (ou name qual params body scope dV kV doc pm an cdv ct),osl⟩) (hcd:wj K cdv qual=true) (S:FnScope N ps scope)
  (len:∀vs H Q E,sp vs H Q E->vs.length=ps.length)
  (hbody:∀(A:cj) (outer:List Env) (s:ag) (H:Hp) (vs:List V) (Q:VK) (E:XK),Room k (A.deeper (envOfC qual scope s.heap.objs.size f cdv))->sp vs H Q E->
   ∃t,PSs (eQ CX P w K mg base N qual scope f cdv A outer s H E) body t/\t { nx:=λ_ H'=>Q .non H',rt:=Q } (start N vs) H):
  FnOk P w K mg base CX (k+1) f (ou name qual params body scope dV kV doc pm an cdv ct) ps sp:=by
 refine⟨len,λA outer s H args us vs Q E hr e0 hb r hsp=>?_⟩;have hl:=len _ _ _ _ hsp;have KX:K.In s.heap:=e0.mod.kin.keeps λb o e=>(e0.bs b o e).1;have lim:s.heap.NoLimit:=e0.mod.nolimit.keeps λb o e=>(e0.bs b o e).1;have hkind:∀y∈ps.zip us,scope.names.lookup y.1=some .local∨(scope.names.lookup y.1=some .cell/\((cellsFrom (s.heap.objs.size+1) scope.names []).lookup y.1).isSome=true):=λ⟨n,v⟩ hy=>by
  rcases S.par n (wo hy).1 with q|q
  ·exact .inl q
  ·exact .inr ⟨q,yk _ _ _ (.inl q)⟩
 refine codeAny_call_function hr.depth (KX _ _ lk) rfl S.co S.gen rfl (PySem.W.codeRec_of KX hcd) (hb _ _ _ _ ?_);refine wpAny_newFunctionEnv_cells S.kind hkind λenv he s1 x=>?_;subst he;refine⟨lim.keeps x.toInCall.keep,codeAny_func ?_⟩;obtain⟨t,ht,hq⟩:=hbody A outer s H vs Q E (hr.deeper _) hsp;have I:Inv (eQ CX P w K mg base N qual scope f cdv A outer s H E) [] (start N vs) H s1:=R8 S hr.hd e0 hl r x;refine jx (ht [] s1 (start N vs) H _ I hq) (λfl s' hs=>?_) λe s' hs=>hs;have fin:∀{σ':St}{H':Hp}{v:V}{u:af},Inv (eQ CX P w K mg base N qual scope f cdv A outer s H E) [] σ' H' s'->RelV v u->Q v H'->CE outer P w H s Q u s':=λ{σ' H' v u} J rv q=>⟨v,H',J.os,J.bare,J.base,J.hok,rv,q⟩
 cases fl with
 |ret u=>obtain⟨v,σ',H',J,rv,q⟩:=hs;exact fin J rv q
 |next=>obtain⟨σ',H',J,q⟩:=hs;exact fin (v:=V.non) (u:=jm) J rfl q
 |brk=>obtain⟨_,_,_,q⟩:=hs;exact iu q
 |cont=>obtain⟨_,_,_,q⟩:=hs;exact iu q
section
variable{X:Cx}{x:Str}{p pos:Pos}{e:bp}{es:List bp}{t:TA}{id T:String}{r:List V->Hp->VK->Prop}
def vF (r:List V->Hp->VK->Prop) (t:TA):TE:=λσ H Q=>t σ H λvs H1=>r vs H1 Q
theorem rW (hc:CallR X (.builtin id) r) (hg:Gl X x) (hm:X.mg x=none) (hv:dv x=some (.builtin id)) (ha:PA X (e::es) t) (hn:x ≠ "__name__" := by decide) (hdb:(x==("__debug__" : Str))=false:=by decide)
  (he:aw (e::es) X.env=(false,eval e X.env)::aw es X.env:=by rfl) (hpl:(backTo pos (aw es X.env)).any (·.1)=false:=by rfl):PE X (.Call (.Name x p) (e::es) [] pos) (vF r t):=by
 intro pins s σ H Q I h;refine qt (oO I hg hm hv ?_ hn hdb);exact PyProof.Rows.callWith_builtin1 (aW (ha pos pins s σ H _ I h) λus s1 ⟨vs,H1,I1,r1,q1⟩=>hc pins s1 σ H1 vs us Q I1 r1 q1) he hpl
theorem vG (hc:CallR X (.type T) r) (hg:Gl X x) (hm:X.mg x=none) (hv:dv x=some (.type T)) (ha:PA X (e::es) t) (hn:x ≠ "__name__" := by decide) (hdb:(x==("__debug__" : Str))=false:=by decide)
  (he:aw (e::es) X.env=(false,eval e X.env)::aw es X.env:=by rfl) (hpl:(backTo pos (aw es X.env)).any (·.1)=false:=by rfl):PE X (.Call (.Name x p) (e::es) [] pos) (vF r t):=by
 intro pins s σ H Q I h;refine qt (oO I hg hm hv ?_ hn hdb);exact jb (aW (ha pos pins s σ H _ I h) λus s1 ⟨vs,H1,I1,r1,q1⟩=>hc pins s1 σ H1 vs us Q I1 r1 q1) he hpl
end
end L2
namespace HT
open PySem PyProof.Rows
def lexLt:List Int->List Int->Bool
 | [],[]=>false
 | [],_::_=>true
 |_::_,[]=>false
 |x::xs,y::ys=>if x=y then lexLt xs ys else decide (x<y)
theorem lexLt_cons (x y:Int) (xs ys:List Int):lexLt (x::xs) (y::ys)=if x=y then lexLt xs ys else decide (x<y):=rfl
theorem R9:lexLt [] []=false:=rfl
theorem SA (y:Int) (ys:List Int):lexLt [] (y::ys)=true:=rfl
theorem SD (x:Int) (xs:List Int):lexLt (x::xs) []=false:=rfl
theorem SE (A:cj) (s:ag) (a:Int) (t:Tok) (c:Int) (u:Tok):∃e,um A s (.int a t) (.int c u) e/\(e=true↔a=c):=⟨(a==c),tu a t c u,by simp⟩
theorem SF (A:cj) (s:ag) (a:Int) (t:Tok) (c:Int) (u:Tok) (prog:bj) (w:cm) (E:af->ag->Prop) (Q:af->ag->Prop) (h:Q (.bool (decide (a<c))) s):
  wpAny (model prog w) A (richCompare .Lt (.int a t) (.int c u)) Q E s:=
 (wt h:wpAny (model prog w) A (compareOp .Lt (.int a t) (.int c u)) Q E s)
section
open PySem.SeqAt
open PySem.AutoSeq1 (wpAny_loadPart')
open PySem.MeetsSeq PySem.MeetsSeq2 PySem.MeetsSeq3
theorem SG (l b:ah) (items items2:Array af) (n n2:Nat) (dd dd2:Option ah) (sl sl2:Array (Option af)) (ns ms:List Int) (hi:lh items.toList ns) (hj:lh items2.toList ms):
  Meets (my.«tuple.__lt__» ⟨[.ref l,.ref b],[]⟩)
   (λ_ R s=>s.heap.get? l=some { cls:=.type "tuple",dict:=dd,data:=.seq items n,slots:=sl }/\s.heap.get? b=some { cls:=.type "tuple",dict:=dd2,data:=.seq items2 n2,slots:=sl2 } /\
    R (.ok (.ret (.bool (lexLt ns ms)))) s):=
 .of_wp λprog w A R s h=>by
  obtain⟨hp,g,d,tk,os⟩:=s;obtain⟨hl,hb,h⟩:=h;have f2:=AutoSeq1.sub_tuple_tuple;have z1:items.size=ns.length:=by rw[<-hi.length];simp
  have z2:items2.size=ms.length:=by rw[<-hj.length];simp
  wp_walk using wpAny_loadPart' hl,wpAny_loadPart' hb,ua _ (λrest b s'=>b.1=none/\s'=⟨hp,g,d,tk,os⟩/\∃(vs ws:List af) (ns' ms':List Int),rest=vs.zip ws /\
   lh vs ns'/\lh ws ms'/\ns'.length+items2.size=ms'.length+items.size/\R (.ok (.ret (.bool (lexLt ns' ms')))) ⟨hp,g,d,tk,os⟩) _
  case turn=>
   rintro ⟨y,x⟩ rest b s' ⟨hb',rfl,vs,ws,ns',ms',hz,hvi,hwi,hlen,hR⟩
   cases hvi with
   |nil=>rw[List.zip_nil_left]at hz;cases hz
   |cons a t hvi'=>
    cases hwi with
    |nil=>rw[List.zip_nil_right]at hz;cases hz
    |cons c u hwi'=>
     rw[ux]at hz;injection hz with hyx hrest;injection hyx with hy hx;subst hy hx;rw[lexLt_cons]at hR;simp only[dg]at hlen;obtain⟨e,he,hiff⟩:=SE A.in1 ⟨hp,g,d,tk,os⟩ a t c u;refine ae (he prog w _ _ ?_)
     cases e with
     |true=>
      rw[if_pos (hiff.mp rfl)]at hR
      wp_walk
      exact⟨rfl,rfl,_,_,_,_,hrest,hvi',hwi',by omega,hR⟩
     |false=>
      rw[if_neg (λq=>absurd (hiff.mpr q) gp)]at hR;have hri:=SF A.in1 ⟨hp,g,d,tk,os⟩ a t c u prog w
      wp_walk using hri
      exact⟨_,rfl,by simpa using hR⟩
  case fin=>
   rintro ⟨b1,b2⟩ s' ⟨hb',rfl,vs,ws,ns',ms',hz,hvi,hwi,hlen,hR⟩
   simp only at hb';subst hb';have hv:lexLt ns' ms'=decide (items.size<items2.size):=by
    cases hvi with
    |nil=>
     cases hwi with
     |nil=>simp only[oz]at hlen;rw[R9];exact(decide_eq_false (by omega)).symm
     |cons c u hw=>simp only[oz,dg]at hlen;rw[SA];exact(decide_eq_true (by omega)).symm
    |cons a t hv=>
     cases hwi with
     |nil=>simp only[oz,dg]at hlen;rw[SD];exact(decide_eq_false (by omega)).symm
     |cons c u hw=>rw[ux]at hz;cases hz
   rw[hv]at hR
   wp_walk
   exact⟨_,rfl,by simpa[Builtin.Tuple.tupleCompareSizes]using hR⟩
  case h=>exact⟨rfl,rfl,items.toList,items2.toList,ns,ms,rfl,hi,hj,by omega,h⟩
end
section
variable{prog:bj}{w:cm}{A:cj}{E:af->ag->Prop}{s:ag}
theorem lt_tupInts {l b:ah}{items items2:Array af}{ns ms:List Int}{Q:af->ag->Prop}(hl:IsTup s.heap l items) (hb:IsTup s.heap b items2) (hi:lh items.toList ns) (hj:lh items2.toList ms)
  (hu:A.units<cLine) (h:Q (.bool (lexLt ns ms)) s):wpAny (model prog w) A (compareOp .Lt (.ref l) (.ref b)) Q E s:=by
 obtain⟨⟨cls,dd,data,sl⟩,ho,hc,n,hd⟩:=id hl;obtain⟨⟨cls2,dd2,data2,sl2⟩,ho2,hc2,n2,hd2⟩:=id hb;simp only at hc hd hc2 hd2;subst hc hd hc2 hd2;exact richCompare_meets_room (op:=.Lt) ⟨_,ho,rfl⟩ ⟨_,ho2,rfl⟩ PySem.F.slot_tuple_lt PySem.F.entry_tuple_lt (PySem.F.args_tuple_lt_2 _ _) (SG l b items items2 n n2 dd dd2 sl sl2 ns ms hi hj)
  ⟨ho,ho2,show Be (lexLt ns ms)≠Value.notImplemented/\Q (.bool (lexLt ns ms)) s from⟨(λx=>nomatch x),h⟩⟩ hu
theorem cat_tup {t b:ah}{vs ws:List af}{Q:af->ag->Prop}(ht:IsTup s.heap t vs.toArray) (hb:IsTup s.heap b ws.toArray) (hv:vs≠[])
  (h1:ws=[]->Q (.ref t) s) (h2:ws≠[]->Q (.ref s.heap.objs.size) { s with heap:=s.heap.push { cls:=.type "tuple",data:=.seq (vs++ws).toArray } })
  (hsz:vs.length+ws.length<=ck):wpAny (model prog w) A (binaryOp .Add (.ref t) (.ref b)) Q E s:=by
 obtain⟨⟨cls,dd,data,sl⟩,ho,hc,n,hd⟩:=id ht;obtain⟨⟨cls2,dd2,data2,sl2⟩,ho2,hc2,n2,hd2⟩:=id hb;simp only at hc hd hc2 hd2;subst hc hd hc2 hd2;have e:vs.toArray++ws.toArray=(vs++ws).toArray:=by simp
 by_cases hw:ws=[]
 ·exact concat_meets ⟨_,ho,rfl⟩ ⟨_,ho2,rfl⟩ ym Bg qu qh (pz _ _)
   (tuple_addW1 t b vs.toArray ws.toArray n n2 dd dd2 sl sl2 (by simpa using hv) (by simp[hw])) ⟨ho,ho2,h1 hw⟩
 ·refine concat_meets ⟨_,ho,rfl⟩ ⟨_,ho2,rfl⟩ ym Bg qu qh (pz _ _)
   (tuple_addW2 t b vs.toArray ws.toArray n n2 dd dd2 sl sl2 (by simpa using hv) (by simpa using hw) (by rw[av,av];exact hsz)) ⟨ho,ho2, ?_⟩
  rw[e];exact h2 hw
def sIx (n d:Nat):Option Int->Nat
 |none=>d
 |some v=>if v<0 then(v+(n:Int)).toNat else min v.toNat n
theorem sIx_none (n d:Nat):sIx n d none=d:=rfl
theorem sIx_nat (n d k:Nat):sIx n d (some (k:Int))=min k n:=by show(if(k:Int)<0 then((k:Int)+(n:Int)).toNat else min (k:Int).toNat n)=min k n;rw[if_neg (by omega),fe]
theorem SH (n d:Nat) (hd:d<=n) (o:Option Int):sIx n d o<=n:=by
 cases o with
 |none=>exact hd
 |some v=>
  show(if v<0 then(v+(n:Int)).toNat else min v.toNat n)<=n
  by_cases hv:v<0
  ·rw[if_pos hv];omega
  ·rw[if_neg hv];exact Nat.min_le_right _ _
theorem GJ (v:Int) (n d:Nat):(if v<0 then max (v+(n:Int)) 0 else min v (n:Int))=((sIx n d (some v):Nat):Int):=by
 show(if v<0 then max (v+(n:Int)) 0 else min v (n:Int))=(((if v<0 then(v+(n:Int)).toNat else min v.toNat n):Nat):Int)
 by_cases hv:v<0
 ·simp only[if_pos hv];omega
 ·simp only[if_neg hv];omega
theorem SI (lo hi:Option Int) (n:Nat):oh lo hi 1 (n:Int)=(((sIx n 0 lo:Nat):Int),((sIx n n hi:Nat):Int)):=by
 have h1:¬ ((1:Int)<0):=by omega
 unfold oh;simp only[h1,if_false];refine Prod.ext ?_ ?_
 ·cases lo with
  |none=>rfl
  |some v=>exact GJ v n 0
 ·cases hi with
  |none=>rfl
  |some v=>exact GJ v n n
theorem SJ (i j:Nat):kh (i:Int) (j:Int) 1=j - i:=by
 unfold kh;have h1:(1:Int)>0:=by omega
 simp only[h1,if_true,Int.ediv_one]
 split <;> omega
theorem GK {v:af}{o:Option Int}{Q:Option Int->ag->Prop}(p:uz v o) (h:Q o s):wpAny (model prog w) A (Builtin.Slice.slicePartIndex v) Q E s:=by
 cases p with
 |none=>exact slicePart_none h
 |int i t=>exact slicePart_int h
theorem sliceApplied_gen {sl:ah}{vl vu:af}{lo hi:Option Int}{n:Nat}{Q:Int×Int×Nat->ag->Prop}(hs:s.heap.IsSliceOf sl vl vu .none) (pl:uz vl lo) (pu:uz vu hi)
  (h:Q (((sIx n 0 lo:Nat):Int),1,sIx n n hi - sIx n 0 lo) s):wpAny (model prog w) A (uq (.ref sl) (pure (n:Int))) Q E s:=by
 obtain⟨os,hos,hcs,hds⟩:=id hs;unfold uq Builtin.Slice.sliceFields;refine ae (ae (fv hos hds (x:=vl) rfl (ae (fv hos hds (x:=vu) rfl (ae (fv hos hds (x:=.none) rfl (aj ?_)))))));refine ae (slicePart_none ?_);show wpAny _ _ (if((1:Int)==0)=true then _ else _) _ _ s;rw[if_neg (by decide)];refine ae (GK pl (ae (GK pu (ae (aj ?_)))));show wpAny _ _ (match oh lo hi 1 (n:Int)with|(lo,hi)=>pure (lo,(1:Int),kh lo hi 1)) _ _ s;rw[SI lo hi n];show wpAny _ _ (pure (((sIx n 0 lo:Nat):Int),(1:Int),kh ((sIx n 0 lo:Nat):Int) ((sIx n n hi:Nat):Int) 1)) _ _ s;rw[SJ];exact aj h
theorem SK (xs:Array af) (i k:Nat):((ba k).filterMap λ(m:Nat)=>xs[((i:Int)+(m:Int)*1).toNat]?).toArray=((xs.toList.drop i).take k).toArray:=by
 have e:(λ(m:Nat)=>xs[((i:Int)+(m:Int)*1).toNat]?)=λm=>xs[i+m]?:=by
  funext m
  have:((i:Int)+(m:Int)*1).toNat=i+m:=by omega
  rw[this]
 rw[e];have:=pick_run xs i k;rw[List.filterMap_map]at this;have e2:((λx=>xs[x]?)∘λx=>i+x)=λm=>xs[i+m]?:=rfl;rw[e2]at this;rw[this]
theorem getItem_tuple_cut {t sl:ah}{items:Array af}{vl vu:af}{lo hi:Option Int}{Q:af->ag->Prop}(ht:IsTup s.heap t items) (hs:s.heap.IsSliceOf sl vl vu .none) (pl:uz vl lo) (pu:uz vu hi)
  (hw:¬ (sIx items.size 0 lo=0/\sIx items.size items.size hi=items.size))
  (h:Q (.ref s.heap.objs.size) { s with heap:=s.heap.push { cls:=.type "tuple",data:=.seq ((items.toList.drop (sIx items.size 0 lo)).take (sIx items.size items.size hi - sIx items.size 0 lo)).toArray } })
  (hsz:items.size<=ck):wpAny (model prog w) A (getItem (.ref t) (.ref sl)) Q E s:=by
 have htake:sizeOk (.seq ((items.toList.drop (sIx items.size 0 lo)).take (sIx items.size items.size hi - sIx items.size 0 lo)).toArray):=by show((items.toList.drop (sIx items.size 0 lo)).take (sIx items.size items.size hi - sIx items.size 0 lo)).toArray.size<=ck;rw[av,jk,nu,lj];omega
 have hj:sIx items.size items.size hi<=items.size:=SH _ _ (ao _) hi;obtain⟨os,hos,hcs,hds⟩:=id hs;have hTs:s.TypeIs (.ref sl) "slice" := ⟨os,hos,hcs⟩;unfold getItem
 try with_reducible refine ig ?_
 first|refine ae (aj ?_)|skip
 refine ae (wpAny_sequenceKey ht.typeIs (by decide) ?_);refine ae (gv (name:=lr "__getitem__") ht.typeIs gg
  (ib gg ht.typeIs entry_tuple_getitem ?_ (args_tuple_getitem _ _)))
 show wpAny _ _ (Builtin.Tuple.tupleItemsOf (.ref t) >>= _) _ _ s;refine ae (tupleItemsOf_ ht ?_);refine ae (qi hTs ?_);rw[if_pos (by decide)];refine ae (sliceApplied_gen hs pl pu ?_);have hno:¬ ((((sIx items.size 0 lo:Nat):Int)==0&&(1:Int)==1&&(sIx items.size items.size hi - sIx items.size 0 lo)==items.size)=true):=by intro q;rw[dm,dm]at q;have q1:((sIx items.size 0 lo:Nat):Int)=0:=eq_of_beq q.1.1;have q2:sIx items.size items.size hi - sIx items.size 0 lo=items.size:=eq_of_beq q.2;exact hw ⟨by omega,by omega⟩
 show wpAny _ _ (if(((sIx items.size 0 lo:Nat):Int)==0&&(1:Int)==1&&(sIx items.size items.size hi - sIx items.size 0 lo)==items.size)=true then _ else _) _ _ s;rw[if_neg hno,SK]
 first
  |exact ae (m:=kj _) (gn (aj ⟨_,rfl,aj h⟩) htake)
  |exact ae (m:=kj _) (gn (ae (aj (aj ⟨_,rfl,aj h⟩))) htake)
  |exact ae (ae (m:=kj _) (gn (aj (aj ⟨_,rfl,aj h⟩)) htake))
  |exact ae (ae (m:=kj _) (gn (aj ⟨_,rfl,aj h⟩) htake))
end
end HT
namespace L2
open PySem PySem.Spec PyProof.Rows
abbrev TO:=St->Hp->(Option Int->Hp->Prop)->Prop
def PO (X:Cx) (e:Option bp) (t:TO):Prop:=
 ∀(pins:List (ah×Obj)) (s:ag) (σ:St) (H:Hp) (Q:Option Int->Hp->Prop),Inv X pins σ H s->t σ H Q->
  wpAny (model X.prog X.w) X.A (evalPart e X.env) (λu s'=>∃o H',Inv X pins σ H' s'/\uz u o/\Q o H') X.xe s
def SN:TO:=λ_ H Q=>Q none H
def SO (t:TE):TO:=λσ H Q=>t σ H λx H1=>∃i,x=.int i/\Q (some i) H1
theorem GL {ns:List Int}:∀{us:List af},Vals (ns.map V.int) us->lh us ns:=by
 induction ns with
 |nil=>intro us r;rw[vh]at r;cases r;exact .nil
 |cons n ns ih=>
  intro us r;rw[cy]at r
  cases r with
  |cons r1 r2=>obtain⟨t,e⟩:=r1;subst e;exact .cons n t (ih r2)
section
variable{X:Cx}{e:bp}{te:TE}{lo hi:Option bp}{tl th:TO}{pos p2:Pos}
theorem SQ:PO X none SN:=by intro pins s σ H Q I h;rw[evalPart_none];exact aj ⟨none,H,I,.none,h⟩
theorem SS (h:PE X e te):PO X (some e) (SO te):=by intro pins s σ H Q I hw;rw[evalPart_some];refine aW (h pins s σ H _ I hw) λu s1 ⟨x,H1,I1,r1,q1⟩=>?_;obtain⟨i,rfl,q⟩:=q1;obtain⟨t,rfl⟩:=r1;exact⟨some i,H1,I1,.int i t,q⟩
def SlR (X:Cx) (r:V->Option Int->Option Int->Hp->VK->Prop):Prop:=
 ∀(pins:List (ah×Obj)) (s:ag) (σ:St) (H:Hp) (x:V) (v vl vu:af) (lo hi:Option Int) (sl:ah) (Q:VK),Inv X pins σ H s->RelV x v->s.heap.IsSliceOf sl vl vu .none->uz vl lo->uz vu hi->r x lo hi H Q->
  ∃T id,typeLookup (.type T) "__getitem__" = pure (some (.builtin id))/\s.TypeIs v T/\wpAny (model X.prog X.w) X.A (getItem v (.ref sl)) (EP X pins σ Q) X.xe s
theorem SlR.or {r r':V->Option Int->Option Int->Hp->VK->Prop}(h:SlR X r) (h':SlR X r'):SlR X (λx lo hi H Q=>r x lo hi H Q∨r' x lo hi H Q):=by
 intro pins s σ H x v vl vu lo hi sl Q I rx hs pl pu q
 rcases q with q|q
 ·exact h pins s σ H x v vl vu lo hi sl Q I rx hs pl pu q
 ·exact h' pins s σ H x v vl vu lo hi sl Q I rx hs pl pu q
def SU (r:V->Option Int->Option Int->Hp->VK->Prop) (te:TE) (tl th:TO):TE:=λσ H Q=>te σ H λx H1=>tl σ H1 λl H2=>th σ H2 λu H3=>r x l u H3 Q
theorem SV {r:V->Option Int->Option Int->Hp->VK->Prop}(hr:SlR X r) (he:PE X e te) (hl:PO X lo tl) (hu:PO X hi th):PE X (.Subscript e (.Slice lo hi none p2) pos) (SU r te tl th):=by intro pins s σ H Q I h;refine Subscript_ (aW (he pins s σ H _ I h) λv s1 ⟨x,H1,I1,r1,q1⟩=>?_);refine wpAny_Slice (aW (hl pins s1 σ H1 _ I1 q1) λvl s2 ⟨l,H2,I2,pl,q2⟩=>aW (hu pins s2 σ H2 _ I2 q2) λvu s3 ⟨u,H3,I3,pu,q3⟩=>?_);rw[evalPart_none];refine aj ?_;have I4:Inv X pins σ H3 { s3 with heap:=s3.heap.push { cls:=.type "slice",data:=.fields #[vl,vu,.none] } }:=I3.kept (t':=s3.toks) λb ob q=>ak _ q;obtain⟨T,id,hT,ht,hg⟩:=hr pins { s3 with heap:=s3.heap.push { cls:=.type "slice",data:=.fields #[vl,vu,.none] } } σ H3 x v vl vu l u s3.heap.objs.size Q I4 r1 (Heap.IsSliceOf.new ..) pl pu q3;show wpAny (model X.prog X.w) X.A (subscriptTail e (.Slice lo hi none p2) v (.ref s3.heap.objs.size)) (EP X pins σ Q) X.xe { s3 with heap:=s3.heap.push { cls:=.type "slice",data:=.fields #[vl,vu,.none] } };exact tail_any (ops:=[.ref s3.heap.objs.size,v]) ht hT hg (by with_unfolding_all rfl)
def mZ (xs:List V) (lo hi:Option Int):List V:=(xs.drop (HT.sIx xs.length 0 lo)).take (HT.sIx xs.length xs.length hi - HT.sIx xs.length 0 lo)
theorem GN (xs:List V) (lo hi:Option Int):(mZ xs lo hi).length<=xs.length:=by unfold mZ;rw[jk,nu];omega
def SX (K:aq):V->Option Int->Option Int->Hp->VK->Prop:=λx lo hi H Q=>∃a xs,x=.ref a/\SqT K H a xs /\
 ¬ (HT.sIx xs.length 0 lo=0/\HT.sIx xs.length xs.length hi=xs.length)/\∀p,H p=none->Q (.ref p) (aQ H p (.tup (mZ xs lo hi)))
theorem SY:SlR X (SX X.K):=by
 intro pins s σ H x v vl vu lo hi sl Q I rx hs pl pu h;obtain⟨a,xs,rfl,hx,hw,q⟩:=h;cases rx;obtain⟨its,r,ht,hz⟩:=I.tuple hx;have hlen:its.toArray.size=xs.length:=by rw[av];exact r.length.symm
 refine⟨"tuple",_,gg.lookup,ht.typeIs, ?_⟩;refine HT.getItem_tuple_cut ht hs pl pu (by rw[hlen];exact hw) ?_ (by rw[hlen];exact hz);rw[hlen];refine⟨.ref s.heap.objs.size,_,I.laid (t':=s.toks) (o:=.tup (mZ xs lo hi)) (λb ob q=>ak _ q) (ao _) ?_,rfl,q _ (I.hok.fresh (ao _))⟩;exact⟨cu (GN xs lo hi) hz,_,(r.drop (HT.sIx xs.length 0 lo)).take (HT.sIx xs.length xs.length hi - HT.sIx xs.length 0 lo),IsTupX.new _ _⟩
def GO (K:aq):R2:=λx y H Q=>∃a b ns ms,x=.ref a/\y=.ref b/\SqT K H a (ns.map V.int)/\SqT K H b (ms.map V.int)/\Q (.bl (HT.lexLt ns ms)) H
theorem GP (hu:X.A.units<cLine):OpR X (compareOp .Lt) (GO X.K):=by intro pins s σ H x y v u Q I rx ry h;obtain⟨a,b,ns,ms,rfl,rfl,ha,hb,q⟩:=h;cases rx;cases ry;obtain⟨its,r1,p1,_⟩:=I.tuple ha;obtain⟨its2,r2,p2,_⟩:=I.tuple hb;have i1:lh its.toArray.toList ns:=GL r1;have i2:lh its2.toArray.toList ms:=GL r2;exact HT.lt_tupInts p1 p2 i1 i2 hu ⟨.bl (HT.lexLt ns ms),H,I,rfl,q⟩
def GQ (K:aq):R2:=λx y H Q=>∃a b xs ys,x=.ref a/\y=.ref b/\SqT K H a xs/\SqT K H b ys/\xs≠[]/\xs.length+ys.length<=ck /\
 (ys=[]->Q (.ref a) H)/\(ys≠[]->∀p,H p=none->Q (.ref p) (aQ H p (.tup (xs++ys))))
theorem Vals.nil_iff {xs:List V}{us:List af}(r:Vals xs us):us=[]↔xs=[]:=by
 cases r with
 |nil=>simp
 |cons _ _=>simp
theorem S0:OpR X (binaryOp .Add) (GQ X.K):=by intro pins s σ H x y v u Q I rx ry h;obtain⟨a,b,xs,ys,rfl,rfl,ha,hb,hx,hz,q1,q2⟩:=h;cases rx;cases ry;obtain⟨its,r1,p1,_⟩:=I.tuple ha;obtain⟨its2,r2,p2,_⟩:=I.tuple hb;refine HT.cat_tup p1 p2 (λz=>hx (r1.nil_iff.mp z)) (λz=>⟨.ref a,H,I,rfl,q1 (r2.nil_iff.mp z)⟩) (λz=>?_) (by rw[<-r1.length,<-r2.length];exact hz);refine⟨.ref s.heap.objs.size,_,I.laid (t':=s.toks) (o:=.tup (xs++ys)) (λb ob q=>ak _ q) (ao _) ?_,rfl,q2 (λw=>z (r2.nil_iff.mpr w)) _ (I.hok.fresh (ao _))⟩;exact⟨by rw[bx];exact hz,_,r1.append r2,IsTupX.new _ _⟩
end
def fO (n:Nat) (i:Int):Option Nat:=if 0<=i then(if i<n then some i.toNat else none)else if -(n:Int)<=i then some (i+n).toNat else none
def gQ {α:Type}(xs:List α) (i:Int):Option α:=(fO xs.length i).bind λj=>xs[j]?
theorem AH {n:Nat}{i:Int}{j:Nat}(h:fO n i=some j):seqIndex? i n=some j/\j<n/\-(n:Int)<=i/\i<n:=by
 unfold fO at h
 by_cases h0:0<=i
 ·rw[if_pos h0]at h
  by_cases h1:i<n
  ·rw[if_pos h1]at h;have e:i.toNat=j:=cf h;exact⟨by rw[seqIndex_of h0 h1,e],by omega,by omega,h1⟩
  ·rw[if_neg h1]at h;cases h
 ·rw[if_neg h0]at h
  by_cases h1 : -(n:Int)<=i
  ·rw[if_pos h1]at h;have e:(i+n).toNat=j:=cf h;exact⟨by rw[seqIndex_neg (by omega) h1,e],by omega,h1,by omega⟩
  ·rw[if_neg h1]at h;cases h
theorem AI {α:Type}{xs:List α}{i:Int}{v:α}(h:gQ xs i=some v):∃j,seqIndex? i xs.length=some j/\xs[j]?=some v/\j<xs.length/\-(xs.length:Int)<=i/\i<xs.length:=by
 unfold gQ at h
 cases e:fO xs.length i with
 |none=>rw[e]at h;cases h
 |some j=>rw[e]at h;obtain⟨h1,h2,h3,h4⟩:=AH e;exact⟨j,h1,h,h2,h3,h4⟩
def AJ (b:bp):Prop:=∀o i,subscripted b false o i=operate [o,i] (getItem o i)
def IxR (X:Cx) (r:R2):Prop:=
 ∀(value slice:bp) (pins:List (ah×Obj)) (s:ag) (σ:St) (H:Hp) (x y:V) (v u:af) (Q:VK),Inv X pins σ H s->RelV x v->RelV y u->r x y H Q->
  subscripted slice false v u=operate [v,u] (getItem v u)->wpAny (model X.prog X.w) X.A (subscriptTail value slice v u) (EP X pins σ Q) X.xe s
def S1 (X:Cx) (id:String) (r:V->List V->Hp->VK->Prop):Prop:=
 ∀(pins:List (ah×Obj)) (s:ag) (σ:St) (H:Hp) (x:V) (xs:List V) (v:af) (us:List af) (Q:VK),Inv X pins σ H s->RelV x v->Vals xs us->r x xs H Q->
  wpAny (model X.prog X.w) X.A (call (.builtin id) (v::us)) (EP X pins σ Q) X.xe s
section
variable{X:Cx}{a b:bp}{ta tb:TE}{pos:Pos}
theorem IxR.or {r r':R2}(h:IxR X r) (h':IxR X r'):IxR X (λx y H Q=>r x y H Q∨r' x y H Q):=by
 intro value slice pins s σ H x y v u Q I rx ry q hs
 rcases q with q|q
 ·exact h value slice pins s σ H x y v u Q I rx ry q hs
 ·exact h' value slice pins s σ H x y v u Q I rx ry q hs
theorem GR {r:R2}(hr:IxR X r) (ha:PE X a ta) (hb:PE X b tb) (hs:AJ b):PE X (.Subscript a b pos) (rV r ta tb):=by intro pins s σ H Q I h;exact Subscript_ (AE ha hb I h λv u s2 x y H2 I2 rx ry q=>hr a b pins s2 σ H2 x y v u Q I2 rx ry q (hs _ _))
def GS (K:aq):R2:=λx y H Q=>∃p xs i v,x=.ref p/\y=.int i/\SqL K H p xs/\gQ xs i=some v/\Q v H
def GU (K:aq):R2:=λx y H Q=>∃p xs i v,x=.ref p/\y=.int i/\SqT K H p xs/\gQ xs i=some v/\Q v H
def GV:R2:=λx y H Q=>∃z i c,x=.str z/\y=.int i/\z.length<=ck/\gQ z.cps.toList i=some c/\Q (.str ⟨#[c]⟩) H
theorem ix_list:IxR X (GS X.K):=by
 intro value slice pins s σ H x y v u Q I rx ry h hs;obtain⟨p,xs,i,z,rfl,rfl,hq,he,q⟩:=h;cases rx;obtain⟨t,rfl⟩:=ry;obtain⟨its,r,pl,hz⟩:=I.list hq;obtain⟨j,h1,h2,h3,h4,h5⟩:=AI he;obtain⟨w,ew,rw'⟩:=r.get h2;have hl:=r.length;have hn:=pO;have fin:EP X pins σ Q w s:=⟨z,H,I,rw',q⟩
 by_cases h0:0<=i
 ·have hj:i.toNat=j:=by rw[seqIndex_of h0 h5]at h1;exact cf h1
  exact item_listR pl.isList h0 (by omega) (by rw[hj];simpa using ew) fin hs
 ·have hj:(i+(its.toArray.size:Int)).toNat=j:=by rw[seqIndex_neg (by omega) h4]at h1;rw[av,<-hl];exact cf h1
  exact subscriptTail_builtinR (x:=w) pl.isList.typeIs slot_list_getitem.lookup
   (wpAny_getItem_list_neg (Q:=λr s'=>r=w/\EP X pins σ Q r s') pl.isList (by omega) (by rw[av] <;> omega) (by omega) (by rw[hj];simpa using ew) ⟨rfl,fin⟩) hs
theorem ix_tup:IxR X (GU X.K):=by
 intro value slice pins s σ H x y v u Q I rx ry h hs;obtain⟨p,xs,i,z,rfl,rfl,hq,he,q⟩:=h;cases rx;obtain⟨t,rfl⟩:=ry;obtain⟨its,r,pl,hz⟩:=I.tuple hq;obtain⟨j,h1,h2,h3,h4,h5⟩:=AI he;obtain⟨w,ew,rw'⟩:=r.get h2;have hl:=r.length;have hn:=pO;have fin:EP X pins σ Q w s:=⟨z,H,I,rw',q⟩
 exact subscriptTail_builtinR (x:=w) pl.typeIs slot_tuple_getitem.lookup
  (getItem_tuple (j:=j) (Q:=λr s'=>r=w/\EP X pins σ Q r s') pl (by omega) (by omega) (by rw[av,<-hl];exact h1) (by simpa using ew) ⟨rfl,fin⟩) hs
theorem S3:IxR X GV:=by
 intro value slice pins s σ H x y v u Q I rx ry h hs;obtain⟨z,i,c,rfl,rfl,hz,he,q⟩:=h;obtain⟨t,rfl⟩:=rx;obtain⟨t',rfl⟩:=ry;obtain⟨j,h1,h2,h3,h4,h5⟩:=AI he;have hl:z.cps.toList.length=z.length:=by simp[Str.length]
 rw[hl]at h1 h4 h5;have hn:=pO;exact tail_any (typeIs_str s z t) slot_str_getitem.lookup (getItem_str (c:=c) (by have e1:decide (i < -(2 ^ 63:Int))=false:=decide_eq_false (by omega);have e2:decide (i>=2 ^ 63)=false:=decide_eq_false (by omega);rw[e1,e2,Bool.or_false]) (by rw[h1];simpa using h2) ⟨.str ⟨#[c]⟩,H,I.tok _,⟨_,rfl⟩,q⟩) hs
def AK (K:aq):R2:=λx y H Q=>GS K x y H Q∨GU K x y H Q∨GV x y H Q
theorem GW:IxR X (AK X.K):=ix_list.or (ix_tup.or S3)
theorem S4 (its:List af) (n j:Nat) (u:af):oi (·.setIfInBounds j u) { cls:=.type "list",data:=.seq its.toArray n }={ cls:=.type "list",data:=.seq (its.set j u).toArray n }:=by simp[oi]
theorem Inv.lst {pins:List (ah×Obj)}{σ:St}{H:Hp}{s:ag}{p:ah}{xs:List V}(I:Inv X pins σ H s) (h:H p=some (.lst xs)):
  ∃(its:List af) (n:Nat),Vals xs its/\s.heap.get? p=some { cls:=.type "list",data:=.seq its.toArray n }/\xs.length<=ck:=by
 obtain⟨z,its,n,r,e⟩:=I.hok p _ h;exact⟨its,n,r,e,z⟩
theorem Inv.lstUpd {pins:List (ah×Obj)}{σ:St}{H:Hp}{s:ag}{p:ah}{xs ys:List V}{its its':List af}{n n':Nat}{f:Obj->Obj}(I:Inv X pins σ H s) (h:H p=some (.lst xs))
  (ho:s.heap.get? p=some { cls:=.type "list",data:=.seq its.toArray n }) (hf:f { cls:=.type "list",data:=.seq its.toArray n }={ cls:=.type "list",data:=.seq its'.toArray n' }) (r:Vals ys its') (hz:ys.length<=ck) (t:Nat):
  Inv X pins σ (aQ H p (.lst ys)) { s with heap:=s.heap.update p f,toks:=t }:=by
 have e:(s.heap.update p f).get? p=some { cls:=.type "list",data:=.seq its'.toArray n' }:=by rw[nt f ho (by rw[hf] <;> rfl),hf]
 refine I.write (x:=p) (e:=p) (by rw[h];trivial) (.inl rfl) (λb u hb q=>(mz _ _ (cw hb)).trans q) ⟨_,e⟩ ?_;exact⟨hz,its',n',r,e⟩
def S5:V->V->V->Hp->(Hp->Prop)->Prop:=λo i v H Q=>∃p xs k j,o=.ref p/\i=.int k/\H p=some (.lst xs)/\fO xs.length k=some j/\Q (aQ H p (.lst (xs.set j v)))
theorem S6:FX X S5:=by
 intro pins s σ H o i v ov iv u Q I ro ri rv h;obtain⟨p,xs,k,j,rfl,rfl,hp,hj,q⟩:=h;cases ro;obtain⟨t,rfl⟩:=ri;obtain⟨its,n,r,ho,hz⟩:=I.lst hp;obtain⟨h1,h2,h3,h4⟩:=AH hj;have hl:=r.length;have hn:=pO;have I':Inv X pins σ (aQ H p (.lst (xs.set j v))) { s with heap:=s.heap.update p (oi (·.setIfInBounds j u)) }:=I.lstUpd hp ho (S4 its n j u) (r.set rv j) (by rw[ki];exact hz) s.toks
 by_cases h0:0<=k
 ·have hk:k.toNat=j:=by rw[seqIndex_of h0 h4]at h1;exact cf h1
  exact PySem.W.ki_setAt ho h0 (by omega) (by rw[av,<-hl];exact h4) (by rw[hk];exact⟨_,I',q⟩)
 ·have hk:(k+(its.toArray.size:Int)).toNat=j:=by rw[seqIndex_neg (by omega) h3]at h1;rw[av,<-hl];exact cf h1
  exact PySem.W.ki_setBack ho (by omega) (by rw[av,<-hl];exact h3) (by omega) (by rw[hk];exact⟨_,I',q⟩)
theorem S7 (lo hi:Option Int) (n:Nat):(sliceBounds lo hi none n).1=((HT.sIx n 0 lo:Nat):Int)/\(sliceBounds lo hi none n).2.1=((HT.sIx n n hi:Nat):Int)/\(sliceBounds lo hi none n).2.2=1:=by
 refine⟨?_, ?_,rfl⟩
 ·cases lo with
  |none=>simp[sliceBounds,HT.sIx]
  |some i=>
   simp only[sliceBounds,HT.sIx,Option.getD_none,show(1:Int)>0 by decide,if_true]
   by_cases h:i<0
   ·simp only[h,if_true] <;> omega
   ·simp only[h,if_false] <;> omega
 ·cases hi with
  |none=>simp[sliceBounds,HT.sIx]
  |some i=>
   simp only[sliceBounds,HT.sIx,Option.getD_none,show(1:Int)>0 by decide,if_true]
   by_cases h:i<0
   ·simp only[h,if_true] <;> omega
   ·simp only[h,if_false] <;> omega
theorem S8 (its:List af) (lo hi:Option Int):slicePick its.toArray lo hi none=((its.drop (HT.sIx its.length 0 lo)).take (HT.sIx its.length its.length hi - HT.sIx its.length 0 lo)).toArray:=by obtain⟨h1,h2,h3⟩:=S7 lo hi its.toArray.size;unfold slicePick;rw[h1,h2,h3];simp only[sliceRange_one,pick_run,av] <;> rfl
def S9 (K:aq):V->Option Int->Option Int->Hp->VK->Prop:=λx lo hi H Q=>∃a xs,x=.ref a/\SqL K H a xs/\∀p,H p=none->Q (.ref p) (aQ H p (.lst (mZ xs lo hi)))
theorem TB:SlR X (S9 X.K):=by intro pins s σ H x v vl vu lo hi sl Q I rx hs pl pu h;obtain⟨a,xs,rfl,hx,q⟩:=h;cases rx;obtain⟨its,r,ht,hz⟩:=I.list hx;have hlen:=r.length;refine⟨"list",_,slot_list_getitem.lookup,ht.isList.typeIs, ?_⟩;refine wpAny_getItem_list_slice ht.isList hs pl pu .none (by simp) ?_ (by rw[av] <;> omega);rw[S8,<-hlen];refine⟨.ref s.heap.objs.size,_,I.laid (t':=s.toks) (o:=.lst (mZ xs lo hi)) (λb ob q=>ak _ q) (ao _) ?_,rfl,q _ (I.hok.fresh (ao _))⟩;exact⟨cu (GN xs lo hi) hz,_,0,(r.drop (HT.sIx xs.length 0 lo)).take (HT.sIx xs.length xs.length hi - HT.sIx xs.length 0 lo),bg _ rfl⟩
theorem GX:CallR X (.builtin "len") (λxs H Q=>∃p ys,xs=[.ref p]/\(SqL X.K H p ys∨SqT X.K H p ys)/\Q (.int ys.length) H):=by
 intro pins s σ H xs us Q I r h;obtain⟨p,ys,rfl,hq,q⟩:=h;obtain⟨u,rfl,rx⟩:=jK r;cases rx;have hn:=pO
 rcases hq with hq|hq
 ·obtain⟨its,r',pl,hz⟩:=I.list hq;have hlen:=r'.length;exact Calls.call_len_list pl.isList (by simp only[av] <;> omega) ⟨.int ys.length,H,I.tok _,⟨s.toks+1,by rw[av,hlen]⟩,q⟩
 ·obtain⟨its,r',pl,hz⟩:=I.tuple hq;have hlen:=r'.length;exact len_tuple pl (by simp only[av] <;> omega) ⟨.int ys.length,H,I.tok _,⟨s.toks+1,by rw[av,hlen]⟩,q⟩
theorem TF:CallR X (.type "list") (λxs H Q=>∃p ys,xs=[.ref p]/\(SqL X.K H p ys∨SqT X.K H p ys)/\∀l,H l=none->Q (.ref l) (aQ H l (.lst ys))):=by
 intro pins s σ H xs us Q I r h;obtain⟨p,ys,rfl,hq,q⟩:=h;obtain⟨u,rfl,rx⟩:=jK r;cases rx;have fin:∀(its:List af),Vals ys its->ys.length<=ck->∀(h':cq) (c':Nat),(∀b o',s.heap.get? b=some o'->h'.get? b=some o')->
   h'.get? s.heap.objs.size=some { cls:=.type "list",dict:=none,data:=.seq its.toArray c',slots:=#[] }->EP X pins σ Q (.ref s.heap.objs.size) { s with heap:=h' }:=λits r' hz h' c' kp e=>
  ⟨.ref s.heap.objs.size,_,I.laid (t':=s.toks) kp (ao _) (show ObjOk X.prog X.w _ h' _ (.lst ys) from⟨hz,its,c',r',e⟩),rfl,q _ (I.hok.fresh (ao _))⟩
 rcases hq with hq|hq
 ·obtain⟨its,r',pl,hz⟩:=I.list hq;have hlen:=r'.length;obtain⟨o,ho,hc,n,hd⟩:=pl.isList;exact call_list_seq p (.inl rfl) ho hc hd (λh' c' kp e=>fin its r' hz h' c' kp e) (by simp only[av] <;> omega)
 ·obtain⟨its,r',pl,hz⟩:=I.tuple hq;have hlen:=r'.length;obtain⟨o,ho,hc,n,hd⟩:=pl;exact call_list_seq p (.inr rfl) ho hc hd (λh' c' kp e=>fin its r' hz h' c' kp e) (by simp only[av] <;> omega)
theorem TH:CallR X (.type "tuple") (λxs H Q=>∃p ys,xs=[.ref p]/\((SqL X.K H p ys/\∀l,H l=none->Q (.ref l) (aQ H l (.tup ys)))∨(SqT X.K H p ys/\Q (.ref p) H))):=by
 intro pins s σ H xs us Q I r h;obtain⟨p,ys,rfl,h⟩:=h;obtain⟨u,rfl,rx⟩:=jK r;cases rx
 rcases h with⟨hq,q⟩|⟨hq,q⟩
 ·obtain⟨its,r',pl,hz⟩:=I.list hq;have hlen:=r'.length;refine call_tuple_list pl.isList (λh' kp=>?_) (by simp only[av] <;> omega);have I1:Inv X pins σ H { s with heap:=h' }:=I.kept (t':=s.toks) kp;have I2:Inv X pins σ (aQ H h'.objs.size (.tup ys)) { s with heap:=h'.push { cls:=.type "tuple",data:=.seq its.toArray } }:=I1.laid (t':=s.toks) (λb o e=>ak _ e) (ao _) (show ObjOk X.prog X.w _ _ _ (.tup ys) from⟨hz,its,r',IsTupX.new _ _⟩);exact⟨.ref h'.objs.size,_,I2,rfl,q _ (I1.hok.fresh (ao _))⟩
 ·obtain⟨its,r',pl,hz⟩:=I.tuple hq;exact call_tuple_same pl ⟨.ref p,H,I,rfl,q⟩
def vH (K:aq) (T:String) (x:V) (H:Hp):Prop:=match x with
 | .str _=>T = "str"
 | .int _=>T = "int"
 | .ref p=>(T = "list"/\∃xs,SqL K H p xs)∨(T = "tuple"/\∃o,K.lookup p=some o/\o.cls=.type "tuple"/\o.dict=none) ∨
   (T = "dict"/\((∃kvs,H p=some (.dK kvs))∨∃kvs,H p=some (.dT kvs)))∨(T = "set"/\∃S n,H p=some (.set S n))
 |_=>False
theorem TJ {pins:List (ah×Obj)}{σ:St}{H:Hp}{s:ag}{T:String}{x:V}{v:af}(I:Inv X pins σ H s) (r:RelV x v) (ty:vH X.K T x H):
  s.TypeIs v T/\∀a,v=.ref a->∃ob,s.heap.get? a=some ob/\ob.dict=none:=by
 cases x with
 |str z=>
  obtain⟨t,rfl⟩:=r
  cases (show T = "str" from ty)
  exact⟨typeIs_str s z t,λ_ e=>nomatch e⟩
 |int i=>
  obtain⟨t,rfl⟩:=r
  cases (show T = "int" from ty)
  exact⟨typeIs_int s i t,λ_ e=>nomatch e⟩
 |ref p=>
  cases r
  rcases ty with⟨rfl,xs,hq⟩|⟨rfl,o,hk,hc,hd⟩|⟨rfl,hk⟩|⟨rfl,S,n,hk⟩
  ·obtain⟨its,_,pl,_⟩:=I.list hq;refine⟨pl.isList.typeIs,λa e=>?_⟩;cases e;obtain⟨o,n,e,c,hd,_⟩:=pl;exact⟨o,e,hd⟩
  ·refine⟨⟨o,I.kIn p o hk,hc⟩,λa e=>?_⟩;cases e;exact⟨o,I.kIn _ o hk,hd⟩
  ·have z:∃o,s.heap.get? p=some o/\o.ExactDict:=by
    rcases hk with⟨kvs,hk⟩|⟨kvs,hk⟩
    ·obtain⟨_,_,_,_,o,_,_,e,ex,_⟩:=I.hok p _ hk;exact⟨o,e,ex⟩
    ·obtain⟨_,_,_,_,o,_,_,e,ex,_⟩:=I.hok p _ hk;exact⟨o,e,ex⟩
   obtain⟨o,e,ex⟩:=z;refine⟨⟨o,e,ex.1⟩,λa e2=>?_⟩;cases e2;exact⟨o,e,ex.2.1⟩
  ·obtain⟨o,_,_,_,e,ex,_⟩:=I.hok p _ hk;refine⟨⟨o,e,ex.1⟩,λa e2=>?_⟩;cases e2;exact⟨o,e,ex.2.1⟩
 |_=>exact iu ty
def TL (K:aq) (T:String) (r:V->List V->Hp->VK->Prop) (to:TE) (t:TA):TE:=λσ H Q=>to σ H λx H1=>vH K T x H1/\t σ H1 λxs H2=>r x xs H2 Q
variable{o e:bp}{es:List bp}{to:TE}{t:TA}{name:Str}{apos cpos:Pos}{T id:String}{r:V->List V->Hp->VK->Prop}
theorem vI (pa:PlainAttrs T) (slot:Slot T name id) (hty:typeOf (.builtin id)=pure (.type "method_descriptor")) (hm:S1 X id r) (ho:PE X o to) (ha:PA X (e::es) t)
  (hbase:attributeBase o name X.env (eval o X.env)=eval o X.env:=by rfl)
  (hfew:((backTo cpos (aw (e::es) X.env)).all (λx=>!x.1)&&(backToKw cpos (keywordEach [] X.env)).all (λx=>x.1.isSome)
   && decide ((e::es).length+([]:List Keyword).length+(if([]:List Keyword).isEmpty then 0 else 1)<30))=true:=by rfl)
  (hline:(apos.endLine==cpos.line)=true:=by rfl) (hs:aw (e::es) X.env=(false,eval e X.env)::aw es X.env:=by rfl) (hplain:(backTo cpos (aw es X.env)).any (·.1)=false:=by rfl):
  PE X (.Call (.Attribute o name apos) (e::es) [] cpos) (TL X.K T r to t):=by
 intro pins s σ H Q I h;refine wpAny_Call_method_late hbase hfew hline rfl (aW (ho pins s σ H _ I h) λv s1 ⟨x,H1,I1,r1,ty,q1⟩=>?_);obtain⟨h1,h2⟩:=TJ I1 r1 ty;refine⟨T,id,pa,slot,hty,h1,h2, ?_⟩;have hA:=ha cpos pins s1 σ H1 _ I1 q1;rw[hs]at hA ⊢;refine Calls.callWith_builtin (by show(false||(backTo cpos (aw es X.env)).any (·.1))=false;rw[hplain] <;> rfl) (Calls.evalArgs_plain ?_);exact aW hA λus s2 ⟨vs,H2,I2,r2,q2⟩=>hm pins s2 σ H2 x vs v us Q I2 r1 r2 q2
end
def AL (X:Cx) (id:String) (r:V->List V->Hp->VK->Prop):Prop:=
 ∀(pins:List (ah×Obj)) (s:ag) (σ:St) (H:Hp) (x:V) (xs:List V) (v:af) (us:List af) (Q:VK),Inv X pins σ H s->RelV x v->Vals xs us->r x xs H Q->
  wpAny (model X.prog X.w) X.A (call (.builtin id) (v::us)) (EP X pins σ Q) X.xe s
theorem Vals.one:∀{x:V}{us:List af},Vals [x] us->∃u,us=[u]/\RelV x u
 |_,_,.cons r .nil=>⟨_,rfl,r⟩
theorem Vals.eraseIdx:∀{xs:List V}{us:List af}(i:Nat),Vals xs us->Vals (xs.eraseIdx i) (us.eraseIdx i)
 |_,_,_,.nil=>.nil
 |_,_,0,.cons _ t=>t
 |_,_,i+1,.cons r t=>.cons r (Vals.eraseIdx i t)
theorem Vals.rep {xs:List V}{us:List af}(h:Vals xs us):∀k:Nat,Vals (br k xs).flatten (br k us).flatten
 |0=>.nil
 |k+1=>by rw[gz,gz,jt,jt];exact Vals.append h (Vals.rep h k)
theorem GY {α:Type}:∀(l:List α) (i:Nat),(l.eraseIdx i).length<=l.length
 | [],_=>ao _
 |_::_,0=>wq _
 |_::r,i+1=>Nat.succ_le_succ (GY r i)
theorem GZ (its:List af):∀(k:Nat) (acc:List af),
  List.foldl (λx1 x2=>x1++x2) acc.toArray (br k its.toArray)=(acc++(br k its).flatten).toArray
 |0,acc=>by simp
 |k+1,acc=>by
  have e:acc.toArray++its.toArray=(acc++its).toArray:=by simp
  have e2:(acc++its)++(br k its).flatten=acc++(br (k+1) its).flatten:=by rw[gz,jt,nc]
  rw[<-e2,<-GZ its k (acc++its),<-e,gz,List.foldl_cons]
section
variable{X:Cx}{pins:List (ah×Obj)}{σ:St}{H:Hp}{s:ag}{l b:ah}{xs ys zs:List V}
theorem Inv.lset {its its':List af}{n:Nat}{f:Array af->Array af}{t':Nat}(I:Inv X pins σ H s) (hH:H l=some (.lst xs))
  (e:s.heap.get? l=some { cls:=.type "list",data:=.seq its.toArray n }) (hf:f its.toArray=its'.toArray) (hv:Vals ys its') (hz:ys.length<=ck):
  Inv X pins σ (aQ H l (.lst ys)) { s with heap:=s.heap.update l (oi f),toks:=t' }:=by
 have q:=Ao e f;rw[hf]at q;refine I.write (x:=l) (e:=l) (by rw[hH];exact trivial) (.inl rfl) (λb' u hb hu=>(mz s.heap (oi f) (cw hb)).trans hu) ⟨_,q⟩ ?_;exact⟨hz,its',_,hv,q⟩
theorem Inv.lnew {its:List af}{t':Nat}(I:Inv X pins σ H s) (hv:Vals ys its) (hz:ys.length<=ck):
  Inv X pins σ (aQ H s.heap.objs.size (.lst ys)) { s with heap:=s.heap.push { cls:=.type "list",data:=.seq its.toArray },toks:=t' }:=
 I.laid (λ_ _ q=>ak _ q) (ao _) ⟨hz,its,0,hv,bg _ rfl⟩
theorem Inv.fresh (I:Inv X pins σ H s):H s.heap.objs.size=none:=I.hok.fresh (ao _)
theorem Inv.lstM (I:Inv X pins σ H s) (hH:H l=some (.lst xs)):xs.length<=ck/\∃(its:List af) (n:Nat),Vals xs its/\xs.length=its.length/\s.heap.get? l=some { cls:=.type "list",data:=.seq its.toArray n }:=by obtain⟨z,its,n,r,e⟩:=I.hok l _ hH;exact⟨z,its,n,r,r.length,e⟩
theorem G1 {n:Nat}(h:n<=ck):kq n=false:=by unfold kq;exact decide_eq_false (by omega)
end
section
variable{X:Cx}
def TM:V->List V->Hp->VK->Prop:=λx vs H Q=>∃l xs y,x=.ref l/\vs=[y]/\H l=some (.lst xs)/\xs.length<ck/\Q .non (aQ H l (.lst (xs++[y])))
theorem G2:AL X "list.append" TM:=by intro pins s σ H x vs v us Q I rx rv h;obtain⟨l,xs,y,rfl,rfl,hH,hz,q⟩:=h;cases rx;obtain⟨u,rfl,ru⟩:=rv.one;obtain⟨z,its,n,r,hl,e⟩:=I.lstM hH;refine ue F.slot_list_append ⟨_,e,rfl⟩ F.entry_list_append (F.args_list_append_2 _ _) (PySem.list_append l its.toArray n u (by rw[av];omega)) ⟨e, ?_⟩;refine⟨.non,_,I.lset (its':=its++[u]) hH e (by simp) (r.append (.cons ru .nil)) ?_,rfl,q⟩;rw[bx,Ap];omega
def TN:V->List V->Hp->VK->Prop:=λx vs H Q=>∃l b xs zs,x=.ref l/\vs=[.ref b]/\H l=some (.lst xs)/\H b=some (.lst zs)/\xs.length+zs.length<=ck/\Q .non (aQ H l (.lst (xs++zs)))
theorem TQ:AL X "list.extend" TN:=by
 intro pins s σ H x vs v us Q I rx rv h;obtain⟨l,b,xs,zs,rfl,rfl,hH,hB,hz,q⟩:=h;cases rx;obtain⟨u,rfl,ru⟩:=rv.one;cases ru;obtain⟨z,its,n,r,hl,e⟩:=I.lstM hH;obtain⟨z2,its2,n2,r2,hl2,e2⟩:=I.lstM hB;have hsz:its.toArray.size+its2.toArray.size<=ck:=by rw[av,av];omega
 have hlong:¬ (!its.toArray.isEmpty&&kq (its.toArray.size+its2.toArray.size))=true:=by rw[G1 hsz,pq];exact gp
 refine ue F.slot_list_extend ⟨_,e,rfl⟩ F.entry_list_extend (F.args_list_extend_2 _ _)
  (AutoSeq1.list_extend_list_list_0 l its.toArray n b its2.toArray n2 hlong (by rw[av];omega) (by omega)) ⟨e,e2, ?_⟩
 refine⟨.non,_,I.lset (its':=its++its2) hH e (by simp) (r.append r2) ?_,rfl,q⟩;rw[bx];omega
def TR:V->List V->Hp->VK->Prop:=λx vs H Q=>∃l xs i k y,x=.ref l/\vs=[.int i]/\H l=some (.lst xs)/\-(2 ^ 63)<=i/\i<2 ^ 63/\seqIndex? i xs.length=some k/\xs[k]?=some y/\Q y (aQ H l (.lst (xs.eraseIdx k)))
theorem TU:AL X "list.pop" TR:=by
 intro pins s σ H x vs v us Q I rx rv h;obtain⟨l,xs,i,k,y,rfl,rfl,hH,h1,h2,hk,hy,q⟩:=h;cases rx;obtain⟨u,rfl,ru⟩:=rv.one;obtain⟨t,rfl⟩:=ru;obtain⟨z,its,n,r,hl,e⟩:=I.lstM hH;obtain⟨w,hw,rw'⟩:=r.get hy;refine ue F.slot_list_pop ⟨_,e,rfl⟩ F.entry_list_pop (F.args_list_pop_2 _ _)
  (MeetsSeq.list_pop_at l its.toArray n i t k w (fitsIndex_both h1 h2) (by rw[av,<-hl];exact hk) (by rw[<-nr];exact hw) (by rw[av];omega)) ⟨e, ?_⟩
 refine⟨y,_,I.lset (its':=its.eraseIdx k) hH e ?_ (r.eraseIdx k) ?_,rw',q⟩
 ·show its.toArray.eraseIdxIfInBounds k=(its.eraseIdx k).toArray;rw[List.eraseIdxIfInBounds_toArray]
 ·have:=GY xs k;omega
def G3:R2:=λx y H Q=>∃l b xs zs,x=.ref l/\y=.ref b/\H l=some (.lst xs)/\H b=some (.lst zs)/\xs.length+zs.length<=ck/\∀p,H p=none->Q (.ref p) (aQ H p (.lst (xs++zs)))
theorem op_cat:OpR X (binaryOp .Add) G3:=by
 intro pins s σ H x y v u Q I rx ry h;obtain⟨l,b,xs,zs,rfl,rfl,hH,hB,hz,q⟩:=h;cases rx;cases ry;obtain⟨z,its,n,r,hl,e⟩:=I.lstM hH;obtain⟨z2,its2,n2,r2,hl2,e2⟩:=I.lstM hB;refine PySem.P.add_list e e2 ?_ (by rw[av,av];omega);have ea:its.toArray++its2.toArray=(its++its2).toArray:=by simp
 rw[ea];exact⟨.ref _,_,I.lnew (t':=s.toks) (r.append r2) (by rw[bx];omega),rfl,q _ I.fresh⟩
def G4:R2:=λx y H Q=>∃l k xs,x=.ref l/\y=.int k/\H l=some (.lst xs)/\-(2 ^ 63)<=k/\k<2 ^ 63/\xs.length*k.toNat<=ck /\
 ∀p,H p=none->Q (.ref p) (aQ H p (.lst (br k.toNat xs).flatten))
theorem TV {α:Type}(xs:List α) (k:Nat):(br k xs).flatten.length=k*xs.length:=by
 induction k with
 |zero=>simp
 |succ k ih=>rw[gz,jt,bx,ih,sk,Nat.add_comm]
theorem TX:OpR X (binaryOp .Mult) G4:=by
 intro pins s σ H x y v u Q I rx ry h;obtain⟨l,k,xs,rfl,rfl,hH,h1,h2,hz,q⟩:=h;cases rx;obtain⟨t,rfl⟩:=ry;obtain⟨z,its,n,r,hl,e⟩:=I.lstM hH;have hlen:its.toArray.size*k.toNat<=ck:=by rw[av,<-hl];exact hz
 have hcap:¬ its.toArray.size*k.toNat>(2 ^ 63 - 1) / 8:=by
  have:(ck:Nat)<=(2 ^ 63 - 1) / 8:=by decide
  omega
 have hfit:¬ (!Builtin.List.listFitsIndex k)=true:=by rw[fitsIndex_both h1 h2];exact gp
 have hlong:¬ kq (its.toArray.size*k.toNat)=true:=by rw[G1 hlen];exact gp
 have hnew:List.foldl (λx1 x2=>x1++x2) #[] (br (if its.toArray.isEmpty=true then 0 else k.toNat) its.toArray)=(br k.toNat its).flatten.toArray:=by
  have f0:∀m:Nat,List.foldl (λx1 x2=>x1++x2) #[] (br m its.toArray)=(br m its).flatten.toArray:=λm=>by have:=GZ its m [];rw[List.nil_append]at this;exact this
  rw[f0]
  cases its with
  |nil=>simp
  |cons a r'=>rw[if_neg (by simp)]
 refine wpAny_binaryOp_repeat_ref (T := "list") (U := "int") (by decide) ⟨_,e,rfl⟩ (λs'=>typeIs_int s' k t) noFill_list_mul F.fills_int_mul F.slot_int_rmul repeat_list F.slot_int_index.lookup
  (ue F.slot_int_rmul (typeIs_int s k t) F.entry_int_rmul (F.args_int_rmul_2 _ _) (int___rmul___int_list k t l its.toArray n)
   ⟨e,rfl,⟨_,e,rfl⟩,ue F.slot_list_mul ⟨_,e,rfl⟩ F.entry_list_mul (F.args_list_mul_2 _ _) (AutoListH.list___mul___list_int_3 l its.toArray n k t hfit hcap hlong) ⟨e, ?_⟩⟩)
 rw[hnew];exact⟨.ref _,_,I.lnew (t':=s.toks) (r.rep k.toNat) (by rw[TV,Nat.mul_comm];exact hz),rfl,q _ I.fresh⟩
end
section
variable{prog:bj}{w:cm}{A:cj}{E:af->ag->Prop}{s:ag}
set_option maxRecDepth 100000 in
end
section
variable{X:Cx}
end
end L2
namespace Att
open PySem PySem.W PySem.Calls PyProof.Rows
theorem TY {P:Params}{h:cq}:∀(ns:List Int) (vs:List af),WellAll P h vs (ns.map WData.int)->lh vs ns:=by
 intro ns
 induction ns with
 |nil=>intro vs w;rw[vh]at w;cases w;exact .nil
 |cons n ns ih=>
  intro vs w;rw[cy]at w
  cases w with
  |cons a b=>cases a;exact .cons _ _ (ih _ b)
theorem TZ {l:OpenLaw}{n:Nat}(hn:l.most=some n) {P:Params}{h:cq}{args:List WData}{vals:List af}
  (hpre:l.row.toRowW.claim.pre args=true) (hwl:WellAll P h vals args):
  ∃a vs ns,vals=[ic a]/\args=[WData.list (ns.map WData.int)]/\h.get? a=some { cls:=.type "list",data:=.seq vs.toArray }/\lh vs ns/\ns.length<=n:=by
 have hsh:WShape.hasAll [] args [.list .int]=true:=(pre_splitW hpre).1;have hc:l.pre.holds [] { args:=args }=true:=(pre_splitW hpre).2;obtain⟨d,r,rfl,h1,h2⟩:=hasAllW_cons hsh;obtain rfl:=hasAllW_nil h2;obtain⟨xs,rfl,h3⟩:=hasW_list h1;obtain⟨ns,rfl⟩:=items_int h3;have hlen:ns.length<=n:=by
  unfold OpenLaw.pre at hc;have h4:(WTm.not (.lt (.lit (.int (n:Int))) (.len (.arg 0)))).holds [] { args:=[.list (ns.map .int)] }=true:=by have h4:=(holds_andW hc).1;rw[hn]at h4;exact h4
  have h5:=condW_of h4 (w_not (w_lt w_lit (w_len_list (w_arg rfl))));rw[bh]at h5;refine Nat.le_of_not_lt λq=>?_;have q':(n:Int)<((ns.length:Nat):Int):=by omega
  first
   |(rw[decide_eq_true q']at h5;exact absurd h5 (by decide))
   |(simp at h5;omega)
 cases hwl with
 |cons w1 w2=>
  cases w2
  cases w1 with
  |list ho hall=>exact⟨_,_,ns,rfl,rfl,ho,TY ns _ hall,hlen⟩
theorem T1 (l:OpenLaw) (args:List WData):l.row.toRowW.claim.post args (.bool true) args=true:=
 postW_of (r:=l.row.toRowW) (X:=(true==true))
  (show WShape.has [] (.bool true) .bool=true by first|rfl|decide|simp[WShape.has,WShape.arms,WShape.armsAll])
  (show(WTm.eq .res (.lit (.bool true))).value [] { args:=args,res:=some (.bool true),after:=args }=some (.bool (true==true)) from w_eq_bool (w_res rfl) w_lit) rfl
theorem attach_call {l:OpenLaw}{n:Nat}{q:bj}{dP:List Str}{XP:(Str->Option af)->cq->Prop}{YP:cm->cq->Prop}{d:DefRec}
  (hn:l.most=some n) (hdf:d.params.defaults=[])
  (call:∀(w:cm) (s₀ s₁:ag) (mg mb:Str->Option af) (fa:ah) (o:Obj) (pm cd doc:af) (a:ah) (vs:List af) (ns:List Int),
   Ground q dP [] XP w s₀ mg mb s₁.heap->YP w s₁.heap->
   s₁.heap.get? fa=some o->o.data=.func (docDef d.name d.params d.body d.scope pm cd doc)->s₁.heap.CodeRec cd d.name->mg d.name=some (.ref fa)->
   s₁.heap.get? a=some { cls:=.type "list",data:=.seq vs.toArray }->lh vs ns->ns.length<=n->s₁.gens=#[]->
   codeAny (model l.prog w) callerA (.call (.ref fa) ⟨[.ref a],[]⟩) (λr s'=>r=.ok (.ret (.bool true))/\OldK s₁.heap s'.heap/\s'.os=s₁.os/\rz s'.gens) s₁):
  WalkO q dP XP YP l.row.toRowW d [] (λf vs=>Bh f vs):=by
 intro w s₀ s₁ mg mb G Y fa o pm cd doc dV kV ho hd hcd hD hmg hg args vals as hpre hlay hrd hwl hlo;obtain rfl:dV=.none:=Dflts.none hD hdf;obtain rfl:kV=.none:=Dflts.noKw hD;obtain⟨a,vs,ns,rfl,rfl,hobj,hints,hlen⟩:=TZ hn hpre hwl;refine enter_call (qf (call w s₀ s₁ mg mb fa o pm cd doc a vs ns G Y ho (fd_plain hd) hcd hmg hobj hints hlen hg) λr s' hq=>?_);obtain⟨rfl,h2,h3,h4⟩:=hq;exact⟨.inl ⟨.bool true,.bool true,[],rfl,λ_=>rfl,.bool true,T1 l _,λ_=>⟨oq,λ_ hm=>(nomatch hm)⟩⟩,h2,h3,h4⟩
section
variable{prog:bj}{w:cm}{A:cj}{E:af->ag->Prop}{s:ag}{K:Frag}
end
end Att
namespace L2
open PySem PySem.Spec PyProof.Rows
theorem rX:∀{vs:List af}{ns:List Int},lh vs ns->Vals (ns.map V.int) vs
 |_,_,.nil=>.nil
 |_,_,.cons n t h=>.cons ⟨t,rfl⟩ (rX h)
def nA (s:gy):jw:=match s with
 | .FunctionDef _ a _ _ _ _ _ _ _ _=>a
 |_=>{ posonlyargs:=[],args:=[],vararg:=none,kwonlyargs:=[],kw_defaults:=[],kwarg:=none,defaults:=[] }
def eZ (s:gy):List gy:=match s with
 | .FunctionDef _ _ b _ _ _ _ _ _ _=>b
 |_=>[]
def aO (s:gy):fq:=match s with
 | .FunctionDef _ _ _ _ _ _ sc _ _ _=>sc
 |_=>{ kind:=.function,names:=[],isGenerator:=false,isCoroutine:=false }
abbrev E0:XK:=λ_ _ _=>False
structure Fun (K:aq) (x qual:Str) (st:gy) (f:ah) (fd:bq):Prop where
 ex:∃(oc:af) (od:Option ah) (kV doc pm:af) (an:Option ah) (cdv ct:af) (osl:Array (Option af)),
  fd=ou x qual (nA st) (eZ st) (aO st) .none kV doc pm an cdv ct/\K.lookup f=some ⟨oc,od,.func fd,osl⟩/\wj K cdv qual=true
 kp:ju K (.ref f)=true
section
variable{P:bj}{w:cm}{K:aq}{mg:Str->Option af}{base:cq}
theorem Fun.binds {x qual:Str}{st:gy}{f:ah}{fd:bq}{ps:List Str}(F:Fun K x qual st f fd)
  (h:∀(kV doc pm:af) (an:Option ah) (cdv ct:af) (us:List af),us.length=ps.length->bindArgs (ou x qual (nA st) (eZ st) (aO st) .none kV doc pm an cdv ct) ⟨us,[]⟩=pure (ps.zip us)):Binds K fd ps []:=by
 obtain⟨oc,od,kV,doc,pm,an,cdv,ct,osl,rfl,lk,hcd⟩:=F.ex;exact .all (h kV doc pm an cdv ct)
theorem G5 {x qual:Str}{st:gy}{f:ah}{oc:af}{od an:Option ah}{osl:Array (Option af)}{kV doc pm cdv ct:af}(l:K.lookup f=some ⟨oc,od,.func (ou x qual (nA st) (eZ st) (aO st) .none kV doc pm an cdv ct),osl⟩)
  (c:wj K cdv qual=true) (k:ju K (.ref f)=true):Fun K x qual st f (ou x qual (nA st) (eZ st) (aO st) .none kV doc pm an cdv ct):=⟨⟨oc,od,kV,doc,pm,an,cdv,ct,osl,rfl,l,c⟩,k⟩
end
section
variable{X:Cx}
end
theorem G6 {A B:Prop}(h:B):if false=true then A else B:=by rw[if_neg gp];exact h
theorem G7 {A B:Prop}(h:A):if true=true then A else B:=by rw[if_pos rfl];exact h
def Same (H H':Hp):Prop:=∀b o,H b=some o->H' b=some o
theorem Same.refl (H:Hp):Same H H:=λ_ _ h=>h
theorem vJ {β:Type}(x y:Str) (c:β) (acc:List (Str×β)):((y,c)::acc).lookup x=if x=y then some c else acc.lookup x:=by
 rw[ij]
 by_cases e:x=y
 ·have hb:(x==y)=true:=beq_iff_eq.mpr e;rw[hb,if_pos e]
 ·have hb:(x==y)=false:=beq_eq_false_iff_ne.mpr e;rw[hb,if_neg e]
def cW (env:Env):List (Str×kg)->List (Str×ah)->List (Str×ah)
 | [],acc=>acc
 |(x,k)::r,acc=>cW env r (if k==.free then(x,(env.cells.lookup x).getD 0)::acc else acc)
theorem AM {env:Env}:∀(l:List (Str×kg)) (acc:List (Str×ah)),(∀x,(x,bz)∈l->∃c,env.cells.lookup x=some c)->
  (forIn l acc (λ(x:Str×kg) (r:List (Str×ah))=>match x with
   |(name,kind)=>if(kind==bz)=true then(do let a <-cellOf env name;pure (qo ((name,a)::r)))else(pure (qo r):Sem (ForInStep (List (Str×ah))))))=(pure (cW env l acc):Sem (List (Str×ah)))
 | [],acc,_=>rfl
 |(x,k)::l,acc,h=>by
  rw[pd];dsimp only
  cases hk:k==bz with
  |true=>
   have e:k=.free:=by cases k <;> first|rfl|cases hk
   subst e;obtain⟨c,hc⟩:=h x (bo ..);rw[if_pos rfl,show cW env ((x,bz)::l) acc=cW env l ((x,c)::acc)by rw[cW,if_pos hk,hc];rfl,<-AM l ((x,c)::acc) λy hy=>h y (ax _ hy)];unfold cellOf;rw[hc];rfl
  |false=>rw[if_neg (by simp),show cW env ((x,k)::l) acc=cW env l acc by rw[cW,hk];rfl,<-AM l acc λy hy=>h y (ax _ hy)];rfl
theorem vK {env:Env}{scope:fq}(h:∀x,(x,bz)∈scope.names->∃c,env.cells.lookup x=some c):closureFor scope env=pure (cW env scope.names []):=by unfold closureFor;have:=AM (env:=env) scope.names [] h;show(forIn scope.names [] _ >>= λcs=>pure cs)=_;exact(congrArg (λ(m:Sem (List (Str×ah)))=>m >>= λcs=>pure cs) this)
theorem rY {env:Env}{x:Str}:∀(l:List (Str×kg)) (acc:List (Str×ah)),((x,bz)∈l∨acc.lookup x=some ((env.cells.lookup x).getD 0))->(cW env l acc).lookup x=some ((env.cells.lookup x).getD 0)
 | [],acc,h=>h.elim (λz=>nomatch z) id
 |(y,k)::l,acc,h=>by
  rw[cW]
  cases hk:k==bz with
  |true=>
   refine rY l _ ?_;rw[if_pos rfl]
   by_cases e:x=y
   ·subst e;right;rw[vJ,if_pos rfl]
   ·rcases h with h|h
    ·rcases bf.mp h with h|h
     ·cases h;exact absurd rfl e
     ·exact .inl h
    ·right;rw[vJ,if_neg e];exact h
  |false=>
   refine rY l _ ?_
   rcases h with h|h
   ·rcases bf.mp h with h|h
    ·cases h;simp at hk
    ·exact .inl h
   ·exact .inr h
structure BlkCells (h h':cq) (names:List (Str×kg)) (acc cs:List (Str×ah)):Prop where
 cases:∀x c,cs.lookup x=some c->acc.lookup x=some c∨(h.objs.size<=c/\h'.IsCell c none/\(x,dk)∈names)
 own:∀x,(x,dk)∈names->∃c,cs.lookup x=some c
 old:∀x,(x,dk)∉names->cs.lookup x=acc.lookup x
 inj:(∀x y c,acc.lookup x=some c->acc.lookup y=some c->x=y)->(∀x c,acc.lookup x=some c->c<h.objs.size)->∀x y c,cs.lookup x=some c->cs.lookup y=some c->x=y
theorem rZ:∀(names:List (Str×kg)) (h:cq) (acc:List (Str×ah)),BlkCells h (pushCells h names) names acc (cellsFrom h.objs.size names acc)
 | [],h,acc=>{ cases:=λ_ _ e=>.inl e,own:=λ_ z=>(nomatch z),old:=λ_ _=>rfl,inj:=λa _=>a }
 |(y,k)::r,h,acc=>by
  cases hk:k==dk with
  |true=>
   have ek:k=.cell:=by cases k <;> first|rfl|cases hk
   subst ek;have ih:=rZ r (h.push { cls:=.type "cell",data:=.cell none }) ((y,h.objs.size)::acc);have e1:pushCells h ((y,dk)::r)=pushCells (h.push { cls:=.type "cell",data:=.cell none }) r:=rfl;have e2:cellsFrom h.objs.size ((y,dk)::r) acc=cellsFrom (h.push { cls:=.type "cell",data:=.cell none }).objs.size r ((y,h.objs.size)::acc):=by rw[fi];rfl
   rw[e1,e2];have look:∀x,((y,h.objs.size)::acc).lookup x=if x=y then some h.objs.size else acc.lookup x:=λx=>vJ ..
   refine⟨λx c e=>?_,λx hx=>?_,λx hx=>?_,λh1 h2 x z c ex ez=>?_⟩
   ·rcases ih.cases x c e with q|⟨q1,q2,q3⟩
    ·rw[look]at q
     by_cases exy:x=y
     ·rw[if_pos exy]at q;cases q;refine .inr ⟨ao _,⟨_,qc r _ _ _ (bg _ rfl),rfl⟩,by rw[exy];exact bo ..⟩
     ·rw[if_neg exy]at q;exact .inl q
    ·rw[fi]at q1;exact .inr ⟨Nat.le_of_succ_le q1,q2,ax _ q3⟩
   ·by_cases hr:(x,dk)∈r
    ·exact ih.own x hr
    ·rw[ih.old x hr,look]
     rcases bf.mp hx with z|z
     ·cases z;exact⟨_,if_pos rfl⟩
     ·exact absurd z hr
   ·rw[ih.old x λz=>hx (ax _ z),look,if_neg]
    rintro rfl
    exact hx (bo ..)
   ·refine ih.inj ?_ ?_ x z c ex ez
    ·intro a b c ea eb;rw[look]at ea eb
     by_cases qa:a=y
     ·rw[if_pos qa]at ea;cases ea
      by_cases qb:b=y
      ·exact qa.trans qb.symm
      ·rw[if_neg qb]at eb;exact absurd (h2 b _ eb) (gu _)
     ·rw[if_neg qa]at ea
      by_cases qb:b=y
      ·rw[if_pos qb]at eb;cases eb;exact absurd (h2 a _ ea) (gu _)
      ·rw[if_neg qb]at eb;exact h1 a b c ea eb
    ·intro a c ea;rw[fi];rw[look]at ea
     by_cases qa:a=y
     ·rw[if_pos qa]at ea;cases ea;exact jy _
     ·rw[if_neg qa]at ea;exact kr (h2 a c ea)
  |false=>
   have ih:=rZ r h acc;have e1:pushCells h ((y,k)::r)=pushCells h r:=by rw[pushCells,hk];rfl
   have e2:cellsFrom h.objs.size ((y,k)::r) acc=cellsFrom h.objs.size r acc:=by rw[cellsFrom,hk];rfl
   rw[e1,e2];have nk:∀x,(x,dk)∈(y,k)::r->(x,dk)∈r:=λx z=>by
    rcases bf.mp z with z|z
    ·cases z;simp at hk
    ·exact z
   exact⟨λx c e=>(ih.cases x c e).imp id λ⟨a,b,c⟩=>⟨a,b,ax _ c⟩,λx hx=>ih.own x (nk x hx),λx hx=>ih.old x λz=>hx (ax _ z),ih.inj⟩
def G8 (scope:fq) (env:Env) (L:ah):Env:={ scope:=relabel scope env,locals:=L,globals:=env.globals,cells:=cellsFrom (L+1) scope.names (cW env scope.names []),qual:=env.qual,func:=none,code:=env.code,frame:=env.frame,builtins:=env.builtins }
theorem T3 {M:zo}{A:cj}{E:af->ag->Prop}{s:ag}{scope:fq}{env:Env}{cl:List (Str×ah)}{qual:Str}{g:ah}{Q:Env->ag->Prop}
  (h:Q { scope:=scope,locals:=s.heap.objs.size,globals:=g,cells:=cellsFrom (s.heap.objs.size+1) scope.names cl,qual:=qual,func:=none,code:=env.code,frame:=env.frame,builtins:=env.builtins }
   { s with heap:=pushCells (s.heap.push { cls:=.type "dict",data:=.dict #[] }) scope.names }):
  wpAny M A (newFunctionEnv scope g cl [] qual none .none (some env)) Q E s:=by
 simp only[newFunctionEnv,Az,if_true];refine ae (wpAny_alloc ?_);refine ae (wpAny_layCells _ (λname kind cells=>by cases hkc:kind==dk <;> simp[hkc]) _ _ _ _ ?_);rw[show({ s with heap:=s.heap.push { cls:=.type "dict",data:=.dict #[] } }:ag).heap.objs.size=s.heap.objs.size+1 from fi ..];exact ae (aj (aj h))
def bV (X:Cx) (scope:fq) (N:List Str) (s:ag) (H:Hp) (ex:List ah):Cx:={ X with N:=N,s₀:=s,H₀:=H,env:=G8 scope X.env s.heap.objs.size,outer:=X.stack,stack:=X.stack,ex:=ex,fn:=λx=>scope.names.lookup x==some .cell,xe:=λ_ _=>False }
def pQ (cap:List (Option Nat)) (σ:St):St:=cap.map λo=>match o with|some j=>(σ[j]?).getD none|none=>none
structure CapOk (X:Cx) (scope:fq) (N:List Str) (cap:List (Option Nat)):Prop where
 kind:scope.kind=.function
 nd:∀x∈scope.names,x.2=.local->scope.names.lookup x.1=some .local
 len:cap.length=N.length
 free:∀x,(x,bz)∈scope.names->X.env.kindOf x=some .cell∨X.env.kindOf x=some .free
 apart:∀x,(x,bz)∈scope.names->(x,dk)∉scope.names
 cap:∀(i j:Nat) (x:Str),cap[i]?=some (some j)->N[i]?=some x->X.N[j]?=some x/\(x,bz)∈scope.names/\(relabel scope X.env).names.lookup x≠some .local
theorem AN {scope:fq}{env:Env}{x:Str}:∀{l:List (Str×kg)}{k:kg},(l.map λ(n,k)=>if(k==bz&&env.scope.kind==.function&&env.kindOf n==some .cell)then(n,dk)else(n,k)).lookup x=some k->
  (x,k)∈l∨(k=.cell/\(x,bz)∈l)
 | [],_,h=>by simp at h
 |(n,q)::r,k,h=>by
  have ih:=@AN scope env x r k;rw[cy]at h
  by_cases hc:(q==bz&&env.scope.kind==.function&&env.kindOf n==some .cell)=true
  ·have hq:q=.free:=by
    have:(q==bz)=true:=by
     cases z:q==bz with
     |true=>rfl
     |false=>rw[z]at hc;simp at hc
    cases q <;> first|rfl|cases this
   dsimp only at h;rw[if_pos hc,ij]at h
   cases e:x==n with
   |true=>rw[e]at h;have h':dk=k:=cf h;subst h';have ex:=beq_iff_eq.mp e;subst ex;subst hq;exact .inr ⟨rfl,bo ..⟩
   |false=>rw[e]at h;exact(ih h).imp (ax _) λ⟨a,b⟩=>⟨a,ax _ b⟩
  ·dsimp only at h;rw[if_neg hc,ij]at h
   cases e:x==n with
   |true=>rw[e]at h;have h':q=k:=cf h;subst h';have ex:=beq_iff_eq.mp e;subst ex;exact .inl (bo ..)
   |false=>rw[e]at h;exact(ih h).imp (ax _) λ⟨a,b⟩=>⟨a,ax _ b⟩
theorem vL {env:Env}{x:Str}{c:ah}:∀(l:List (Str×kg)) (acc:List (Str×ah)),(cW env l acc).lookup x=some c->acc.lookup x=some c∨((x,bz)∈l/\c=(env.cells.lookup x).getD 0)
 | [],acc,h=>.inl h
 |(y,k)::l,acc,h=>by
  rw[cW]at h
  cases hk:k==bz with
  |true=>
   have ek:k=.free:=by cases k <;> first|rfl|cases hk
   subst ek;rw[if_pos hk]at h
   rcases vL l _ h with q|⟨q1,q2⟩
   ·rw[vJ]at q
    by_cases e:x=y
    ·rw[if_pos e]at q;subst e;exact .inr ⟨bo ..,(cf q).symm⟩
    ·rw[if_neg e]at q;exact .inl q
   ·exact .inr ⟨ax _ q1,q2⟩
  |false=>rw[if_neg (by rw[hk];exact gp)]at h;exact(vL l _ h).imp id λ⟨a,b⟩=>⟨ax _ a,b⟩
section
variable{X:Cx}{pins:List (ah×Obj)}{σ:St}{H:Hp}{s:ag}{scope:fq}{N:List Str}{cap:List (Option Nat)}{ex:List ah}
theorem vM (I:Inv X pins σ H s) (C:CapOk X scope N cap) {x:Str}{c:ah}(e:(cW X.env scope.names []).lookup x=some c):(x,bz)∈scope.names/\X.env.cells.lookup x=some c:=by
 rcases vL _ _ e with q|⟨q1,q2⟩
 ·cases q
 ·obtain⟨c',h'⟩:=I.ok.has x (C.free x q1);rw[h']at q2;subst q2;exact⟨q1,h'⟩
theorem vN (I:Inv X pins σ H s) (C:CapOk X scope N cap) {x:Str}{c:ah}(e:(G8 scope X.env s.heap.objs.size).cells.lookup x=some c):
  (X.env.cells.lookup x=some c/\(x,bz)∈scope.names)∨(s.heap.objs.size<c/\(pushCells (s.heap.push { cls:=.type "dict",data:=.dict #[] }) scope.names).IsCell c none/\(x,dk)∈scope.names):=by
 have B:=rZ scope.names (s.heap.push { cls:=.type "dict",data:=.dict #[] }) (cW X.env scope.names []);rw[fi]at B
 rcases B.cases x c e with q|⟨q1,q2,q3⟩
 ·obtain⟨a,b⟩:=vM I C q;exact .inl ⟨b,a⟩
 ·rw[fi]at q1;exact .inr ⟨q1,q2,q3⟩
theorem G9 (I:Inv X pins σ H s) (C:CapOk X scope N cap) (hex:∀b∈ex,cV X pins H b/\b<s.heap.objs.size):(bV X scope N s H ex).Ok:=by
 have B:=rZ scope.names (s.heap.push { cls:=.type "dict",data:=.dict #[] }) (cW X.env scope.names []);rw[fi]at B;have kf:∀x,(x,bz)∈scope.names->∃c,X.env.cells.lookup x=some c:=λx hx=>I.ok.has x (C.free x hx);refine⟨I.ok.mod,C.kind,I.ok.glob,I.ok.blt,ao _, ?_, ?_, ?_,I.ok.hd,I.ok.frames,.inl rfl, ?_,I.bs,cu I.ok.bsz I.sz, ?_, ?_,I.stack,I.stkFree⟩
 ·refine B.inj (λx y c e1 e2=>?_) λx c e=>?_
  ·exact I.ok.inj x y c (vM I C e1).2 (vM I C e2).2
  ·obtain⟨v,q⟩:=I.cell x c (vM I C e).2;rw[fi];exact kr q.lt
 ·intro x hx;have hx':(relabel scope X.env).names.lookup x=some .cell∨(relabel scope X.env).names.lookup x=some .free:=hx;have mem:(x,dk)∈scope.names∨(x,bz)∈scope.names:=by
   rcases hx' with h|h
   ·rcases AN (scope:=scope) h with q|⟨_,q⟩
    ·exact .inl q
    ·exact .inr q
   ·rcases AN (scope:=scope) h with q|⟨z,q⟩
    ·exact .inr q
    ·exact .inr q
  by_cases hc:(x,dk)∈scope.names
  ·exact B.own x hc
  ·rcases mem with h|h
   ·exact absurd h hc
   ·exact⟨_,(B.old x hc).trans (rY _ _ (.inl h))⟩
 ·intro x c hf e;have hf':(scope.names.lookup x==some .cell)=true:=hf;have hm:(x,dk)∈scope.names:=fg (eq_of_beq hf')
  rcases vN I C e with⟨_,q⟩|⟨q,_⟩
  ·exact absurd hm (C.apart x q)
  ·exact gh q
 ·intro b hb;obtain⟨⟨f0,f1,f2,f3,f4,f5⟩,hlt⟩:=hex b hb;refine⟨ay hlt,λx c e z=>?_⟩
  rcases vN I C e with⟨q,_⟩|⟨q,_⟩
  ·exact f4 x c q z
  ·subst z;exact gu _ (Nat.lt_trans q hlt)
 ·intro b o e hb;obtain⟨⟨f0,f1,f2,f3,f4,f5⟩,hlt⟩:=hex b hb
  rcases f3 with q|q
  ·exact I.ok.noex b o e q
  ·exact gu _ (au (ar e) (cu I.ok.bsz q))
 ·intro b hb z;obtain⟨⟨f0,f1,f2,f3,f4,f5⟩,hlt⟩:=hex b hb
  rcases bf.mp (I.stkSub b z)with q|q
  ·exact f1 q
  ·exact f2 q
theorem T4 (I:Inv X pins σ H s) (C:CapOk X scope N cap) (hex:∀b∈ex,cV X pins H b/\b<s.heap.objs.size):
  Inv (bV X scope N s H ex) pins (pQ cap σ) H { s with heap:=pushCells (s.heap.push { cls:=.type "dict",data:=.dict #[] }) scope.names }:=by
 have B:=rZ scope.names (s.heap.push { cls:=.type "dict",data:=.dict #[] }) (cW X.env scope.names []);rw[fi]at B;have kp:∀b o,s.heap.get? b=some o->(pushCells (s.heap.push { cls:=.type "dict",data:=.dict #[] }) scope.names).get? b=some o:=λb o e=>qc _ _ _ _ (ak _ e);have ns:(pushCells (s.heap.push { cls:=.type "dict",data:=.dict #[] }) scope.names).Ns s.heap.objs.size (λ_=>none):=⟨_,#[],_,qc _ _ _ _ (bg _ rfl),rfl,(λe he=>absurd he (by simp)),λ_=>rfl⟩
 obtain⟨m,hn,hl⟩:=I.loc;refine⟨G9 I C hex,rfl,I.bare,Un.kept kp,⟨_,ns,λi x v h1 h2 h3=>?_⟩,λx c e=>?_,I.hok.fresh (ao _),λx c e=>?_,λp hp=>?_,I.hok.kept kp, ?_⟩
 ·have h2':(cap.map λo=>match o with|some j=>(σ[j]?).getD none|none=>none)[i]?=some (some v):=h2;rw[df]at h2'
  cases q:cap[i]? with
  |none=>rw[q]at h2';cases h2'
  |some o=>
   rw[q]at h2'
   cases o with
   |none=>cases h2'
   |some j=>
    have e1:(σ[j]?).getD none=some v:=cf h2';have e2:σ[j]?=some (some v):=by
     cases z:σ[j]? with
     |none=>rw[z]at e1;cases e1
     |some w=>rw[z]at e1;exact congrArg some e1
    obtain⟨c1,c2,c3⟩:=C.cap i j x q h1;have vis:lW X.env.scope x:=by
     rcases C.free x c2 with z|z
     ·exact .inr (.inl z)
     ·exact .inr (.inr z)
    obtain⟨u,r,l⟩:=hl j x v c1 e2 vis;refine⟨u,r, ?_⟩
    rcases l with⟨hk,hm⟩|⟨hk,c,hc,hcell⟩
    ·rcases C.free x c2 with z|z
     ·rw[z]at hk;cases hk
     ·rw[z]at hk;cases hk
    ·refine .inr ⟨?_,c, ?_, ?_⟩
     ·have h3':lW (relabel scope X.env) x:=h3
      rcases h3' with z|z|z
      ·exact absurd z c3
      ·exact .inl z
      ·exact .inr z
     ·have:=(B.old x (C.apart x c2)).trans (rY _ _ (.inl c2));rw[hc]at this;exact this
     ·obtain⟨o,ho,hd⟩:=hcell;exact⟨o,kp _ _ ho,hd⟩
 ·rcases vN I C e with⟨q,_⟩|⟨_,q,_⟩
  ·obtain⟨v,o,ho,hd⟩:=I.cell x c q;exact⟨v,o,kp _ _ ho,hd⟩
  ·exact⟨none,q⟩
 ·rcases vN I C e with⟨q,_⟩|⟨q,_⟩
  ·exact I.freeC x c q
  ·exact I.hok.fresh (gh q)
 ·obtain⟨a1,a2,a3,a4,a5⟩:=I.pin p hp;refine⟨kp _ _ a1,a2,ay (ar a1),λz=>?_,a5⟩
  rcases bf.mp (I.stkSub _ z)with q|q
  ·exact a3 q
  ·exact a4 q
 ·show(cap.map _).length=N.length;rw[bh];exact C.len
theorem T5 (I:Inv X pins σ H s) (C:CapOk X scope N cap) (hex:∀b∈ex,cV X pins H b/\b<s.heap.objs.size):∀b∈ex,cV (bV X scope N s H ex) pins H b:=by intro b hb;obtain⟨⟨f0,f1,f2,f3,f4,f5⟩,hlt⟩:=hex b hb;have ok:=G9 (N:=N) I C hex;exact⟨f0,(ok.exf b hb).1,ok.exfs b hb,.inl hb,(ok.exf b hb).2,f5⟩
theorem T6 {σ':St}{H':Hp}{s':ag}{h':cq}(I:Inv X pins σ H s) (hex:∀b∈ex,cV X pins H b/\b<s.heap.objs.size) (I':Inv (bV X scope N s H ex) pins σ' H' s') (hh:ik s.heap.objs.size s'.heap h'):
  Inv X pins σ H' { s' with heap:=h' }:=by
 have u:Un (dH X.stack) ex H H' s.heap s'.heap:=I'.base;have up:∀b o o',s.heap.get? b=some o->s'.heap.get? b=some o'->h'.get? b=some o':=λb o o' e e'=>(hh.2 b (ay (ar e))).trans e';have hL:H' s.heap.objs.size=none:=I'.free;refine I.call' (s':={ s' with heap:=h' }) (ch:=ex) I'.os ⟨λb o q n hb hx=>up b o o q (u.keep b o q n hb hx),λb o q n hb hx=>?_,u.free,λb o q hx=>?_,u.tups,u.frzs,u.tbls⟩ (λb o e=>?_) I'.bare λb hb=>?_
 ·obtain⟨sl,e⟩:=u.slot b o q n hb hx;exact⟨sl,up b o _ q e⟩
 ·obtain⟨o',e⟩:=u.there b o q hx;exact⟨o',up b o _ q e⟩
 ·refine(I'.hok b o e).stay (λc v hc q=>(hh.2 c ?_).trans q) (λ_ q=>q) λ_ _ q=>q
  rcases hc with z|z
  ·rw[z];rintro rfl;rw[hL]at e;cases e
  ·rintro rfl;rw[hL]at z;cases z
 ·obtain⟨⟨f0,f1,f2,f3,f4,f5⟩,hlt⟩:=hex b hb;exact⟨f3,f1,f4,f5⟩
theorem Inv.adopt {a:ah}{o:HO}(I:Inv X pins σ H s) (f:cV X pins H a) (ha:X.s₀.heap.objs.size<=a) (new:ObjOk X.prog X.w (aQ H a o) s.heap a o):Inv X pins σ (aQ H a o) s:=by
 obtain⟨f0,f1,f2,f3,f4,f5⟩:=f;have ne0:∀b ob,X.s₀.heap.get? b=some ob->b≠a:=λb ob e z=>by subst z;exact gu _ (au (ar e) ha)
 refine⟨I.ok,I.os,I.bare,⟨I.base.keep,I.base.slot,λb ob e n hx=>by rw[bN (ne0 b ob e)];exact I.base.free b ob e n hx,I.base.there,λb xs e=>?_,λb ob u e=>?_,λb ps e=>?_⟩,I.loc,I.cell,by rw[bN (cw f1)];exact I.free,
  λx c e=>by rw[bN (f4 x c e)];exact I.freeC x c e,λp hp=>?_,λb u e=>?_,I.len⟩
 ·have:=I.base.tups b xs e;rw[bN (fH this f0)];exact this
 ·have:=I.base.frzs b ob u e;rw[bN (fH this f0)];exact this
 ·obtain⟨more,this⟩:=I.base.tbls b ps e;exact⟨more,by rw[bN (fH this f0)];exact this⟩
 ·obtain⟨a1,a2,a3,a4,a5⟩:=I.pin p hp;exact⟨a1,by rw[bN (f5 p hp)];exact a2,a3,a4,a5⟩
 ·by_cases hb:b=a
  ·subst hb;rw[cS]at e;cases e;exact new
  ·rw[bN hb]at e;exact(I.hok b u e).stay (λ_ _ _ q=>q) (λc q=>by rw[bN (fH q f0)];exact q) λc xs q=>by rw[bN (fH q f0)];exact q
end
def AccAt (s:ag) (D:ah) (xs:List V):Prop:=xs.length<=ck/\∃(its:List af) (n:Nat),Vals xs its/\s.heap.get? D=some { cls:=.type "list",data:=.seq its.toArray n }
abbrev TC:=St->Hp->List V->(St->Hp->List V->Prop)->Prop
def PCl (X:Cx) (D:ah) (m:Sem Unit) (t:TC):Prop:=
 ∀(pins:List (ah×Obj)) (s:ag) (σ:St) (H:Hp) (xs:List V) (K:St->Hp->List V->Prop),Inv X pins σ H s->AccAt s D xs->cV X pins H D->t σ H xs K->
  wpAny (model X.prog X.w) X.A m (λ_ s'=>∃σ' H' xs',Inv X pins σ' H' s'/\AccAt s' D xs'/\H' D=none/\K σ' H' xs') X.xe s
section
variable{X:Cx}{D:ah}
theorem AccAt.obj {s:ag}{xs:List V}(a:AccAt s D xs):∃o,s.heap.get? D=some o/\∀v,o.data≠.cell v:=by obtain⟨_,its,n,_,e⟩:=a;exact⟨_,e,λv z=>nomatch z⟩
theorem Inv.pinD {pins:List (ah×Obj)}{s:ag}{σ:St}{H:Hp}{xs:List V}(I:Inv X pins σ H s) (a:AccAt s D xs) (f:cV X pins H D):Inv X (pins++jI [D] s.heap) σ H s:=
 I.pinned (λb hb=>by (have e:b=D:=by simpa using hb);subst e;exact f) λb hb=>by
  have e:b=D:=by simpa using hb
  subst e;exact a.obj
theorem Inv.atD {pins:List (ah×Obj)}{s s':ag}{σ':St}{H':Hp}{xs:List V}(a:AccAt s D xs) (I:Inv X (pins++jI [D] s.heap) σ' H' s'):AccAt s' D xs/\H' D=none:=by obtain⟨z,its,n,r,e⟩:=a;have:=I.pin (D,_) (cg _ (cg _ (pN (by simp) e)));exact⟨⟨z,its,n,r,this.1⟩,this.2.1⟩
def vO (te:TE):TC:=λσ H xs K=>te σ H λv H1=>xs.length<ck/\K σ H1 (xs++[v])
theorem vP {elt:bp}{te:TE}(he:PE X elt te):PCl X D (do let x <-eval elt X.env;let _ <-call (.builtin "list.append") [.ref D,x];pure ()) (vO te):=by
 intro pins s σ H xs K I a f h;refine ae (aW (he _ s σ H _ (I.pinD a f) h) λu s1 ⟨v,H1,I1,r1,hz,q1⟩=>?_);obtain⟨a1,n1⟩:=Inv.atD a I1;have I1':=I1.unpinned;obtain⟨z,its,n,r,e⟩:=a1;have hl:=r.length;refine ae (ue F.slot_list_append ⟨_,e,rfl⟩ F.entry_list_append (F.args_list_append_2 _ _) (PySem.list_append D its.toArray n u (by rw[av];omega)) ⟨e, ?_⟩);have q:=Ao e (·.push u);have e2:its.toArray.push u=(its++[u]).toArray:=by simp
 rw[e2]at q;refine aj ⟨σ,H1,xs++[v], ?_,⟨by rw[bx,Ap];omega,its++[u],_,r.append (.cons r1 .nil),q⟩,n1,q1⟩;obtain⟨f0,f1,f2,f3,f4,f5⟩:=f;exact I1'.turned (t':=s1.toks) (λb o hb z=>(mz s1.heap _ (cw hb)).trans z) n1 f1 f3 f4 f5
def HC (ifs:List bp) (env:Env):Sem Bool:=forIn ifs true λc r=>if r=true then do let ok <-isTrue c env (eval c env);pure (qo ok)else pure (qo r)
def PTs (X:Cx) (ifs:List bp) (t:TT):Prop:=∀(pins:List (ah×Obj)) (s:ag) (σ:St) (H:Hp) (Q:Bool->Hp->Prop),Inv X pins σ H s->t σ H Q->wpAny (model X.prog X.w) X.A (HC ifs X.env) (TP X pins σ Q) X.xe s
def HD:TT:=λ_ H Q=>Q true H
theorem HE:PTs X [] HD:=λpins s σ H Q I h=>wpAny_tests_nil ⟨H,I,h⟩
theorem T7 {c:bp}{t:TT}(h:PT X c t):PTs X [c] t:=λpins s σ H Q I q=>wpAny_tests_one (h pins s σ H Q I q)
def kA (p:Pos) (it:af) (tg:bp) (ifs:List bp) (env:Env) (inner:Sem Unit) (c:Code):Sem PySem.Fin:=do
 standAt p
 match <-pyNext it with
 |none=>pure (.done .next)
 |some v=>do
  letOwnedTupleGo tg it v
  assign tg env v
  let ok <-HC ifs env
  if ok=true then do inner;again c
  else again c
def pR (J:It) (g:TG) (tt:TT) (inner:TC) (K:St->Hp->List V->Prop) (σ:St) (H:Hp) (xs:List V):Prop:=
 ∃W:Nat->Nat->St->Hp->List V->Prop,(∃m,W 0 m σ H xs)/\∀i m σ H xs,W i m σ H xs->
  (J.stop i H/\K σ H xs)∨(J.go i H/\∃N:St->Hp->List V->Prop,(∀σ' H' xs',N σ' H' xs'->∃m',m'<m/\W (i+1) m' σ' H' xs') /\
   ∀x H',J.yld i H x H'->g x σ H' λσ2 H2=>tt σ2 H2 λb H3=>if b=true then inner σ2 H3 xs N else N σ2 H3 xs)
theorem HF {elt:bp}{gens:List jd}{sc:fq}{ps:Pos}{d:Nat}{it:ah}{tg:bp}{ifs:List bp}{p:Pos}{inner:Sem Unit}{g:TG}{tt:TT}{ti:TC}{J:It}{fp:List ah}{tn:Nat->cq->Prop}
  (hx:X.xe=λ_ _=>False) (hc:X.calm=true)
  (ht:compTurn (.ListComp elt gens sc ps) d (.ref it) (.ref D) X.env=kA p (.ref it) tg ifs X.env inner (.compLoop (.ListComp elt gens sc ps) d (.ref it) (.ref D) X.env))
  (hg:PG X tg g) (htt:PTs X ifs tt) (hi:PCl X D inner ti) (T:Turn X.prog X.w X.K tg J fp it tn)
  {pins:List (ah×Obj)}{s:ag}{σ:St}{H:Hp}{xs:List V}{K:St->Hp->List V->Prop}{R:yj->ag->Prop}(I:Inv X pins σ H s) (a:AccAt s D xs) (f:cV X pins H D) (st:tn 0 s.heap) (hf:∀b∈fp,cV X pins H b) (hD:D∉fp)
  (h:pR J g tt ti K σ H xs) (hR:∀σ' H' xs' s',Inv X pins σ' H' s'->AccAt s' D xs'->H' D=none->K σ' H' xs'->R (.ok .next) s'):
  codeAny (model X.prog X.w) X.A (.compLoop (.ListComp elt gens sc ps) d (.ref it) (.ref D) X.env) R s:=by
 obtain⟨W,⟨m0,w0⟩,turn⟩:=h;have stat:∀{H':Hp},(∀b∈fp,H' b=none)->∀b∈fp,cV X pins H' b:=λhn b hb=>⟨hn b hb,(hf b hb).2⟩
 have statD:∀{H':Hp},H' D=none->cV X pins H' D:=λhn=>⟨hn,f.2⟩
 refine codeAny_loop rfl (λn s'=>∃i σ' H' xs',Inv X pins σ' H' s'/\AccAt s' D xs'/\H' D=none/\tn i s'.heap/\(∀b∈fp,H' b=none)/\W i n σ' H' xs') ?_ m0 ⟨0,σ,H,xs,I,a,f.1,st,λb hb=>(hf b hb).1,w0⟩
 rintro n s3 ⟨i,σ3,H3,xs3,I3,a3,n3,st3,fr3,w3⟩
 show wpAny _ X.A ((compTurn (.ListComp elt gens sc ps) d (.ref it) (.ref D) X.env).onRaise (λx=>do noteFrame x X.env;theTreesLotGoes x)) _ _ s3;rw[ht];refine sr (jx (Q:=λfin s'=>match fin with | .done f=>R (.ok f) s' | .again c'=>c'=.compLoop (.ListComp elt gens sc ps) d (.ref it) (.ref D) X.env/\∃m,m<n/\∃i σ' H' xs',Inv X pins σ' H' s'/\AccAt s' D xs'/\H' D=none/\tn i s'.heap/\(∀b∈fp,H' b=none)/\W i m σ' H' xs') (E:=λ_ _=>False) ?_ (λ_ _ z=>z) λ_ _ z=>z.elim);unfold kA;refine ae (sj (ae ?_));have xe':∀{α:Type}{m:Sem α}{Q:α->ag->Prop}{s:ag},wpAny (model X.prog X.w) X.A m Q X.xe s->wpAny (model X.prog X.w) X.A m Q (λ_ _=>False) s:=λ{α m Q s} z=>by rw[hx]at z;exact z
 have I3':=I3.pinD a3 (statD n3);have fr3':∀b∈fp,cV X (pins++jI [D] s3.heap) H3 b:=λb hb=>by
  obtain⟨g0,g1,g2,g3,g4,g5⟩:=stat fr3 b hb;refine⟨g0,g1,g2,g3,g4,λp hp=>?_⟩
  rcases dy.mp hp with z|z
  ·exact g5 p (jr _ z)
  ·rcases dy.mp z with z|z
   ·exact g5 p (cg _ z)
   ·have:=(AD z).1;have e:p.1=D:=by simpa using this
    rw[e];rintro rfl;exact hD hb
 rcases turn i n σ3 H3 xs3 w3 with⟨stop,qn⟩|⟨go,N,hN,step⟩
 ·refine aW (T.done X rfl rfl rfl hc i _ s3 σ3 H3 (λ_ _=>False) I3' fr3' st3 stop) λr s4 ⟨hr,I4⟩=>?_;subst hr;obtain⟨a4,n4⟩:=Inv.atD a3 I4;exact aj (hR σ3 H3 xs3 s4 I4.unpinned a4 n4 qn)
 ·refine aW (T.item X rfl rfl rfl hc i _ s3 σ3 H3 (λ_ _=>False) I3' fr3' st3 go) λr s4 ⟨u,hr,h4⟩=>?_;subst hr;refine ae (aW h4 λ_ s5 ⟨x,H5,I5,r5,y5,st5,fr5⟩=>?_);obtain⟨a5,n5⟩:=Inv.atD a3 I5;have I5u:=I5.unpinned;have I5p:=I5u.pinned (stat fr5) (T.obj _ _ st5);have fD5:cV X (pins++jI fp s5.heap) H5 D:=by
   obtain⟨g0,g1,g2,g3,g4,g5⟩:=statD n5;refine⟨g0,g1,g2,g3,g4,λp hp=>?_⟩
   rcases dy.mp hp with z|z
   ·exact g5 p (jr _ z)
   ·rcases dy.mp z with z|z
    ·exact g5 p (cg _ z)
    ·rintro rfl;exact hD (AD z).1
  have I5':=I5p.pinD a5 fD5;refine ae (xe' (aW (hg _ s5 σ3 H5 x u _ I5' r5 (step x H5 y5)) λ_ s6 ⟨σ6,H6,I6,q6⟩=>?_));obtain⟨a6,n6⟩:=Inv.atD a5 I6;have pin':∀{s σ H},Inv X (pins++jI fp s5.heap) σ H s->tn (i+1) s.heap/\∀b∈fp,H b=none:=λ{s σ H} J=>by refine⟨T.keep _ _ _ st5 λb hb o e=>(J.pin (b,o) (cg _ (cg _ (pN hb e)))).1,λb hb=>?_⟩;obtain⟨o,e,d⟩:=T.obj _ _ st5 b hb;exact(J.pin (b,o) (cg _ (cg _ (pN hb e)))).2.1
  have fD6:cV X (pins++jI fp s5.heap) H6 D:=⟨n6,fD5.2⟩
  have I6u:=I6.unpinned;have I6p:=I6u.pinD a6 fD6;refine ae (xe' (aW (htt _ s6 σ6 H6 _ I6p q6) λb s7 ⟨H7,I7,q7⟩=>?_));obtain⟨a7,n7⟩:=Inv.atD a6 I7;have I7u:=I7.unpinned;have fin:∀{s8 σ8 H8 xs8},Inv X (pins++jI fp s5.heap) σ8 H8 s8->AccAt s8 D xs8->H8 D=none->N σ8 H8 xs8->
    ∃m,m<n/\∃i σ' H' xs',Inv X pins σ' H' s8/\AccAt s8 D xs'/\H' D=none/\tn i s8.heap/\(∀b∈fp,H' b=none)/\W i m σ' H' xs':=λ{s8 σ8 H8 xs8} J a8 n8 q8=>by
   obtain⟨m',hm,w8⟩:=hN σ8 H8 xs8 q8;obtain⟨t8,fr8⟩:=pin' J;exact⟨m',hm,i+1,σ8,H8,xs8,J.unpinned,a8,n8,t8,fr8,w8⟩
  cases b with
  |true=>
   rw[if_pos rfl]at q7 ⊢;have fD7:cV X (pins++jI fp s5.heap) H7 D:=⟨n7,fD5.2⟩
   refine ae (xe' (aW (hi _ s7 σ6 H7 xs3 N I7u a7 fD7 q7) λ_ s8 ⟨σ8,H8,xs8,I8,a8,n8,q8⟩=>?_));exact aj ⟨rfl,fin I8 a8 n8 q8⟩
  |false=>rw[if_neg gp]at q7 ⊢;exact aj ⟨rfl,fin I7u a7 n7 q7⟩
end
theorem AO (elt tg iter:bp) (ifs:List bp) (sc:fq) (ps:Pos) (it:af) (D:ah) (env:Env):
  compTurn (.ListComp elt [⟨tg,iter,ifs,0⟩] sc ps) 0 it (.ref D) env =
   kA iter.pos it tg ifs env (do let x <-eval elt env;let _ <-call (.builtin "list.append") [.ref D,x];pure ()) (.compLoop (.ListComp elt [⟨tg,iter,ifs,0⟩] sc ps) 0 it (.ref D) env):=by rfl
def sC (iter:bp) (e:bp) (d:Nat) (D:ah) (env:Env):Sem Unit:=do
 let x <-eval iter env
 standAt iter.pos
 let x <-foldedSetIterable iter env x
 let it <-holding [x] (pyIter x)
 let _ <-runOwn (.compStart e d it (.ref D) env) env
 pure ()
theorem T9 (elt tg iter tg' iter':bp) (ifs ifs':List bp) (sc:fq) (ps:Pos) (it:af) (D:ah) (env:Env):
  compTurn (.ListComp elt [⟨tg,iter,ifs,0⟩,⟨tg',iter',ifs',0⟩] sc ps) 0 it (.ref D) env =
   kA iter.pos it tg ifs env (sC iter' (.ListComp elt [⟨tg,iter,ifs,0⟩,⟨tg',iter',ifs',0⟩] sc ps) 1 D env) (.compLoop (.ListComp elt [⟨tg,iter,ifs,0⟩,⟨tg',iter',ifs',0⟩] sc ps) 0 it (.ref D) env):=by
 unfold kA sC;simp only[bind_assoc,pure_bind];rfl
theorem UA (elt tg iter tg' iter':bp) (ifs ifs':List bp) (sc:fq) (ps:Pos) (it:af) (D:ah) (env:Env):
  compTurn (.ListComp elt [⟨tg,iter,ifs,0⟩,⟨tg',iter',ifs',0⟩] sc ps) 1 it (.ref D) env =
   kA iter'.pos it tg' ifs' env (do let x <-eval elt env;let _ <-call (.builtin "list.append") [.ref D,x];pure ()) (.compLoop (.ListComp elt [⟨tg,iter,ifs,0⟩,⟨tg',iter',ifs',0⟩] sc ps) 1 it (.ref D) env):=by rfl
section
variable{X:Cx}{D:ah}
theorem HG {prog:bj}{w:cm}{A:cj}{R:yj->ag->Prop}{s:ag}{elt:bp}{gens:List jd}{sc:fq}{ps:Pos}{d:Nat}{it acc:af}{env:Env}(ha:((gens)[d]?).elim false (·.is_async != 0)=false)
  (h0:codeAny (model prog w) A (.compLoop (.ListComp elt gens sc ps) d it acc env) R s)
  (h:wpAny (model prog w) A (pyIter it) (λit' s'=>codeAny (model prog w) A (.compLoop (.ListComp elt gens sc ps) d it' acc env) R s') (λ_ _=>False) s):
  codeAny (model prog w) A (.compStart (.ListComp elt gens sc ps) d it acc env) R s:=by
 refine codeAny_of_tree ?_;show wpAny _ _ ((compStart (.ListComp elt gens sc ps) d it acc env).onRaise (λx=>do noteFrame x env;standAt theWindowsPlace)) _ _ s;refine wpAny_notedAt (jx (E:=λ_ _=>False) ?_ (λ_ _ z=>z) λ_ _ z=>z.elim);unfold compStart;rw[show((clausesOf (.ListComp elt gens sc ps))[d]?).elim false (·.is_async != 0)=false from ha];simp only[cn,if_false];refine ae (mm (wpAny_ite ?_))
 split
 ·first
   |exact ae (aj (aj (And.intro rfl h0)))
   |exact aj (And.intro rfl h0)
 ·have fin:∀s:ag,wpAny (model prog w) A (pyIter it) (λit' s'=>codeAny (model prog w) A (.compLoop (.ListComp elt gens sc ps) d it' acc env) R s') (λ_ _=>False) s->
    wpAny (model prog w) A (do let it' <-pyIter it;again (.compLoop (.ListComp elt gens sc ps) d it' acc env)) (λfin s'=>match fin with | .done f=>R (.ok f) s' | .again c=>c.quiet=true/\codeAny (model prog w) A c R s') (λ_ _=>False) s:=λs h=>ae (jx h (λit' s' h'=>aj ⟨rfl,h'⟩) λ_ _ x=>x)
  refine ae (uf ?_);have ec:clausesOf (.ListComp elt gens sc ps)=gens:=rfl;rw[ec]
  cases q:gens[d]? with
  |none=>exact fin s h
  |some g=>exact ae (sj (fin s h))
def HH (wi:TI) (g:TG) (tt:TT) (inner:TC):TC:=λσ H xs K=>wi σ H λJ H1=>pR J g tt inner K σ H1 xs
theorem UB {elt:bp}{gens:List jd}{sc:fq}{ps:Pos}{d:Nat}{tg iter:bp}{ifs:List bp}{inner:Sem Unit}{wi:TI}{g:TG}{tt:TT}{ti:TC}
  (hx:X.xe=λ_ _=>False) (hc:X.calm=true) (ha:((gens)[d]?).elim false (·.is_async != 0)=false)
  (ht:∀it,compTurn (.ListComp elt gens sc ps) d (.ref it) (.ref D) X.env=kA iter.pos (.ref it) tg ifs X.env inner (.compLoop (.ListComp elt gens sc ps) d (.ref it) (.ref D) X.env))
  (hi:PI X tg iter wi) (hg:PG X tg g) (htt:PTs X ifs tt) (hin:PCl X D inner ti) (hs:∀x,foldedSetIterable iter X.env x=pure x):
  PCl X D (sC iter (.ListComp elt gens sc ps) d D X.env) (HH wi g tt ti):=by
 intro pins s σ H xs K I a f h;unfold sC;refine ae (aW (hi _ s σ H _ (I.pinD a f) h) λv s1 h1=>ae (sj (ae (zr (hs v) (ae (ig (aW h1 λitv s2 h2=>?_)))))));obtain⟨it,fp,tn,J,H2,e,I2,T,st2,f2,lp⟩:=h2;subst e;obtain⟨a2,n2⟩:=Inv.atD a I2;have I2u:=I2.unpinned;have hpD:∀b∈fp,b≠D:=λb hb z=>by subst z;obtain⟨_,its,n,_,eo⟩:=a;exact(f2 b hb).2.2.2.2.2 (b,_) (cg _ (cg _ (pN (by simp) eo))) rfl
 have f2u:∀b∈fp,cV X pins H2 b:=λb hb=>by
  obtain⟨g0,g1,g2,g3,g4,g5⟩:=f2 b hb;exact⟨g0,g1,g2,g3,g4,λp hp=>g5 p (by
   rcases dy.mp hp with z|z
   ·exact jr _ z
   ·exact cg _ (jr _ z))⟩
 have fD:cV X pins H2 D:=⟨n2,f.2⟩
 refine ae (wpAny_runOwn ?_);have loop:codeAny (model X.prog X.w) X.A (.compLoop (.ListComp elt gens sc ps) d (.ref it) (.ref D) X.env) (λr s'=>match r with
   | .ok f=>wpAny (model X.prog X.w) X.A (pure ():Sem Unit) (λ_ s'=>∃σ' H' xs',Inv X pins σ' H' s'/\AccAt s' D xs'/\H' D=none/\K σ' H' xs') X.xe s'
   | .error e=>cameBackBy (model X.prog X.w) X.A X.env X.xe e s') s2:=
  HF hx hc (ht it) hg htt hin T I2u a2 fD st2 f2u (λz=>hpD D z rfl) lp λσ' H' xs' s' I' a' n' k'=>aj ⟨σ',H',xs',I',a',n',k'⟩
 exact HG ha loop (T.self _ 0 s2 _ _ st2 loop)
end
def vQ (wi:TI) (cap:List (Option Nat)) (g:TG) (tt:TT) (inner:TC):TE:=λσ H Q=>wi σ H λJ H1=>pR J g tt inner (λ_ H' xs=>∀p,H' p=none->Q (.ref p) (aQ H' p (.lst xs))) (pQ cap σ) H1 []
section
variable{X:Cx}
theorem AQ {elt:bp}{gens:List jd}{sc:fq}{ps:Pos}{tg iter:bp}{ifs:List bp}{rest:List jd}{inner:ah->Env->Sem Unit}{g:TG}{tt:TT}{ti:TC}{N:List Str}{cap:List (Option Nat)}{E:af->ag->Prop}
  (hc:X.calm=true) (C:CapOk X sc N cap) (eg:gens=⟨tg,iter,ifs,0⟩::rest)
  (ht:∀it D env,compTurn (.ListComp elt gens sc ps) 0 (.ref it) (.ref D) env=kA iter.pos (.ref it) tg ifs env (inner D env) (.compLoop (.ListComp elt gens sc ps) 0 (.ref it) (.ref D) env))
  (hg:∀s H ex,PG (bV X sc N s H ex) tg g) (htt:∀s H ex,PTs (bV X sc N s H ex) ifs tt)
  {pins:List (ah×Obj)}{s2:ag}{σ:St}{H2:Hp}(hin:∀s ex D,Inv X pins σ H2 s->(∀b∈ex,cV X pins H2 b/\b<s.heap.objs.size)->PCl (bV X sc N s H2 ex) D (inner D (bV X sc N s H2 ex).env) ti)
  {K:St->Hp->List V->Prop}{it:ah}{fp:List ah}{tn:Nat->cq->Prop}{J:It}(I2:Inv X pins σ H2 s2) (T:Turn X.prog X.w X.K tg J fp it tn) (st2:tn 0 s2.heap) (f2:∀b∈fp,cV X pins H2 b)
  (lp:pR J g tt ti K (pQ cap σ) H2 []) {R:af->ah->yj->ag->Prop}
  (hR:∀σ' H' xs (s3 s':ag) (C D:ah),X.s₀.heap.objs.size<=D->C=s3.heap.objs.size->(∃m,s'.heap.Ns C m)->AccAt s' D xs->cV X pins H' D->cV X pins H' C->D<C->(∀h',ik C s'.heap h'->Inv X pins σ H' { s' with heap:=h' })->K σ' H' xs->R (.ref D) C (.ok .next) s'):
  wpAny (model X.prog X.w) X.A (newList []) (λacc s3=>wpAny (model X.prog X.w) X.A (newFunctionEnv sc X.env.globals (cW X.env sc.names []) [] X.env.qual none .none (some X.env)) (λcenv s4=>codeAny (model X.prog X.w) X.A (.compStart (.ListComp elt gens sc ps) 0 (.ref it) acc { cenv with scope:=relabel sc X.env }) (R acc cenv.locals) s4) E s3) E s2:=by
 refine gn (T3 ?_);dsimp only;generalize hs3:({ s2 with heap:=s2.heap.push { cls:=.type "list",dict:=none,data:=.seq ([]:List af).toArray } }:ag)=s3;have kp:∀b o,s2.heap.get? b=some o->s3.heap.get? b=some o:=λb o e=>by rw[<-hs3];exact ak _ e
 have I3:Inv X pins σ H2 s3:=by rw[<-hs3];exact I2.kept (t':=s2.toks) λb o e=>ak _ e
 have eD:s3.heap.get? s2.heap.objs.size=some { cls:=.type "list",data:=.seq ([]:List af).toArray 0 }:=by rw[<-hs3];exact bg _ rfl
 have nD:H2 s2.heap.objs.size=none:=I2.hok.fresh (ao _);have fD:cV X pins H2 s2.heap.objs.size:=I2.fpOk (ao _) nD;have hlt:s2.heap.objs.size<s3.heap.objs.size:=ar eD;have hex:∀b∈s2.heap.objs.size::fp,cV X pins H2 b/\b<s3.heap.objs.size:=λb hb=>by
  rcases bf.mp hb with rfl|hb
  ·exact⟨fD,hlt⟩
  ·obtain⟨o,e,_⟩:=T.obj 0 _ st2 b hb;exact⟨f2 b hb,ar (kp b o e)⟩
 have hDfp:s2.heap.objs.size∉fp:=λz=>by obtain⟨o,e,_⟩:=T.obj 0 _ st2 _ z;exact gu _ (ar e)
 have I4:=T4 (N:=N) (ex:=s2.heap.objs.size::fp) I3 C hex;have F4:=T5 (N:=N) I3 C hex;have st4:tn 0 (pushCells (s3.heap.push { cls:=.type "dict",data:=.dict #[] }) sc.names):=T.keep 0 _ _ st2 λb hb o e=>qc _ _ _ _ (ak _ (kp b o e));have a4:AccAt { s3 with heap:=pushCells (s3.heap.push { cls:=.type "dict",data:=.dict #[] }) sc.names } s2.heap.objs.size []:=⟨jl _,[],0,.nil,qc _ _ _ _ (ak _ eD)⟩
 have loop:codeAny (model X.prog X.w) X.A (.compLoop (.ListComp elt gens sc ps) 0 (.ref it) (.ref s2.heap.objs.size) (bV X sc N s3 H2 (s2.heap.objs.size::fp)).env) (R (.ref s2.heap.objs.size) s3.heap.objs.size)
   { s3 with heap:=pushCells (s3.heap.push { cls:=.type "dict",data:=.dict #[] }) sc.names }:=by
  refine HF (X:=bV X sc N s3 H2 (s2.heap.objs.size::fp)) rfl hc (ht it _ _) (hg _ _ _) (htt _ _ _) (hin _ _ _ I3 hex) T I4 a4 (F4 _ (bo ..)) st4 (λb hb=>F4 b (ax _ hb)) hDfp lp λσ' H' xs' s' I' a' n' k'=>?_;obtain⟨m,hn,_⟩:=I'.loc;exact hR σ' H' xs' s3 s' _ _ (cu I2.sz (ao _)) rfl ⟨m,hn⟩ a' ⟨n',fD.2⟩ (I3.fpOk (ao _) I'.free) hlt (λh' hh=>T6 I3 hex I' hh) k'
 have ha:((gens)[0]?).elim false (·.is_async != 0)=false:=by rw[eg];rfl
 subst hs3;exact HG ha loop (T.self _ 0 _ _ _ st4 loop)
theorem HI {elt:bp}{gens:List jd}{sc:fq}{ps:Pos}{tg iter:bp}{ifs:List bp}{rest:List jd}{inner:ah->Env->Sem Unit}{wi:TI}{g:TG}{tt:TT}{ti:TC}{N:List Str}{cap:List (Option Nat)}
  (hc:X.calm=true) (C:CapOk X sc N cap) (eg:gens=⟨tg,iter,ifs,0⟩::rest)
  (ht:∀it D env,compTurn (.ListComp elt gens sc ps) 0 (.ref it) (.ref D) env=kA iter.pos (.ref it) tg ifs env (inner D env) (.compLoop (.ListComp elt gens sc ps) 0 (.ref it) (.ref D) env))
  (hi:PI X tg iter wi) (hg:∀s H ex,PG (bV X sc N s H ex) tg g) (htt:∀s H ex,PTs (bV X sc N s H ex) ifs tt) (hin:∀s H ex D,PCl (bV X sc N s H ex) D (inner D (bV X sc N s H ex).env) ti)
  (hs:∀x,foldedSetIterable iter X.env x=pure x):PE X (.ListComp elt gens sc ps) (vQ wi cap g tt ti):=by
 intro pins s σ H Q I h;rw[eval_ListComp];have hcl:closureFor sc X.env=pure (cW X.env sc.names []):=vK λx hx=>I.ok.has x (C.free x hx);have e1:firstAsync gens=false:=by rw[eg];rfl
 have e2:firstIter gens X.env=eval iter X.env:=by rw[eg];rfl
 rw[e1,e2];refine sv (use:=none) (g:=⟨tg,iter,ifs,0⟩) (gs:=rest) (by rw[eg];rfl) hs hcl C.kind C.nd (aW (hi pins s σ H _ I h) λv s1 h1=>aW h1 λitv s2 h2=>?_);obtain⟨it,fp,tn,J,H2,e,I2,T,st2,f2,lp⟩:=h2;subst e;refine AQ (N:=N) (inner:=inner) (R:=λacc C=>compPost (model X.prog X.w) X.A X.xe none (EP X pins σ Q) acc C) hc C eg ht hg htt (λs ex D _ _=>hin s _ ex D) I2 T st2 f2 lp ?_;intro σ' H' xs s3 s' C D hD0 hC hn a f fC hDC hout k;obtain⟨m,hn⟩:=hn;refine⟨m,hn,λh' hh=>?_⟩;have I5:=hout h' hh;obtain⟨hz,its,n,r,eD⟩:=a;have eD':h'.get? D=some { cls:=.type "list",data:=.seq its.toArray n }:=(hh.2 D (ay hDC)).trans eD;refine⟨.ref D,aQ H' D (.lst xs),I5.adopt f hD0 ⟨hz,its,n,r,eD'⟩,rfl,k D f.1⟩
theorem UC {elt:bp}{gens:List jd}{sc:fq}{ps:Pos}{tg iter:bp}{ifs:List bp}{rest:List jd}{inner:ah->Env->Sem Unit}{wi:TI}{g:TG}{tt:TT}{ti:St->TC}{N:List Str}{cap:List (Option Nat)}
  (hc:X.calm=true) (C:CapOk X sc N cap) (eg:gens=⟨tg,iter,ifs,0⟩::rest)
  (ht:∀it D env,compTurn (.ListComp elt gens sc ps) 0 (.ref it) (.ref D) env=kA iter.pos (.ref it) tg ifs env (inner D env) (.compLoop (.ListComp elt gens sc ps) 0 (.ref it) (.ref D) env))
  (hi:PI X tg iter wi) (hg:∀s H ex,PG (bV X sc N s H ex) tg g) (htt:∀s H ex,PTs (bV X sc N s H ex) ifs tt) (hin:∀pins s σ H ex D,Inv X pins σ H s->(∀b∈ex,cV X pins H b/\b<s.heap.objs.size)->PCl (bV X sc N s H ex) D (inner D (bV X sc N s H ex).env) (ti σ))
  (hs:∀x,foldedSetIterable iter X.env x=pure x):PE X (.ListComp elt gens sc ps) (λσ H Q=>vQ wi cap g tt (ti σ) σ H Q):=by
 intro pins s σ H Q I h;rw[eval_ListComp];have hcl:closureFor sc X.env=pure (cW X.env sc.names []):=vK λx hx=>I.ok.has x (C.free x hx);have e1:firstAsync gens=false:=by rw[eg];rfl
 have e2:firstIter gens X.env=eval iter X.env:=by rw[eg];rfl
 rw[e1,e2];refine sv (use:=none) (g:=⟨tg,iter,ifs,0⟩) (gs:=rest) (by rw[eg];rfl) hs hcl C.kind C.nd (aW (hi pins s σ H _ I h) λv s1 h1=>aW h1 λitv s2 h2=>?_);obtain⟨it,fp,tn,J,H2,e,I2,T,st2,f2,lp⟩:=h2;subst e;refine AQ (N:=N) (inner:=inner) (R:=λacc C=>compPost (model X.prog X.w) X.A X.xe none (EP X pins σ Q) acc C) hc C eg ht hg htt (λs ex D I hx=>hin _ s _ _ ex D I hx) I2 T st2 f2 lp ?_;intro σ' H' xs s3 s' C D hD0 hC hn a f fC hDC hout k;obtain⟨m,hn⟩:=hn;refine⟨m,hn,λh' hh=>?_⟩;have I5:=hout h' hh;obtain⟨hz,its,n,r,eD⟩:=a;have eD':h'.get? D=some { cls:=.type "list",data:=.seq its.toArray n }:=(hh.2 D (ay hDC)).trans eD;refine⟨.ref D,aQ H' D (.lst xs),I5.adopt f hD0 ⟨hz,its,n,r,eD'⟩,rfl,k D f.1⟩
end
section
variable{X:Cx}
theorem UD {i:Nat}{x:Str}{px pos:Pos}{elt:bp}{gens:List jd}{sc:fq}{ps:Pos}{tg iter:bp}{ifs:List bp}{rest:List jd}{inner:ah->Env->Sem Unit}{wi:TI}{g:TG}{tt:TT}{ti:TC}{N:List Str}{cap:List (Option Nat)}
  (hsw:swapsWith (.ListComp elt gens sc ps) (some (.Name x px)) pos.line X.env=pure true) (hN:X.N.Nodup) (hi':X.N[i]?=some x) (hx:X.env.scope.names.lookup x=some .local)
  (hc:X.calm=true) (C:CapOk X sc N cap) (eg:gens=⟨tg,iter,ifs,0⟩::rest)
  (ht:∀it D env,compTurn (.ListComp elt gens sc ps) 0 (.ref it) (.ref D) env=kA iter.pos (.ref it) tg ifs env (inner D env) (.compLoop (.ListComp elt gens sc ps) 0 (.ref it) (.ref D) env))
  (hi:PI X tg iter wi) (hg:∀s H ex,PG (bV X sc N s H ex) tg g) (htt:∀s H ex,PTs (bV X sc N s H ex) ifs tt) (hin:∀s H ex D,PCl (bV X sc N s H ex) D (inner D (bV X sc N s H ex).env) ti)
  (hs:∀x,foldedSetIterable iter X.env x=pure x):PS X (.Assign [.Name x px] (.ListComp elt gens sc ps) pos) (vA (vQ wi cap g tt ti) (zY i)):=by
 intro pins s σ H D I h;rw[exec_Assign_Name_used _ _ _ _ hsw];have hcl:closureFor sc X.env=pure (cW X.env sc.names []):=vK λx hx=>I.ok.has x (C.free x hx);have e1:firstAsync gens=false:=by rw[eg];rfl
 have e2:firstIter gens X.env=eval iter X.env:=by rw[eg];rfl
 refine ae (sj (ae ?_));show wpAny _ X.A (do let _ <-comprehension (.ListComp elt gens sc ps) sc X.env (firstIterPos gens ps) (newList []) (firstAsync gens) (firstIter gens X.env) (some (assign (.Name x px) X.env))) _ _ s;rw[e1,e2];refine ae (aW (sv (use:=some (assign (.Name x px) X.env)) (Q:=λ_ s'=>SP X pins D .next s') (g:=⟨tg,iter,ifs,0⟩) (gs:=rest) (by rw[eg];rfl) hs hcl C.kind C.nd (aW (hi pins s σ H _ I h) λv s1 h1=>aW h1 λitv s2 h2=>?_)) λ_ s' hq=>aj (aj hq));obtain⟨it,fp,tn,J,H2,e,I2,T,st2,f2,lp⟩:=h2;subst e;refine AQ (N:=N) (inner:=inner) (R:=λacc C=>compPost (model X.prog X.w) X.A X.xe (some (assign (.Name x px) X.env)) (λ_ s'=>SP X pins D .next s') acc C) hc C eg ht hg htt (λs ex D _ _=>hin s _ ex D) I2 T st2 f2 lp ?_;intro σ' H' xs s3 s' C D' hD0 hC hn a f fC hDC hout k;obtain⟨m,hn⟩:=hn;have I5:Inv X pins σ H' s':=hout s'.heap (tw ..);obtain⟨hz,its,n,r,eD⟩:=a;have I6:Inv X pins σ (aQ H' D' (.lst xs)) s':=I5.adopt f hD0 ⟨hz,its,n,r,eD⟩;show wpAny _ X.A (assign (.Name x px) X.env (.ref D')) _ _ s';obtain⟨c0,c1,c2,c3,c4,c5⟩:=fC;have nC:aQ H' D' (.lst xs) C=none:=by rw[bN (cw (ay hDC))];exact c0
 refine wpAny_assign_Name (FQ (v:=V.ref D') I6 hN hi' (.inl hx) rfl (λs'' I7 ⟨a,sb,ha⟩=>?_) (.inr hx));have hCa:C≠a:=by
  rcases ha with z|z
  ·rw[z];exact c1
  ·exact cw (c4 x a z)
 refine⟨m,hn.sameBut sb hCa,λh' hh=>?_⟩;have I8:Inv X pins (σ.set i (some (.ref D'))) (aQ H' D' (.lst xs)) { s'' with heap:=h' }:=I7.turned (t':=s''.toks) (λb o hb e=>(hh.2 b hb).trans e) nC c1 c3 c4 c5;exact⟨_,_,I8,k D' f.1⟩
end
inductive Dt where
 |non|bl (b:Bool)|int (i:Int)|str (x:Str)|tup (xs:List Dt)|lst (xs:List Dt)|dct
mutual
def Den (P:ah->Prop) (H:Hp):Dt->V->Prop
 | .non,v=>v=.non
 | .bl b,v=>v=.bl b
 | .int i,v=>v=.int i
 | .str x,v=>v=.str x
 | .tup ds,v=>∃a vs,v=.ref a/\H a=some (.tup vs)/\DenL P H ds vs
 | .lst ds,v=>∃a vs,v=.ref a/\P a/\H a=some (.lst vs)/\DenL P H ds vs
 | .dct,v=>∃a,v=.ref a/\P a/\H a=some (.dK [])
def DenL (P:ah->Prop) (H:Hp):List Dt->List V->Prop
 | [],vs=>vs=[]
 |d::ds,vs=>∃v r,vs=v::r/\Den P H d v/\DenL P H ds r
end
theorem DenL.length {P:ah->Prop}{H:Hp}:∀{ds:List Dt}{vs:List V},DenL P H ds vs->vs.length=ds.length
 | [],vs,h=>by rw[DenL]at h;rw[h];rfl
 |d::ds,vs,h=>by rw[DenL]at h;obtain⟨v,r,rfl,_,h2⟩:=h;simp[DenL.length h2]
theorem DenL.get {P:ah->Prop}{H:Hp}:∀{ds:List Dt}{vs:List V}{i:Nat}{v:V},DenL P H ds vs->vs[i]?=some v->∃d,ds[i]?=some d/\Den P H d v
 | [],vs,i,v,h,e=>by rw[DenL]at h;rw[h]at e;simp at e
 |d::ds,vs,i,v,h,e=>by
  rw[DenL]at h;obtain⟨w,r,rfl,h1,h2⟩:=h
  cases i with
  |zero=>simp at e;subst e;exact⟨d,rfl,h1⟩
  |succ i=>simp at e;exact DenL.get (i:=i) h2 e
theorem DenL.nil {P:ah->Prop}{H:Hp}:DenL P H [] []:=by rw[DenL]
theorem DenL.cons {P:ah->Prop}{H:Hp}{d:Dt}{v:V}{ds:List Dt}{vs:List V}(h:Den P H d v) (t:DenL P H ds vs):DenL P H (d::ds) (v::vs):=by rw[DenL];exact⟨v,vs,rfl,h,t⟩
mutual
def bJ:Dt->Dt->Bool
 | .non,.non=>true
 | .bl a,.bl b=>a==b
 | .bl a,.int j=>(if a then 1 else 0)==j
 | .int i,.bl b=>i==(if b then 1 else 0)
 | .int i,.int j=>i==j
 | .str x,.str y=>x==y
 | .tup xs,.tup ys=>fX xs ys
 | .lst xs,.lst ys=>fX xs ys
 |_,_=>false
def fX:List Dt->List Dt->Bool
 | [],[]=>true
 |x::xs,y::ys=>bJ x y&&fX xs ys
 |_,_=>false
end
mutual
def fI:Dt->Nat
 | .tup xs=>kU xs+1
 | .lst xs=>kU xs+1
 |_=>0
def kU:List Dt->Nat
 | []=>0
 |x::xs=>max (fI x) (kU xs)
end
mutual
def nod:Dt->Bool
 | .tup xs=>iX xs
 | .lst xs=>iX xs
 | .dct=>false
 |_=>true
def iX:List Dt->Bool
 | []=>true
 |x::xs=>nod x&&iX xs
end
mutual
theorem AR:∀d:Dt,nod d=true->bJ d d=true
 | .non,_=>rfl
 | .bl b,_=>by simp[bJ]
 | .int i,_=>by simp[bJ]
 | .str x,_=>by simp[bJ]
 | .tup xs,h=>by rw[bJ];exact AS xs (by rw[nod]at h;exact h)
 | .lst xs,h=>by rw[bJ];exact AS xs (by rw[nod]at h;exact h)
 | .dct,h=>by simp[nod]at h
theorem AS:∀l:List Dt,iX l=true->fX l l=true
 | [],_=>rfl
 |x::xs,h=>by rw[iX,dm]at h;rw[fX,AR x h.1,AS xs h.2];rfl
end
theorem AU:∀{l:List Dt}{d:Dt},d∈l->fI d<=kU l
 |x::xs,d,h=>by
  rw[kU]
  rcases bf.mp h with rfl|h
  ·omega
  ·have:=AU h;omega
theorem sD:∀{l:List Dt}{d:Dt},iX l=true->d∈l->nod d=true
 |x::xs,d,h,hd=>by
  rw[iX,dm]at h
  rcases bf.mp hd with rfl|hd
  ·exact h.1
  ·exact sD h.2 hd
theorem sE:∀{xs ys:List Dt},xs.length=ys.length->fX xs ys=(ba xs.length).all λi=>bJ (xs.getD i .non) (ys.getD i .non)
 | [],[],_=>rfl
 |x::xs,y::ys,h=>by rw[fX,sE (xs:=xs) (ys:=ys) (by simpa using h),dg,Ai,List.all_cons,List.all_map];rfl
theorem sF:∀{xs ys:List Dt},xs.length≠ys.length->fX xs ys=false
 | [],[],h=>absurd rfl h
 | [],_::_,_=>rfl
 |_::_,[],_=>rfl
 |x::xs,y::ys,h=>by rw[fX,sF (xs:=xs) (ys:=ys) (by simpa using h),pq]
mutual
theorem Den.inj {P:ah->Prop}{H:Hp}:∀(d d':Dt) (v:V),Den P H d v->Den P H d' v->d=d'
 | .non,d',v,h,h'=>by
  rw[Den]at h;subst h
  cases d' <;> rw[Den]at h' <;> first|rfl|(obtain⟨_,_,e,_⟩:=h';cases e;done)|(obtain⟨_,e,_⟩:=h';cases e;done)|(cases h';done)
 | .bl b,d',v,h,h'=>by
  rw[Den]at h;subst h
  cases d' <;> rw[Den]at h' <;> first|(obtain⟨_,_,e,_⟩:=h';cases e;done)|(obtain⟨_,e,_⟩:=h';cases e;done)|(cases h';done)|(cases h';rfl)
 | .int b,d',v,h,h'=>by
  rw[Den]at h;subst h
  cases d' <;> rw[Den]at h' <;> first|(obtain⟨_,_,e,_⟩:=h';cases e;done)|(obtain⟨_,e,_⟩:=h';cases e;done)|(cases h';done)|(cases h';rfl)
 | .str b,d',v,h,h'=>by
  rw[Den]at h;subst h
  cases d' <;> rw[Den]at h' <;> first|(obtain⟨_,_,e,_⟩:=h';cases e;done)|(obtain⟨_,e,_⟩:=h';cases e;done)|(cases h';done)|(cases h';rfl)
 | .tup ds,d',v,h,h'=>by
  rw[Den]at h;obtain⟨a,vs,rfl,h1,h2⟩:=h
  cases d' with
  |tup ds'=>rw[Den]at h';obtain⟨a',vs',e,h1',h2'⟩:=h';cases e;rw[h1]at h1';cases h1';rw[DenL.inj ds ds' vs h2 h2']
  |lst ds'=>rw[Den]at h';obtain⟨a',vs',e,_,h1',h2'⟩:=h';cases e;rw[h1]at h1';cases h1'
  |dct=>rw[Den]at h';obtain⟨a',e,_,h1'⟩:=h';cases e;rw[h1]at h1';cases h1'
  |_=>rw[Den]at h';cases h'
 | .lst ds,d',v,h,h'=>by
  rw[Den]at h;obtain⟨a,vs,rfl,_,h1,h2⟩:=h
  cases d' with
  |tup ds'=>rw[Den]at h';obtain⟨a',vs',e,h1',h2'⟩:=h';cases e;rw[h1]at h1';cases h1'
  |lst ds'=>rw[Den]at h';obtain⟨a',vs',e,_,h1',h2'⟩:=h';cases e;rw[h1]at h1';cases h1';rw[DenL.inj ds ds' vs h2 h2']
  |dct=>rw[Den]at h';obtain⟨a',e,_,h1'⟩:=h';cases e;rw[h1]at h1';cases h1'
  |_=>rw[Den]at h';cases h'
 | .dct,d',v,h,h'=>by
  rw[Den]at h;obtain⟨a,rfl,_,h1⟩:=h
  cases d' with
  |tup ds'=>rw[Den]at h';obtain⟨a',vs',e,h1',h2'⟩:=h';cases e;rw[h1]at h1';cases h1'
  |lst ds'=>rw[Den]at h';obtain⟨a',vs',e,_,h1',h2'⟩:=h';cases e;rw[h1]at h1';cases h1'
  |dct=>rfl
  |_=>rw[Den]at h';cases h'
theorem DenL.inj {P:ah->Prop}{H:Hp}:∀(ds ds':List Dt) (vs:List V),DenL P H ds vs->DenL P H ds' vs->ds=ds'
 | [],ds',vs,h,h'=>by
  rw[DenL]at h;subst h
  cases ds' with
  |nil=>rfl
  |cons d ds'=>rw[DenL]at h';obtain⟨_,_,e,_⟩:=h';cases e
 |d::ds,ds',vs,h,h'=>by
  rw[DenL]at h;obtain⟨v,r,rfl,h1,h2⟩:=h
  cases ds' with
  |nil=>rw[DenL]at h';cases h'
  |cons d' ds'=>rw[DenL]at h';obtain⟨v',r',e,h1',h2'⟩:=h';cases e;rw[Den.inj d d' v h1 h1',DenL.inj ds ds' r h2 h2']
end
section
variable{Pg:bj}{w:cm}{P:ah->Prop}{H:Hp}{s:ag}
theorem gC (hok:HOk Pg w H s.heap) {a:ah}{vs:List V}(e:H a=some (.tup vs)):∃its:List af,Vals vs its/\s.heap.IsTuple a its.toArray:=by
 obtain⟨_,its,r,p⟩:=(show ObjOk Pg w H s.heap a (.tup vs) from hok a _ e)
 exact⟨its,r,p.tup⟩
theorem gD (hok:HOk Pg w H s.heap) {a:ah}{vs:List V}(e:H a=some (.lst vs)):∃its:List af,Vals vs its/\s.heap.IsList a its.toArray:=by
 obtain⟨_,its,n,r,p⟩:=(show ObjOk Pg w H s.heap a (.lst vs) from hok a _ e)
 exact⟨its,r,_,p,rfl,n,rfl⟩
theorem vR {vs:List V}{its:List af}(r:Vals vs its) {j:Nat}(h:j<its.toArray.size):∃v,vs[j]?=some v/\RelV v its.toArray[j]:=by
 have hl:=r.length;have h':j<its.length:=by simpa using h
 have hv:j<vs.length:=by omega
 obtain⟨u,e,q⟩:=r.get (i:=j) (x:=vs[j]) (az hv);refine⟨vs[j],az hv, ?_⟩;have:its.toArray[j]=u:=by have:its[j]?=some its[j]:=az h';rw[this]at e;simpa using e
 rw[this];exact q
theorem AV (hok:HOk Pg w H s.heap):∀(n:Nat) (A:cj) (d d':Dt) (v v':V) (u u':af),fI d<=n->A.units+n+1<cLine->nod d=true->nod d'=true->Den P H d v->Den P H d' v'->RelV v u->RelV v' u'->
  Bi A s u u' (bJ d d')/\um A s u u' (bJ d d'):=by
 intro n
 induction n with
 |zero=>
  intro A d d' v v' u u' hn hu n1 n2 h h' r r';have hu':A.units<cLine:=by omega
  cases d with
  |non=>
   rw[Den]at h;subst h;cases r
   cases d' with
   |non=>rw[Den]at h';subst h';cases r';exact⟨xi,qj _⟩
   |bl b'=>rw[Den]at h';subst h';cases r';exact⟨xj _,xk _⟩
   |int i'=>rw[Den]at h';subst h';obtain⟨t2,rfl⟩:=r';exact⟨yn _ _,yo _ _⟩
   |str x'=>rw[Den]at h';subst h';obtain⟨t2,rfl⟩:=r';exact⟨yp _ _,yq _ _⟩
   |tup ds'=>rw[Den]at h';obtain⟨a2,vs2,rfl,e2,g2⟩:=h';cases r';obtain⟨its2,q2,tp2⟩:=gC hok e2;exact⟨wu  tp2 hu',wx  tp2 hu'⟩
   |lst ds'=>rw[Den]at h';obtain⟨a2,vs2,rfl,_,e2,g2⟩:=h';cases r';obtain⟨its2,q2,tp2⟩:=gD hok e2;exact⟨xl  tp2 hu',xm  tp2 hu'⟩
   |dct=>simp[nod]at n2
  |bl b=>
   rw[Den]at h;subst h;cases r
   cases d' with
   |non=>rw[Den]at h';subst h';cases r';exact⟨xq _,xr _⟩
   |bl b'=>rw[Den]at h';subst h';cases r';exact⟨xu _ _,xv _ _⟩
   |int i'=>rw[Den]at h';subst h';obtain⟨t2,rfl⟩:=r';exact⟨yr _ _ _,yt _ _ _⟩
   |str x'=>rw[Den]at h';subst h';obtain⟨t2,rfl⟩:=r';exact⟨yu _ _ _,yv _ _ _⟩
   |tup ds'=>rw[Den]at h';obtain⟨a2,vs2,rfl,e2,g2⟩:=h';cases r';obtain⟨its2,q2,tp2⟩:=gC hok e2;exact⟨wy _ tp2 hu',wz _ tp2 hu'⟩
   |lst ds'=>rw[Den]at h';obtain⟨a2,vs2,rfl,_,e2,g2⟩:=h';cases r';obtain⟨its2,q2,tp2⟩:=gD hok e2;exact⟨xw _ tp2 hu',ya _ tp2 hu'⟩
   |dct=>simp[nod]at n2
  |int i=>
   rw[Den]at h;subst h;obtain⟨t1,rfl⟩:=r
   cases d' with
   |non=>rw[Den]at h';subst h';cases r';exact⟨yw _ _,yx _ _⟩
   |bl b'=>rw[Den]at h';subst h';cases r';exact⟨yy _ _ _,yz _ _ _⟩
   |int i'=>rw[Den]at h';subst h';obtain⟨t2,rfl⟩:=r';exact⟨zt _ _ _ _,tu _ _ _ _⟩
   |str x'=>rw[Den]at h';subst h';obtain⟨t2,rfl⟩:=r';exact⟨zu _ _ _ _,tm _ _ _ _⟩
   |tup ds'=>rw[Den]at h';obtain⟨a2,vs2,rfl,e2,g2⟩:=h';cases r';obtain⟨its2,q2,tp2⟩:=gC hok e2;exact⟨yb _ _ tp2 hu',yc _ _ tp2 hu'⟩
   |lst ds'=>rw[Den]at h';obtain⟨a2,vs2,rfl,_,e2,g2⟩:=h';cases r';obtain⟨its2,q2,tp2⟩:=gD hok e2;exact⟨zb _ _ tp2 hu',zc _ _ tp2 hu'⟩
   |dct=>simp[nod]at n2
  |str x=>
   rw[Den]at h;subst h;obtain⟨t1,rfl⟩:=r
   cases d' with
   |non=>rw[Den]at h';subst h';cases r';exact⟨zd _ _,ze _ _⟩
   |bl b'=>rw[Den]at h';subst h';cases r';exact⟨zf _ _ _,zg _ _ _⟩
   |int i'=>rw[Den]at h';subst h';obtain⟨t2,rfl⟩:=r';exact⟨zv _ _ _ _,tq _ _ _ _⟩
   |str x'=>rw[Den]at h';subst h';obtain⟨t2,rfl⟩:=r';exact⟨zw _ _ _ _,zx _ _ _ _⟩
   |tup ds'=>rw[Den]at h';obtain⟨a2,vs2,rfl,e2,g2⟩:=h';cases r';obtain⟨its2,q2,tp2⟩:=gC hok e2;exact⟨yd _ _ tp2 hu',ye _ _ tp2 hu'⟩
   |lst ds'=>rw[Den]at h';obtain⟨a2,vs2,rfl,_,e2,g2⟩:=h';cases r';obtain⟨its2,q2,tp2⟩:=gD hok e2;exact⟨zh _ _ tp2 hu',zi _ _ tp2 hu'⟩
   |dct=>simp[nod]at n2
  |tup ds=>rw[fI]at hn;omega
  |lst ds=>rw[fI]at hn;omega
  |dct=>simp[nod]at n1
 |succ n ih=>
  intro A d d' v v' u u' hn hu n1 n2 h h' r r';have hu':A.units<cLine:=by omega
  have hin:∀{vs vs':List V}{ds ds':List Dt}{its its':List af},kU ds<=n->iX ds=true->iX ds'=true->DenL P H ds vs->DenL P H ds' vs'->Vals vs its->Vals vs' its'->
    ∀j (h1:j<its.toArray.size) (h2:j<its'.toArray.size),um A.in1 s its.toArray[j] its'.toArray[j] (bJ (ds.getD j .non) (ds'.getD j .non)):=by
   intro vs vs' ds ds' its its' hd m1 m2 g g' q q' j h1 h2;obtain⟨x,ex,rx⟩:=vR q h1;obtain⟨x',ex',rx'⟩:=vR q' h2;obtain⟨dx,edx,gx⟩:=g.get ex;obtain⟨dx',edx',gx'⟩:=g'.get ex';have e1:ds.getD j .non=dx:=by simp[nv,edx]
   have e2:ds'.getD j .non=dx':=by simp[nv,edx']
   rw[e1,e2];have hm:=cb edx;exact(ih A.in1 dx dx' x x' _ _ (cu (AU hm) hd) (by show A.units+1+n+1<cLine;omega) (sD m1 hm) (sD m2 (cb edx')) gx gx' rx rx').2
  cases d with
  |non=>
   rw[Den]at h;subst h;cases r
   cases d' with
   |non=>rw[Den]at h';subst h';cases r';exact⟨xi,qj _⟩
   |bl b'=>rw[Den]at h';subst h';cases r';exact⟨xj _,xk _⟩
   |int i'=>rw[Den]at h';subst h';obtain⟨t2,rfl⟩:=r';exact⟨yn _ _,yo _ _⟩
   |str x'=>rw[Den]at h';subst h';obtain⟨t2,rfl⟩:=r';exact⟨yp _ _,yq _ _⟩
   |tup ds'=>rw[Den]at h';obtain⟨a2,vs2,rfl,e2,g2⟩:=h';cases r';obtain⟨its2,q2,tp2⟩:=gC hok e2;exact⟨wu  tp2 hu',wx  tp2 hu'⟩
   |lst ds'=>rw[Den]at h';obtain⟨a2,vs2,rfl,_,e2,g2⟩:=h';cases r';obtain⟨its2,q2,tp2⟩:=gD hok e2;exact⟨xl  tp2 hu',xm  tp2 hu'⟩
   |dct=>simp[nod]at n2
  |bl b=>
   rw[Den]at h;subst h;cases r
   cases d' with
   |non=>rw[Den]at h';subst h';cases r';exact⟨xq _,xr _⟩
   |bl b'=>rw[Den]at h';subst h';cases r';exact⟨xu _ _,xv _ _⟩
   |int i'=>rw[Den]at h';subst h';obtain⟨t2,rfl⟩:=r';exact⟨yr _ _ _,yt _ _ _⟩
   |str x'=>rw[Den]at h';subst h';obtain⟨t2,rfl⟩:=r';exact⟨yu _ _ _,yv _ _ _⟩
   |tup ds'=>rw[Den]at h';obtain⟨a2,vs2,rfl,e2,g2⟩:=h';cases r';obtain⟨its2,q2,tp2⟩:=gC hok e2;exact⟨wy _ tp2 hu',wz _ tp2 hu'⟩
   |lst ds'=>rw[Den]at h';obtain⟨a2,vs2,rfl,_,e2,g2⟩:=h';cases r';obtain⟨its2,q2,tp2⟩:=gD hok e2;exact⟨xw _ tp2 hu',ya _ tp2 hu'⟩
   |dct=>simp[nod]at n2
  |int i=>
   rw[Den]at h;subst h;obtain⟨t1,rfl⟩:=r
   cases d' with
   |non=>rw[Den]at h';subst h';cases r';exact⟨yw _ _,yx _ _⟩
   |bl b'=>rw[Den]at h';subst h';cases r';exact⟨yy _ _ _,yz _ _ _⟩
   |int i'=>rw[Den]at h';subst h';obtain⟨t2,rfl⟩:=r';exact⟨zt _ _ _ _,tu _ _ _ _⟩
   |str x'=>rw[Den]at h';subst h';obtain⟨t2,rfl⟩:=r';exact⟨zu _ _ _ _,tm _ _ _ _⟩
   |tup ds'=>rw[Den]at h';obtain⟨a2,vs2,rfl,e2,g2⟩:=h';cases r';obtain⟨its2,q2,tp2⟩:=gC hok e2;exact⟨yb _ _ tp2 hu',yc _ _ tp2 hu'⟩
   |lst ds'=>rw[Den]at h';obtain⟨a2,vs2,rfl,_,e2,g2⟩:=h';cases r';obtain⟨its2,q2,tp2⟩:=gD hok e2;exact⟨zb _ _ tp2 hu',zc _ _ tp2 hu'⟩
   |dct=>simp[nod]at n2
  |str x=>
   rw[Den]at h;subst h;obtain⟨t1,rfl⟩:=r
   cases d' with
   |non=>rw[Den]at h';subst h';cases r';exact⟨zd _ _,ze _ _⟩
   |bl b'=>rw[Den]at h';subst h';cases r';exact⟨zf _ _ _,zg _ _ _⟩
   |int i'=>rw[Den]at h';subst h';obtain⟨t2,rfl⟩:=r';exact⟨zv _ _ _ _,tq _ _ _ _⟩
   |str x'=>rw[Den]at h';subst h';obtain⟨t2,rfl⟩:=r';exact⟨zw _ _ _ _,zx _ _ _ _⟩
   |tup ds'=>rw[Den]at h';obtain⟨a2,vs2,rfl,e2,g2⟩:=h';cases r';obtain⟨its2,q2,tp2⟩:=gC hok e2;exact⟨yd _ _ tp2 hu',ye _ _ tp2 hu'⟩
   |lst ds'=>rw[Den]at h';obtain⟨a2,vs2,rfl,_,e2,g2⟩:=h';cases r';obtain⟨its2,q2,tp2⟩:=gD hok e2;exact⟨zh _ _ tp2 hu',zi _ _ tp2 hu'⟩
   |dct=>simp[nod]at n2
  |tup ds=>
   rw[Den]at h;obtain⟨a1,vs1,rfl,e1,g1⟩:=h;cases r;obtain⟨its1,q1,tp1⟩:=gC hok e1
   cases d' with
   |non=>rw[Den]at h';subst h';cases r';exact⟨SeqAt.RcAt.tuple_none  tp1 hu',SeqAt.EqAt.tuple_none  tp1 hu'⟩
   |bl b'=>rw[Den]at h';subst h';cases r';exact⟨SeqAt.RcAt.tuple_bool _ tp1 hu',SeqAt.EqAt.tuple_bool _ tp1 hu'⟩
   |int i'=>rw[Den]at h';subst h';obtain⟨t2,rfl⟩:=r';exact⟨SeqAt.RcAt.tuple_int _ _ tp1 hu',SeqAt.EqAt.tuple_int _ _ tp1 hu'⟩
   |str x'=>rw[Den]at h';subst h';obtain⟨t2,rfl⟩:=r';exact⟨SeqAt.RcAt.tuple_str _ _ tp1 hu',SeqAt.EqAt.tuple_str _ _ tp1 hu'⟩
   |tup ds'=>
    rw[Den]at h';obtain⟨a2,vs2,rfl,e2,g2⟩:=h';cases r';obtain⟨its2,q2,tp2⟩:=gC hok e2;rw[nod]at n1 n2;rw[fI]at hn;have hl1:=g1.length;have hl2:=g2.length;have hq1:=q1.length;have hq2:=q2.length;have key:Bi A s (.ref a1) (.ref a2) (bJ (.tup ds) (.tup ds')):=by
     rw[bJ];have z:=SeqAt.RcAt.tuples (e:=λj=>bJ (ds.getD j .non) (ds'.getD j .non)) tp1 tp2 hu' (hin (by omega) n1 n2 g1 g2 q1 q2);have s1:its1.toArray.size=ds.length:=by simp;omega
     have s2:its2.toArray.size=ds'.length:=by simp;omega
     rw[s1,s2]at z
     by_cases hlen:ds.length=ds'.length
     ·rw[sE hlen];rw[<-hlen,Nat.min_self]at z;simpa using z
     ·rw[sF hlen];rw[show(ds.length==ds'.length)=false from beq_eq_false_iff_ne.mpr hlen,pq]at z;exact z
    refine⟨key, ?_⟩
    by_cases hab:a1=a2
    ·subst hab;rw[e1]at e2;cases e2;rw[DenL.inj ds ds' _ g1 g2,AR _ (by rw[nod];exact n2)];exact qj _
    ·exact zy hab key
   |lst ds'=>rw[Den]at h';obtain⟨a2,vs2,rfl,_,e2,g2⟩:=h';cases r';obtain⟨its2,q2,tp2⟩:=gD hok e2;exact⟨SeqAt.RcAt.tuple_list tp1 tp2 hu',SeqAt.EqAt.tuple_list tp1 tp2 hu'⟩
   |dct=>simp[nod]at n2
  |lst ds=>
   rw[Den]at h;obtain⟨a1,vs1,rfl,_,e1,g1⟩:=h;cases r;obtain⟨its1,q1,tp1⟩:=gD hok e1
   cases d' with
   |non=>rw[Den]at h';subst h';cases r';exact⟨SeqAt.RcAt.list_none  tp1 hu',SeqAt.EqAt.list_none  tp1 hu'⟩
   |bl b'=>rw[Den]at h';subst h';cases r';exact⟨SeqAt.RcAt.list_bool _ tp1 hu',SeqAt.EqAt.list_bool _ tp1 hu'⟩
   |int i'=>rw[Den]at h';subst h';obtain⟨t2,rfl⟩:=r';exact⟨SeqAt.RcAt.list_int _ _ tp1 hu',SeqAt.EqAt.list_int _ _ tp1 hu'⟩
   |str x'=>rw[Den]at h';subst h';obtain⟨t2,rfl⟩:=r';exact⟨SeqAt.RcAt.list_str _ _ tp1 hu',SeqAt.EqAt.list_str _ _ tp1 hu'⟩
   |tup ds'=>rw[Den]at h';obtain⟨a2,vs2,rfl,e2,g2⟩:=h';cases r';obtain⟨its2,q2,tp2⟩:=gC hok e2;exact⟨SeqAt.RcAt.list_tuple tp1 tp2 hu',SeqAt.EqAt.list_tuple tp1 tp2 hu'⟩
   |lst ds'=>
    rw[Den]at h';obtain⟨a2,vs2,rfl,_,e2,g2⟩:=h';cases r';obtain⟨its2,q2,tp2⟩:=gD hok e2;rw[nod]at n1 n2;rw[fI]at hn;have hl1:=g1.length;have hl2:=g2.length;have hq1:=q1.length;have hq2:=q2.length;have key:Bi A s (.ref a1) (.ref a2) (bJ (.lst ds) (.lst ds')):=by
     rw[bJ]
     by_cases hlen:ds.length=ds'.length
     ·have z:=SeqAt.RcAt.lists (e:=λj=>bJ (ds.getD j .non) (ds'.getD j .non)) tp1 tp2 (by simp;omega) hu' (hin (by omega) n1 n2 g1 g2 q1 q2);rw[sE hlen];simpa[hq1.symm,hl1]using z
     ·rw[sF hlen];exact SeqAt.RcAt.lists_lengths tp1 tp2 (by simp;omega) hu'
    refine⟨key, ?_⟩
    by_cases hab:a1=a2
    ·subst hab;rw[e1]at e2;cases e2;rw[DenL.inj ds ds' _ g1 g2,AR _ (by rw[nod];exact n2)];exact qj _
    ·exact zy hab key
   |dct=>simp[nod]at n2
  |dct=>simp[nod]at n1
end
end L2
namespace L2.Mr
open PySem PySem.Spec PyProof.Rows
inductive Dv where
 |non|bl (b:Bool)|int (i:Int)|str (x:Str)|tup (xs:List Dv)|ref (i:Nat)|edc|exc (c:Nat)|scr
inductive Ob where
 |lst (xs:List Dv)
 |clo (k t:Nat)
abbrev Hs:=List Ob
abbrev Ev:=List (Option Dv)
inductive Rs (α:Type) where
 |ok (a:α) (h:Hs)|ex (c:Nat) (h:Hs)|bad
def Rs.bind {α β:Type}(r:Rs α) (f:α->Hs->Rs β):Rs β:=match r with
 | .ok a h=>f a h
 | .ex c h=>.ex c h
 | .bad=>.bad
@[simp] theorem Rs.bind_ok {α β:Type}(a:α) (h:Hs) (f:α->Hs->Rs β):(Rs.ok a h).bind f=f a h:=rfl
@[simp] theorem Rs.bind_ex {α β:Type}(c:Nat) (h:Hs) (f:α->Hs->Rs β):(Rs.ex c h).bind f=.ex c h:=rfl
@[simp] theorem Rs.bind_bad {α β:Type}(f:α->Hs->Rs β):(Rs.bad).bind f=.bad:=rfl
abbrev M (α:Type):=Ev->Hs->Rs α
structure Cf0 where
 K:aq
 cl:Nat->ah
 scr:List Int
 sa:ah
 tab:Option ah:=none
 lq:Str:=Str.empty
def dJ (C:af) (e T:ah) (a0:af) (h:cq):Prop:=∃oe vs,h.get? e=some oe/\oe.cls=C/\oe.data=.fields vs/\vs[0]?=some a0/\vs[1]?=some (.ref T)/\oe.dict=none
def vS (G:Cf0) (H:Hp) (c:Nat) (u:af):Prop:=∃e φ,u=.ref e/\H e=some (.ext φ)/\∀h,φ h->∃o,h.get? e=some o/\o.cls=.ref (G.cl c)
def vT:HO->Prop
 | .tup _=>True
 | .dK kvs=>kvs=[]
 | .frz _ _=>True
 |_=>False
def FzL (K:aq) (H:Hp) (a:ah) (xs:List V):Prop:=(∃o,H a=some (.frz o (.lst xs))) ∨
  ∃(o:Obj) (its:Array af) (n:Nat),K.lookup a=some o/\o.cls=.type "list"/\o.dict=none/\o.data=.seq its n/\its.size<=ck/\Vals xs its.toList
theorem FzL.sq {K:aq}{H:Hp}{a:ah}{xs:List V}(h:FzL K H a xs):SqL K H a xs:=by
 rcases h with⟨o,h⟩|h
 ·exact .inl (.inr ⟨o,h⟩)
 ·exact .inr h
theorem FzL.keep {K:aq}{H H':Hp}{a:ah}{xs:List V}(h:FzL K H a xs) (k:∀a o,vT o->H a=some o->H' a=some o):FzL K H' a xs:=by
 rcases h with⟨o,h⟩|h
 ·exact .inl ⟨o,k a _ trivial h⟩
 ·exact .inr h
mutual
def RelD (G:Cf0) (μ:Nat->ah) (n:Nat) (H:Hp):Dv->V->Prop
 | .non,v=>v=.non
 | .bl b,v=>v=.bl b
 | .int i,v=>v=.int i
 | .str x,v=>v=.str x
 | .tup ds,v=>∃a vs,v=.ref a/\H a=some (.tup vs)/\RelDL G μ n H ds vs
 | .ref i,v=>i<n/\v=.ref (μ i)
 | .edc,v=>∃a,v=.ref a/\H a=some (.dK [])
 | .exc c,v=>∃a o u,v=.ref a/\H a=some (.frz o u)/\o.cls=.ref (G.cl c)/\o.dict=none/\∃vs,o.data=.fields vs
 | .scr,v=>v=.ref G.sa/\FzL G.K H G.sa (G.scr.map V.int)
def RelDL (G:Cf0) (μ:Nat->ah) (n:Nat) (H:Hp):List Dv->List V->Prop
 | [],vs=>vs=[]
 |d::ds,vs=>∃v r,vs=v::r/\RelD G μ n H d v/\RelDL G μ n H ds r
end
structure Ext (μ:Nat->ah) (n:Nat) (H:Hp) (μ':Nat->ah) (n':Nat) (H':Hp):Prop where
 le:n<=n'
 mu:∀i,i<n->μ' i=μ i
 im:∀a o,vT o->H a=some o->H' a=some o
theorem Ext.refl {μ:Nat->ah}{n:Nat}{H:Hp}:Ext μ n H μ n H:=⟨ao _,λ_ _=>rfl,λ_ _ _ e=>e⟩
theorem Ext.trans {μ μ1 μ2:Nat->ah}{n n1 n2:Nat}{H H1 H2:Hp}(a:Ext μ n H μ1 n1 H1) (b:Ext μ1 n1 H1 μ2 n2 H2):Ext μ n H μ2 n2 H2:=⟨cu a.le b.le,λi hi=>(b.mu i (au hi a.le)).trans (a.mu i hi),λc o i e=>b.im c o i (a.im c o i e)⟩
structure Cfg extends Cf0 where
 clo:(Nat->ah)->Nat->Hp->Nat->Nat->ah->Prop:=λ_ _ _ _ _ _=>True
 cloM:∀{μ μ':Nat->ah}{n n':Nat}{H H':Hp}{k t:Nat}{a:ah},Ext μ n H μ' n' H'->clo μ n H k t a->clo μ' n' H' k t a:=by intros;trivial
instance:Coe Cfg Cf0:=⟨Cfg.toCf0⟩
section
variable{G:Cf0}{μ μ':Nat->ah}{n n':Nat}{H H':Hp}
mutual
theorem RelD.mono (x:Ext μ n H μ' n' H'):∀(d:Dv) (v:V),RelD G μ n H d v->RelD G μ' n' H' d v
 | .non,v,h=>h
 | .bl b,v,h=>h
 | .int i,v,h=>h
 | .str s,v,h=>h
 | .tup ds,v,h=>by obtain⟨a,vs,e,h1,h2⟩:=h;exact⟨a,vs,e,x.im a _ trivial h1,RelDL.mono x ds vs h2⟩
 | .ref i,v,h=>by obtain⟨h1,h2⟩:=h;exact⟨au h1 x.le,by rw[x.mu i h1];exact h2⟩
 | .edc,v,h=>by obtain⟨a,e,h1⟩:=h;exact⟨a,e,x.im a _ rfl h1⟩
 | .exc c,v,h=>by obtain⟨a,o,u,e,h1,h2⟩:=h;exact⟨a,o,u,e,x.im a _ trivial h1,h2⟩
 | .scr,v,h=>by obtain⟨h1,h2⟩:=h;exact⟨h1,h2.keep x.im⟩
theorem RelDL.mono (x:Ext μ n H μ' n' H'):∀(ds:List Dv) (vs:List V),RelDL G μ n H ds vs->RelDL G μ' n' H' ds vs
 | [],vs,h=>h
 |d::ds,vs,h=>by obtain⟨v,r,e,h1,h2⟩:=h;exact⟨v,r,e,RelD.mono x d v h1,RelDL.mono x ds r h2⟩
end
theorem RelDL.length:∀{ds:List Dv}{vs:List V},RelDL G μ n H ds vs->vs.length=ds.length
 | [],_,h=>by rw[RelDL]at h;subst h;rfl
 |d::ds,_,h=>by rw[RelDL]at h;obtain⟨v,r,rfl,_,h2⟩:=h;rw[dg,dg,RelDL.length h2]
theorem RelDL.get:∀{ds:List Dv}{vs:List V}{i:Nat}{d:Dv},RelDL G μ n H ds vs->ds[i]?=some d->∃v,vs[i]?=some v/\RelD G μ n H d v
 | [],_,_,_,_,e=>by simp at e
 |d::ds,_,0,d',h,e=>by rw[RelDL]at h;obtain⟨v,r,rfl,h1,_⟩:=h;simp at e;subst e;exact⟨v,rfl,h1⟩
 |d::ds,_,i+1,d',h,e=>by rw[RelDL]at h;obtain⟨v,r,rfl,_,h2⟩:=h;obtain⟨u,e1,h3⟩:=RelDL.get (i:=i) h2 (by simpa using e);exact⟨u,by simpa using e1,h3⟩
theorem RelDL.nil:RelDL G μ n H [] []:=by rw[RelDL]
theorem RelDL.cons {d:Dv}{v:V}{ds:List Dv}{vs:List V}(h:RelD G μ n H d v) (t:RelDL G μ n H ds vs):RelDL G μ n H (d::ds) (v::vs):=by rw[RelDL];exact⟨v,vs,rfl,h,t⟩
theorem RelDL.append:∀{ds es:List Dv}{vs ws:List V},RelDL G μ n H ds vs->RelDL G μ n H es ws->RelDL G μ n H (ds++es) (vs++ws)
 | [],_,_,_,h,h'=>by rw[RelDL]at h;subst h;exact h'
 |d::ds,_,_,_,h,h'=>by rw[RelDL]at h;obtain⟨v,r,rfl,h1,h2⟩:=h;exact RelDL.cons h1 (RelDL.append h2 h')
theorem RelDL.take:∀{ds:List Dv}{vs:List V}(k:Nat),RelDL G μ n H ds vs->RelDL G μ n H (ds.take k) (vs.take k)
 | [],_,k,h=>by rw[RelDL]at h;subst h;simp[RelDL.nil]
 |d::ds,_,0,h=>by simp[RelDL.nil]
 |d::ds,_,k+1,h=>by rw[RelDL]at h;obtain⟨v,r,rfl,h1,h2⟩:=h;exact RelDL.cons h1 (RelDL.take k h2)
theorem RelDL.drop:∀{ds:List Dv}{vs:List V}(k:Nat),RelDL G μ n H ds vs->RelDL G μ n H (ds.drop k) (vs.drop k)
 | [],_,k,h=>by rw[RelDL]at h;subst h;simp[RelDL.nil]
 |d::ds,_,0,h=>h
 |d::ds,_,k+1,h=>by rw[RelDL]at h;obtain⟨v,r,rfl,h1,h2⟩:=h;exact RelDL.drop k h2
theorem RelDL.set {x:Dv}{u:V}(hx:RelD G μ n H x u):∀{ds:List Dv}{vs:List V}(i:Nat),RelDL G μ n H ds vs->RelDL G μ n H (ds.set i x) (vs.set i u)
 | [],_,_,h=>by rw[RelDL]at h;subst h;exact RelDL.nil
 |d::ds,_,0,h=>by rw[RelDL]at h;obtain⟨v,r,rfl,h1,h2⟩:=h;exact RelDL.cons hx h2
 |d::ds,_,i+1,h=>by rw[RelDL]at h;obtain⟨v,r,rfl,h1,h2⟩:=h;exact RelDL.cons h1 (RelDL.set hx i h2)
end
def ObR (G:Cfg) (μ:Nat->ah) (n:Nat) (H:Hp) (a:ah):Ob->Prop
 | .lst xs=>∃vs,H a=some (.lst vs)/\RelDL G μ n H xs vs
 | .clo k t=>t<n/\(∃o u,H a=some (.frz o u))/\G.clo μ n H k t a
theorem ObR.clo {G:Cfg}{μ μ':Nat->ah}{n n':Nat}{H H':Hp}{a:ah}{k t:Nat}(r:ObR G μ n H a (.clo k t)) (x:Ext μ n H μ' n' H'):ObR G μ' n' H' a (.clo k t):=by obtain⟨h1,⟨o,u,h2⟩,h3⟩:=r;exact⟨au h1 x.le,⟨o,u,x.im _ _ trivial h2⟩,G.cloM x h3⟩
def vU (q:Str) (oc:Obj):Prop:=∃vs t,oc.data=.fields vs/\vs[1]?=some (.str q t)
def TabOk (G:Cf0) (H:Hp):Prop:=∀P,G.tab=some P->∃ps,H P=some (.tbl ps)/\vj ps.toList/\∀pos cv,codeAmong pos ps.toList=some cv->∃q oc,cv=.ref q/\H q=some (.frz oc (.own 0))/\vU G.lq oc
theorem TabOk.keep {G:Cf0}{H H':Hp}(t:TabOk G H) (k:∀a o,(∀xs,o≠.lst xs)->(∀φ,o≠.ext φ)->H a=some o->H' a=some o):TabOk G H':=λP e=>by obtain⟨ps,h1,h2,h3⟩:=t P e;refine⟨ps,k P _ (λ_ z=>by cases z) (λ_ z=>by cases z) h1,h2,λpos cv q=>?_⟩;obtain⟨a,oc,e1,e2,e3⟩:=h3 pos cv q;exact⟨a,oc,e1,k a _ (λ_ z=>by cases z) (λ_ z=>by cases z) e2,e3⟩
structure Sim (G:Cfg) (μ:Nat->ah) (h:Hs) (H:Hp):Prop where
 inj:∀i j,i<h.length->j<h.length->μ i=μ j->i=j
 ob:∀(i:Nat) (o:Ob),h[i]?=some o->ObR G μ h.length H (μ i) o
 tab:TabOk G H
structure RelS (G:Cfg) (μ:Nat->ah) (n:Nat) (H:Hp) (ρ:Ev) (σ:St):Prop where
 len:ρ.length=σ.length
 at_:∀(i:Nat) (d:Dv),ρ[i]?=some (some d)->∃v,σ[i]?=some (some v)/\RelD G μ n H d v
theorem RelS.mono {G:Cfg}{μ μ':Nat->ah}{n n':Nat}{H H':Hp}{ρ:Ev}{σ:St}(r:RelS G μ n H ρ σ) (x:Ext μ n H μ' n' H'):RelS G μ' n' H' ρ σ:=⟨r.len,λi d e=>let ⟨v,e1,h⟩:=r.at_ i d e;⟨v,e1,RelD.mono x d v h⟩⟩
def Out {α β:Type}(G:Cfg) (E:XK) (μ:Nat->ah) (n:Nat) (H:Hp) (r:Rs α) (R:(Nat->ah)->Nat->Hp->α->β->Prop) (Q:β->Hp->Prop):Prop:=
 match r with
 | .ok d h'=>∀μ' H' v,Ext μ n H μ' h'.length H'->Sim G μ' h' H'->R μ' h'.length H' d v->Q v H'
 | .ex c h'=>∀μ' H' u,Ext μ n H μ' h'.length H'->Sim G μ' h' H'->vS G H' c u->E u none H'
 | .bad=>False
theorem Out.bind {α β γ δ:Type}{G:Cfg}{E:XK}{μ:Nat->ah}{n:Nat}{H:Hp}{r:Rs α}{f:α->Hs->Rs γ}{R:(Nat->ah)->Nat->Hp->γ->δ->Prop}{Q:δ->Hp->Prop}{R1:(Nat->ah)->Nat->Hp->α->β->Prop}
  (o:Out G E μ n H (r.bind f) R Q):Out G E μ n H r R1 λv H1=>∃μ1 d h1,Ext μ n H μ1 h1.length H1/\Sim G μ1 h1 H1/\R1 μ1 h1.length H1 d v/\Out G E μ1 h1.length H1 (f d h1) R Q:=by
 cases r with
 |bad=>exact o
 |ex c h'=>exact o
 |ok d h'=>
  intro μ1 H1 v x1 s1 r1;refine⟨μ1,d,h',x1,s1,r1, ?_⟩;have o':Out G E μ n H (f d h') R Q:=o
  cases e:f d h' with
  |bad=>rw[e]at o';exact o'
  |ex c h2=>rw[e]at o';exact λμ2 H2 u x2 s2 r2=>o' μ2 H2 u (x1.trans x2) s2 r2
  |ok d2 h2=>rw[e]at o';exact λμ2 H2 u x2 s2 r2=>o' μ2 H2 u (x1.trans x2) s2 r2
theorem Out.mono {α β:Type}{G:Cfg}{E:XK}{μ:Nat->ah}{n:Nat}{H:Hp}{r:Rs α}{R:(Nat->ah)->Nat->Hp->α->β->Prop}{Q Q':β->Hp->Prop}(o:Out G E μ n H r R Q) (h:∀v H',Q v H'->Q' v H'):Out G E μ n H r R Q':=by
 cases r with
 |bad=>exact o
 |ex c h'=>exact o
 |ok d h'=>exact λμ' H' v x s r=>h _ _ (o μ' H' v x s r)
abbrev RB:(Nat->ah)->Nat->Hp->Bool->Bool->Prop:=λ_ _ _ b b'=>b'=b
def gZ (G:Cfg) (E:XK) (m:M Dv):TE:=λσ H Q=>∃μ ρ h,RelS G μ h.length H ρ σ/\Sim G μ h H/\Out G E μ h.length H (m ρ h) (RelD G) Q
def iB (G:Cfg) (E:XK) (m:M Bool):TT:=λσ H Q=>∃μ ρ h,RelS G μ h.length H ρ σ/\Sim G μ h H/\Out G E μ h.length H (m ρ h) RB Q
def AW (G:Cfg) (E:XK) (m:M (List Dv)):TA:=λσ H Q=>∃μ ρ h,RelS G μ h.length H ρ σ/\Sim G μ h H/\Out G E μ h.length H (m ρ h) (RelDL G) Q
def aK (X:Cx) (G:Cfg) (E:XK) (pe:bp) (m:M Dv):Prop:=X.K=G.K->PE X pe (gZ G E m)
def gE (X:Cx) (G:Cfg) (E:XK) (pe:bp) (m:M Bool):Prop:=X.K=G.K->PT X pe (iB G E m)
def dY (X:Cx) (G:Cfg) (E:XK) (pe:List bp) (m:M (List Dv)):Prop:=X.K=G.K->PA X pe (AW G E m)
theorem PE.imp {X:Cx}{e:bp}{t t':TE}(h:PE X e t) (i:∀σ H Q,t' σ H Q->t σ H Q):PE X e t':=λpins s σ H Q I q=>h pins s σ H Q I (i σ H Q q)
theorem PT.imp {X:Cx}{e:bp}{t t':TT}(h:PT X e t) (i:∀σ H Q,t' σ H Q->t σ H Q):PT X e t':=λpins s σ H Q I q=>h pins s σ H Q I (i σ H Q q)
theorem PA.imp {X:Cx}{e:List bp}{t t':TA}(h:PA X e t) (i:∀σ H Q,t' σ H Q->t σ H Q):PA X e t':=λpos pins s σ H Q I q=>h pos pins s σ H Q I (i σ H Q q)
section
variable{G:Cfg}{E:XK}{σ:St}{H:Hp}
theorem eR {m:M Dv}{γ δ:Type}{f:Dv->Hs->Rs γ}{R:(Nat->ah)->Nat->Hp->γ->δ->Prop}{Q:δ->Hp->Prop}{Q1:V->Hp->Prop}{μ:Nat->ah}{ρ:Ev}{h:Hs}(rs:RelS G μ h.length H ρ σ) (s:Sim G μ h H) (o:Out G E μ h.length H ((m ρ h).bind f) R Q)
  (k:∀μ1 d h1 v H1,Ext μ h.length H μ1 h1.length H1->RelS G μ1 h1.length H1 ρ σ->Sim G μ1 h1 H1->RelD G μ1 h1.length H1 d v->Out G E μ1 h1.length H1 (f d h1) R Q->Q1 v H1):gZ G E m σ H Q1:=
 ⟨μ,ρ,h,rs,s,(o.bind (R1:=RelD G)).mono λv H1 ⟨μ1,d,h1,x,s1,r1,o1⟩=>k μ1 d h1 v H1 x (rs.mono x) s1 r1 o1⟩
theorem AX {m:M Bool}{γ δ:Type}{f:Bool->Hs->Rs γ}{R:(Nat->ah)->Nat->Hp->γ->δ->Prop}{Q:δ->Hp->Prop}{Q1:Bool->Hp->Prop}{μ:Nat->ah}{ρ:Ev}{h:Hs}(rs:RelS G μ h.length H ρ σ) (s:Sim G μ h H) (o:Out G E μ h.length H ((m ρ h).bind f) R Q)
  (k:∀μ1 b h1 H1,Ext μ h.length H μ1 h1.length H1->RelS G μ1 h1.length H1 ρ σ->Sim G μ1 h1 H1->Out G E μ1 h1.length H1 (f b h1) R Q->Q1 b H1):iB G E m σ H Q1:=
 ⟨μ,ρ,h,rs,s,(o.bind (R1:=RB)).mono λv H1 ⟨μ1,d,h1,x,s1,r1,o1⟩=>by have e:v=d:=r1;subst e;exact k μ1 v h1 H1 x (rs.mono x) s1 o1⟩
theorem kB {m:M (List Dv)}{γ δ:Type}{f:List Dv->Hs->Rs γ}{R:(Nat->ah)->Nat->Hp->γ->δ->Prop}{Q:δ->Hp->Prop}{Q1:List V->Hp->Prop}{μ:Nat->ah}{ρ:Ev}{h:Hs}(rs:RelS G μ h.length H ρ σ) (s:Sim G μ h H) (o:Out G E μ h.length H ((m ρ h).bind f) R Q)
  (k:∀μ1 d h1 v H1,Ext μ h.length H μ1 h1.length H1->RelS G μ1 h1.length H1 ρ σ->Sim G μ1 h1 H1->RelDL G μ1 h1.length H1 d v->Out G E μ1 h1.length H1 (f d h1) R Q->Q1 v H1):AW G E m σ H Q1:=
 ⟨μ,ρ,h,rs,s,(o.bind (R1:=RelDL G)).mono λv H1 ⟨μ1,d,h1,x,s1,r1,o1⟩=>k μ1 d h1 v H1 x (rs.mono x) s1 r1 o1⟩
theorem Out.val {α β:Type}{μ:Nat->ah}{h:Hs}{d:α}{R:(Nat->ah)->Nat->Hp->α->β->Prop}{Q:β->Hp->Prop}{v:β}(s:Sim G μ h H) (o:Out G E μ h.length H (.ok d h) R Q) (r:R μ h.length H d v):Q v H:=o μ H v Ext.refl s r
end
section
variable{G:Cfg}{μ:Nat->ah}{h:Hs}{H H':Hp}{p:ah}{n:Nat}
theorem Ext.same (e:Same H H'):Ext μ n H μ n H':=⟨ao _,λ_ _=>rfl,λa o _ q=>e a o q⟩
theorem Sim.same (s:Sim G μ h H) (e:Same H H'):Sim G μ h H':=⟨s.inj,λi o q=>by
 have r:=s.ob i o q
 cases o with
 |lst xs=>obtain⟨vs,e1,r1⟩:=r;exact⟨vs,e _ _ e1,RelDL.mono (Ext.same e) _ _ r1⟩
 |clo k t=>exact r.clo (Ext.same e),s.tab.keep λa o _ _ q=>e a o q⟩
theorem cP {o:HO}(h:H p=none):Same H (aQ H p o):=λb u e=>by rw[bN (fH e h)];exact e
theorem Sim.not (s:Sim G μ h H) (hp:H p=none):∀(i:Nat),i<h.length->μ i≠p:=λi hi z=>by
 have q:h[i]?=some h[i]:=az hi;generalize h[i]=o at q
 cases o with
 |lst xs=>obtain⟨vs,e1,_⟩:=s.ob i _ q;rw[z,hp]at e1;cases e1
 |clo k t=>obtain⟨_,⟨o,u,e1⟩,_⟩:=s.ob i _ q;rw[z,hp]at e1;cases e1
theorem Sim.alloc {ds:List Dv}{vs:List V}(s:Sim G μ h H) (hp:H p=none) (r:RelDL G μ h.length H ds vs):
  Ext μ h.length H (λi=>if i=h.length then p else μ i) (h++[Ob.lst ds]).length (aQ H p (.lst vs))/\Sim G (λi=>if i=h.length then p else μ i) (h++[.lst ds]) (aQ H p (.lst vs)):=by
 have hl:(h++[Ob.lst ds]).length=h.length+1:=by simp
 have hq:=s.not hp;have x:Ext μ h.length H (λi=>if i=h.length then p else μ i) (h++[Ob.lst ds]).length (aQ H p (.lst vs)):=⟨by omega,λi hi=>if_neg (ay hi),λa o _ e=>cP hp a o e⟩
 refine⟨x,λi j hi hj e=>?_,λi o q=>?_,s.tab.keep λa o _ _ q=>cP hp a o q⟩
 ·rw[hl]at hi hj
  by_cases h1:i=h.length <;> by_cases h2:j=h.length
  ·omega
  ·rw[if_pos h1,if_neg h2]at e;exact absurd e.symm (hq j (by omega))
  ·rw[if_neg h1,if_pos h2]at e;exact absurd e (hq i (by omega))
  ·rw[if_neg h1,if_neg h2]at e;exact s.inj i j (by omega) (by omega) e
 ·by_cases h1:i<h.length
  ·rw[du h1]at q;have r1:=s.ob i o q
   cases o with
   |lst xs=>obtain⟨ws,e1,r2⟩:=r1;exact⟨ws,by rw[if_neg (ay h1)];exact cP hp _ _ e1,RelDL.mono x _ _ r2⟩
   |clo k t=>rw[if_neg (ay h1)];exact r1.clo x
  ·rw[fh (by omega)]at q;have h2:i=h.length:=by have:=(bc.mp q).1;simp at this;omega
   subst h2;simp at q;subst q;exact⟨vs,by rw[if_pos rfl];exact cS,RelDL.mono x _ _ r⟩
theorem Sim.write {xs ys:List Dv}{i:Nat}{vs:List V}(s:Sim G μ h H) (q:h[i]?=some (.lst xs)) (r:RelDL G μ h.length H ys vs):
  Ext μ h.length H μ (h.set i (.lst ys)).length (aQ H (μ i) (.lst vs))/\Sim G μ (h.set i (.lst ys)) (aQ H (μ i) (.lst vs)):=by
 obtain⟨us,e0,r0⟩:=s.ob i _ q;have hi:i<h.length:=(bc.mp q).1;have im:∀a o,vT o->H a=some o->aQ H (μ i) (.lst vs) a=some o:=λa o m e=>by
  rw[bN];exact e
  rintro rfl;rw[e0]at e;cases e;exact m
 have x:Ext μ h.length H μ (h.set i (.lst ys)).length (aQ H (μ i) (.lst vs)):=⟨by simp,λ_ _=>rfl,im⟩
 refine⟨x,λa b ha hb=>?_,λj o e=>?_,s.tab.keep λa o n1 _ q=>?_⟩
 rotate_left 2
 ·rw[bN];exact q
  rintro rfl;rw[e0]at q;cases q;exact n1 _ rfl
 ·rw[ki]at ha hb;exact s.inj a b ha hb
 ·by_cases hij:i=j
  ·subst hij;rw[cz hi]at e;cases e;exact⟨vs,cS,RelDL.mono x _ _ r⟩
  ·rw[dw hij]at e;have hj:j<h.length:=(bc.mp e).1;have r1:=s.ob j o e;have ne:μ j≠μ i:=λz=>hij (s.inj j i hj hi z).symm
   cases o with
   |lst zs=>obtain⟨ws,e1,r2⟩:=r1;exact⟨ws,by rw[bN ne];exact e1,RelDL.mono x _ _ r2⟩
   |clo k t=>exact r1.clo x
end
def lim {α:Type}(n:Nat) (r:Rs α):Rs α:=if n<=1000000 then r else .bad
theorem sG {n:Nat}(h:n<=1000000):n<=ck:=cu h (by decide)
def getL (h:Hs) (i:Nat):Option (List Dv):=match h[i]? with
 |some (.lst xs)=>some xs
 |_=>none
theorem cM {h:Hs}{i:Nat}{xs:List Dv}(e:getL h i=some xs):h[i]?=some (.lst xs):=by
 unfold getL at e
 cases q:h[i]? with
 |none=>rw[q]at e;cases e
 |some o=>
  cases o with
  |lst ys=>rw[q]at e;cases e;rfl
  |clo k t=>rw[q]at e;cases e
section
variable{X:Cx}{G:Cfg}{E:XK}{a b c:bp}{ma mb mc:M Dv}{pos:Pos}{es:List bp}{aS:M (List Dv)}
def aB (i:Nat):M Dv:=λρ h=>match ρ[i]? with
 |some (some d)=>.ok d h
 |_=>.bad
theorem aD (i:Nat) {x:Str}(hN:X.N[i]?=some x:=by rfl) (hv:lW X.env.scope x:=by first|exact Or.inl rfl|exact Or.inr (Or.inl rfl)|exact Or.inr (Or.inr rfl))
  (hd:(x==("__debug__" : Str))=false:=by decide) (hcd:(x==("__classdict__" : Str))=false:=by decide):aK X G E (.Name x pos) (aB i):=λ_=>PE.imp (uY hN hv hd hcd) λσ H Q ⟨μ,ρ,h,rs,s,o⟩=>by
 unfold aB at o
 split at o
 ·rename_i d e;obtain⟨v,e1,r⟩:=rs.at_ i d e;exact⟨v,e1,o.val s r⟩
 ·exact o.elim
def mC (d:Dv):M Dv:=λ_ h=>.ok d h
theorem bA {i j}:aK X G E (.Constant (.int i) j pos) (mC (.int i)):=λ_=>PE.imp PX λσ H Q ⟨μ,ρ,h,rs,s,o⟩=>o.val s (show RelD G μ _ H (.int i) (.int i) from rfl)
theorem gF {i j}:aK X G E (.Constant (.bool i) j pos) (mC (.bl i)):=λ_=>PE.imp PY λσ H Q ⟨μ,ρ,h,rs,s,o⟩=>o.val s (show RelD G μ _ H (.bl i) (.bl i) from rfl)
theorem AY {j}:aK X G E (.Constant .none j pos) (mC .non):=λ_=>PE.imp FR λσ H Q ⟨μ,ρ,h,rs,s,o⟩=>o.val s (show RelD G μ _ H .non .non from rfl)
theorem vV {x j}:aK X G E (.Constant (.str x) j pos) (mC (.str x)):=λ_=>PE.imp PZ λσ H Q ⟨μ,ρ,h,rs,s,o⟩=>o.val s (show RelD G μ _ H (.str x) (.str x) from rfl)
def aC:M (List Dv):=λ_ h=>.ok [] h
def aA (m:M Dv) (ms:M (List Dv)):M (List Dv):=λρ h=>(m ρ h).bind λd h1=>(ms ρ h1).bind λds h2=>.ok (d::ds) h2
theorem aN:dY X G E [] aC:=λ_=>PA.imp jL λσ H Q ⟨μ,ρ,h,rs,s,o⟩=>o.val s RelDL.nil
theorem aH (ha:aK X G E a ma) (hr:dY X G E es aS) (hs:aw (a::es) X.env=(false,eval a X.env)::aw es X.env:=by rfl):dY X G E (a::es) (aA ma aS):=λhK=>PA.imp (iA (ha hK) (hr hK) hs) λσ H Q ⟨μ,ρ,h,rs,s,o⟩=>eR rs s o λμ1 d h1 v H1 x1 rs1 s1 r1 o1=>kB rs1 s1 o1 λμ2 ds h2 vs H2 x2 rs2 s2 r2 o2=>o2.val s2 (RelDL.cons (RelD.mono x2 _ _ r1) r2)
def aL (ms:M (List Dv)):M Dv:=λρ h=>(ms ρ h).bind λds h1=>lim ds.length (.ok (.tup ds) h1)
theorem fP {k} (h:dY X G E es aS):aK X G E (.Tuple es k pos) (aL aS):=λhK=>PE.imp (GB (h hK)) λσ H Q ⟨μ,ρ,h,rs,s,o⟩=>kB rs s o λμ1 ds h1 vs H1 x1 rs1 s1 r1 o1=>by
 unfold lim at o1
 split at o1
 ·rename_i hl;refine⟨by rw[r1.length];exact sG hl,λp hp=>?_⟩;exact o1 μ1 _ _ (Ext.same (cP hp)) (s1.same (cP hp)) ⟨p,vs,rfl,cS,RelDL.mono (Ext.same (cP hp)) _ _ r1⟩
 ·exact o1.elim
def aU (ms:M (List Dv)):M Dv:=λρ h=>(ms ρ h).bind λds h1=>lim ds.length (.ok (.ref h1.length) (h1++[.lst ds]))
theorem lZ {μ:Nat->ah}{h:Hs}{H:Hp}{ds:List Dv}{vs:List V}{Q:VK}{p:ah}(s:Sim G μ h H) (r:RelDL G μ h.length H ds vs) (hp:H p=none) (o:Out G E μ h.length H (.ok (.ref h.length) (h++[.lst ds])) (RelD G) Q):Q (.ref p) (aQ H p (.lst vs)):=by obtain⟨x,s'⟩:=s.alloc hp r;exact o _ _ _ x s' ⟨by simp,by show V.ref p=V.ref (if h.length=h.length then p else μ h.length);rw[if_pos rfl]⟩
theorem fR (h:dY X G E es aS):aK X G E (.List es pos) (aU aS):=λhK=>PE.imp (R5 (h hK)) λσ H Q ⟨μ,ρ,h,rs,s,o⟩=>kB rs s o λμ1 ds h1 vs H1 x1 rs1 s1 r1 o1=>by
 unfold lim at o1
 split at o1
 ·rename_i hl;exact⟨by rw[r1.length];exact sG hl,λp hp=>lZ s1 r1 hp o1⟩
 ·exact o1.elim
def m2 (f:Dv->Dv->Hs->Rs Dv) (ma mb:M Dv):M Dv:=λρ h=>(ma ρ h).bind λx h1=>(mb ρ h1).bind λy h2=>f x y h2
def fJ (G:Cfg) (r:R2) (f:Dv->Dv->Hs->Rs Dv):Prop:=∀(E:XK) (μ:Nat->ah) (h:Hs) (H:Hp) (x y:Dv) (vx vy:V) (Q:VK),Sim G μ h H->RelD G μ h.length H x vx->RelD G μ h.length H y vy->Out G E μ h.length H (f x y h) (RelD G) Q->r vx vy H Q
theorem sH {r:R2}{f:Dv->Dv->Hs->Rs Dv}(hd:fJ G r f) {σ:St}{H:Hp}{Q:VK}(t:gZ G E (m2 f ma mb) σ H Q):rV r (gZ G E ma) (gZ G E mb) σ H Q:=by obtain⟨μ,ρ,h,rs,s,o⟩:=t;exact eR rs s o λμ1 x h1 vx H1 x1 rs1 s1 r1 o1=>eR rs1 s1 o1 λμ2 y h2 vy H2 x2 rs2 s2 r2 o2=>hd E μ2 h2 H2 x y vx vy Q s2 (RelD.mono x2 _ _ r1) r2 o2
theorem oP {op:Operator}{r:R2}{f:Dv->Dv->Hs->Rs Dv}(ho:OpR X (binaryOp op) r) (hd:fJ G r f) (ha:aK X G E a ma) (hb:aK X G E b mb):aK X G E (.BinOp a op b pos) (m2 f ma mb):=λhK=>PE.imp (RH ho (ha hK) (hb hK)) λ_ _ _ t=>sH hd t
theorem pS {op:CmpOp}{r:R2}{f:Dv->Dv->Hs->Rs Dv}(ho:OpR X (compareOp op) r) (hd:fJ G r f) (ha:aK X G E a ma) (hb:aK X G E b mb) (hm:behindInMarks op b=false):aK X G E (.Compare a [op] [b] pos) (m2 f ma mb):=λhK=>PE.imp (RS ho (ha hK) (hb hK) hm) λ_ _ _ t=>sH hd t
def eS:Dv->Hs->Rs Bool
 | .bl b,h=>.ok b h
 |_,_=>.bad
def mB (m:M Dv):M Bool:=λρ h=>(m ρ h).bind eS
theorem UE {m:M Dv}{σ:St}{H:Hp}{Q:Bool->Hp->Prop}(t:iB G E (mB m) σ H Q):gZ G E m σ H λx H'=>∃k,x=.bl k/\Q k H':=by
 obtain⟨μ,ρ,h,rs,s,o⟩:=t;refine eR rs s o λμ1 x h1 vx H1 x1 rs1 s1 r1 o1=>?_
 cases x with
 |bl k=>exact⟨k,r1,o1.val s1 rfl⟩
 |_=>exact o1.elim
theorem pT {op:CmpOp}{r:R2}{f:Dv->Dv->Hs->Rs Dv}(ho:OpR X (compareOp op) r) (hd:fJ G r f) (ha:aK X G E a ma) (hb:aK X G E b mb) (hm:behindInMarks op b=false):gE X G E (.Compare a [op] [b] pos) (mB (m2 f ma mb)):=λhK=>PT.imp (RU ho (ha hK) (hb hK) hm) λσ H Q t=>sH hd (UE t)
def pU (f f':Dv->Dv->Hs->Rs Dv) (ma mb mc:M Dv):M Dv:=λρ h=>(ma ρ h).bind λx h1=>(mb ρ h1).bind λy h2=>(f x y h2).bind λz h3=>match z with
 | .bl true=>(mc ρ h3).bind λw h4=>f' y w h4
 | .bl false=>.ok (.bl false) h3
 |_=>.bad
theorem UG {r r':R2}{f f':Dv->Dv->Hs->Rs Dv}(hd:fJ G r f) (hd':fJ G r' f') {σ:St}{H:Hp}{Q:VK}(t:gZ G E (pU f f' ma mb mc) σ H Q):F6 r r' (gZ G E ma) (gZ G E mb) (gZ G E mc) σ H Q:=by
 obtain⟨μ,ρ,h,rs,s,o⟩:=t;refine eR rs s o λμ1 x h1 vx H1 x1 rs1 s1 r1 o1=>eR rs1 s1 o1 λμ2 y h2 vy H2 x2 rs2 s2 r2 o2=>?_;refine hd E μ2 h2 H2 x y vx vy _ s2 (RelD.mono x2 _ _ r1) r2 ((o2.bind (R1:=RelD G)).mono λvz H3 ⟨μ3,z,h3,x3,s3,r3,o3⟩=>?_)
 cases z with
 |bl k=>
  refine⟨k,r3, ?_⟩
  cases k with
  |true=>exact G7 (eR (rs2.mono x3) s3 o3 λμ4 w h4 vw H4 x4 oK s4 r4 o4=>hd' E μ4 h4 H4 y w vy vw Q s4 (RelD.mono (x3.trans x4) _ _ r2) r4 o4)
  |false=>exact G6 (o3.val s3 rfl)
 |_=>exact o3.elim
theorem UH {op op':CmpOp}{r r':R2}{f f':Dv->Dv->Hs->Rs Dv}(ho:OpR X (compareOp op) r) (ho':OpR X (compareOp op') r') (hd:fJ G r f) (hd':fJ G r' f') (ha:aK X G E a ma) (hb:aK X G E b mb) (hc:aK X G E c mc)
  (hm:lastMarks [op,op'] [b,c]=false:=by with_unfolding_all rfl):aK X G E (.Compare a [op,op'] [b,c] pos) (pU f f' ma mb mc):=λhK=>
 PE.imp (RV ho ho' (ha hK) (hb hK) (hc hK) hm) λ_ _ _ t=>UG hd hd' t
def kC (G:Cfg) (r:V->Hp->VK->Prop) (f:Dv->Hs->Rs Dv):Prop:=∀(E:XK) (μ:Nat->ah) (h:Hs) (H:Hp) (x:Dv) (vx:V) (Q:VK),Sim G μ h H->RelD G μ h.length H x vx->Out G E μ h.length H (f x h) (RelD G) Q->r vx H Q
def m1 (f:Dv->Hs->Rs Dv) (ma:M Dv):M Dv:=λρ h=>(ma ρ h).bind f
theorem UI {op:UnaryOp}{r:V->Hp->VK->Prop}{f:Dv->Hs->Rs Dv}(ho:vB X (unaryOp op) r) (hd:kC G r f) (ha:aK X G E a ma):aK X G E (.UnaryOp op a pos) (m1 f ma):=λhK=>PE.imp (RI ho (ha hK)) λσ H Q ⟨μ,ρ,h,rs,s,o⟩=>eR rs s o λμ1 x h1 vx H1 x1 rs1 s1 r1 o1=>hd E μ1 h1 H1 x vx Q s1 r1 o1
variable{tA tB':M Bool}{rest:List bp}
def nB (t u:M Bool):M Bool:=λρ h=>(t ρ h).bind λc h1=>if c=true then u ρ h1 else .ok false h1
def iL (t u:M Bool):M Bool:=λρ h=>(t ρ h).bind λc h1=>if c=true then .ok true h1 else u ρ h1
def cF (t:M Bool):M Bool:=λρ h=>(t ρ h).bind λc h1=>.ok (!c) h1
def SndW (X:Cx) (G:Cfg) (E:XK) (pe:bp) (m:M Bool):Prop:=X.K=G.K->PW X pe (iB G E m)
theorem SndW.t {pe:bp}{m:M Bool}(h:SndW X G E pe m):gE X G E pe m:=λhK=>(h hK).pt
theorem PW.imp {e:bp}{t t':TT}(h:PW X e t) (i:∀σ H Q,t' σ H Q->t σ H Q):PW X e t':=λwh pins s σ H Q I q=>h wh pins s σ H Q I (i σ H Q q)
theorem UJ (ha:gE X G E a tA):SndW X G E (.BoolOp .And [a] pos) tA:=λhK=>P4 (ha hK)
theorem vW (ha:gE X G E a tA):SndW X G E (.BoolOp .Or [a] pos) tA:=λhK=>P5 (ha hK)
theorem UK {σ:St}{H:Hp}{Q:Bool->Hp->Prop}(t:iB G E (nB tA tB') σ H Q):FU (iB G E tA) (iB G E tB') σ H Q:=by
 obtain⟨μ,ρ,h,rs,s,o⟩:=t;refine AX rs s o λμ1 k h1 H1 x1 rs1 s1 o1=>?_
 cases k with
 |true=>rw[if_pos rfl]at o1 ⊢;exact⟨μ1,ρ,h1,rs1,s1,o1⟩
 |false=>rw[if_neg (by decide)]at o1 ⊢;exact o1.val s1 rfl
theorem UL {σ:St}{H:Hp}{Q:Bool->Hp->Prop}(t:iB G E (iL tA tB') σ H Q):FV (iB G E tA) (iB G E tB') σ H Q:=by
 obtain⟨μ,ρ,h,rs,s,o⟩:=t;refine AX rs s o λμ1 k h1 H1 x1 rs1 s1 o1=>?_
 cases k with
 |false=>rw[if_neg (by decide)]at o1 ⊢;exact⟨μ1,ρ,h1,rs1,s1,o1⟩
 |true=>rw[if_pos rfl]at o1 ⊢;exact o1.val s1 rfl
theorem UM (ha:gE X G E a tA) (hb:SndW X G E (.BoolOp .And (b::rest) pos) tB'):SndW X G E (.BoolOp .And (a::b::rest) pos) (nB tA tB'):=λhK=>PW.imp (P6 (ha hK) (hb hK)) λ_ _ _ t=>UK t
theorem vX (ha:gE X G E a tA) (hb:SndW X G E (.BoolOp .Or (b::rest) pos) tB'):SndW X G E (.BoolOp .Or (a::b::rest) pos) (iL tA tB'):=λhK=>PW.imp (P7 (ha hK) (hb hK)) λ_ _ _ t=>UL t
theorem iY (ha:gE X G E a tA):gE X G E (.UnaryOp .Not a pos) (cF tA):=λhK=>PT.imp (P8 (ha hK)) λσ H Q ⟨μ,ρ,h,rs,s,o⟩=>AX rs s o λμ1 k h1 H1 x1 rs1 s1 o1=>o1.val s1 rfl
def dM (m u:M Dv):M Dv:=λρ h=>(m ρ h).bind λd h1=>match d with
 | .bl true=>u ρ h1
 | .bl false=>.ok (.bl false) h1
 |_=>.bad
def pV:Dv->Hs->Rs Dv
 | .bl b,h=>.ok (.bl (!b)) h
 |_,_=>.bad
theorem oQ {op} {m:M Dv}(h:aK X G E a m):aK X G E (.BoolOp op [a] pos) m:=λhK=>QB (h hK)
theorem nE (ha:aK X G E a ma) (hb:aK X G E (.BoolOp .And (b::rest) pos) mb):aK X G E (.BoolOp .And (a::b::rest) pos) (dM ma mb):=λhK=>PE.imp (QC (ha hK) (hb hK)) λσ H Q ⟨μ,ρ,h,rs,s,o⟩=>
 eR rs s o λμ1 x h1 vx H1 x1 rs1 s1 r1 o1=>by
  cases x with
  |bl k=>
   refine⟨k,r1, ?_⟩
   cases k with
   |true=>exact G7 ⟨μ1,ρ,h1,rs1,s1,o1⟩
   |false=>exact G6 (o1.val s1 rfl)
  |_=>exact o1.elim
theorem HJ (ha:aK X G E a ma):aK X G E (.UnaryOp .Not a pos) (m1 pV ma):=λhK=>PE.imp (QD (ha hK)) λσ H Q ⟨μ,ρ,h,rs,s,o⟩=>
 eR rs s o λμ1 x h1 vx H1 x1 rs1 s1 r1 o1=>by
  cases x with
  |bl k=>exact⟨k,r1,o1.val s1 rfl⟩
  |_=>exact o1.elim
def dZ:Dv->Hs->Rs Bool
 | .non,h=>.ok false h
 | .bl b,h=>.ok b h
 | .int i,h=>.ok (i != 0) h
 | .tup xs,h=>.ok (!xs.isEmpty) h
 | .ref i,h=>match getL h i with
  |some xs=>.ok (!xs.isEmpty) h
  |none=>.bad
 |_,_=>.bad
def bD (m:M Dv):M Bool:=λρ h=>(m ρ h).bind dZ
theorem HK {μ:Nat->ah}{n:Nat}{H:Hp}{ds:List Dv}{vs:List V}(r:RelDL G μ n H ds vs):vs.isEmpty=ds.isEmpty:=by
 have:=r.length
 cases ds <;> cases vs <;> simp_all
theorem fS (ha:aK X G E a ma) (he:∀whole,isTrue a X.env whole=(do let v <-whole;standAt a.pos;holding [v] (truthy v)):=by intro _;rfl):gE X G E a (bD ma):=λhK=>PT.imp (RY (ha hK) he) λσ H Q ⟨μ,ρ,h,rs,s,o⟩=>
 eR rs s o λμ1 x h1 vx H1 x1 rs1 s1 r1 o1=>by
  cases x with
  |non=>rw[RelD]at r1;subst r1;exact⟨_,rfl,o1.val s1 rfl⟩
  |bl k=>rw[RelD]at r1;subst r1;exact⟨_,rfl,o1.val s1 rfl⟩
  |int i=>rw[RelD]at r1;subst r1;exact⟨_,rfl,o1.val s1 rfl⟩
  |tup ds=>obtain⟨p,vs,rfl,e,r⟩:=r1;exact⟨_,.inr (.inl ⟨vs,SqT.of e,rfl⟩),by rw[HK r];exact o1.val s1 rfl⟩
  |ref i=>
   obtain⟨hi,rfl⟩:=r1;dsimp only[dZ]at o1
   cases q:getL h1 i with
   |none=>rw[q]at o1;exact o1.elim
   |some xs=>obtain⟨vs,e,r⟩:=s1.ob i _ (cM q);rw[q]at o1;exact⟨_,.inl ⟨vs,SqL.of e,rfl⟩,by rw[HK r];exact o1.val s1 rfl⟩
  |_=>exact o1.elim
end
end L2.Mr
namespace L2
open PySem PySem.Spec PyProof.Rows
section
variable{Pg:bj}{w:cm}{P:ah->Prop}{H:Hp}{s:ag}
theorem UN (hok:HOk Pg w H s.heap) (n:Nat) (A:cj) (d d':Dt) (v v':V) (u u':af) (hn:fI d<=n) (hu:A.units+n+1<cLine) (n1:nod d=true) (n2:nod d'=true) (h:Den P H d v) (h':Den P H d' v') (r:RelV v u) (r':RelV v' u'):
  SeqAt.RcNeAt A s u u' (!bJ d d'):=by
 have hu':A.units<cLine:=by omega
 have hin:∀{vs vs':List V}{ds ds':List Dt}{its its':List af},kU ds+1<=n->iX ds=true->iX ds'=true->DenL P H ds vs->DenL P H ds' vs'->Vals vs its->Vals vs' its'->
   ∀j (h1:j<its.toArray.size) (h2:j<its'.toArray.size),um A.in1 s its.toArray[j] its'.toArray[j] (bJ (ds.getD j .non) (ds'.getD j .non)):=by
  intro vs vs' ds ds' its its' hd m1 m2 g g' q q' j h1 h2;obtain⟨x,ex,rx⟩:=vR q h1;obtain⟨x',ex',rx'⟩:=vR q' h2;obtain⟨dx,edx,gx⟩:=g.get ex;obtain⟨dx',edx',gx'⟩:=g'.get ex';have e1:ds.getD j .non=dx:=by simp[nv,edx]
  have e2:ds'.getD j .non=dx':=by simp[nv,edx']
  rw[e1,e2];have hm:=cb edx;have hdm:=AU hm;exact(AV hok (n - 1) A.in1 dx dx' x x' _ _ (by omega) (by show A.units+1+(n - 1)+1<cLine;omega) (sD m1 hm) (sD m2 (cb edx')) gx gx' rx rx').2
 cases d with
 |non=>
  rw[Den]at h;subst h;cases r
  cases d' with
  |non=>rw[Den]at h';subst h';cases r';exact SeqAt.RcNeAt.none_none
  |bl b'=>rw[Den]at h';subst h';cases r';exact SeqAt.RcNeAt.none_bool  _
  |int i'=>rw[Den]at h';subst h';obtain⟨t2,rfl⟩:=r';exact SeqAt.RcNeAt.none_int  _ _
  |str x'=>rw[Den]at h';subst h';obtain⟨t2,rfl⟩:=r';exact SeqAt.RcNeAt.none_str  _ _
  |tup ds'=>rw[Den]at h';obtain⟨a2,vs2,rfl,e2,g2⟩:=h';cases r';obtain⟨its2,q2,tp2⟩:=gC hok e2;exact SeqAt.RcNeAt.none_tuple  tp2 hu'
  |lst ds'=>rw[Den]at h';obtain⟨a2,vs2,rfl,_,e2,g2⟩:=h';cases r';obtain⟨its2,q2,tp2⟩:=gD hok e2;exact SeqAt.RcNeAt.none_list  tp2 hu'
  |dct=>simp[nod]at n2
 |bl b=>
  rw[Den]at h;subst h;cases r
  cases d' with
  |non=>rw[Den]at h';subst h';cases r';exact SeqAt.RcNeAt.bool_none _
  |bl b'=>rw[Den]at h';subst h';cases r';exact SeqAt.RcNeAt.bool_bool _ _
  |int i'=>rw[Den]at h';subst h';obtain⟨t2,rfl⟩:=r';exact SeqAt.RcNeAt.bool_int _ _ _
  |str x'=>rw[Den]at h';subst h';obtain⟨t2,rfl⟩:=r';exact SeqAt.RcNeAt.bool_str _ _ _
  |tup ds'=>rw[Den]at h';obtain⟨a2,vs2,rfl,e2,g2⟩:=h';cases r';obtain⟨its2,q2,tp2⟩:=gC hok e2;exact SeqAt.RcNeAt.bool_tuple _ tp2 hu'
  |lst ds'=>rw[Den]at h';obtain⟨a2,vs2,rfl,_,e2,g2⟩:=h';cases r';obtain⟨its2,q2,tp2⟩:=gD hok e2;exact SeqAt.RcNeAt.bool_list _ tp2 hu'
  |dct=>simp[nod]at n2
 |int i=>
  rw[Den]at h;subst h;obtain⟨t1,rfl⟩:=r
  cases d' with
  |non=>rw[Den]at h';subst h';cases r';exact SeqAt.RcNeAt.int_none _ _
  |bl b'=>rw[Den]at h';subst h';cases r';exact SeqAt.RcNeAt.int_bool _ _ _
  |int i'=>rw[Den]at h';subst h';obtain⟨t2,rfl⟩:=r';exact SeqAt.RcNeAt.int_int _ _ _ _
  |str x'=>rw[Den]at h';subst h';obtain⟨t2,rfl⟩:=r';exact SeqAt.RcNeAt.int_str _ _ _ _
  |tup ds'=>rw[Den]at h';obtain⟨a2,vs2,rfl,e2,g2⟩:=h';cases r';obtain⟨its2,q2,tp2⟩:=gC hok e2;exact SeqAt.RcNeAt.int_tuple _ _ tp2 hu'
  |lst ds'=>rw[Den]at h';obtain⟨a2,vs2,rfl,_,e2,g2⟩:=h';cases r';obtain⟨its2,q2,tp2⟩:=gD hok e2;exact SeqAt.RcNeAt.int_list _ _ tp2 hu'
  |dct=>simp[nod]at n2
 |str x=>
  rw[Den]at h;subst h;obtain⟨t1,rfl⟩:=r
  cases d' with
  |non=>rw[Den]at h';subst h';cases r';exact SeqAt.RcNeAt.str_none _ _
  |bl b'=>rw[Den]at h';subst h';cases r';exact SeqAt.RcNeAt.str_bool _ _ _
  |int i'=>rw[Den]at h';subst h';obtain⟨t2,rfl⟩:=r';exact SeqAt.RcNeAt.str_int _ _ _ _
  |str x'=>rw[Den]at h';subst h';obtain⟨t2,rfl⟩:=r';exact SeqAt.RcNeAt.str_str _ _ _ _
  |tup ds'=>rw[Den]at h';obtain⟨a2,vs2,rfl,e2,g2⟩:=h';cases r';obtain⟨its2,q2,tp2⟩:=gC hok e2;exact SeqAt.RcNeAt.str_tuple _ _ tp2 hu'
  |lst ds'=>rw[Den]at h';obtain⟨a2,vs2,rfl,_,e2,g2⟩:=h';cases r';obtain⟨its2,q2,tp2⟩:=gD hok e2;exact SeqAt.RcNeAt.str_list _ _ tp2 hu'
  |dct=>simp[nod]at n2
 |tup ds=>
  rw[Den]at h;obtain⟨a1,vs1,rfl,e1,g1⟩:=h;cases r;obtain⟨its1,q1,tp1⟩:=gC hok e1
  cases d' with
  |non=>rw[Den]at h';subst h';cases r';exact SeqAt.RcNeAt.tuple_none  tp1 hu'
  |bl b'=>rw[Den]at h';subst h';cases r';exact SeqAt.RcNeAt.tuple_bool _ tp1 hu'
  |int i'=>rw[Den]at h';subst h';obtain⟨t2,rfl⟩:=r';exact SeqAt.RcNeAt.tuple_int _ _ tp1 hu'
  |str x'=>rw[Den]at h';subst h';obtain⟨t2,rfl⟩:=r';exact SeqAt.RcNeAt.tuple_str _ _ tp1 hu'
  |tup ds'=>
   rw[Den]at h';obtain⟨a2,vs2,rfl,e2,g2⟩:=h';cases r';obtain⟨its2,q2,tp2⟩:=gC hok e2;rw[nod]at n1 n2;rw[fI]at hn;have hl1:=g1.length;have hl2:=g2.length;have hq1:=q1.length;have hq2:=q2.length;rw[bJ];have z:=SeqAt.RcNeAt.tuples (e:=λj=>bJ (ds.getD j .non) (ds'.getD j .non)) tp1 tp2 hu' (hin hn n1 n2 g1 g2 q1 q2);have s1:its1.toArray.size=ds.length:=by simp;omega
   have s2:its2.toArray.size=ds'.length:=by simp;omega
   rw[s1,s2]at z
   by_cases hlen:ds.length=ds'.length
   ·rw[sE hlen];rw[<-hlen,Nat.min_self]at z;simpa using z
   ·rw[sF hlen];rw[show(ds.length==ds'.length)=false from beq_eq_false_iff_ne.mpr hlen,pq]at z;exact z
  |lst ds'=>rw[Den]at h';obtain⟨a2,vs2,rfl,_,e2,g2⟩:=h';cases r';obtain⟨its2,q2,tp2⟩:=gD hok e2;exact SeqAt.RcNeAt.tuple_list tp1 tp2 hu'
  |dct=>simp[nod]at n2
 |lst ds=>
  rw[Den]at h;obtain⟨a1,vs1,rfl,_,e1,g1⟩:=h;cases r;obtain⟨its1,q1,tp1⟩:=gD hok e1
  cases d' with
  |non=>rw[Den]at h';subst h';cases r';exact SeqAt.RcNeAt.list_none  tp1 hu'
  |bl b'=>rw[Den]at h';subst h';cases r';exact SeqAt.RcNeAt.list_bool _ tp1 hu'
  |int i'=>rw[Den]at h';subst h';obtain⟨t2,rfl⟩:=r';exact SeqAt.RcNeAt.list_int _ _ tp1 hu'
  |str x'=>rw[Den]at h';subst h';obtain⟨t2,rfl⟩:=r';exact SeqAt.RcNeAt.list_str _ _ tp1 hu'
  |tup ds'=>rw[Den]at h';obtain⟨a2,vs2,rfl,e2,g2⟩:=h';cases r';obtain⟨its2,q2,tp2⟩:=gC hok e2;exact SeqAt.RcNeAt.list_tuple tp1 tp2 hu'
  |lst ds'=>
   rw[Den]at h';obtain⟨a2,vs2,rfl,_,e2,g2⟩:=h';cases r';obtain⟨its2,q2,tp2⟩:=gD hok e2;rw[nod]at n1 n2;rw[fI]at hn;have hl1:=g1.length;have hl2:=g2.length;have hq1:=q1.length;have hq2:=q2.length;rw[bJ]
   by_cases hlen:ds.length=ds'.length
   ·have z:=SeqAt.RcNeAt.lists (e:=λj=>bJ (ds.getD j .non) (ds'.getD j .non)) tp1 tp2 (by simp;omega) hu' (hin hn n1 n2 g1 g2 q1 q2);rw[sE hlen];simpa[hq1.symm,hl1]using z
   ·rw[sF hlen];exact SeqAt.RcNeAt.lists_lengths tp1 tp2 (by simp;omega) hu'
  |dct=>simp[nod]at n2
 |dct=>simp[nod]at n1
end
end L2
namespace L2.Mr
open PySem PySem.Spec PyProof.Rows
def bP {α β:Type}(f:α->Option β):List α->Option (List β)
 | []=>some []
 |x::xs=>match f x with
  |none=>none
  |some y=>match bP f xs with
   |none=>none
   |some ys=>some (y::ys)
def bM:Nat->Hs->Dv->Option Dt
 |0,_,_=>none
 |k+1,h,d=>match d with
  | .non=>some .non
  | .bl b=>some (.bl b)
  | .int i=>some (.int i)
  | .str x=>some (.str x)
  | .tup xs=>match bP (bM k h) xs with
   |some ts=>some (.tup ts)
   |none=>none
  | .ref i=>match getL h i with
   |some xs=>match bP (bM k h) xs with
    |some ts=>some (.lst ts)
    |none=>none
   |none=>none
  |_=>none
abbrev jM:ah->Prop:=λ_=>True
section
variable{G:Cfg}{μ:Nat->ah}{h:Hs}{H:Hp}
theorem pW (s:Sim G μ h H):∀(k:Nat) (d:Dv) (v:V) (t:Dt),RelD G μ h.length H d v->bM k h d=some t->Den jM H t v/\fI t<=k/\nod t=true:=by
 intro k
 induction k with
 |zero=>intro d v t _ e;cases e
 |succ k ih=>
  have il:∀(xs:List Dv) (vs:List V) (ts:List Dt),RelDL G μ h.length H xs vs->bP (bM k h) xs=some ts->DenL jM H ts vs/\kU ts<=k/\iX ts=true:=by
   intro xs
   induction xs with
   |nil=>intro vs ts r e;cases e;rw[RelDL]at r;subst r;exact⟨DenL.nil,by simp[kU],rfl⟩
   |cons x xs ihx=>
    intro vs ts r e;rw[RelDL]at r;obtain⟨v,rr,rfl,r1,r2⟩:=r;unfold bP at e
    cases q:bM k h x with
    |none=>rw[q]at e;cases e
    |some y=>
     rw[q]at e;dsimp only at e
     cases q2:bP (bM k h) xs with
     |none=>rw[q2]at e;cases e
     |some ys=>rw[q2]at e;cases e;obtain⟨a1,a2,a3⟩:=ih x v y r1 q;obtain⟨b1,b2,b3⟩:=ihx rr ys r2 q2;exact⟨DenL.cons a1 b1,by rw[kU];omega,by rw[iX,a3,b3];rfl⟩
  intro d v t r e;unfold bM at e
  cases d with
  |non=>cases e;rw[RelD]at r;subst r;exact⟨by rw[Den],by simp[fI],rfl⟩
  |bl b=>cases e;rw[RelD]at r;subst r;exact⟨by rw[Den],by simp[fI],rfl⟩
  |int b=>cases e;rw[RelD]at r;subst r;exact⟨by rw[Den],by simp[fI],rfl⟩
  |str b=>cases e;rw[RelD]at r;subst r;exact⟨by rw[Den],by simp[fI],rfl⟩
  |tup xs=>
   dsimp only at e
   cases q:bP (bM k h) xs with
   |none=>rw[q]at e;cases e
   |some ts=>rw[q]at e;cases e;obtain⟨a,vs,rfl,e1,r1⟩:=r;obtain⟨b1,b2,b3⟩:=il xs vs ts r1 q;exact⟨by rw[Den];exact⟨a,vs,rfl,e1,b1⟩,by rw[fI];omega,by rw[nod];exact b3⟩
  |ref i=>
   dsimp only at e
   cases g:getL h i with
   |none=>rw[g]at e;cases e
   |some xs=>
    rw[g]at e;dsimp only at e
    cases q:bP (bM k h) xs with
    |none=>rw[q]at e;cases e
    |some ts=>rw[q]at e;cases e;obtain⟨hi,rfl⟩:=r;obtain⟨vs,e1,r1⟩:=s.ob i _ (cM g);obtain⟨b1,b2,b3⟩:=il xs vs ts r1 q;exact⟨by rw[Den];exact⟨_,vs,rfl,trivial,e1,b1⟩,by rw[fI];omega,by rw[nod];exact b3⟩
  |edc=>cases e
  |exc c=>cases e
  |scr=>cases e
end
def bY:Nat:=30
def bW (x y:Dv) (h:Hs):Rs Dv:=match bM bY h x,bM bY h y with
 |some s,some t=>.ok (.bl (bJ s t)) h
 |_,_=>.bad
def cB (x y:Dv) (h:Hs):Rs Dv:=match bM bY h x,bM bY h y with
 |some s,some t=>.ok (.bl (!bJ s t)) h
 |_,_=>.bad
def vY (neg:Bool):R2:=λx y H Q=>∃t t',Den jM H t x/\Den jM H t' y/\fI t<=bY/\nod t=true/\nod t'=true/\Q (.bl (if neg then !bJ t t' else bJ t t')) H
section
variable{X:Cx}{G:Cfg}
theorem HL (hu:X.A.units+64<cLine):OpR X (compareOp .Eq) (vY false):=by intro pins s σ H x y v u Q I r1 r2 ⟨t,t',d,d',hd,n1,n2,q⟩;exact EqBoolInt.of_rc (AV I.hok bY X.A t t' x y v u hd (by unfold bY;omega) n1 n2 d d' r1 r2).1 ⟨.bl _,H,I,rfl,q⟩
theorem HM (hu:X.A.units+64<cLine):OpR X (compareOp .NotEq) (vY true):=by intro pins s σ H x y v u Q I r1 r2 ⟨t,t',d,d',hd,n1,n2,q⟩;exact EqBoolInt.of_rcne (UN I.hok bY X.A t t' x y v u hd (by unfold bY;omega) n1 n2 d d' r1 r2) ⟨.bl _,H,I,rfl,q⟩
theorem HN:fJ G (vY false) bW:=by
 intro E μ h H x y vx vy Q s rx ry o;unfold bW at o
 split at o
 ·rename_i t t' e e';obtain⟨a1,a2,a3⟩:=pW s _ x vx t rx e;obtain⟨b1,b2,b3⟩:=pW s _ y vy t' ry e';exact⟨t,t',a1,b1,a2,a3,b3,o.val s rfl⟩
 ·exact o.elim
theorem HP:fJ G (vY true) cB:=by
 intro E μ h H x y vx vy Q s rx ry o;unfold cB at o
 split at o
 ·rename_i t t' e e';obtain⟨a1,a2,a3⟩:=pW s _ x vx t rx e;obtain⟨b1,b2,b3⟩:=pW s _ y vy t' ry e';exact⟨t,t',a1,b1,a2,a3,b3,o.val s rfl⟩
 ·exact o.elim
end
def iZ (g:Int->Int->Dv):Dv->Dv->Hs->Rs Dv
 | .int i,.int j,h=>.ok (g i j) h
 |_,_,_=>.bad
def kW (C:Int->Int->Bool) (g:Int->Int->Dv):Dv->Dv->Hs->Rs Dv
 | .int i,.int j,h=>if C i j=true then .ok (g i j) h else .bad
 |_,_,_=>.bad
section
variable{X:Cx}{G:Cfg}
theorem UO {f:Int->Int->Int}:fJ G (jJ λi j=>.int (f i j)) (iZ λi j=>.int (f i j)):=by
 intro E μ h H x y vx vy Q s rx ry o
 cases x with
 |int i=>
  cases y with
  |int j=>exact⟨i,j,rx,ry,o.val s rfl⟩
  |_=>exact o.elim
 |_=>exact o.elim
theorem sJ {f:Int->Int->Bool}:fJ G (jJ λi j=>.bl (f i j)) (iZ λi j=>.bl (f i j)):=by
 intro E μ h H x y vx vy Q s rx ry o
 cases x with
 |int i=>
  cases y with
  |int j=>exact⟨i,j,rx,ry,o.val s rfl⟩
  |_=>exact o.elim
 |_=>exact o.elim
theorem vZ {C:Int->Int->Prop}{B:Int->Int->Bool}{f:Int->Int->Int}(hB:∀i j,B i j=true->C i j):fJ G (rI C λi j=>.int (f i j)) (kW B λi j=>.int (f i j)):=by
 intro E μ h H x y vx vy Q s rx ry o
 cases x with
 |int i=>
  cases y with
  |int j=>
   dsimp only[kW]at o
   split at o
   ·rename_i hb;exact⟨i,j,rx,ry,hB i j hb,o.val s rfl⟩
   ·exact o.elim
  |_=>exact o.elim
 |_=>exact o.elim
def jA (i:Int):Bool:=decide (-18446744073709551616<i)&&decide (i<18446744073709551616)
def wB (i j:Int):Bool:=jA i||jA j
theorem UP (i j:Int) (h:wB i j=true):CMul i j:=by
 unfold wB jA at h;unfold CMul;simp only[Bool.or_eq_true,dm,decide_eq_true_eq]at h
 rcases h with h|h
 ·exact .inl ⟨by omega,by omega⟩
 ·exact .inr ⟨by omega,by omega⟩
def pX (_ j:Int):Bool:=decide (0<j)
theorem UQ (i j:Int) (h:pX i j=true):0<j:=by unfold pX at h;simpa using h
def sM (i j:Int):Bool:=decide (0<=j)&&decide (j<=1000000)&&decide (i.natAbs<18446744073709551616)
theorem UR (i j:Int) (h:sM i j=true):AF i j:=by unfold sM at h;unfold AF;simp only[dm,decide_eq_true_eq]at h;exact⟨h.1.1,h.1.2,by have:=h.2;omega⟩
def mD:Dv->Dv->Hs->Rs Dv
 | .int i,.int j,h=>.ok (.int (i+j)) h
 | .ref i,.ref j,h=>match getL h i,getL h j with
  |some xs,some ys=>lim (xs.length+ys.length) (.ok (.ref h.length) (h++[.lst (xs++ys)]))
  |_,_=>.bad
 | .tup xs,.tup ys,h=>if xs.isEmpty=true then .bad else lim (xs.length+ys.length) (.ok (.tup (xs++ys)) h)
 |_,_,_=>.bad
def AZ (K:aq):R2:=λx y H Q=>(jJ λi j=>.int (i+j)) x y H Q∨G3 x y H Q∨GQ K x y H Q
theorem US:OpR X (binaryOp .Add) (AZ X.K):=op_add.or (op_cat.or S0)
theorem UT:fJ G (AZ G.K) mD:=by
 intro E μ h H x y vx vy Q s rx ry o
 cases x with
 |int i=>
  cases y with
  |int j=>exact .inl ⟨i,j,rx,ry,o.val s rfl⟩
  |_=>exact o.elim
 |ref i=>
  cases y with
  |ref j=>
   dsimp only[mD]at o
   cases g1:getL h i with
   |none=>rw[g1]at o;exact o.elim
   |some xs=>
    cases g2:getL h j with
    |none=>rw[g1,g2]at o;exact o.elim
    |some ys=>
     rw[g1,g2]at o;dsimp only at o;unfold lim at o
     split at o
     ·rename_i hl;obtain⟨vs,e1,r1⟩:=s.ob i _ (cM g1);obtain⟨ws,e2,r2⟩:=s.ob j _ (cM g2);obtain⟨_,rfl⟩:=rx;obtain⟨_,rfl⟩:=ry;exact .inr (.inl ⟨_,_,vs,ws,rfl,rfl,e1,e2,by rw[r1.length,r2.length];exact sG hl,λp hp=>lZ s (r1.append r2) hp o⟩)
     ·exact o.elim
  |_=>exact o.elim
 |tup xs=>
  cases y with
  |tup ys=>
   dsimp only[mD]at o
   split at o
   ·exact o.elim
   ·rename_i hne;unfold lim at o
    split at o
    ·rename_i hl;obtain⟨a,vs,rfl,e1,r1⟩:=rx;obtain⟨b,ws,rfl,e2,r2⟩:=ry;refine .inr (.inr ⟨a,b,vs,ws,rfl,rfl,SqT.of e1,SqT.of e2, ?_,by rw[r1.length,r2.length];exact sG hl,λz=>?_,λ_ p hp=>?_⟩)
     ·intro z;subst z;have:=r1.length
      cases xs <;> simp_all
     ·subst z;have e3:ys=[]:=by have:=r2.length;cases ys <;> simp_all
      subst e3;refine o.val s ?_;rw[ow];exact⟨a,vs,rfl,e1,r1⟩
     ·exact o μ _ _ (Ext.same (cP hp)) (s.same (cP hp)) ⟨p,_,rfl,cS,RelDL.mono (Ext.same (cP hp)) _ _ (r1.append r2)⟩
    ·exact o.elim
  |_=>exact o.elim
 |_=>exact o.elim
def kD (xs:List Dv) (i:Int) (h:Hs):Rs Dv:=match gQ xs i with
 |some d=>.ok d h
 |none=>.bad
def gG (scr:List Int):Dv->Dv->Hs->Rs Dv
 | .tup xs,.int i,h=>kD xs i h
 | .ref k,.int i,h=>match getL h k with
  |some xs=>kD xs i h
  |none=>.bad
 | .scr,.int i,h=>kD (scr.map Dv.int) i h
 |_,_,_=>.bad
theorem pY {μ:Nat->ah}{n:Nat}{H:Hp}:∀ns:List Int,RelDL G μ n H (ns.map Dv.int) (ns.map V.int)
 | []=>RelDL.nil
 |i::ns=>RelDL.cons rfl (pY ns)
theorem A1 {E:XK}{μ:Nat->ah}{h:Hs}{H:Hp}{xs:List Dv}{vs:List V}{i:Int}{Q:VK}(s:Sim G μ h H) (r:RelDL G μ h.length H xs vs) (o:Out G E μ h.length H (kD xs i h) (RelD G) Q):∃v,gQ vs i=some v/\Q v H:=by
 unfold kD at o
 cases e:gQ xs i with
 |none=>rw[e]at o;exact o.elim
 |some d=>
  rw[e]at o;unfold gQ at e ⊢;rw[r.length]
  cases q:fO xs.length i with
  |none=>rw[q]at e;cases e
  |some j=>rw[q]at e;obtain⟨v,e1,r1⟩:=r.get e;exact⟨v,e1,o.val s r1⟩
theorem HQ:fJ G (AK G.K) (gG G.scr):=by
 intro E μ h H x y vx vy Q s rx ry o
 cases y with
 |int i=>
  cases x with
  |tup xs=>obtain⟨a,vs,rfl,e1,r1⟩:=rx;obtain⟨v,e2,q⟩:=A1 s r1 o;exact .inr (.inl ⟨a,vs,i,v,rfl,ry,SqT.of e1,e2,q⟩)
  |ref k=>
   dsimp only[gG]at o
   cases g:getL h k with
   |none=>rw[g]at o;exact o.elim
   |some xs=>rw[g]at o;obtain⟨vs,e1,r1⟩:=s.ob k _ (cM g);obtain⟨_,rfl⟩:=rx;obtain⟨v,e2,q⟩:=A1 s r1 o;exact .inl ⟨_,vs,i,v,rfl,ry,SqL.of e1,e2,q⟩
  |scr=>obtain⟨rfl,hf⟩:=rx;obtain⟨v,e2,q⟩:=A1 s (pY G.scr) o;exact .inl ⟨_,_,i,v,rfl,ry,hf.sq,e2,q⟩
  |_=>exact o.elim
 |_=>cases x <;> exact o.elim
theorem UU {E:XK}{a b:bp}{ma mb:M Dv}{pos:Pos}(ha:aK X G E a ma) (hb:aK X G E b mb) (hs:AJ b:=by intro _ _;rfl):aK X G E (.Subscript a b pos) (m2 (gG G.scr) ma mb):=λhK=>PE.imp (GR (by have:=GW (X:=X);rw[hK]at this;exact this) (ha hK) (hb hK) hs) λ_ _ _ t=>sH HQ t
theorem A2:dv "tuple" = some (.type "tuple"):=by decide +kernel
theorem wC:dv "list" = some (.type "list"):=by decide +kernel
theorem UW:dv "max" = some (.builtin "max"):=by decide +kernel
theorem UX:dv "min" = some (.builtin "min"):=by decide +kernel
variable{E:XK}{aS:M (List Dv)}{e:bp}{es:List bp}{x:Str}{p pos:Pos}{id T:String}
def oR (G:Cfg) (r:List V->Hp->VK->Prop) (f:List Dv->Hs->Rs Dv):Prop:=∀(E:XK) (μ:Nat->ah) (h:Hs) (H:Hp) (xs:List Dv) (vs:List V) (Q:VK),Sim G μ h H->RelDL G μ h.length H xs vs->Out G E μ h.length H (f xs h) (RelD G) Q->r vs H Q
def aF (f:List Dv->Hs->Rs Dv) (ms:M (List Dv)):M Dv:=λρ h=>(ms ρ h).bind f
theorem HR {r:List V->Hp->VK->Prop}{f:List Dv->Hs->Rs Dv}(hd:oR G r f) {σ:St}{H:Hp}{Q:VK}(t:gZ G E (aF f aS) σ H Q):vF r (AW G E aS) σ H Q:=by obtain⟨μ,ρ,h,rs,s,o⟩:=t;exact kB rs s o λμ1 ds h1 vs H1 x1 rs1 s1 r1 o1=>hd E μ1 h1 H1 ds vs Q s1 r1 o1
theorem sN {r:List V->Hp->VK->Prop}{f:List Dv->Hs->Rs Dv}(hc:CallR X (.builtin id) r) (hd:oR G r f) (hg:Gl X x) (hm:X.mg x=none) (hv:dv x=some (.builtin id)) (ha:dY X G E (e::es) aS) (hn:x ≠ "__name__" := by decide) (hdb:(x==("__debug__" : Str))=false:=by decide)
  (he:aw (e::es) X.env=(false,eval e X.env)::aw es X.env:=by rfl) (hpl:(backTo pos (aw es X.env)).any (·.1)=false:=by rfl):aK X G E (.Call (.Name x p) (e::es) [] pos) (aF f aS):=λhK=>
 PE.imp (rW hc hg hm hv (ha hK) hn hdb he hpl) λ_ _ _ t=>HR hd t
theorem HS {r:List V->Hp->VK->Prop}{f:List Dv->Hs->Rs Dv}(hc:CallR X (.type T) r) (hd:oR G r f) (hg:Gl X x) (hm:X.mg x=none) (hv:dv x=some (.type T)) (ha:dY X G E (e::es) aS) (hn:x ≠ "__name__" := by decide) (hdb:(x==("__debug__" : Str))=false:=by decide)
  (he:aw (e::es) X.env=(false,eval e X.env)::aw es X.env:=by rfl) (hpl:(backTo pos (aw es X.env)).any (·.1)=false:=by rfl):aK X G E (.Call (.Name x p) (e::es) [] pos) (aF f aS):=λhK=>
 PE.imp (vG hc hg hm hv (ha hK) hn hdb he hpl) λ_ _ _ t=>HR hd t
def fY (scr:List Int):Dv->Hs->Option (List Dv)
 | .tup xs,_=>some xs
 | .ref i,h=>getL h i
 | .scr,_=>some (scr.map Dv.int)
 |_,_=>none
def f1 (g:Dv->Hs->Rs Dv):List Dv->Hs->Rs Dv
 | [d],h=>g d h
 |_,_=>.bad
def iC (scr:List Int) (d:Dv) (h:Hs):Rs Dv:=match fY scr d h with
 |some xs=>.ok (.int xs.length) h
 |none=>.bad
theorem sO {μ:Nat->ah}{n:Nat}{H:Hp}{d:Dv}{vs:List V}(r:RelDL G μ n H [d] vs):∃v,vs=[v]/\RelD G μ n H d v:=by rw[RelDL]at r;obtain⟨v,rr,rfl,h1,h2⟩:=r;rw[RelDL]at h2;subst h2;exact⟨v,rfl,h1⟩
theorem sP {r:V->Hp->VK->Prop}{g:Dv->Hs->Rs Dv}(hg:kC G r g):oR G (λxs H Q=>∃v,xs=[v]/\r v H Q) (f1 g):=by
 intro E μ h H xs vs Q s rr o
 match xs,rr,o with
 | [],_,o=>exact o.elim
 |_::_::_,_,o=>exact o.elim
 | [d],rr,o=>obtain⟨v,rfl,r1⟩:=sO rr;exact⟨v,rfl,hg E μ h H d v Q s r1 o⟩
theorem sQ {μ:Nat->ah}{n:Nat}{H:Hp}{d d':Dv}{vs:List V}(r:RelDL G μ n H [d,d'] vs):∃v v',vs=[v,v']/\RelD G μ n H d v/\RelD G μ n H d' v':=by rw[RelDL]at r;obtain⟨v,rr,rfl,h1,h2⟩:=r;obtain⟨v',rfl,h3⟩:=sO h2;exact⟨v,v',rfl,h1,h3⟩
theorem A3 {μ:Nat->ah}{h:Hs}{H:Hp}{d:Dv}{v:V}{xs:List Dv}(s:Sim G μ h H) (r:RelD G μ h.length H d v) (e:fY G.scr d h=some xs):∃a vs,v=.ref a/\(SqL G.K H a vs∨SqT G.K H a vs)/\RelDL G μ h.length H xs vs:=by
 cases d with
 |tup ds=>cases e;obtain⟨a,vs,rfl,e1,r1⟩:=r;exact⟨a,vs,rfl,.inr (SqT.of e1),r1⟩
 |ref i=>obtain⟨_,rfl⟩:=r;obtain⟨vs,e1,r1⟩:=s.ob i _ (cM e);exact⟨_,vs,rfl,.inl (SqL.of e1),r1⟩
 |scr=>cases e;obtain⟨rfl,hf⟩:=r;exact⟨_,_,rfl,.inl hf.sq,pY _⟩
 |_=>cases e
def HU (K:aq):V->Hp->VK->Prop:=λx H Q=>∃p ys,x=.ref p/\(SqL K H p ys∨SqT K H p ys)/\Q (.int ys.length) H
theorem HV:kC G (HU G.K) (iC G.scr):=by
 intro E μ h H d v Q s r1 o;unfold iC at o
 cases e:fY G.scr d h with
 |none=>rw[e]at o;exact o.elim
 |some ys=>rw[e]at o;obtain⟨a,ws,rfl,hs,r2⟩:=A3 s r1 e;exact⟨a,ws,rfl,hs,by rw[r2.length];exact o.val s rfl⟩
theorem CallR.imp {f:af}{r r':List V->Hp->VK->Prop}(h:CallR X f r) (i:∀xs H Q,r' xs H Q->r xs H Q):CallR X f r':=λpins s σ H xs us Q I rv q=>h pins s σ H xs us Q I rv (i xs H Q q)
theorem HW (hg:Gl X "len") (hm:X.mg "len" = none) (ha:dY X G E (e::es) aS)
  (he:aw (e::es) X.env=(false,eval e X.env)::aw es X.env:=by rfl) (hpl:(backTo pos (aw es X.env)).any (·.1)=false:=by rfl):aK X G E (.Call (.Name "len" p) (e::es) [] pos) (aF (f1 (iC G.scr)) aS):=λhK=>
 sN (CallR.imp (GX (X:=X)) λxs H Q ⟨v,h1,a,ys,h2,h3,h4⟩=>⟨a,ys,by rw[h1,h2],by rw[hK];exact h3,h4⟩) (sP HV) hg hm PySem.boot_len ha (by decide) (by decide) he hpl hK
def mE:List Dv->Hs->Rs Dv
 | [.int i,.int j],h=>.ok (.int (if j>i then j else i)) h
 |_,_=>.bad
def pZ:List Dv->Hs->Rs Dv
 | [.int i,.int j],h=>.ok (.int (if j<i then j else i)) h
 |_,_=>.bad
theorem HX {f:List Dv->Hs->Rs Dv}{g:Int->Int->Int}(h2:∀i j h,f [.int i,.int j] h=.ok (.int (g i j)) h) (hb:∀xs h,(∀i j,xs≠[.int i,.int j])->f xs h=.bad):
  oR G (λxs H Q=>∃i j,xs=[.int i,.int j]/\Q (.int (g i j)) H) f:=by
 intro E μ h H xs vs Q s r o
 by_cases hx:∃i j,xs=[.int i,.int j]
 ·obtain⟨i,j,rfl⟩:=hx;obtain⟨v,v',rfl,r1,r2⟩:=sQ r;rw[RelD]at r1 r2;subst r1;subst r2;rw[h2]at o;exact⟨i,j,rfl,o.val s rfl⟩
 ·rw[hb xs h (λi j e=>hx ⟨i,j,e⟩)]at o;exact o.elim
theorem UY:oR G (λxs H Q=>∃i j,xs=[.int i,.int j]/\Q (.int (if j>i then j else i)) H) mE:=HX (λ_ _ _=>rfl) λxs h hx=>by
 unfold mE;split
 ·rename_i i j;exact absurd rfl (hx i j)
 ·rfl
theorem UZ:oR G (λxs H Q=>∃i j,xs=[.int i,.int j]/\Q (.int (if j<i then j else i)) H) pZ:=HX (λ_ _ _=>rfl) λxs h hx=>by
 unfold pZ;split
 ·rename_i i j;exact absurd rfl (hx i j)
 ·rfl
def hJ:Dv->Hs->Rs Dv
 | .tup xs,h=>.ok (.tup xs) h
 | .ref i,h=>match getL h i with
  |some xs=>.ok (.tup xs) h
  |none=>.bad
 |_,_=>.bad
def VA (K:aq):V->Hp->VK->Prop:=λx H Q=>∃p ys,x=.ref p/\((SqL K H p ys/\∀l,H l=none->Q (.ref l) (aQ H l (.tup ys)))∨(SqT K H p ys/\Q (.ref p) H))
theorem VB:kC G (VA G.K) hJ:=by
 intro E μ h H d v Q s r1 o
 cases d with
 |tup ds=>have r1':=r1;obtain⟨a,ws,rfl,e1,r2⟩:=r1;exact⟨a,ws,rfl,.inr ⟨SqT.of e1,o.val s r1'⟩⟩
 |ref i=>
  dsimp only[hJ]at o
  cases g:getL h i with
  |none=>rw[g]at o;exact o.elim
  |some ys=>rw[g]at o;obtain⟨_,rfl⟩:=r1;obtain⟨ws,e1,r2⟩:=s.ob i _ (cM g);exact⟨_,ws,rfl,.inl ⟨SqL.of e1,λl hl=>o μ _ _ (Ext.same (cP hl)) (s.same (cP hl)) ⟨l,ws,rfl,cS,RelDL.mono (Ext.same (cP hl)) _ _ r2⟩⟩⟩
 |_=>exact o.elim
theorem A4 (hg:Gl X "tuple") (hm:X.mg "tuple" = none) (ha:dY X G E (e::es) aS)
  (he:aw (e::es) X.env=(false,eval e X.env)::aw es X.env:=by rfl) (hpl:(backTo pos (aw es X.env)).any (·.1)=false:=by rfl):aK X G E (.Call (.Name "tuple" p) (e::es) [] pos) (aF (f1 hJ) aS):=λhK=>
 HS (CallR.imp (TH (X:=X)) λxs H Q ⟨v,h1,a,ys,h2,h3⟩=>⟨a,ys,by rw[h1,h2],by rw[hK];exact h3⟩) (sP VB) hg hm A2 ha (by decide) (by decide) he hpl hK
def qA (scr:List Int) (d:Dv) (h:Hs):Rs Dv:=match fY scr d h with
 |some xs=>.ok (.ref h.length) (h++[.lst xs])
 |none=>.bad
theorem VC:kC G (λx H Q=>∃p ys,x=.ref p/\(SqL G.K H p ys∨SqT G.K H p ys)/\∀l,H l=none->Q (.ref l) (aQ H l (.lst ys))) (qA G.scr):=by
 intro E μ h H d v Q s r1 o;unfold qA at o
 cases e:fY G.scr d h with
 |none=>rw[e]at o;exact o.elim
 |some ys=>rw[e]at o;obtain⟨a,ws,rfl,hs,r2⟩:=A3 s r1 e;exact⟨a,ws,rfl,hs,λl hl=>lZ s r2 hl o⟩
theorem HY (hc:X.calm=true) (hg:Gl X "max") (hm:X.mg "max" = none) (ha:dY X G E (e::es) aS)
  (he:aw (e::es) X.env=(false,eval e X.env)::aw es X.env:=by rfl) (hpl:(backTo pos (aw es X.env)).any (·.1)=false:=by rfl):aK X G E (.Call (.Name "max" p) (e::es) [] pos) (aF mE aS):=
 sN (RZ hc) UY hg hm UW ha (by decide) (by decide) he hpl
theorem VD (hc:X.calm=true) (hg:Gl X "min") (hm:X.mg "min" = none) (ha:dY X G E (e::es) aS)
  (he:aw (e::es) X.env=(false,eval e X.env)::aw es X.env:=by rfl) (hpl:(backTo pos (aw es X.env)).any (·.1)=false:=by rfl):aK X G E (.Call (.Name "min" p) (e::es) [] pos) (aF pZ aS):=
 sN (R0 hc) UZ hg hm UX ha (by decide) (by decide) he hpl
end
inductive Sr where
 |nx (ρ:Ev) (h:Hs)|rt (d:Dv) (h:Hs)|bk (ρ:Ev) (h:Hs)|ct (ρ:Ev) (h:Hs)|ex (c:Nat) (h:Hs)|bad
abbrev MS:=Ev->Hs->Sr
def SOut (G:Cfg) (E:XK) (μ:Nat->ah) (n:Nat) (H:Hp) (r:Sr) (D:Ends):Prop:=match r with
 | .nx ρ h'=>∀μ' H' σ',Ext μ n H μ' h'.length H'->Sim G μ' h' H'->RelS G μ' h'.length H' ρ σ'->D.nx σ' H'
 | .bk ρ h'=>∀μ' H' σ',Ext μ n H μ' h'.length H'->Sim G μ' h' H'->RelS G μ' h'.length H' ρ σ'->D.bk σ' H'
 | .ct ρ h'=>∀μ' H' σ',Ext μ n H μ' h'.length H'->Sim G μ' h' H'->RelS G μ' h'.length H' ρ σ'->D.ct σ' H'
 | .rt d h'=>∀μ' H' v,Ext μ n H μ' h'.length H'->Sim G μ' h' H'->RelD G μ' h'.length H' d v->D.rt v H'
 | .ex c h'=>∀μ' H' u,Ext μ n H μ' h'.length H'->Sim G μ' h' H'->vS G H' c u->E u none H'
 | .bad=>False
theorem SOut.ext {G:Cfg}{E:XK}{μ μ1:Nat->ah}{n n1:Nat}{H H1:Hp}{r:Sr}{D:Ends}(o:SOut G E μ n H r D) (x:Ext μ n H μ1 n1 H1):SOut G E μ1 n1 H1 r D:=by
 cases r with
 |nx ρ h'=>exact λμ' H' σ' y=>o μ' H' σ' (x.trans y)
 |bk ρ h'=>exact λμ' H' σ' y=>o μ' H' σ' (x.trans y)
 |ct ρ h'=>exact λμ' H' σ' y=>o μ' H' σ' (x.trans y)
 |rt d h'=>exact λμ' H' σ' y=>o μ' H' σ' (x.trans y)
 |ex c h'=>exact λμ' H' σ' y=>o μ' H' σ' (x.trans y)
 |bad=>exact o
def wD (G:Cfg) (E:XK) (m:MS):TS:=λD σ H=>∃μ ρ h,RelS G μ h.length H ρ σ/\Sim G μ h H/\SOut G E μ h.length H (m ρ h) D
def iM (X:Cx) (G:Cfg) (E:XK) (st:gy) (m:MS):Prop:=X.K=G.K->PS X st (wD G E m)
def iN (X:Cx) (G:Cfg) (E:XK) (st:List gy) (m:MS):Prop:=X.K=G.K->PSs X st (wD G E m)
theorem PS.imp {X:Cx}{e:gy}{t t':TS}(h:PS X e t) (i:∀D σ H,t' D σ H->t D σ H):PS X e t':=λpins s σ H D I q=>h pins s σ H D I (i D σ H q)
theorem PSs.imp {X:Cx}{e:List gy}{t t':TS}(h:PSs X e t) (i:∀D σ H,t' D σ H->t D σ H):PSs X e t':=λpins s σ H D I q=>h pins s σ H D I (i D σ H q)
def Rs.thenS {α:Type}(r:Rs α) (f:α->Hs->Sr):Sr:=match r with
 | .ok a h=>f a h
 | .ex c h=>.ex c h
 | .bad=>.bad
@[simp] theorem Rs.thenS_ok {α:Type}(a:α) (h:Hs) (f:α->Hs->Sr):(Rs.ok a h).thenS f=f a h:=rfl
@[simp] theorem Rs.thenS_ex {α:Type}(c:Nat) (h:Hs) (f:α->Hs->Sr):(Rs.ex c h).thenS f=.ex c h:=rfl
@[simp] theorem Rs.thenS_bad {α:Type}(f:α->Hs->Sr):(Rs.bad).thenS f=.bad:=rfl
theorem SOut.thenS {α β:Type}{G:Cfg}{E:XK}{μ:Nat->ah}{n:Nat}{H:Hp}{r:Rs α}{f:α->Hs->Sr}{D:Ends}{R:(Nat->ah)->Nat->Hp->α->β->Prop}
  (o:SOut G E μ n H (r.thenS f) D):Out G E μ n H r R λv H1=>∃μ1 d h1,Ext μ n H μ1 h1.length H1/\Sim G μ1 h1 H1/\R μ1 h1.length H1 d v/\SOut G E μ1 h1.length H1 (f d h1) D:=by
 cases r with
 |bad=>exact o
 |ex c h'=>exact o
 |ok d h'=>exact λμ1 H1 v x1 s1 r1=>⟨μ1,d,h',x1,s1,r1,SOut.ext o x1⟩
section
variable{X:Cx}{G:Cfg}{E:XK}{st:gy}{rest:List gy}{m u:MS}{e:bp}{me:M Dv}{pos:Pos}
theorem nF {m:M Dv}{σ:St}{H:Hp}{f:Dv->Hs->Sr}{D:Ends}{Q1:V->Hp->Prop}{μ:Nat->ah}{ρ:Ev}{h:Hs}(rs:RelS G μ h.length H ρ σ) (s:Sim G μ h H) (o:SOut G E μ h.length H ((m ρ h).thenS f) D)
  (k:∀μ1 d h1 v H1,Ext μ h.length H μ1 h1.length H1->RelS G μ1 h1.length H1 ρ σ->Sim G μ1 h1 H1->RelD G μ1 h1.length H1 d v->SOut G E μ1 h1.length H1 (f d h1) D->Q1 v H1):gZ G E m σ H Q1:=
 ⟨μ,ρ,h,rs,s,(o.thenS (R:=RelD G)).mono λv H1 ⟨μ1,d,h1,x,s1,r1,o1⟩=>k μ1 d h1 v H1 x (rs.mono x) s1 r1 o1⟩
theorem HZ {m:M Bool}{σ:St}{H:Hp}{f:Bool->Hs->Sr}{D:Ends}{Q1:Bool->Hp->Prop}{μ:Nat->ah}{ρ:Ev}{h:Hs}(rs:RelS G μ h.length H ρ σ) (s:Sim G μ h H) (o:SOut G E μ h.length H ((m ρ h).thenS f) D)
  (k:∀μ1 b h1 H1,Ext μ h.length H μ1 h1.length H1->RelS G μ1 h1.length H1 ρ σ->Sim G μ1 h1 H1->SOut G E μ1 h1.length H1 (f b h1) D->Q1 b H1):iB G E m σ H Q1:=
 ⟨μ,ρ,h,rs,s,(o.thenS (R:=RB)).mono λv H1 ⟨μ1,d,h1,x,s1,r1,o1⟩=>by have e:v=d:=r1;subst e;exact k μ1 v h1 H1 x (rs.mono x) s1 o1⟩
def bQ:MS:=λρ h=>.nx ρ h
def aJ (m u:MS):MS:=λρ h=>match m ρ h with
 | .nx ρ1 h1=>u ρ1 h1
 |r=>r
theorem fF:iN X G E [] bQ:=λ_=>PSs.imp QH λD σ H ⟨μ,ρ,h,rs,s,o⟩=>o μ H σ Ext.refl s rs
theorem aX (h1:iM X G E st m) (h2:iN X G E rest u):iN X G E (st::rest) (aJ m u):=λhK=>PSs.imp (QI (h1 hK) (h2 hK)) λD σ H ⟨μ,ρ,h,rs,s,o⟩=>by
 refine⟨μ,ρ,h,rs,s, ?_⟩;unfold aJ at o
 cases q:m ρ h with
 |nx ρ1 h1=>rw[q]at o;exact λμ1 H1 σ1 x1 s1 rs1=>⟨μ1,ρ1,h1,rs1,s1,SOut.ext o x1⟩
 |bk ρ1 h1=>rw[q]at o;exact o
 |ct ρ1 h1=>rw[q]at o;exact o
 |rt ρ1 h1=>rw[q]at o;exact o
 |ex ρ1 h1=>rw[q]at o;exact o
 |bad=>rw[q]at o;exact o
theorem bF (h1:iM X G E st m):iN X G E [st] m:=λhK=>FW (h1 hK)
def bG (me:M Dv):MS:=λρ h=>(me ρ h).thenS λ_ h1=>.nx ρ h1
theorem fZ (he:aK X G E e me) (hs:swapsWith e none pos.line X.env=pure false:=by rfl):iM X G E (.Expr e pos) (bG me):=λhK=>PS.imp (QK (he hK) hs) λD σ H ⟨μ,ρ,h,rs,s,o⟩=>nF rs s o λμ1 d h1 v H1 x1 rs1 s1 r1 o1=>o1 μ1 H1 σ Ext.refl s1 rs1
def aR (me:M Dv):MS:=λρ h=>(me ρ h).thenS λd h1=>.rt d h1
theorem cC (he:aK X G E e me):iM X G E (.Return (some e) pos) (aR me):=λhK=>PS.imp (QM (he hK)) λD σ H ⟨μ,ρ,h,rs,s,o⟩=>nF rs s o λμ1 d h1 v H1 x1 rs1 s1 r1 o1=>o1 μ1 H1 v Ext.refl s1 r1
def bE (c:M Bool) (t u:MS):MS:=λρ h=>(c ρ h).thenS λb h1=>if b=true then t ρ h1 else u ρ h1
theorem fG {c:bp}{a b:List gy}{mc:M Bool}(hc:gE X G E c mc) (ha:iN X G E a m) (hb:iN X G E b u):iM X G E (.If c a b pos) (bE mc m u):=λhK=>PS.imp (QO (hc hK) (ha hK) (hb hK)) λD σ H ⟨μ,ρ,h,rs,s,o⟩=>
 HZ rs s o λμ1 k h1 H1 x1 rs1 s1 o1=>by
  cases k with
  |true=>rw[if_pos rfl]at o1 ⊢;exact⟨μ1,ρ,h1,rs1,s1,o1⟩
  |false=>rw[if_neg (by decide)]at o1 ⊢;exact⟨μ1,ρ,h1,rs1,s1,o1⟩
theorem RelS.set {μ:Nat->ah}{n:Nat}{H:Hp}{ρ:Ev}{σ:St}{d:Dv}{v:V}(rs:RelS G μ n H ρ σ) (i:Nat) (r:RelD G μ n H d v):RelS G μ n H (ρ.set i (some d)) (σ.set i (some v)):=⟨by rw[ki,ki];exact rs.len,λj d' e=>by
 have hl:=rs.len
 by_cases hij:i=j
 ·subst hij;have hi:i<ρ.length:=by have:=(bc.mp e).1;simpa using this
  rw[cz hi]at e;cases e;exact⟨v,cz (by omega),r⟩
 ·rw[dw hij]at e ⊢;exact rs.at_ j d' e⟩
abbrev cY:=Dv->Ev->Option Ev
def qB (G:Cfg) (st:cY):TG:=λv σ H Q=>∃μ ρ h d ρ',RelS G μ h H ρ σ/\RelD G μ h H d v/\st d ρ=some ρ'/\∀σ',RelS G μ h H ρ' σ'->Q σ' H
def jN (X:Cx) (G:Cfg) (tg:bp) (st:cY):Prop:=X.K=G.K->PG X tg (qB G st)
theorem PG.imp {tg:bp}{t t':TG}(h:PG X tg t) (i:∀v σ H Q,t' v σ H Q->t v σ H Q):PG X tg t':=λpins s σ H v u Q I r q=>h pins s σ H v u Q I r (i v σ H Q q)
theorem PGs.imp {tg:List bp}{t t':lX}(h:PGs X tg t) (i:∀v σ H Q,t' v σ H Q->t v σ H Q):PGs X tg t':=λpins s σ H v u Q I r q=>h pins s σ H v u Q I r (i v σ H Q q)
def aE (i:Nat):cY:=λd ρ=>some (ρ.set i (some d))
theorem VE {i:Nat}{x:Str}(hN:X.N.Nodup) (hi:X.N[i]?=some x) (hx:kT X.env.scope x) (hf:X.fn x=true∨X.env.scope.names.lookup x=some .local:=by first|exact .inl rfl|exact .inr rfl|assumption):jN X G (.Name x pos) (aE i):=λ_=>PG.imp (QP hN hi hx hf) λv σ H Q ⟨μ,ρ,h,d,ρ',rs,r,e,k⟩=>by cases e;exact k _ (rs.set i r)
abbrev nG:=List Dv->Ev->Option Ev
def VF (G:Cfg) (st:nG):lX:=λvs σ H Q=>∃μ ρ h ds ρ',RelS G μ h H ρ σ/\RelDL G μ h H ds vs/\st ds ρ=some ρ'/\∀σ',RelS G μ h H ρ' σ'->Q σ' H
def wF (X:Cx) (G:Cfg) (tg:List bp) (st:nG):Prop:=X.K=G.K->PGs X tg (VF G st)
def cI:nG:=λds ρ=>match ds with
 | []=>some ρ
 |_=>none
def aY (s:cY) (t:nG):nG:=λds ρ=>match ds with
 |d::r=>match s d ρ with
  |some ρ1=>t r ρ1
  |none=>none
 | []=>none
theorem iD:wF X G [] cI:=λ_=>PGs.imp QS λvs σ H Q ⟨μ,ρ,h,ds,ρ',rs,r,e,k⟩=>by
 cases ds with
 |nil=>cases e;rw[RelDL]at r;subst r;exact⟨rfl,k _ rs⟩
 |cons d r=>cases e
theorem dI {tg:bp}{tgs:List bp}{s:cY}{t:nG}(h1:jN X G tg s) (h2:wF X G tgs t)
  (hs:(assignEach (tg::tgs) X.env).map (·.2)=assign tg X.env::(assignEach tgs X.env).map (·.2):=by rfl):wF X G (tg::tgs) (aY s t):=λhK=>PGs.imp (QT (h1 hK) (h2 hK) hs) λvs σ H Q ⟨μ,ρ,h,ds,ρ',rs,r,e,k⟩=>by
 cases ds with
 |nil=>cases e
 |cons d ds=>
  rw[RelDL]at r;obtain⟨v,rr,rfl,r1,r2⟩:=r;unfold aY at e;dsimp only at e
  cases q:s d ρ with
  |none=>rw[q]at e;cases e
  |some ρ1=>rw[q]at e;exact⟨v,rr,rfl,μ,ρ,h,d,ρ1,rs,r1,q,λσ1 rs1=>⟨μ,ρ1,h,ds,ρ',rs1,r2,e,k⟩⟩
def cG (n:Nat) (t:nG):cY:=λd ρ=>match d with
 | .tup ds=>if ds.length=n then t ds ρ else none
 |_=>none
theorem iE {tgs:List bp}{k:Nat}{t:nG}{n:Nat}(hc:X.calm=true) (h:wF X G tgs t)
  (hn:(assignEach tgs X.env).length=n:=by rfl) (hst:(assignEach tgs X.env).findIdx? (·.1)=none:=by rfl):jN X G (.Tuple tgs k pos) (cG n t):=λhK=>
 PG.imp (QV hc (h hK) hn hst) λv σ H Q ⟨μ,ρ,hh,d,ρ',rs,r,e,kk⟩=>by
  cases d with
  |tup ds=>
   dsimp only[cG]at e
   split at e
   ·rename_i hl;obtain⟨a,vs,rfl,e1,r1⟩:=r;exact⟨a,vs,rfl,SqT.of e1,by rw[r1.length];exact hl,μ,ρ,hh,ds,ρ',rs,r1,e,kk⟩
   ·cases e
  |_=>cases e
def aM (me:M Dv) (st:cY):MS:=λρ h=>(me ρ h).thenS λd h1=>match st d ρ with
 |some ρ1=>.nx ρ1 h1
 |none=>.bad
theorem VG {st:cY}{σ:St}{H:Hp}{D:Ends}(t:wD G E (aM me st) D σ H):vA (gZ G E me) (qB G st) D σ H:=by
 obtain⟨μ,ρ,h,rs,s,o⟩:=t;refine nF rs s o λμ1 d h1 v H1 x1 rs1 s1 r1 o1=>?_
 cases q:st d ρ with
 |none=>rw[q]at o1;exact o1.elim
 |some ρ1=>rw[q]at o1;exact⟨μ1,ρ,h1.length,d,ρ1,rs1,r1,q,λσ' rs'=>o1 μ1 H1 σ' Ext.refl s1 rs'⟩
theorem wG {tg:bp}{st:cY}(he:aK X G E e me) (hg:jN X G tg st) (hs:swapsWithSole [tg] e pos.line X.env=pure false:=by rfl) (hw:swappedStores [tg] e X.env=pure none:=by rfl)
  (h1:(assignEach [tg] X.env).map (·.2)=[assign tg X.env]:=by rfl):iM X G E (.Assign [tg] e pos) (aM me st):=λhK=>PS.imp (FY (he hK) (hg hK) hs hw h1) λ_ _ _ t=>VG t
theorem A5 {i:Nat}{x:Str}{pos':Pos}(hN:X.N.Nodup) (hi:X.N[i]?=some x) (hx:kT X.env.scope x) (he:aK X G E e me) (hs:swapsWith e (some (.Name x pos')) pos.line X.env=pure false:=by rfl) (hf:X.fn x=true∨X.env.scope.names.lookup x=some .local:=by first|exact .inl rfl|exact .inr rfl|assumption):
  iM X G E (.Assign [.Name x pos'] e pos) (aM me (aE i)):=λhK=>PS.imp (zZ hN hi hx (he hK) hs hf) λD σ H t=>by
 obtain⟨μ,ρ,h,rs,s,o⟩:=t;exact nF rs s o λμ1 d h1 v H1 x1 rs1 s1 r1 o1=>o1 μ1 H1 _ Ext.refl s1 (rs1.set i r1)
end
structure Src where
 n:Nat
 get:Nat->Hs->Option Dv
 fin:Hs->Bool
def ItOk (G:Cfg) (μ0:Nat->ah) (n0:Nat) (H0:Hp) (src:Src) (J:It):Prop:=
 ∀(k:Nat) (μ:Nat->ah) (h:Hs) (H:Hp),Ext μ0 n0 H0 μ h.length H->Sim G μ h H->
  (k<src.n->∀d,src.get k h=some d->J.go k H/\∀x H',J.yld k H x H'->Same H H'/\RelD G μ h.length H' d x)/\(k=src.n->src.fin h=true->J.stop k H)
def A6 (G:Cfg) (E:XK) (m:M Src):TI:=λσ H R=>∃μ ρ h,RelS G μ h.length H ρ σ/\Sim G μ h H/\Out G E μ h.length H (m ρ h) (ItOk G) R
def jB (X:Cx) (G:Cfg) (E:XK) (tg iter:bp) (m:M Src):Prop:=X.K=G.K->PI X tg iter (A6 G E m)
theorem PI.imp {X:Cx}{tg iter:bp}{t t':TI}(h:PI X tg iter t) (i:∀σ H R,t' σ H R->t σ H R):PI X tg iter t':=λpins s σ H R I q=>h pins s σ H R I (i σ H R q)
def cZ (xs:List Dv):Src:=⟨xs.length,λk _=>xs[k]?,λ_=>true⟩
def eC (i n:Nat):Src:=⟨n,λk h=>match getL h i with
 |some xs=>if xs.length=n then xs[k]? else none
 |none=>none,λh=>match getL h i with
 |some xs=>xs.length==n
 |none=>false⟩
def cA (lo hi:Int):Src:=⟨(hi - lo).toNat,λk _=>some (.int (lo+k)),λ_=>true⟩
def bO (f:Dv->Hs->Rs Src) (m:M Dv):M Src:=λρ h=>(m ρ h).bind f
section
variable{X:Cx}{G:Cfg}{E:XK}{tg e a b:bp}{me ma mb:M Dv}{pos p:Pos}
def dD:Dv->Hs->Rs Src
 | .ref i,h=>match getL h i with
  |some xs=>.ok (eC i xs.length) h
  |none=>.bad
 |_,_=>.bad
def dS:Dv->Hs->Rs Src
 | .tup xs,h=>.ok (cZ xs) h
 |_,_=>.bad
theorem nI (he:aK X G E e me):jB X G E tg e (bO dD me):=λhK=>PI.imp (Q6 (he hK)) λσ H R ⟨μ,ρ,h,rs,s,o⟩=>eR rs s o λμ1 x h1 vx H1 x1 rs1 s1 r1 o1=>by
 rw[hK]
 cases x with
 |ref i=>
  obtain⟨hi,rfl⟩:=r1;dsimp only[dD]at o1
  cases g:getL h1 i with
  |none=>rw[g]at o1;exact o1.elim
  |some xs=>
   rw[g]at o1;obtain⟨vs,e1,r2⟩:=s1.ob i _ (cM g);refine⟨_,rfl,⟨vs,SqL.of e1⟩,o1.val s1 λk μ2 h2 H2 x2 s2=>?_⟩;have emu:=x2.mu i hi;constructor
   ·intro hk d hd;dsimp only[eC]at hd
    cases g2:getL h2 i with
    |none=>rw[g2]at hd;cases hd
    |some ys=>
     rw[g2]at hd;dsimp only at hd
     split at hd
     ·obtain⟨ws,e2,r3⟩:=s2.ob i _ (cM g2);rw[emu]at e2;obtain⟨v,ev,rv⟩:=r3.get hd;refine⟨⟨ws,v,SqL.of e2,ev⟩,λx H' hy=>?_⟩;obtain⟨rfl,hy⟩:=hy;have:=hy ws (SqL.of e2);rw[ev]at this;cases this;exact⟨Same.refl _,rv⟩
     ·cases hd
   ·intro hk hf;dsimp only[eC]at hf
    cases g2:getL h2 i with
    |none=>rw[g2]at hf;cases hf
    |some ys=>
     rw[g2]at hf;obtain⟨ws,e2,r3⟩:=s2.ob i _ (cM g2);rw[emu]at e2;refine⟨ws,SqL.of e2, ?_⟩;have h3:ys.length=xs.length:=by simpa using hf
     rw[r3.length,h3,hk];exact ao _
 |_=>exact o1.elim
theorem ItOk.tup {μ:Nat->ah}{n:Nat}{H:Hp}{a:ah}{vs:List V}{xs:List Dv}{K:aq}(e:H a=some (.tup vs)) (r:RelDL G μ n H xs vs) (hi:∀(X:Cx),True):ItOk G μ n H (cZ xs) (AB K a):=by
 intro k μ2 h2 H2 x2 s2;have e2:=x2.im a (.tup vs) trivial e;have r2:=RelDL.mono x2 _ _ r;have inj:∀ws,SqT K H2 a ws->ws=vs->True:=λ_ _ _=>trivial;constructor
 ·intro hk d hd;obtain⟨v,ev,rv⟩:=r2.get hd;refine⟨⟨vs,v,SqT.of e2,ev⟩,λx H' hy=>?_⟩;obtain⟨rfl,hy⟩:=hy;have:=hy vs (SqT.of e2);rw[ev]at this;cases this;exact⟨Same.refl _,rv⟩
 ·intro hk _;exact⟨vs,SqT.of e2,by rw[r2.length,hk];exact ao _⟩
theorem mF (he:aK X G E e me):jB X G E tg e (bO dS me):=λhK=>PI.imp (Q7 (he hK)) λσ H R ⟨μ,ρ,h,rs,s,o⟩=>eR rs s o λμ1 x h1 vx H1 x1 rs1 s1 r1 o1=>by
 cases x with
 |tup xs=>obtain⟨a,vs,rfl,e1,r2⟩:=r1;exact⟨a,rfl,⟨vs,SqT.of e1⟩,o1.val s1 (ItOk.tup e1 r2 λ_=>trivial)⟩
 |_=>exact o1.elim
def iF (i:Int):Bool:=decide (-4611686018427387904<=i)&&decide (i<4611686018427387904)
def cN:List Dv->Hs->Rs Src
 | [.int j],h=>if iF j=true then .ok (cA 0 j) h else .bad
 |_,_=>.bad
def gR:List Dv->Hs->Rs Src
 | [.int i,.int j],h=>if iF i=true/\iF j=true then .ok (cA i j) h else .bad
 |_,_=>.bad
def aS (f:List Dv->Hs->Rs Src) (ms:M (List Dv)):M Src:=λρ h=>(ms ρ h).bind f
theorem ItOk.rng {μ:Nat->ah}{n:Nat}{H:Hp}(lo hi:Int):ItOk G μ n H (cA lo hi) (rS lo (hi - lo).toNat):=by
 intro k μ2 h2 H2 x2 s2;constructor
 ·intro hk d hd;cases hd;exact⟨hk,λx H' hy=>by obtain⟨rfl,rfl⟩:=hy;exact⟨Same.refl _,rfl⟩⟩
 ·intro hk _;exact pj hk.symm
variable{ms:M (List Dv)}
theorem jO (hg:Gl X "range") (hm:X.mg "range" = none) (ha:dY X G E [a] ms) (hs:aw [a] X.env=[(false,eval a X.env)]:=by rfl):jB X G E tg (.Call (.Name "range" p) [a] [] pos) (aS cN ms):=λhK=>
 PI.imp (RA hg hm (ha hK) hs) λσ H R ⟨μ,ρ,h,rs,s,o⟩=>kB rs s o λμ1 ds h1 vs H1 x1 rs1 s1 r1 o1=>by
  unfold cN at o1
  split at o1
  ·rename_i j
   split at o1
   ·rename_i hj;obtain⟨v,rfl,rv⟩:=sO r1;rw[RelD]at rv;subst rv;simp only[iF,dm,decide_eq_true_eq]at hj;refine⟨j,rfl,by omega,by omega, ?_⟩;have:=o1.val s1 (ItOk.rng (G:=G) (μ:=μ1) (n:=h1.length) (H:=H1) 0 j);rw[Int.sub_zero]at this;exact this
   ·exact o1.elim
  ·exact o1.elim
theorem A7 (hg:Gl X "range") (hm:X.mg "range" = none) (ha:dY X G E [a,b] ms) (hs:aw [a,b] X.env=[(false,eval a X.env),(false,eval b X.env)]:=by rfl) (hs2:aw [b] X.env=[(false,eval b X.env)]:=by rfl):jB X G E tg (.Call (.Name "range" p) [a,b] [] pos) (aS gR ms):=λhK=>
 PI.imp (RC hg hm (ha hK) hs hs2) λσ H R ⟨μ,ρ,h,rs,s,o⟩=>kB rs s o λμ1 ds h1 vs H1 x1 rs1 s1 r1 o1=>by
  unfold gR at o1
  split at o1
  ·rename_i i j
   split at o1
   ·rename_i hj;obtain⟨v,v',rfl,rv,rv'⟩:=sQ r1;rw[RelD]at rv rv';subst rv;subst rv';simp only[iF,dm,decide_eq_true_eq]at hj;exact⟨i,j,rfl,⟨by omega,by omega,by omega,by omega⟩,o1.val s1 (ItOk.rng (G:=G) (μ:=μ1) (n:=h1.length) (H:=H1) i j)⟩
   ·exact o1.elim
  ·exact o1.elim
end
def gH (src:Src) (st:cY) (body:MS):Nat->Nat->MS
 |0,_=>λρ h=>if src.fin h=true then .nx ρ h else .bad
 |f+1,k=>λρ h=>match src.get k h with
  |none=>.bad
  |some d=>match st d ρ with
   |none=>.bad
   |some ρ1=>match body ρ1 h with
    | .nx ρ2 h2=>gH src st body f (k+1) ρ2 h2
    | .ct ρ2 h2=>gH src st body f (k+1) ρ2 h2
    | .bk ρ2 h2=>.nx ρ2 h2
    |r=>r
def dN (mi:M Src) (st:cY) (body:MS):MS:=λρ h=>(mi ρ h).thenS λsrc h1=>gH src st body src.n 0 ρ h1
section
variable{X:Cx}{G:Cfg}{E:XK}{tg iter:bp}{body:List gy}{mi:M Src}{st:cY}{mb:MS}{pos:Pos}
theorem mG (hp:yi (model X.prog X.w) X.A X.env X.xe) (hc:X.calm=true) (hi:jB X G E tg iter mi) (hg:jN X G tg st) (hb:iN X G E body mb)
  (hs:∀x,foldedSetIterable iter X.env x=pure x:=by intro _;rfl):iM X G E (.For tg iter body [] pos) (dN mi st mb):=λhK=>PS.imp (RE hp hc (hi hK) (hg hK) (hb hK) hs) λD σ H ⟨μ,ρ,h,rs,s,o⟩=>by
 refine⟨μ,ρ,h,rs,s,(o.thenS (R:=ItOk G)).mono λJ H1 ⟨μ1,src,h1,x1,s1,ok,o1⟩=>?_⟩;refine⟨λi m σ H=>∃μ2 ρ2 h2,Ext μ1 h1.length H1 μ2 h2.length H/\RelS G μ2 h2.length H ρ2 σ/\Sim G μ2 h2 H/\i+m=src.n/\SOut G E μ2 h2.length H (gH src st mb m i ρ2 h2) D,⟨src.n,μ1,ρ,h1,Ext.refl,rs.mono x1,s1,Aq _,o1⟩, ?_⟩
 rintro i m σ2 H2 ⟨μ2,ρ2,h2,x2,rs2,s2,him,o2⟩
 cases m with
 |zero=>
  unfold gH at o2
  split at o2
  ·rename_i hf;exact .inl ⟨(ok i μ2 h2 H2 x2 s2).2 (by omega) hf,o2 μ2 H2 σ2 Ext.refl s2 rs2⟩
  ·exact o2.elim
 |succ m=>
  unfold gH at o2
  cases q:src.get i h2 with
  |none=>rw[q]at o2;exact o2.elim
  |some d=>
   rw[q]at o2;dsimp only at o2
   cases q2:st d ρ2 with
   |none=>rw[q2]at o2;exact o2.elim
   |some ρ3=>
    rw[q2]at o2;dsimp only at o2;obtain⟨go,yl⟩:=(ok i μ2 h2 H2 x2 s2).1 (by omega) d q;refine .inr ⟨go,λσ' H'=>∃μ3 ρ4 h4,Ext μ1 h1.length H1 μ3 h4.length H'/\RelS G μ3 h4.length H' ρ4 σ'/\Sim G μ3 h4 H'/\(i+1)+m=src.n/\SOut G E μ3 h4.length H' (gH src st mb m (i+1) ρ4 h4) D,λσ' H' z=>⟨m,jy m,z⟩,λx H' hy=>?_⟩;obtain⟨sm,rx⟩:=yl x H' hy;have xs:Ext μ2 h2.length H2 μ2 h2.length H':=Ext.same sm;refine⟨μ2,ρ2,h2.length,d,ρ3,rs2.mono xs,rx,q2,λσ3 rs3=>⟨μ2,ρ3,h2,rs3,s2.same sm, ?_⟩⟩;have step:∀ρ5 h5,SOut G E μ2 h2.length H2 (gH src st mb m (i+1) ρ5 h5) D->∀μ6 H6 σ6,Ext μ2 h2.length H' μ6 h5.length H6->Sim G μ6 h5 H6->RelS G μ6 h5.length H6 ρ5 σ6->
      ∃μ3 ρ4 h4,Ext μ1 h1.length H1 μ3 h4.length H6/\RelS G μ3 h4.length H6 ρ4 σ6/\Sim G μ3 h4 H6/\(i+1)+m=src.n/\SOut G E μ3 h4.length H6 (gH src st mb m (i+1) ρ4 h4) D:=
     λρ5 h5 o5 μ6 H6 σ6 x6 s6 rs6=>⟨μ6,ρ5,h5,(x2.trans xs).trans x6,rs6,s6,by omega,o5.ext (xs.trans x6)⟩
    cases q3:mb ρ3 h2 with
    |nx ρ5 h5=>rw[q3]at o2;exact step ρ5 h5 o2
    |ct ρ5 h5=>rw[q3]at o2;exact step ρ5 h5 o2
    |bk ρ5 h5=>rw[q3]at o2;exact λμ6 H6 σ6 x6 s6 rs6=>o2 μ6 H6 σ6 (xs.trans x6) s6 rs6
    |rt d5 h5=>rw[q3]at o2;exact λμ6 H6 σ6 x6 s6 rs6=>o2 μ6 H6 σ6 (xs.trans x6) s6 rs6
    |ex d5 h5=>rw[q3]at o2;exact λμ6 H6 σ6 x6 s6 rs6=>o2 μ6 H6 σ6 (xs.trans x6) s6 rs6
    |bad=>rw[q3]at o2;exact o2.elim
end
abbrev MC:=Ev->Hs->List Dv->Rs (Ev×List Dv)
def bB (me:M Dv):MC:=λρ h acc=>match me ρ h with
 | .ok d h1=>if acc.length<1000000 then .ok (ρ,acc++[d]) h1 else .bad
 |_=>.bad
def eE (src:Src) (st:cY) (test:M Bool) (inner:MC):Nat->Nat->MC
 |0,_=>λρ h acc=>if src.fin h=true then .ok (ρ,acc) h else .bad
 |f+1,k=>λρ h acc=>match src.get k h with
  |none=>.bad
  |some d=>match st d ρ with
   |none=>.bad
   |some ρ1=>match test ρ1 h with
    | .ok true h2=>match inner ρ1 h2 acc with
     | .ok r h3=>eE src st test inner f (k+1) r.1 h3 r.2
     |_=>.bad
    | .ok false h2=>eE src st test inner f (k+1) ρ1 h2 acc
    |_=>.bad
def kE (mi:M Src) (st:cY) (test:M Bool) (inner:MC):MC:=λρ h acc=>match mi ρ h with
 | .ok src h1=>eE src st test inner src.n 0 ρ h1 acc
 |_=>.bad
def cU:M Bool:=λ_ h=>.ok true h
def fT (cap:List (Option Nat)) (ρ:Ev):Ev:=cap.map λo=>match o with
 |some j=>(ρ[j]?).getD none
 |none=>none
def bL (mi:M Src) (cap:List (Option Nat)) (st:cY) (test:M Bool) (inner:MC):M (List Dv):=λρ h=>(mi ρ h).bind λsrc h1=>match eE src st test inner src.n 0 (fT cap ρ) h1 []with
 | .ok r h2=>.ok r.2 h2
 |_=>.bad
def sU (G:Cfg) (m:MC):TC:=λσ H vs K=>∃μ ρ h xs ρ' xs' h',RelS G μ h.length H ρ σ/\Sim G μ h H/\RelDL G μ h.length H xs vs/\m ρ h xs=.ok (ρ',xs') h' /\
 ∀μ' H' σ' vs',Ext μ h.length H μ' h'.length H'->Sim G μ' h' H'->RelS G μ' h'.length H' ρ' σ'->RelDL G μ' h'.length H' xs' vs'->K σ' H' vs'
section
variable{G:Cfg}
theorem IA {μ:Nat->ah}{n:Nat}{H:Hp}{ρ:Ev}{σ:St}(rs:RelS G μ n H ρ σ) (cap:List (Option Nat)):RelS G μ n H (fT cap ρ) (pQ cap σ):=⟨by simp[fT,pQ],λi d e=>by
 unfold fT at e;rw[df]at e
 cases q:cap[i]? with
 |none=>rw[q]at e;cases e
 |some o=>
  rw[q]at e
  cases o with
  |none=>cases e
  |some j=>
   have e':(ρ[j]?).getD none=some d:=by simpa using e
   have e2:ρ[j]?=some (some d):=by
    cases z:ρ[j]? with
    |none=>rw[z]at e';cases e'
    |some y=>rw[z]at e';simp at e';rw[e']
   obtain⟨v,e3,r⟩:=rs.at_ j d e2;refine⟨v, ?_,r⟩;unfold pQ;rw[df,q];simp[e3]⟩
theorem A8 {E:XK}{me:M Dv}{σ:St}{H:Hp}{vs:List V}{K:St->Hp->List V->Prop}(t:sU G (bB me) σ H vs K):vO (gZ G E me) σ H vs K:=by
 obtain⟨μ,ρ,h,xs,ρ',xs',h',rs,s,r,e,k⟩:=t;refine⟨μ,ρ,h,rs,s, ?_⟩;unfold bB at e
 cases q:me ρ h with
 |bad=>rw[q]at e;cases e
 |ex c h1=>rw[q]at e;cases e
 |ok d h1=>
  rw[q]at e;dsimp only at e
  split at e
  ·rename_i hl;cases e;intro μ1 H1 v x1 s1 r1;refine⟨?_,k μ1 H1 σ _ x1 s1 (rs.mono x1) ((RelDL.mono x1 _ _ r).append (RelDL.cons r1 RelDL.nil))⟩;rw[r.length];exact au hl (by decide)
  ·cases e
theorem IB {E:XK}{src:Src}{st:cY}{test:M Bool}{inner:MC}{J:It}{μ1:Nat->ah}{h1:Hs}{H1:Hp}{ρ ρ':Ev}{σ:St}{xs xs':List Dv}{vs:List V}{h':Hs}{K:St->Hp->List V->Prop}
  (ok:ItOk G μ1 h1.length H1 src J) (rs:RelS G μ1 h1.length H1 ρ σ) (s1:Sim G μ1 h1 H1) (r:RelDL G μ1 h1.length H1 xs vs) (e:eE src st test inner src.n 0 ρ h1 xs=.ok (ρ',xs') h')
  (k:∀μ' H' σ' vs',Ext μ1 h1.length H1 μ' h'.length H'->Sim G μ' h' H'->RelS G μ' h'.length H' ρ' σ'->RelDL G μ' h'.length H' xs' vs'->K σ' H' vs'):
  pR J (qB G st) (iB G E test) (sU G inner) K σ H1 vs:=by
 refine⟨λi m σ H vs=>∃μ2 ρ2 h2 xs2,Ext μ1 h1.length H1 μ2 h2.length H/\RelS G μ2 h2.length H ρ2 σ/\Sim G μ2 h2 H/\RelDL G μ2 h2.length H xs2 vs/\i+m=src.n/\eE src st test inner m i ρ2 h2 xs2=.ok (ρ',xs') h',⟨src.n,μ1,ρ,h1,xs,Ext.refl,rs,s1,r,Aq _,e⟩, ?_⟩
 rintro i m σ2 H2 vs2 ⟨μ2,ρ2,h2,xs2,x2,rs2,s2,r2,him,e2⟩
 cases m with
 |zero=>
  unfold eE at e2
  split at e2
  ·rename_i hf;cases e2;exact .inl ⟨(ok i μ2 _ H2 x2 s2).2 (by omega) hf,k μ2 H2 σ2 vs2 x2 s2 rs2 r2⟩
  ·cases e2
 |succ m=>
  unfold eE at e2
  cases q:src.get i h2 with
  |none=>rw[q]at e2;cases e2
  |some d=>
   rw[q]at e2;dsimp only at e2
   cases q2:st d ρ2 with
   |none=>rw[q2]at e2;cases e2
   |some ρ3=>
    rw[q2]at e2;dsimp only at e2;obtain⟨go,yl⟩:=(ok i μ2 h2 H2 x2 s2).1 (by omega) d q;refine .inr ⟨go,λσ' H' vs'=>∃μ3 ρ4 h4 xs4,Ext μ1 h1.length H1 μ3 h4.length H'/\RelS G μ3 h4.length H' ρ4 σ'/\Sim G μ3 h4 H'/\RelDL G μ3 h4.length H' xs4 vs'/\(i+1)+m=src.n/\eE src st test inner m (i+1) ρ4 h4 xs4=.ok (ρ',xs') h',
     λσ' H' vs' z=>⟨m,jy m,z⟩,λx H' hy=>?_⟩
    obtain⟨sm,rx⟩:=yl x H' hy;have xsm:Ext μ2 h2.length H2 μ2 h2.length H':=Ext.same sm;refine⟨μ2,ρ2,h2.length,d,ρ3,rs2.mono xsm,rx,q2,λσ3 rs3=>⟨μ2,ρ3,h2,rs3,s2.same sm, ?_⟩⟩
    cases q3:test ρ3 h2 with
    |bad=>rw[q3]at e2;cases e2
    |ex c h3=>rw[q3]at e2;cases e2
    |ok b h3=>
     rw[q3]at e2;intro μ4 H4 b' x4 s4 rb;have eb:b'=b:=rb;subst eb
     cases b' with
     |false=>rw[if_neg (by decide)];exact⟨μ4,ρ3,h3,xs2,(x2.trans xsm).trans x4,rs3.mono x4,s4,RelDL.mono (xsm.trans x4) _ _ r2,by omega,e2⟩
     |true=>
      rw[if_pos rfl];dsimp only at e2
      cases q4:inner ρ3 h3 xs2 with
      |bad=>rw[q4]at e2;cases e2
      |ex c h5=>rw[q4]at e2;cases e2
      |ok rr h5=>rw[q4]at e2;obtain⟨ρ5,xs5⟩:=rr;exact⟨μ4,ρ3,h3,xs2,ρ5,xs5,h5,rs3.mono x4,s4,RelDL.mono (xsm.trans x4) _ _ r2,q4,λμ6 H6 σ6 vs6 x6 s6 rs6 r6=>⟨μ6,ρ5,h5,xs5,((x2.trans xsm).trans x4).trans x6,rs6,s6,r6,by omega,e2⟩⟩
theorem VH {E:XK}{mi:M Src}{st:cY}{test:M Bool}{inner:MC}{σ:St}{H:Hp}{vs:List V}{K:St->Hp->List V->Prop}(t:sU G (kE mi st test inner) σ H vs K):HH (A6 G E mi) (qB G st) (iB G E test) (sU G inner) σ H vs K:=by
 obtain⟨μ,ρ,h,xs,ρ',xs',h',rs,s,r,e,k⟩:=t;refine⟨μ,ρ,h,rs,s, ?_⟩;unfold kE at e
 cases q:mi ρ h with
 |bad=>rw[q]at e;cases e
 |ex c h1=>rw[q]at e;cases e
 |ok src h1=>rw[q]at e;exact λμ1 H1 J x1 s1 ok=>IB ok (rs.mono x1) s1 (RelDL.mono x1 _ _ r) e λμ2 H2 σ2 vs2 x2=>k μ2 H2 σ2 vs2 (x1.trans x2)
def RL (G:Cfg):(Nat->ah)->Nat->Hp->List Dv->V->Prop:=λμ n H xs v=>∃p vs,v=.ref p/\H p=some (.lst vs)/\(∀i,i<n->μ i≠p)/\RelDL G μ n H xs vs
def wH (G:Cfg) (E:XK) (m:M (List Dv)):TE:=λσ H Q=>∃μ ρ h,RelS G μ h.length H ρ σ/\Sim G μ h H/\Out G E μ h.length H (m ρ h) (RL G) Q
def mH (X:Cx) (G:Cfg) (E:XK) (pe:bp) (m:M (List Dv)):Prop:=X.K=G.K->PE X pe (wH G E m)
theorem Sim.adopt {μ:Nat->ah}{h:Hs}{H:Hp}{p:ah}{ds:List Dv}{vs:List V}(s:Sim G μ h H) (e:H p=some (.lst vs)) (hq:∀i,i<h.length->μ i≠p) (r:RelDL G μ h.length H ds vs):
  Ext μ h.length H (λi=>if i=h.length then p else μ i) (h++[Ob.lst ds]).length H/\Sim G (λi=>if i=h.length then p else μ i) (h++[.lst ds]) H:=by
 have hl:(h++[Ob.lst ds]).length=h.length+1:=by simp
 have x:Ext μ h.length H (λi=>if i=h.length then p else μ i) (h++[Ob.lst ds]).length H:=⟨by omega,λi hi=>if_neg (ay hi),λa o _ e=>e⟩
 refine⟨x,λi j hi hj e=>?_,λi o q=>?_,s.tab⟩
 ·rw[hl]at hi hj
  by_cases h1:i=h.length <;> by_cases h2:j=h.length
  ·omega
  ·rw[if_pos h1,if_neg h2]at e;exact absurd e.symm (hq j (by omega))
  ·rw[if_neg h1,if_pos h2]at e;exact absurd e (hq i (by omega))
  ·rw[if_neg h1,if_neg h2]at e;exact s.inj i j (by omega) (by omega) e
 ·by_cases h1:i<h.length
  ·rw[du h1]at q;have r1:=s.ob i o q
   cases o with
   |lst xs=>obtain⟨ws,e1,r2⟩:=r1;exact⟨ws,by rw[if_neg (ay h1)];exact e1,RelDL.mono x _ _ r2⟩
   |clo k t=>rw[if_neg (ay h1)];exact r1.clo x
  ·rw[fh (by omega)]at q;have h2:i=h.length:=by have:=(bc.mp q).1;simp at this;omega
   subst h2;simp at q;subst q;exact⟨vs,by rw[if_pos rfl];exact e,RelDL.mono x _ _ r⟩
def bR (m:M (List Dv)):M Dv:=λρ h=>(m ρ h).bind λxs h1=>.ok (.ref h1.length) (h1++[.lst xs])
theorem IC {E:XK}{m:M (List Dv)}{σ:St}{H:Hp}{Q:VK}(t:gZ G E (bR m) σ H Q):wH G E m σ H Q:=by obtain⟨μ,ρ,h,rs,s,o⟩:=t;refine⟨μ,ρ,h,rs,s,(o.bind (R1:=RL G)).mono λv H1 ⟨μ1,xs,h1,x1,s1,⟨p,vs,ev,e1,hq,r1⟩,o1⟩=>?_⟩;subst ev;obtain⟨x2,s2⟩:=s1.adopt e1 hq r1;exact o1 _ _ _ x2 s2 ⟨by simp,by show V.ref p=V.ref (if h1.length=h1.length then p else μ1 h1.length);rw[if_pos rfl]⟩
theorem iG {X:Cx}{E:XK}{pe:bp}{m:M (List Dv)}(h:mH X G E pe m):aK X G E pe (bR m):=λhK=>PE.imp (h hK) λ_ _ _ t=>IC t
theorem A9 {E E':XK}{mi:M Src}{cap:List (Option Nat)}{st:cY}{test:M Bool}{inner:MC}{σ:St}{H:Hp}{Q:VK}(t:wH G E (bL mi cap st test inner) σ H Q):vQ (A6 G E mi) cap (qB G st) (iB G E' test) (sU G inner) σ H Q:=by
 obtain⟨μ,ρ,h,rs,s,o⟩:=t;refine⟨μ,ρ,h,rs,s,(o.bind (R1:=ItOk G)).mono λJ H1 ⟨μ1,src,h1,x1,s1,ok,o1⟩=>?_⟩
 cases q:eE src st test inner src.n 0 (fT cap ρ) h1 []with
 |bad=>rw[q]at o1;exact o1.elim
 |ex c h2=>rw[q]at o1;exact o1.elim
 |ok r h2=>rw[q]at o1;obtain⟨ρ',xs'⟩:=r;refine IB ok (IA (rs.mono x1) cap) s1 RelDL.nil q λμ2 H2 σ2 vs2 x2 s2 rs2 r2 p hp=>?_;exact o1 μ2 _ _ (x2.trans (Ext.same (cP hp))) (s2.same (cP hp)) ⟨p,vs2,rfl,cS,s2.not hp,RelDL.mono (Ext.same (cP hp)) _ _ r2⟩
end
section
variable{X:Cx}{G:Cfg}{E:XK}{elt tg iter tg' iter':bp}{ifs ifs':List bp}{sc:fq}{ps pos:Pos}{mi mi':M Src}{st st':cY}{test test':M Bool}{me:M Dv}{N:List Str}{cap:List (Option Nat)}
def qC (X:Cx) (G:Cfg) (ifs:List bp) (m:M Bool):Prop:=X.K=G.K->PTs X ifs (iB G E0 m)
theorem PTs.imp {Y:Cx}{ifs:List bp}{t t':TT}(h:PTs Y ifs t) (i:∀σ H Q,t' σ H Q->t σ H Q):PTs Y ifs t':=λpins s σ H Q I q=>h pins s σ H Q I (i σ H Q q)
theorem kX {Y:Cx}:qC Y G [] cU:=λ_=>PTs.imp HE λσ H Q ⟨μ,ρ,h,rs,s,o⟩=>o.val s rfl
theorem jC {Y:Cx}{c:bp}{m:M Bool}(h:gE Y G E0 c m):qC Y G [c] m:=λhK=>T7 (h hK)
theorem PCl.imp {Y:Cx}{D:ah}{m:Sem Unit}{t t':TC}(h:PCl Y D m t) (i:∀σ H xs K,t' σ H xs K->t σ H xs K):PCl Y D m t':=λpins s σ H xs K I a f q=>h pins s σ H xs K I a f (i σ H xs K q)
theorem gI (hc:X.calm=true) (C:CapOk X sc N cap) (hi:jB X G E tg iter mi) (hg:∀s H ex,jN (bV X sc N s H ex) G tg st) (htt:∀s H ex,qC (bV X sc N s H ex) G ifs test) (hel:∀s H ex,aK (bV X sc N s H ex) G E0 elt me)
  (hs:∀x,foldedSetIterable iter X.env x=pure x:=by intro _;rfl):mH X G E (.ListComp elt [⟨tg,iter,ifs,0⟩] sc ps) (bL mi cap st test (bB me)):=λhK=>
 PE.imp (HI hc C rfl (λit D env=>AO elt tg iter ifs sc ps (.ref it) D env) (hi hK) (λs H ex=>hg s H ex hK) (λs H ex=>htt s H ex hK) (λs H ex D=>PCl.imp (vP (hel s H ex hK)) λ_ _ _ _ t=>A8 t) hs) λ_ _ _ t=>A9 t
theorem ID (hc:X.calm=true) (C:CapOk X sc N cap) (hi:jB X G E tg iter mi) (hg:∀s H ex,jN (bV X sc N s H ex) G tg st) (htt:∀s H ex,qC (bV X sc N s H ex) G ifs test)
  (hi':∀s H ex,jB (bV X sc N s H ex) G E0 tg' iter' mi') (hg':∀s H ex,jN (bV X sc N s H ex) G tg' st') (htt':∀s H ex,qC (bV X sc N s H ex) G ifs' test') (hel:∀s H ex,aK (bV X sc N s H ex) G E0 elt me)
  (hs:∀x,foldedSetIterable iter X.env x=pure x:=by intro _;rfl) (hs':∀s H ex x,foldedSetIterable iter' (bV X sc N s H ex).env x=pure x:=by intro _ _ _ _;rfl):
  mH X G E (.ListComp elt [⟨tg,iter,ifs,0⟩,⟨tg',iter',ifs',0⟩] sc ps) (bL mi cap st test (kE mi' st' test' (bB me))):=λhK=>
 PE.imp (HI hc C rfl (inner:=λD env=>sC iter' (.ListComp elt [⟨tg,iter,ifs,0⟩,⟨tg',iter',ifs',0⟩] sc ps) 1 D env) (λit D env=>T9 elt tg iter tg' iter' ifs ifs' sc ps (.ref it) D env) (hi hK) (λs H ex=>hg s H ex hK) (λs H ex=>htt s H ex hK)
  (λs H ex D=>PCl.imp (UB (X:=bV X sc N s H ex) (D:=D) (gens:=[⟨tg,iter,ifs,0⟩,⟨tg',iter',ifs',0⟩]) (d:=1) rfl hc rfl (λit=>UA elt tg iter tg' iter' ifs ifs' sc ps (.ref it) D _) (hi' s H ex hK) (hg' s H ex hK) (htt' s H ex hK) (PCl.imp (vP (hel s H ex hK)) λ_ _ _ _ t=>A8 t) (hs' s H ex)) λ_ _ _ _ t=>VH t) hs) λ_ _ _ t=>A9 t
end
def dU (T:ah) (h:cq):Prop:=∃oT ts,h.get? T=some oT/\oT.data=.fields ts/\ts[3]?=some .none
structure Chg (fs:List ah) (e T:ah) (h h':cq):Prop where
 new:h.objs.size<=T
 keep:∀b o,b≠e->b∉fs->h.get? b=some o->h'.get? b=some o
 slot:∀b o,b≠e->h.get? b=some o->∃sl,h'.get? b=some { o with slots:=sl }
 tb:dU T h'
theorem VI (f:Array af->Array af) (o:Obj):(Obj.mapFields f o).dict=o.dict:=by
 unfold Obj.mapFields
 split <;> rfl
section
variable{M:zo}{A:cj}{E:af->ag->Prop}{s:ag}
theorem BA {a:ah}{o:Obj}{vs:Array af}{i:Nat}{v:af}{Q:Unit->ag->Prop}(e:s.heap.get? a=some o) (hd:o.data=.fields vs) (hi:i<vs.size)
  (k:∀h' o',ik a s.heap h'->h'.get? a=some o'->o'.cls=o.cls->o'.dict=o.dict->o'.data=.fields (vs.setIfInBounds i v)->Q () { s with heap:=h' }):wpAny M A (setField (.ref a) i v) Q E s:=
 have d':=vc hd (·.setIfInBounds i v)
 As e hd hi (k _ _ (nj ..) (nt _ e (Ba d')) (Obj.cls_mapFields ..) (VI ..) d')
theorem VJ {head v:af}{L:Int}{pl:List af}{Q:af->ag->Prop}(hpl:IsPlace pl) (k:∀ob ts,ob.data=.fields ts->3<ts.size->ob.isFreed=false->Q (.ref s.heap.objs.size) { s with heap:=s.heap.push ob }):
  wpAny M A (zj head v .none (rawInt L) .none pl) Q E s:=
 gn (k _ _ rfl (by simp only[av,bx,dg,oz];omega) rfl) (hpl.sizeOk5 ..)
theorem IE {e T:ah}{oe oT:Obj}{vs ts:Array af}{Q:Unit->ag->Prop}(he:s.heap.get? e=some oe) (hd:oe.data=.fields vs) (h1:vs[1]?=some (.ref T)) (hT:s.heap.get? T=some oT) (hdT:oT.data=.fields ts) (hs:3<ts.size)
  (k:∀h',ik T s.heap h'->dU T h'->Q () { s with heap:=h' }):wpAny M A (setFlight (.ref e) none) Q E s:=by
 refine ae (fv he hd h1 ?_);show wpAny M A (if(ic T != jm)=true then _ else _) Q E s;rw[if_pos (by simp)];exact BA hT hdT hs λh' o' sb g _ _ d=>k h' sb ⟨o',_,g,d,by rw[iw hs];rfl⟩
theorem IF {base:cq}{l:List Env}{a:ah}{o:Obj}{vs:Array af}(hl:s.heap.FunFrames base l) (e:s.heap.get? a=some o) (hd:o.data=.fields vs):a∉dH l:=λhm=>by obtain⟨_,o',e',nf⟩:=hl.mem hm;rw[e]at e';cases e';exact nf vs hd
theorem IG {base:cq}{env:Env}{outer:List Env}{L e:ah}{oe:Obj}{vs:Array af}{head a0:af}{nx:Bool}{Q:Unit->ag->Prop}(hfr:A.frames=some (env::outer)) (hl:s.heap.FunFrames base (env::outer)) (hf:env.frame=some L)
  (he:s.heap.get? e=some oe) (hd:oe.data=.fields vs) (hdn:oe.dict=none) (hsz:1<vs.size) (h0:vs[0]?=some a0)
  (k:∀h' T,Chg (dH (env::outer)) e T s.heap h'->dJ oe.cls e T a0 h'->Q () { s with heap:=h' }):
  wpAny M A (do let a <-frameOf env;let pl <-entryPlaceOf L nx;let b <-zj head a .none (rawInt L) .none pl;setField (.ref e) 1 b)
   (λ_ s'=>wpAny M A (setFlight (.ref e) none) Q E s') E s:=by
 have ne:=IF hl he hd;refine ae (wpAny_frameOf_fun hfr hl hf λg1 so=>ae (wpAny_entryPlaceOf λpl hpl=>ae (VJ hpl λob ts dt hts nf=>?_)));have e1:g1.get? e=some oe:=(so.2.1 e ne).trans he;have lt:e<g1.objs.size:=ar e1;refine BA (s:={ s with heap:=g1.push ob }) (ak _ e1) hd hsz λg2 oe2 sb2 ge c2 dn2 d2=>?_;have gT:g2.get? g1.objs.size=some ob:=sb2.extBut _ _ (ji lt) (bg _ nf);refine IE (s:={ s with heap:=g2 }) ge d2 (T:=g1.objs.size) (by rw[iw hsz]) gT dt hts λg3 sb3 tb=>?_;have kp:∀b o,b≠e->g1.get? b=some o->g3.get? b=some o:=λb o hb q=>sb3.extBut _ _ (ay (ar q)) (sb2.extBut _ _ hb (ak _ q));refine k g3 g1.objs.size ⟨pj so.1.symm,λb o hb hn q=>kp b o hb ((so.2.1 b hn).trans q),λb o hb q=>?_,tb⟩ ⟨oe2,_,sb3.extBut _ _ (ay lt) ge,c2,d2, ?_, ?_,dn2.trans hdn⟩
 ·obtain⟨sl,q'⟩:=so.2.2 b o q;exact⟨sl,kp b _ hb q'⟩
 ·rw[Array.getElem?_setIfInBounds_ne (by decide)];exact h0
 ·rw[iw hsz]
theorem VL {base:cq}{env:Env}{outer:List Env}{L e:ah}{oe:Obj}{vs:Array af}{a0:af}{Q:Unit->ag->Prop}(hfr:A.frames=some (env::outer)) (hl:s.heap.FunFrames base (env::outer)) (hf:env.frame=some L)
  (he:s.heap.get? e=some oe) (hd:oe.data=.fields vs) (hdn:oe.dict=none) (h0:vs[0]?=some a0) (h1:vs[1]?=some .none)
  (k:∀h' T,Chg (dH (env::outer)) e T s.heap h'->dJ oe.cls e T a0 h'->Q () { s with heap:=h' }):
  wpAny M A (noteFrame (.ref e) env) (λ_ s'=>wpAny M A (setFlight (.ref e) none) Q E s') E s:=by
 unfold noteFrame;rw[hf];refine ae (fv he hd h1 ?_);exact IG hfr hl hf he hd hdn (dj.mp h1).1 h0 k
theorem VM {base:cq}{env:Env}{outer:List Env}{L e T:ah}{C a0:af}{Q:Unit->ag->Prop}(hfr:A.frames=some (env::outer)) (hl:s.heap.FunFrames base (env::outer)) (hf:env.frame=some L)
  (hx:dJ C e T a0 s.heap) (ht:dU T s.heap) (hne:T≠e)
  (k:∀h' T',s.heap.objs.size<=T'->(∀b o,b≠e->b≠T->b∉dH (env::outer)->s.heap.get? b=some o->h'.get? b=some o)->(∀b o,b≠e->b≠T->s.heap.get? b=some o->∃sl,h'.get? b=some { o with slots:=sl })->
   dJ C e T' a0 h'->dU T h'->dU T' h'->Q () { s with heap:=h' }):
  wpAny M A (noteFrame (.ref e) env) (λ_ s'=>wpAny M A (setFlight (.ref e) none) Q E s') E s:=by
 obtain⟨oe,vs,he,rfl,hd,h0,h1,hdn⟩:=hx;obtain⟨oT,ts,hT,hdT,h3⟩:=ht;have l3:3<ts.size:=(dj.mp h3).1;have nT:=IF hl hT hdT;unfold noteFrame;rw[hf];refine ae (fv he hd h1 ?_);rw[if_pos (by simp)];refine ae (fv hT hdT h3 ?_);rw[if_neg (by simp[rawInt])];refine ae (BA hT hdT l3 λg o' sb gT _ _ dT=>?_);have hl':g.FunFrames base (env::outer):=hl.of_keeps λb o q nf=>⟨o,sb.extBut _ _ (λz=>by subst z;rw[hT]at q;cases q;exact nf ts hdT) q,rfl⟩
 refine IG (s:={ s with heap:=g }) hfr hl' hf (sb.extBut _ _ (cw hne) he) hd hdn (dj.mp h1).1 h0 λh' T' c x=>?_;refine k h' T' (by rw[<-sb.1];exact c.new) (λb o n1 n2 n3 q=>c.keep b o n1 n3 (sb.extBut _ _ n2 q)) (λb o n1 n2 q=>c.slot b o n1 (sb.extBut _ _ n2 q)) x ⟨_,_,c.keep T _ hne nT gT,dT, ?_⟩ c.tb;rw[iw l3]
end
theorem BB {P:bj}{w:cm}{H:Hp}{h:cq}{a:ah}{o:HO}(x:ObjOk P w H h a o):∃ob,h.get? a=some ob:=by
 cases o with
 |lst xs=>obtain⟨_,_,_,_,e⟩:=x;exact⟨_,e⟩
 |tup xs=>obtain⟨_,_,_,ob,e,_⟩:=x;exact⟨_,e⟩
 |dK kvs=>obtain⟨_,_,_,_,o,_,_,e,_⟩:=x;exact⟨_,e⟩
 |dT kvs=>obtain⟨_,_,_,_,o,_,_,e,_⟩:=x;exact⟨_,e⟩
 |set S n=>obtain⟨o,_,_,_,e,_⟩:=x;exact⟨_,e⟩
 |ins C dx fs=>obtain⟨_,_,_,e,_⟩:=x;exact⟨_,e⟩
 |own y=>exact x
 |xd fs=>obtain⟨_,⟨_,_,_,e,_⟩,_⟩:=x;exact⟨_,e⟩
 |rng lo hi=>obtain⟨_,_,_,e⟩:=x;exact⟨_,e⟩
 |frz ob u=>obtain⟨e,_⟩:=x;exact⟨_,e⟩
 |tbl ps=>exact⟨_,(show h.get? a=some _ from x)⟩
 |met f y=>exact⟨_,(show h.get? a=some _ from x)⟩
 |ext φ=>obtain⟨_,e,_⟩:=x;exact e
def wI (base:cq) (H:Hp) (C:af) (e:ah):Prop:=∃T a0,H e=some (.ext (dJ C e T a0))/\H T=some (.ext (dU T))/\base.get? e=none/\T≠e
def sV (e:ah) (H H':Hp):Prop:=∀b o,b≠e->H b=some o->H' b=some o
theorem VN {C a0:af}{e T:ah}{h1 h2:cq}(x:dJ C e T a0 h1) (k:∀o,h1.get? e=some o->h2.get? e=some o):dJ C e T a0 h2:=by obtain⟨oe,vs,he,r⟩:=x;exact⟨oe,vs,k oe he,r⟩
theorem VO {T:ah}{h1 h2:cq}(x:dU T h1) (k:∀o,h1.get? T=some o->h2.get? T=some o):dU T h2:=by obtain⟨oe,vs,he,r⟩:=x;exact⟨oe,vs,k oe he,r⟩
theorem IH {P:bj}{w:cm}{H:Hp}{h:cq}{C a0:af}{e T:ah}(x:dJ C e T a0 h):ObjOk P w H h e (.ext (dJ C e T a0)):=⟨x,(let ⟨oe,_,he,_⟩:=x;⟨oe,he⟩),λ_ _ y k=>VN y k⟩
theorem wJ {P:bj}{w:cm}{H:Hp}{h:cq}{T:ah}(x:dU T h):ObjOk P w H h T (.ext (dU T)):=⟨x,(let ⟨oe,_,he,_⟩:=x;⟨oe,he⟩),λ_ _ y k=>VO y k⟩
section
variable{P:bj}{w:cm}{M:zo}{A:cj}{E:af->ag->Prop}{s:ag}{H:Hp}{base:cq}{env:Env}{outer:List Env}{L e:ah}{C:af}
theorem BC {Q:Unit->ag->Prop}(hfr:A.frames=some (env::outer)) (hl:s.heap.FunFrames base (env::outer)) (hf:env.frame=some L) (hok:HOk P w H s.heap) (hfree:∀b∈dH (env::outer),H b=none) (fl:wI base H C e)
  (k:∀h' H',Un (dH (env::outer)) [] H H' s.heap h'->HOk P w H' h'->wI base H' C e->sV e H H'->Q () { s with heap:=h' }):
  wpAny M A (noteFrame (.ref e) env) (λ_ s'=>wpAny M A (setFlight (.ref e) none) Q E s') E s:=by
 obtain⟨T,a0,he,hT,hb,hne⟩:=fl;have xe:dJ C e T a0 s.heap:=(show ObjOk P w H s.heap e _ from hok e _ he).1;have xt:dU T s.heap:=(show ObjOk P w H s.heap T _ from hok T _ hT).1;refine VM hfr hl hf xe xt hne λh' T' hnew keep slot x' t0 t'=>?_;have nT':H T'=none:=hok.fresh hnew;have eT':T'≠e:=(fH he nT').symm;have TT':T'≠T:=(fH hT nT').symm;have sx:sV e H (aQ (aQ H e (.ext (dJ C e T' a0))) T' (.ext (dU T'))):=λb o hbe q=>by rw[bN (fH q nT'),bN hbe];exact q
 have ee:aQ (aQ H e (.ext (dJ C e T' a0))) T' (.ext (dU T')) e=some (.ext (dJ C e T' a0)):=by rw[bN (cw eT'),cS]
 refine k h' (aQ (aQ H e (.ext (dJ C e T' a0))) T' (.ext (dU T'))) ?_ ?_ ⟨T',a0,ee,cS,hb,eT'⟩ sx
 ·have free:∀b o,s.heap.get? b=some o->H b=none->aQ (aQ H e (.ext (dJ C e T' a0))) T' (.ext (dU T')) b=none:=λb o q n=>by have h1:b≠T':=ay (au (ar q) hnew);have h2:b≠e:=(fH he n).symm;rw[bN h1,bN h2];exact n
  refine⟨λb o q n hb _=>keep b o (fH he n).symm (fH hT n).symm hb q,λb o q n _ _=>slot b o (fH he n).symm (fH hT n).symm q,λb o q n _=>free b o q n,λb o q _=>?_,λb xs q=>?_,λb o u q=>?_,λb ps q=>?_⟩
  ·by_cases h1:b=e
   ·subst h1;obtain⟨oe,_,z,_⟩:=x';exact⟨oe,z⟩
   ·by_cases h2:b=T
    ·subst h2;obtain⟨oe,_,z,_⟩:=t0;exact⟨oe,z⟩
    ·obtain⟨sl,z⟩:=slot b o h1 h2 q;exact⟨_,z⟩
  ·exact sx b _ (mX q he (by intro z;cases z)) q
  ·exact sx b _ (mX q he (by intro z;cases z)) q
  ·exact⟨#[],by rw[sx b _ (mX q he (by intro z;cases z)) q];simp⟩
 ·intro a o q
  by_cases h1:a=T'
  ·subst h1;rw[cS]at q;cases q;exact wJ t'
  ·rw[bN h1]at q
   by_cases h2:a=e
   ·subst h2;rw[cS]at q;cases q;exact IH x'
   ·rw[bN h2]at q
    by_cases h3:a=T
    ·subst h3;rw[hT]at q;cases q;exact wJ t0
    ·have nf:a∉dH (env::outer):=λz=>by rw[hfree a z]at q;cases q
     refine(hok a o q).stay (λb u hb z=>?_) (λb z=>sx b _ (mX z he (by intro y;cases y)) z) λb xs z=>sx b _ (mX z he (by intro y;cases y)) z
     rcases hb with rfl|hb
     ·exact keep b u h2 h3 nf z
     ·exact keep b u (mX hb he (by intro y;cases y)) (mX hb hT (by intro y;cases y)) (λy=>by rw[hfree b y]at hb;cases hb) z
theorem II {Q:Unit->ag->Prop}{h0:cq}{args:List af}(hfr:A.frames=some (env::outer)) (hl:h0.FunFrames base (env::outer)) (hf:env.frame=some L) (hok:HOk P w H h0) (hfree:∀b∈dH (env::outer),H b=none) (hsb:∀b o,base.get? b=some o->h0.get? b=some o)
  (mx:Heap.MadeExcOf h0 s.heap e C args)
  (k:∀h' H',Un (dH (env::outer)) [] H H' h0 h'->HOk P w H' h'->wI base H' C e->Same H H'->Q () { s with heap:=h' }):
  wpAny M A (noteFrame (.ref e) env) (λ_ s'=>wpAny M A (setFlight (.ref e) none) Q E s') E s:=by
 obtain⟨t,he,hnt,ht⟩:=mx.there;have hbn:base.get? e=none:=by
  cases q:base.get? e with
  |none=>rfl
  |some o=>have:=hsb e o q;rw[mx.new]at this;cases this
 have nH:H e=none:=by
  cases q:H e with
  |none=>rfl
  |some o=>
   have z:∀a o,H a=some o->h0.get? a≠none:=λa o q n=>by
    have lt:=hok.lt q;have:=(hok a o q)
    have ex:∃ob,h0.get? a=some ob:=BB this;obtain⟨ob,eo⟩:=ex;rw[n]at eo;cases eo
   exact absurd mx.new (z e o q)
 have hl1:s.heap.FunFrames base (env::outer):=hl.of_keeps λb o hb _=>⟨o,mx.keeps b o hb,rfl⟩
 refine VL hfr hl1 hf he rfl rfl (a0:=.ref t) rfl rfl λh' T c x=>?_;have ne_e:∀b o,h0.get? b=some o->b≠e:=λb o q z=>by subst z;rw[mx.new]at q;cases q
 have lt0:∀b o,h0.get? b=some o->b<T:=λb o q=>au (ar (mx.keeps b o q)) c.new;have nT:H T=none:=by
  cases q:H T with
  |none=>rfl
  |some o=>obtain⟨ob,eo⟩:=BB (hok T o q);exact absurd (lt0 T ob eo) (gu _)
 have eT:T≠e:=ji (au (ar he) c.new);have sm:Same H (aQ (aQ H e (.ext (dJ C e T (.ref t)))) T (.ext (dU T))):=λb o q=>by rw[bN (fH q nT),bN (fH q nH)];exact q
 refine k h' (aQ (aQ H e (.ext (dJ C e T (.ref t)))) T (.ext (dU T))) ?_ ?_ ⟨T,.ref t,by rw[bN (cw eT),cS],cS,hbn,eT⟩ sm
 ·refine⟨λb o q n hb _=>c.keep b o (ne_e b o q) hb (mx.keeps b o q),λb o q n _ _=>c.slot b o (ne_e b o q) (mx.keeps b o q),λb o q n _=>?_,λb o q _=>?_,λb xs q=>sm b _ q,λb o u q=>sm b _ q,λb ps q=>⟨#[],by rw[sm b _ q];simp⟩⟩
  ·rw[bN (ay (lt0 b o q)),bN (ne_e b o q)];exact n
  ·obtain⟨sl,z⟩:=c.slot b o (ne_e b o q) (mx.keeps b o q);exact⟨_,z⟩
 ·intro a o q
  by_cases h1:a=T
  ·subst h1;rw[cS]at q;cases q;exact wJ c.tb
  ·rw[bN h1]at q
   by_cases h2:a=e
   ·subst h2;rw[cS]at q;cases q;exact IH x
   ·rw[bN h2]at q;have nf:a∉dH (env::outer):=λz=>by rw[hfree a z]at q;cases q
    refine(hok a o q).stay (λb u hb z=>?_) (λb z=>sm b _ z) λb xs z=>sm b _ z
    rcases hb with rfl|hb
    ·exact c.keep b u (ne_e b u z) nf (mx.keeps b u z)
    ·exact c.keep b u (ne_e b u z) (λy=>by rw[hfree b y]at hb;cases hb) (mx.keeps b u z)
end
def aZ (P:bj) (w:cm) (base:cq):lY:=λouter H s E u s'=>∃e C H',u=.ref e/\s'.os=s.os/\rz s'.gens/\Un (dH outer) [] H H' s.heap s'.heap/\HOk P w H' s'.heap/\wI base H' C e/\E u none H'
def VP (X:Cx) (E:XK):Prop:=∀(pins:List (ah×Obj)) (σ:St) (H:Hp) (s:ag) (h':cq) (e:ah) (C:af) (args:List af),Inv X pins σ H s->Heap.MadeExcOf s.heap h' e C args->
 (∀H',Same H H'->(∃T a0,H' e=some (.ext (dJ C e T a0)))->E (.ref e) none H')->X.xe (.ref e) { s with heap:=h' }
structure Good (X:Cx) (G:Cfg) (E:XK) (k:Nat):Prop where
 calm:X.calm=true
 room:Room k X.A
 K:X.K=G.K
 pas:AG (aZ X.prog X.w X.base) X E
 own:yi (model X.prog X.w) X.A X.env X.xe
 rais:VP X E
def BD (E:XK):Prop:=∀e H H',sV e H H'->(∃C T a0 T' a0',H e=some (.ext (dJ C e T a0))/\(∃h,dJ C e T a0 h)/\H' e=some (.ext (dJ C e T' a0')))->E (.ref e) none H->E (.ref e) none H'
section
variable{P:bj}{w:cm}{K:aq}{mg:Str->Option af}{base:cq}{N:List Str}{qual:Str}{scope:fq}{f:ah}{cdv:af}{A:cj}{outer:List Env}{s0:ag}{H0:Hp}{E0:XK}{G:Cfg}{E:XK}{k:Nat}
theorem wK (hr:Room k (A.deeper (envOfC qual scope s0.heap.objs.size f cdv))) (hK:K=G.K) (hE:∀u H',E u none H'->E0 u none H') (hF:BD E):
  Good (eQ (aZ P w base) P w K mg base N qual scope f cdv A outer s0 H0 E0) G E k where
 calm:=rfl
 room:=hr
 K:=hK
 own:=Aj
 pas:=by intro pins σ H s u s' I ⟨e,C,H',eu,os,bare,un,hok,fl,he⟩;subst eu;have I':=I.call' os un hok bare (λb z=>absurd z (by simp));refine ae (BC (P:=P) (w:=w) (H:=H') (base:=base) I'.ok.frames I'.stack rfl hok I'.stkFree fl λh'' H'' un2 hok2 fl2 sx=>?_);have I2:=I'.call (h':=h'') (g':=s'.gens) (d':=s'.drawn) (t':=s'.toks) un2 hok2 I'.bare (λb z=>absurd z (by simp));obtain⟨T,a0,h1,_⟩:=id fl;obtain⟨T2,a2,h3,_⟩:=id fl2;have xe1:dJ C e T a0 s'.heap:=(show ObjOk P w H' s'.heap e _ from hok e _ h1).1;have:E (.ref e) none H'':=hF e H' H'' sx ⟨C,T,a0,T2,a2,h1,⟨_,xe1⟩,h3⟩ he;exact⟨e,C,H'',rfl,I2.os,I2.bare,I2.base,hok2,fl2,hE _ _ this⟩
 rais:=by intro pins σ H s h' e C args I mx he;refine ae (II (P:=P) (w:=w) (H:=H) (base:=base) I.ok.frames I.stack rfl I.hok I.stkFree I.bk mx λh'' H'' un2 hok2 fl2 sm=>?_);have I2:=I.call (h':=h'') (g':=s.gens) (d':=s.drawn) (t':=s.toks) un2 hok2 I.bare (λb z=>absurd z (by simp));obtain⟨T2,a2,h3,_⟩:=id fl2;exact⟨e,C,H'',rfl,I2.os,I2.bare,I2.base,hok2,fl2,hE _ _ (he H'' sm ⟨T2,a2,h3⟩)⟩
theorem dO {X:Cx}{sc:fq}{N':List Str}{s:ag}{H:Hp}{ex:List ah}(g:Good X G E k):Good (bV X sc N' s H ex) G L2.E0 k where
 calm:=g.calm
 room:=g.room
 K:=g.K
 own:=PassesOwn.never
 pas:=λ_ _ _ _ _ _ _ ⟨_,_,_,_,_,_,_,_,_,z⟩=>z
 rais:=λ_ _ H s h' e C args I mx he=>by
  have nH:H e=none:=by
   cases q:H e with
   |none=>rfl
   |some o=>obtain⟨ob,eo⟩:=BB (I.hok e o q);rw[mx.new]at eo;cases eo
  exact he (aQ H e (.ext (dJ C e 0 .none))) (cP nH) ⟨0,.none,cS⟩
def bH (n:Nat) (ds:List Dv):Ev:=ds.map some++br (n - ds.length) none
def bK:Sr->Rs Dv
 | .rt d h=>.ok d h
 | .nx _ h=>.ok .non h
 | .ex c h=>.ex c h
 |_=>.bad
def aV (np n:Nat) (mb:MS):List Dv->Hs->Rs Dv:=λds h=>if ds.length=np then bK (mb (bH n ds) h)else .bad
def cH (G:Cfg) (F:List Dv->Hs->Rs Dv):Sp:=λvs H Q E=>∃μ h ds,RelDL G μ h.length H ds vs/\Sim G μ h H/\Out G E μ h.length H (F ds h) (RelD G) Q
theorem wL {μ:Nat->ah}{n:Nat}{H:Hp}{ds:List Dv}{vs:List V}(r:RelDL G μ n H ds vs) (N:List Str):RelS G μ n H (bH N.length ds) (start N vs):=by
 have hl:=r.length;refine⟨by simp[bH,start,hl],λi d e=>?_⟩;unfold bH at e
 by_cases hi:i<ds.length
 ·rw[du (by simpa using hi),df]at e
  cases q:ds[i]? with
  |none=>rw[q]at e;cases e
  |some d'=>rw[q]at e;cases e;obtain⟨v,e1,r1⟩:=r.get q;refine⟨v, ?_,r1⟩;unfold start;rw[du (by simp;omega),df,e1];rfl
 ·rw[fh (by simpa using hi),qv]at e
  split at e <;> cases e
def EB (G:Cfg) (μ0:Nat->ah) (n0:Nat) (H0:Hp) (r:Sr):XK:=λu _ H'=>∃c h' μ',r=.ex c h'/\Ext μ0 n0 H0 μ' h'.length H'/\Sim G μ' h' H'/\vS G H' c u
theorem Sim.sameX {μ:Nat->ah}{h:Hs}{H H':Hp}{e:ah}(s:Sim G μ h H) (sx:sV e H H') (hx:∃φ,H e=some (.ext φ)):Sim G μ h H'/\∀(n:Nat),Ext μ n H μ n H':=by
 obtain⟨φ,hx⟩:=hx;have x:∀n:Nat,Ext μ n H μ n H':=λn=>⟨ao _,λ_ _=>rfl,λa o i q=>sx a o (by rintro rfl;rw[hx]at q;cases q;exact i) q⟩
 refine⟨⟨s.inj,λi o q=>?_,s.tab.keep λa o _ n2 q=>sx a o (by rintro rfl;rw[hx]at q;cases q;exact n2 _ rfl) q⟩,x⟩;have r:=s.ob i o q
 cases o with
 |lst xs=>obtain⟨vs,e1,r1⟩:=r;exact⟨vs,sx _ _ (mX e1 hx (by intro z;cases z)) e1,RelDL.mono (x _) _ _ r1⟩
 |clo k t=>exact r.clo (x _)
theorem wM {μ0:Nat->ah}{n0:Nat}{H0:Hp}{r:Sr}:BD (EB G μ0 n0 H0 r):=by intro e H H' sx ⟨C,T,a0,T',a0',h1,⟨hp,hx⟩,h3⟩ ⟨c,h',μ',er,x,s,e',φ,eu,h4,h5⟩;cases eu;obtain⟨s2,x2⟩:=s.sameX sx ⟨_,h1⟩;refine⟨c,h',μ',er,x.trans (x2 _),s2,e,_,rfl,h3,λhh z=>?_⟩;rw[h1]at h4;cases h4;obtain⟨o,g1,g2⟩:=h5 hp hx;obtain⟨oe,vs,g3,g4,_⟩:=hx;rw[g3]at g1;cases g1;obtain⟨oe',vs',g5,g6,_⟩:=z;exact⟨oe',g5,by rw[g6,<-g4,g2]⟩
theorem dQ {x qual:Str}{st:gy}{fd:bq}{ps:List Str}{mb:MS}(Fn:Fun K x qual st f fd) (S:FnScope N ps (aO st)) (hK:K=G.K)
  (hbody:∀(cdv:af) (A:cj) (outer:List Env) (s:ag) (H:Hp) (E₀ E:XK),Good (eQ (aZ P w base) P w K mg base N qual (aO st) f cdv A outer s H E₀) G E k->iN (eQ (aZ P w base) P w K mg base N qual (aO st) f cdv A outer s H E₀) G E (eZ st) mb):
  FnOk P w K mg base (aZ P w base) (k+1) f fd ps (cH G (aV ps.length N.length mb)):=by
 obtain⟨oc,od,kV,doc,pm,an,cdv,ct,osl,rfl,lk,hcd⟩:=Fn.ex;have hlen:∀vs H Q E,cH G (aV ps.length N.length mb) vs H Q E->vs.length=ps.length:=λvs H Q E ⟨μ,h,ds,r,sm,o⟩=>by
  rw[r.length];unfold aV at o
  by_cases hd:ds.length=ps.length
  ·exact hd
  ·rw[if_neg hd]at o;exact o.elim
 refine vE lk hcd S hlen λA outer s H vs Q E hr hsp=>?_;have hl:=hlen _ _ _ _ hsp;obtain⟨μ,h,ds,r,sm,o⟩:=hsp;have o':Out G E μ h.length H (bK (mb (bH N.length ds) h)) (RelD G) Q:=by unfold aV at o;rw[if_pos (by rw[<-r.length];exact hl)]at o;exact o
 refine⟨_,hbody cdv A outer s H E (EB G μ h.length H (mb (bH N.length ds) h)) (wK hr hK (λu H' ⟨c,h',μ',er,x,s',fl⟩=>?_) wM) hK, ?_⟩
 ·rw[er]at o';exact o' μ' H' u x s' fl
 ·refine⟨μ,bH N.length ds,h,wL r N,sm, ?_⟩
  cases q:mb (bH N.length ds) h with
  |bad=>rw[q]at o';exact o'.elim
  |bk ρ h'=>rw[q]at o';exact o'.elim
  |ct ρ h'=>rw[q]at o';exact o'.elim
  |rt d h'=>rw[q]at o';exact o'
  |nx ρ h'=>rw[q]at o';exact λμ' H' σ' x' s' rs'=>o' μ' H' .non x' s' rfl
  |ex c h'=>exact λμ' H' u x' s' fl=>⟨c,h',μ',rfl,x',s',fl⟩
theorem IJ {X:Cx}{F:List Dv->Hs->Rs Dv}{ps:List Str}{fd:bq}{x:Str}{p pos:Pos}{e:bp}{es:List bp}{ms:M (List Dv)}{j:Nat}(g:Good X G E k) (Fn:FnOk X.prog X.w X.K X.mg X.base (aZ X.prog X.w X.base) j f fd ps (cH G F)) (hj:j<=k)
  (hg:Gl X x) (hm:X.mg x=some (.ref f)) (hk:ju X.K (.ref f)=true) (hb:Binds X.K fd ps []) (ha:dY X G E (e::es) ms)
  (hdb:(x==("__debug__" : Str))=false:=by decide) (he:aw (e::es) X.env=(false,eval e X.env)::aw es X.env:=by rfl) (hpl:(backTo pos (aw es X.env)).any (·.1)=false:=by rfl):
  aK X G E (.Call (.Name x p) (e::es) [] pos) (aF F ms):=λhK=>
 PE.imp (GC Fn (g.room.mono hj) hg hm hk hb .nil g.pas (ha hK) hdb he hpl) λσ H Q ⟨μ,ρ,h,rs,s,o⟩=>kB rs s o λμ1 ds1 h1 vs H1 x1 rs1 s1 r1 o1=>by rw[ow];exact⟨μ1,h1,ds1,r1,s1,o1⟩
end
abbrev wN:List af:=[.type "ValueError",.type "Exception",.type "BaseException",.type "object"]
theorem VQ {K:aq}{mg:Str->Option af}{base:cq}(p:bj) (m:Mod K mg base):∃dP mb,PySem.W.TopRead p dP mg mb base:=by
 obtain⟨mb,hb,hbb⟩:=m.blt;obtain⟨o,es,ep,ho,hd,hk,hf⟩:=id m.glob;refine⟨es.toList.filterMap λe=>match e.key with
  | .str n _=>some n
  |_=>none,mb,m.glob,hb,m.nolimit,hbb,λx _ hx _ _ _=>?_⟩
 rw[<-hf x]
 cases q:nsFind es x with
 |none=>rfl
 |some v=>
  exfalso
  apply hx
  unfold nsFind findBy at q;obtain⟨e,he,_⟩:=Option.map_eq_some_iff.mp q;have h1:=Array.find?_some he;have h2:=Array.mem_of_find?_eq_some he;obtain⟨n,t,hn⟩:=hk e h2;rw[hn]at h1;have h3:n=x:=by simpa[Value.isStr]using h1
  exact gq.mpr ⟨e,by simpa using h2,by rw[hn,h3]⟩
section
variable{X:Cx}{G:Cfg}{E:XK}{k:Nat}{x:Str}{C:ah}{np cpos pos:Pos}{e:bp}{es:List bp}{t:TA}{ms:M (List Dv)}{c:Nat}
theorem VR (g:Good X G E k) (hg:Gl X x) (hm:X.mg x=some (.ref C)) (hns:ur X.K da x=some (some (.ref C))) (hx:ub X.K C wN "ValueError.__new__" = true) (ha:PA X (e::es) t) (hd:(x==("__debug__" : Str))=false:=by decide)
  (he:aw (e::es) X.env=(false,eval e X.env)::aw es X.env:=by rfl) (hpl:(backTo cpos (aw es X.env)).any (·.1)=false:=by rfl):
  PS X (.Raise (some (.Call (.Name x np) (e::es) [] cpos)) none pos) (λ_ σ H=>t σ H λvs H1=>vs.length<=ck/\∀e H',Same H1 H'->(∃T a0,H' e=some (.ext (dJ (.ref C) e T a0)))->E (.ref e) none H'):=by
 intro pins s σ H D I h;obtain⟨bm,N,nm,q,bs,hdct,sn,sub,ab,col,dd,k0,k1,k2,k3,k5,mN,hC,hN,hni,T⟩:=(let ⟨_,_,tr⟩:=VQ X.prog I.ok.mod;PySem.W.own_of_in I.ok.mod.kin tr hns hx).obj;refine wpAny_Raise_call_subU (C:=C) (nm:=nm) (q:=q) (N:=N) (bs:=bs) (bm:=bm) (hdct:=hdct) (sn:=sn) (sub:=sub) (ab:=ab) (col:=col) (dd:=dd) (k0:=k0) (k1:=k1) (k2:=k2) (k3:=k3) (k5:=k5)
  wk (by decide) wk (mN:=mN) (T.hasType (by decide)) (I.ok.hd g.calm) (by rw[he];show(false||(backTo cpos (aw es X.env)).any (·.1))=false;rw[hpl];rfl) hni (uZ I hg hm ⟨rfl, ?_⟩ hd)
 have hh:=ha cpos pins s σ H _ I h;rw[he]at hh ⊢;refine Calls.evalArgs_plain (aW hh λus s2 ⟨vs,H2,I2,r,hz,w⟩=>⟨rfl,by rw[<-r.length];exact hz,I2.bk _ _ hC,hN.keeps I2.bk,T.keeps I2.bk,λh' e' mx=>?_⟩);exact g.rais pins σ H2 s2 h' e' _ _ I2 mx λH' sm z=>w e' H' sm z
theorem VS {H:Hp}{e:ah}(hc:C=G.cl c) (z:∃T a0,H e=some (.ext (dJ (.ref C) e T a0))):vS G H c (.ref e):=by obtain⟨T,a0,z⟩:=z;exact⟨e,_,rfl,z,λh ⟨oe,vs,h1,h2,_⟩=>⟨oe,h1,by rw[h2,hc]⟩⟩
def qD (c:Nat) (ms:M (List Dv)):MS:=λρ h=>(ms ρ h).thenS λds h1=>if ds.length<=1000 then .ex c h1 else .bad
theorem IK (g:Good X G E k) (hg:Gl X x) (hm:X.mg x=some (.ref C)) (hns:ur X.K da x=some (some (.ref C))) (hx:ub X.K C wN "ValueError.__new__" = true) (hc:C=G.cl c) (ha:dY X G E (e::es) ms) (hd:(x==("__debug__" : Str))=false:=by decide)
  (he:aw (e::es) X.env=(false,eval e X.env)::aw es X.env:=by rfl) (hpl:(backTo cpos (aw es X.env)).any (·.1)=false:=by rfl):
  iM X G E (.Raise (some (.Call (.Name x np) (e::es) [] cpos)) none pos) (qD c ms):=λhK=>PS.imp (VR g hg hm hns hx (ha hK) hd he hpl) λD σ H ⟨μ,ρ,h,rs,s,o⟩=>
 ⟨μ,ρ,h,rs,s,(o.thenS (R:=RelDL G)).mono λvs H1 ⟨μ1,ds,h1,x1,s1,r1,o1⟩=>by
  split at o1
  ·rename_i hl;refine⟨by rw[r1.length];exact cu hl (by decide),λe' H' sm z=>?_⟩;exact o1 μ1 H' (.ref e') (Ext.same sm) (s1.same sm) (VS hc z)
  ·exact o1.elim⟩
end
open PySem.W
section
variable{prog:bj}{w:cm}{A:cj}{E:af->ag->Prop}{h:cq}{g:Array GenState}{d:Drawn}{t:Nat}{os:OsState}{a C:ah}{o:Obj}{K:Frag}
structure ExK (K:Frag) (C:ah):Prop where
 ga:findIn K (.ref C) "__getattribute__" = some (some (.builtin "BaseException.__getattribute__"))
 ng:findIn K (.ref C) "__getattr__" = some none
 cl:findIn K (.ref C) "__class__" = some (some (.builtin "object.__class__"))
 ob:mroIn K C (.type "object")=some true
 be:subIn K (.ref C) (.type "BaseException")=some true
 se:kitCls K (.ref C) (.ref C)=some true
 lk:∃oc od cd osl,K.lookup C=some ⟨oc,od,.cls cd,osl⟩
theorem kindGa:builtinKind "BaseException.__getattribute__" = some .slot/\splitId "BaseException.__getattribute__" = some ("BaseException","__getattribute__"):=by decide +kernel
theorem VT:(uh "BaseException.__getattribute__" == uh "object.__getattribute__")=false:=by decide +kernel
section
variable{R:yj->ag->Prop}{s:ag}
theorem VU {M:zo}{n:af}{Q:Unit->ag->Prop}(X:K.In s.heap) (I:InstAt s.heap a o C none) (k:ExK K C) (hq:Q () s):wpAny M A (checkBuiltinCall "BaseException.__getattribute__" ⟨[.ref a,n],[]⟩) Q E s:=by
 have one:Looks M s.heap (isInstance (.ref a) (.type "BaseException")) true:=I.type.andThen (looks_subIn X k.be);have two:=F.args_bexc_ga (.ref a) n;obtain⟨hh,g,d,t,os⟩:=s;unfold checkBuiltinCall;rw[kindGa.1,kindGa.2];refine ae (one.at ?_)
 repeat (first|assumption|wp_step)
theorem VV {n:Tok}(X:K.In s.heap) (I:InstAt s.heap a o C none) (k:ExK K C) (hq:R (.ok (.ret (.ref C))) s):codeAny (model prog w) A (.call (.builtin "BaseException.__getattribute__") ⟨[.ref a,.str "__class__" n],[]⟩) R s:=by
 refine ve F.excAttr_ValueError.ga.plain F.entry_bexc_ga (VU X I k ?_);have own:=I.type (M:=model prog w);have entry:=looks_findIn (M:=model prog w) X k.cl;have of_get:=F.slot_gs_get.lookup;have of_set:=F.slot_gs_set.lookup;have kind:=F.typeOf_object_class;have kindIs:s.TypeIs (.builtin "object.__class__") "getset_descriptor" := kind;obtain⟨hh,g,d,t,os⟩:=s
 repeat (any_goals (first|assumption|with_reducible refine own.at ?_|with_reducible refine entry.at ?_|wp_step))
 exact class_get (s:=⟨hh,g,d,t,os⟩) X I k.ob (by repeat (any_goals (first|assumption|wp_step)))
end
theorem VW {Q:Option af->ag->Prop}(X:K.In h) (I:InstAt h a o C none) (k:ExK K C) (hq:Q (some (.ref C)) ⟨h,g,d,t+1,os⟩):
  wpAny (model prog w) A (getAttr? (.ref a) "__class__") Q E ⟨h,g,d,t,os⟩:=by
 have own:=I.type (M:=model prog w);have first_:=looks_findIn (M:=model prog w) X k.ga;have then_:=looks_findIn (M:=model prog w) X k.ng;have bound:=F.excAttr_ValueError.ga.bind (.ref a);have other:=VT;have apart:(onTheHeap (ic C)&&uh "BaseException.__getattribute__" == uh "object.__getattribute__")=false:=by rw[other];rfl
 unfold getAttr? getAttrBy?
 repeat (any_goals (first|assumption|with_reducible refine own.at ?_|with_reducible refine first_.at ?_|with_reducible refine then_.at ?_|wp_step))
 exact VV X I k (by repeat (any_goals (first|assumption|wp_step)))
def VX (a C:ah) (h:cq):Prop:=∃o,InstAt h a o C none
theorem VY (k:ExK K C):KitX K (.ref a) (.ref C) (VX a C) where
 ty:=λ_ _ _ ⟨_,I⟩=>I.type
 it:=λ_ _ X _=>(kit_cls X k.se).2.1
 ne:=λh tp dd its n sl X htp=>by
  cases z:(ic C==ic tp)with
  |false=>rfl
  |true=>
   obtain rfl:C=tp:=by simpa using z
   obtain⟨oc,od,cd,osl,lk⟩:=k.lk;have:=X _ _ lk;rw[htp]at this;simp at this
 ca:=λ{prog w A E Q s} X ⟨o,I⟩ hq=>by obtain⟨hh,g,d,t,os⟩:=s;exact VW X I k hq
end
inductive Ty where
 |non|bl|int|str|tup|lst|dct|exc (c:Nat)
def fU:Dv->Hs->Option Ty
 | .non,_=>some .non
 | .bl _,_=>some .bl
 | .int _,_=>some .int
 | .str _,_=>some .str
 | .tup _,_=>some .tup
 | .ref i,h=>match getL h i with
  |some _=>some .lst
  |none=>none
 | .edc,_=>some .dct
 | .exc c,_=>some (.exc c)
 | .scr,_=>none
def kY (cl:Nat->ah):Ty->af
 | .non=>.type "NoneType"
 | .bl=>.type "bool"
 | .int=>.type "int"
 | .str=>.type "str"
 | .tup=>.type "tuple"
 | .lst=>.type "list"
 | .dct=>.type "dict"
 | .exc c=>.ref (cl c)
def bC (f:Ty->Option Bool) (d:Dv) (h:Hs):Rs Dv:=match fU d h with
 |some ty=>match f ty with
  |some b=>.ok (.bl b) h
  |none=>.bad
 |none=>.bad
section
variable{X:Cx}{G:Cfg}{E:XK}{pins:List (ah×Obj)}{σ:St}{H:Hp}{s:ag}
theorem IL {μ:Nat->ah}{h:Hs}{d:Dv}{v:V}{u:af}{ty:Ty}(I:Inv X pins σ H s) (sm:Sim G μ h H) (r:RelD G μ h.length H d v) (ru:RelV v u) (e:fU d h=some ty) (hex:∀c,ty=.exc c->ExK X.K (G.cl c)):
  ∃P,KitX X.K u (kY G.cl ty) P/\P s.heap/\u≠.builtin "__main__.__loader__#opaque":=by
 cases d with
 |non=>cases e;rw[RelD]at r;subst r;cases ru;exact⟨_,kitx_none,trivial,λz=>nomatch z⟩
 |bl b=>cases e;rw[RelD]at r;subst r;cases ru;exact⟨_,kitx_bool,trivial,λz=>nomatch z⟩
 |int i=>cases e;rw[RelD]at r;subst r;obtain⟨t,rfl⟩:=ru;exact⟨_,kitx_int,trivial,λz=>nomatch z⟩
 |str i=>cases e;rw[RelD]at r;subst r;obtain⟨t,rfl⟩:=ru;exact⟨_,kitx_str,trivial,λz=>nomatch z⟩
 |tup ds=>
  cases e;obtain⟨a,vs,rfl,ea,_⟩:=r;cases ru;obtain⟨_,_,_,o,h1,h2,_⟩:=(show ObjOk X.prog X.w H s.heap a (.tup vs) from I.hok a _ ea)
  exact⟨_,kitx_tuple,⟨o,h1,h2⟩,λz=>nomatch z⟩
 |ref i=>
  dsimp only[fU]at e
  cases g:getL h i with
  |none=>rw[g]at e;cases e
  |some xs=>
   rw[g]at e;cases e;obtain⟨_,rfl⟩:=r;cases ru;obtain⟨vs,ea,_⟩:=sm.ob i _ (cM g);obtain⟨_,_,n,_,h1⟩:=(show ObjOk X.prog X.w H s.heap (μ i) (.lst vs) from I.hok _ _ ea)
   exact⟨_,kitx_list,⟨_,h1,rfl⟩,λz=>nomatch z⟩
 |edc=>
  cases e;obtain⟨a,rfl,ea⟩:=r;cases ru;obtain⟨_,_,vs,_,p⟩:=(show ObjOk X.prog X.w H s.heap a (.dK []) from I.hok a _ ea)
  obtain⟨o,es,ep,h1,h2,_⟩:=p;exact⟨_,kitx_dict,⟨o,h1,h2.1⟩,λz=>nomatch z⟩
 |exc c=>
  cases e;obtain⟨a,o,uo,rfl,ea,hc,hdn,vs,hd⟩:=r;cases ru;obtain⟨h1,_⟩:=(show ObjOk X.prog X.w H s.heap a (.frz o uo) from I.hok a _ ea)
  refine⟨_,VY (hex c rfl),⟨o,h1,hc, ?_, ?_⟩,λz=>nomatch z⟩
  ·unfold notCls;rw[hd]
  ·rw[hdn];trivial
 |scr=>cases e
end
section
variable{X:Cx}{G:Cfg}{E:XK}{a b:bp}{ma:M Dv}{p pos:Pos}{f:Ty->Option Bool}
theorem IM:dv "isinstance" = some (.builtin "isinstance"):=by decide +kernel
def IP (G:Cfg) (f:Ty->Option Bool) (c:V):List V->Hp->VK->Prop:=λxs H Q=>∃μ h d v ty bb,xs=[v,c]/\Sim G μ h H/\RelD G μ h.length H d v/\fU d h=some ty/\f ty=some bb/\Q (.bl bb) H
theorem VZ {c:V}{u:af}(hc:(∃T,c=.ty T)∨∃C,c=.ref C) (rc:RelV c u) (hf:∀ty bb,f ty=some bb->kitOne X.K (kY G.cl ty) u=some bb) (hex:∀c bb,f (.exc c)=some bb->ExK X.K (G.cl c)):CallR X (.builtin "isinstance") (IP G f c):=by
 intro pins s σ H xs us Q I rv ⟨μ,h,d,v,ty,bb,e1,sm,r,et,ef,q⟩;subst e1;obtain⟨u1,u2,rfl,r1,r2⟩:=pP rv;have e2:u2=u:=by rcases hc with⟨T,rfl⟩|⟨C,rfl⟩ <;> (cases rc;cases r2;rfl)
 subst e2;obtain⟨P,Z,hP,hne⟩:=IL I sm r r1 et (λc z=>by subst z;exact hex c bb ef);exact kia_one Z I.kIn hP (hf ty bb ef) hne λtk=>⟨.bl bb,H,I.tok _,rfl,q⟩
theorem oS {x:Str}{T:String}(hg:Gl X x) (hm:X.mg x=none) (hv:dv x=some (.type T)) (hn:x ≠ "__name__" := by decide) (hd:(x==("__debug__" : Str))=false:=by decide):PE X (.Name x pos) (tC (.ty T)):=λpins s σ H Q I h=>oO I hg hm hv ⟨.ty T,H,I,rfl,h⟩ hn hd
theorem qE {c:V}{u:af}(hg:Gl X "isinstance") (hm:X.mg "isinstance" = none) (ha:aK X G E a ma) (hb:PE X b (tC c)) (hc:(∃T,c=.ty T)∨∃C,c=.ref C) (rc:RelV c u)
  (hf:∀ty bb,f ty=some bb->kitOne G.K (kY G.cl ty) u=some bb) (hex:∀c bb,f (.exc c)=some bb->ExK G.K (G.cl c))
  (he:aw [a,b] X.env=[(false,eval a X.env),(false,eval b X.env)]:=by rfl) (he2:aw [b] X.env=[(false,eval b X.env)]:=by rfl):
  aK X G E (.Call (.Name "isinstance" p) [a,b] [] pos) (m1 (bC f) ma):=λhK=>
 PE.imp (rW (VZ (G:=G) (f:=f) hc rc (by rw[hK];exact hf) (by rw[hK];exact hex)) hg hm IM (iA (ha hK) (iA hb jL he2) (by rw[he,he2])) (by decide) (by decide) (by rw[he,he2]) (by rw[he2];rfl))
  λσ H Q ⟨μ,ρ,h,rs,s,o⟩=>eR rs s o λμ1 d h1 v H1 x1 rs1 s1 r1 o1=>by
   show IP G f c [v,c] H1 Q;unfold bC at o1
   cases q:fU d h1 with
   |none=>rw[q]at o1;exact o1.elim
   |some ty=>
    rw[q]at o1;dsimp only at o1
    cases q2:f ty with
    |none=>rw[q2]at o1;exact o1.elim
    |some bb=>rw[q2]at o1;exact⟨μ1,h1,d,v,ty,bb,rfl,s1,r1,q,q2,o1.val s1 rfl⟩
def IQ (G:Cfg) (f:Ty->Option Bool) (cs:List V):List V->Hp->VK->Prop:=λxs H Q=>∃μ h d v ty bb tp,xs=[v,.ref tp]/\H tp=some (.tup cs)/\Sim G μ h H/\RelD G μ h.length H d v/\fU d h=some ty/\f ty=some bb/\Q (.bl bb) H
theorem V0 {cs:List V}{us:List af}(hcs:∀us',Vals cs us'->us'=us) (hf:∀ty bb,f ty=some bb->kitAny X.K (kY G.cl ty) us=some bb) (hex:∀c bb,f (.exc c)=some bb->ExK X.K (G.cl c)):CallR X (.builtin "isinstance") (IQ G f cs):=by
 intro pins s σ H xs uu Q I rv ⟨μ,h,d,v,ty,bb,tp,e1,etp,sm,r,et,ef,q⟩;subst e1;obtain⟨u1,u2,rfl,r1,r2⟩:=pP rv;cases r2;obtain⟨_,its,rits,o,h1,h2,_,n,h3⟩:=(show ObjOk X.prog X.w H s.heap tp (.tup cs) from I.hok tp _ etp)
 have eits:=hcs its rits;subst eits;obtain⟨oc,od,odata,osl⟩:=o
 cases h2;cases h3
 obtain⟨P,Z,hP,hne⟩:=IL I sm r r1 et (λc z=>by subst z;exact hex c bb ef);exact kia_tup Z I.kIn hP h1 (hf ty bb ef) hne λtk=>⟨.bl bb,H,I.tok _,rfl,q⟩
theorem V1 {cs:List V}{us:List af}{bs:List bp}{kt:Nat}{tpos:Pos}(hg:Gl X "isinstance") (hm:X.mg "isinstance" = none) (ha:aK X G E a ma) (hb:PA X bs (λ_ H Q=>Q cs H)) (hl:cs.length<=ck) (hcs:∀us',Vals cs us'->us'=us)
  (hf:∀ty bb,f ty=some bb->kitAny G.K (kY G.cl ty) us=some bb) (hex:∀c bb,f (.exc c)=some bb->ExK G.K (G.cl c))
  (he:aw [a,.Tuple bs kt tpos] X.env=[(false,eval a X.env),(false,eval (.Tuple bs kt tpos) X.env)]:=by rfl) (he2:aw [.Tuple bs kt tpos] X.env=[(false,eval (.Tuple bs kt tpos) X.env)]:=by rfl):
  aK X G E (.Call (.Name "isinstance" p) [a,.Tuple bs kt tpos] [] pos) (m1 (bC f) ma):=λhK=>
 PE.imp (rW (V0 (G:=G) (f:=f) hcs (by rw[hK];exact hf) (by rw[hK];exact hex)) hg hm IM (iA (ha hK) (iA (GB hb) jL he2) (by rw[he,he2])) (by decide) (by decide) (by rw[he,he2]) (by rw[he2];rfl))
  λσ H Q ⟨μ,ρ,h,rs,s,o⟩=>eR rs s o λμ1 d h1 v H1 x1 rs1 s1 r1 o1=>by
   refine⟨hl,λtp htp=>?_⟩;show IQ G f cs [v,.ref tp] (aQ H1 tp (.tup cs)) Q;unfold bC at o1
   cases q:fU d h1 with
   |none=>rw[q]at o1;exact o1.elim
   |some ty=>
    rw[q]at o1;dsimp only at o1
    cases q2:f ty with
    |none=>rw[q2]at o1;exact o1.elim
    |some bb=>rw[q2]at o1;have x2:Ext μ1 h1.length H1 μ1 h1.length (aQ H1 tp (.tup cs)):=Ext.same (cP htp);exact⟨μ1,h1,d,v,ty,bb,tp,rfl,cS,s1.same (cP htp),RelD.mono x2 _ _ r1,q,q2,o1 μ1 _ _ x2 (s1.same (cP htp)) rfl⟩
end
def nJ:Dv->Option Bool
 | .bl b=>some b
 |_=>none
theorem BE {G:Cfg}{μ:Nat->ah}{n:Nat}{H:Hp}:∀{xs:List Dv}{vs:List V}{bs:List Bool},RelDL G μ n H xs vs->bP nJ xs=some bs->vs=bs.map V.bl
 | [],vs,bs,r,e=>by cases e;rw[RelDL]at r;exact r
 |x::xs,vs,bs,r,e=>by
  rw[RelDL]at r;obtain⟨v,rr,rfl,r1,r2⟩:=r;unfold bP at e
  cases x with
  |bl b=>
   dsimp only[nJ]at e
   cases q:bP nJ xs with
   |none=>rw[q]at e;cases e
   |some zs=>rw[q]at e;cases e;rw[RelD]at r1;subst r1;rw[BE r2 q];rfl
  |_=>cases e
section
variable{X:Cx}{pins:List (ah×Obj)}{σ:St}{H:Hp}{s:ag}
theorem V2 (bs:List Bool):(ba bs.length).all (λi=>bs.getD i false)=bs.all id:=by
 rw[fw,fy,fy];constructor
 ·intro h b hb;obtain⟨i,hi,rfl⟩:=uc.mp hb;simpa[nv,hi]using h i (bw.mpr hi)
 ·intro h i hi;have hi:=bw.mp hi;simpa[nv,hi]using h _ (fz hi)
theorem V3 (bs:List Bool):(ba bs.length).any (λi=>bs.getD i false)=bs.any id:=by
 rw[fw,qw,qw];constructor
 ·rintro ⟨i,hi,h⟩
  have hi:=bw.mp hi;exact⟨bs[i],fz hi,by simpa[nv,hi]using h⟩
 ·rintro ⟨b,hb,h⟩
  obtain⟨i,hi,rfl⟩:=uc.mp hb;exact⟨i,bw.mpr hi,by simpa[nv,hi]using h⟩
theorem V4 {bs:List Bool}{its:List af}(rv:Vals (bs.map V.bl) its) {i:Nat}{v:af}(e:its.toArray[i]?=some v):v=.bool (bs.getD i false):=by
 have hl:=rv.length;rw[bh]at hl;have e':its[i]?=some v:=by simpa using e
 have hi:i<its.length:=(bc.mp e').1;have hb:i<bs.length:=by omega
 obtain⟨u,e2,r⟩:=rv.get (i:=i) (x:=V.bl bs[i]) (by simp[hb]);rw[e']at e2;cases e2;have hg:bs.getD i false=bs[i]:=by simp[nv,hb]
 rw[hg];exact r
theorem IS {bs:List Bool}{its:List af}{A:cj}(rv:Vals (bs.map V.bl) its):TruthOf X.prog X.w A (λi v=>its.toArray[i]?=some v) (λi=>bs.getD i false):=by intro i v s Q E e q;rw[V4 rv e];exact lg q
theorem IT {o:Obj}{h':cq}{tk:Nat}(I:Inv X pins σ H s) (k:∀b u,b∉[s.heap.objs.size]->(s.heap.push o).get? b=some u->h'.get? b=some u):Inv X pins σ H { s with heap:=h',toks:=tk }:=by have I1:Inv X pins σ H { s with heap:=s.heap.push o }:=I.kept (t':=s.toks) λb u e=>ak _ e;obtain⟨f0,f1,f2,f3,f4,f5⟩:=I.fpOk (ao s.heap.objs.size) I.fresh;exact I1.turned (t':=tk) (λb u hb e=>k b u (by simpa using hb) e) f0 f1 f3 f4 f5
theorem V5 (hc:X.calm=true):CallR X (.builtin "all") (λxs H Q=>∃(p:ah) (bs:List Bool),xs=[.ref p]/\H p=some (.lst (bs.map V.bl))/\Q (.bl (bs.all id)) H):=by
 intro pins s σ H xs us Q I rv ⟨p,bs,e,hp,q⟩;subst e;obtain⟨u,rfl,ru⟩:=jK rv;cases ru;obtain⟨its,rits,pl,hz⟩:=I.list (SqL.of hp);have hn:its.toArray.size=bs.length:=by have:=rits.length;simp at this ⊢;omega
 have ne:p≠s.heap.objs.size:=ay (I.hok.lt hp);refine call_all_walk (sd pl.isList ⟨_,_,_,_,_,_,λi=>bs.getD i false,rfl,Bj (A:=X.A.in1) (show X.A.in1.handled=none from I.ok.hd hc) _ p ne its.toArray,⟨⟨_,bg _ rfl,rfl,rfl⟩,pl.isList.push _⟩,IS rits,λh' tk k=>?_⟩);rw[hn,V2];exact⟨.bl _,H,(IT (tk:=tk) I k:Inv X pins σ H { s with heap:=h',toks:=tk }),rfl,q⟩
theorem V6 (hc:X.calm=true):CallR X (.builtin "any") (λxs H Q=>∃(p:ah) (bs:List Bool),xs=[.ref p]/\H p=some (.lst (bs.map V.bl))/\Q (.bl (bs.any id)) H):=by
 intro pins s σ H xs us Q I rv ⟨p,bs,e,hp,q⟩;subst e;obtain⟨u,rfl,ru⟩:=jK rv;cases ru;obtain⟨its,rits,pl,hz⟩:=I.list (SqL.of hp);have hn:its.toArray.size=bs.length:=by have:=rits.length;simp at this ⊢;omega
 have ne:p≠s.heap.objs.size:=ay (I.hok.lt hp);refine call_any_walk (sd pl.isList ⟨_,_,_,_,_,_,λi=>bs.getD i false,rfl,Bj (A:=X.A.in1) (show X.A.in1.handled=none from I.ok.hd hc) _ p ne its.toArray,⟨⟨_,bg _ rfl,rfl,rfl⟩,pl.isList.push _⟩,IS rits,λh' tk k=>?_⟩);rw[hn,V3];exact⟨.bl _,H,(IT (tk:=tk) I k:Inv X pins σ H { s with heap:=h',toks:=tk }),rfl,q⟩
end
section
variable{X:Cx}{G:Cfg}{E:XK}{e:bp}{ml:M (List Dv)}{x:Str}{p pos:Pos}{bid T:String}
def mL (f:List Dv->Hs->Rs Dv) (ml:M (List Dv)):M Dv:=λρ h=>(ml ρ h).bind f
def IU (G:Cfg) (r:List V->Hp->VK->Prop) (f:List Dv->Hs->Rs Dv):Prop:=∀(E:XK) (μ:Nat->ah) (h:Hs) (H:Hp) (xs:List Dv) (a:ah) (vs:List V) (Q:VK),Sim G μ h H->H a=some (.lst vs)->RelDL G μ h.length H xs vs->Out G E μ h.length H (f xs h) (RelD G) Q->r [.ref a] H Q
theorem V7 {r:List V->Hp->VK->Prop}{f:List Dv->Hs->Rs Dv}(hd:IU G r f) {σ:St}{H:Hp}{Q:VK}(t:gZ G E (mL f ml) σ H Q):vF r (GA (wH G E ml) F9) σ H Q:=by obtain⟨μ,ρ,h,rs,s,o⟩:=t;refine⟨μ,ρ,h,rs,s,(o.bind (R1:=RL G)).mono λv H1 ⟨μ1,xs,h1,x1,s1,⟨a,vs,ev,ea,_,r1⟩,o1⟩=>?_⟩;subst ev;exact hd E μ1 h1 H1 xs a vs Q s1 ea r1 o1
theorem IV {r:List V->Hp->VK->Prop}{f:List Dv->Hs->Rs Dv}(hc:CallR X (.builtin bid) r) (hd:IU G r f) (hg:Gl X x) (hm:X.mg x=none) (hv:dv x=some (.builtin bid)) (ha:mH X G E e ml) (hn:x ≠ "__name__" := by decide) (hdb:(x==("__debug__" : Str))=false:=by decide)
  (he:aw [e] X.env=[(false,eval e X.env)]:=by rfl):aK X G E (.Call (.Name x p) [e] [] pos) (mL f ml):=λhK=>
 PE.imp (rW hc hg hm hv (iA (ha hK) jL he) hn hdb he rfl) λ_ _ _ t=>V7 hd t
theorem V8:dv "all" = some (.builtin "all"):=by decide +kernel
theorem V9:dv "any" = some (.builtin "any"):=by decide +kernel
def jP (xs:List Dv) (h:Hs):Rs Dv:=match bP nJ xs with
 |some bs=>.ok (.bl (bs.all id)) h
 |none=>.bad
def sW (xs:List Dv) (h:Hs):Rs Dv:=match bP nJ xs with
 |some bs=>.ok (.bl (bs.any id)) h
 |none=>.bad
theorem sX (hc:X.calm=true) (hg:Gl X "all") (hm:X.mg "all" = none) (ha:mH X G E e ml) (he:aw [e] X.env=[(false,eval e X.env)]:=by rfl):aK X G E (.Call (.Name "all" p) [e] [] pos) (mL jP ml):=
 IV (V5 hc) (λE μ h H xs a vs Q s ea r o=>by
  unfold jP at o
  cases q:bP nJ xs with
  |none=>rw[q]at o;exact o.elim
  |some bs=>rw[q]at o;exact⟨a,bs,rfl,by rw[ea,BE r q],o.val s rfl⟩) hg hm V8 ha (by decide) (by decide) he
theorem WA (hc:X.calm=true) (hg:Gl X "any") (hm:X.mg "any" = none) (ha:mH X G E e ml) (he:aw [e] X.env=[(false,eval e X.env)]:=by rfl):aK X G E (.Call (.Name "any" p) [e] [] pos) (mL sW ml):=
 IV (V6 hc) (λE μ h H xs a vs Q s ea r o=>by
  unfold sW at o
  cases q:bP nJ xs with
  |none=>rw[q]at o;exact o.elim
  |some bs=>rw[q]at o;exact⟨a,bs,rfl,by rw[ea,BE r q],o.val s rfl⟩) hg hm V9 ha (by decide) (by decide) he
end
section
variable{X:Cx}{G:Cfg}{E:XK}{o e i:bp}{mo me mi:M Dv}{ml:M (List Dv)}{pos apos cpos:Pos}
theorem WB {H:Hp}{a:ah}{vs:List V}(e:H a=some (.lst vs)):vH X.K "list" (.ref a) H:=.inl ⟨rfl,vs,SqL.of e⟩
def jQ (o d:Dv) (h:Hs):Rs Dv:=match o with
 | .ref j=>match getL h j with
  |some xs=>if xs.length<1000000 then .ok .non (h.set j (.lst (xs++[d])))else .bad
  |none=>.bad
 |_=>.bad
def gS (o:Dv) (h:Hs):Bool:=match o with
 | .ref j=>(getL h j).isSome
 |_=>false
def cO (mo me:M Dv):M Dv:=λρ h=>(mo ρ h).bind λx h1=>if gS x h1=true then(me ρ h1).bind λd h2=>jQ x d h2 else .bad
theorem wO {μ:Nat->ah}{h:Hs}{H:Hp}{x:Dv}{v:V}(s:Sim G μ h H) (r:RelD G μ h.length H x v) (e:gS x h=true):vH X.K "list" v H:=by
 cases x with
 |ref j=>obtain⟨xs,q⟩:=xh.mp (show(getL h j).isSome=true from e);obtain⟨vs,ea,_⟩:=s.ob j _ (cM q);obtain⟨_,rfl⟩:=r;exact WB ea
 |_=>cases e
theorem kF {y:Str}{np:Pos}(ho:aK X G E (.Name y np) mo) (he:aK X G E e me) (hs:aw [e] X.env=[(false,eval e X.env)]:=by rfl) (hl:(apos.endLine==cpos.line)=true:=by rfl):aK X G E (.Call (.Attribute (.Name y np) "append" apos) [e] [] cpos) (cO mo me):=λhK=>
 PE.imp (vI md xa xb G2 (ho hK) (iA (he hK) jL hs) rfl (by rw[hs];rfl) hl hs rfl) λσ H Q ⟨μ,ρ,h,rs,s,oo⟩=>eR rs s oo λμ1 x h1 vx H1 x1 rs1 s1 r1 o1=>by
  split at o1
  ·rename_i hl;refine⟨wO s1 r1 hl,eR rs1 s1 o1 λμ2 d h2 vd H2 x2 rs2 s2 r2 o2=>?_⟩
   cases x with
   |ref j=>
    dsimp only[jQ]at o2
    cases q:getL h2 j with
    |none=>rw[q]at o2;exact o2.elim
    |some xs=>
     rw[q]at o2;dsimp only at o2
     split at o2
     ·rename_i hz;obtain⟨vs,ea,ra⟩:=s2.ob j _ (cM q);obtain⟨_,rfl⟩:=RelD.mono x2 _ _ r1;obtain⟨x3,s3⟩:=s2.write (cM q) (ra.append (RelDL.cons r2 RelDL.nil));exact⟨_,vs,vd,rfl,rfl,ea,by rw[ra.length];exact au hz (by decide),o2 μ2 _ _ x3 s3 rfl⟩
     ·exact o2.elim
   |_=>exact o2.elim
  ·exact o1.elim
end
section
variable{X:Cx}{G:Cfg}{E:XK}{e i:bp}{mo me mi:M Dv}{ml:M (List Dv)}{pos apos cpos np:Pos}{y:Str}
def wQ (o:Dv) (ys:List Dv) (h:Hs):Rs Dv:=match o with
 | .ref j=>match getL h j with
  |some xs=>lim (xs.length+ys.length) (.ok .non (h.set j (.lst (xs++ys))))
  |none=>.bad
 |_=>.bad
def oU (mo:M Dv) (ml:M (List Dv)):M Dv:=λρ h=>(mo ρ h).bind λx h1=>if gS x h1=true then(ml ρ h1).bind λys h2=>wQ x ys h2 else .bad
theorem WC (ho:aK X G E (.Name y np) mo) (he:mH X G E e ml) (hs:aw [e] X.env=[(false,eval e X.env)]:=by rfl) (hl:(apos.endLine==cpos.line)=true:=by rfl):aK X G E (.Call (.Attribute (.Name y np) "extend" apos) [e] [] cpos) (oU mo ml):=λhK=>
 PE.imp (vI md PySem.F.slot_list_extend PySem.F.type_list_extend TQ (ho hK) (iA (he hK) jL hs) rfl (by rw[hs];rfl) hl hs rfl) λσ H Q ⟨μ,ρ,h,rs,s,oo⟩=>eR rs s oo λμ1 x h1 vx H1 x1 rs1 s1 r1 o1=>by
  split at o1
  ·rename_i hl;refine⟨wO s1 r1 hl,μ1,ρ,h1,rs1,s1,(o1.bind (R1:=RL G)).mono λv H2 ⟨μ2,ys,h2,x2,s2,⟨b,ws,ev,eb,nb,rb⟩,o2⟩=>?_⟩;subst ev
   cases x with
   |ref j=>
    dsimp only[wQ]at o2
    cases q:getL h2 j with
    |none=>rw[q]at o2;exact o2.elim
    |some xs=>
     rw[q]at o2;dsimp only at o2;unfold lim at o2
     split at o2
     ·rename_i hz;obtain⟨vs,ea,ra⟩:=s2.ob j _ (cM q);obtain⟨_,rfl⟩:=RelD.mono x2 _ _ r1;obtain⟨x3,s3⟩:=s2.write (cM q) (ra.append rb);exact⟨_,b,vs,ws,rfl,rfl,ea,eb,by rw[ra.length,rb.length];exact sG hz,o2 μ2 _ _ x3 s3 rfl⟩
     ·exact o2.elim
   |_=>exact o2.elim
  ·exact o1.elim
def wR (o i d:Dv) (h:Hs):Option Hs:=match o,i with
 | .ref j,.int k=>match getL h j with
  |some xs=>match fO xs.length k with
   |some n=>some (h.set j (.lst (xs.set n d)))
   |none=>none
  |none=>none
 |_,_=>none
def sY (mo mi me:M Dv):MS:=λρ h=>(me ρ h).thenS λd h1=>(mo ρ h1).thenS λo h2=>(mi ρ h2).thenS λi h3=>match wR o i d h3 with
 |some h4=>.nx ρ h4
 |none=>.bad
theorem IW {o:bp}{spos:Pos}(ho:aK X G E o mo) (hi:aK X G E i mi) (he:aK X G E e me)
  (ha:∀v,assign (.Subscript o i spos) X.env v=(do
   let ov <-holding [v] (eval o X.env)
   let iv <-holding [v,ov] (eval i X.env)
   standAt spos
   holding [v,ov,iv] (setItem ov iv v)
   release [v,ov,iv] []):=by intro _;rfl)
  (hs:swapsWithSole [.Subscript o i spos] e pos.line X.env=pure false:=by rfl) (hw:swappedStores [.Subscript o i spos] e X.env=pure none:=by rfl)
  (h1:(assignEach [.Subscript o i spos] X.env).map (·.2)=[assign (.Subscript o i spos) X.env]:=by rfl):iM X G E (.Assign [.Subscript o i spos] e pos) (sY mo mi me):=λhK=>
 PS.imp (FY (he hK) (QX (ho hK) (hi hK) S6 ha) hs hw h1) λD σ H ⟨μ,ρ,h,rs,s,oo⟩=>nF rs s oo λμ1 d h1 v H1 x1 rs1 s1 r1 o1=>nF rs1 s1 o1 λμ2 ob h2 vo H2 x2 rs2 s2 r2 o2=>nF rs2 s2 o2 λμ3 ix h3 vi H3 x3 rs3 s3 r3 o3=>by
  cases ob with
  |ref j=>
   cases ix with
   |int k=>
    dsimp only[wR]at o3
    cases q:getL h3 j with
    |none=>rw[q]at o3;exact o3.elim
    |some xs=>
     rw[q]at o3;dsimp only at o3
     cases q2:fO xs.length k with
     |none=>rw[q2]at o3;exact o3.elim
     |some n=>rw[q2]at o3;obtain⟨vs,ea,ra⟩:=s3.ob j _ (cM q);obtain⟨_,rfl⟩:=RelD.mono x3 _ _ r2;rw[RelD]at r3;subst r3;obtain⟨x4,s4⟩:=s3.write (cM q) (RelDL.set (RelD.mono (x2.trans x3) _ _ r1) n ra);exact⟨_,vs,k,n,rfl,rfl,ea,by rw[ra.length];exact q2,o3 μ3 _ σ x4 s4 (rs3.mono x4)⟩
   |_=>exact o3.elim
  |_=>cases ix <;> exact o3.elim
end
section
variable{prog:bj}{w:cm}{A:cj}{E:af->ag->Prop}{s:ag}
theorem WD {it t:ah}{i:Nat}{items:Array af}{x:af}{Q:af->ag->Prop}(hit:s.heap.IsTupleIter it t i) (ht:s.heap.IsTuple t items) (hx:items[i]?=some x)
  (k:∀h',h'.IsTupleIter it t (i+1)->ik it s.heap h'->Q x { s with heap:=h' }):wpAny (model prog w) A (ff (.ref it)) Q E s:=by
 obtain⟨o,ho,hc,hd⟩:=id hit;obtain⟨ol,hol,hcl,nl,hdl⟩:=id ht;refine ae (gv (name:=lr "__next__") hit.typeIs F.slot_tuple_iterator_next (ib F.slot_tuple_iterator_next hit.typeIs F.entry_tuple_iterator_next ?_ (F.args_tuple_iterator_next_1 _)));have q0:∀{Q':af->ag->Prop}{E':af->ag->Prop}{B:cj},Q' (.ref t) s->wpAny (model prog w) B (field (.ref it) 0) Q' E' s:=λq=>fv ho hd (x:=.ref t) rfl q;have q1:∀{Q':af->ag->Prop}{E':af->ag->Prop}{B:cj},Q' (.int i 0) s->wpAny (model prog w) B (field (.ref it) 1) Q' E' s:=λq=>fv ho hd (x:=.int i 0) rfl q;refine ae (aj (ae (q0 ?_)));dsimp only;rw[if_neg (by simp)];refine ae (q1 (ae (jf hol hdl ?_)));rw[show((i:Int)).toNat=i from fe i];dsimp only;rw[hx];refine ae (As ho hd (by simp) (aj ⟨x,rfl,aj (k _ ⟨_,nt _ ho (Ba (vc hd _)), ?_, ?_⟩ (nj ..))⟩))
 ·rw[Obj.cls_mapFields];exact hc
 ·rw[vc hd];simp[rawInt]
end
section
variable{prog:bj}{w:cm}{A:cj}{E:af->ag->Prop}{s:ag}
theorem WE {α:Type}{Q:α->ag->Prop}(hh:A.handled=none) (k:∀h' e,(∀b o,s.heap.get? b=some o->h'.get? b=some o)->(∃o,h'.get? e=some o/\o.cls=.type "StopIteration")->E (.ref e) { s with heap:=h' }):
  wpAny (model prog w) A (qp:Sem α) Q E s:=by
 have e0:firstArgMember (.type "StopIteration") []=pure jm:=by show(pure (if _ then jm else jm):Sem af)=_;rw[ite_self]
 unfold qp newExc newTuple;refine ae (ae (gn (ae (zr e0 (gn (wpAny_raiseNew_none hh (k _ _ (λb o q=>ak _ (ak _ q)) ⟨_,bg _ rfl,rfl⟩)) (by size_fits)))) (by size_fits)))
theorem WG {it t:ah}{i:Nat}{items:Array af}{Q:af->ag->Prop}(hh:A.handled=none) (hit:s.heap.IsTupleIter it t i) (ht:s.heap.IsTuple t items) (hx:items[i]?=none)
  (k:∀h' e,Bb it s.heap h'->(∃o,h'.get? e=some o/\o.cls=.type "StopIteration")->E (.ref e) { s with heap:=h' }):wpAny (model prog w) A (ff (.ref it)) Q E s:=by
 obtain⟨o,ho,hc,hd⟩:=id hit;obtain⟨ol,hol,hcl,nl,hdl⟩:=id ht;refine ae (gv (name:=lr "__next__") hit.typeIs F.slot_tuple_iterator_next (ib F.slot_tuple_iterator_next hit.typeIs F.entry_tuple_iterator_next ?_ (F.args_tuple_iterator_next_1 _)));have q0:∀{Q':af->ag->Prop}{E':af->ag->Prop}{B:cj},Q' (.ref t) s->wpAny (model prog w) B (field (.ref it) 0) Q' E' s:=λq=>fv ho hd (x:=.ref t) rfl q;have q1:∀{Q':af->ag->Prop}{E':af->ag->Prop}{B:cj},Q' (.int i 0) s->wpAny (model prog w) B (field (.ref it) 1) Q' E' s:=λq=>fv ho hd (x:=.int i 0) rfl q;refine ae (aj (ae (q0 ?_)));dsimp only;rw[if_neg (by simp)];refine ae (q1 (ae (jf hol hdl ?_)));rw[show((i:Int)).toNat=i from fe i];dsimp only;rw[hx];refine ae (uf (ae (As ho hd (by simp) (WE (show A.in1.handled=none from hh) λh' e kp st=>k h' e (λb u hb q=>kp b u ?_) st))));rw[mz _ _ (cw hb)];exact q
end
structure Draws (prog:bj) (w:cm) (it src:ah) (xs:List af) (st:Nat->cq->Prop):Prop where
 keep:∀i h h',st i h->(∀b o,b=it∨b=src->h.get? b=some o->h'.get? b=some o)->st i h'
 there:∀i h,st i h->∃o vs,h.get? it=some o/\o.data=.fields vs
 item:∀(A:cj) (i:Nat) (x:af) (s:ag) (Q:af->ag->Prop) (E:af->ag->Prop),xs[i]?=some x->st i s.heap->
  (∀h',st (i+1) h'->ik it s.heap h'->Q x { s with heap:=h' })->wpAny (model prog w) A (ff (.ref it)) Q E s
 done:∀(A:cj) (i:Nat) (s:ag) (Q:af->ag->Prop) (E:af->ag->Prop),A.handled=none->xs[i]?=none->st i s.heap->
  (∀h' e,Bb it s.heap h'->(∃o,h'.get? e=some o/\o.cls=.type "StopIteration")->E (.ref e) { s with heap:=h' })->wpAny (model prog w) A (ff (.ref it)) Q E s
structure Four (z TI TO i j u v:ah):Prop where
 a:z≠TO
 b:z≠i
 c:z≠j
 d:TO≠i
 e:TO≠j
 f:i≠j
 g:TI≠z
 h:TI≠TO
 k:TI≠i
 l:TI≠j
 u1:u≠z
 u2:u≠TO
 u3:u≠i
 u4:u≠j
 v1:v≠z
 v2:v≠TO
 v3:v≠i
 v4:v≠j
theorem hO {b x y c:ah}(h:b=x∨b=y) (p:x≠c) (q:y≠c):b≠c:=by
 rcases h with h|h
 ·rw[h];exact p
 ·rw[h];exact q
def wU (z TO i j:ah) (h h':cq):Prop:=∀b o,b≠z->b≠TO->b≠i->b≠j->h.get? b=some o->h'.get? b=some o
section
variable{prog:bj}{w:cm}{A:cj}{E:af->ag->Prop}{s:ag}{z TI TO i j u v:ah}{xs ys:List af}{st su:Nat->cq->Prop}
theorem WH {n:Nat}{x y a b:af}{Q:af->ag->Prop}(F4:Four z TI TO i j u v) (P:Draws prog w i u xs st) (R:Draws prog w j v ys su) (hz:xc s.heap z TI TO .none) (hTI:kv s.heap TI (.ref i) (.ref j)) (hTO:kv s.heap TO a b)
  (p:st n s.heap) (r:su n s.heap) (hx:xs[n]?=some x) (hy:ys[n]?=some y)
  (k:∀h' T,s.heap.objs.size<=T->xc h' z TI TO (rawInt T)->kv h' TI (.ref i) (.ref j)->kv h' TO x y->st (n+1) h'->su (n+1) h'->kv h' T x y->wU z TO i j s.heap h'->Q (.ref T) { s with heap:=h' }):
  wpAny (model prog w) A (my.«zip.__next__» ⟨[.ref z],[]⟩) (λfin s'=>∃v,fin=.done (.ret v)/\Q v s') E s:=by
 refine ae (aj (ae (fv hz rfl (x:=.bool false) rfl (ae (fv hz rfl (x:=.ref TI) rfl (ae (jf hTI rfl ?_)))))));have fr:∀{Q':Bool->ag->Prop}{E':af->ag->Prop},Q' true s->wpAny (model prog w) A (qd (.ref z)) Q' E' s:=λq=>ae (fv hz rfl (x:=.none) rfl (aj q));refine ae (fr ?_);rw[if_pos rfl];refine ae (uf (ae (fv hz rfl (x:=.ref TO) rfl (ae (jc hz (by simp) λg1 z1 b1=>?_)))));have z1':xc g1 z TI TO .ellipsis:=z1;refine ae ?_;show wpAny _ _ (forIn [(ic i,0),(ic j,1)] _ _) _ _ _;rw[pd];refine ae (ae (sr ?_));show wpAny _ _ (ff (.ref i) >>= _) _ _ _;refine ae (P.item A n x _ _ _ hx (P.keep n _ _ p λb o hb q=>b1.extBut _ _ (hO hb (cw F4.b) F4.u1) q) λg2 p2 b2=>aj ?_);have t2:kv g2 TO a b:=b2.extBut _ _ F4.d (b1.extBut _ _ (cw F4.a) hTO);refine ae (jf t2 rfl (ae (vf t2 λg3 t3 b3=>ae (wpAny_letGo (aj ?_)))));have t3':kv g3 TO x b:=t3;dsimp only;rw[pd];refine ae (ae (sr ?_));show wpAny _ _ (ff (.ref j) >>= _) _ _ _;have r3:su n g3:=R.keep n _ _ r λb o hb q=>b3.extBut _ _ (hO hb (cw F4.e) F4.v2) (b2.extBut _ _ (hO hb (cw F4.f) F4.v3) (b1.extBut _ _ (hO hb (cw F4.c) F4.v1) q));refine ae (R.item A n y _ _ _ hy r3 λg4 r4 b4=>aj ?_);have t4:kv g4 TO x b:=b4.extBut _ _ F4.e t3';refine ae (jf t4 rfl (ae (vf t4 λg5 t5 b5=>ae (wpAny_letGo (aj ?_)))));have t5':kv g5 TO x y:=t5;dsimp only;rw[List.forIn_nil];refine aj ?_;refine ae (jf t5' rfl (ae (wpAny_newTuple ?_)));have z5:xc g5 z TI TO .ellipsis:=b5.extBut _ _ F4.a (b4.extBut _ _ F4.c (b3.extBut _ _ F4.a (b2.extBut _ _ F4.b z1')));have sz:g5.objs.size=s.heap.objs.size:=by rw[b5.1,b4.1,b3.1,b2.1,b1.1]
 have all5:wU z TO i j s.heap g5:=λc o c1 c2 c3 c4 q=>b5.extBut _ _ c2 (b4.extBut _ _ c4 (b3.extBut _ _ c2 (b2.extBut _ _ c3 (b1.extBut _ _ c1 q))));have p5:st (n+1) g5:=P.keep _ _ _ p2 λb o hb q=>b5.extBut _ _ (hO hb (cw F4.d) F4.u2) (b4.extBut _ _ (hO hb F4.f F4.u4) (b3.extBut _ _ (hO hb (cw F4.d) F4.u2) q));have r5:su (n+1) g5:=R.keep _ _ _ r4 λb o hb q=>b5.extBut _ _ (hO hb (cw F4.e) F4.v2) q;generalize hob:({ cls:=.type "tuple",dict:=none,data:=.seq [x,y].toArray }:Obj)=ob;have zp:xc (g5.push ob) z TI TO .ellipsis:=ak _ z5;refine ae (ae (jc zp (by simp) λg7 z7 b7=>?_));have z7':xc g7 z TI TO (rawInt g5.objs.size):=z7;refine jc z7' (by simp) λg8 z8 b8=>aj ⟨_,rfl, ?_⟩;have up:∀c o,c≠z->g5.get? c=some o->g8.get? c=some o:=λc o c1 q=>b8.extBut _ _ c1 (b7.extBut _ _ c1 (ak _ q));have lz:z<g5.objs.size:=ar z5;have T8:kv g8 g5.objs.size x y:=b8.extBut _ _ (ji lz) (b7.extBut _ _ (ji lz) (by rw[<-hob];exact bg _ rfl));refine k g8 g5.objs.size (pj sz.symm) z8 (up _ _ F4.g (all5 _ _ F4.g F4.h F4.k F4.l hTI)) (up _ _ (cw F4.a) t5') (P.keep _ _ _ p5 λb o hb q=>up _ _ (hO hb (cw F4.b) F4.u1) q) (R.keep _ _ _ r5 λb o hb q=>up _ _ (hO hb (cw F4.c) F4.v1) q) T8 λc o c1 c2 c3 c4 q=>up _ _ c1 (all5 c o c1 c2 c3 c4 q)
end
section
variable{prog:bj}{w:cm}{A:cj}{E:af->ag->Prop}{s:ag}{z TI TO i j u v:ah}{xs ys:List af}{st su:Nat->cq->Prop}
theorem WI {n:Nat}{a b:af}{Q:PySem.Fin->ag->Prop}(hh:A.handled=none) (F4:Four z TI TO i j u v) (P:Draws prog w i u xs st) (R:Draws prog w j v ys su) (hz:xc s.heap z TI TO .none) (hTI:kv s.heap TI (.ref i) (.ref j)) (hTO:kv s.heap TO a b)
  (p:st n s.heap) (r:su n s.heap) (hend:xs[n]?=none∨ys[n]?=none)
  (k:∀h' e,wU z TO i j s.heap h'->(∃o,h'.get? e=some o/\o.cls=.type "StopIteration")->E (.ref e) { s with heap:=h' }):
  wpAny (model prog w) A (my.«zip.__next__» ⟨[.ref z],[]⟩) Q E s:=by
 refine ae (aj (ae (fv hz rfl (x:=.bool false) rfl (ae (fv hz rfl (x:=.ref TI) rfl (ae (jf hTI rfl ?_)))))));have fr:∀{Q':Bool->ag->Prop}{E':af->ag->Prop},Q' true s->wpAny (model prog w) A (qd (.ref z)) Q' E' s:=λq=>ae (fv hz rfl (x:=.none) rfl (aj q));refine ae (fr ?_);rw[if_pos rfl];refine ae (uf (ae (fv hz rfl (x:=.ref TO) rfl (ae (jc hz (by simp) λg1 z1 b1=>?_)))));have z1':xc g1 z TI TO .ellipsis:=z1;have p1:st n g1:=P.keep n _ _ p λb o hb q=>b1.extBut _ _ (hO hb (cw F4.b) F4.u1) q;have fin:∀(g:cq) (e:ah),xc g z TI TO .ellipsis->wU z TO i j s.heap g->(∃o,g.get? e=some o/\o.cls=.type "StopIteration")->
   wpAny (model prog w) A (setField (.ref z) 0 .none) (λ_ s'=>E (.ref e) s') E { s with heap:=g }:=λg e zz bt ⟨o,he,hc⟩=>
  jc zz (by simp) λg' _ b'=>k g' e (λc u c1 c2 c3 c4 q=>b'.extBut _ _ c1 (bt c u c1 c2 c3 c4 q)) ⟨o,b'.extBut _ _ (λq=>by subst q;rw[zz]at he;cases he;simp at hc) he,hc⟩
 refine ae ?_;show wpAny _ _ (forIn [(ic i,0),(ic j,1)] _ _) _ _ _;rw[pd];refine ae (ae (sr ?_));show wpAny _ _ (ff (.ref i) >>= _) _ _ _
 cases hx:xs[n]? with
 |none=>exact ae (P.done A n _ _ _ hh hx p1 λg2 e b2 he=>fin g2 e (b2 _ _ F4.b z1') (λc u c1 _ c3 _ q=>b2 _ _ c3 (b1.extBut _ _ c1 q)) he)
 |some x=>
  have hy:ys[n]?=none:=by
   rcases hend with q|q
   ·rw[hx]at q;cases q
   ·exact q
  refine ae (P.item A n x _ _ _ hx p1 λg2 p2 b2=>aj ?_);have t2:kv g2 TO a b:=b2.extBut _ _ F4.d (b1.extBut _ _ (cw F4.a) hTO);refine ae (jf t2 rfl (ae (vf t2 λg3 t3 b3=>ae (wpAny_letGo (aj ?_)))));dsimp only;rw[pd];refine ae (ae (sr ?_));show wpAny _ _ (ff (.ref j) >>= _) _ _ _;have r3:su n g3:=R.keep n _ _ r λb o hb q=>b3.extBut _ _ (hO hb (cw F4.e) F4.v2) (b2.extBut _ _ (hO hb (cw F4.f) F4.v3) (b1.extBut _ _ (hO hb (cw F4.c) F4.v1) q));exact ae (R.done A n _ _ _ hh hy r3 λg4 e b4 he=>fin g4 e (b4 _ _ F4.c (b3.extBut _ _ F4.a (b2.extBut _ _ F4.b z1'))) (λc u c1 c2 c3 c4 q=>b4 _ _ c4 (b3.extBut _ _ c2 (b2.extBut _ _ c3 (b1.extBut _ _ c1 q)))) he)
theorem wV {it t:ah}{items:Array af}(hne:t≠it):Draws prog w it t items.toList (λi h=>h.IsTupleIter it t i/\h.IsTuple t items) where
 keep:=λi h h' ⟨⟨o,e,r⟩,⟨o2,e2,r2⟩⟩ k=>⟨⟨o,k _ _ (.inl rfl) e,r⟩,⟨o2,k _ _ (.inr rfl) e2,r2⟩⟩
 there:=λi h ⟨⟨o,e,_,d⟩,_⟩=>⟨o,_,e,d⟩
 item:=λA i x s Q E hx ⟨a,b⟩ k=>WD a b (by simpa using hx) λh' a' sb=>k h' ⟨a',b.extBut sb.extBut hne⟩ sb
 done:=λA i s Q E hh hx ⟨a,b⟩ k=>WG hh a b (by simpa using hx) k
end
def wW (K:aq) (t u:ah):It:=
 ⟨λi H=>∃vs ws v w,SqT K H t vs/\SqT K H u ws/\vs[i]?=some v/\ws[i]?=some w,
  λi H x H'=>∃p v w,x=.ref p/\H p=none/\H'=aQ H p (.tup [v,w])/\(∀vs,SqT K H t vs->vs[i]?=some v)/\∀ws,SqT K H u ws->ws[i]?=some w,
  λi H=>∃vs ws,SqT K H t vs/\SqT K H u ws/\(vs.length<=i∨ws.length<=i)⟩
structure ZipAt (z TI TO i j t u:ah) (n:Nat) (h:cq):Prop where
 zp:xc h z TI TO .none
 ti:kv h TI (.ref i) (.ref j)
 to:∃a b,kv h TO a b
 i1:h.IsTupleIter i t n
 i2:h.IsTupleIter j u n
section
variable{X:Cx}{pins:List (ah×Obj)}{σ:St}{H:Hp}{s:ag}
theorem Inv.turns {h':cq}{ch:List ah}{T:ah}{vs:List V}{its:List af}(I:Inv X pins σ H s) (hch:∀b∈ch,cV X pins H b) (k:∀b o,b∉ch->s.heap.get? b=some o->h'.get? b=some o) (there:∀b∈ch,∃o,h'.get? b=some o)
  (hT:s.heap.objs.size<=T) (hv:Vals vs its) (hl:vs.length<=ck) (tp:IsTupX h' T its.toArray):Inv X pins σ (aQ H T (.tup vs)) { s with heap:=h' }:=by
 have nT:H T=none:=I.hok.fresh hT;have nch:∀b o,H b=some o->b∉ch:=λb o q z=>by rw[(hch b z).1]at q;cases q
 have un:Un (dH X.stack) ch H (aQ H T (.tup vs)) s.heap h':=
  ⟨λb o q _ _ hb=>k b o hb q,λb o q _ _ hb=>⟨o.slots,k b o hb q⟩,λb o q n _=>by rw[bN (ay (au (ar q) hT))];exact n,
   λb o q hb=>⟨o,k b o hb q⟩,λb xs q=>cP nT b _ q,λb o u q=>cP nT b _ q,λb ps q=>⟨#[],by rw[cP nT b _ q];simp⟩⟩
 have ok:HOk X.prog X.w (aQ H T (.tup vs)) h':=λb o q=>by
  by_cases hb:b=T
  ·subst hb;rw[cS]at q;cases q;exact⟨hl,its,hv,tp⟩
  ·rw[bN hb]at q;refine(I.hok b o q).stay (λc v hc z=>k c v ?_ z) (λc z=>cP nT c _ z) λc xs z=>cP nT c _ z
   rcases hc with rfl|hc
   ·exact nch c o q
   ·exact nch c _ hc
 exact I.call (g':=s.gens) (d':=s.drawn) (t':=s.toks) un ok I.bare λb hb=>let ⟨_,f1,_,f3,f4,f5⟩:=hch b hb;⟨f3,f1,f4,f5⟩
theorem Inv.turns0 {h':cq}{ch:List ah}(I:Inv X pins σ H s) (hch:∀b∈ch,cV X pins H b) (k:∀b o,b∉ch->s.heap.get? b=some o->h'.get? b=some o):Inv X pins σ H { s with heap:=h' }:=by
 have nch:∀b o,H b=some o->b∉ch:=λb o q z=>by rw[(hch b z).1]at q;cases q
 refine I.call (g':=s.gens) (d':=s.drawn) (t':=s.toks) (ch:=ch) ⟨λb o q _ _ hb=>k b o hb q,λb o q _ _ hb=>⟨o.slots,k b o hb q⟩,λ_ _ _ n _=>n,λb o q hb=>⟨o,k b o hb q⟩,λ_ _ q=>q,λ_ _ _ q=>q,λb ps q=>⟨#[],by rw[q];simp⟩⟩ (λb o q=>?_) I.bare λb hb=>let ⟨_,f1,_,f3,f4,f5⟩:=hch b hb;⟨f3,f1,f4,f5⟩;refine(I.hok b o q).stay (λc v hc z=>k c v ?_ z) (λ_ z=>z) λ_ _ z=>z
 rcases hc with rfl|hc
 ·exact nch c o q
 ·exact nch c _ hc
end
theorem IX {P:bj}{w:cm}{K:aq}{elts:List bp}{kk:Nat}{tp:Pos}{z TI TO i j t u:ah}(F4:Four z TI TO i j t u) (hti:t≠i) (huj:u≠j):
  Turn P w K (.Tuple elts kk tp) (wW K t u) [z,TI,TO,i,j] z (ZipAt z TI TO i j t u) where
 mem:=by simp
 obj:=λn h st b hb=>by
  obtain⟨zp,ti,⟨a,b',to⟩,⟨o1,e1,_,d1⟩,⟨o2,e2,_,d2⟩⟩:=st;simp at hb
  rcases hb with rfl|rfl|rfl|rfl|rfl
  ·exact⟨_,zp,λv q=>by cases q⟩
  ·exact⟨_,ti,λv q=>by cases q⟩
  ·exact⟨_,to,λv q=>by cases q⟩
  ·exact⟨_,e1,λv q=>by rw[d1]at q;cases q⟩
  ·exact⟨_,e2,λv q=>by rw[d2]at q;cases q⟩
 keep:=λn h h' st k=>by obtain⟨zp,ti,⟨a,b',to⟩,⟨o1,e1,r1⟩,⟨o2,e2,r2⟩⟩:=st;exact⟨k _ (by simp) _ zp,k _ (by simp) _ ti,⟨a,b',k _ (by simp) _ to⟩,⟨o1,k _ (by simp) _ e1,r1⟩,⟨o2,k _ (by simp) _ e2,r2⟩⟩
 item:=by
  intro X hP hw hK hc n pins s σ H E I hf st hg;subst hP hw hK;obtain⟨vs,ws,v,w',hq,hr,hv,hw'⟩:=hg;obtain⟨its,rv,p1,z1⟩:=I.tuple hq;obtain⟨jts,rw',p2,z2⟩:=I.tuple hr;obtain⟨x,hx,rx⟩:=rv.get hv;obtain⟨y,hy,ry⟩:=rw'.get hw';obtain⟨zp,ti,⟨a,b,to⟩,i1,i2⟩:=st;have hT:s.TypeIs (.ref z) "zip" := ⟨_,zp,rfl⟩;unfold pyNext;refine ae (wb (gv (name:=lr "__next__") hT F.slot_zip_next (ib F.slot_zip_next hT F.entry_zip_next
   (WH F4 (wV (items:=its.toArray) hti) (wV (items:=jts.toArray) huj) zp ti to ⟨i1,p1⟩ ⟨i2,p2⟩ (by simpa using hx) (by simpa using hy) λh' T hnew a1 a2 a3 a4 a5 a6 bt=>aj ⟨_,rfl, ?_⟩) (F.args_zip_next_1 _))))
  refine Bc a1 λh2 z2' sb=>?_;have kp:∀b o,b∉[z,TI,TO,i,j]->s.heap.get? b=some o->h2.get? b=some o:=λb o hb q=>by simp at hb;obtain⟨n1,n2,n3,n4,n5⟩:=hb;exact sb.extBut _ _ n1 (bt b o n1 n3 n4 n5 q)
  have Tz:T≠z:=ji (au (ar zp) hnew);have T2:kv h2 T x y:=sb.extBut _ _ Tz a6;have th:∀b∈[z,TI,TO,i,j],∃o,h2.get? b=some o:=λb hb=>by
   obtain⟨⟨o1,e1,_⟩,_⟩:=a4;obtain⟨⟨o2,e2,_⟩,_⟩:=a5;simp at hb
   rcases hb with rfl|rfl|rfl|rfl|rfl
   ·exact⟨_,z2'⟩
   ·exact⟨_,sb.extBut _ _ F4.g a2⟩
   ·exact⟨_,sb.extBut _ _ (cw F4.a) a3⟩
   ·exact⟨_,sb.extBut _ _ (cw F4.b) e1⟩
   ·exact⟨_,sb.extBut _ _ (cw F4.c) e2⟩
  have I2:=Inv.turns (T:=T) (vs:=[v,w']) (its:=[x,y]) I hf kp th hnew (.cons rx (.cons ry .nil)) (by show 2<=ck;decide) ⟨_,T2,rfl,rfl,_,rfl⟩;have nT:H T=none:=I.hok.fresh hnew;refine⟨.ref T,_,I2,rfl,⟨T,v,w',rfl,nT,rfl,λvs' h'=>by rw[I.tuple_inj h' hq];exact hv,λws' h'=>by rw[I.tuple_inj h' hr];exact hw'⟩, ?_,λb hb=>?_⟩
  ·exact⟨z2',sb.extBut _ _ F4.g a2,⟨_,_,sb.extBut _ _ (cw F4.a) a3⟩,a4.1.extBut sb.extBut (cw F4.b),a5.1.extBut sb.extBut (cw F4.c)⟩
  ·obtain⟨o,q,_⟩:∃o,s.heap.get? b=some o/\True:=by
    obtain⟨o1,e1,_⟩:=i1;obtain⟨o2,e2,_⟩:=i2;simp at hb
    rcases hb with rfl|rfl|rfl|rfl|rfl
    ·exact⟨_,zp,trivial⟩
    ·exact⟨_,ti,trivial⟩
    ·exact⟨_,to,trivial⟩
    ·exact⟨_,e1,trivial⟩
    ·exact⟨_,e2,trivial⟩
   rw[bN (ay (au (ar q) hnew))];exact(hf b hb).1
 done:=by
  intro X hP hw hK hc n pins s σ H E I hf st hg;subst hP hw hK;obtain⟨vs,ws,hq,hr,hend⟩:=hg;obtain⟨its,rv,p1,z1⟩:=I.tuple hq;obtain⟨jts,rw',p2,z2⟩:=I.tuple hr;have l1:=rv.length;have l2:=rw'.length;obtain⟨zp,ti,⟨a,b,to⟩,i1,i2⟩:=st;have hT:s.TypeIs (.ref z) "zip" := ⟨_,zp,rfl⟩;unfold pyNext;refine ae (wb (gv (name:=lr "__next__") hT F.slot_zip_next (ib F.slot_zip_next hT F.entry_zip_next
   (WI (show X.A.in1.handled=none from I.ok.hd hc) F4 (wV (items:=its.toArray) hti) (wV (items:=jts.toArray) huj) zp ti to ⟨i1,p1⟩ ⟨i2,p2⟩ (by
    rcases hend with q|q
    ·exact .inl (by simp;omega)
    ·exact .inr (by simp;omega)) λh' e bt ⟨o,he,hcl⟩=>ae (zk (T := "StopIteration") (b:=true) ⟨o,he,hcl⟩ isSubtype_stop (aj ⟨rfl, ?_⟩))) (F.args_zip_next_1 _))))
  refine Inv.turns0 I hf λb o hb q=>?_;simp at hb;exact bt b o hb.1 hb.2.2.1 hb.2.2.2.1 hb.2.2.2.2 q
 self:=λ_ _ _ _ _ st h=>pg st.zp h
def IY (t u:ah) (h:cq) (z:ah) (h':cq):Prop:=∃TI TO i j,ZipAt z TI TO i j t u 0 h'/\Four z TI TO i j t u/\(∀b∈[z,TI,TO,i,j],h.objs.size<=b)/\∀b o,h.get? b=some o->h'.get? b=some o
theorem sZ {h h':cq}{o:Obj}(e:h'=h.push o) (nf:o.isFreed=false):h'.get? h.objs.size=some o:=by rw[e];exact bg _ nf
theorem WJ (n t u:Nat) (lt:t<n) (lu:u<n):Four (n+4) (n+2) (n+3) n (n+1) t u:=by
 have ne:∀{a b:Nat},(a<b∨b<a)->a≠b:=λh=>by omega
 exact⟨ne (by omega),ne (by omega),ne (by omega),ne (by omega),ne (by omega),ne (by omega),ne (by omega),ne (by omega),ne (by omega),ne (by omega),ne (by omega),ne (by omega),ne (by omega),ne (by omega),ne (by omega),ne (by omega),ne (by omega),ne (by omega)⟩
theorem WK {t u:ah}{hp h1 h2 h3 h4 h5:cq}{n:Nat}(hn:n=hp.objs.size) (lt:t<n) (lu:u<n)
  (e1:h1=hp.push { cls:=.type "tuple_iterator",data:=.fields #[.ref t,.int 0 0] }) (e2:h2=h1.push { cls:=.type "tuple_iterator",data:=.fields #[.ref u,.int 0 0] }) (e3:h3=h2.push { cls:=.type "tuple",data:=.seq #[.ref n,.ref (n+1)] })
  (e4:h4=h3.push { cls:=.type "tuple",data:=.seq #[.none,.none] }) (e5:h5=h4.push { cls:=.type "zip",data:=.fields #[.none,.bool false,.bool false,.ref (n+2),.ref (n+3)] }):IY t u hp (n+4) h5:=by
 have z1:h1.objs.size=n+1:=by rw[e1,fi,hn]
 have z2:h2.objs.size=n+2:=by rw[e2,fi,z1]
 have z3:h3.objs.size=n+3:=by rw[e3,fi,z2]
 have z4:h4.objs.size=n+4:=by rw[e4,fi,z3]
 have up:∀(h:cq) (o:Obj) (b:ah) (q:Obj),h.get? b=some q->(h.push o).get? b=some q:=λh o b q e=>ak _ e;have g1:=sZ e1 rfl;have g2:=sZ e2 rfl;have g3:=sZ e3 rfl;have g4:=sZ e4 rfl;have g5:=sZ e5 rfl;rw[<-hn]at g1;rw[z1]at g2;rw[z2]at g3;rw[z3]at g4;rw[z4]at g5;have u2:∀b q,h2.get? b=some q->h5.get? b=some q:=λb q e=>by rw[e5,e4,e3];exact up _ _ _ _ (up _ _ _ _ (up _ _ _ _ e))
 have u1:∀b q,h1.get? b=some q->h5.get? b=some q:=λb q e=>u2 b q (by rw[e2];exact up _ _ _ _ e);have u3:∀b q,h3.get? b=some q->h5.get? b=some q:=λb q e=>by rw[e5,e4];exact up _ _ _ _ (up _ _ _ _ e)
 have u4:∀b q,h4.get? b=some q->h5.get? b=some q:=λb q e=>by rw[e5];exact up _ _ _ _ e
 refine⟨n+2,n+3,n,n+1,⟨g5,u3 _ _ g3,⟨_,_,u4 _ _ g4⟩,⟨_,u1 _ _ g1,rfl,rfl⟩,⟨_,u2 _ _ g2,rfl,rfl⟩⟩, ?_, ?_,λb q e=>u1 b q (by rw[e1];exact up _ _ _ _ e)⟩
 ·exact WJ n t u lt lu
 ·intro b hb;rw[<-hn];simp at hb
  rcases hb with rfl|rfl|rfl|rfl|rfl
  ·exact oj _ _
  ·exact oj _ _
  ·exact oj _ _
  ·exact ao _
  ·exact oj _ _
theorem IZ {t u:ah}(xs ys:Array af):Meets (my.«zip.__new__» ⟨[.type "zip",.ref t,.ref u],[]⟩) (λ_ R s=>s.heap.IsTuple t xs/\s.heap.IsTuple u ys/\∀h' z,IY t u s.heap z h'->R (.ok (.ret (.ref z))) { s with heap:=h' }):=
 .of_wp λprog w A R s h=>by
  obtain⟨ht,hu,k⟩:=h;obtain⟨hp,g,d,tk,os⟩:=s;have sub:=sub_zip;have ht':(⟨hp,g,d,tk,os⟩:ag).heap.IsTuple t xs:=ht;have hu':(⟨hp.push { cls:=.type "tuple_iterator",data:=.fields #[.ref t,.int 0 0] },g,d,tk,os⟩:ag).heap.IsTuple u ys:=hu.push _
  wp_walk using qr ht',qr hu'
  have lt:t<hp.objs.size:=by obtain⟨o,e,_⟩:=ht;exact ar e
  have lu:u<hp.objs.size:=by obtain⟨o,e,_⟩:=hu;exact ar e
  simp only[fi];refine⟨_,rfl,k _ _ (WK rfl lt lu rfl rfl rfl rfl ?_)⟩;simp only[fi];rfl
section
variable{X:Cx}{G:Cfg}{E:XK}{a b:bp}{elts:List bp}{kk:Nat}{tp p pos:Pos}{ta:TA}{ms:M (List Dv)}
def WL (K:aq) (ta:TA):TI:=λσ H R=>ta σ H λvs H1=>∃t u xs ys,vs=[.ref t,.ref u]/\SqT K H1 t xs/\SqT K H1 u ys/\R (wW K t u) H1
theorem JA:dv "zip" = some (.type "zip"):=by decide +kernel
theorem WM (hg:Gl X "zip") (hm:X.mg "zip" = none) (ha:PA X [a,b] ta) (hs:aw [a,b] X.env=[(false,eval a X.env),(false,eval b X.env)]:=by rfl) (hs2:aw [b] X.env=[(false,eval b X.env)]:=by rfl):
  PI X (.Tuple elts kk tp) (.Call (.Name "zip" p) [a,b] [] pos) (WL X.K ta):=by
 intro pins s σ H R I h;refine Call_ (oO I hg hm JA (jb (aW (ha pos pins s σ H _ I h) λus s1 ⟨vs,H1,I1,r1,q1⟩=>?_) (by rw[hs,hs2]) (by rw[hs2];rfl)));obtain⟨t,u,xs,ys,e,hq,hr,q⟩:=q1;subst e;obtain⟨u1,u2,rfl,e1,e2⟩:=pP r1;cases e1;cases e2;obtain⟨its,rv,p1,_⟩:=I1.tuple hq;obtain⟨jts,rw',p2,_⟩:=I1.tuple hr;refine callType_new F.called_zip (by decide) (F.typeCall_zip_2 _ _) (F.newCall_zip_2 _ _) (λobj=>F.args_object_init_3 obj _ _) F.entry_zip_new (IZ its.toArray jts.toArray) ⟨p1,p2,λh' z nz=>?_⟩;obtain⟨TI,TO,i,j,za,f4,fresh,kp⟩:=nz;refine⟨⟨_,za.zp,rfl⟩, ?_⟩;have I2:Inv X pins σ H1 { s1 with heap:=h' }:=I1.kept (t':=s1.toks) kp;refine pg za.zp ⟨z,[z,TI,TO,i,j],_,_,H1,rfl,I2,IX f4 f4.u3 f4.v4,za,λb hb=>I1.fpOk (fresh b hb) (I1.hok.fresh (fresh b hb)),q⟩
def kZ (xs ys:List Dv):Src:=cZ ((xs.zip ys).map λq=>.tup [q.1,q.2])
def qF:List Dv->Hs->Rs Src
 | [.tup xs,.tup ys],h=>.ok (kZ xs ys) h
 |_,_=>.bad
theorem ItOk.zip {μ:Nat->ah}{n:Nat}{H:Hp}{t u:ah}{vs ws:List V}{xs ys:List Dv}{K:aq}(e:H t=some (.tup vs)) (e':H u=some (.tup ws)) (r:RelDL G μ n H xs vs) (r':RelDL G μ n H ys ws):ItOk G μ n H (kZ xs ys) (wW K t u):=by
 intro k μ2 h2 H2 x2 s2;have f:=x2.im t (.tup vs) trivial e;have f':=x2.im u (.tup ws) trivial e';have g:=RelDL.mono x2 _ _ r;have g':=RelDL.mono x2 _ _ r';have hl:(kZ xs ys).n=min xs.length ys.length:=by simp[kZ,cZ]
 constructor
 ·intro hk d hd;have hd':((xs.zip ys).map λq=>Dv.tup [q.1,q.2])[k]?=some d:=hd;rw[df]at hd'
  cases q:(xs.zip ys)[k]? with
  |none=>rw[q]at hd';cases hd'
  |some xy=>
   rw[q]at hd';cases hd';obtain⟨qx,qy⟩:=lx.mp q;obtain⟨v,ev,rv⟩:=g.get qx;obtain⟨w',ew,rw'⟩:=g'.get qy;refine⟨⟨vs,ws,v,w',SqT.of f,SqT.of f',ev,ew⟩,λx H' hy=>?_⟩;obtain⟨pp,v1,w1,rfl,np,rfl,a1,a2⟩:=hy;have b1:=a1 vs (SqT.of f);have b2:=a2 ws (SqT.of f');rw[ev]at b1;rw[ew]at b2
   cases b1;cases b2
   have sm:Same H2 (aQ H2 pp (.tup [v,w'])):=cP np;exact⟨sm,pp,_,rfl,cS,RelDL.cons (RelD.mono (Ext.same sm) _ _ rv) (RelDL.cons (RelD.mono (Ext.same sm) _ _ rw') RelDL.nil)⟩
 ·intro hk _;refine⟨vs,ws,SqT.of f,SqT.of f', ?_⟩;rw[g.length,g'.length,hk,hl];omega
theorem WN (hg:Gl X "zip") (hm:X.mg "zip" = none) (ha:dY X G E [a,b] ms) (hs:aw [a,b] X.env=[(false,eval a X.env),(false,eval b X.env)]:=by rfl) (hs2:aw [b] X.env=[(false,eval b X.env)]:=by rfl):
  jB X G E (.Tuple elts kk tp) (.Call (.Name "zip" p) [a,b] [] pos) (aS qF ms):=λhK=>
 PI.imp (WM hg hm (ha hK) hs hs2) λσ H R ⟨μ,ρ,h,rs,s,o⟩=>kB rs s o λμ1 ds h1 vs H1 x1 rs1 s1 r1 o1=>by
  unfold qF at o1
  split at o1
  ·rename_i xs ys;obtain⟨v,v',rfl,rv,rv'⟩:=sQ r1;obtain⟨t,us,rfl,e,r⟩:=rv;obtain⟨u,ws,rfl,e',r'⟩:=rv';exact⟨t,u,us,ws,rfl,SqT.of e,SqT.of e',o1.val s1 (ItOk.zip e e' r r')⟩
  ·exact o1.elim
end
section
variable{prog:bj}{w:cm}{A:cj}{E:af->ag->Prop}{s:ag}{K:Frag}{e C N:ah}{o:Obj}
theorem WO {Q:Bool->ag->Prop}(X:K.In s.heap) (he:s.heap.get? e=some o) (hc:o.cls=.ref C) (hn:subIn K (.ref N) (.type "BaseException")=some true) (ht:subIn K (.type "type") (.type "tuple")=some false) (hk:kitCls K (.ref N) (.ref N)=some true) {b:Bool}(hs:subIn K (.ref C) (.ref N)=some b) (q:Q b s):
  wpAny (model prog w) A (excMatches (.ref e) (.ref N)) Q E s:=by
 have L1:=(kit_cls (M:=model prog w) X hk).1;have L2:=(kit_cls (M:=model prog w) X hk).2.1;have L3:=looks_subIn (M:=model prog w) X hn;have L4:=looks_subIn (M:=model prog w) X hs;have L5:=looks_subIn (M:=model prog w) X ht;obtain⟨hp,g,d,tk,os⟩:=s;unfold excMatches
 repeat (any_goals (first|assumption|(with_reducible refine wpAny_loadPart_at he ?_;rw[hc])|with_reducible refine L1.at ?_|with_reducible refine L2.at ?_|with_reducible refine L3.at ?_|with_reducible refine L4.at ?_|with_reducible refine L5.at ?_|wp_step))
 cases b
 all_goals (repeat (any_goals (first|assumption|wp_step)))
end
def jD (P:bj) (w:cm) (K:aq) (mg:Str->Option af) (base:cq) (N:List Str) (qual:Str) (scope:fq) (f:ah) (cd:af) (cl:List (Str×ah)) (A:cj) (outer:List Env) (s:ag) (H:Hp) (E:XK):Cx where
 prog:=P
 w:=w
 K:=K
 mg:=mg
 base:=base
 A:=A.deeper (mq qual scope s.heap.objs.size f cd cl)
 N:=N
 s₀:=s
 H₀:=H
 env:=mq qual scope s.heap.objs.size f cd cl
 outer:=outer
 stack:=mq qual scope s.heap.objs.size f cd cl::outer
 ex:=[]
 calm:=true
 fn:=λ_=>false
 pn:=[]
 xe:=λe s'=>wpAny (model P w) (A.deeper (mq qual scope s.heap.objs.size f cd cl)) (leaving (mq qual scope s.heap.objs.size f cd cl) e) (λ_ s''=>aZ P w base outer H s E e s'') (λe' s''=>aZ P w base outer H s E e' s'') s'
structure LamScope (N:List Str) (sc:fq):Prop where
 kind:sc.kind=.function
 co:sc.isCoroutine=false
 gen:sc.isGenerator=false
 nocell:∀x∈sc.names,x.2≠.cell
 fr:∀x∈N,sc.names.lookup x=some .free
 all:∀x∈sc.names,x.2=.free->x.1∈N
structure LamAt (G:Cfg) (base:cq) (H:Hp) (μ:Nat->ah) (n:Nat) (N:List Str) (params:jw) (body:bp) (scope:fq) (f c':ah) (cl:List (Str×ah)) (ds:List Dv):Prop where
 ob:∃pm ctv,H f=some (.frz (jz "<lambda>" G.lq params body scope cl pm c' ctv) (.own 0))
 cd:∃oc,H c'=some (.frz oc (.own 0))/\vU G.lq oc
 inj:∀x y c,cl.lookup x=some c->cl.lookup y=some c->x=y
 len:ds.length=N.length
 at_:∀(i:Nat) (x:Str),N[i]?=some x->∃c,cl.lookup x=some c
 cell:∀(x:Str) (c:ah),cl.lookup x=some c->∃o u,base.get? c=some o/\o.data=.cell u
 val:∀(i:Nat) (x:Str) (c:ah) (d:Dv),N[i]?=some x->ds[i]?=some d->cl.lookup x=some c->∃o u v,base.get? c=some o/\o.data=.cell (some u)/\RelV v u/\RelD G μ n H d v
section
variable{P:bj}{w:cm}{K:aq}{mg:Str->Option af}{base:cq}{N:List Str}{qual:Str}{scope:fq}{f:ah}{cdv:af}{cl:List (Str×ah)}{A:cj}{outer:List Env}{s0:ag}{H0:Hp}{E0:XK}{G:Cfg}{E:XK}{k:Nat}
theorem WQ (hr:Room k (A.deeper (mq qual scope s0.heap.objs.size f cdv cl))) (hK:K=G.K) (hE:∀u H',E u none H'->E0 u none H') (hF:BD E):
  Good (jD P w K mg base N qual scope f cdv cl A outer s0 H0 E0) G E k where
 calm:=rfl
 room:=hr
 K:=hK
 own:=Aj
 pas:=by intro pins σ H s u s' I ⟨e,C,H',eu,os,bare,un,hok,fl,he⟩;subst eu;have I':=I.call' os un hok bare (λb z=>absurd z (by simp));refine ae (BC (P:=P) (w:=w) (H:=H') (base:=base) I'.ok.frames I'.stack rfl hok I'.stkFree fl λh'' H'' un2 hok2 fl2 sx=>?_);have I2:=I'.call (h':=h'') (g':=s'.gens) (d':=s'.drawn) (t':=s'.toks) un2 hok2 I'.bare (λb z=>absurd z (by simp));obtain⟨T,a0,h1,_⟩:=id fl;obtain⟨T2,a2,h3,_⟩:=id fl2;have xe1:dJ C e T a0 s'.heap:=(show ObjOk P w H' s'.heap e _ from hok e _ h1).1;have:E (.ref e) none H'':=hF e H' H'' sx ⟨C,T,a0,T2,a2,h1,⟨_,xe1⟩,h3⟩ he;exact⟨e,C,H'',rfl,I2.os,I2.bare,I2.base,hok2,fl2,hE _ _ this⟩
 rais:=by intro pins σ H s h' e C args I mx he;refine ae (II (P:=P) (w:=w) (H:=H) (base:=base) I.ok.frames I.stack rfl I.hok I.stkFree I.bk mx λh'' H'' un2 hok2 fl2 sm=>?_);have I2:=I.call (h':=h'') (g':=s.gens) (d':=s.drawn) (t':=s.toks) un2 hok2 I.bare (λb z=>absurd z (by simp));obtain⟨T2,a2,h3,_⟩:=id fl2;exact⟨e,C,H'',rfl,I2.os,I2.bare,I2.base,hok2,fl2,hE _ _ (he H'' sm ⟨T2,a2,h3⟩)⟩
end
def JB {α:Type}:Rs α->Sr
 | .ex c h=>.ex c h
 |_=>.bad
section
variable{P:bj}{w:cm}{K:aq}{mg:Str->Option af}{base:cq}{N:List Str}{params:jw}{body:bp}{scope:fq}{f c':ah}{cl:List (Str×ah)}{A:cj}{outer:List Env}{s:ag}{H:Hp}{E:XK}{G:Cfg}{k:Nat}{μ:Nat->ah}{h:Hs}{ds:List Dv}
theorem WR {h1:cq}{tk:Nat}{σ:St}{E₀:XK}(S:LamScope N scope) (hd:A.handled=none) (e0:Env0 P w K mg base A outer s H) (L:LamAt G base H μ h.length N params body scope f c' cl ds)
  (hall:∀x c,cl.lookup x=some c->x∈N)
  (hns:h1.Ns s.heap.objs.size λ_=>none) (hk1:∀b o,s.heap.get? b=some o->h1.get? b=some o)
  (hσ:σ.length=N.length) (hv:∀(i:Nat) (x:Str) (v:V),N[i]?=some x->σ[i]?=some (some v)->∃c o u,cl.lookup x=some c/\base.get? c=some o/\o.data=.cell (some u)/\RelV v u):
  Inv (jD P w K mg base N G.lq scope f (.ref c') cl A outer s H E₀) [] σ H { s with heap:=h1,toks:=tk }:=by
 have noA:∀b:ah,b∉(jD P w K mg base N G.lq scope f (.ref c') cl A outer s H E₀).ex:=λb z=>absurd (show b∈([]:List ah) from z) (by simp);have kfree:∀x,scope.names.lookup x=some .free->x∈N:=λx e=>S.all _ (fg e) rfl;refine⟨⟨e0.mod,S.kind,rfl,rfl,ao _,L.inj,λx hx=>?_,λx c z=>(nomatch z),λ_=>hd,Ah e0.frames,.inr ⟨rfl,rfl⟩,λb z=>absurd z (noA b),e0.bs,e0.bsz,λb _ _=>noA b,λb z=>absurd z (noA b),e0.funs,e0.frf⟩,
  rfl,e0.bare,Un.kept hk1,⟨_,hns,λi x v h1' h2 h3=>?_⟩,λx c e=>?_,e0.hok.fresh (ao _),λx c e=>?_,λp hp=>absurd (show p∈([]:List (ah×Obj)) from hp) (by simp),e0.hok.kept hk1,hσ⟩
 ·have hx:scope.names.lookup x=some .cell∨scope.names.lookup x=some .free:=hx
  rcases hx with hx|hx
  ·exact absurd rfl (S.nocell _ (fg hx))
  ·obtain⟨i,hi⟩:=List.getElem?_of_mem (kfree x hx);exact L.at_ i x hi
 ·obtain⟨c,o,u,e1,e2,e3,r⟩:=hv i x v h1' h2;refine⟨u,r,.inr ⟨.inr (S.fr x (cb h1')),c,e1,o,hk1 _ _ (e0.bs _ _ e2).1,e3⟩⟩
 ·obtain⟨o,u,e2,e3⟩:=L.cell x c e;exact⟨u,o,hk1 _ _ (e0.bs _ _ e2).1,e3⟩
 ·obtain⟨o,u,e2,e3⟩:=L.cell x c e;exact(e0.bs _ _ e2).2
theorem WS {me:M Dv}{Q:VK}(S:LamScope N scope) (hK:K=G.K) (hb:∀(cl:List (Str×ah)) (pm cdv ct:af),bindArgs (ph "<lambda>" G.lq params body scope cl pm cdv ct) ⟨[],[]⟩=pure [])
  (hbody:∀(f:ah) (cdv:af) (cl:List (Str×ah)) (A:cj) (outer:List Env) (s:ag) (H:Hp) (E₀ E:XK),Good (jD P w K mg base N G.lq scope f cdv cl A outer s H E₀) G E k->aK (jD P w K mg base N G.lq scope f cdv cl A outer s H E₀) G E body me)
  (hr:Room (k+1) A) (e0:Env0 P w K mg base A outer s H) (L:LamAt G base H μ h.length N params body scope f c' cl ds) (hall:∀x c,cl.lookup x=some c->x∈N) (sm:Sim G μ h H) (o:Out G E μ h.length H (me (ds.map some) h) (RelD G) Q):
  codeAny (model P w) A (.call (.ref f) ⟨[],[]⟩) (CR (aZ P w base) outer P w H s Q E) s:=by
 obtain⟨pm,ctv,ho⟩:=L.ob;obtain⟨oc,hc,vs,t,hcd,hq⟩:=L.cd;have lim:s.heap.NoLimit:=e0.mod.nolimit.keeps λb o e=>(e0.bs b o e).1;have gc:s.heap.get? c'=some oc:=(e0.hok c' _ hc).1;refine PySem.W.kla_callFunE hr.depth (e0.hok f _ ho).1 rfl S.co S.gen rfl ⟨c',oc,vs,t,rfl,gc,hcd,hq⟩ ?_;rw[hb];refine aj (wpAny_newFunctionEnv S.nocell (λx hx=>absurd hx (by simp)) (λh₁ hns hsb=>⟨lim.fresh _ hsb, ?_⟩) S.kind);show codeAny _ _ (.expr body (mq G.lq scope s.heap.objs.size f (.ref c') cl)) _ _;have hk₁:∀b o,s.heap.get? b=some o->h₁.get? b=some o:=λb o e=>hsb.extBut b o (ay (ar e)) (ak _ e);have hvs:∀(i:Nat),i<N.length->∃v:V,∀d,ds[i]?=some d->RelD G μ h.length H d v/\∀x,N[i]?=some x->∃c o u,cl.lookup x=some c/\base.get? c=some o/\o.data=.cell (some u)/\RelV v u:=λi hi=>by
  obtain⟨x,hx⟩:∃x,N[i]?=some x:=⟨_,az hi⟩
  obtain⟨d,hd⟩:∃d,ds[i]?=some d:=⟨_,az (by rw[L.len];exact hi)⟩
  obtain⟨c,ec⟩:=L.at_ i x hx;obtain⟨oo,u,v,e1,e2,r1,r2⟩:=L.val i x c d hx hd ec;refine⟨v,λd' hd'=>?_⟩;rw[hd]at hd';cases hd';refine⟨r2,λx' hx'=>?_⟩;rw[hx]at hx';cases hx';exact⟨c,oo,u,ec,e1,e2,r1⟩
 have hch:∃vs:List V,vs.length=N.length/\∀(i:Nat) (v:V),vs[i]?=some v->∀d,ds[i]?=some d->RelD G μ h.length H d v/\∀x,N[i]?=some x->∃c o u,cl.lookup x=some c/\base.get? c=some o/\o.data=.cell (some u)/\RelV v u:=by
  have:∀m,m<=N.length->∃vs:List V,vs.length=m/\∀(i:Nat) (v:V),vs[i]?=some v->∀d,ds[i]?=some d->RelD G μ h.length H d v/\∀x,N[i]?=some x->∃c o u,cl.lookup x=some c/\base.get? c=some o/\o.data=.cell (some u)/\RelV v u:=by
   intro m
   induction m with
   |zero=>exact λ_=>⟨[],rfl,λi v e=>by simp at e⟩
   |succ m ih=>
    intro hm;obtain⟨vs,hl,hv⟩:=ih (by omega);obtain⟨v,hv'⟩:=hvs m (by omega);refine⟨vs++[v],by simp[hl],λi v' e d hd=>?_⟩
    by_cases hi:i<vs.length
    ·rw[du hi]at e;exact hv i v' e d hd
    ·rw[fh (by omega)]at e;have:i=m:=by have:=(bc.mp e).1;simp at this;omega
     subst this;simp[hl]at e;subst e;exact hv' d hd
  exact this _ (ao _)
 obtain⟨vs',hl,hv⟩:=hch;have I:Inv (jD P w K mg base N G.lq scope f (.ref c') cl A outer s H E) [] (vs'.map some) H { s with heap:=h₁,toks:=s.toks+([]:List (Str×af)).length }:=by
  refine WR S hr.hd e0 L hall hns hk₁ (by simp[hl]) λi x v h1 h2=>?_;have h3:vs'[i]?=some v:=by
   rw[df]at h2
   cases q:vs'[i]? with
   |none=>rw[q]at h2;cases h2
   |some a=>rw[q]at h2;cases h2;rfl
  obtain⟨d,hd⟩:∃d,ds[i]?=some d:=⟨_,az (by rw[L.len];exact(bc.mp h1).1)⟩
  exact(hv i v h3 d hd).2 x h1
 have rs:RelS G μ h.length H (ds.map some) (vs'.map some):=⟨by simp[hl,L.len],λi d e=>by
  have h3:ds[i]?=some d:=by
   rw[df]at e
   cases q:ds[i]? with
   |none=>rw[q]at e;cases e
   |some a=>rw[q]at e;cases e;rfl
  have hi:i<vs'.length:=by rw[hl,<-L.len];exact(bc.mp h3).1
  exact⟨vs'[i],by rw[df,az hi];rfl,(hv i _ (az hi) d h3).1⟩⟩
 have gd:Good (jD P w K mg base N G.lq scope f (.ref c') cl A outer s H E) G (EB G μ h.length H (JB (me (ds.map some) h))) k:=WQ (hr.deeper _) hK (λu H' ⟨c,h',μ',er,x,s',fl⟩=>by
  cases q:me (ds.map some) h with
  |ok d hh=>rw[q]at er;cases er
  |bad=>rw[q]at er;cases er
  |ex c1 h1=>rw[q]at er o;cases er;exact o μ' H' u x s' fl) wM
 refine PySem.W.kla_codeExpr (jx (hbody f (.ref c') cl A outer s H E _ gd hK [] _ (vs'.map some) H Q I ⟨μ,ds.map some,h,rs,sm, ?_⟩) (λu s' ⟨v,H',J,rv,q⟩=>⟨v,H',J.os,J.bare,J.base,J.hok,rv,q⟩) λe s' hs=>hs)
 cases q:me (ds.map some) h with
 |ok d hh=>rw[q]at o;exact o
 |bad=>rw[q]at o;exact o
 |ex c1 h1=>exact λμ' H' u x' s' fl=>⟨c1,h1,μ',rfl,x',s',fl⟩
end
section
variable{X:Cx}{pins:List (ah×Obj)}{σ:St}{H:Hp}{s:ag}
theorem WT {i:Nat}{x:Str}{h':cq}{tk:Nat}{m:Str->Option af}{v:Option af}(I:Inv X pins σ H s) (hN:X.N.Nodup) (hi:X.N[i]?=some x) (hn:s.heap.Ns X.env.locals m)
  (hl:∀(i:Nat) (x:Str) (v:V),X.N[i]?=some x->σ[i]?=some (some v)->lW X.env.scope x->∃u,RelV v u/\FP X.env s.heap m x u)
  (hs:ik X.env.locals s.heap h') (hn':h'.Ns X.env.locals (λy=>if y=x then v else m y)):Inv X pins (σ.set i none) H { s with heap:=h',toks:=tk }:=by
 have cne:=I.cne;have hok:HOk X.prog X.w H h':=λb ob e=>by
  refine(I.hok b ob e).stay (λc w' hc q=>(hs.2 c ?_).trans q) (λ_ q=>q) λ_ _ q=>q
  rintro rfl
  have hfree:=I.free
  rcases hc with hc|hc
  ·rw[<-hc]at e;rw[hfree]at e;cases e
  ·rw[hfree]at hc;cases hc
 refine⟨I.ok,I.os,I.bare,⟨λb o e n hb hx=>?_,λb o e n hb hx=>?_,I.base.free,λb o e hx=>?_,I.base.tups,I.base.frzs,I.base.tbls⟩,⟨_,hn',λj y v' e1 e2 e3=>?_⟩,λy c e=>?_,I.free,I.freeC,λp hp=>?_,hok,by simpa using I.len⟩
 ·exact(hs.2 b (ay (au (ar e) I.ok.above))).trans (I.base.keep b o e n hb hx)
 ·obtain⟨sl,e1⟩:=I.base.slot b o e n hb hx;exact⟨sl,(hs.2 b (ay (au (ar e) I.ok.above))).trans e1⟩
 ·obtain⟨o',e1⟩:=I.base.there b o e hx;exact⟨o',(hs.2 b (ay (au (ar e) I.ok.above))).trans e1⟩
 ·by_cases hj:j=i
  ·subst hj;have hiσ:j<σ.length:=by rw[I.len];exact(bc.mp hi).1
   rw[cz hiσ]at e2;cases e2
  ·rw[dw (cw hj)]at e2;obtain⟨u',r',q⟩:=hl j y v' e1 e2 e3;refine⟨u',r', ?_⟩
   rcases q with⟨k,e⟩|⟨k,c,e,z⟩
   ·refine .inl ⟨k, ?_⟩;have:y≠x:=λe=>hj (zV hN e1 (e▸hi));show(if y=x then v else m y)=some u';rw[if_neg this];exact e
   ·exact .inr ⟨k,c,e,z.sameBut hs (cne y c e)⟩
 ·obtain⟨w',z⟩:=I.cell y c e;exact⟨w',z.sameBut hs (cne y c e)⟩
 ·obtain⟨e,n,ne,nf,d⟩:=I.pin p hp;exact⟨(hs.2 p.1 ne).trans e,n,ne,nf,d⟩
def qG (X:Cx) (e:af):Cx:={ X with A:=X.A.mark (some e),calm:=false,xe:=λ_ _=>False }
theorem JC (e:af) (I:Inv X pins σ H s):Inv (qG X e) pins σ H s:=
 have ok:=I.ok
 ⟨⟨ok.mod,ok.kind,ok.glob,ok.blt,ok.above,ok.inj,ok.has,ok.cab,λz=>(nomatch z),ok.frames,ok.stk,ok.exf,ok.bs,ok.bsz,ok.noex,ok.exfs,ok.funs,ok.frf⟩,I.os,I.bare,I.base,I.loc,I.cell,I.free,I.freeC,I.pin,I.hok,I.len⟩
theorem WU {e:af}(ok:X.Ok) (I:Inv (qG X e) pins σ H s):Inv X pins σ H s:=⟨ok,I.os,I.bare,I.base,I.loc,I.cell,I.free,I.freeC,I.pin,I.hok,I.len⟩
end
section
variable{X:Cx}{G:Cfg}{E:XK}{k:Nat}{N:List Str}{params:jw}{body:bp}{scope:fq}{me:M Dv}{ncl:Nat}{NE:ah}
theorem WV {x xn en nm:Str}{p cpos epos np xp ep apos hpos tpos:Pos}{pins:List (ah×Obj)}{σ:St}{H:Hp}{s:ag}{D:Ends}{f c':ah}{cl:List (Str×ah)}{μ:Nat->ah}{h:Hs}{ds:List Dv}
  (hK:X.K=G.K) (hst:X.stack=X.env::X.outer) (hfr:X.env.frame=some X.env.locals) (hnd:X.N.Nodup) (h0:X.N[0]?=some x) (h1:X.N[1]?=some xn) (h2:X.N[2]?=some en) (hfn:∀y,X.fn y=true)
  (l0:X.env.scope.names.lookup x=some .local) (l1:X.env.scope.names.lookup xn=some .local) (l2:X.env.scope.names.lookup en=some .local)
  (d0:(x==("__debug__" : Str))=false) (c0:(x==("__classdict__" : Str))=false) (d2:(en==("__debug__" : Str))=false) (c2:(en==("__classdict__" : Str))=false) (dn:(nm==("__debug__" : Str))=false)
  (hsw:swapsWith (.Call (.Name x p) [] [] cpos) none epos.line X.env=pure false) (hsw2:swapsWith (.Name en ep) (some (.Name xn xp)) apos.line X.env=pure false)
  (hg:Gl X nm) (hm:X.mg nm=some (.ref NE)) (hx1:jq X.K (.ref NE) (.type "BaseException")=some true) (hx2:jq X.K (.type "type") (.type "tuple")=some false) (hx3:wm X.K (.ref NE) (.ref NE)=some true)
  (hsub:∀c,c<ncl->jq X.K (.ref (G.cl c)) (.ref NE)=some true)
  (S:LamScope N scope) (hb:∀(cl:List (Str×ah)) (pm cdv ct:af),bindArgs (ph "<lambda>" G.lq params body scope cl pm cdv ct) ⟨[],[]⟩=pure [])
  (hbody:∀(f:ah) (cdv:af) (cl:List (Str×ah)) (A:cj) (outer:List Env) (s:ag) (H:Hp) (E₀ E:XK),Good (jD X.prog X.w X.K X.mg X.base N G.lq scope f cdv cl A outer s H E₀) G E k->aK (jD X.prog X.w X.K X.mg X.base N G.lq scope f cdv cl A outer s H E₀) G E body me)
  (hr:Room (k+1) X.A) (I:Inv X pins σ H s) (hσ:σ[0]?=some (some (.ref f))) (L:LamAt G X.base H μ h.length N params body scope f c' cl ds) (hall:∀x c,cl.lookup x=some c->x∈N) (sm:Sim G μ h H)
  (hD:match me (ds.map some) h with
   | .ok _ h1=>∀μ' H',Ext μ h.length H μ' h1.length H'->Sim G μ' h1 H'->D.nx σ H'
   | .ex c h1=>c<ncl/\∀μ' H' a,Ext μ h.length H μ' h1.length H'->Sim G μ' h1 H'->RelD G μ' h1.length H' (.exc c) (.ref a)->D.nx (((σ.set 2 (some (.ref a))).set 1 (some (.ref a))).set 2 none) H'
   | .bad=>False):
  wpAny (model X.prog X.w) X.A (exec (.Try [.Expr (.Call (.Name x p) [] [] cpos) epos] [.ExceptHandler (some (.Name nm np)) (some en) [.Assign [.Name xn xp] (.Name en ep) apos] hpos] [] [] tpos) X.env) (SP X pins D) X.xe s:=by
 have hcls:(X.env.scope.kind==.class||(X.env.scope.kind==.module&&X.env.locals != X.env.globals))=false:=by rw[I.ok.kind];rfl
 refine wpAny_Try_except ?_;obtain⟨pm,ctv,ho⟩:=L.ob;refine pf (wpAny_Expr_any (qt (aW (jx (uY (X:=X.nox) (pos:=p) h0 (.inl l0) d0 c0 pins s σ H (λv H'=>v=.ref f/\H'=H) (I.wish _) ⟨_,hσ,rfl,rfl⟩) (λ_ _ q=>q) λ_ _ z=>iu z) λu s1 ⟨v,H',I',r,e1,e2⟩=>?_)) I.quiet hsw);subst e1;subst e2;cases r;have I1:Inv X pins σ H' s1:=I'.unwish;refine PySem.W.callWith_F0 ⟨_,_,_,_,(I1.hok f _ ho).1⟩ ?_;refine wpAny_call (qf (WS (E:=EB G μ h.length H' (JB (me (ds.map some) h))) (Q:=λ_ H2=>∃d hh μ',me (ds.map some) h=.ok d hh/\Ext μ h.length H' μ' hh.length H2/\Sim G μ' hh H2) S hK hb hbody hr I1.env0 L hall sm ?_) λr s' hq=>?_)
 ·cases q:me (ds.map some) h with
  |ok d hh=>exact λμ' H' v x' s' _=>⟨d,hh,μ',rfl,x',s'⟩
  |bad=>rw[q]at hD;exact hD.elim
  |ex c1 h1=>exact λμ' H' u x' s' fl=>⟨c1,h1,μ',rfl,x',s',fl⟩
 cases r with
 |ok fl=>
  cases fl with
  |ret u=>obtain⟨v,H2,I2,r2,d,hh,μ',e1,x1,s1⟩:=I1.after hq;refine mw (mw ?_);rw[e1]at hD;exact⟨σ,H2,I2,hD μ' H2 x1 s1⟩
  |next=>exact iu hq
  |brk=>exact iu hq
  |cont=>exact iu hq
 |error ev=>
  obtain⟨e,C,H2,rfl,os,bare,un,hok,fl,c,hh,μ',er,x1,sm1,e',φ,eu,g1,g2⟩:=hq;cases eu
  cases qm:me (ds.map some) h with
  |ok d h3=>rw[qm]at er;cases er
  |bad=>rw[qm]at er;cases er
  |ex c3 h3=>
  rw[qm]at er hD;cases er;obtain⟨hc,hD⟩:=hD;have I2:Inv X pins σ H2 s':=I1.call' os un hok bare (λb z=>absurd z (by simp));refine BC (P:=X.prog) (w:=X.w) (H:=H2) (base:=X.base) (env:=X.env) (outer:=X.outer) (by rw[<-hst];exact I2.ok.frames) (by rw[<-hst];exact I2.stack) hfr hok (by rw[<-hst];exact I2.stkFree) fl λh4 H4 un4 hok4 fl4 sx4=>?_;have I4:Inv X pins σ H4 { s' with heap:=h4 }:=I2.call (h':=h4) (g':=s'.gens) (d':=s'.drawn) (t':=s'.toks) (by rw[hst];exact un4) hok4 I2.bare (λb z=>absurd z (by simp));obtain⟨sm4,x4⟩:=sm1.sameX sx4 ⟨_,g1⟩;obtain⟨T,a0,w1,w2,w3,w4⟩:=id fl4;obtain⟨T0,b0,v1,_,_,_⟩:=id fl;have hC:C=.ref (G.cl c):=by have xo:dJ C e T0 b0 s'.heap:=(show ObjOk X.prog X.w H2 s'.heap e _ from hok e _ v1).1;rw[v1]at g1;cases g1;obtain⟨oo,q1,q2⟩:=g2 _ xo;obtain⟨o2,vs2,q3,q4,_⟩:=xo;rw[q3]at q1;cases q1;rw[<-q4,q2]
  subst hC;have xo4:dJ (.ref (G.cl c)) e T a0 h4:=(show ObjOk X.prog X.w H4 h4 e _ from hok4 e _ w1).1;obtain⟨oe,vs,y1,y2,y3,y4,y5,y6⟩:=id xo4;refine wpAny_handleBy_cons (codeAny_handlers_test (jx (uZ (X:=qG X (.ref e)) (E:=λ_ _=>False) (Q:=λu s5=>u=.ref NE/\Inv X pins σ H4 s5/\s5.heap=h4) (JC _ I4) hg hm ⟨rfl,I4,rfl⟩ dn) (λcv s5 hs5=>?_) λ_ _ z=>iu z)) (by intro z;cases z);obtain⟨rfl,I5,e5⟩:=hs5;refine WO (K:=X.K) I5.kIn (by rw[e5];exact y1) y2 hx1 hx2 hx3 (hsub c hc) ?_;obtain⟨oT,ts,z1,z2,z3⟩:dU T h4:=(show ObjOk X.prog X.w H4 h4 T _ from hok4 T _ w2).1;have l3:3<ts.size:=(dj.mp z3).1;refine codeAny_handlers_suite_as (IE (e:=e) (T:=T) (by rw[e5];exact y1) y3 y5 (by rw[e5];exact z1) z2 l3 λh6 sb6 tb6=>?_);rw[e5]at sb6;have ge6:h6.get? e=some oe:=sb6.extBut _ _ (cw w4) y1;have I6:Inv X pins σ (aQ H4 T (.ext (dU T))) { s5 with heap:=h6 }:=I5.write (x:=T) (e:=T) (o:=.ext (dU T)) (h':=h6) (t':=s5.toks) (by rw[w2];trivial) (.inl rfl) (λb u hb q=>by rw[e5]at q;exact sb6.extBut _ _ hb q) (let ⟨oo,_,q,_⟩:=tb6;⟨oo,q⟩) (wJ tb6);have se:Same H4 (aQ H4 T (.ext (dU T))):=λb o q=>by
   by_cases hb:b=T
   ·subst hb;rw[w2]at q;cases q;exact cS
   ·rw[bN hb];exact q
  have w1':(aQ H4 T (.ext (dU T))) e=some (.ext (dJ (.ref (G.cl c)) e T a0)):=se _ _ w1;have I7:Inv X pins σ (aQ (aQ H4 T (.ext (dU T))) e (.frz oe (.own 0))) { s5 with heap:=h6 }:=I6.write (x:=e) (e:=e) (o:=.frz oe (.own 0)) (h':=h6) (t':=s5.toks) (by rw[w1'];trivial) (.inl rfl) (λb u hb q=>q) ⟨_,ge6⟩ ⟨ge6,oe,ge6⟩;have sx7:sV e (aQ H4 T (.ext (dU T))) (aQ (aQ H4 T (.ext (dU T))) e (.frz oe (.own 0))):=λb o hb q=>by rw[bN hb];exact q
  obtain⟨sm7,x7⟩:=(sm4.same se).sameX sx7 ⟨_,w1'⟩;have xx:Ext μ h.length H' μ' hh.length (aQ (aQ H4 T (.ext (dU T))) e (.frz oe (.own 0))):=x1.trans ((x4 _).trans ((Ext.same se).trans (x7 _)));generalize hH7:aQ (aQ H4 T (.ext (dU T))) e (.frz oe (.own 0))=H7 at *;have rl:RelD G μ' hh.length H7 (.exc c) (.ref e):=by rw[RelD,<-hH7];exact⟨e,oe,.own 0,rfl,cS,y2,y6,vs,y3⟩
  refine zW (v:=.ref e) I7 hnd h2 (.inl l2) rfl (λs8 I8=>?_) (.inr l2);have I8':Inv (qG X (.ref e)) pins (σ.set 2 (some (.ref e))) H7 s8:=JC _ I8;have hlen:2<σ.length:=by rw[I.len];exact(bc.mp h2).1
  refine jx (FW (zZ (X:=qG X (.ref e)) (i:=1) (pos:=apos) (pos':=xp) hnd h1 (.inl l1) (uY (X:=qG X (.ref e)) (pos:=ep) h2 (.inl l2) d2 c2) hsw2 (.inr l1)) pins s8 (σ.set 2 (some (.ref e))) H7 { nx:=λσ' H'=>σ'=(σ.set 2 (some (.ref e))).set 1 (some (.ref e))/\H'=H7,rt:=λ_ _=>False } I8' ⟨.ref e,cz hlen,rfl,rfl⟩) (λfl9 s9 hs9=>?_) λ_ _ z=>iu z
  cases fl9 with
  |ret u=>obtain⟨_,_,_,_,_,z⟩:=hs9;exact z.elim
  |brk=>obtain⟨_,_,_,z⟩:=hs9;exact z.elim
  |cont=>obtain⟨_,_,_,z⟩:=hs9;exact z.elim
  |next=>obtain⟨σ9,H9,I9,e9,f9⟩:=hs9;subst e9;subst f9;have I9':Inv X pins _ H9 s9:=WU I8.ok I9;obtain⟨m,hn,hl⟩:=id I9'.loc;refine wpAny_nameGoes_keeps l2 hn hcls λh10 v10 hn10 hs10=>?_;exact⟨_,H9,WT I9' hnd h2 hn hl hs10 hn10,hD μ' H9 e xx sm7 rl⟩
end
def tD:Sr->Rs Dv
 | .rt d h=>.ok d h
 | .nx _ h=>.ok .non h
 |_=>.bad
def nK (n:Nat) (d:Dv):Ev:=none::some d::br (n - 2) none
def tE (n ncl:Nat) (mb:MS):Rs Dv->Rs Dv
 | .ok _ h1=>tD (mb (nK n .non) h1)
 | .ex c h1=>if c<ncl then tD (mb (nK n (.exc c)) h1)else .bad
 | .bad=>.bad
def iO (G:Cfg) (base:cq) (Nl:List Str) (params:jw) (body:bp) (scope:fq) (me:M Dv) (n ncl:Nat) (mb:MS):Sp:=λvs H Q E=>∃f c' cl ds μ h,vs=[.ref f]/\LamAt G base H μ h.length Nl params body scope f c' cl ds/\(∀x c,cl.lookup x=some c->x∈Nl)/\Sim G μ h H/\Out G E μ h.length H (tE n ncl mb (me (ds.map some) h)) (RelD G) Q
theorem JD {G:Cfg}{E:XK}{μ μ1:Nat->ah}{n n1:Nat}{H H1:Hp}{r:Sr}{Q:VK}(o:Out G E μ n H (tD r) (RelD G) Q) (x:Ext μ n H μ1 n1 H1):SOut G (λ_ _ _=>False) μ1 n1 H1 r { nx:=λ_ H'=>Q .non H',rt:=Q }:=by
 cases r with
 |nx ρ h'=>exact λμ' H' σ' y s _=>o μ' H' .non (x.trans y) s rfl
 |rt d h'=>exact λμ' H' v y s r=>o μ' H' v (x.trans y) s r
 |bk ρ h'=>exact o.elim
 |ct ρ h'=>exact o.elim
 |ex c h'=>exact o.elim
 |bad=>exact o
theorem JE {G:Cfg}{μ:Nat->ah}{n:Nat}{H:Hp}{m:Nat}{d:Dv}{v:V}{σ:St}(hl:σ.length=m) (hm:2<=m) (h1:σ[1]?=some (some v)) (r:RelD G μ n H d v):RelS G μ n H (nK m d) σ:=by
 refine⟨by simp[nK,hl];omega,λi d' e=>?_⟩;unfold nK at e
 match i,e with
 |0,e=>simp at e
 |1,e=>simp at e;subst e;exact⟨v,h1,r⟩
 |i+2,e=>
  simp only[rf,qv]at e
  split at e <;> cases e
section
variable{P:bj}{w:cm}{K:aq}{mg:Str->Option af}{base:cq}{f:ah}{G:Cfg}{k:Nat}{Nm Nl:List Str}{params:jw}{body:bp}{scope:fq}{me:M Dv}{ncl:Nat}{NE:ah}{mb:MS}
theorem WW {x xn en nm q qual:Str}{st:gy}{fd:bq}{p cpos epos np xp ep apos hpos tpos zpos zp npos:Pos}{j:Nat}{rest:List gy}(Fn:Fun K q qual st f fd) (S:FnScope Nm [x] (aO st)) (hK:K=G.K)
  (hdef:eZ st=.Assign [.Name xn zp] (.Constant .none j npos) zpos::.Try [.Expr (.Call (.Name x p) [] [] cpos) epos] [.ExceptHandler (some (.Name nm np)) (some en) [.Assign [.Name xn xp] (.Name en ep) apos] hpos] [] [] tpos::rest)
  (h0:Nm[0]?=some x) (h1:Nm[1]?=some xn) (h2:Nm[2]?=some en)
  (l0:(aO st).names.lookup x=some .local) (l1:(aO st).names.lookup xn=some .local) (l2:(aO st).names.lookup en=some .local)
  (d0:(x==("__debug__" : Str))=false) (c0:(x==("__classdict__" : Str))=false) (d2:(en==("__debug__" : Str))=false) (c2:(en==("__classdict__" : Str))=false) (dn:(nm==("__debug__" : Str))=false)
  (hsw:∀L cd,swapsWith (.Call (.Name x p) [] [] cpos) none epos.line (envOfC qual (aO st) L f cd)=pure false) (hsw2:∀L cd,swapsWith (.Name en ep) (some (.Name xn xp)) apos.line (envOfC qual (aO st) L f cd)=pure false)
  (hsw3:∀L cd,swapsWith (.Constant .none j npos) (some (.Name xn zp)) zpos.line (envOfC qual (aO st) L f cd)=pure false)
  (hg:(aO st).names.lookup nm=some .globalImplicit) (hm:mg nm=some (.ref NE)) (hx1:jq K (.ref NE) (.type "BaseException")=some true) (hx2:jq K (.type "type") (.type "tuple")=some false) (hx3:wm K (.ref NE) (.ref NE)=some true)
  (hsub:∀c,c<ncl->jq K (.ref (G.cl c)) (.ref NE)=some true)
  (LS:LamScope Nl scope) (hb:∀(cl:List (Str×ah)) (pm cdv ct:af),bindArgs (ph "<lambda>" G.lq params body scope cl pm cdv ct) ⟨[],[]⟩=pure [])
  (hbody:∀(f:ah) (cdv:af) (cl:List (Str×ah)) (A:cj) (outer:List Env) (s:ag) (H:Hp) (E₀ E:XK),Good (jD P w K mg base Nl G.lq scope f cdv cl A outer s H E₀) G E k->aK (jD P w K mg base Nl G.lq scope f cdv cl A outer s H E₀) G E body me)
  (hrest:∀(cdv:af) (A:cj) (outer:List Env) (s:ag) (H:Hp) (E₀ E:XK),Good (eQ (aZ P w base) P w K mg base Nm qual (aO st) f cdv A outer s H E₀) G E (k+1)->iN (eQ (aZ P w base) P w K mg base Nm qual (aO st) f cdv A outer s H E₀) G E rest mb):
  FnOk P w K mg base (aZ P w base) (k+2) f fd [x] (iO G base Nl params body scope me Nm.length ncl mb):=by
 obtain⟨oc,od,kV,doc,pm,an,cdv,ct,osl,rfl,lk,hcd⟩:=Fn.ex;have hNl:2<Nm.length:=(bc.mp h2).1;refine vE lk hcd S (λvs H Q E ⟨f,c',cl,ds,μ,h,e,_⟩=>by rw[e];rfl) λA outer s H vs Q E hr hsp=>?_;obtain⟨fl,c',cl,ds,μ,h,rfl,L,hall,sm,o⟩:=hsp;refine⟨λD σ H1=>σ=start Nm [.ref fl]/\H1=H/\D={ nx:=λ_ H'=>Q .non H',rt:=Q }, ?_,rfl,rfl,rfl⟩;intro pins s1 σ H1 D I ⟨eσ,eH,eD⟩;subst eH;have hσl:σ.length=Nm.length:=I.len;have hσ0:σ[0]?=some (some (.ref fl)):=by rw[eσ];rfl
 rw[hdef];have gd:Good (eQ (aZ P w base) P w K mg base Nm qual (aO st) f cdv A outer s H1 E) G (λ_ _ _=>False) (k+1):=wK hr hK (λ_ _ z=>z.elim) (λ_ _ _ _ _ z=>z);have hset:(σ.set 1 (some .non))[0]?=some (some (.ref fl)):=by rw[dw (by decide)];exact hσ0
 refine pf (aW (zZ (X:=eQ (aZ P w base) P w K mg base Nm qual (aO st) f cdv A outer s H1 E) (i:=1) (pos:=zpos) (pos':=zp) S.nd h1 (.inl l1) (FR (j:=j) (pos:=npos)) (hsw3 _ _) (.inl rfl) pins s1 σ H1 { nx:=λσ' H'=>σ'=σ.set 1 (some .non)/\H'=H1,rt:=λ_ _=>False } I ⟨rfl,rfl⟩) λfl2 s2 q2=>?_)
 cases fl2 with
 |ret u=>obtain⟨_,_,_,_,_,z⟩:=q2;exact z.elim
 |brk=>obtain⟨_,_,_,z⟩:=q2;exact z.elim
 |cont=>obtain⟨_,_,_,z⟩:=q2;exact z.elim
 |next=>
  obtain⟨σ2,H2,I2,e2,f2⟩:=q2;subst e2;subst f2;refine pf (aW (WV (X:=eQ (aZ P w base) P w K mg base Nm qual (aO st) f cdv A outer s H2 E) (G:=G) (N:=Nl) (me:=me) (ncl:=ncl) (NE:=NE) (k:=k) (D:={ nx:=wD G (λ_ _ _=>False) mb D,rt:=λ_ _=>False })
   hK rfl rfl S.nd h0 h1 h2 (λ_=>rfl) l0 l1 l2 d0 c0 d2 c2 dn (hsw _ _) (hsw2 _ _) hg hm hx1 hx2 hx3 hsub LS hb hbody hr I2 hset L hall sm ?_) λfl3 s3 q3=>?_)
  ·cases qm:me (ds.map some) h with
   |bad=>rw[qm]at o;exact o
   |ok d hh=>rw[qm]at o;intro μ' H' x' s';refine⟨μ',nK Nm.length .non,hh,JE (v:=.non) (by rw[ki];exact hσl) (by omega) (cz (by omega)) rfl,s', ?_⟩;rw[eD];exact JD o x'
   |ex c hh=>
    rw[qm]at o;unfold tE at o;dsimp only at o
    split at o
    ·rename_i hc;refine⟨hc,λμ' H' a x' s' r'=>?_⟩;refine⟨μ',nK Nm.length (.exc c),hh,JE (v:=.ref a) (by simp only[ki];exact hσl) (by omega) ?_ r',s', ?_⟩
     ·rw[dw (by decide),cz (by simp only[ki];omega)]
     ·rw[eD];exact JD o x'
    ·exact o.elim
  ·cases fl3 with
   |ret u=>obtain⟨_,_,_,_,_,z⟩:=q3;exact z.elim
   |brk=>obtain⟨_,_,_,z⟩:=q3;exact z.elim
   |cont=>obtain⟨_,_,_,z⟩:=q3;exact z.elim
   |next=>obtain⟨σ3,H3,I3,q3⟩:=q3;exact hrest cdv A outer s H2 E _ gd hK pins s3 σ3 H3 D I3 q3
end
theorem WX:∀(l:List af) (a b:Int) (t u:Tok) (c:af),vj l->vj (l++[.int a t,.int b u,c]):=by
 intro l a b t u c h
 fun_induction vj l with
 |case1=>trivial
 |case2 x t y u z rest ih=>exact ih h
 |case3 l h1 h2=>exact h.elim
theorem WY {pos:Pos}{cv c:af}{a b:Int}{t u:Tok}:∀(l:List af),vj l->codeAmong pos (l++[.int a t,.int b u,c])=some cv->codeAmong pos l=some cv∨cv=c:=by
 intro l h
 fun_induction vj l with
 |case1=>
  intro e;simp only[List.nil_append,codeAmong]at e
  split at e
  ·cases e;exact .inr rfl
  ·cases e
 |case2 x t y u z rest ih=>
  intro e;simp only[List.cons_append,codeAmong]at e ⊢
  split at e
  ·rename_i hc;rw[if_pos hc];exact .inl e
  ·rename_i hc;rw[if_neg hc];exact ih h e
 |case3 l h1 h2=>exact h.elim
def kG (mg:Str->Option af) (base:cq):Prop:=∃bm ob,mg "__builtins__" = some (.ref bm)/\bm≠builtinsNs/\base.get? bm=some ob/\ob.cls=.type "module"/\ob.dict=some builtinsNs/\ob.data=.plain
def WZ (H H':Hp):Prop:=∀a o,(∀ps,o≠.tbl ps)->H a=some o->H' a=some o
section
variable{X:Cx}{G:Cfg}{params:jw}{body:bp}{scope:fq}{lpos:Pos}{c P:ah}
theorem W0 (hdef:defaultsOf params X.env=([],[])) (hq:X.env.qual ++ "<lambda>" = G.lq) (hP:G.tab=some P) (hcode:X.env.code=.ref c) (hC:jv X.base c P) (hB:kG X.mg X.base)
  (hfree:∀x,(x,bz)∈scope.names->X.env.kindOf x=some .cell∨X.env.kindOf x=some .free):
  PE X (.Lambda params body scope lpos) (λσ H Q=>TabOk G H/\∀f c' pm ctv oc H1,H f=none->WZ H H1->TabOk G H1->H1 f=some (.frz (jz "<lambda>" G.lq params body scope (cW X.env scope.names []) pm c' ctv) (.own 0))->H1 c'=some (.frz oc (.own 0))->vU G.lq oc->Q (.ref f) H1):=by
 intro pins s σ H Q I ⟨hT,h⟩;obtain⟨ps,t1,t2,t3⟩:=hT P hP;have gP:s.heap.get? P=some (sy ps):=I.hok P _ t1;have hcl:closureFor scope X.env=pure (cW X.env scope.names []):=vK λx hx=>I.ok.has x (hfree x hx);have hgs:s.heap.Ns da X.mg:=I.mod.glob.keeps I.bk;obtain⟨bm,ob,b1,b2,b3,b4,b5,b6⟩:=hB;have b3':=I.bk _ _ b3;have hgP:da≠P:=λq=>by obtain⟨o,es,ep,e,hd,_⟩:=hgs;rw[q,gP]at e;cases e;cases hd
 have hbP:bm≠P:=λq=>by rw[q,gP]at b3';cases b3';cases b4
 have hbG:bm≠da:=λq=>by obtain⟨o,es,ep,e,hd,_⟩:=hgs;rw[<-q,b3']at e;cases e;rw[hd]at b6;cases b6
 have hba:s.heap.BuiltinsAt X.mg P:=⟨bm,ob,b1,b2,hbG,hbP,b3',b4,b5,b6⟩
 refine PySem.W.kla_eval hdef ?_;rw[hq]
 cases hc:codeAmong lpos ps.toList with
 |some cv=>obtain⟨c',oc,ec,h2,h3⟩:=t3 lpos cv hc;subst ec;refine PySem.W.kla_makeFunctionHit (mg:=X.mg) hcl I.ok.glob hgs hcode (hC.keeps I.bk) gP t2 hc hba λctv h' tk hk hsz=>?_;have hn:H h'.objs.size=none:=I.hok.fresh hsz;have kk:∀b u,s.heap.get? b=some u->(h'.push { cls:=.type "function",data:=.func (ph "<lambda>" G.lq params body scope (cW X.env scope.names []) ((X.mg "__name__").getD .none) (.ref c') ctv) }).get? b=some u:=λb u q=>ak _ (hk b u q);have gf:=bg h' (o:=jz "<lambda>" G.lq params body scope (cW X.env scope.names []) ((X.mg "__name__").getD .none) c' ctv) rfl;have I1:=I.laid (a:=h'.objs.size) (o:=.frz (jz "<lambda>" G.lq params body scope (cW X.env scope.names []) ((X.mg "__name__").getD .none) c' ctv) (.own 0)) (t':=tk) kk hsz ⟨gf,_,gf⟩;have sm:Same H (aQ H h'.objs.size (.frz (jz "<lambda>" G.lq params body scope (cW X.env scope.names []) ((X.mg "__name__").getD .none) c' ctv) (.own 0))):=cP hn;exact⟨.ref h'.objs.size,_,I1,rfl,h _ c' _ ctv oc _ hn (λa o _ q=>sm a o q) (hT.keep λa o _ _ q=>sm a o q) cS (sm _ _ h2) h3⟩
 |none=>
  refine PySem.W.kla_makeFunction (mg:=X.mg) hcl I.ok.glob hgs hcode (hC.keeps I.bk) gP t2 hc hgP hba λc' ctv h' tk hx hge hlt hrec htb=>?_;obtain⟨c₂,oc,vs,t,e2,hoc,hd,hv⟩:=hrec;cases e2;generalize hfo:jz "<lambda>" G.lq params body scope (cW X.env scope.names []) ((X.mg "__name__").getD .none) c' ctv=fo;have nfo:fo.isFreed=false:=by rw[<-hfo];rfl
  have gf:(h'.push fo).get? h'.objs.size=some fo:=bg h' nfo;have goc:(h'.push fo).get? c'=some oc:=ak _ hoc;have gP':=ak fo htb;generalize hps:ps++#[rawInt lpos.line,rawInt lpos.col,.ref c']=ps' at gP';have lP:P<s.heap.objs.size:=ar gP;have kk:∀b u,b≠P->s.heap.get? b=some u->(h'.push fo).get? b=some u:=λb u hb q=>ak _ (hx b u hb q);have lt0:∀b u,s.heap.get? b=some u->b<s.heap.objs.size:=λb u q=>ar q;have nPc:P≠c':=ay (au lP hge);have nPf:P≠h'.objs.size:=ay (au lP (cu hge (gh hlt)));have ncf:c'≠h'.objs.size:=ay hlt;have lH:∀b o,H b=some o->b<s.heap.objs.size:=λb o q=>I.hok.lt q;have H1e:∀b,b≠P->b<s.heap.objs.size->aQ (aQ (aQ H P (.tbl ps')) c' (.frz oc (.own 0))) h'.objs.size (.frz fo (.own 0)) b=H b:=λb h1 h2=>by rw[bN (ay (au h2 (cu hge (gh hlt)))),bN (ay (au h2 hge)),bN h1]
  have eP:aQ (aQ (aQ H P (.tbl ps')) c' (.frz oc (.own 0))) h'.objs.size (.frz fo (.own 0)) P=some (.tbl ps'):=by rw[bN nPf,bN nPc,cS]
  have ec:aQ (aQ (aQ H P (.tbl ps')) c' (.frz oc (.own 0))) h'.objs.size (.frz fo (.own 0)) c'=some (.frz oc (.own 0)):=by rw[bN ncf,cS]
  have ef:aQ (aQ (aQ H P (.tbl ps')) c' (.frz oc (.own 0))) h'.objs.size (.frz fo (.own 0)) h'.objs.size=some (.frz fo (.own 0)):=cS;have cases1:∀b o,aQ (aQ (aQ H P (.tbl ps')) c' (.frz oc (.own 0))) h'.objs.size (.frz fo (.own 0)) b=some o->(b=h'.objs.size/\o=.frz fo (.own 0))∨(b=c'/\o=.frz oc (.own 0))∨(b=P/\o=.tbl ps')∨(b≠P/\H b=some o):=λb o q=>by
   by_cases q1:b=h'.objs.size
   ·subst q1;rw[cS]at q;cases q;exact .inl ⟨rfl,rfl⟩
   rw[bN q1]at q
   by_cases q2:b=c'
   ·subst q2;rw[cS]at q;cases q;exact .inr (.inl ⟨rfl,rfl⟩)
   rw[bN q2]at q
   by_cases q3:b=P
   ·subst q3;rw[cS]at q;cases q;exact .inr (.inr (.inl ⟨rfl,rfl⟩))
   rw[bN q3]at q;exact .inr (.inr (.inr ⟨q3,q⟩))
  generalize aQ (aQ (aQ H P (.tbl ps')) c' (.frz oc (.own 0))) h'.objs.size (.frz fo (.own 0))=H1 at *;have keepO:∀b o,(∀ps,o≠.tbl ps)->H b=some o->H1 b=some o:=λb o hn q=>by rw[H1e b (λz=>by subst z;rw[t1]at q;cases q;exact hn _ rfl) (lH b o q)];exact q
  have un:Un X.fs [] H H1 s.heap (h'.push fo):=by
   have nP:∀b,H b=none->b≠P:=λb n z=>by subst z;rw[t1]at n;cases n
   refine⟨λb o q n _ _=>kk b o (nP b n) q,λb o q n _ _=>⟨o.slots,kk b o (nP b n) q⟩,λb o q n _=>by rw[H1e b (nP b n) (lt0 b o q)];exact n,λb o q _=>?_,λb xs q=>keepO b _ (λ_ z=>by cases z) q,λb o u q=>keepO b _ (λ_ z=>by cases z) q,λb qs q=>?_⟩
   ·by_cases hb:b=P
    ·subst hb;exact⟨_,gP'⟩
    ·exact⟨_,kk b o hb q⟩
   ·by_cases hb:b=P
    ·subst hb;rw[t1]at q;cases q;exact⟨#[rawInt lpos.line,rawInt lpos.col,.ref c'],by rw[eP,hps]⟩
    ·exact⟨#[],by rw[H1e b hb (lH b _ q),q];simp⟩
  have hok1:HOk X.prog X.w H1 (h'.push fo):=λb o q=>by
   rcases cases1 b o q with⟨rfl,rfl⟩|⟨rfl,rfl⟩|⟨rfl,rfl⟩|⟨hb,q⟩
   ·exact⟨gf,_,gf⟩
   ·exact⟨goc,_,goc⟩
   ·exact gP'
   ·refine(I.hok b o q).stay (λb2 u hb2 z=>kk b2 u ?_ z) (λb2 z=>keepO b2 _ (λ_ z=>by cases z) z) λb2 xs z=>keepO b2 _ (λ_ z=>by cases z) z
    rcases hb2 with rfl|hb2
    ·exact hb
    ·rintro rfl;rw[t1]at hb2;cases hb2
  have I1:Inv X pins σ H1 { s with heap:=h'.push fo,toks:=tk }:=I.un un hok1;refine⟨.ref h'.objs.size,H1,I1,rfl,h h'.objs.size c' ((X.mg "__name__").getD .none) ctv oc H1 (I.hok.fresh (cu hge (gh hlt))) keepO ?_ (by rw[hfo];exact ef) ec ⟨vs,t,hd,hv⟩⟩;intro P' eP';rw[hP]at eP';cases eP';have hl:ps'.toList=ps.toList++[rawInt lpos.line,rawInt lpos.col,.ref c']:=by rw[<-hps];simp
  refine⟨ps',eP,by rw[hl];exact WX _ _ _ _ _ _ t2,λpos cv q=>?_⟩;rw[hl]at q
  rcases WY _ t2 q with q|q
  ·obtain⟨a,oa,z1,z2,z3⟩:=t3 pos cv q;exact⟨a,oa,z1,keepO a _ (λ_ z=>by cases z) z2,z3⟩
  ·exact⟨c',oc,q,ec,vs,t,hd,hv⟩
end
def nL:List Nat->Ev->Option (List Dv)
 | [],_=>some []
 |i::r,ρ=>match ρ[i]? with
  |some (some d)=>(match nL r ρ with
   |some ds=>some (d::ds)
   |none=>none)
  |_=>none
theorem JF {ρ:Ev}:∀{caps:List Nat}{ds:List Dv},nL caps ρ=some ds->ds.length=caps.length/\∀(i:Nat) (d:Dv),ds[i]?=some d->∃j,caps[i]?=some j/\ρ[j]?=some (some d)
 | [],ds,e=>by unfold nL at e;cases e;exact⟨rfl,λi d e=>by simp at e⟩
 |j::r,ds,e=>by
  unfold nL at e
  split at e
  ·rename_i d0 h0
   split at e
   ·rename_i ds0 h1;cases e;obtain⟨l,k⟩:=JF h1;refine⟨by simp[l],λi d q=>?_⟩
    cases i with
    |zero=>simp at q;subst q;exact⟨j,rfl,h0⟩
    |succ i=>exact k i d (by simpa using q)
   ·cases e
  ·cases e
def iH (base h:cq) (cs:List ah):cq:=PySem.W.hideAll h ((ba h.objs.size).filter λb=>!((base.get? b).isSome||cs.contains b))
theorem BF {base h:cq}{cs:List ah}{b:ah}{o:Obj}(e:h.get? b=some o) (hb:(∃u,base.get? b=some u)∨b∈cs):(iH base h cs).get? b=some o:=
 Af _ e λz=>by
  have:=(iq.mp z).2
  rcases hb with⟨u,hb⟩|hb
  ·simp[hb]at this
  ·simp[hb]at this
theorem BG {base h:cq}{cs:List ah}{b:ah}{o:Obj}(e:(iH base h cs).get? b=some o):h.get? b=some o/\((∃u,base.get? b=some u)∨b∈cs):=by
 have e1:=Am _ e;refine⟨e1, ?_⟩
 by_cases hb:(∃u,base.get? b=some u)∨b∈cs
 ·exact hb
 ·exfalso
  have hm:b∈(ba h.objs.size).filter λb=>!((base.get? b).isSome||cs.contains b):=by
   refine iq.mpr ⟨bw.mpr (ar e1), ?_⟩
   cases q:base.get? b with
   |some u=>exact absurd (.inl ⟨u,q⟩) hb
   |none=>have:b∉cs:=λz=>hb (.inr z);simp[this]
  have:=Ac (h:=h) _ hm;unfold iH at e;rw[this]at e;cases e
theorem W2 {env:Env}{scope:fq}{x:Str}{c:ah}(hf:∀x,(x,bz)∈scope.names->∃c,env.cells.lookup x=some c) (e:(cW env scope.names []).lookup x=some c):(x,bz)∈scope.names/\env.cells.lookup x=some c:=by
 rcases vL _ _ e with q|⟨q1,q2⟩
 ·cases q
 ·obtain⟨c',h'⟩:=hf x q1;rw[h']at q2;subst q2;exact⟨q1,h'⟩
section
variable{X:Cx}{G:Cfg}{E:XK}{k:Nat}{q x:Str}{p pos lpos:Pos}{params:jw}{body:bp}{scope:fq}{c P fr:ah}{fdr:bq}{Nl:List Str}{me:M Dv}{n ncl j:Nat}{mb:MS}{caps:List Nat}
end
section
variable{X:Cx}{G:Cfg}
open Classical in
noncomputable def isT (H:Hp) (tx:Dt) (u:af):Bool:=decide (∃v t,RelV v u/\Den jM H t v/\bJ t tx=true)
open Classical in
theorem JG {H:Hp}{tx t:Dt}{u:af}{v:V}(r:RelV v u) (d:Den jM H t v):isT H tx u=bJ t tx:=by
 unfold isT
 cases q:bJ t tx with
 |true=>exact decide_eq_true ⟨v,t,r,d,q⟩
 |false=>refine decide_eq_false λ⟨v',t',r',d',q'⟩=>?_;have e:=r'.inj r;subst e;rw[Den.inj t' t v' d' d,q]at q';cases q'
theorem tF {H:Hp}{tx:Dt}:∀{ts:List Dt}{vs:List V}{us:List af},DenL jM H ts vs->Vals vs us->us.any (isT H tx)=ts.any λt=>bJ t tx
 | [],_,_,d,r=>by rw[DenL]at d;subst d;cases r;rfl
 |t::ts,_,_,d,r=>by
  rw[DenL]at d;obtain⟨v,rr,rfl,d1,d2⟩:=d
  cases r with
  |cons r1 r2=>rw[List.any_cons,List.any_cons,JG r1 d1,tF d2 r2]
def wX (K:aq) (neg:Bool):R2:=λx y H Q=>∃a vs ts tx,y=.ref a/\(SqL K H a vs∨SqT K H a vs)/\DenL jM H ts vs/\Den jM H tx x/\(∀t∈ts,fI t<=bY/\nod t=true)/\nod tx=true/\Q (.bl (if neg then !(ts.any λt=>bJ t tx)else ts.any λt=>bJ t tx)) H
theorem wY {pins:List (ah×Obj)}{σ:St}{H:Hp}{s:ag}{x:V}{v:af}{vs:List V}{its:List af}{ts:List Dt}{tx:Dt}(hu:X.A.units+64<cLine) (I:Inv X pins σ H s) (rx:RelV x v) (r:Vals vs its) (d:DenL jM H ts vs) (dx:Den jM H tx x)
  (ht:∀t∈ts,fI t<=bY/\nod t=true) (nx:nod tx=true):∀y,y∈its.toArray->um X.A.in1 s y v (isT H tx y):=λy hy=>by
 have hy':y∈its:=by simpa using hy
 obtain⟨j,hj,e⟩:=uc.mp hy';have hl:=r.length;obtain⟨u,eu,ru⟩:=r.get (i:=j) (x:=vs[j]'(by omega)) (az (by omega));have:u=y:=by rw[az hj,e]at eu;cases eu;rfl
 subst this;obtain⟨t,et,dt⟩:=d.get (i:=j) (az (by omega:j<vs.length));obtain⟨h1,h2⟩:=ht t (cb et);rw[JG ru dt];exact(AV I.hok bY X.A.in1 t tx _ x _ v h1 (by show X.A.units+1+bY+1<cLine;unfold bY;omega) h2 nx dt dx ru rx).2
theorem JH (hu:X.A.units+64<cLine):OpR X (compareOp .In) (wX X.K false):=by
 intro pins s σ H x y v u Q I r1 r2 ⟨a,vs,ts,tx,e,hs,d,dx,ht,nx,q⟩;subst e;cases r2
 rcases hs with hs|hs
 ·obtain⟨its,r,pl,hz⟩:=I.list hs;refine SeqAt.in_listAt (isT H tx) pl.isList (wY hu I r1 r d dx ht nx) ?_;exact⟨.bl _,H,I,by rw[show its.toArray.any (isT H tx)=its.any (isT H tx)by simp,tF d r];rfl,q⟩
 ·obtain⟨its,r,pl,hz⟩:=I.tuple hs;refine SeqAt.in_tupleAt (isT H tx) pl (wY hu I r1 r d dx ht nx) ?_;exact⟨.bl _,H,I,by rw[show its.toArray.any (isT H tx)=its.any (isT H tx)by simp,tF d r];rfl,q⟩
theorem JI (hu:X.A.units+64<cLine):OpR X (compareOp .NotIn) (wX X.K true):=by
 intro pins s σ H x y v u Q I r1 r2 ⟨a,vs,ts,tx,e,hs,d,dx,ht,nx,q⟩;subst e;cases r2
 rcases hs with hs|hs
 ·obtain⟨its,r,pl,hz⟩:=I.list hs;refine SeqAt.notIn_listAt (isT H tx) pl.isList (wY hu I r1 r d dx ht nx) ?_;exact⟨.bl _,H,I,by rw[show its.toArray.any (isT H tx)=its.any (isT H tx)by simp,tF d r];rfl,q⟩
 ·obtain⟨its,r,pl,hz⟩:=I.tuple hs;refine SeqAt.notIn_tupleAt (isT H tx) pl (wY hu I r1 r d dx ht nx) ?_;exact⟨.bl _,H,I,by rw[show its.toArray.any (isT H tx)=its.any (isT H tx)by simp,tF d r];rfl,q⟩
def nM (scr:List Int) (neg:Bool) (x c:Dv) (h:Hs):Rs Dv:=match fY scr c h with
 |some ys=>match bP (bM bY h) ys,bM bY h x with
  |some ts,some tx=>.ok (.bl (if neg then !(ts.any λt=>bJ t tx)else ts.any λt=>bJ t tx)) h
  |_,_=>.bad
 |none=>.bad
theorem JJ {μ:Nat->ah}{h:Hs}{H:Hp}(s:Sim G μ h H):∀{xs:List Dv}{vs:List V}{ts:List Dt},RelDL G μ h.length H xs vs->bP (bM bY h) xs=some ts->DenL jM H ts vs/\∀t∈ts,fI t<=bY/\nod t=true
 | [],_,_,r,e=>by cases e;rw[RelDL]at r;subst r;exact⟨DenL.nil,λt ht=>by simp at ht⟩
 |x::xs,_,_,r,e=>by
  rw[RelDL]at r;obtain⟨v,rr,rfl,r1,r2⟩:=r;unfold bP at e
  cases q:bM bY h x with
  |none=>rw[q]at e;cases e
  |some y=>
   rw[q]at e;dsimp only at e
   cases q2:bP (bM bY h) xs with
   |none=>rw[q2]at e;cases e
   |some ys=>
    rw[q2]at e;cases e;obtain⟨a1,a2,a3⟩:=pW s _ x v y r1 q;obtain⟨b1,b2⟩:=JJ s r2 q2;refine⟨DenL.cons a1 b1,λt ht=>?_⟩
    rcases bf.mp ht with rfl|ht
    ·exact⟨a2,a3⟩
    ·exact b2 t ht
theorem W3 (neg:Bool):fJ G (wX G.K neg) (nM G.scr neg):=by
 intro E μ h H x y vx vy Q s rx ry o;unfold nM at o
 cases q:fY G.scr y h with
 |none=>rw[q]at o;exact o.elim
 |some ys=>
  rw[q]at o;dsimp only at o
  split at o
  ·rename_i ts tx e1 e2;obtain⟨a,vs,rfl,hs,r⟩:=A3 s ry q;obtain⟨b1,b2⟩:=JJ s r e1;obtain⟨c1,c2,c3⟩:=pW s _ x vx tx rx e2;exact⟨a,vs,ts,tx,rfl,hs,b1,c1,b2,c3,o.val s rfl⟩
  ·exact o.elim
end
section
variable{X:Cx}{G:Cfg}
end
def iI (c:M Bool) (body:MS):Nat->MS
 |0=>λ_ _=>.bad
 |f+1=>λρ h=>(c ρ h).thenS λb h1=>if b=true then(match body ρ h1 with
  | .nx ρ2 h2=>iI c body f ρ2 h2
  | .ct ρ2 h2=>iI c body f ρ2 h2
  | .bk ρ2 h2=>.nx ρ2 h2
  |r=>r)else .nx ρ h1
section
variable{X:Cx}{G:Cfg}{E:XK}{c:bp}{body:List gy}{mc:M Bool}{mb:MS}{pos:Pos}
theorem JK (n:Nat) (hp:yi (model X.prog X.w) X.A X.env X.xe) (hc:gE X G E c mc) (hb:iN X G E body mb):iM X G E (.While c body [] pos) (iI mc mb n):=λhK=>PS.imp (QZ hp (hc hK) (hb hK)) λD σ H ⟨μ,ρ,h,rs,s,o⟩=>by
 refine⟨λm σ H=>∃μ ρ h,RelS G μ h.length H ρ σ/\Sim G μ h H/\SOut G E μ h.length H (iI mc mb m ρ h) D,⟨n,μ,ρ,h,rs,s,o⟩, ?_⟩
 rintro m σ1 H1 ⟨μ1,ρ1,h1,rs1,s1,o1⟩
 cases m with
 |zero=>exact o1.elim
 |succ m=>
  refine HZ rs1 s1 o1 λμ2 b h2 H2 x2 rs2 s2 o2=>?_
  cases b with
  |false=>rw[if_neg (by decide)]at o2 ⊢;exact o2 μ2 H2 σ1 Ext.refl s2 rs2
  |true=>
   rw[if_pos rfl]at o2 ⊢;refine⟨λσ' H'=>∃μ ρ h,RelS G μ h.length H' ρ σ'/\Sim G μ h H'/\SOut G E μ h.length H' (iI mc mb m ρ h) D,λσ' H' z=>⟨m,jy m,z⟩,μ2,ρ1,h2,rs2,s2, ?_⟩
   cases q:mb ρ1 h2 with
   |nx ρ3 h3=>rw[q]at o2;exact λμ4 H4 σ4 x4 s4 oK=>⟨μ4,ρ3,h3,oK,s4,SOut.ext o2 x4⟩
   |ct ρ3 h3=>rw[q]at o2;exact λμ4 H4 σ4 x4 s4 oK=>⟨μ4,ρ3,h3,oK,s4,SOut.ext o2 x4⟩
   |bk ρ3 h3=>rw[q]at o2;exact o2
   |rt d h3=>rw[q]at o2;exact o2
   |ex d h3=>rw[q]at o2;exact o2
   |bad=>rw[q]at o2;exact o2.elim
end
section
variable{X:Cx}{G:Cfg}{E:XK}{e o:bp}{mo me:M Dv}{pos apos cpos np p2:Pos}{y:Str}
def wZ (x i:Dv) (h:Hs):Rs Dv:=match x,i with
 | .ref j,.int n=>match getL h j with
  |some xs=>match fO xs.length n with
   |some k=>match xs[k]? with
    |some d=>if xs.length<=1000000 then .ok d (h.set j (.lst (xs.eraseIdx k)))else .bad
    |none=>.bad
   |none=>.bad
  |none=>.bad
 |_,_=>.bad
theorem JL {μ:Nat->ah}{n:Nat}{H:Hp}:∀{ds:List Dv}{vs:List V}(k:Nat),RelDL G μ n H ds vs->RelDL G μ n H (ds.eraseIdx k) (vs.eraseIdx k)
 | [],_,_,h=>by rw[RelDL]at h;subst h;exact RelDL.nil
 |d::ds,_,0,h=>by rw[RelDL]at h;obtain⟨v,r,rfl,h1,h2⟩:=h;exact h2
 |d::ds,_,k+1,h=>by rw[RelDL]at h;obtain⟨v,r,rfl,h1,h2⟩:=h;exact RelDL.cons h1 (JL k h2)
def tG (mo me:M Dv):M Dv:=λρ h=>(mo ρ h).bind λx h1=>if gS x h1=true then(me ρ h1).bind λd h2=>wZ x d h2 else .bad
theorem W4 (ho:aK X G E (.Name y np) mo) (he:aK X G E e me) (hs:aw [e] X.env=[(false,eval e X.env)]:=by rfl) (hl:(apos.endLine==cpos.line)=true:=by rfl):aK X G E (.Call (.Attribute (.Name y np) "pop" apos) [e] [] cpos) (tG mo me):=λhK=>
 PE.imp (vI md PySem.F.slot_list_pop PySem.F.type_list_pop TU (ho hK) (iA (he hK) jL hs) rfl (by rw[hs];rfl) hl hs rfl) λσ H Q ⟨μ,ρ,h,rs,s,oo⟩=>eR rs s oo λμ1 x h1 vx H1 x1 rs1 s1 r1 o1=>by
  split at o1
  ·rename_i hl;refine⟨wO s1 r1 hl,eR rs1 s1 o1 λμ2 d h2 vd H2 x2 rs2 s2 r2 o2=>?_⟩
   cases x with
   |ref j=>
    cases d with
    |int n=>
     dsimp only[wZ]at o2
     cases q:getL h2 j with
     |none=>rw[q]at o2;exact o2.elim
     |some xs=>
      rw[q]at o2;dsimp only at o2
      cases q2:fO xs.length n with
      |none=>rw[q2]at o2;exact o2.elim
      |some k=>
       rw[q2]at o2;dsimp only at o2
       cases q3:xs[k]? with
       |none=>rw[q3]at o2;exact o2.elim
       |some d'=>
        rw[q3]at o2;dsimp only at o2
        split at o2
        ·rename_i hz;obtain⟨vs,ea,ra⟩:=s2.ob j _ (cM q);obtain⟨_,rfl⟩:=RelD.mono x2 _ _ r1;rw[RelD]at r2;subst r2;obtain⟨v,ev,rv⟩:=ra.get q3;obtain⟨i1,i2,i3,i4⟩:=AH q2;obtain⟨x3,s3⟩:=s2.write (cM q) (JL k ra);exact⟨_,vs,n,k,v,rfl,rfl,ea,by omega,by omega,by rw[ra.length];exact i1,ev,o2 μ2 _ _ x3 s3 (RelD.mono x3 _ _ rv)⟩
        ·exact o2.elim
    |_=>exact o2.elim
   |_=>exact o2.elim
  ·exact o1.elim
def nQ (xs:List Dv) (lo hi:Option Int):List Dv:=(xs.drop (HT.sIx xs.length 0 lo)).take (HT.sIx xs.length xs.length hi - HT.sIx xs.length 0 lo)
theorem JM {μ:Nat->ah}{n:Nat}{H:Hp}{xs:List Dv}{vs:List V}(r:RelDL G μ n H xs vs) (lo hi:Option Int):RelDL G μ n H (nQ xs lo hi) (mZ vs lo hi):=by unfold nQ mZ;rw[r.length];exact(r.drop _).take _
abbrev MO:=Ev->Hs->Rs (Option Int)
def W5 (G:Cfg) (E:XK) (m:MO):TO:=λσ H Q=>∃μ ρ h,RelS G μ h.length H ρ σ/\Sim G μ h H/\Out G E μ h.length H (m ρ h) (λ_ _ _ a b=>b=a) Q
def xA (X:Cx) (G:Cfg) (E:XK) (pe:Option bp) (m:MO):Prop:=X.K=G.K->PO X pe (W5 G E m)
theorem PO.imp {pe:Option bp}{t t':TO}(h:PO X pe t) (i:∀σ H Q,t' σ H Q->t σ H Q):PO X pe t':=λpins s σ H Q I q=>h pins s σ H Q I (i σ H Q q)
def tH:MO:=λ_ h=>.ok none h
def JN:Dv->Hs->Rs (Option Int)
 | .int i,h=>.ok (some i) h
 |_,_=>.bad
def tI (m:M Dv):MO:=λρ h=>(m ρ h).bind JN
theorem W6:xA X G E none tH:=λ_=>PO.imp SQ λσ H Q ⟨μ,ρ,h,rs,s,oo⟩=>oo.val s rfl
theorem W7 (he:aK X G E e me):xA X G E (some e) (tI me):=λhK=>PO.imp (SS (he hK)) λσ H Q ⟨μ,ρ,h,rs,s,oo⟩=>eR rs s oo λμ1 d h1 v H1 x1 rs1 s1 r1 o1=>by
 cases d with
 |int i=>exact⟨i,r1,o1.val s1 rfl⟩
 |_=>exact o1.elim
end
section
variable{X:Cx}{G:Cfg}{E:XK}{pos:Pos}
theorem W8:aK X G E (.Dict [] [] pos) (mC .edc):=λ_ pins s σ H Q I ⟨μ,ρ,h,rs,sm,o⟩=>by have hb:sysModules<s.heap.objs.size:=Nat.lt_trans (by decide) (I.mod.glob.keeps I.bk).lt;have hn:=I.hok.fresh (ao s.heap.objs.size);refine wpAny_Dict_empty ⟨.ref s.heap.objs.size,_,I.laid (a:=s.heap.objs.size) (o:=.dK []) (t':=s.toks) (λ_ _ q=>ak _ q) (ao _) ⟨jl _,beq_eq_false_iff_ne.mpr (cw (ay hb)),[],.nil,Heap.DictOf.new s.heap⟩,rfl, ?_⟩;exact o μ _ _ (Ext.same (cP hn)) (sm.same (cP hn)) ⟨_,rfl,cS⟩
theorem W9 {x:Str}{i:Int}{t:Tok}(hg:Gl X x) (hm:X.mg x=some (.int i t)) (hd:(x==("__debug__" : Str))=false:=by decide):aK X G E (.Name x pos) (mC (.int i)):=λ_=>PE.imp (FT (v:=.int i) hg hm ⟨t,rfl⟩ hd) λσ H Q ⟨μ,ρ,h,rs,s,o⟩=>o.val s (show RelD G μ _ H (.int i) (.int i) from rfl)
def tJ:Dv->Hs->Rs Dv
 | .int i,h=>.ok (.int (-i)) h
 |_,_=>.bad
theorem XA:kC G (rU λi=>.int (-i)) tJ:=by
 intro E μ h H x vx Q s r o
 cases x with
 |int i=>rw[RelD]at r;subst r;exact⟨i,rfl,o.val s rfl⟩
 |_=>exact o.elim
end
section
variable{X:Cx}{G:Cfg}{E:XK}{tg a b c:bp}{p pos:Pos}{ms:M (List Dv)}
end
structure Lawful (lp:bj) (w:cm) (K:aq) (mg:Str->Option af) (base:cq) (k:Nat) (fa:ah) (fd:bq) (x:Str) (P a:ah) (ns:List Int):Prop where
 ex:∃(G:Cfg) (lawF:List Dv->Hs->Rs Dv) (hh:Hs),G.K=K/\G.scr=ns/\G.sa=a/\G.tab=some P/\lawF [.scr] []=.ok (.bl true) hh/\FnOk lp w K mg base (aZ lp w base) k fa fd [x] (cH G lawF)
theorem JO {lp:bj}{w:cm}{K:aq}{mg mb:Str->Option af}{k:Nat}{fa a c P:ah}{fd:bq}{x:Str}{s₁:ag}{vs:List af}{ns:List Int}
  (KX:K.In s₁.heap) (hns:s₁.heap.Ns da mg) (hb:s₁.heap.Ns builtinsNs mb) (hbb:∀x:Str,x ≠ "__name__"->mb x=dv x) (hlim:s₁.heap.NoLimit) (hg:s₁.gens=#[])
  (ha:s₁.heap.get? a=some { cls:=.type "list",data:=.seq vs.toArray }) (hi:lh vs ns) (hl:ns.length<=ck) (hr:Room k callerA)
  (hC:jv s₁.heap c P) (hP:s₁.heap.get? P=some (sy #[])) (hB:kG mg s₁.heap) (hnt:PySem.W.noTabs K=true)
  (F:∀base:cq,K.In base->base.Ns da mg->jv base c P->kG mg base->Lawful lp w K mg base k fa fd x P a ns) (hbind:∀(s:ag) (u:af),Ag s fd ⟨[u],[]⟩ [(x,u)]):
  codeAny (model lp w) callerA (.call (.ref fa) ⟨[.ref a],[]⟩) (λr s'=>r=.ok (.ret (.bool true))/\OldK s₁.heap s'.heap/\s'.os=s₁.os/\rz s'.gens) s₁:=by
 have rv:=rX hi;have lenV:=hi.length;have KP:K.lookup P=none:=by
  cases q:K.lookup P with
  |none=>rfl
  |some o=>have e:=KX P o q;rw[hP]at e;cases e;have:=fy.mp hnt (P,sy #[]) (PySem.W.mem_of_lookupK q);exact absurd (show false=true from this) gp
 have aP:a≠P:=λz=>by rw[z,hP]at ha;cases ha
 have core:∀H:Hp,H P=some (.tbl #[])->FzL K H a (ns.map V.int)->HOk lp w H s₁.heap->(∀b,H b≠none->b=a∨b=P)->(H a≠none->K.lookup a=none)->(∀u,H a=some u->∃o xs,u=.frz o (.lst xs))->
   codeAny (model lp w) callerA (.call (.ref fa) ⟨[.ref a],[]⟩) (λr s'=>r=.ok (.ret (.bool true))/\OldK s₁.heap s'.heap/\s'.os=s₁.os/\rz s'.gens) s₁:=by
  intro H hHP hS hok hA hK hF;have base_of:∀{b:ah}{o:Obj},s₁.heap.get? b=some o->H b=none->(jZ s₁.heap H).get? b=some o:=λe n=>PR e n;have none_of:∀{b:ah},b≠a->b≠P->H b=none:=λ{b} h1 h2=>by
   cases q:H b with
   |none=>rfl
   |some u=>exact((hA b (by rw[q];simp)).elim h1 h2).elim
  have noD:∀{b:ah}{o:Obj}{es:Array DictEntry}{ep:Nat},s₁.heap.get? b=some o->o.data=.dict es ep->H b=none:=λ{b o es ep} e d=>none_of (λz=>by
    subst z;rw[ha]at e;cases e;have d':Data.seq vs.toArray _=Data.dict es ep:=d
    cases d') (λz=>by
    subst z;rw[hP]at e;cases e;have d':Data.fields _=Data.dict es ep:=d
    cases d')
  have nsK:∀{b:ah}{m:Str->Option af},s₁.heap.Ns b m->(jZ s₁.heap H).Ns b m:=λ{b m} ⟨o,es,ep,e,d,r⟩=>⟨o,es,ep,base_of e (noD e d),d,r⟩
  have hKb:K.In (jZ s₁.heap H):=λb o e=>base_of (KX b o e) (by
   cases q:H b with
   |none=>rfl
   |some u=>
    rcases hA b (by rw[q];simp)with z|z
    ·subst z;rw[hK (by rw[q];simp)]at e;cases e
    ·subst z;rw[KP]at e;cases e)
  have hM:Mod K mg (jZ s₁.heap H):=⟨hKb,nsK hns,⟨mb,nsK hb,hbb⟩,let ⟨mc,h1,h2⟩:=hlim;⟨mc,nsK h1,h2⟩⟩
  have hCb:jv (jZ s₁.heap H) c P:=by obtain⟨o,vs',file,tf,flags,tg,inF,text,tt,e1,r1,r⟩:=hC;refine⟨o,vs',file,tf,flags,tg,inF,text,tt,base_of e1 (none_of (λz=>?_) r.2.2.2.2.2.2.2),r1,r⟩;subst z;rw[ha]at e1;cases e1;exact absurd r1 (by intro w;injection w with w;exact absurd w (by decide))
  have hBb:kG mg (jZ s₁.heap H):=by
   obtain⟨bm,ob,b1,b2,b3,b4,b5,b6⟩:=hB;refine⟨bm,ob,b1,b2,base_of b3 (none_of (λz=>?_) (λz=>?_)),b4,b5,b6⟩
   ·subst z;rw[ha]at b3;cases b3;exact absurd b4 (by intro w;injection w with w;exact absurd w (by decide))
   ·subst z;rw[hP]at b3;cases b3;cases b4
  have e0:Env0 lp w K mg (jZ s₁.heap H) callerA [] s₁ H:=⟨rfl,hM,λb o e=>PU e,pj (PQ _ _),trivial,λb hb=>absurd (show b∈([]:List ah) from hb) (by simp),hok,.of_eq hg⟩
  obtain⟨G,lawF,hh,g1,g2,g3,g4,hlaw,Fn⟩:=(F _ hKb (nsK hns) hCb hBb).ex;have rd:RelDL G (λ_=>0) 0 H [.scr] [.ref a]:=by refine RelDL.cons ?_ RelDL.nil;rw[RelD,g1,g2,g3];exact⟨rfl,hS⟩
  have sm:Sim G (λ_=>0) [] H:=⟨λi j h1=>absurd h1 (by simp),λi o q=>by simp at q,λP' e=>by
   rw[g4]at e;cases e;exact⟨#[],hHP,trivial,λpos cv q=>by
    have q':(none:Option af)=some cv:=q
    cases q'⟩⟩
  refine qf (Fn.run callerA [] s₁ H ⟨[.ref a],[]⟩ [.ref a] [.ref a] (λv _=>v=.bl true) (λ_ _ _=>False) hr e0 (hbind s₁ (.ref a)) (.cons rfl .nil) ⟨λ_=>0,[],[.scr],rd,sm, ?_⟩) λr s' h=>?_
  ·rw[hlaw];exact λμ' H' v _ _ r=>r
  cases r with
  |error e=>obtain⟨_,_,_,_,_,_,_,_,_,z⟩:=h;exact z.elim
  |ok fl=>
   cases fl with
   |next=>exact iu h
   |brk=>exact iu h
   |cont=>exact iu h
   |ret u=>
    obtain⟨v,H',os,bare,un,hok',r',q⟩:=h;have q':v=.bl true:=q;subst q';obtain rfl:u=Be true:=r';have kept:∀b o,b≠P->s₁.heap.get? b=some o->s'.heap.get? b=some o:=λb o hbP e=>by
     cases q:H b with
     |none=>exact un.keep b o e q (by intro z;exact absurd (show b∈([]:List ah) from z) (by simp)) (by simp)
     |some u=>
      rcases hA b (by rw[q];simp)with z|z
      ·subst z;obtain⟨ob,xs,rfl⟩:=hF u q;have z2:=un.frzs b ob _ q;obtain⟨e1,_⟩:=hok b _ q;obtain⟨e2,_⟩:=hok' b _ z2;rw[e]at e1;cases e1;exact e2
      ·exact absurd z hbP
    obtain⟨more,hm⟩:=un.tbls P #[] hHP;have gP:s'.heap.get? P=some (sy (#[]++more)):=hok' P _ hm;refine⟨rfl,⟨λb o e=>?_,λb o e=>?_⟩,os,bare⟩
    ·by_cases hb:b=P
     ·subst hb;rw[hP]at e;cases e;exact .inr (.inl ⟨(hC.tab hP).isCodeTable,rfl,#[],more,rfl,gP⟩)
     ·exact .inl (kept b o hb e)
    ·by_cases hb:b=P
     ·subst hb;exact⟨_,gP⟩
     ·exact⟨_,kept b o hb e⟩
 cases hk:K.lookup a with
 |some o=>
  have e:=KX a o hk;rw[ha]at e;cases e;refine core (λb=>if b=P then some (.tbl #[])else none) (if_pos rfl) (.inr ⟨_,vs.toArray,_,hk,rfl,rfl,rfl,by rw[av,lenV];exact hl,by simpa using rv⟩) (λb u z=>?_) (λb z=>?_) (λz=>absurd (if_neg aP) z) (λu z=>?_)
  ·by_cases hb:b=P
   ·have z':=(if_pos hb).symm.trans z;cases z';subst hb;exact hP
   ·have z':=(if_neg hb).symm.trans z;cases z'
  ·by_cases hb:b=P
   ·exact .inr hb
   ·exact absurd (if_neg hb) z
  ·have z':=(if_neg aP).symm.trans z;cases z'
 |none=>
  have ea:(λb=>if b=a then some (HO.frz { cls:=.type "list",data:=.seq vs.toArray } (.lst (ns.map V.int)))else if b=P then some (.tbl #[])else none) a=some (.frz { cls:=.type "list",data:=.seq vs.toArray } (.lst (ns.map V.int))):=if_pos rfl;refine core (λb=>if b=a then some (.frz { cls:=.type "list",data:=.seq vs.toArray } (.lst (ns.map V.int)))else if b=P then some (.tbl #[])else none) ((if_neg (cw aP)).trans (if_pos rfl)) (.inl ⟨{ cls:=.type "list",data:=.seq vs.toArray },ea⟩) (λb u z=>?_) (λb z=>?_) (λ_=>hk) (λu z=>?_)
  ·by_cases hb:b=a
   ·have z':=(if_pos hb).symm.trans z;cases z';subst hb;exact⟨ha,by rw[bh];exact hl,vs,_,rv,ha⟩
   ·have z':=(if_neg hb).symm.trans z
    by_cases hb2:b=P
    ·have z2:=(if_pos hb2).symm.trans z';cases z2;subst hb2;exact hP
    ·have z2:=(if_neg hb2).symm.trans z';cases z2
  ·by_cases hb:b=a
   ·exact .inl hb
   ·by_cases hb2:b=P
    ·exact .inr hb2
    ·exact absurd ((if_neg hb).trans (if_neg hb2)) z
  ·have z':=ea.symm.trans z;cases z';exact⟨_,_,rfl⟩
open L2
theorem jE {α:Type}{P:List α->Prop}(h:∀a,P [a]):∀us:List α,us.length=1->P us
 | [a],_=>h a
theorem hV {α:Type}{P:List α->Prop}(h:∀a b,P [a,b]):∀us:List α,us.length=2->P us
 | [a,b],_=>h a b
theorem JP {α:Type}{P:List α->Prop}(h:∀a b c,P [a,b,c]):∀us:List α,us.length=3->P us
 | [a,b,c],_=>h a b c
theorem jR {P:Nat->Bool->Prop}:∀c b,List.lookup c ([]:List (Nat×Bool))=some b->P c b:=λ_ _ h=>nomatch h
theorem eU {P:Nat->Bool->Prop}{x:Nat}{y:Bool}{l:List (Nat×Bool)}(h:P x y) (hl:∀c b,l.lookup c=some b->P c b):∀c b,List.lookup c ((x,y)::l)=some b->P c b:=λc b e=>by
 rw[ij]at e
 cases q:c==x with
 |true=>rw[q]at e;exact eq_of_beq q▸(cf e)▸h
 |false=>rw[q]at e;exact hl c b e
theorem XB {P:Nat->Prop}:∀c,c<0->P c:=λc h=>absurd h (Nat.not_lt_zero c)
theorem kH {P:Nat->Prop}{n:Nat}(h0:P 0) (h:∀c,c<n->P (c+1)):∀c,c<n+1->P c
 |0,_=>h0
 |c+1,hc=>h c (Nat.lt_of_succ_lt_succ hc)
open PySem.Calls
abbrev Ys {β:Type}(ob:Frag->β) (obE:β):cm->cq->Prop:=λ_ h=>∃K:Frag,K.In h/\noTabs K=true/\ob K=obE
theorem ys_of {β:Type}{ob:Frag->β}{obE:β}:∀(w:cm) (s:ag),ob (rR s.heap)=obE->Ys ob obE w s.heap:=λ_ s e=>⟨rR s.heap,uT _ _,uU _ _,e⟩
theorem ys_keeps {β:Type}{ob:Frag->β}{obE:β}:∀(w:cm) (h h':cq),Ys ob obE w h->(∀b o,h.get? b=some o->h'.get? b=some o)->Ys ob obE w h':=λ_ _ _ ⟨K,x,n,e⟩ k=>⟨K,x.keeps k,n,e⟩
theorem z4e {β:Type}{ob:Frag->β}{obE:β}{l:OpenLaw}{n k:Nat}{q:bj}{dP:List Str}{XP:(Str->Option af)->cq->Prop}{d:DefRec}{x:Str}
  (hn:l.most=some n) (hn2:n<=ck) (hdf:d.params.defaults=[]) (hr:Room k callerA) (hfind:(recsOf q).find? (λe=>e.name==d.name)=some d)
  (F:∀(K:Frag) (w:cm) (mg:Str->Option af) (fa:ah) (h:cq),ob K=obE->noTabs K=true->K.In h->h.Ns da mg->mg d.name=some (.ref fa)->
   ∃(fd:bq) (c P:ah),(∀(s:ag) (u:af),Ag s fd ⟨[u],[]⟩ [(x,u)])/\tabIn K d.name=some (c,P)/\noTabs K=true /\
    ∀(base:cq) (a:ah) (ns:List Int),ns.length<=n->K.In base->base.Ns da mg->CodeHd base c P->kG mg base->Lawful l.prog w K mg base k fa fd x P a ns):
  WalkO q dP XP (Ys ob obE) l.row.toRowW d [] (λf vs=>Bh f vs):=by
 refine Att.attach_call hn hdf λw s₀ s₁ mg mb fa o pm cd doc a vs ns G Y ho hd hcd hmg hobj hints hlen hg=>?_;obtain⟨K,KX,hnt',hob⟩:=Y;obtain⟨fd,c,P,hb,ht,hnt,hF⟩:=F K w mg fa _ hob hnt' KX G.T.g hmg;obtain⟨hC,hP⟩:=tab_of G.T KX hfind ht;exact JO KX G.T.g G.T.b G.T.builtins G.T.nolimit hg hobj hints (cu hlen hn2) hr hC hP G.T.bmain hnt (λbase h1 h2 h3 h4=>hF base a ns hlen h1 h2 h3 h4) hb
theorem XC {K:Frag}{f c:ah}{st:gy}{n:Str}{ps:List Str}(h:cT K f=some (fnOf n n (nA st) (eZ st) (aO st) .none .none .none .none none (.ref c) .none)) (hc:codeIn K (.ref c) n=true) (hk:keepIn K (.ref f)=true)
  (hb:∀(kV doc pm:af) (an:Option ah) (cdv ct:af) (us:List af),us.length=ps.length->bindArgs (fnOf n n (nA st) (eZ st) (aO st) .none kV doc pm an cdv ct) ⟨us,[]⟩=pure (ps.zip us)):
  ∃fd:bq,Fun K n n st f fd/\Binds K fd ps []/\fd.code=.ref c/\∀us:List af,us.length=ps.length->bindArgs fd ⟨us,[]⟩=pure (ps.zip us):=by
 obtain⟨oc,od,kV,dc,pm,an,ct,sl,e⟩:=O8 h;exact⟨_,G5 e hc hk,(G5 e hc hk).binds hb,rfl,hb kV dc pm an (.ref c) ct⟩
theorem walkK2 {β:Type}{ob:Frag->β}{obE:β}{l:OpenLaw}{n k:Nat}{q:bj}{dP:List Str}{XP:(Str->Option af)->cq->Prop}{d:DefRec}{x:Str}(nm:Str)
  (hn:l.most=some n) (hn2:n<=ck) (hdf:d.params.defaults=[]) (hr:Room k callerA) (hfind:∃d2:DefRec,(recsOf q).find? (λe=>e.name==nm)=some d2/\d2.name=nm)
  (F:∀(K:Frag) (w:cm) (mg:Str->Option af) (fa:ah) (h:cq),ob K=obE->noTabs K=true->K.In h->h.Ns da mg->mg d.name=some (.ref fa)->
   ∃(fd:bq) (c P:ah),(∀(s:ag) (u:af),Ag s fd ⟨[u],[]⟩ [(x,u)])/\tabIn K nm=some (c,P)/\noTabs K=true /\
    ∀(base:cq) (a:ah) (ns:List Int),ns.length<=n->K.In base->base.Ns da mg->CodeHd base c P->kG mg base->Lawful l.prog w K mg base k fa fd x P a ns):
  WalkO q dP XP (Ys ob obE) l.row.toRowW d [] (λf vs=>Bh f vs):=by
 refine Att.attach_call hn hdf λw s₀ s₁ mg mb fa o pm cd doc a vs ns G Y ho hd hcd hmg hobj hints hlen hg=>?_;obtain⟨K,KX,hnt',hob⟩:=Y;obtain⟨fd,c,P,hb,ht,hnt,hF⟩:=F K w mg fa _ hob hnt' KX G.T.g hmg;obtain⟨d2,hf,hnm⟩:=hfind;have hf':(recsOf q).find? (λe=>e.name==d2.name)=some d2:=by rw[hnm];exact hf
 obtain⟨hC,hP⟩:=tab_of G.T KX hf' (by rw[hnm];exact ht);exact JO KX G.T.g G.T.b G.T.builtins G.T.nolimit hg hobj hints (cu hlen hn2) hr hC hP G.T.bmain hnt (λbase h1 h2 h3 h4=>hF base a ns hlen h1 h2 h3 h4) hb
theorem dB {F:List (Frag->Bool)}{K:Frag}(h:F.all (λf=>f K)=true) (i:Nat) {g:Frag->Prop}[∀K,Decidable (g K)] (e:F[i]?=some (λK=>decide (g K)):=by rfl):g K:=dA h i e
theorem cD {K:Frag}{h:cq}{mg:Str->Option af}{n:Str}{v:af}{F:List (Frag->Bool)}(X:K.In h) (G:h.Ns da mg) (hc:F.all (λf=>f K)=true) (i:Nat) (e:F[i]?=some (λK=>decide (nsIn K da n=some (some v))):=by rfl):mg n=some v:=mg_of X G (dA hc i e)
theorem BH {env:Env}{x:Str}:∀{l:List (Str×kg)},l.lookup x=some .free->(l.map λ(n,k)=>if(k==bz&&env.scope.kind==.function&&env.kindOf n==some .cell)then(n,dk)else(n,k)).lookup x≠some .local
 | [],h=>by simp at h
 |(n,q)::r,h=>by
  rw[ij]at h;rw[cy]
  cases e:x==n with
  |true=>
   rw[e]at h;have hq:q=.free:=cf h;subst hq;dsimp only
   split
   ·rw[ij,e];simp
   ·rw[ij,e];simp
  |false=>
   rw[e]at h;dsimp only
   split
   ·rw[ij,e];exact BH h
   ·rw[ij,e];exact BH h
theorem XD {X:Cx}{sc os:fq}{oN N:List Str}{cap:List (Option Nat)}(hs:X.env.scope.names=os.names) (hN:X.N=oN) (h1:sc.kind=.function) (h2:∀p∈sc.names,p.2=.local->sc.names.lookup p.1=some .local) (h3:cap.length=N.length)
  (h4:∀p∈sc.names,p.2=.free->os.names.lookup p.1=some .cell∨os.names.lookup p.1=some .free) (h5:∀p∈sc.names,p.2=.free->(p.1,dk)∉sc.names) (h6:∀q∈cap.zip N,∀j∈q.1,oN[j]?=some q.2/\sc.names.lookup q.2=some .free):CapOk X sc N cap:=by
 refine⟨h1,h2,h3,λx hx=>?_,λx hx=>h5 _ hx rfl,λi j x e1 e2=>?_⟩
 ·have:=h4 _ hx rfl;rw[<-hs]at this;exact this
 ·have hm:(some j,x)∈cap.zip N:=cb (i:=i) (lx.mpr ⟨e1,e2⟩);obtain⟨a,b⟩:=h6 _ hm j rfl;rw[hN];refine⟨a,fg b, ?_⟩;exact BH b
def mI:Dv->Dv->Hs->Rs Dv:=iZ λi j=>.int (i - j)
def oV:Dv->Dv->Hs->Rs Dv:=kW wB λi j=>.int (i*j)
def lA:Dv->Dv->Hs->Rs Dv:=kW pX λi j=>.int (i % j)
def oW:Dv->Dv->Hs->Rs Dv:=kW sM λi j=>.int (i ^ j.toNat)
def qH:Dv->Dv->Hs->Rs Dv:=iZ λi j=>.bl (decide (i<=j))
def xB:Dv->Dv->Hs->Rs Dv:=iZ λi j=>.bl (decide (i>j))
def xC:Dv->Dv->Hs->Rs Dv:=iZ λi j=>.bl (decide (i>=j))
section
variable{X:Cx}{G:Cfg}{E:XK}{k:Nat}{a b:bp}{ma mb:M Dv}{pos:Pos}
theorem BI (ha:aK X G E a ma) (hb:aK X G E b mb):aK X G E (.BinOp a .Sub b pos) (m2 mI ma mb):=oP RJ UO ha hb
theorem tK (ha:aK X G E a ma) (hb:aK X G E b mb):aK X G E (.BinOp a .Mult b pos) (m2 oV ma mb):=oP RK (vZ UP) ha hb
theorem qI (ha:aK X G E a ma) (hb:aK X G E b mb):aK X G E (.BinOp a .Mod b pos) (m2 lA ma mb):=oP RM (vZ UQ) ha hb
theorem BJ (ha:aK X G E a ma) (hb:aK X G E b mb):aK X G E (.BinOp a .Pow b pos) (m2 oW ma mb):=oP RN (vZ UR) ha hb
theorem JQ (ha:aK X G E a ma):aK X G E (.UnaryOp .USub a pos) (m1 tJ ma):=UI RP XA ha
theorem XE (ha:aK X G E a ma) (hb:aK X G E b mb):aK X G E (.Compare a [.Gt] [b] pos) (m2 xB ma mb):=pS RQ sJ ha hb (mY _)
theorem nS (g:Good X G E k) (ha:aK X G E a ma) (hb:aK X G E b mb):aK X G E (.Compare a [.Eq] [b] pos) (m2 bW ma mb):=pS (HL g.room.units) HN ha hb (mY _)
theorem XF (g:Good X G E k) (ha:aK X G E a ma) (hb:aK X G E b mb):aK X G E (.Compare a [.NotEq] [b] pos) (m2 cB ma mb):=pS (HM g.room.units) HP ha hb (mY _)
theorem XG (ha:aK X G E a ma) (hb:aK X G E b mb):gE X G E (.Compare a [.GtE] [b] pos) (mB (m2 xC ma mb)):=pT RR sJ ha hb (mY _)
theorem qJ (g:Good X G E k) (ha:aK X G E a ma) (hb:aK X G E b mb):gE X G E (.Compare a [.Eq] [b] pos) (mB (m2 bW ma mb)):=pT (HL g.room.units) HN ha hb (mY _)
theorem nU (g:Good X G E k) (ha:aK X G E a ma) (hb:aK X G E b mb):gE X G E (.Compare a [.NotEq] [b] pos) (mB (m2 cB ma mb)):=pT (HM g.room.units) HP ha hb (mY _)
variable{c:bp}{mc:M Dv}
theorem XH (ha:aK X G E a ma) (hb:aK X G E b mb) (hc:aK X G E c mc) (hm:lastMarks [.LtE,.LtE] [b,c]=false:=by with_unfolding_all rfl):aK X G E (.Compare a [.LtE,.LtE] [b,c] pos) (pU qH qH ma mb mc):=UH F5 F5 sJ sJ ha hb hc hm
end
def qK:Ty->Option Bool
 | .bl=>some true | .int=>some true | .exc _=>none|_=>some false
def mJ:Ty->Option Bool
 | .bl=>some true | .exc _=>none|_=>some false
def gJ:Ty->Option Bool
 | .tup=>some true | .exc _=>none|_=>some false
def mK:Ty->Option Bool
 | .lst=>some true | .exc _=>none|_=>some false
def oX:Ty->Option Bool
 | .tup=>some true | .lst=>some true | .exc _=>none|_=>some false
section
variable{K:aq}{cl:Nat->ah}
theorem XI:∀ty bb,qK ty=some bb->de K (kY cl ty) (.type "int")=some bb:=by intro ty bb h;cases ty <;> first|(cases h;rfl)|cases h
theorem XJ:∀ty bb,mJ ty=some bb->de K (kY cl ty) (.type "bool")=some bb:=by intro ty bb h;cases ty <;> first|(cases h;rfl)|cases h
theorem XM:∀ty bb,gJ ty=some bb->de K (kY cl ty) (.type "tuple")=some bb:=by intro ty bb h;cases ty <;> first|(cases h;rfl)|cases h
theorem XN:∀ty bb,mK ty=some bb->de K (kY cl ty) (.type "list")=some bb:=by intro ty bb h;cases ty <;> first|(cases h;rfl)|cases h
theorem XO:∀ty bb,oX ty=some bb->PySem.W.kitAny K (kY cl ty) [.type "tuple",.type "list"]=some bb:=by intro ty bb h;cases ty <;> first|(cases h;rfl)|cases h
end
theorem XQ:dv "int" = some (.type "int"):=by decide +kernel
theorem XR:dv "bool" = some (.type "bool"):=by decide +kernel
theorem XS:dv "ValueError" = some (.type "ValueError"):=by decide +kernel
def eG (nn:Option Bool) (tbl:List (Nat×Bool)):Ty->Option Bool
 | .exc c=>tbl.lookup c
 | .non=>nn
 |_=>none
section
variable{X:Cx}{G:Cfg}{E:XK}{a:bp}{ma:M Dv}{p q r pos:Pos}
theorem XT (hg:Gl X "isinstance") (hm:X.mg "isinstance" = none) (hg':Gl X "int") (hm':X.mg "int" = none) (ha:aK X G E a ma) (he:aw [a,.Name "int" q] X.env=[(false,eval a X.env),(false,eval (.Name "int" q) X.env)]:=by rfl):
  aK X G E (.Call (.Name "isinstance" p) [a,.Name "int" q] [] pos) (m1 (bC qK) ma):=qE hg hm ha (oS hg' hm' XQ) (.inl ⟨_,rfl⟩) rfl XI (λc bb h=>by cases h) he
theorem BK (hg:Gl X "isinstance") (hm:X.mg "isinstance" = none) (hg':Gl X "bool") (hm':X.mg "bool" = none) (ha:aK X G E a ma) (he:aw [a,.Name "bool" q] X.env=[(false,eval a X.env),(false,eval (.Name "bool" q) X.env)]:=by rfl):
  aK X G E (.Call (.Name "isinstance" p) [a,.Name "bool" q] [] pos) (m1 (bC mJ) ma):=qE hg hm ha (oS hg' hm' XR) (.inl ⟨_,rfl⟩) rfl XJ (λc bb h=>by cases h) he
theorem tL (hg:Gl X "isinstance") (hm:X.mg "isinstance" = none) (hg':Gl X "tuple") (hm':X.mg "tuple" = none) (ha:aK X G E a ma) (he:aw [a,.Name "tuple" q] X.env=[(false,eval a X.env),(false,eval (.Name "tuple" q) X.env)]:=by rfl):
  aK X G E (.Call (.Name "isinstance" p) [a,.Name "tuple" q] [] pos) (m1 (bC gJ) ma):=qE hg hm ha (oS hg' hm' A2) (.inl ⟨_,rfl⟩) rfl XM (λc bb h=>by cases h) he
theorem JR (hg:Gl X "isinstance") (hm:X.mg "isinstance" = none) (hg':Gl X "list") (hm':X.mg "list" = none) (ha:aK X G E a ma) (he:aw [a,.Name "list" q] X.env=[(false,eval a X.env),(false,eval (.Name "list" q) X.env)]:=by rfl):
  aK X G E (.Call (.Name "isinstance" p) [a,.Name "list" q] [] pos) (m1 (bC mK) ma):=qE hg hm ha (oS hg' hm' wC) (.inl ⟨_,rfl⟩) rfl XN (λc bb h=>by cases h) he
theorem XU:∀us',Vals [.ty "tuple",.ty "list"] us'->us'=[.type "tuple",.type "list"]:=by
 intro us' h
 cases h with
 |cons r rr=>
  cases rr with
  |cons r' rr=>
   cases rr
   cases r;cases r'
   rfl
theorem XW {kt:Nat}{p':Pos}(hg:Gl X "isinstance") (hm:X.mg "isinstance" = none) (hg':Gl X "tuple") (hm':X.mg "tuple" = none) (hg'':Gl X "list") (hm'':X.mg "list" = none) (ha:aK X G E a ma)
  (he:aw [a,.Tuple [.Name "tuple" q,.Name "list" r] kt p] X.env=[(false,eval a X.env),(false,eval (.Tuple [.Name "tuple" q,.Name "list" r] kt p) X.env)]:=by rfl):
  aK X G E (.Call (.Name "isinstance" p') [a,.Tuple [.Name "tuple" q,.Name "list" r] kt p] [] pos) (m1 (bC oX) ma):=
 V1 (cs:=[.ty "tuple",.ty "list"]) hg hm ha (iA (oS hg' hm' A2) (iA (oS hg'' hm'' wC) jL)) (by decide) XU XO (λc bb h=>by cases h) he
theorem kJ {x:Str}{C:ah}{nn:Option Bool}{tbl:List (Nat×Bool)}(hg:Gl X "isinstance") (hm:X.mg "isinstance" = none) (hg':Gl X x) (hm':X.mg x=some (.ref C)) (ha:aK X G E a ma)
  (hn:∀b,nn=some b->de G.K (.type "NoneType") (.ref C)=some b) (ht:∀c b,tbl.lookup c=some b->de G.K (.ref (G.cl c)) (.ref C)=some b/\ExK G.K (G.cl c)) (hd:(x==("__debug__" : Str))=false:=by decide)
  (he:aw [a,.Name x q] X.env=[(false,eval a X.env),(false,eval (.Name x q) X.env)]:=by rfl) (he2:aw [.Name x q] X.env=[(false,eval (.Name x q) X.env)]:=by rfl):
  aK X G E (.Call (.Name "isinstance" p) [a,.Name x q] [] pos) (m1 (bC (eG nn tbl)) ma):=
 qE hg hm ha (FT (v:=.ref C) hg' hm' rfl hd) (.inr ⟨_,rfl⟩) rfl (λty bb h=>by
  cases ty with
  |exc c=>exact(ht c bb h).1
  |non=>exact hn bb h
  |_=>cases h) (λc bb h=>(ht c bb h).2) he he2
theorem XX {nn:Option Bool}{tbl:List (Nat×Bool)}(hg:Gl X "isinstance") (hm:X.mg "isinstance" = none) (hg':Gl X "ValueError") (hm':X.mg "ValueError" = none) (ha:aK X G E a ma)
  (hn:∀b,nn=some b->de G.K (.type "NoneType") (.type "ValueError")=some b) (ht:∀c b,tbl.lookup c=some b->de G.K (.ref (G.cl c)) (.type "ValueError")=some b/\ExK G.K (G.cl c))
  (he:aw [a,.Name "ValueError" q] X.env=[(false,eval a X.env),(false,eval (.Name "ValueError" q) X.env)]:=by rfl):
  aK X G E (.Call (.Name "isinstance" p) [a,.Name "ValueError" q] [] pos) (m1 (bC (eG nn tbl)) ma):=
 qE hg hm ha (oS hg' hm' XS) (.inl ⟨_,rfl⟩) rfl (λty bb h=>by
  cases ty with
  |exc c=>exact(ht c bb h).1
  |non=>exact hn bb h
  |_=>cases h) (λc bb h=>(ht c bb h).2) he
end
section
variable{P:bj}{w:cm}{K:aq}{mg:Str->Option af}{base:cq}{f:ah}{G:Cfg}{k:Nat}{N:List Str}
theorem XY {x qual:Str}{st:gy}{fd:bq}{ps:List Str}{mb:MS}(Fn:Fun K x qual st f fd) (S:FnScope N ps (aO st)) (hK:K=G.K)
  (hbody:∀(cdv:af) (A:cj) (outer:List Env) (s:ag) (H:Hp) (E₀ E:XK),fd.code=cdv->Good (eQ (aZ P w base) P w K mg base N qual (aO st) f cdv A outer s H E₀) G E k->iN (eQ (aZ P w base) P w K mg base N qual (aO st) f cdv A outer s H E₀) G E (eZ st) mb):
  FnOk P w K mg base (aZ P w base) (k+1) f fd ps (cH G (aV ps.length N.length mb)):=by
 obtain⟨oc,od,kV,doc,pm,an,cdv,ct,osl,rfl,lk,hcd⟩:=Fn.ex;have hlen:∀vs H Q E,cH G (aV ps.length N.length mb) vs H Q E->vs.length=ps.length:=λvs H Q E ⟨μ,h,ds,r,sm,o⟩=>by
  rw[r.length];unfold aV at o
  by_cases hd:ds.length=ps.length
  ·exact hd
  ·rw[if_neg hd]at o;exact o.elim
 refine vE lk hcd S hlen λA outer s H vs Q E hr hsp=>?_;have hl:=hlen _ _ _ _ hsp;obtain⟨μ,h,ds,r,sm,o⟩:=hsp;have o':Out G E μ h.length H (bK (mb (bH N.length ds) h)) (RelD G) Q:=by unfold aV at o;rw[if_pos (by rw[<-r.length];exact hl)]at o;exact o
 refine⟨_,hbody cdv A outer s H E (EB G μ h.length H (mb (bH N.length ds) h)) rfl (wK hr hK (λu H' ⟨c,h',μ',er,x,s',fl⟩=>?_) wM) hK, ?_⟩
 ·rw[er]at o';exact o' μ' H' u x s' fl
 ·refine⟨μ,bH N.length ds,h,wL r N,sm, ?_⟩
  cases q:mb (bH N.length ds) h with
  |bad=>rw[q]at o';exact o'.elim
  |bk ρ h'=>rw[q]at o';exact o'.elim
  |ct ρ h'=>rw[q]at o';exact o'.elim
  |rt d h'=>rw[q]at o';exact o'
  |nx ρ h'=>rw[q]at o';exact λμ' H' σ' x' s' rs'=>o' μ' H' .non x' s' rfl
  |ex c h'=>exact λμ' H' u x' s' fl=>⟨c,h',μ',rfl,x',s',fl⟩
theorem XZ {fd:bq}{ps:List Str}:FnOk P w K mg base (aZ P w base) k f fd ps (cH G (λ_ _=>.bad)):=⟨λvs H Q E ⟨_,_,_,_,_,o⟩=>o.elim,λ_ _ _ _ _ _ _ _ _ _ _ _ _ ⟨_,_,_,_,_,o⟩=>o.elim⟩
end
section
variable{X:Cx}{G:Cfg}{E:XK}{k:Nat}{q x:Str}{p pos lpos:Pos}{params:jw}{body:bp}{scope os:fq}{c P fr:ah}{fdr:bq}{Nl oN:List Str}{me:M Dv}{n ncl j:Nat}{mb:MS}{caps:List Nat}
end
def fV:Dv->Bool
 | .scr=>false
 |_=>true
def aT (x y:Dv) (h:Hs):Rs Dv:=if fV x=true then gG [] x y h else .bad
def fK (x:Dv) (h:Hs):Rs Dv:=if fV x=true then iC [] x h else .bad
def kK (x:Dv) (h:Hs):Rs Dv:=if fV x=true then qA [] x h else .bad
def dR (neg:Bool) (x y:Dv) (h:Hs):Rs Dv:=if fV y=true then nM [] neg x y h else .bad
theorem BL {scr:List Int}{x:Dv}{h:Hs}(e:fV x=true):fY [] x h=fY scr x h:=by cases x <;> first|rfl|cases e
section
variable{X:Cx}{G:Cfg}{E:XK}{k:Nat}{a b e:bp}{es:List bp}{ma mb:M Dv}{aS:M (List Dv)}{p pos:Pos}
theorem X0:fJ G (AK G.K) aT:=by
 intro E μ h H x y vx vy Q s rx ry o;unfold aT at o
 split at o
 ·rename_i hx;refine HQ E μ h H x y vx vy Q s rx ry ?_;have e:gG G.scr x y h=gG [] x y h:=by cases x <;> cases y <;> first|rfl|exact absurd hx (by decide)
  rw[e];exact o
 ·exact o.elim
theorem X1:kC G (HU G.K) fK:=by
 intro E μ h H x vx Q s rx o;unfold fK at o
 split at o
 ·rename_i hx;refine HV E μ h H x vx Q s rx ?_;unfold iC at o ⊢;rw[<-BL hx];exact o
 ·exact o.elim
theorem X2:kC G (λx H Q=>∃p ys,x=.ref p/\(SqL G.K H p ys∨SqT G.K H p ys)/\∀l,H l=none->Q (.ref l) (aQ H l (.lst ys))) kK:=by
 intro E μ h H x vx Q s rx o;unfold kK at o
 split at o
 ·rename_i hx;refine VC E μ h H x vx Q s rx ?_;unfold qA at o ⊢;rw[<-BL hx];exact o
 ·exact o.elim
theorem xD (neg:Bool):fJ G (wX G.K neg) (dR neg):=by
 intro E μ h H x y vx vy Q s rx ry o;unfold dR at o
 split at o
 ·rename_i hx;refine W3 neg E μ h H x y vx vy Q s rx ry ?_;unfold nM at o ⊢;rw[<-BL hx];exact o
 ·exact o.elim
theorem cQ (ha:aK X G E a ma) (hb:aK X G E b mb) (hs:AJ b:=by intro _ _;rfl):aK X G E (.Subscript a b pos) (m2 aT ma mb):=λhK=>PE.imp (GR (by have:=GW (X:=X);rw[hK]at this;exact this) (ha hK) (hb hK) hs) λ_ _ _ t=>sH X0 t
theorem tM (hg:Gl X "len") (hm:X.mg "len" = none) (ha:dY X G E (e::es) aS)
  (he:aw (e::es) X.env=(false,eval e X.env)::aw es X.env:=by rfl) (hpl:(backTo pos (aw es X.env)).any (·.1)=false:=by rfl):aK X G E (.Call (.Name "len" p) (e::es) [] pos) (aF (f1 fK) aS):=λhK=>
 sN (CallR.imp (GX (X:=X)) λxs H Q ⟨v,h1,a,ys,h2,h3,h4⟩=>⟨a,ys,by rw[h1,h2],by rw[hK];exact h3,h4⟩) (sP X1) hg hm PySem.boot_len ha (by decide) (by decide) he hpl hK
theorem JS (hg:Gl X "list") (hm:X.mg "list" = none) (ha:dY X G E (e::es) aS)
  (he:aw (e::es) X.env=(false,eval e X.env)::aw es X.env:=by rfl) (hpl:(backTo pos (aw es X.env)).any (·.1)=false:=by rfl):aK X G E (.Call (.Name "list" p) (e::es) [] pos) (aF (f1 kK) aS):=λhK=>
 HS (CallR.imp (TF (X:=X)) λxs H Q ⟨v,h1,a,ys,h2,h3,h4⟩=>⟨a,ys,by rw[h1,h2],by rw[hK];exact h3,h4⟩) (sP X2) hg hm wC ha (by decide) (by decide) he hpl hK
end
theorem X3 (h l:Hs) (k:Nat):getL (h++l) (h.length+k)=getL l k:=by unfold getL;rw[fh (by omega),show h.length+k - h.length=k by omega]
theorem X4 (h l:Hs):getL (h++l) h.length=getL l 0:=X3 h l 0
theorem X5 (h l:Hs) (k:Nat) (o:Ob):(h++l).set (h.length+k) o=h++l.set k o:=by rw[List.set_append_right _ _ (by omega),show h.length+k - h.length=k by omega]
theorem X6 (h l:Hs) (o:Ob):(h++l).set h.length o=h++l.set 0 o:=X5 h l 0 o
section
variable{n:Nat}
end
section
variable{ma mb mc:M Dv}{aS:M (List Dv)}{t u:M Bool}{f f':Dv->Dv->Hs->Rs Dv}{g:Dv->Hs->Rs Dv}{F:List Dv->Hs->Rs Dv}
end
section
variable{mi mi':M Src}{st st':cY}{test test':M Bool}{inner:MC}{me:M Dv}{cap:List (Option Nat)}
end
section
variable{mo me mi:M Dv}{ml:M (List Dv)}{m u:MS}{t:M Bool}
end
def iP:Dv->Option Int
 | .int i=>some i
 |_=>none
theorem tN {G:Cfg}{μ:Nat->ah}{n:Nat}{H:Hp}:∀{xs:List Dv}{vs:List V}{ns:List Int},RelDL G μ n H xs vs->bP iP xs=some ns->vs=ns.map V.int
 | [],_,ns,r,e=>by cases e;rw[RelDL]at r;subst r;rfl
 |x::xs,_,ns,r,e=>by
  rw[RelDL]at r;obtain⟨v,rr,rfl,r1,r2⟩:=r;unfold bP at e
  cases x with
  |int i=>
   dsimp only[iP]at e
   cases q:bP iP xs with
   |none=>rw[q]at e;cases e
   |some zs=>rw[q]at e;cases e;rw[RelD]at r1;subst r1;rw[tN r2 q];rfl
  |_=>cases e
section
variable{X:Cx}{G:Cfg}{E:XK}{e a b:bp}{es:List bp}{ma mb:M Dv}{aS:M (List Dv)}{p pos:Pos}
def nV:Dv->Dv->Hs->Rs Dv
 | .ref i,.int k,h=>match getL h i with
  |some xs=>if(jA k&&decide (k<9223372036854775808)&&decide (-9223372036854775808<=k)&&decide (xs.length*k.toNat<=1000000))=true then .ok (.ref h.length) (h++[.lst (br k.toNat xs).flatten])else .bad
  |none=>.bad
 |_,_,_=>.bad
theorem RelDL.rep {μ:Nat->ah}{n:Nat}{H:Hp}{ds:List Dv}{vs:List V}(r:RelDL G μ n H ds vs):∀k:Nat,RelDL G μ n H (br k ds).flatten (br k vs).flatten
 |0=>RelDL.nil
 |k+1=>by rw[gz,gz,jt,jt];exact r.append (RelDL.rep r k)
theorem X7:fJ G G4 nV:=by
 intro E μ h H x y vx vy Q s rx ry o
 cases x with
 |ref i=>
  cases y with
  |int k=>
   dsimp only[nV]at o
   cases q:getL h i with
   |none=>rw[q]at o;exact o.elim
   |some xs=>
    rw[q]at o;dsimp only at o
    split at o
    ·rename_i hb;simp only[dm,decide_eq_true_eq]at hb;obtain⟨⟨⟨_,h1⟩,h2⟩,h3⟩:=hb;obtain⟨vs,e1,r1⟩:=s.ob i _ (cM q);obtain⟨_,rfl⟩:=rx;rw[RelD]at ry;subst ry;refine⟨_,k,vs,rfl,rfl,e1,by omega,by omega,by rw[r1.length];exact cu h3 (by decide),λp hp=>?_⟩;exact lZ s (r1.rep k.toNat) hp o
    ·exact o.elim
  |_=>exact o.elim
 |_=>cases y <;> exact o.elim
theorem JT (ha:aK X G E a ma) (hb:aK X G E b mb):aK X G E (.BinOp a .Mult b pos) (m2 nV ma mb):=oP TX X7 ha hb
end
section
variable{X:Cx}{G:Cfg}{E:XK}{a:bp}{elts:List bp}{kk:Nat}{tp p pos:Pos}{ma:M Dv}{ms:M (List Dv)}
end
def oY (x:Int):List Int->List Int
 | []=>[x]
 |y::ys=>if x<=y then x::y::ys else y::oY x ys
def jS:List Int->List Int
 | []=>[]
 |x::xs=>oY x (jS xs)
theorem nW (x:Int):∀ys,(oY x ys).Perm (x::ys)
 | []=>vt _
 |y::ys=>by
  unfold oY
  split
  ·exact vt _
  ·exact((nW x ys).cons y).trans (vv x y ys)
theorem BM:∀xs,(jS xs).Perm xs
 | []=>vt _
 |x::xs=>(nW x (jS xs)).trans ((BM xs).cons x)
theorem JU (x:Int):∀ys,ys.Pairwise (·<=·)->(oY x ys).Pairwise (·<=·)
 | [],_=>by simp[oY]
 |y::ys,h=>by
  have h1:=cx.mp h;unfold oY
  split
  ·rename_i hxy;refine cx.mpr ⟨λz hz=>?_,h⟩
   rcases bf.mp hz with rfl|hz
   ·exact hxy
   ·exact Int.le_trans hxy (h1.1 z hz)
  ·rename_i hxy;refine cx.mpr ⟨λz hz=>?_,JU x ys h1.2⟩
   rcases bf.mp ((nW x ys).subset hz)with rfl|hz
   ·omega
   ·exact h1.1 z hz
theorem JV:∀xs,(jS xs).Pairwise (·<=·)
 | []=>oq
 |x::xs=>JU x _ (JV xs)
theorem X8 {ms ns:List Int}(hp:ms.Perm ns) (hs:ms.Pairwise (·<=·)):ms=jS ns:=List.Perm.eq_of_pairwise (le:=(·<=·)) (λa b _ _ h1 h2=>Int.le_antisymm h1 h2) hs (JV ns) (hp.trans (BM ns).symm)
theorem X9 (xs:List Int):(jS xs).length=xs.length:=(BM xs).length_eq
section
variable{X:Cx}{G:Cfg}{E:XK}{e a b:bp}{es:List bp}{ma mb:M Dv}{aS:M (List Dv)}{p pos:Pos}
theorem JW:∀{vs:List af}{ns:List Int},Vals (ns.map V.int) vs->lh vs ns
 | [],[],_=>.nil
 | [],n::ns,h=>by cases h
 |v::vs,[],h=>by cases h
 |v::vs,n::ns,h=>by
  cases h with
  |cons h1 h2=>obtain⟨t,rfl⟩:=h1;exact .cons _ _ (JW h2)
theorem rX:∀{vs:List af}{ns:List Int},lh vs ns->Vals (ns.map V.int) vs
 |_,_,.nil=>.nil
 |_,_,.cons _ _ h=>.cons ⟨_,rfl⟩ (rX h)
theorem YA:CallR X (.builtin "sorted") (λxs H Q=>∃(p:ah) (ns:List Int),xs=[.ref p]/\H p=some (.lst (ns.map V.int))/\ns.length<64/\∀l,H l=none->Q (.ref l) (aQ H l (.lst ((jS ns).map V.int)))):=by
 intro pins s σ H xs us Q I rv ⟨p,ns,e,hp,h0,q⟩;subst e;obtain⟨u,rfl,ru⟩:=jK rv;cases ru;obtain⟨its,rits,pl,hz⟩:=I.list (SqL.of hp);have hl:=rits.length;rw[bh]at hl;refine sorted_ints pl.isList (JW rits) (by omega) λout ns' a1 a2 a3=>?_;obtain⟨ep,he⟩:=sortedAll_at s.heap its out;have hu:=X8 a2 a3;subst hu;refine⟨.ref (s.heap.objs.size+1),_,I.laid (t':=s.toks) (λb u hb=>sortedAll_old hb) (wq _) (show ObjOk X.prog X.w _ _ _ (.lst ((jS ns).map V.int)) from⟨?_,out.toList,ep,rX a1, ?_⟩),rfl,q _ (I.hok.fresh (wq _))⟩
 ·rw[bh,X9];exact cu (gh h0) (by decide)
 ·rw[he]
theorem JX:dv "sorted" = some (.builtin "sorted"):=by decide +kernel
def nX (x:Dv) (h:Hs):Rs Dv:=match x with
 | .ref i=>match getL h i with
  |some xs=>match bP iP xs with
   |some ns=>if ns.length<64 then .ok (.ref h.length) (h++[.lst ((jS ns).map Dv.int)])else .bad
   |none=>.bad
  |none=>.bad
 |_=>.bad
theorem YB:kC G (λx H Q=>∃(p:ah) (ns:List Int),x=.ref p/\H p=some (.lst (ns.map V.int))/\ns.length<64/\∀l,H l=none->Q (.ref l) (aQ H l (.lst ((jS ns).map V.int)))) nX:=by
 intro E μ h H x vx Q s r o
 cases x with
 |ref i=>
  dsimp only[nX]at o
  cases q:getL h i with
  |none=>rw[q]at o;exact o.elim
  |some xs=>
   rw[q]at o;dsimp only at o
   cases q2:bP iP xs with
   |none=>rw[q2]at o;exact o.elim
   |some ns=>
    rw[q2]at o;dsimp only at o
    split at o
    ·rename_i h0;obtain⟨vs,e1,r1⟩:=s.ob i _ (cM q);obtain⟨_,rfl⟩:=r;exact⟨_,ns,rfl,by rw[e1,tN r1 q2],h0,λl hl=>lZ s (pY _) hl o⟩
    ·exact o.elim
 |_=>exact o.elim
end
section
variable{X:Cx}{G:Cfg}{E:XK}{e o a b:bp}{es:List bp}{ma mb mo me:M Dv}{aS:M (List Dv)}{p pos np apos cpos:Pos}{y:Str}
def BN (_ j:Int):Prop:=0<j/\j<18446744073709551616
theorem YC:OpR X (binaryOp .FloorDiv) (rI BN λi j=>.int (i / j)):=vC λi j _ _ _ _ _ hc q=>by
 have h1:(0:Int)<j:=hc.1;have h2:j<18446744073709551616:=hc.2;refine floordiv_int (by omega) (by rw[Int.fdiv_eq_ediv_of_nonneg i (by omega)];exact q) (.inl (PyProof.noPylong_of_log2 ?_));have h3:j.natAbs≠0:=by omega
 have h4:j.natAbs<2 ^ 64:=by omega
 have:=(Nat.log2_lt h3).mpr h4;omega
def tO (_ j:Int):Bool:=decide (0<j)&&decide (j<18446744073709551616)
theorem YD (i j:Int) (h:tO i j=true):BN i j:=by unfold tO at h;unfold BN;simpa only[dm,decide_eq_true_eq]using h
def tP:Dv->Dv->Hs->Rs Dv:=kW tO λi j=>.int (i / j)
theorem JY (ha:aK X G E a ma) (hb:aK X G E b mb):aK X G E (.BinOp a .FloorDiv b pos) (m2 tP ma mb):=oP YC (vZ YD) ha hb
def JZ (K:aq):R2:=λx y H Q=>∃a b ys,x=.ref a/\y=.ref b/\SqT K H a []/\SqT K H b ys/\Q (.ref b) H
theorem op_catT0:OpR X (binaryOp .Add) (JZ X.K):=by
 intro pins s σ H x y v u Q I rx ry ⟨a,b,ys,e1,e2,ha,hb,q⟩;subst e1;subst e2;cases rx;cases ry;obtain⟨its,r1,p1,_⟩:=I.tuple ha;obtain⟨its2,r2,p2,_⟩:=I.tuple hb;have hn:its=[]:=r1.nil_iff.mpr rfl;subst hn;obtain⟨⟨cls,dd,data,sl⟩,ho,hc,n,hd⟩:=p1;obtain⟨⟨cls2,dd2,data2,sl2⟩,ho2,hc2,n2,hd2⟩:=p2;simp only at hc hd hc2 hd2;subst hc hd hc2 hd2;exact concat_meets ⟨_,ho,rfl⟩ ⟨_,ho2,rfl⟩ ym Bg qu qh (pz _ _)
  (tuple_addW0 a b _ _ n n2 dd dd2 sl sl2 rfl) ⟨ho,ho2,⟨.ref b,H,I,rfl,q⟩⟩
def bX (x y:Dv) (h:Hs):Rs Dv:=match x,y with
 | .tup [],.tup ys=>.ok (.tup ys) h
 |x,y=>mD x y h
theorem YE:fJ G (λx y H Q=>JZ G.K x y H Q∨AZ G.K x y H Q) bX:=by
 intro E μ h H x y vx vy Q s rx ry o;unfold bX at o
 split at o
 ·rename_i ys;obtain⟨a,vs,rfl,ea,ra⟩:=rx;obtain⟨b,ws,rfl,eb,rb⟩:=id ry;have:vs=[]:=by rw[RelDL]at ra;exact ra
  subst this;exact .inl ⟨a,b,ws,rfl,rfl,SqT.of ea,SqT.of eb,o.val s ry⟩
 ·exact .inr (UT E μ h H _ _ vx vy Q s rx ry o)
theorem iQ (ha:aK X G E a ma) (hb:aK X G E b mb):aK X G E (.BinOp a .Add b pos) (m2 bX ma mb):=λhK=>oP (op_catT0.or US) (by rw[hK];exact YE) ha hb hK
def tQ (k:Int):List Int->Option Nat
 | []=>none
 |n::ns=>if n=k then some 0 else(tQ k ns).map (·+1)
end
section
variable{X:Cx}{G:Cfg}{E:XK}{k:Nat}{a b:bp}{ma mb mo:M Dv}{pos:Pos}
theorem YF (g:Good X G E k) (ha:aK X G E a ma) (hb:aK X G E b mb) (hm:lastMarks [.In] [b]=false:=by with_unfolding_all rfl):aK X G E (.Compare a [.In] [b] pos) (m2 (dR false) ma mb):=λhK=>pS (JH g.room.units) (by rw[hK];exact xD false) ha hb hm hK
theorem J0 (g:Good X G E k) (ha:aK X G E a ma) (hb:aK X G E b mb) (hm:lastMarks [.NotIn] [b]=false:=by with_unfolding_all rfl):aK X G E (.Compare a [.NotIn] [b] pos) (m2 (dR true) ma mb):=λhK=>pS (JI g.room.units) (by rw[hK];exact xD true) ha hb hm hK
theorem J1 (g:Good X G E k) (ha:aK X G E a ma) (hb:aK X G E b mb) (hm:lastMarks [.In] [b]=false:=by with_unfolding_all rfl):gE X G E (.Compare a [.In] [b] pos) (mB (m2 (dR false) ma mb)):=λhK=>pT (JH g.room.units) (by rw[hK];exact xD false) ha hb hm hK
theorem BO (g:Good X G E k) (ha:aK X G E a ma) (hb:aK X G E b mb) (hm:lastMarks [.NotIn] [b]=false:=by with_unfolding_all rfl):gE X G E (.Compare a [.NotIn] [b] pos) (mB (m2 (dR true) ma mb)):=λhK=>pT (JI g.room.units) (by rw[hK];exact xD true) ha hb hm hK
end
theorem lB {H:Hs}{n:Nat}{xs ys:List Dv}(e:getL H n=some xs):getL (H.set n (.lst ys)) n=some ys:=by have h:=(bc.mp (cM e)).1;unfold getL;rw[cz h]
theorem tR {H:Hs}{n j:Nat}{o:Ob}(h:n≠j):getL (H.set n o) j=getL H j:=by unfold getL;rw[dw h]
theorem kL {H:Hs}{n:Nat}{xs:List Dv}(e:getL H n=some xs):n<H.length:=(bc.mp (cM e)).1
theorem iR {H l:Hs}{n:Nat}{xs:List Dv}(e:getL H n=some xs):getL (H++l) n=some xs:=by unfold getL;rw[du (kL e),cM e]
structure Fr (S:List Nat) (H H':Hs):Prop where
 le:H.length<=H'.length
 at_:∀j,j<H.length->j∉S->H'[j]?=H[j]?
theorem Fr.refl {S:List Nat}{H:Hs}:Fr S H H:=⟨ao _,λ_ _ _=>rfl⟩
theorem Fr.trans {S T:List Nat}{H H1 H2:Hs}(a:Fr S H H1) (b:Fr T H1 H2) (h:∀j∈T,j∈S∨H.length<=j):Fr S H H2:=⟨cu a.le b.le,λj hj hS=>(b.at_ j (au hj a.le) λz=>(h j z).elim hS λw=>absurd (au hj w) (gu _)).trans (a.at_ j hj hS)⟩
theorem Fr.app {S:List Nat}{H l:Hs}:Fr S H (H++l):=⟨by simp,λj hj _=>du hj⟩
theorem Fr.set {H:Hs}{n:Nat}{o:Ob}:Fr [n] H (H.set n o):=⟨by simp,λj hj hS=>dw (by simpa using cw (by simpa using hS))⟩
theorem Fr.getL {S:List Nat}{H H':Hs}{j:Nat}{xs:List Dv}(a:Fr S H H') (e:getL H j=some xs) (h:j∉S):getL H' j=some xs:=by unfold L2.Mr.getL at e ⊢;rw[a.at_ j (kL e) h];exact e
theorem Fr.mono {S T:List Nat}{H H':Hs}(a:Fr S H H') (h:∀j∈S,j∈T):Fr T H H':=⟨a.le,λj hj hT=>a.at_ j hj λz=>hT (h j z)⟩
theorem bI {m u:MS}{ρ ρ1:Ev}{h h1:Hs}(e:m ρ h=.nx ρ1 h1):aJ m u ρ h=u ρ1 h1:=by unfold aJ;rw[e]
theorem xE {mi:M Src}{st:cY}{b:MS}{ρ:Ev}{h h1:Hs}{src:Src}(e:mi ρ h=.ok src h1):dN mi st b ρ h=gH src st b src.n 0 ρ h1:=by unfold dN;rw[e];rfl
theorem BP {c:M Bool}{t u:MS}{ρ:Ev}{h h1:Hs}(e:c ρ h=.ok true h1):bE c t u ρ h=t ρ h1:=by unfold bE;rw[e];rfl
theorem oZ {c:M Bool}{t u:MS}{ρ:Ev}{h h1:Hs}(e:c ρ h=.ok false h1):bE c t u ρ h=u ρ h1:=by unfold bE;rw[e];rfl
theorem xF {src:Src}{sg:cY}{b:MS}{f k:Nat}{ρ ρ1 ρ2:Ev}{H H2:Hs}{d:Dv}(hg:src.get k H=some d) (hs:sg d ρ=some ρ1) (hb:b ρ1 H=.nx ρ2 H2):gH src sg b (f+1) k ρ H=gH src sg b f (k+1) ρ2 H2:=by simp[gH,hg,hs,hb]
theorem J2 {src:Src}{sg:cY}{b:MS}(P:Nat->Ev->Hs->Prop)
  (step:∀k ρ H,k<src.n->P k ρ H->∃d ρ1 ρ2 H2,src.get k H=some d/\sg d ρ=some ρ1/\b ρ1 H=.nx ρ2 H2/\P (k+1) ρ2 H2)
  (fin:∀ρ H,P src.n ρ H->src.fin H=true):∀(f k:Nat) (ρ:Ev) (H:Hs),f+k=src.n->P k ρ H->∃ρ' H',gH src sg b f k ρ H=.nx ρ' H'/\P src.n ρ' H'
 |0,k,ρ,H,h,p=>by
  have hk:k=src.n:=by omega
  subst hk;exact⟨ρ,H,by simp[gH,fin ρ H p],p⟩
 |f+1,k,ρ,H,h,p=>by obtain⟨d,ρ1,ρ2,H2,e1,e2,e3,p2⟩:=step k ρ H (by omega) p;rw[xF e1 e2 e3];exact J2 P step fin f (k+1) ρ2 H2 (by omega) p2
theorem qL {mi:M Src}{src:Src}{sg:cY}{b:MS}{ρ:Ev}{H H1:Hs}(hi:mi ρ H=.ok src H1) (P:Nat->Ev->Hs->Prop)
  (step:∀k ρ H,k<src.n->P k ρ H->∃d ρ1 ρ2 H2,src.get k H=some d/\sg d ρ=some ρ1/\b ρ1 H=.nx ρ2 H2/\P (k+1) ρ2 H2)
  (fin:∀ρ H,P src.n ρ H->src.fin H=true) (p:P 0 ρ H1):∃ρ' H',dN mi sg b ρ H=.nx ρ' H'/\P src.n ρ' H':=by
 rw[xE hi];exact J2 P step fin src.n 0 ρ H1 (by omega) p
theorem qM {src:Src}{sg:cY}{t:M Bool}{m:MC}(P:Nat->Ev->Hs->List Dv->Prop)
  (step:∀k ρ H acc,k<src.n->P k ρ H acc->∃d ρ1,src.get k H=some d/\sg d ρ=some ρ1 /\
   ((∃H2,t ρ1 H=.ok false H2/\P (k+1) ρ1 H2 acc)∨∃H2 ρ3 acc3 H3,t ρ1 H=.ok true H2/\m ρ1 H2 acc=.ok (ρ3,acc3) H3/\P (k+1) ρ3 H3 acc3))
  (fin:∀ρ H acc,P src.n ρ H acc->src.fin H=true):∀(f k:Nat) (ρ:Ev) (H:Hs) (acc:List Dv),f+k=src.n->P k ρ H acc->∃ρ' H' acc',eE src sg t m f k ρ H acc=.ok (ρ',acc') H'/\P src.n ρ' H' acc'
 |0,k,ρ,H,acc,h,p=>by
  have hk:k=src.n:=by omega
  subst hk;exact⟨ρ,H,acc,by simp[eE,fin ρ H acc p],p⟩
 |f+1,k,ρ,H,acc,h,p=>by
  obtain⟨d,ρ1,e1,e2,e3⟩:=step k ρ H acc (by omega) p
  rcases e3 with⟨H2,e3,p2⟩|⟨H2,ρ3,acc3,H3,e3,e4,p2⟩
  ·obtain⟨ρ',H',acc',e5,p5⟩:=qM P step fin f (k+1) ρ1 H2 acc (by omega) p2;exact⟨ρ',H',acc',by simp[eE,e1,e2,e3,e5],p5⟩
  ·obtain⟨ρ',H',acc',e5,p5⟩:=qM P step fin f (k+1) ρ3 H3 acc3 (by omega) p2;exact⟨ρ',H',acc',by simp[eE,e1,e2,e3,e4,e5],p5⟩
theorem BQ (k:Nat) (H:Hs):∀ns:List Int,bP (bM (k+1) H) (ns.map Dv.int)=some (ns.map Dt.int)
 | []=>rfl
 |n::ns=>by rw[cy,bP,BQ k H ns];rfl
def aG (p:Int×Int):Dv:=.tup [.int p.1,.int p.2]
def jT (p:Int×Int):Dt:=.tup [.int p.1,.int p.2]
theorem J3 (k:Nat) (H:Hs) (p:Int×Int):bM (k+2) H (aG p)=some (jT p):=rfl
theorem BR (k:Nat) (H:Hs):∀ps:List (Int×Int),bP (bM (k+2) H) (ps.map aG)=some (ps.map jT)
 | []=>rfl
 |p::ps=>by rw[cy,bP,BR k H ps,J3];rfl
theorem J4 (p q:Int×Int):bJ (jT p) (jT q)=decide (p=q):=by obtain⟨a,b⟩:=p;obtain⟨c,d⟩:=q;simp only[jT,bJ,fX,Bool.and_true];rw[fw];simp
theorem kM (neg:Bool) (H:Hs) (p:Int×Int) (ps:List (Int×Int)):dR neg (aG p) (.tup (ps.map aG)) H=.ok (.bl (if neg then !decide (p∈ps)else decide (p∈ps))) H:=by
 have e:(ps.map jT).any (λt=>bJ t (jT p))=decide (p∈ps):=by
  rw[fw];simp only[Ak,qw,Function.comp,J4,decide_eq_true_eq];constructor
  ·rintro ⟨q,hq,rfl⟩;exact hq
  ·intro h;exact⟨p,h,rfl⟩
 have h1:bP (bM bY H) (ps.map aG)=some (ps.map jT):=BR 28 H ps;have h2:bM bY H (aG p)=some (jT p):=J3 28 H p;show nM [] neg (aG p) (.tup (ps.map aG)) H=_;simp only[nM,fY,h1,h2,e]
section
variable{X:Cx}{G:Cfg}{E:XK}{elt tg iter tg' iter':bp}{ifs ifs':List bp}{sc:fq}{ps px pos:Pos}{N:List Str}{cap:List (Option Nat)}{mi mi':M Src}{st st':cY}{test test':M Bool}{me:M Dv}{i:Nat}{x:Str}
theorem YG (hN:X.N.Nodup) (hi':X.N[i]?=some x) (hc:X.calm=true) (C:CapOk X sc N cap) (hi:jB X G E tg iter mi) (hg:∀s H ex,jN (bV X sc N s H ex) G tg st) (htt:∀s H ex,qC (bV X sc N s H ex) G ifs test) (hel:∀s H ex,aK (bV X sc N s H ex) G E0 elt me)
  (hx:X.env.scope.names.lookup x=some .local:=by rfl) (hsw:swapsWith (.ListComp elt [⟨tg,iter,ifs,0⟩] sc ps) (some (.Name x px)) pos.line X.env=pure true:=by rfl)
  (hs:∀x,foldedSetIterable iter X.env x=pure x:=by intro _;rfl):iM X G E (.Assign [.Name x px] (.ListComp elt [⟨tg,iter,ifs,0⟩] sc ps) pos) (aM (bR (bL mi cap st test (bB me))) (aE i)):=λhK=>
 PS.imp (UD hsw hN hi' hx hc C rfl (λit D env=>AO elt tg iter ifs sc ps (.ref it) D env) (hi hK) (λs H ex=>hg s H ex hK) (λs H ex=>htt s H ex hK) (λs H ex D=>PCl.imp (vP (hel s H ex hK)) λ_ _ _ _ t=>A8 t) hs) λD σ H ⟨μ,ρ,h,rs,s,o⟩=>A9 (IC (nF rs s o λμ1 d h1 v H1 x1 rs1 s1 r1 o1=>o1 μ1 H1 _ Ext.refl s1 (rs1.set i r1)))
end
end L2.Mr
namespace SoM
open PySem PySem.W PyProof.Rows
variable{n:Nat}{f:Nat->Nat}{s:ag}
def mM (n:Nat) (f:Nat->Nat) (i j:Nat) (C:Bool->ag->Prop) (s:ag):Prop:=i<n/\j<n/\C (decide (f i<f j)) s
def F (f:Nat->Nat) (p:Array Nat) (k:Nat):Nat:=f (p.getD k 0)
def Ent (n:Nat) (p:Array Nat):Prop:=p.size=n/\p.toList.Perm (ba n)
theorem Ent.lt {p:Array Nat}(e:Ent n p) (hn:0<n) (k:Nat):p.getD k 0<n:=by
 by_cases h:k<p.size
 ·have:p.getD k 0=p[k]:=by simp[ka,h]
  rw[this];have hm:p[k]∈p.toList:=by simp
  exact bw.mp (e.2.mem_iff.mp hm)
 ·have:p.getD k 0=0:=by simp[ka,h]
  omega
theorem tS {p q:Array Nat}{i j:Nat}(h:p[i]?=q[j]?):F f p i=F f q j:=by unfold F;simp only[Array.getD_eq_getD_getElem?,h]
theorem Ent.mirror {p:Array Nat}(e:Ent n p) (i j d:Nat):Ent n (mirror p i j d):=⟨(mirror_size ..).trans e.1,((xf.mp (mirror_perm p i j d))).trans e.2⟩
theorem Ent.bubble {p:Array Nat}(e:Ent n p) (k d:Nat):Ent n (bubble p k d):=⟨(bubble_size ..).trans e.1,((xf.mp (bubble_perm p k d))).trans e.2⟩
theorem Ent.rev {p:Array Nat}(e:Ent n p) (i j:Nat):Ent n (kas_rev p i j):=e.mirror _ _ _
theorem tT {p:Array Nat}{i j:Nat}(hj:j<=p.size) (k:Nat):F f (kas_rev p i j) k=if i<=k/\k<j then F f p (i+j - 1 - k)else F f p k:=by
 have e:=getElem?_mirror_all (i:=i) hj k
 by_cases h:i<=k/\k<j
 ·rw[if_pos h]at e ⊢;exact tS e
 ·rw[if_neg h]at e ⊢;exact tS e
theorem J5 {p:Array Nat}{k d:Nat}(hs:k<p.size) (hd:d<=k) (i:Nat):F f (bubble p k d) i=if i=k - d then F f p k else if k - d<i/\i<=k then F f p (i - 1)else F f p i:=by
 have e:=getElem?_bubble hs d hd i
 by_cases h1:i=k - d
 ·rw[if_pos h1]at e ⊢;exact tS e
 ·rw[if_neg h1]at e ⊢
  by_cases h2:k - d<i/\i<=k
  ·rw[if_pos h2]at e ⊢;exact tS e
  ·rw[if_neg h2]at e ⊢;exact tS e
def Inc (f:Nat->Nat) (p:Array Nat) (m:Nat):Prop:=∀i j,i<=j->j<m->F f p i<=F f p j
def Dec (f:Nat->Nat) (p:Array Nat) (m:Nat):Prop:=∀i j,i<=j->j<m->F f p j<=F f p i
theorem Inc.succ {p:Array Nat}{m:Nat}(h:Inc f p m) (hm:1<=m) (h1:F f p (m - 1)<=F f p m):Inc f p (m+1):=by
 intro i j hij hj
 by_cases q:j=m
 ·subst q
  by_cases r:i=j
  ·subst r;exact ao _
  ·exact cu (h i (j - 1) (by omega) (by omega)) h1
 ·exact h i j hij (by omega)
theorem Dec.succ {p:Array Nat}{m:Nat}(h:Dec f p m) (hm:1<=m) (h1:F f p m<=F f p (m - 1)):Dec f p (m+1):=by
 intro i j hij hj
 by_cases q:j=m
 ·subst q
  by_cases r:i=j
  ·subst r;exact ao _
  ·exact cu h1 (h i (j - 1) (by omega) (by omega))
 ·exact h i j hij (by omega)
theorem BS {p:Array Nat}(e:Ent n p) (hn:0<n) {Q:Nat->ag->Prop}:∀(fu m:Nat) (s:ag),1<=m->Inc f p m->
  (∀m',m<=m'->m'<=m+fu->Inc f p m'->(m'=m+fu∨F f p m'<F f p (m' - 1))->Q m' s)->(kas_asc p fu m).kasWp (mM n f) Q s
 |0,m,s,h1,hi,h=>h m (ao _) (ao _) hi (.inl rfl)
 |fu+1,m,s,h1,hi,h=>by
  refine⟨e.lt hn _,e.lt hn _, ?_⟩
  by_cases c:f (p.getD m 0)<f (p.getD (m - 1) 0)
  ·rw[decide_eq_true c];exact h m (ao _) (by omega) hi (.inr c)
  ·rw[decide_eq_false c];refine BS e hn fu (m+1) s (by omega) (hi.succ h1 (Nat.le_of_not_lt c)) λm' a b c d=>h m' (by omega) (by omega) c ?_
   rcases d with d|d
   ·exact .inl (by omega)
   ·exact .inr d
theorem xG (hn:0<n) {Q:Array Nat×Nat×Nat->ag->Prop}:∀(fu m q:Nat) (p:Array Nat) (s:ag),Ent n p->q+1<=m->m+fu<=n->Dec f p m->(∀k,m - 1 - q<=k->k<m->F f p k=F f p (m - 1))->
  (∀p' m' q',Ent n p'->q'+1<=m'->m<=m'->m'<=m+fu->Dec f p' m'->(∀k,m' - 1 - q'<=k->k<m'->F f p' k=F f p' (m' - 1))->Q (p',m',q') s)->(kas_desc fu p m q).kasWp (mM n f) Q s
 |0,m,q,p,s,e,h1,h2,hd,he,h=>h p m q e h1 (ao _) (ao _) hd he
 |fu+1,m,q,p,s,e,h1,h2,hd,he,h=>by
  refine⟨e.lt hn _,e.lt hn _, ?_⟩
  by_cases c:f (p.getD m 0)<f (p.getD (m - 1) 0)
  ·have c':F f p m<F f p (m - 1):=c;rw[decide_eq_true c];show KasT.kasWp _ (if true=true then(if q>0 then _ else _)else _) _ _;rw[if_pos rfl]
   by_cases hq:q>0
   ·rw[if_pos hq];have hsz:m<=p.size:=by rw[e.1];omega
    have hF:∀k,F f (kas_rev p (m - (q+1)) m) k=F f p k:=by
     intro k;rw[tT hsz]
     split
     ·rw[he _ (by omega) (by omega),he k (by omega) (by omega)]
     ·rfl
    have hd':Dec f (kas_rev p (m - (q+1)) m) (m+1):=by intro i j hij hj;rw[hF,hF];exact hd.succ (by omega) (gh c') i j hij hj
    refine xG hn fu (m+1) 0 _ s (e.rev _ _) (by omega) (by omega) hd' ?_ λp' m' q' a b c d=>h p' m' q' a b (by omega) (by omega);intro k k1 k2;have:k=m:=by omega
    subst this;rfl
   ·rw[if_neg hq];refine xG hn fu (m+1) 0 _ s e (by omega) (by omega) (hd.succ (by omega) (gh c')) ?_ λp' m' q' a b c d=>h p' m' q' a b (by omega) (by omega);intro k k1 k2;have:k=m:=by omega
    subst this;rfl
  ·have c':¬ F f p m<F f p (m - 1):=c;rw[decide_eq_false c];show KasT.kasWp _ (if false=true then _ else KasT.ask _ _ _) _ _;rw[if_neg (by simp)];refine⟨e.lt hn _,e.lt hn _, ?_⟩
   by_cases c2:f (p.getD (m - 1) 0)<f (p.getD m 0)
   ·rw[decide_eq_true c2];exact h p m q e h1 (ao _) (by omega) hd he
   ·have c2':¬ F f p (m - 1)<F f p m:=c2;rw[decide_eq_false c2];have eq:F f p m=F f p (m - 1):=by omega
    refine xG hn fu (m+1) (q+1) _ s e (by omega) (by omega) (hd.succ (by omega) (by omega)) ?_ λp' m' q' a b c d=>h p' m' q' a b (by omega) (by omega);intro k k1 k2;show F f p k=F f p m
    by_cases r:k=m
    ·subst r;rfl
    ·rw[eq];exact he k (by omega) (by omega)
theorem Dec.rev {p:Array Nat}{m:Nat}(hm:m<=p.size) (h:Dec f p m):Inc f (kas_rev p 0 m) m:=by intro i j hij hj;rw[tT hm,tT hm,if_pos ⟨jl _,by omega⟩,if_pos ⟨jl _,hj⟩];exact h _ _ (by omega) (by omega)
theorem J6 (hn:0<n) {p:Array Nat}{m:Nat}{Q:Nat×Array Nat->ag->Prop}(e:Ent n p) (h1:1<=m) (h2:m<=n) (hd:Dec f p m)
  (h:∀m' p',Ent n p'->1<=m'->m'<=n->Inc f p' m'->Q (m',p') s):(kas_tail3 m n p).kasWp (mM n f) Q s:=by
 unfold kas_tail3;rw[KasT.kasWp_bind];refine BS (e.rev 0 m) hn (n - m) m s h1 (hd.rev (by rw[e.1];exact h2)) λm' a b c _=>?_;exact h m' _ (e.rev 0 m) (by omega) (by omega) c
theorem J7 (hn:0<n) {p:Array Nat}{m:Nat}{Q:Nat×Array Nat->ag->Prop}(e:Ent n p) (h2:m+1<=n) (hd:Dec f p (m+1))
  (h:∀m' p',Ent n p'->1<=m'->m'<=n->Inc f p' m'->Q (m',p') s):(kas_descPart m n p).kasWp (mM n f) Q s:=by
 unfold kas_descPart;rw[KasT.kasWp_bind];refine xG hn (n - (m+1)) (m+1) 0 p s e (by omega) (by omega) hd (λk k1 k2=>by (have:k=m:=by omega);subst this;rfl) λp' m' q' e' a b c d eq=>?_;show KasT.kasWp _ (if q'>0 then _ else _) _ _
 by_cases hq:q'>0
 ·rw[if_pos hq];have hsz:m'<=p'.size:=by rw[e'.1];omega
  have hF:∀k,F f (kas_rev p' (m' - (q'+1)) m') k=F f p' k:=by
   intro k;rw[tT hsz]
   split
   ·rw[eq _ (by omega) (by omega),eq k (by omega) (by omega)]
   ·rfl
  refine J6 hn (e'.rev _ _) (show 1<=m' by omega) (show m'<=n by omega) ?_ h;intro i j hij hj;rw[hF,hF];exact d i j hij hj
 ·rw[if_neg hq];exact J6 hn e' (show 1<=m' by omega) (show m'<=n by omega) d h
theorem YH (hn:1<=n) {p:Array Nat}{Q:Nat×Array Nat->ag->Prop}(e:Ent n p)
  (h:∀m' p',Ent n p'->1<=m'->m'<=n->Inc f p' m'->Q (m',p') s):(kas_count n p).kasWp (mM n f) Q s:=by
 unfold kas_count;rw[KasT.kasWp_bind];refine BS e (by omega) (n - 1) 1 s (ao _) (λi j hij hj=>by (have:i=j:=by omega);subst this;exact ao _) λm a b c d=>?_;show KasT.kasWp _ (if(m==n)=true then _ else if m>1 then _ else _) _ _
 by_cases q:m=n
 ·rw[if_pos (beq_iff_eq.mpr q)];exact h m p e (by omega) (by omega) c
 ·rw[if_neg (by intro z;exact q (beq_iff_eq.mp z))];have hlt:F f p m<F f p (m - 1):=by
   rcases d with d|d
   ·omega
   ·exact d
  by_cases q1:m>1
  ·rw[if_pos q1];refine⟨e.lt (by omega) _,e.lt (by omega) _, ?_⟩
   by_cases c2:f (p.getD 0 0)<f (p.getD (m - 1) 0)
   ·rw[decide_eq_true c2];exact h m p e (by omega) (by omega) c
   ·have c2':¬ F f p 0<F f p (m - 1):=c2;rw[decide_eq_false c2];have hsz:m<=p.size:=by rw[e.1];omega
    have eq:∀k,k<m->F f p k=F f p 0:=by intro k hk;have:=c 0 k (by omega) hk;have:=c k (m - 1) (by omega) (by omega);omega
    have hF:∀k,F f (kas_rev p 0 m) k=F f p k:=by
     intro k;rw[tT hsz]
     split
     ·rw[eq _ (by omega),eq k (by omega)]
     ·rfl
    refine J7 (by omega) (e.rev _ _) (by omega) ?_ h;intro i j hij hj;rw[hF,hF]
    by_cases r:j=m
    ·subst r
     by_cases r2:i=j
     ·subst r2;exact ao _
     ·have:=eq i (by omega);have:=eq (j - 1) (by omega);omega
    ·rw[eq i (by omega),eq j (by omega)];exact ao _
  ·rw[if_neg q1];have:m=1:=by omega
   subst this;refine J7 (by omega) e (by omega) ?_ h;intro i j hij hj
   by_cases r:i=j
   ·subst r;exact ao _
   ·have h1:i=0:=by omega
    have h2:j=1:=by omega
    subst h1;subst h2;exact gh hlt
theorem BU {p:Array Nat}(e:Ent n p) (hn:0<n) {k:Nat}(hi:Inc f p k) {Q:Nat->ag->Prop}:∀(fu l r:Nat) (s:ag),r - l<=fu->l<=r->r<=k->
  (∀i,i<l->F f p i<=F f p k)->(∀i,r<=i->i<k->F f p k<F f p i)->
  (∀l',l'<=k->(∀i,i<l'->F f p i<=F f p k)->(∀i,l'<=i->i<k->F f p k<F f p i)->Q l' s)->(kas_place p k fu l r).kasWp (mM n f) Q s
 |0,l,r,s,h1,h2,h3,ha,hb,h=>by
  have:l=r:=by omega
  subst this;exact h l h3 ha hb
 |fu+1,l,r,s,h1,h2,h3,ha,hb,h=>by
  unfold kas_place
  by_cases q:l>=r
  ·rw[if_pos q];have:l=r:=by omega
   subst this;exact h l h3 ha hb
  ·rw[if_neg q];refine⟨e.lt hn _,e.lt hn _, ?_⟩
   by_cases c:f (p.getD k 0)<f (p.getD ((l+r) / 2) 0)
   ·have c':F f p k<F f p ((l+r) / 2):=c;rw[decide_eq_true c];refine BU e hn hi fu l ((l+r) / 2) s (by omega) (by omega) (by omega) ha ?_ h;intro i i1 i2;have:=hi ((l+r) / 2) i i1 i2;omega
   ·have c':¬ F f p k<F f p ((l+r) / 2):=c;rw[decide_eq_false c];refine BU e hn hi fu ((l+r) / 2+1) r s (by omega) (by omega) (by omega) ?_ hb h;intro i i1;have:=hi i ((l+r) / 2) (by omega) (by omega);omega
theorem J8 (hn:0<n) {Q:Array Nat->ag->Prop}:∀(fu k:Nat) (p:Array Nat) (s:ag),Ent n p->k+fu<=n->Inc f p k->(∀p',Ent n p'->Inc f p' (k+fu)->Q p' s)->(kas_bin fu p k).kasWp (mM n f) Q s
 |0,k,p,s,e,h1,hi,h=>h p e hi
 |fu+1,k,p,s,e,h1,hi,h=>by
  unfold kas_bin;rw[KasT.kasWp_bind];refine BU e hn hi k 0 k s (by omega) (by omega) (ao _) (λi hi=>absurd hi (by omega)) (λi a b=>absurd b (by omega)) λl hl ha hb=>?_;have hsz:k<p.size:=by rw[e.1];omega
  refine J8 hn fu (k+1) _ s (e.bubble _ _) (by omega) ?_ λp' e' i'=>h p' e' (by rw[show k+(fu+1)=k+1+fu by omega];exact i');intro i j hij hj;rw[J5 hsz (by omega),J5 hsz (by omega)];have hkl:k - (k - l)=l:=by omega
  rw[hkl]
  by_cases i1:i=l
  ·rw[if_pos i1]
   by_cases j1:j=l
   ·rw[if_pos j1];exact ao _
   ·rw[if_neg j1,if_pos (by omega)];exact gh (hb (j - 1) (by omega) (by omega))
  ·rw[if_neg i1]
   by_cases i2:l<i/\i<=k
   ·rw[if_pos i2,if_neg (by omega),if_pos (by omega)];exact hi (i - 1) (j - 1) (by omega) (by omega)
   ·rw[if_neg i2]
    by_cases j1:j=l
    ·rw[if_pos j1];exact ha i (by omega)
    ·rw[if_neg j1]
     by_cases j2:l<j/\j<=k
     ·rw[if_pos j2];exact hi i (j - 1) (by omega) (by omega)
     ·rw[if_neg j2];exact hi i j hij (by omega)
theorem YI (hn:1<=n) {Q:Array Nat->ag->Prop}(h:∀p,Ent n p->Inc f p n->Q p s):(kas_sort n).kasWp (mM n f) Q s:=by
 unfold kas_sort;rw[KasT.kasWp_bind];refine YH hn ⟨by simp,by simp⟩ λm p e h1 h2 hi=>?_;show KasT.kasWp _ (if m<n then _ else _) _ _
 by_cases q:m<n
 ·rw[if_pos q];have:max m 1=m:=by omega
  rw[this];refine J8 (by omega) (n - m) m p s e (by omega) hi λp' e' i'=>h p' e' ?_;rw[show m+(n - m)=n by omega]at i';exact i'
 ·rw[if_neg q];have:m=n:=by omega
  subst this;exact h p e hi
theorem J9 {α:Type}{cmp:Nat->Nat->(Bool->ag->Prop)->ag->Prop}{I:ag->Prop}(hc:∀i j C s,I s->i<n->j<n->(∀s',I s'->C (decide (f i<f j)) s')->cmp i j C s):
  ∀(t:KasT α) (Q:α->Prop) (Q':α->ag->Prop) (s₀ s:ag),t.kasWp (mM n f) (λa _=>Q a) s₀->I s->(∀a s',Q a->I s'->Q' a s')->t.kasWp cmp Q' s
 | .ret a,Q,Q',s₀,s,h,hi,k=>k a s h hi
 | .ask i j c,Q,Q',s₀,s,h,hi,k=>hc i j _ s hi h.1 h.2.1 λs' hi'=>J9 hc (c _) Q Q' s₀ s' h.2.2 hi' k
end SoM
namespace L2
structure Sto {α:Type}(lt:α->α->Bool):Prop where
 irr:∀x,lt x x=false
 tr:∀x y z,lt x y=true->lt y z=true->lt x z=true
 tot:∀x y,lt x y=false->lt y x=false->x=y
section
variable{α:Type}{lt:α->α->Bool}
theorem Sto.asy (o:Sto lt) {x y:α}(h:lt x y=true):lt y x=false:=by
 cases q:lt y x with
 |false=>rfl
 |true=>have:=o.tr x y x h q;rw[o.irr]at this;cases this
theorem Sto.lt_le (o:Sto lt) {x y z:α}(h:lt x y=true) (h2:lt z y=false):lt x z=true:=by
 cases q:lt y z with
 |true=>exact o.tr x y z h q
 |false=>rw[<-o.tot y z q h2];exact h
theorem Sto.le_tr (o:Sto lt) {x y z:α}(h:lt y x=false) (h2:lt z y=false):lt z x=false:=by
 cases q:lt z x with
 |false=>rfl
 |true=>have:=o.lt_le q h;rw[h2]at this;cases this
def lC (lt:α->α->Bool) (x:α):List α->List α
 | []=>[x]
 |y::r=>if lt y x then y::lC lt x r else x::y::r
def eI (lt:α->α->Bool):List α->List α
 | []=>[]
 |x::r=>lC lt x (eI lt r)
theorem BV (x:α):∀l,(lC lt x l).Perm (x::l)
 | []=>.refl _
 |y::r=>by
  unfold lC
  split
  ·exact((BV x r).cons y).trans (vv ..)
  ·exact .refl _
theorem xH:∀l,(eI lt l).Perm l
 | []=>.refl _
 |x::r=>(BV x _).trans ((xH r).cons x)
abbrev eX (lt:α->α->Bool) (l:List α):Prop:=l.Pairwise λa b=>lt b a=false
abbrev eV (lt:α->α->Bool) (l:List α):Prop:=l.Pairwise λa b=>lt a b=true
theorem KC (o:Sto lt) (x:α):∀l,eX lt l->eX lt (lC lt x l)
 | [],_=>by simp[lC,eX]
 |y::r,h=>by
  have h1:=cx.mp h;unfold lC
  split
  ·rename_i q;refine cx.mpr ⟨λz hz=>?_,KC o x r h1.2⟩
   rcases bf.mp ((BV x r).mem_iff.mp hz)with rfl|hz
   ·exact o.asy q
   ·exact h1.1 z hz
  ·rename_i q;have q':lt y x=false:=by simpa using q
   refine cx.mpr ⟨λz hz=>?_,h⟩
   rcases bf.mp hz with rfl|hz
   ·exact q'
   ·exact o.le_tr q' (h1.1 z hz)
theorem KD (o:Sto lt):∀l,eX lt (eI lt l)
 | []=>oq
 |x::r=>KC o x _ (KD o r)
theorem BW (o:Sto lt):∀{l l':List α},eX lt l->eX lt l'->l.Perm l'->l=l'
 | [],l',_,_,p=>(List.nil_perm.mp p).symm
 |x::r,[],_,_,p=>by simp at p
 |x::r,y::r',h,h',p=>by
  have h1:=cx.mp h;have h2:=cx.mp h';have e:x=y:=by
   refine o.tot x y ?_ ?_
   ·rcases bf.mp (p.mem_iff.mp (bo ..))with e|e
    ·rw[e];exact o.irr y
    ·exact h2.1 x e
   ·rcases bf.mp (p.mem_iff.mpr (bo ..))with e|e
    ·rw[e];exact o.irr x
    ·exact h1.1 y e
  subst e;rw[BW o h1.2 h2.2 (List.Perm.cons_inv p)]
theorem YJ (o:Sto lt) {l l':List α}(h:eX lt l') (p:l'.Perm l):l'=eI lt l:=BW o h (KD o l) (p.trans (xH l).symm)
def kN (lt:α->α->Bool) (x:α):List α->List α
 | []=>[x]
 |y::r=>if lt y x then y::kN lt x r else if lt x y then x::y::r else y::r
def dW (lt:α->α->Bool):List α->List α
 | []=>[]
 |x::r=>kN lt x (dW lt r)
theorem BX (o:Sto lt) (x z:α):∀l,z∈kN lt x l↔z=x∨z∈l
 | []=>by simp[kN]
 |y::r=>by
  unfold kN
  split
  ·rw[bf,BX o x z r,bf];constructor
   ·rintro (h|h|h)
    ·exact .inr (.inl h)
    ·exact .inl h
    ·exact .inr (.inr h)
   ·rintro (h|h|h)
    ·exact .inr (.inl h)
    ·exact .inl h
    ·exact .inr (.inr h)
  ·rename_i q1
   split
   ·simp
   ·rename_i q2;have e:=o.tot x y (by simpa using q2) (by simpa using q1);subst e;simp
theorem mO (o:Sto lt) (z:α):∀l,z∈dW lt l↔z∈l
 | []=>.rfl
 |x::r=>by rw[dW,BX o,mO o z r,bf]
theorem KG (o:Sto lt) (x:α):∀l,eV lt l->eV lt (kN lt x l)
 | [],_=>by simp[kN,eV]
 |y::r,h=>by
  have h1:=cx.mp h;unfold kN
  split
  ·rename_i q;refine cx.mpr ⟨λz hz=>?_,KG o x r h1.2⟩
   rcases(BX o x z r).mp hz with rfl|hz
   ·exact q
   ·exact h1.1 z hz
  ·split
   ·rename_i q;refine cx.mpr ⟨λz hz=>?_,h⟩
    rcases bf.mp hz with rfl|hz
    ·exact q
    ·exact o.tr _ _ _ q (h1.1 z hz)
   ·exact h
theorem tU (o:Sto lt):∀l,eV lt (dW lt l)
 | []=>oq
 |x::r=>KG o x _ (tU o r)
theorem KH (o:Sto lt) {l:List α}(h:eV lt l):eX lt l:=h.imp λh=>o.asy h
theorem tV (o:Sto lt) {l:List α}(h:eV lt l):l.Nodup:=h.imp λ{a b} h e=>by rw[e,o.irr]at h;cases h
theorem qN (o:Sto lt) {l l':List α}(h:eV lt l) (h':eV lt l') (m:∀z,z∈l↔z∈l'):l=l':=by refine BW o (KH o h) (KH o h') ?_;exact(pv (tV o h) (tV o h')).mpr m
theorem YK (o:Sto lt) {l l':List α}(h:eV lt l') (m:∀z,z∈l'↔z∈l):l'=dW lt l:=qN o h (tU o l) λz=>(m z).trans (mO o z l).symm
def rk (lt:α->α->Bool) (ks:List α) (x:α):Nat:=ks.countP λy=>lt y x
theorem BY {p q:α->Bool}:∀(l:List α),(∀y,p y=true->q y=true)->l.countP p<=l.countP q
 | [],_=>ao _
 |y::r,h=>by
  have:=BY r h;rw[rg,rg]
  cases hp:p y with
  |true=>rw[h y hp];simp;omega
  |false=>cases q y <;> simp <;> omega
theorem KI {p q:α->Bool}:∀(l:List α),(∀y,p y=true->q y=true)->∀x,x∈l->q x=true->p x=false->l.countP p<l.countP q
 | [],_,x,hx,_,_=>by simp at hx
 |y::r,h,x,hx,h1,h2=>by
  rw[rg,rg]
  rcases bf.mp hx with rfl|hx
  ·have:=BY r h;rw[h1,h2];simp;omega
  ·have:=KI r h x hx h1 h2
   cases hp:p y with
   |true=>rw[h y hp];simp;omega
   |false=>cases q y <;> simp <;> omega
theorem KJ (o:Sto lt) {ks:List α}{x z:α}(hx:x∈ks):decide (rk lt ks x<rk lt ks z)=lt x z:=by
 cases q:lt x z with
 |true=>exact decide_eq_true (KI ks (λy h=>o.tr y x z h q) x hx q (o.irr x))
 |false=>exact decide_eq_false (Nat.not_lt.mpr (BY ks λy h=>o.lt_le h q))
theorem YL (o:Sto lt) {ks:List α}{x z:α}(hz:z∈ks) (h:rk lt ks x<=rk lt ks z):lt z x=false:=by rw[<-KJ o hz];exact decide_eq_false (Nat.not_lt.mpr h)
end
def lD (a b:Int):Bool:=decide (a<b)
theorem BZ:Sto lD:=⟨λx=>by simp[lD],λx y z h1 h2=>by simp[lD]at *;omega,λx y h1 h2=>by simp[lD]at *;omega⟩
def cJ:List Int->List Int->Bool
 | [],[]=>false
 | [],_::_=>true
 |_::_,[]=>false
 |a::x,b::y=>if a==b then cJ x y else decide (a<b)
theorem stoL:Sto cJ:=by
 refine⟨λx=>?_,λx=>?_,λx=>?_⟩
 ·induction x with
  |nil=>rfl
  |cons a x ih=>simp[cJ,ih]
 ·induction x with
  |nil=>
   intro y z h1 h2
   cases z with
   |nil=>cases y with
    |nil=>exact h1
    |cons b y=>cases h2
   |cons c z=>rfl
  |cons a x ih=>
   intro y z h1 h2
   cases y with
   |nil=>cases h1
   |cons b y=>
    cases z with
    |nil=>cases h2
    |cons c z=>
     simp only[cJ,beq_iff_eq]at h1 h2 ⊢
     by_cases e1:a=b <;> by_cases e2:b=c
     ·rw[if_pos e1]at h1;rw[if_pos e2]at h2;rw[if_pos (e1.trans e2)];exact ih y z h1 h2
     ·rw[if_neg e2]at h2;rw[if_neg (by rw[e1];exact e2)];rw[e1];exact h2
     ·rw[if_neg e1]at h1;rw[if_neg (by rw[<-e2];exact e1)];rw[<-e2];exact h1
     ·rw[if_neg e1]at h1;rw[if_neg e2]at h2;simp only[decide_eq_true_eq]at h1 h2;rw[if_neg (by omega)];simp;omega
 ·induction x with
  |nil=>
   intro y h1 h2
   cases y with
   |nil=>rfl
   |cons b y=>cases h1
  |cons a x ih=>
   intro y h1 h2
   cases y with
   |nil=>cases h2
   |cons b y=>
    simp only[cJ,beq_iff_eq]at h1 h2
    by_cases e:a=b
    ·subst e;rw[if_pos rfl]at h1 h2;rw[ih y h1 h2]
    ·rw[if_neg e]at h1;rw[if_neg (cw e)]at h2;simp at h1 h2;omega
def cE (p q:Int×Int):Bool:=if p.1==q.1 then decide (p.2<q.2)else decide (p.1<q.1)
def gA (p:Int×Int):List Int:=[p.1,p.2]
theorem qO (p q:Int×Int):cJ (gA p) (gA q)=cE p q:=by
 unfold cE gA cJ
 split
 ·unfold cJ
  split
  ·rename_i h;simp at h;simp[cJ,h]
  ·rfl
 ·rfl
theorem YM {p q:Int×Int}(h:gA p=gA q):p=q:=by obtain⟨a,b⟩:=p;obtain⟨c,d⟩:=q;simp[gA]at h;rw[h.1,h.2]
theorem stoP:Sto cE:=⟨λx=>by rw[<-qO];exact stoL.irr _,λx y z h1 h2=>by rw[<-qO]at *;exact stoL.tr _ _ _ h1 h2,λx y h1 h2=>by rw[<-qO]at *;exact YM (stoL.tot _ _ h1 h2)⟩
section
variable{α β:Type}{lt:α->α->Bool}{lt':β->β->Bool}{f:α->β}
theorem KL (h:∀x y,lt' (f x) (f y)=lt x y) (x:α):∀l,lC lt' (f x) (l.map f)=(lC lt x l).map f
 | []=>rfl
 |y::r=>by
  simp only[cy,lC,h]
  split
  ·rw[KL h x r];rfl
  ·rfl
theorem KN (h:∀x y,lt' (f x) (f y)=lt x y):∀l,eI lt' (l.map f)=(eI lt l).map f
 | []=>rfl
 |x::r=>by rw[cy,eI,KN h r,KL h];rfl
theorem KO (h:∀x y,lt' (f x) (f y)=lt x y) (x:α):∀l,kN lt' (f x) (l.map f)=(kN lt x l).map f
 | []=>rfl
 |y::r=>by
  simp only[cy,kN,h]
  split
  ·rw[KO h x r];rfl
  ·split <;> rfl
theorem KQ (h:∀x y,lt' (f x) (f y)=lt x y):∀l,dW lt' (l.map f)=(dW lt l).map f
 | []=>rfl
 |x::r=>by rw[cy,dW,KQ h r,KO h];rfl
end
end L2
namespace SM
open PySem PySem.SetTable
def eX (l:List Nat):Prop:=l.Pairwise (·<·)
theorem CA {l:List Nat}(hr:eX l) {i k x:Nat}(a:l[i]?=some x) (b:l[k]?=some x):i=k:=by
 obtain⟨p1,p2⟩:=bc.mp a;obtain⟨q1,q2⟩:=bc.mp b
 rcases Nat.lt_trichotomy i k with h|h|h
 ·have:=gw.mp hr i k p1 q1 h;omega
 ·exact h
 ·have:=gw.mp hr k i q1 p1 h;omega
theorem YN (xs:Array Nat) (j:Nat) (hr:eX xs.toList):∀(fuel lo hi:Nat),lo<=hi->hi<=xs.size->hi - lo<=fuel->
  (∀i (h:i<xs.size),i<lo->xs[i]<j)->(∀i (h:i<xs.size),hi<=i->j<=xs[i])->
  (∀i (h:i<xs.size),i<below.go xs j fuel lo hi->xs[i]<j)/\(∀i (h:i<xs.size),below.go xs j fuel lo hi<=i->j<=xs[i])/\below.go xs j fuel lo hi<=xs.size:=by
 intro fuel
 induction fuel with
 |zero=>
  intro lo hi h1 h2 h3 ha hb;have:lo=hi:=by omega
  subst this;exact⟨ha,hb,h2⟩
 |succ n ih=>
  intro lo hi h1 h2 h3 ha hb;unfold below.go
  by_cases hlt:lo<hi
  ·rw[if_pos hlt];dsimp only;have hm:(lo+hi) / 2<xs.size:=by omega
   have e:xs.getD ((lo+hi) / 2) j=xs[(lo+hi) / 2]:=by simp[ka,hm]
   have mono:∀a b (ha:a<xs.size) (hb:b<xs.size),a<b->xs[a]<xs[b]:=by intro a b ha hb hab;have:=gw.mp hr a b (by simpa using ha) (by simpa using hb) hab;simpa using this
   by_cases hc:xs.getD ((lo+hi) / 2) j<j
   ·rw[if_pos hc];refine ih _ _ (by omega) h2 (by omega) ?_ hb;intro i h hi';rw[e]at hc
    by_cases q:i=(lo+hi) / 2
    ·subst q;exact hc
    ·have:=mono i _ h hm (by omega);omega
   ·rw[if_neg hc];refine ih _ _ (by omega) (by omega) (by omega) ha ?_;intro i h hi';rw[e]at hc
    by_cases q:i=(lo+hi) / 2
    ·subst q;omega
    ·have:=mono _ i hm h (by omega);omega
  ·rw[if_neg hlt];have:lo=hi:=by omega
   subst this;exact⟨ha,hb,h2⟩
theorem tW {xs:Array Nat}{j:Nat}(hr:eX xs.toList):
  (∀i (h:i<xs.size),i<below xs j->xs[i]<j)/\(∀i (h:i<xs.size),below xs j<=i->j<=xs[i])/\below xs j<=xs.size:=
 YN xs j hr xs.size 0 xs.size (jl _) (ao _) (by omega) (λi h hi=>absurd hi (by omega)) (λi h hi=>absurd h (by omega))
theorem KR {xs:Array Nat}{j:Nat}(hr:eX xs.toList) (hm:j∈xs.toList):xs[below xs j]?=some j:=by
 obtain⟨h1,h2,h3⟩:=tW (j:=j) hr;obtain⟨i,hi,e⟩:=jg hm;have hi':i<xs.size:=by simpa using hi
 have e':xs[i]=j:=by simpa using e
 have hle:below xs j<=i:=by
  rcases iz i (below xs j)with q|q
  ·have:=h1 i hi' q;omega
  ·exact q
 have hb:below xs j<xs.size:=by omega
 have:=h2 (below xs j) hb (ao _);have mono:∀a b (ha:a<xs.size) (hb:b<xs.size),a<b->xs[a]<xs[b]:=by intro a b ha hb hab;have:=gw.mp hr a b (by simpa using ha) (by simpa using hb) hab;simpa using this
 have hE:below xs j=i:=by
  rcases iz (below xs j) i with q|q
  ·have:=mono _ _ hb hi' q;omega
  ·omega
 rw[fj hb]
 congr 1
 have:∀k (hk:k<xs.size),k=i->xs[k]=xs[i]:=by intro k hk e;subst e;rfl
 rw[this _ hb hE,e']
theorem YO {xs:Array Nat}{j:Nat}(hm:j∉xs.toList):(xs[below xs j]?==some j)=false:=by rw[beq_eq_false_iff_ne];intro e;obtain⟨h,e⟩:=dj.mp e;exact hm (by rw[<-e];simp)
theorem tX {α:Type}(xs:Array α) (p:Nat) (x:α) (hp:p<=xs.size):(insertAt xs p x).toList=xs.toList.take p++x::xs.toList.drop p:=by unfold insertAt;rw[Array.toList_append,Array.toList_push];simp[Array.toList_extract,List.take_of_length_le]
theorem YQ {xs:Array Nat}{j:Nat}(hr:eX xs.toList) (hm:j∉xs.toList):eX (insertAt xs (below xs j) j).toList:=by
 obtain⟨h1,h2,h3⟩:=tW (j:=j) hr;rw[tX _ _ _ h3];unfold eX at hr ⊢;have hlt:∀a∈xs.toList.take (below xs j),a<j:=by intro a ha;obtain⟨i,hi,e⟩:=jg ha;rw[jk]at hi;rw[List.getElem_take]at e;have:=h1 i (by simp at hi;omega) (by omega);simp at e;omega
 have hgt:∀a∈xs.toList.drop (below xs j),j<a:=by
  intro a ha;obtain⟨i,hi,e⟩:=jg ha;rw[nu]at hi;rw[List.getElem_drop]at e;have q:=h2 (below xs j+i) (by simp at hi;omega) (by omega);have ne:a≠j:=by rintro rfl;exact hm (List.mem_of_mem_drop ha)
  simp at e;omega
 rw[List.pairwise_append];refine⟨hr.sublist (List.take_sublist _ _), ?_, ?_⟩
 ·rw[cx];exact⟨hgt,hr.sublist (List.drop_sublist _ _)⟩
 ·intro a ha b hb
  rcases bf.mp hb with rfl|hb
  ·exact hlt a ha
  ·have:=hlt a ha;have:=hgt b hb;omega
def mP (mask:Nat) (p:Probe):Probe:=
 if p.more>0 then{ p with j:=p.j+1,more:=p.more - 1 } else
 { p with j:=(leap mask p.i p.perturb).1,more:=runEnd mask (leap mask p.i p.perturb).1 - (leap mask p.i p.perturb).1,i:=(leap mask p.i p.perturb).1,perturb:=(leap mask p.i p.perturb).2 }
theorem KS (t:ie) (p:Probe):t.advance p=mP t.mask p:=by
 unfold SetTable.advance mP
 split <;> rfl
def YR (mask:Nat) (h:Int):Probe:={ j:=bits h % (mask+1),more:=runEnd mask (bits h % (mask+1)) - bits h % (mask+1),i:=bits h % (mask+1),perturb:=bits h,dummy:=none }
def dC (mask:Nat) (h:Int):Nat->Probe
 |0=>YR mask h
 |n+1=>mP mask (dC mask h n)
def pr (mask:Nat) (h:Int) (n:Nat):Nat:=(dC mask h n).j
theorem YS (mask:Nat) (p:Probe):(mP mask p).dummy=p.dummy:=by unfold mP;split <;> rfl
theorem KU (mask:Nat) (h:Int):∀n,(dC mask h n).dummy=none
 |0=>rfl
 |n+1=>by rw[dC,YS,KU mask h n]
def pA (mask i pt:Nat):Probe:={ j:=i,more:=runEnd mask i - i,i:=i,perturb:=pt,dummy:=none }
def bs (mask:Nat) (h:Int):Nat->Nat×Nat
 |0=>(bits h % (mask+1),bits h)
 |L+1=>leap mask (bs mask h L).1 (bs mask h L).2
theorem YT (mask i:Nat):runEnd mask i - i<=9:=by unfold runEnd;split <;> omega
theorem xI (mask:Nat) (h:Int) (i pt:Nat) (n:Nat) (e:dC mask h n=pA mask i pt):∀k,k<=runEnd mask i - i->dC mask h (n+k)={ pA mask i pt with j:=i+k,more:=runEnd mask i - i - k }
 |0,_=>by rw[Nat.add_zero,e];rfl
 |k+1,hk=>by have ih:=xI mask h i pt n e k (by omega);rw[show n+(k+1)=(n+k)+1 from rfl,dC,ih];unfold mP;rw[if_pos (show runEnd mask i - i - k>0 by omega)];simp[pA];omega
theorem KW (mask:Nat) (h:Int):∀L,∃n,n<=10*L/\dC mask h n=pA mask (bs mask h L).1 (bs mask h L).2
 |0=>⟨0,by omega,rfl⟩
 |L+1=>by obtain⟨n,hn,e⟩:=KW mask h L;have r:=xI mask h _ _ n e (runEnd mask (bs mask h L).1 - (bs mask h L).1) (ao _);have:=YT mask (bs mask h L).1;refine⟨n+(runEnd mask (bs mask h L).1 - (bs mask h L).1)+1,by omega, ?_⟩;rw[dC,r];unfold mP;rw[if_neg (by simp)];rfl
theorem KY (mask:Nat) (h:Int):∀L,(bs mask h L).2=bits h / 32 ^ L
 |0=>by simp[bs]
 |L+1=>by rw[bs];show(bs mask h L).2 / 32=_;rw[KY mask h L,Nat.div_div_eq_div_mul,Nat.pow_succ]
theorem YU (h:Int):bits h<2 ^ 64:=by unfold bits;omega
theorem YV (mask:Nat) (h:Int) {L:Nat}(hL:13<=L):(bs mask h L).2=0:=by
 rw[KY];have h1:=YU h;have h2:(32:Nat) ^ 13<=32 ^ L:=Nat.pow_le_pow_right (by decide) hL;have h3:(2:Nat) ^ 64<32 ^ 13:=by decide
 exact Nat.div_eq_of_lt (by omega)
def fx (mask x:Nat):Nat:=(x*5+1) % (mask+1)
def nY (mask:Nat):Nat->Nat->Nat
 |0,x=>x
 |n+1,x=>nY mask n (fx mask x)
theorem KZ (mask:Nat):∀n x,nY mask (n+1) x=fx mask (nY mask n x)
 |0,x=>rfl
 |n+1,x=>by rw[nY,KZ mask n,nY]
theorem K0 (mask:Nat) (h:Int):∀n,(bs mask h (13+n)).1=nY mask n (bs mask h 13).1
 |0=>rfl
 |n+1=>by rw[KZ,<-K0 mask h n,show 13+(n+1)=(13+n)+1 from rfl,bs];show((bs mask h (13+n)).1*5+1+(bs mask h (13+n)).2 / 32) % (mask+1)=_;rw[YV mask h (by omega)];rfl
def qP (mask:Nat):Nat->Nat->Nat
 |0,_=>0
 |n+1,x=>2 ^ x ||| qP mask n (fx mask x)
theorem K5 (mask j:Nat):∀n x,(qP mask n x).testBit j=true->∃k,k<n/\nY mask k x=j
 |0,x,h=>by simp[qP]at h
 |n+1,x,h=>by
  rw[qP,Nat.testBit_or,Bool.or_eq_true]at h
  rcases h with h|h
  ·rw[Nat.testBit_two_pow,decide_eq_true_eq]at h;exact⟨0,by omega,h⟩
  ·obtain⟨k,hk,e⟩:=K5 mask j n _ h;exact⟨k+1,by omega,e⟩
def lE (mask:Nat):Prop:=mask=7∨mask=31∨mask=127
def K6 (mask:Nat):Bool:=(ba (mask+1)).all λx=>qP mask (mask+1) x==2 ^ (mask+1) - 1
theorem YW {mask:Nat}(g:lE mask):K6 mask=true:=by rcases g with rfl|rfl|rfl <;> decide +kernel
theorem YX {mask x j:Nat}(g:lE mask) (hx:x<=mask) (hj:j<=mask):∃k,k<=mask/\nY mask k x=j:=by
 have h1:=YW g;unfold K6 at h1;rw[fy]at h1;have h2:=h1 x (bw.mpr (by omega));rw[beq_iff_eq]at h2;have h3:(qP mask (mask+1) x).testBit j=true:=by rw[h2,Nat.testBit_two_pow_sub_one,decide_eq_true_eq];omega
 obtain⟨k,hk,e⟩:=K5 mask j _ _ h3;exact⟨k,by omega,e⟩
theorem xJ (a m:Nat):a % (m+1)<=m:=by have:=Nat.mod_lt a (show 0<m+1 by omega);omega
theorem YY (mask:Nat) (h:Int):∀L,(bs mask h L).1<=mask
 |0=>xJ _ _
 |L+1=>xJ _ _
theorem K7 {mask j:Nat}(g:lE mask) (h:Int) (hj:j<=mask):∃L,L<=13+mask/\(bs mask h L).1=j:=by obtain⟨k,hk,e⟩:=YX g (YY mask h 13) hj;exact⟨13+k,by omega,by rw[K0];exact e⟩
theorem YZ {mask j:Nat}(g:lE mask) (h:Int) (hj:j<=mask):∃n,n<10*turns mask/\pr mask h n=j:=by obtain⟨L,hL,e⟩:=K7 g h hj;obtain⟨n,hn,e2⟩:=KW mask h L;refine⟨n,by unfold turns;omega, ?_⟩;unfold pr;rw[e2];exact e
theorem K8 {mask i:Nat}(hi:i<=mask):runEnd mask i<=mask:=by unfold runEnd;split <;> omega
theorem K9 {mask:Nat}(h:Int):∀n,(dC mask h n).i<=mask/\(dC mask h n).j+(dC mask h n).more<=mask
 |0=>by
  have e:bits h % (mask+1)<=mask:=xJ _ _;have:=K8 e;have:bits h % (mask+1)<=runEnd mask (bits h % (mask+1)):=by unfold runEnd;split <;> omega
  exact⟨e,by show bits h % (mask+1)+(runEnd mask (bits h % (mask+1)) - bits h % (mask+1))<=mask;omega⟩
 |n+1=>by
  obtain⟨h1,h2⟩:=K9 (mask:=mask) h n;rw[dC];unfold mP
  split
  ·exact⟨h1,by dsimp only;omega⟩
  ·dsimp only;have e:(leap mask (dC mask h n).i (dC mask h n).perturb).1<=mask:=xJ _ _;have:=K8 e;have:(leap mask (dC mask h n).i (dC mask h n).perturb).1<=runEnd mask (leap mask (dC mask h n).i (dC mask h n).perturb).1:=by unfold runEnd;split <;> omega
   exact⟨e,by omega⟩
theorem CB {mask:Nat}(h:Int) (n:Nat):pr mask h n<=mask:=by have:=(K9 (mask:=mask) h n).2;unfold pr;omega
def Way (mask:Nat) (occ:Nat->Prop) (h:Int) (j:Nat):Prop:=∃n,pr mask h n=j/\∀m,m<n->occ (pr mask h m)
theorem Way.mono {mask:Nat}{occ occ':Nat->Prop}{h:Int}{j:Nat}(w:Way mask occ h j) (k:∀x,occ x->occ' x):Way mask occ' h j:=let ⟨n,e,a⟩:=w;⟨n,e,λm hm=>k _ (a m hm)⟩
structure TOk (t:ie) (hs:List Int):Prop where
 size:t.place.size=hs.length
 rise:eX t.place.toList
 nod:t.dummies=#[]
 bnd:∀j∈t.place.toList,j<=t.mask
 room:hs.length<=t.mask
 msk:lE t.mask
 way:∀(i:Nat) (h:Int) (j:Nat),hs[i]?=some h->t.place.toList[i]?=some j->Way t.mask (·∈t.place.toList) h j
 plain:t.plain=true
theorem TOk.fits {t:ie}{hs:List Int}(T:TOk t hs):t.fits hs.length=true:=by unfold SetTable.fits SetTable.fill;rw[T.nod,T.size];simpa using T.room
theorem TOk.gave {t:ie}{hs:List Int}(T:TOk t hs):t.gaveWay=false:=by
 unfold SetTable.gaveWay
 rcases T.msk with e|e|e <;> rw[e] <;> rfl
theorem LB (j:Nat):SetTable.has #[] j=false:=by unfold SetTable.has;simp
theorem TOk.slot_live {t:ie}{hs:List Int}(T:TOk t hs) {j:Nat}(h:j∈t.place.toList):∃i,t.slot j=.live i/\t.place.toList[i]?=some j:=by refine⟨below t.place j, ?_,by simpa using KR T.rise h⟩;unfold SetTable.slot;dsimp only;rw[KR T.rise h];simp
theorem TOk.slot_empty {t:ie}{hs:List Int}(T:TOk t hs) {j:Nat}(h:j∉t.place.toList):t.slot j=.empty:=by unfold SetTable.slot;dsimp only;rw[YO h,T.nod,LB];rfl
theorem TOk.empty_there {t:ie}{hs:List Int}(T:TOk t hs):∃j,j<=t.mask/\j∉t.place.toList:=by
 rcases qk (∃j,j<=t.mask/\j∉t.place.toList)with h|h
 ·exact h
 ·exfalso
  have h1:∀j,j∈ba (t.mask+1)->j∈t.place.toList:=by
   intro j hj
   rcases qk (j∈t.place.toList)with q|q
   ·exact q
   ·exact absurd ⟨j,by have:=bw.mp hj;omega,q⟩ h
  have h2:=(rh (n:=t.mask+1)).length_le_of_subset h1;rw[km]at h2;have h3:t.place.toList.length=hs.length:=by rw[<-T.size];simp
  have:=T.room;omega
theorem Y0 {t:ie}{hs:List Int}(T:TOk t hs) (hashAt:Nat->Int) (h:Int):∀(fuel n N:Nat),n<=N->N - n<fuel->pr t.mask h N∉t.place.toList->
  ∃m,n<=m/\m<=N/\(∀l,n<=l->l<m->pr t.mask h l∈t.place.toList/\∀i,t.place.toList[i]?=some (pr t.mask h l)->hashAt i≠h) /\
   ((pr t.mask h m∉t.place.toList/\probe.go t hashAt h fuel (dC t.mask h n)=some (.empty (pr t.mask h m) none)) ∨
    (∃i,t.place.toList[i]?=some (pr t.mask h m)/\hashAt i=h/\probe.go t hashAt h fuel (dC t.mask h n)=some (.candidate (pr t.mask h m) i (dC t.mask h (m+1))))):=by
 intro fuel
 induction fuel with
 |zero=>intro n N _ h2 _;omega
 |succ f ih=>
  intro n N h1 h2 h3;have hj:(dC t.mask h n).j=pr t.mask h n:=rfl
  rcases qk (pr t.mask h n∈t.place.toList)with hm|hm
  ·obtain⟨i,e1,e2⟩:=T.slot_live hm
   by_cases hh:hashAt i=h
   ·refine⟨n,ao _,h1,λl a b=>absurd a (by omega),.inr ⟨i,e2,hh, ?_⟩⟩;rw[probe.go,hj,e1];dsimp only;rw[if_pos (beq_iff_eq.mpr hh),KS];rfl
   ·have hne:n≠N:=by rintro rfl;exact h3 hm
    obtain⟨m,a1,a2,a3,a4⟩:=ih (n+1) N (by omega) (by omega) h3;have e3:probe.go t hashAt h (f+1) (dC t.mask h n)=probe.go t hashAt h f (dC t.mask h (n+1)):=by rw[probe.go,hj,e1];dsimp only;rw[if_neg (by intro q;exact hh (beq_iff_eq.mp q)),KS];rfl
    refine⟨m,by omega,a2,λl b1 b2=>?_,by rw[e3];exact a4⟩
    rcases iz n l with q|q
    ·exact a3 l (by omega) b2
    ·have:l=n:=by omega
     subst this;refine⟨hm,λi' e'=>?_⟩;have:i'=i:=CA T.rise e' e2;subst this;exact hh
  ·refine⟨n,ao _,h1,λl a b=>absurd a (by omega),.inl ⟨hm, ?_⟩⟩;rw[probe.go,hj,T.slot_empty hm];dsimp only;rw[KU]
theorem TOk.stops {t:ie}{hs:List Int}(T:TOk t hs) (h:Int):∃N,N<10*turns t.mask/\pr t.mask h N∉t.place.toList:=by obtain⟨j,hj,hn⟩:=T.empty_there;obtain⟨N,hN,e⟩:=YZ T.msk h hj;exact⟨N,hN,by rw[e];exact hn⟩
theorem TOk.before {t:ie}{hs:List Int}(T:TOk t hs) {h:Int}{i j m:Nat}(e1:hs[i]?=some h) (e2:t.place.toList[i]?=some j) (hm:pr t.mask h m∉t.place.toList):∃n,n<m/\pr t.mask h n=j:=by
 obtain⟨n,e,a⟩:=T.way i h j e1 e2;refine⟨n, ?_,e⟩
 rcases iz n m with q|q
 ·exact q
 ·exfalso
  rcases iz m n with r|r
  ·exact hm (a m r)
  ·have:m=n:=by omega
   subst this;exact hm (by rw[e];exact cb e2)
theorem LC {xs:Array Nat}{p j x:Nat}(hp:p<=xs.size):x∈(insertAt xs p j).toList↔x=j∨x∈xs.toList:=by
 rw[tX _ _ _ hp,dy,bf];have e:x∈xs.toList↔x∈xs.toList.take p∨x∈xs.toList.drop p:=by rw[<-dy,Au]
 rw[e];constructor
 ·rintro (a|a|a)
  ·exact .inr (.inl a)
  ·exact .inl a
  ·exact .inr (.inr a)
 ·rintro (a|a|a)
  ·exact .inr (.inl a)
  ·exact .inl a
  ·exact .inr (.inr a)
theorem Y1 {t:ie}(hn:t.dummies=#[]) (j:Nat):t.put j=({ t with place:=insertAt t.place (below t.place j) j },below t.place j):=by unfold SetTable.put;dsimp only;rw[hn,LB];cases t;subst hn;rfl
theorem LD {α:Type}(l:List α) (x:α) (p i:Nat) (hp:p<=l.length):(l.take p++x::l.drop p)[i]?=if i<p then l[i]? else if i=p then some x else l[i - 1]?:=by
 have hl:(l.take p).length=p:=by rw[jk];omega
 by_cases h1:i<p
 ·rw[if_pos h1,du (by omega),zq h1]
 ·rw[if_neg h1,fh (by omega),hl]
  by_cases h2:i=p
  ·subst h2;rw[if_pos rfl,Nat.sub_self];rfl
  ·rw[if_neg h2];obtain⟨k,rfl⟩:∃k,i=p+(k+1):=⟨i - p - 1,by omega⟩
   rw[show p+(k+1) - p=k+1 by omega,rf,List.getElem?_drop,show p+(k+1) - 1=p+k by omega]
theorem TOk.put {t:ie}{hs:List Int}(T:TOk t hs) {h:Int}{n:Nat}(hn:pr t.mask h n∉t.place.toList) (hw:∀m,m<n->pr t.mask h m∈t.place.toList) (hr:hs.length+1<=t.mask):
  TOk { t with place:=insertAt t.place (below t.place (pr t.mask h n)) (pr t.mask h n) } (hs.take (below t.place (pr t.mask h n))++h::hs.drop (below t.place (pr t.mask h n))):=by
 have hb:=(tW (j:=pr t.mask h n) T.rise).2.2;have hs':t.place.toList.length=hs.length:=by rw[<-T.size];simp
 have hlen:(hs.take (below t.place (pr t.mask h n))++h::hs.drop (below t.place (pr t.mask h n))).length=hs.length+1:=by rw[bx,dg,jk,nu];have:=T.size;omega
 refine⟨?_,YQ T.rise hn,T.nod, ?_, ?_,T.msk, ?_,T.plain⟩
 ·show(insertAt t.place (below t.place (pr t.mask h n)) (pr t.mask h n)).size=_;rw[hlen];have:(insertAt t.place (below t.place (pr t.mask h n)) (pr t.mask h n)).toList.length=hs.length+1:=by rw[tX _ _ _ hb,bx,dg,jk,nu,hs'];have:=T.size;omega
  simpa using this
 ·intro j hj
  rcases(LC hb).mp hj with rfl|hj
  ·exact CB h n
  ·exact T.bnd j hj
 ·rw[hlen];exact hr
 ·intro i h' j e1 e2;have e2':(t.place.toList.take (below t.place (pr t.mask h n))++pr t.mask h n::t.place.toList.drop (below t.place (pr t.mask h n)))[i]?=some j:=by rw[<-tX _ _ _ hb];exact e2
  have hb2:below t.place (pr t.mask h n)<=hs.length:=by rw[<-T.size];exact hb
  rw[LD _ _ _ _ hb2]at e1;rw[LD _ _ _ _ (by rw[hs'];exact hb2)]at e2';have mono:∀x,x∈t.place.toList->x∈(insertAt t.place (below t.place (pr t.mask h n)) (pr t.mask h n)).toList:=λx hx=>(LC hb).mpr (.inr hx)
  by_cases q1:i<below t.place (pr t.mask h n)
  ·rw[if_pos q1]at e1 e2';exact(T.way _ _ _ e1 e2').mono mono
  ·rw[if_neg q1]at e1 e2'
   by_cases q2:i=below t.place (pr t.mask h n)
   ·rw[if_pos q2]at e1 e2'
    cases e1;cases e2'
    exact⟨n,rfl,λm hm=>mono _ (hw m hm)⟩
   ·rw[if_neg q2]at e1 e2';exact(T.way _ _ _ e1 e2').mono mono
def gU (owner:Array (Option Nat)) (j:Nat):Prop:=(owner.getD j (some 0)).isSome=true
theorem LF {P:Nat->Bool}{n:Nat}(h:(ba n).find? P=none):∀k,k<n->P k=false:=by intro k hk;have:=List.find?_eq_none.mp h k (bw.mpr hk);simpa using this
theorem Y2 {P:Nat->Bool}:∀{n k:Nat},(ba n).find? P=some k->k<n/\P k=true/\∀l,l<k->P l=false:=by
 intro n
 induction n with
 |zero=>intro k h;simp at h
 |succ n ih=>
  intro k h;rw[tj,List.find?_append]at h
  cases q:(ba n).find? P with
  |some k'=>rw[q]at h;simp at h;subst h;obtain⟨a,b,c⟩:=ih q;exact⟨by omega,b,c⟩
  |none=>
   rw[q]at h
   by_cases hp:P n=true
   ·simp[hp]at h;subst h;exact⟨by omega,hp,λl hl=>LF q l hl⟩
   ·simp[hp]at h
theorem Y3 {mask:Nat}{h:Int}{L n:Nat}(e:dC mask h n=pA mask (bs mask h L).1 (bs mask h L).2):dC mask h (n+(runEnd mask (bs mask h L).1 - (bs mask h L).1)+1)=pA mask (bs mask h (L+1)).1 (bs mask h (L+1)).2:=by have r:=xI mask h _ _ n e (runEnd mask (bs mask h L).1 - (bs mask h L).1) (ao _);rw[dC,r];unfold mP;rw[if_neg (by simp)];rfl
theorem Y4 {mask:Nat}{h:Int}{owner:Array (Option Nat)}:∀(fuel L n:Nat),dC mask h n=pA mask (bs mask h L).1 (bs mask h L).2->(∀k,k<n->gU owner (pr mask h k))->
  (∃L',L<=L'/\L'<L+fuel/\¬ gU owner (bs mask h L').1)->
  ∃n,layClean.free mask owner fuel (bs mask h L).1 (bs mask h L).2=some (pr mask h n)/\¬ gU owner (pr mask h n)/\∀m,m<n->gU owner (pr mask h m):=by
 intro fuel
 induction fuel with
 |zero=>rintro L n _ _ ⟨L',a,b,_⟩;omega
 |succ f ih=>
  rintro L n e hb ⟨L',a1,a2,a3⟩
  have r:=xI mask h _ _ n e;have hle:(bs mask h L).1<=runEnd mask (bs mask h L).1:=by unfold runEnd;split <;> omega
  rw[layClean.free]
  cases q:(ba (runEnd mask (bs mask h L).1+1 - (bs mask h L).1)).find? λk=>(owner.getD ((bs mask h L).1+k) (some 0)).isNone with
  |some k=>
   obtain⟨b1,b2,b3⟩:=Y2 q;dsimp only;have ek:pr mask h (n+k)=(bs mask h L).1+k:=by unfold pr;rw[r k (by omega)]
   refine⟨n+k,by rw[ek], ?_,λm hm=>?_⟩
   ·rw[ek];unfold gU;simp at b2;simp[b2]
   ·rcases iz m n with z|z
    ·exact hb m z
    ·obtain⟨l,rfl⟩:∃l,m=n+l:=⟨m - n,by omega⟩
     have el:pr mask h (n+l)=(bs mask h L).1+l:=by unfold pr;rw[r l (by omega)]
     rw[el];have:=b3 l (by omega);unfold gU
     cases w:owner.getD ((bs mask h L).1+l) (some 0)with
     |none=>rw[w]at this;simp at this
     |some _=>rfl
  |none=>
   dsimp only;have b:=LF q;have hocc:∀l,l<=runEnd mask (bs mask h L).1 - (bs mask h L).1->gU owner ((bs mask h L).1+l):=by
    intro l hl;have:=b l (by omega);unfold gU
    cases w:owner.getD ((bs mask h L).1+l) (some 0)with
    |none=>rw[w]at this;simp at this
    |some _=>rfl
   have hne:L≠L':=by
    rintro rfl
    exact a3 (by simpa using hocc 0 (by omega))
   refine ih (L+1) _ (Y3 e) (λk hk=>?_) ⟨L',by omega,by omega,a3⟩
   rcases iz k n with z|z
   ·exact hb k z
   ·obtain⟨l,rfl⟩:∃l,k=n+l:=⟨k - n,by omega⟩
    have el:pr mask h (n+l)=(bs mask h L).1+l:=by unfold pr;rw[r l (by omega)]
    rw[el];exact hocc l (by omega)
structure LOk (mask:Nat) (hs:List Int) (owner:Array (Option Nat)) (k:Nat):Prop where
 size:owner.size=mask+1
 own:∀(j i:Nat),owner[j]?=some (some i)->i<k/\∃h,hs[i]?=some h/\Way mask (gU owner) h j
 all:∀(i:Nat),i<k->∃j:Nat,owner[j]?=some (some i)
 inj:∀(j j' i:Nat),owner[j]?=some (some i)->owner[j']?=some (some i)->j=j'
theorem tY {owner:Array (Option Nat)}{j:Nat}(hj:j<owner.size):gU owner j↔∃i,owner[j]?=some (some i):=by
 unfold gU;rw[fj hj];simp only[ka,hj,dif_pos,Array.getInternal_eq_getElem,zm]
 cases owner[j] <;> simp
theorem LOk.free {mask k:Nat}{hs:List Int}{owner:Array (Option Nat)}(O:LOk mask hs owner k) (hk:k<=mask):∃j,j<=mask/\¬ gU owner j:=by
 rcases qk (∃j,j<=mask/\¬ gU owner j)with h|h
 ·exact h
 ·exfalso
  have h1:∀j,j<=mask->∃i,owner[j]?=some (some i):=λj hj=>by
   rcases qk (gU owner j)with q|q
   ·exact(tY (by rw[O.size];omega)).mp q
   ·exact absurd ⟨j,hj,q⟩ h
  let f:Nat->Nat:=λj=>match owner[j]? with|some (some i)=>i|_=>0
  have hf:∀j,j<=mask->owner[j]?=some (some (f j)):=λj hj=>by obtain⟨i,e⟩:=h1 j hj;show owner[j]?=some (some (match owner[j]? with|some (some i)=>i|_=>0));rw[e]
  have nd:((ba (mask+1)).map f).Nodup:=by rw[yf];rw[ql];refine vg ?_ (rh (n:=mask+1));intro a b ha hb hab e;have ea:=hf a (by have:=bw.mp ha;omega);have eb:=hf b (by have:=bw.mp hb;omega);rw[e]at ea;exact hab (O.inj _ _ _ ea eb)
  have sub:∀x,x∈(ba (mask+1)).map f->x∈ba k:=by intro x hx;obtain⟨j,hj,rfl⟩:=cp.mp hx;exact bw.mpr (O.own j _ (hf j (by have:=bw.mp hj;omega))).1
  have:=nd.length_le_of_subset sub;simp at this;omega
theorem LOk.step {mask k:Nat}{hs:List Int}{owner:Array (Option Nat)}{h:Int}(g:lE mask) (O:LOk mask hs owner k) (hk:k<=mask) (hh:hs[k]?=some h):
  ∃j,layClean.free mask owner (turns mask) (bits h % (mask+1)) (bits h)=some j/\LOk mask hs (owner.setIfInBounds j (some k)) (k+1):=by
 obtain⟨j0,hj0,hn0⟩:=O.free hk;obtain⟨L,hL,eL⟩:=K7 g h hj0;obtain⟨n,e,hn,hw⟩:=Y4 (mask:=mask) (h:=h) (owner:=owner) (turns mask) 0 0 rfl (λk hk=>absurd hk (by omega)) ⟨L,by omega,by unfold turns;omega,by rw[eL];exact hn0⟩;refine⟨pr mask h n,e, ?_⟩;have hjl:pr mask h n<owner.size:=by rw[O.size];have:=CB (mask:=mask) h n;omega
 have hjn:owner[pr mask h n]?=some none:=by
  rw[fj hjl];have:¬ ∃i,owner[pr mask h n]?=some (some i):=λq=>hn ((tY hjl).mpr q)
  cases w:owner[pr mask h n]with
  |none=>rfl
  |some i=>exact absurd ⟨i,by rw[fj hjl,w]⟩ this
 have get:∀j,(owner.setIfInBounds (pr mask h n) (some k))[j]?=if pr mask h n=j then some (some k)else owner[j]?:=by
  intro j;rw[Array.getElem?_setIfInBounds]
  by_cases q:pr mask h n=j
  ·rw[if_pos q,if_pos q,if_pos hjl]
  ·rw[if_neg q,if_neg q]
 have hsz:(owner.setIfInBounds (pr mask h n) (some k)).size=mask+1:=by rw[Array.size_setIfInBounds];exact O.size
 have occm:∀x,gU owner x->gU (owner.setIfInBounds (pr mask h n) (some k)) x:=by
  intro x hx
  by_cases hl:x<owner.size
  ·obtain⟨i,e⟩:=(tY hl).mp hx;refine(tY (by rw[hsz,<-O.size];exact hl)).mpr ?_;rw[get]
   by_cases q:pr mask h n=x
   ·exact⟨k,if_pos q⟩
   ·exact⟨i,by rw[if_neg q];exact e⟩
  ·unfold gU;simp[ka,hl]
 refine⟨hsz, ?_, ?_, ?_⟩
 ·intro j i e;rw[get]at e
  by_cases q:pr mask h n=j
  ·rw[if_pos q]at e;cases e;exact⟨by omega,h,hh,n,q,λm hm=>occm _ (hw m hm)⟩
  ·rw[if_neg q]at e;obtain⟨a,h',b,c⟩:=O.own j i e;exact⟨by omega,h',b,c.mono occm⟩
 ·intro i hi
  by_cases q:i=k
  ·subst q;exact⟨pr mask h n,by rw[get,if_pos rfl]⟩
  ·obtain⟨j,e⟩:=O.all i (by omega);refine⟨j, ?_⟩;rw[get]
   by_cases z:pr mask h n=j
   ·rw[<-z,hjn]at e;cases e
   ·rw[if_neg z];exact e
 ·intro j j' i e e';rw[get]at e e'
  by_cases z:pr mask h n=j
  ·rw[if_pos z]at e;cases e
   by_cases z':pr mask h n=j'
   ·exact z.symm.trans z'
   ·rw[if_neg z']at e';have:=(O.own j' _ e').1;omega
  ·rw[if_neg z]at e
   by_cases z':pr mask h n=j'
   ·rw[if_pos z']at e';cases e';have:=(O.own j _ e).1;omega
   ·rw[if_neg z']at e';exact O.inj _ _ _ e e'
theorem LG {mask:Nat}{hs:List Int}(g:lE mask) (hl:hs.length<=mask):∀(l pre:List Int) (owner:Array (Option Nat)),hs=pre++l->LOk mask hs owner pre.length->
  ∃owner',l.foldl (λ(acc:Option (Array (Option Nat)×Nat)) h=>do
    let (owner,k) <-acc
    let j <-layClean.free mask owner (turns mask) (bits h % (mask+1)) (bits h)
    pure (owner.setIfInBounds j (some k),k+1)) (some (owner,pre.length))=some (owner',hs.length)/\LOk mask hs owner' hs.length
 | [],pre,owner,e,O=>by rw[ow]at e;subst e;exact⟨owner,rfl,O⟩
 |h::l,pre,owner,e,O=>by
  have hh:hs[pre.length]?=some h:=by rw[e];simp
  obtain⟨j,e1,O1⟩:=O.step g (by rw[e]at hl;simp at hl;omega) hh;have e2:hs=(pre++[h])++l:=by rw[e];simp
  have hlen:(pre++[h]).length=pre.length+1:=by simp
  obtain⟨o',a,b⟩:=LG g hl l (pre++[h]) _ e2 (by rw[hlen];exact O1);refine⟨o', ?_,b⟩;rw[List.foldl_cons];rw[<-a,hlen]
  congr 1
  show(do let j <-layClean.free mask owner (turns mask) (bits h % (mask+1)) (bits h);pure (owner.setIfInBounds j (some pre.length),pre.length+1))=_;rw[e1];rfl
theorem Y5 {mask:Nat}{hs:Array Int}(g:lE mask) (hl:hs.size<=mask):∃owner,layClean mask hs=some owner/\LOk mask hs.toList owner hs.size:=by
 have O0:LOk mask hs.toList (Array.replicate (mask+1) none) 0:=by
  refine⟨by simp, ?_,λi hi=>absurd hi (by omega), ?_⟩
  ·intro j i e;rw[zl]at e
   split at e <;> simp at e
  ·intro j j' i e;rw[zl]at e
   split at e <;> simp at e
 obtain⟨o',a,b⟩:=LG g (by simpa using hl) hs.toList [] _ rfl O0;refine⟨o', ?_,by simpa using b⟩;unfold layClean;rw[<-Array.foldl_toList];simp only[oz]at a;rw[a];rfl
theorem Way.mono' {mask:Nat}{occ occ':Nat->Prop}{h:Int}{j:Nat}(w:Way mask occ h j) (k:∀x,x<=mask->occ x->occ' x):Way mask occ' h j:=let ⟨n,e,a⟩:=w;⟨n,e,λm hm=>k _ (CB h m) (a m hm)⟩
theorem LH (g:Nat->Option Nat):∀(l:List Nat),l.Pairwise (·<·)->((l.filterMap λj=>(g j).map ((j,·):Nat->Nat×Nat)).map dz).Pairwise (·<·)
 | [],_=>by simp
 |j::l,h=>by
  rw[cx]at h;have ih:=LH g l h.2
  cases e:g j with
  |none=>simpa[bu,e]using ih
  |some i=>
   simp only[bu,e,Option.map_some,cy,cx];refine⟨?_,ih⟩;intro a ha;obtain⟨⟨x,y⟩,hp,rfl⟩:=cp.mp ha;obtain⟨z,hz,ez⟩:=gq.mp hp
   cases q:g z with
   |none=>rw[q]at ez;simp at ez
   |some i'=>rw[q]at ez;simp at ez;have:=h.1 z hz;omega
theorem Y6 {mask finger moves:Nat}{led:Bool}{hs:Array Int}(g:lE mask) (hl:hs.size<=mask):
  ∃t order,laid mask finger moves led true hs=some (t,order)/\t.mask=mask/\t.led=led/\order.toList.Perm (ba hs.size)/\TOk t (order.toList.filterMap (hs.toList[·]?)):=by
 obtain⟨owner,e,O⟩:=Y5 g hl;generalize hlive:(ba (mask+1)).filterMap (λj=>(owner.getD j none).map ((j,·):Nat->Nat×Nat))=live;have hmem:∀j i,(j,i)∈live↔owner[j]?=some (some i):=by
  intro j i;rw[<-hlive,gq];constructor
  ·rintro ⟨x,hx,ex⟩
   have hx':x<owner.size:=by rw[O.size];exact bw.mp hx
   have eg:owner.getD x none=owner[x]:=by simp[ka,hx']
   rw[eg]at ex
   cases q:owner[x]with
   |none=>rw[q]at ex;simp at ex
   |some i'=>rw[q]at ex;simp at ex;obtain⟨rfl,rfl⟩:=ex;rw[fj hx',q]
  ·intro h;obtain⟨hx',q⟩:=dj.mp h;refine⟨j,bw.mpr (by rw[<-O.size];exact hx'), ?_⟩;have eg:owner.getD j none=owner[j]:=by simp[ka,hx']
   rw[eg,q];rfl
 have hrise:(live.map dz).Pairwise (·<·):=by rw[<-hlive];exact LH _ _ (sf)
 have hperm:(live.map pw).Perm (ba hs.size):=by
  refine(pv ?_ rh).mpr ?_
  ·rw[yf,ql];rw[ql]at hrise;refine vg ?_ hrise
   rintro ⟨a,i⟩ ⟨b,i'⟩ ha hb hab e
   have e':i=i':=e;subst e';have:=O.inj a b i ((hmem _ _).mp ha) ((hmem _ _).mp hb);have hab':a<b:=hab;omega
  ·intro i;rw[bw];constructor
   ·intro h;obtain⟨⟨j,i'⟩,hp,rfl⟩:=cp.mp h;exact(O.own j i' ((hmem _ _).mp hp)).1
   ·intro h;obtain⟨j,ej⟩:=O.all i h;exact cp.mpr ⟨(j,i),(hmem _ _).mpr ej,rfl⟩
 have hlen:live.length=hs.size:=by simpa using hperm.length_eq
 have hget:∀(i:Nat),((live.map pw).filterMap (hs.toList[·]?))[i]?=(live[i]?).bind λp=>hs.toList[p.2]?:=by
  have gen:∀(l:List (Nat×Nat)),(∀p∈l,p.2<hs.toList.length)->∀(i:Nat),((l.map pw).filterMap (hs.toList[·]?))[i]?=(l[i]?).bind λp=>hs.toList[p.2]?:=by
   intro l
   induction l with
   |nil=>intro _ i;simp
   |cons p l ih=>
    intro hp i;have h1:=hp p (bo ..);have e1:hs.toList[p.2]?=some hs.toList[p.2]:=az h1;rw[cy,bu,e1]
    cases i with
    |zero=>simp[e1]
    |succ i=>simp only[rf];exact ih (λq hq=>hp q (ax _ hq)) i
  intro i;refine gen live ?_ i
  rintro ⟨j,k⟩ hp
  have:=(O.own j k ((hmem _ _).mp hp)).1;simpa using this
 have hlen':((live.map pw).filterMap (hs.toList[·]?)).length=hs.size:=by
  have gen:∀(l:List (Nat×Nat)),(∀p∈l,p.2<hs.toList.length)->((l.map pw).filterMap (hs.toList[·]?)).length=l.length:=by
   intro l
   induction l with
   |nil=>intro _;rfl
   |cons p l ih=>intro hp;have h1:=hp p (bo ..);have e1:hs.toList[p.2]?=some hs.toList[p.2]:=az h1;rw[cy,bu,e1];show(_::_).length=_;rw[dg,dg,ih (λq hq=>hp q (ax _ hq))]
  rw[gen live ?_,hlen]
  rintro ⟨j,k⟩ hp
  have:=(O.own j k ((hmem _ _).mp hp)).1;simpa using this
 refine⟨{ mask,place:=(live.map dz).toArray,dummies:=#[],finger,led,moves,plain:=true },(live.map pw).toArray, ?_,rfl,rfl,hperm, ?_⟩
 ·unfold laid;rw[e];show some _=some _;rw[hlive]
 ·refine⟨(by show(live.map dz).toArray.size=((live.map pw).filterMap (hs.toList[·]?)).length;rw[hlen',av,bh,hlen]),hrise,rfl, ?_,by rw[hlen'];exact hl,g, ?_,rfl⟩
  ·intro j hj;obtain⟨⟨x,y⟩,hp,rfl⟩:=cp.mp (show j∈live.map dz from hj);have:=(hmem _ _).mp hp;obtain⟨hx',_⟩:=dj.mp this;have:=O.size;show x<=mask;omega
  ·intro i h j e1 e2;have e1':((live.map pw).filterMap (hs.toList[·]?))[i]?=some h:=e1;rw[hget]at e1';have e2':(live.map dz)[i]?=some j:=e2;rw[df]at e2'
   cases q:live[i]? with
   |none=>rw[q]at e2';cases e2'
   |some p=>
    obtain⟨x,k⟩:=p;rw[q]at e1' e2';simp at e1' e2';subst e2';have hp:=cb q;obtain⟨a,h',b,c⟩:=O.own x k ((hmem _ _).mp hp);have hh:h'=h:=by
     have:hs.toList[k]?=some h:=by simpa using e1'
     rw[b]at this;exact cf this
    subst hh;refine c.mono' λy hy ho=>?_;obtain⟨i',ei⟩:=(tY (by rw[O.size];omega)).mp ho;exact cp.mpr ⟨(y,i'),(hmem _ _).mpr ei,rfl⟩
end SM
namespace SR
open PySem PySem.Spec PyProof.Rows SM
section
variable{prog:bj}{w:cm}
def hk (prog:bj) (w:cm) (k:List Int):Int:=tupleKeyHash (intKind prog w) k
abbrev KB:=List (List Int×ah)
def gK (prog:bj) (w:cm) (kb:KB):List (Int×af):=kb.map λp=>(hk prog w p.1,ic p.2)
structure Parts (prog:bj) (w:cm) (h:cq) (a:ah) (kb:KB) (o:Obj) (es:Array (Int×af)) (ep:Nat) (t:ie):Prop where
 obj:h.get? a=some o
 ex:o.ExactSet
 data:o.data=.set es ep t
 es:es.toList=gK prog w kb
 tab:TOk t (kb.map λp=>hk prog w p.1)
 nd:(kb.map dz).Nodup
 nf:kb.length*5<t.mask*3
 led:t.led=!w.params.followText "set-order"
def kP (prog:bj) (w:cm) (h:cq) (a:ah) (kb:KB):Prop:=∃o es ep t,Parts prog w h a kb o es ep t
def xK (prog:bj) (w:cm) (h:cq) (kb:KB):Prop:=∀p∈kb,gm (intKind prog w) h p.1 p.2
variable{h:cq}{a:ah}{kb:KB}{o:Obj}{es:Array (Int×af)}{ep:Nat}{t:ie}
theorem Parts.size (P:Parts prog w h a kb o es ep t):es.size=kb.length:=by have:=congrArg qg P.es;simpa[gK]using this
theorem Parts.fits (P:Parts prog w h a kb o es ep t):t.fits es.size=true:=by have:=P.tab.fits;rw[bh]at this;rw[P.size];exact this
theorem Parts.at_ (P:Parts prog w h a kb o es ep t) {i:Nat}{p:List Int×ah}(e:kb[i]?=some p):es[i]?=some (hk prog w p.1,.ref p.2):=by
 have:es.toList[i]?=some (hk prog w p.1,ic p.2):=by rw[P.es];simp[gK,e]
 simpa using this
theorem Parts.hash_at (P:Parts prog w h a kb o es ep t) {i:Nat}{p:List Int×ah}(e:kb[i]?=some p):(es[i]?.map (·.1)).getD 0=hk prog w p.1:=by rw[P.at_ e];rfl
end
section
variable{prog:bj}{w:cm}{A:cj}{E:af->ag->Prop}{s:ag}{a:ah}{kb:KB}{o:Obj}{es:Array (Int×af)}{ep:Nat}{t:ie}
theorem LI {ks:List Int}{b:ah}{Q:Bool->ag->Prop}(hb:gm (intKind prog w) s.heap ks b) (h:Q false s):wpAny (model prog w) A (ofAClassStatement 8 (.ref b)) Q E s:=by
 obtain⟨o,items,n,ho,hc,hd,hi⟩:=hb;unfold ofAClassStatement;refine ae (qi (T := "tuple") ⟨o,ho,hc⟩ ?_);show wpAny _ _ ((if(("tuple" : String) == "tuple")=true then(pure true:Sem Bool)else isSubtype (.type "tuple") (.type "tuple")) >>= _) _ _ s;rw[if_pos (by decide)];refine ae (aj ?_);simp only[om,cn,if_false];refine ae (jf ho hd ?_);refine ae ?_;show wpAny _ _ (forIn items _ _) _ _ s;rw[<-Bk];refine ua _ (λrest r s'=>r.1=none/\s'=s/\∀v∈rest,carriedByValue v=true) _ ?_ ?_ _ _ ⟨rfl,rfl,hi.byValue⟩
 ·rintro v rest r s' ⟨hr,rfl,hall⟩
  have hv:=hall v bo;have e:ofAClassStatement 7 v=pure false:=by
   cases v with
   |ref a=>simp[carriedByValue]at hv
   |_=>rfl
  rw[e];refine ae (aj ?_);simp only[cn,if_false];exact aj ⟨rfl,rfl,λu hu'=>hall u (ax _ hu')⟩
 ·rintro ⟨r1,r2⟩ s' ⟨hr,rfl,_⟩
  simp only at hr;subst hr;exact aj h
theorem Y7 {k:List Int}{b:ah}{Q:Bool->ag->Prop}(hb:gm (intKind prog w) s.heap k b):∀(l:List af),(∀y∈l,∃k' b',y=.ref b'/\gm (intKind prog w) s.heap k' b')->Q false s->
  wpAny (model prog w) A (searchCouldBeSeen (.ref b) l) Q E s:=by
 intro l hl h;unfold searchCouldBeSeen;refine ae ?_;refine ua _ (λrest r s'=>r.1=none/\s'=s/\∀y∈rest,∃k' b',y=.ref b'/\gm (intKind prog w) s.heap k' b') _ ?_ ?_ _ _ ⟨rfl,rfl,hl⟩
 ·rintro y rest r s' ⟨hr,rfl,hall⟩
  obtain⟨k',b',rfl,hb'⟩:=hall y bo;have fin:r.1=none/\s'=s'/\∀y∈rest,∃k' b',y=.ref b'/\gm (intKind prog w) s'.heap k' b':=⟨hr,rfl,λu hu=>hall u (ax _ hu)⟩
  dsimp only
  split
  ·exact aj ⟨rfl,rfl,fin.2.2⟩
  ·refine ae (wpAny_eqIsQuiet_tuple hb ?_);simp only[om,cn,if_false];refine ae (wpAny_eqIsQuiet_tuple hb' ?_);simp only[om,cn,if_false];refine ae (LI hb ?_);simp only[cn,if_false];refine ae (LI hb' ?_);simp only[cn,if_false];exact aj ⟨rfl,rfl,fin.2.2⟩
 ·rintro ⟨r1,r2⟩ s' ⟨hr,rfl,_⟩
  simp only at hr;subst hr;exact aj h
end
section
variable{prog:bj}{w:cm}{A:cj}{E:af->ag->Prop}{s:ag}{a:ah}{kb:KB}{o:Obj}{es:Array (Int×af)}{ep:Nat}{t:ie}{k:List Int}{b:ah}
theorem mem_keys {kb:KB}{k:List Int}:k∈kb.map dz↔∃(i:Nat) (b:ah),kb[i]?=some (k,b):=by
 constructor
 ·intro h;obtain⟨⟨k',b⟩,hp,rfl⟩:=cp.mp h;obtain⟨i,hi,e⟩:=jg hp;exact⟨i,b,by rw[az hi,e]⟩
 ·rintro ⟨i,b,e⟩
  exact cp.mpr ⟨(k,b),cb e,rfl⟩
theorem Y8 (P:Parts prog w s.heap a kb o es ep t) (T:xK prog w s.heap kb) (hb:gm (intKind prog w) s.heap k b) (hu:A.units<cLine) {Q:SetFound->ag->Prop}
  (hin:k∈kb.map dz->Q (.there none) s)
  (hout:k∉kb.map dz->∀n,pr t.mask (hk prog w k) n∉t.place.toList->(∀m,m<n->pr t.mask (hk prog w k) m∈t.place.toList)->Q (.free (pr t.mask (hk prog w k) n) false) s)
  (N:Nat) (hN:N<10*sh t.mask) (hNe:pr t.mask (hk prog w k) N∉t.place.toList):
  ∀(fuel n:Nat) (stand:Option SetTable.Probe),stand.getD (t.probeStart (hk prog w k))=dC t.mask (hk prog w k) n->n<=N->N - n<fuel->
   (∀l,l<n->pr t.mask (hk prog w k) l∈t.place.toList/\∀(i:Nat) p,t.place.toList[i]?=some (pr t.mask (hk prog w k) l)->kb[i]?=some p->p.1≠k)->
   wpAny (model prog w) A (setSearchFrom a (.ref b) (hk prog w k) true fuel stand) Q E s:=by
 intro fuel
 induction fuel with
 |zero=>intro n stand _ _ h2;omega
 |succ f ih=>
  intro n stand hst h1 h2 hseen;have hlen:t.place.toList.length=kb.length:=by have:=P.tab.size;simpa using this
  have kbat:∀{i j:Nat},t.place.toList[i]?=some j->∃p,kb[i]?=some p:=λ{i j} e=>by obtain⟨hi,_⟩:=bc.mp e;exact⟨kb[i]'(by omega),az (by omega)⟩
  unfold setSearchFrom;refine ae (jh P.obj P.data P.fits ?_);dsimp only;rw[P.tab.gave];simp only[cn,if_false];obtain⟨m,a1,a2,a3,a4⟩:=Y0 P.tab (λi=>(es[i]?.map (·.1)).getD 0) (hk prog w k) (10*sh t.mask) n N h1 (by omega) hNe;have pass:∀l,l<m->pr t.mask (hk prog w k) l∈t.place.toList/\∀(i:Nat) p,t.place.toList[i]?=some (pr t.mask (hk prog w k) l)->kb[i]?=some p->p.1≠k:=by
   intro l hl
   rcases iz l n with q|q
   ·exact hseen l q
   ·obtain⟨b1,b2⟩:=a3 l q hl;refine⟨b1,λi p e1 e2 e3=>b2 i e1 ?_⟩;show(es[i]?.map (·.1)).getD 0=_;rw[P.hash_at e2,e3]
  rcases a4 with⟨b1,b2⟩|⟨i,b1,b2,b3⟩
  ·have e:∀g:Nat->Int,g=(λi=>(es[i]?.map (·.1)).getD 0)->t.probe g (hk prog w k) (stand.getD (t.probeStart (hk prog w k)))=some (.empty (pr t.mask (hk prog w k) m) none):=by rintro g rfl;rw[hst];exact b2
   rw[e]
   rotate_left
   ·rfl
   refine aj (hout ?_ m b1 λl hl=>(pass l hl).1);intro hmem;obtain⟨i,b',ei⟩:=mem_keys.mp hmem;obtain⟨j,ej⟩:∃j,t.place.toList[i]?=some j:=by obtain⟨hi,_⟩:=bc.mp ei;exact⟨_,az (by omega)⟩
   obtain⟨n',hn',e'⟩:=P.tab.before (i:=i) (h:=hk prog w k) (by rw[df,ei];rfl) ej b1;exact(pass n' hn').2 i (k,b') (by rw[e'];exact ej) ei rfl
  ·have e:∀g:Nat->Int,g=(λi=>(es[i]?.map (·.1)).getD 0)->t.probe g (hk prog w k) (stand.getD (t.probeStart (hk prog w k)))=some (.candidate (pr t.mask (hk prog w k) m) i (dC t.mask (hk prog w k) (m+1))):=by rintro g rfl;rw[hst];exact b3
   rw[e]
   rotate_left
   ·rfl
   dsimp only;obtain⟨p,ep'⟩:=kbat b1;have hp:=T p (cb ep');have es1:t.sameMemory t.moves t.mask=some true:=by unfold SetTable.sameMemory;simp
   obtain⟨i2,e2,e3⟩:=P.tab.slot_live (cb b1);have hi2:i2=i:=CA P.tab.rise e3 b1;subst hi2;have nxt:¬ p.1=k->wpAny (model prog w) A (setSearchFrom a (.ref b) (hk prog w k) true f (some (dC t.mask (hk prog w k) (m+1)))) Q E s:=by
    intro hpk;have hmN:m≠N:=by rintro rfl;exact hNe (cb b1)
    refine ih (m+1) _ rfl (by omega) (by omega) ?_
    ·intro l hl
     rcases iz l m with q|q
     ·exact pass l q
     ·have:l=m:=by omega
      subst this;refine⟨cb b1,λi' p' z1 z2=>?_⟩;have:i'=i2:=CA P.tab.rise z1 b1;subst this;rw[ep']at z2;cases z2;exact hpk
   cases hl:t.led
   case' true=>simp only[om,cn,if_false]
   case' false=>
    simp only[Bool.not_false,if_true];refine ae (Y7 hb _ ?_ ?_)
    ·intro y hy;obtain⟨e1,he1,rfl⟩:=cp.mp hy;have he2:=(Array.mem_filter.mp (Av.mp he1)).1;have he3:e1∈gK prog w kb:=by rw[<-P.es];exact Av.mpr he2
     obtain⟨q,hq,rfl⟩:=cp.mp he3;exact⟨q.1,q.2,rfl,T q hq⟩
    simp only[cn,if_false]
   all_goals
    rw[P.at_ ep'];dsimp only;refine ae (ig (wpAny_eqBool_tuple hu hp hb ?_));refine ae (jh P.obj P.data P.fits ?_);dsimp only
    by_cases hpk:p.1=k
    ·rw[decide_eq_true hpk];simp only[Bool.true_and,if_true];exact aj (hin (mem_keys.mpr ⟨i2,p.2,by rw[ep',<-hpk]⟩))
    ·rw[decide_eq_false hpk];simp only[pq,cn,if_false];rw[es1];dsimp only;simp only[if_true];rw[e2];dsimp only;rw[P.at_ ep'];dsimp only;refine ae (wpAny_isSame_ref_self ?_);refine ae (aj ?_);simp only[if_true];exact nxt hpk
theorem Y9 (P:Parts prog w s.heap a kb o es ep t) (T:xK prog w s.heap kb) (hb:gm (intKind prog w) s.heap k b) (hu:A.units<cLine) {Q:SetFound->ag->Prop}
  (hin:k∈kb.map dz->Q (.there none) s)
  (hout:k∉kb.map dz->∀n,pr t.mask (hk prog w k) n∉t.place.toList->(∀m,m<n->pr t.mask (hk prog w k) m∈t.place.toList)->Q (.free (pr t.mask (hk prog w k) n) false) s):
  wpAny (model prog w) A (setSearch a (.ref b) (hk prog w k) true) Q E s:=by
 obtain⟨N,hN,hNe⟩:=P.tab.stops (hk prog w k);have hm:10*sh t.mask<=1420:=by
  unfold sh
  rcases P.tab.msk with e|e|e <;> rw[e] <;> decide
 exact Y8 P T hb hu hin hout N hN hNe 100000 0 none rfl (jl _) (by omega) λl hl=>absurd hl (by omega)
theorem ZA {Q:Bool->ag->Prop}(hb:gm (intKind prog w) s.heap k b) (h:Q true s):wpAny (model prog w) A (hashByValue 8 (.ref b)) Q E s:=by
 have hT:=hb.typeIs;obtain⟨o,items,n,ho,hc,hd,hi⟩:=hb;unfold hashByValue;refine ae (wpAny_specialOf hT F.slot_tuple_hash.lookup ?_);dsimp only;refine ae (jf ho hd ?_);refine ae ?_;show wpAny _ _ (forIn items _ _) _ _ s;rw[<-Bk];have hv:∀v∈items.toList,∃i t,v=.int i t:=by
  clear hd ho
  generalize items.toList=l at hi
  induction hi with
  |nil=>intro v h;cases h
  |cons h1 _ ih=>
   intro v hv
   rcases bf.mp hv with rfl|hv
   ·obtain⟨t,e⟩:=mr h1;exact⟨_,t,e⟩
   ·exact ih v hv
 refine ua _ (λrest r s'=>r.1=none/\s'=s/\∀v∈rest,∃i t,v=.int i t) _ ?_ ?_ _ _ ⟨rfl,rfl,hv⟩
 ·rintro v rest r s' ⟨hr,rfl,hall⟩
  obtain⟨i,t,rfl⟩:=hall v bo;refine ae (aj ?_);simp only[om,cn,if_false];exact aj ⟨rfl,rfl,λu hu'=>hall u (ax _ hu')⟩
 ·rintro ⟨r1,r2⟩ s' ⟨hr,rfl,_⟩
  simp only at hr;subst hr;exact aj h
end
section
variable{prog:bj}{w:cm}{A:cj}{E:af->ag->Prop}{s:ag}{a:ah}{kb:KB}{o:Obj}{es:Array (Int×af)}{ep:Nat}{t:ie}{k:List Int}{b:ah}
theorem ZC (p:Nat):(gK prog w kb).take p++(hk prog w k,ic b)::(gK prog w kb).drop p=gK prog w (kb.take p++(k,b)::kb.drop p):=by simp[gK,Aa,uv]
theorem ZD (p:Nat):(kb.map λq=>hk prog w q.1).take p++hk prog w k::(kb.map λq=>hk prog w q.1).drop p=(kb.take p++(k,b)::kb.drop p).map λq=>hk prog w q.1:=by simp[Aa,uv]
theorem nW {α:Type}(l:List α) (x:α) (p:Nat):(l.take p++x::l.drop p).Perm (x::l):=by have h:(l.take p++x::l.drop p).Perm (x::(l.take p++l.drop p)):=List.perm_middle;rwa [Au]at h
theorem CC {p:Nat}(h:(kb.map dz).Nodup) (hk:k∉kb.map dz):((kb.take p++(k,b)::kb.drop p).map dz).Nodup:=by have q:=(nW kb (k,b) p).map dz;exact q.nodup_iff.mpr (jo.mpr ⟨hk,h⟩)
theorem LJ {es':Array (Int×af)}{t':ie}(hd:o.data=.set es ep t) (ho:s.heap.get? a=some o):(s.heap.update a (Obj.putSet es' t')).get? a=some { o with data:=.set es' (ep+1) t' }:=by have:=nt (Obj.putSet es' t') ho (by rw[putSet_of es' t' hd];rfl);rw[putSet_of es' t' hd]at this;exact this
theorem LK {α:Type}:∀(l:List α),(ba l.length).filterMap (λi=>l[i]?)=l
 | []=>rfl
 |x::l=>by
  rw[dg,Ai,bu];simp only[List.getElem?_cons_zero,List.filterMap_map]
  congr 1
  exact LK l
theorem LL {kb:KB}{mask' wanted:Nat}{Q:Unit->ag->Prop}(ho:s.heap.get? a=some o) (hex:o.ExactSet) (hd:o.data=.set es ep t) (hes:es.toList=gK prog w kb) (hT:TOk t (kb.map λp=>hk prog w p.1)) (nd:(kb.map dz).Nodup) (hled:t.led=!w.params.followText "set-order")
  (hw:Al wanted - 1=mask') (hg:lE mask') (hl:kb.length*5<mask'*3) (hz:Al wanted<=ck)
  (h:∀h' kb',ik a s.heap h'->kP prog w h' a kb'->kb'.Perm kb->Q () { s with heap:=h' }):
  wpAny (model prog w) A (setRelay a wanted) Q E s:=by
 have hsz:es.size=kb.length:=by have:=congrArg qg hes;simpa[gK]using this
 have hfit:t.fits es.size=true:=by have:=hT.fits;rw[bh]at this;rw[hsz];exact this
 have eh:(es.map (·.1)).toList=kb.map λp=>hk prog w p.1:=by rw[Array.toList_map,hes];simp[gK]
 have hs':(es.map (·.1)).size=kb.length:=by simp[hsz]
 unfold setRelay;refine ae (jh ho hd hfit ?_);dsimp only;rw[if_neg (by omega)];obtain⟨t',order,e1,e2,e3,e4,e5⟩:=Y6 (mask:=mask') (finger:=t.finger) (moves:=t.movedTo mask') (led:=t.led) (hs:=es.map (·.1)) hg (by rw[hs'];omega);have er:t.relaid (es.map (·.1)) wanted=some (t',order):=by unfold SetTable.relaid;rw[hw,hT.plain];exact e1
 rw[er];have hlt:∀i∈order.toList,i<kb.length:=λi hi=>by have:=bw.mp (e4.mem_iff.mp hi);omega
 have hfm:∀(l:List Nat),(∀i∈l,i<kb.length)->l.filterMap (λi=>es[i]?)=gK prog w (l.filterMap λi=>kb[i]?):=by
  intro l hl
  induction l with
  |nil=>rfl
  |cons i l ih=>
   have hi:=hl i bo;have q1:kb[i]?=some kb[i]:=az hi;have q2:es[i]?=some (hk prog w kb[i].1,ic kb[i].2):=by
    have:es.toList[i]?=some (hk prog w kb[i].1,ic kb[i].2):=by rw[hes];simp[gK,q1]
    simpa using this
   rw[bu,bu,q1,q2];simp only;rw[ih λj hj=>hl j (ax _ hj)];rfl
 have hkey:∀(l:List Nat),(∀i∈l,i<kb.length)->l.filterMap (λi=>(es.map (·.1)).toList[i]?)=(l.filterMap λi=>kb[i]?).map λp=>hk prog w p.1:=by
  intro l hl
  induction l with
  |nil=>rfl
  |cons i l ih=>
   have hi:=hl i bo;have q1:kb[i]?=some kb[i]:=az hi;have q2:(es.map (·.1)).toList[i]?=some (hk prog w kb[i].1):=by rw[eh];simp[q1]
   rw[bu,bu,q1,q2];simp only;rw[ih λj hj=>hl j (ax _ hj)];rfl
 have hperm:(order.toList.filterMap λi=>kb[i]?).Perm kb:=by have q:=e4.filterMap (λi=>kb[i]?);rw[hs']at q;exact q.trans (List.Perm.of_eq (LK kb))
 have hes2:(order.filterMap (es[·]?)).toList=gK prog w (order.toList.filterMap λi=>kb[i]?):=by rw[Array.toList_filterMap];exact hfm _ hlt
 have hsz2:(order.filterMap (es[·]?)).size=es.size:=by have:=congrArg qg hes2;rw[lj]at this;rw[this,hsz];simp[gK,hperm.length_eq]
 show wpAny _ _ ((if((order.filterMap (es[·]?)).size != es.size)=true then(unsupported "internal:set-table-lost-an-element" >>= λ_=>pure (order.filterMap (es[·]?),t'))else pure (order.filterMap (es[·]?),t')) >>= _) _ _ s;rw[if_neg (by rw[hsz2];simp)];refine ae (aj ?_);dsimp only;refine wpAny_storeSet_of ho hd ?_ (by rw[hsz2,hsz];rcases hg with q|q|q <;> (rw[q]at hl;rw[je];omega));refine h _ (order.toList.filterMap λi=>kb[i]?) (nj ..) ⟨_,_,_,t',LJ hd ho,hex,rfl,hes2, ?_, ?_, ?_,e3.trans hled⟩ hperm
 ·rw[<-hkey _ hlt];exact e5
 ·exact(hperm.map dz).nodup_iff.mpr nd
 ·rw[hperm.length_eq,e2];exact hl
theorem ZE (P:Parts prog w s.heap a kb o es ep t) (T:xK prog w s.heap kb) (hb:gm (intKind prog w) s.heap k b) (hu:A.units<cLine) (h76:k∉kb.map dz->kb.length+1<=76) {Q:Bool->ag->Prop}
  (h:∀h' kb' r,ik a s.heap h'->kP prog w h' a kb'->(k∈kb.map dz->kb'.Perm kb)->(k∉kb.map dz->kb'.Perm ((k,b)::kb))->Q r { s with heap:=h' }):
  wpAny (model prog w) A (setAddHashed a (.ref b) (hk prog w k)) Q E s:=by
 unfold setAddHashed;refine ig ?_;unfold setAddHashedIn;refine ae (jh P.obj P.data P.fits ?_);dsimp only;have hbs:byScan (.ref b) es=false:=by simp[byScan,Value.scannable]
 rw[hbs];simp only[cn,if_false];refine ae (Y9 P T hb hu (λhin=>?_) λhout n hn hw=>?_)
 ·dsimp only;refine aj ?_;have:=h s.heap kb false (tw ..) ⟨o,es,ep,t,P⟩ (λ_=>.refl _) λq=>absurd hin q;exact this
 ·dsimp only;refine ae (jh P.obj P.data P.fits ?_);dsimp only;rw[Y1 P.tab.nod];dsimp only;rw[if_pos P.tab.plain];refine ae (ZA hb ?_);simp only[if_true];have hlen:=P.nf;have hmask:=P.tab.msk;have hroom:(kb.map λp=>hk prog w p.1).length+1<=t.mask:=by
   rw[bh]
   rcases hmask with q|q|q <;> (rw[q]at hlen ⊢;omega)
  have T2:=P.tab.put (h:=hk prog w k) (n:=n) hn hw hroom;have hbl:=(tW (j:=pr t.mask (hk prog w k) n) P.tab.rise).2.2;generalize hp:si t.place (pr t.mask (hk prog w k) n)=p at T2 hbl ⊢;rw[ZD (b:=b)]at T2;have hesl:(ja es p (hk prog w k,ic b)).toList=gK prog w (kb.take p++(k,b)::kb.drop p):=by rw[tX _ _ _ (by rw[P.size,<-show t.place.size=kb.length from by have:=P.tab.size;simpa using this];exact hbl),P.es,ZC]
  have hsz:(ja es p (hk prog w k,ic b)).size=kb.length+1:=by have:=congrArg qg hesl;simp only[gK,bh,lj]at this;rw[this,(nW kb (k,b) p).length_eq];rfl
  refine ae (wpAny_storeSet_of P.obj P.data ?_ (by rw[hsz,je];have:=h76 hout;omega));have hlen2:(kb.take p++(k,b)::kb.drop p).length=kb.length+1:=(nW kb (k,b) p).length_eq;have ho2:=LJ (s:=s) (es':=ja es p (hk prog w k,ic b)) (t':={ t with place:=ja t.place p (pr t.mask (hk prog w k) n) }) P.data P.obj;have fill:({ t with place:=ja t.place p (pr t.mask (hk prog w k) n) }:ie).tooFull=decide ((kb.length+1)*5>=t.mask*3):=by unfold SetTable.tooFull SetTable.fill;have e1:=T2.size;rw[bh,hlen2]at e1;have e1':(ja t.place p (pr t.mask (hk prog w k) n)).size=kb.length+1:=e1;dsimp only;rw[P.tab.nod,e1'];rfl
  simp only[Bool.not_false,Bool.true_and];rw[fill];have fin:∀h' kb',ik a (s.heap.update a (Obj.putSet (ja es p (hk prog w k,ic b)) { t with place:=ja t.place p (pr t.mask (hk prog w k) n) })) h'->kP prog w h' a kb'->
    kb'.Perm (kb.take p++(k,b)::kb.drop p)->Q true { s with heap:=h' }:=λh' kb' sb st pm=>
   h h' kb' true ((nj ..).trans sb) st (λq=>absurd q hout) λ_=>pm.trans (nW kb (k,b) p)
  by_cases full:(kb.length+1)*5>=t.mask*3
  ·rw[decide_eq_true full,if_pos rfl];have h76':=h76 hout;have hcase:(t.mask=7/\kb.length=4)∨(t.mask=31/\kb.length=18):=by
    rcases hmask with q|q|q
    ·left;rw[q]at hlen full;exact⟨q,by omega⟩
    ·right;rw[q]at hlen full;exact⟨q,by omega⟩
    ·rw[q]at full;omega
   have es0:es.size=kb.length:=P.size
   rcases hcase with⟨q1,q2⟩|⟨q1,q2⟩
   ·refine ae (LL (mask':=31) (kb:=kb.take p++(k,b)::kb.drop p) ho2 P.ex rfl hesl T2 (CC P.nd hout) P.led (by rw[es0,q2];decide) (.inr (.inl rfl)) (by rw[hlen2,q2];decide) (by rw[es0,q2,je];decide) λh' kb' sb st pm=>aj (fin h' kb' sb st pm))
   ·refine ae (LL (mask':=127) (kb:=kb.take p++(k,b)::kb.drop p) ho2 P.ex rfl hesl T2 (CC P.nd hout) P.led (by rw[es0,q2];decide) (.inr (.inr rfl)) (by rw[hlen2,q2];decide) (by rw[es0,q2,je];decide) λh' kb' sb st pm=>aj (fin h' kb' sb st pm))
  ·rw[decide_eq_false full,if_neg gp];refine aj (fin _ _ (tw ..) ⟨_,_,_,_,ho2,P.ex,rfl,hesl,T2,CC P.nd hout, ?_,P.led⟩ (.refl _));rw[hlen2];exact Nat.lt_of_not_le full
end
theorem Parts.keep {prog:bj}{w:cm}{h h':cq}{a:ah}{kb:KB}(S:kP prog w h a kb) (k:∀o,h.get? a=some o->h'.get? a=some o):kP prog w h' a kb:=by obtain⟨o,es,ep,t,P⟩:=S;exact⟨o,es,ep,t,k o P.obj,P.ex,P.data,P.es,P.tab,P.nd,P.nf,P.led⟩
theorem xM {prog:bj}{w:cm}{h h':cq}{ks:List Int}{a:ah}(x:gm (intKind prog w) h ks a) (k:∀o,h.get? a=some o->h'.get? a=some o):gm (intKind prog w) h' ks a:=by obtain⟨o,items,n,ho,r⟩:=x;exact⟨o,items,n,k o ho,r⟩
section
variable{prog:bj}{w:cm}{A:cj}{R:yj->ag->Prop}{I:ah}{fp wr:List ah}{n:Nat}{P:Nat->af->Prop}{St:Nat->cq->Prop}
structure Upto (ky:Nat->List Int) (ad:Nat->ah) (i:Nat) (kb:KB):Prop where
 from_:∀p∈kb,∃j,j<i/\p=(ky j,ad j)
 all:∀j,j<i->ky j∈kb.map dz
theorem ZF (W:Walks prog w A.in1 I fp wr n P St) (S:ah) (hSf:S∉fp) (ad:Nat->ah) (ky:Nat->List Int) (hval:∀i v,P i v->v=.ref (ad i)) (hu:A.units+2<cLine)
  (U:List (List Int)) (hU:U.length<=76) (hky:∀i,i<n->ky i∈U) (hS:∀i,i<n->ad i≠S/\ad i∉wr):
  ∀(m i:Nat) (s:ag) (kb:KB),n - i=m->i<=n->St i s.heap->kP prog w s.heap S kb->Upto ky ad i kb->(∀j,j<n->gm (intKind prog w) s.heap (ky j) (ad j))->
   (∀h' tk kb',(∀b o,b∉S::wr->s.heap.get? b=some o->h'.get? b=some o)->kP prog w h' S kb'->Upto ky ad n kb'->R (.ok (.ret .none)) { s with heap:=h',toks:=tk })->
   codeAny (model prog w) A (.builtin "set.update.loop" ⟨[.ref S,.ref I],[]⟩) R s:=by
 have hSw:S∉wr:=λh=>hSf (W.sub _ h);intro m
 induction m with
 |zero=>
  intro i s kb hk hi hst hT hup hkeys hR;have hin:i=n:=by omega
  subst hin;refine qe F.entry_set_update_loop ?_;rw[og F.plain_set_update_loop _];show wpAny _ A.in1 (pyNext (.ref I) >>= _) _ _ s;refine ae (W.done s _ _ hst λh' tk hm=>?_);exact aj (hR h' tk kb (λb o hb e=>hm b o (λz=>hb (ax _ z)) e) (Parts.keep hT λo e=>hm S o hSw e) hup)
 |succ m ih=>
  intro i s kb hk hi hst hT hup hkeys hR;have hlt:i<n:=by omega
  refine qe F.entry_set_update_loop ?_;rw[og F.plain_set_update_loop _];show wpAny _ A.in1 (pyNext (.ref I) >>= _) _ _ s;refine ae (W.item i s _ _ hlt hst λv h' tk hP hst' hm=>?_);have ev:=hval i v hP;subst ev;have hT':kP prog w h' S kb:=Parts.keep hT λo e=>hm S o hSw e;have hkeys':∀j,j<n->gm (intKind prog w) h' (ky j) (ad j):=λj hj=>xM (hkeys j hj) λo e=>hm _ o (hS j hj).2 e;show wpAny _ A.in1 (holding [ic (ad i)] (setAdd S (.ref (ad i))) >>= _) _ _ _;refine ae (ig ?_);unfold setAdd;refine ig ?_;refine ae (wpAny_pyHash_tuple (s:={ s with heap:=h',toks:=tk }) (show A.in1.units<cLine by show A.units+1<cLine;omega) (hkeys' i hlt) ?_);obtain⟨o,es,ep,t,Pt⟩:=hT';have tups:xK prog w h' kb:=λp hp=>by obtain⟨j,hj,rfl⟩:=hup.from_ p hp;exact hkeys' j (by omega)
  have hsub:∀x∈kb.map dz,x∈U:=λx hx=>by obtain⟨p,hp,rfl⟩:=cp.mp hx;obtain⟨j,hj,rfl⟩:=hup.from_ p hp;exact hky j (by omega)
  refine ZE (s:={ s with heap:=h',toks:=tk+((ky i).length+1) }) (a:=S) (k:=ky i) (b:=ad i) Pt tups (hkeys' i hlt) (by show A.units+1<cLine;omega) (λhout=>?_) λh2 kb2 r sb hT2 q1 q2=>?_
  ·have nd:(ky i::kb.map dz).Nodup:=jo.mpr ⟨hout,Pt.nd⟩;have:=nd.length_le_of_subset (l₂:=U) λx hx=>by
    rcases bf.mp hx with rfl|hx
    ·exact hky i hlt
    ·exact hsub x hx
   simp at this;omega
  ·have hup2:Upto ky ad (i+1) kb2:=by
    by_cases hin:ky i∈kb.map dz
    ·have pm:=q1 hin;refine⟨λp hp=>?_,λj hj=>?_⟩
     ·obtain⟨j,hj,e⟩:=hup.from_ p (pm.mem_iff.mp hp);exact⟨j,by omega,e⟩
     ·rw[(pm.map dz).mem_iff]
      rcases iz j i with z|z
      ·exact hup.all j z
      ·have:j=i:=by omega
       subst this;exact hin
    ·have pm:=q2 hin;refine⟨λp hp=>?_,λj hj=>?_⟩
     ·rcases bf.mp (pm.mem_iff.mp hp)with z|z
      ·exact⟨i,by omega,z⟩
      ·obtain⟨j,hj,e⟩:=hup.from_ p z;exact⟨j,by omega,e⟩
     ·rw[(pm.map dz).mem_iff,cy,bf]
      rcases iz j i with z|z
      ·exact .inr (hup.all j z)
      ·have:j=i:=by omega
       subst this;exact .inl rfl
   refine aj ⟨plainId_quiet F.plain_set_update_loop _,ih (i+1) _ kb2 (by omega) hlt (W.frame _ _ _ hst' λb hb o e=>?_) hT2 hup2 (λj hj=>?_) λh3 tk3 kb3 k3 hT3 hup3=>?_⟩
   ·rw[sb.2 b (λz:b=S=>hSf (by rw[<-z];exact hb))];exact e
   ·exact xM (hkeys' j hj) λo e=>(sb.2 _ (hS j hj).1).trans e
   ·refine hR h3 tk3 kb3 (λb o hb e=>k3 b o hb ?_) hT3 hup3;exact(sb.2 b λz=>hb (by rw[z];exact bo)).trans (hm b o (λz=>hb (ax _ z)) e)
end
theorem walk_slots:Slot "set" "__iter__" "set.__iter__"/\Slot "set_iterator" "__next__" "set_iterator.__next__"/\Slot "set_iterator" "__iter__" "set_iterator.__iter__"/\Slot "set" "__len__" "set.__len__":=by
 refine⟨Slot.of (owner := "set") (n := "__iter__") ?_ ?_ ?_ ?_ ?_ ?_,Slot.of (owner := "set_iterator") (n := "__next__") ?_ ?_ ?_ ?_ ?_ ?_,Slot.of (owner := "set_iterator") (n := "__iter__") ?_ ?_ ?_ ?_ ?_ ?_,Slot.of (owner := "set") (n := "__len__") ?_ ?_ ?_ ?_ ?_ ?_⟩
 all_goals first
  |decide +kernel
  |(rw[typeLookup_type,builtinLookup_eq_fast];kernel_rfl)
  |(rw[isSubtype_type];kernel_rfl)
  |(left;decide +kernel)
  |(right;decide +kernel)
theorem xN (a:af):argsOk "set.__iter__" ⟨[a],[]⟩/\argsOk "set_iterator.__next__" ⟨[a],[]⟩/\argsOk "set_iterator.__iter__" ⟨[a],[]⟩:=by refine⟨?_, ?_, ?_⟩ <;> unfold argsOk <;> kernel_rfl
theorem LM:entryFor table "set_iterator.__next__" = some my.«set_iterator.__next__»:=entryFor_of_fast (by kernel_rfl)
theorem ZG:entryFor table "set.__iter__" = some my.«frozenset.__iter__»:=entryFor_alias (id' := "frozenset.__iter__") (by kernel_rfl) rfl (by decide +kernel) (by kernel_rfl)
theorem ZH:entryFor table "set_iterator.__iter__" = some my.«dict_keyiterator.__iter__»:=entryFor_alias (id' := "dict_keyiterator.__iter__") (by kernel_rfl) rfl (by decide +kernel) (by kernel_rfl)
theorem erase_perm {α:Type}:∀(l:List α) (i:Nat) (h:i<l.length),(l[i]::l.eraseIdx i).Perm l
 | [],_,h=>absurd h (by simp)
 |x::r,0,_=>.refl _
 |x::r,i+1,h=>by have ih:=erase_perm r i (by simpa using h);show((r[i]'(by simpa using h))::x::r.eraseIdx i).Perm (x::r);exact(vv _ _ _).trans (ih.cons x)
theorem LN {α:Type}(next:Nat->Nat):∀(fuel k:Nat) (l:List α) (out:Array α),l.length<=fuel->(xg next fuel k l out).toList.Perm (out.toList++l)
 |0,k,l,out,h=>by have:l=[]:=Ae.mp (by omega);subst this;rw[xg];simp
 |fuel+1,k,l,out,h=>by
  rw[xg]
  cases l with
  |nil=>simp
  |cons x r=>have hlt:next k % (x::r).length<(x::r).length:=Nat.mod_lt _ (by simp);rw[az hlt];dsimp only;refine(LN next fuel (k+1) _ _ (by rw[yg hlt];omega)).trans ?_;rw[Array.toList_push,nc];refine yh _ ?_;exact erase_perm _ _ hlt
theorem ZI {α:Type}(next:Nat->Nat) (xs:Array α):(pickOrder next xs).toList.Perm xs.toList:=by unfold pickOrder;have:=LN next xs.size 0 xs.toList #[] (by simp);simpa using this
section
variable{prog:bj}{w:cm}
def iJ (w:cm) (a:ah) (ep:Nat) (es:Array (Int×af)):Array (Int×af):=if w.params.followText "set-order" then pickOrder (w.params.setOrder a ep) es else es
theorem LO (w:cm) (a:ah) (ep:Nat) (es:Array (Int×af)):(iJ w a ep es).toList.Perm es.toList:=by
 unfold iJ
 split
 ·exact ZI _ _
 ·exact .refl _
theorem xO (w:cm) (a:ah) (ep:Nat) (es:Array (Int×af)):(iJ w a ep es).size=es.size:=by simpa using(LO w a ep es).length_eq
def gL (w:cm) (t:ie) (i:Nat):Nat:=if w.params.followText "set-order" then 0 else match i with|0=>0|j+1=>t.place.getD j 0+1
def jU (a:ah) (slot i n ep:Nat):Obj:={ cls:=.type "set_iterator",data:=.fields #[rawInt slot,rawInt i,.ref a,rawInt n,rawInt ep] }
theorem ZJ {t:ie}{hs:List Int}(T:TOk t hs) (hb:w.params.followText "set-order" = false) {i:Nat}(hi:i<=t.place.size):si t.place (gL w t i)=i:=by
 obtain⟨h1,h2,h3⟩:=tW (j:=gL w t i) T.rise;have mono:∀a b (ha:a<t.place.size) (hb:b<t.place.size),a<b->t.place[a]<t.place[b]:=by intro a b ha hb hab;have:=gw.mp T.rise a b (by simpa using ha) (by simpa using hb) hab;simpa using this
 unfold gL at h1 h2 h3 ⊢;rw[hb]at h1 h2 h3 ⊢;simp only[cn,if_false]at h1 h2 h3 ⊢
 cases i with
 |zero=>
  dsimp only at h1 h2 h3 ⊢;generalize si t.place 0=r at h1 h2 h3 ⊢
  cases r with
  |zero=>rfl
  |succ r=>have:=h1 r (by omega) (by omega);omega
 |succ j=>
  dsimp only at h1 h2 h3 ⊢;have hj:j<t.place.size:=by omega
  have ej:t.place.getD j 0=t.place[j]:=by simp[ka,hj]
  rw[ej]at h1 h2 h3 ⊢;generalize si t.place (t.place[j]+1)=r at h1 h2 h3 ⊢
  rcases Nat.lt_trichotomy r (j+1)with q|q|q
  ·have:=h2 j hj (by omega);omega
  ·exact q
  ·have:=h1 (j+1) (by omega) q;have:=mono j (j+1) hj (by omega) (by omega);omega
end
section
variable{prog:bj}{w:cm}{A:cj}{E:af->ag->Prop}{s:ag}{a it:ah}{kb:KB}{o:Obj}{es:Array (Int×af)}{ep:Nat}{t:ie}
theorem ZK {Q:Bool->ag->Prop}(P:Parts prog w s.heap a kb o es ep t) (h:Q false s):wpAny (model prog w) A (setDrawn a) Q E s:=by
 unfold setDrawn setsByText;refine ae (jh P.obj P.data P.fits ?_);dsimp only;refine ae (ae (mm (aj ?_)));have e:(!(w.params.followText "set-order")&&((!t.plain)&&decide (es.size>1)))=false:=by rw[P.tab.plain];simp
 show wpAny _ _ (pure (!(w.params.followText "set-order")&&((!t.plain)&&decide (es.size>1)))) _ _ s;rw[e];exact aj h
theorem ZL {Q:af->ag->Prop}(P:Parts prog w s.heap a kb o es ep t) (h:Q (.ref s.heap.objs.size) { s with heap:=s.heap.push (jU a 0 0 es.size ep) }):
  wpAny (model prog w) A (pyIter (.ref a)) Q E s:=by
 have hT:s.TypeIs (.ref a) "set" := ⟨o,P.obj,P.ex.1⟩;refine wpAny_pyIter_slot hT walk_slots.1 (ib walk_slots.1 hT ZG ?_ (xN _).1);unfold my.«frozenset.__iter__» Builtin.Frozenset.slot0;refine ae (m:=(do Builtin.Frozenset.addrOf (<-slotArgs "__iter__" 0 ⟨[.ref a],[]⟩).1:Sem ah)) (aj ?_);unfold Builtin.Frozenset.sizeOf;refine ae (ae (vz P.obj P.data P.fits (aj ?_)));refine ae (ZK P ?_);simp only[cn,if_false];refine ae (aj ?_);refine ae (wpAny_setEpoch_of P.obj P.data P.fits ?_);refine ae (gn ?_ (by size_fits));refine aj ⟨_,rfl,"set_iterator",_,⟨_,bg _ rfl,rfl⟩,walk_slots.2.1.lookup,h⟩
end
section
variable{prog:bj}{w:cm}{A:cj}{E:af->ag->Prop}{s:ag}{a it:ah}{kb:KB}{o:Obj}{es:Array (Int×af)}{ep:Nat}{t:ie}
theorem LP {i:Nat}{Q:Option (af×Nat)->ag->Prop}(P:Parts prog w s.heap a kb o es ep t) (hi:i<=es.size)
  (h:Q (((iJ w a ep es)[i]?).map λe=>(e.2,gL w t (i+1))) s):wpAny (model prog w) A (setNext a (gL w t i) i ep) Q E s:=by
 unfold setNext setsByText;refine ae (jh P.obj P.data P.fits ?_);dsimp only;refine ae (ae (mm (aj ?_)));have hps:t.place.size=es.size:=by have:=P.tab.size;rw[P.size];simpa using this
 show wpAny _ _ (if w.params.followText "set-order" = true then _ else _) _ _ s
 by_cases hb:w.params.followText "set-order" = true
 ·rw[if_pos hb,if_neg (by simp)];refine ae ?_;unfold setWalk setsByText;refine ae (jh P.obj P.data P.fits ?_);dsimp only;refine ae (ae (mm (aj ?_)));show wpAny _ _ (if w.params.followText "set-order" = true then _ else _) _ _ s;rw[if_pos hb];refine ae (mm (aj (aj ?_)));unfold iJ gL at h;unfold gL;rw[if_pos hb]at h ⊢;rw[if_pos hb]at h;exact h
 ·have hb':w.params.followText "set-order" = false:=by simpa using hb
  rw[if_neg hb];have hl:t.led=true:=by rw[P.led,hb'];rfl
  have hd:((!t.plain)&&decide (es.size>1))=false:=by rw[P.tab.plain];rfl
  show wpAny _ _ (if((!t.plain)&&decide (es.size>1))=true then _ else _) _ _ s;rw[hd];simp only[cn,if_false];show wpAny _ _ ((if((!t.led)&&!es.isEmpty)=true then _ else _) >>= _) _ _ s;rw[hl];simp only[om,Bool.false_and,cn,if_false];refine ae (aj ?_);have hbl:=ZJ (w:=w) P.tab hb' (i:=i) (by omega);rw[hbl];unfold iJ at h;rw[if_neg hb]at h;refine aj ?_
  by_cases hlt:i<es.size
  ·have e1:es[i]?=some es[i]:=fj hlt;have e2:t.place[i]?=some t.place[i]:=fj (by omega);rw[e1]at h;rw[e1,e2];have e3:gL w t (i+1)=t.place[i]+1:=by unfold gL;rw[if_neg hb];simp[ka,show i<t.place.size by omega]
   rw[e3]at h;exact h
  ·have e1:es[i]?=none:=rn (by omega);rw[e1]at h ⊢;exact h
theorem ZM {i:Nat}{x:Int×af}{Q:Option af->ag->Prop}(P:Parts prog w s.heap a kb o es ep t) (hit:s.heap.get? it=some (jU a (gL w t i) i es.size ep)) (hx:(iJ w a ep es)[i]?=some x)
  (hQ:∀h',h'.get? it=some (jU a (gL w t (i+1)) (i+1) es.size ep)->ik it s.heap h'->Q (some x.2) { s with heap:=h' }):wpAny (model prog w) A (pyNext (.ref it)) Q E s:=by
 have hT:s.TypeIs (.ref it) "set_iterator" := ⟨_,hit,rfl⟩;have hlt:i<es.size:=by rw[<-xO w a ep es];exact(dj.mp hx).1
 unfold pyNext;refine ae (wb (gv (name:=lr "__next__") hT walk_slots.2.1 (ib walk_slots.2.1 hT LM ?_ (xN _).2.1)));unfold my.«set_iterator.__next__»;refine ae (m:=slotArgs "__next__" 0 ⟨[.ref it],[]⟩) (aj ?_);refine ae (wpAny_fieldsOf hit rfl ?_);dsimp only;show wpAny _ _ (setEntries a >>= _) _ _ s;refine ae (vz P.obj P.data P.fits ?_);rw[if_neg (by simp)];show wpAny _ _ (setNext a ((gL w t i:Nat):Int).toNat ((i:Nat):Int).toNat ((ep:Nat):Int).toNat >>= _) _ _ s;rw[fe,fe,fe];refine ae (LP P (gh hlt) ?_);rw[hx];show wpAny _ _ (setField (.ref it) 0 (rawInt ((gL w t (i+1):Nat):Int)) >>= _) _ _ s;refine ae (jc hit (by simp) λh1 g1 b1=>?_);refine ae (jc g1 (by simp) λh2 g2 b2=>?_);refine aj ⟨_,rfl,aj (hQ h2 ?_ (b1.trans b2))⟩;rw[g2];rfl
theorem ZN {i:Nat}{Q:Option af->ag->Prop}(hh:A.handled=none) (P:Parts prog w s.heap a kb o es ep t) (hit:s.heap.get? it=some (jU a (gL w t i) i es.size ep)) (hi:i=es.size)
  (hQ:∀h',Bb it s.heap h'->Q none { s with heap:=h' }):wpAny (model prog w) A (pyNext (.ref it)) Q E s:=by
 have hT:s.TypeIs (.ref it) "set_iterator" := ⟨_,hit,rfl⟩;unfold pyNext;refine ae (wb (gv (name:=lr "__next__") hT walk_slots.2.1 (ib walk_slots.2.1 hT LM ?_ (xN _).2.1)));unfold my.«set_iterator.__next__»;refine ae (m:=slotArgs "__next__" 0 ⟨[.ref it],[]⟩) (aj ?_);refine ae (wpAny_fieldsOf hit rfl ?_);dsimp only;show wpAny _ _ (setEntries a >>= _) _ _ s;refine ae (vz P.obj P.data P.fits ?_);rw[if_neg (by simp)];show wpAny _ _ (setNext a ((gL w t i:Nat):Int).toNat ((i:Nat):Int).toNat ((ep:Nat):Int).toNat >>= _) _ _ s;rw[fe,fe,fe];refine ae (LP P (pj hi) ?_);rw[rn (by rw[xO];omega)];show wpAny _ _ (setField (.ref it) 2 jm >>= _) _ _ s;refine ae (jc hit (by simp) λh1 g1 b1=>?_);show wpAny _ _ (newExc (.type "StopIteration") [] >>= _) _ _ _;refine ae ?_;simp only[newExc,newTuple];refine ae (gn ?_ (by size_fits));refine ae (m:=firstArgMember _ _) (zr (a:=jm) (by first|rfl|(simp only[firstArgMember];rfl)) ?_);refine gn ?_ (by size_fits);simp only[raiseNew];refine ae (wpAny_handled ?_);rw[show A.in1.handled=none from hh];refine ae (aj (wpAny_throw ?_));refine ae (zk (T := "StopIteration") (b:=true) ⟨_,bg _ rfl,rfl⟩ isSubtype_stop ?_);exact aj (hQ _ ((b1.extBut.push _).push _))
end
section
variable{prog:bj}{w:cm}{A:cj}{E:af->ag->Prop}{s:ag}{a:ah}{kb:KB}{o:Obj}{es:Array (Int×af)}{ep:Nat}{t:ie}
theorem Parts.at' {h h':cq}(P:Parts prog w h a kb o es ep t) (k:h'.get? a=some o):Parts prog w h' a kb o es ep t:=⟨k,P.ex,P.data,P.es,P.tab,P.nd,P.nf,P.led⟩
theorem ZO (hh:A.handled=none) (I:ah) (hne:a≠I):
  Walks prog w A I [I,a] [I] es.size (λi v=>∃x,(iJ w a ep es)[i]?=some x/\v=x.2) (λi h=>Parts prog w h a kb o es ep t/\h.get? I=some (jU a (gL w t i) i es.size ep)) where
 sub:=λb hb=>by rw[dh.mp hb];exact bo ..
 frame:=λi h h' ⟨p,q⟩ k=>⟨p.at' (k a (by simp) _ p.obj),k I (by simp) _ q⟩
 item:=λi s Q E hi ⟨p,q⟩ hQ=>by
  have hi':i<(iJ w a ep es).size:=by rw[xO];exact hi
  have hx:(iJ w a ep es)[i]?=some (iJ w a ep es)[i]:=fj hi';refine ZM p q hx λh' q' sb=>hQ _ h' s.toks ⟨_,hx,rfl⟩ ⟨p.at' ((sb.2 a hne).trans p.obj),q'⟩ λb o hb e=>?_;exact(sb.2 b λz=>hb (by rw[z];exact bo ..)).trans e
 done:=λs Q E ⟨p,q⟩ hQ=>ZN hh p q rfl λh' x=>hQ h' s.toks λb o hb e=>x b o (λz=>hb (by rw[z];exact bo ..)) e
 self:=λi s Q E ⟨_,q⟩ hQ=>by have hT:s.TypeIs (.ref I) "set_iterator" := ⟨_,q,rfl⟩;refine wpAny_pyIter_slot hT walk_slots.2.2.1 (ib walk_slots.2.2.1 hT ZH ?_ (xN _).2.2);exact aj ⟨_,rfl,"set_iterator",_,⟨_,q,rfl⟩,walk_slots.2.1.lookup,hQ⟩
theorem ZP {S:ah}{n:Nat}{Q:Unit->ag->Prop}(h:s.heap.get? S=some (seqObj "list" #[] n)) (q:∀h' c,h'.get? S=some (seqObj "list" #[] c)->(∀b o,b≠S->s.heap.get? b=some o->h'.get? b=some o)->Q () { s with heap:=h' }):
  wpAny (model prog w) A (wc (.ref S)) Q E s:=by
 unfold wc;refine ae (wd h rfl ?_);have h1:=ui h (λx=>x.push jm);refine wd h1 rfl ?_;have h2:=ui h1 (λx=>x.pop);refine q _ _ h2 λb o hb e=>?_;rw[ly _ _ _ _ hb,ly _ _ _ _ hb];exact e
theorem ZQ {Q:List af->ag->Prop}(hh:A.handled=none) (P:Parts prog w s.heap a kb o es ep t) (hn:es.size<=ck)
  (q:∀(h':cq) (tk:Nat),(∀b o,s.heap.get? b=some o->h'.get? b=some o)->s.heap.objs.size<=h'.objs.size->Q ((iJ w a ep es).toList.map (·.2)) { s with heap:=h',toks:=tk }):wpAny (model prog w) A (collect (.ref a)) Q E s:=by
 have la:a<s.heap.objs.size:=ar P.obj;have up1:∀b o,s.heap.get? b=some o->(s.heap.push (seqObj "list" #[] 0)).get? b=some o:=λb o e=>ak _ e;have hS1:(s.heap.push (seqObj "list" #[] 0)).get? s.heap.objs.size=some (seqObj "list" #[] 0):=bg _ rfl;have P1:Parts prog w (s.heap.push (seqObj "list" #[] 0)) a kb o es ep t:=P.at' (up1 a o P.obj);have hT1:ug { s with heap:=s.heap.push (seqObj "list" #[] 0) } (.ref a) "set" := ⟨o,P1.obj,P1.ex.1⟩;unfold collect;refine ae (wpAny_runValue (qe entry_proto_collect' ?_));rw[og F.plain_proto_collect _];refine ae (m:=newList []) (Bl (aj ⟨Code.quiet_builtin _ (by decide +kernel),qe entry_list_iadd' ?_⟩));rw[og F.plain_list_iadd _];show wpAny _ A.in1 (uw (.ref s.heap.objs.size) (.ref a) (.ref s.heap.objs.size)) _ _ { s with heap:=s.heap.push (seqObj "list" #[] 0) };unfold uw;refine ae (qi hT1 ?_);have ne:vk (.ref s.heap.objs.size) (.ref a)=false:=by simp[vk,ji la]
 rw[if_neg (by rw[ne];decide)];refine ae (ZL P1 ?_);have sz:(s.heap.push (seqObj "list" #[] 0)).objs.size=s.heap.objs.size+1:=Aw _ _;rw[sz];have up2:∀b o,(s.heap.push (seqObj "list" #[] 0)).get? b=some o->((s.heap.push (seqObj "list" #[] 0)).push (jU a 0 0 es.size ep)).get? b=some o:=λb o e=>ak _ e;have P2:Parts prog w ((s.heap.push (seqObj "list" #[] 0)).push (jU a 0 0 es.size ep)) a kb o es ep t:=P1.at' (up2 a o P1.obj);have hT2:ug { s with heap:=(s.heap.push (seqObj "list" #[] 0)).push (jU a 0 0 es.size ep) } (.ref a) "set" := ⟨o,P2.obj,P2.ex.1⟩;have hI2:((s.heap.push (seqObj "list" #[] 0)).push (jU a 0 0 es.size ep)).get? (s.heap.objs.size+1)=some (jU a 0 0 es.size ep):=by rw[<-sz];exact bg _ rfl
 refine ae (ig ?_);unfold Builtin.List.listLengthHint;refine ae (wpAny_specialOf hT2 walk_slots.2.2.2.lookup ?_);have spl:splitId "set.__len__" = some ("set","__len__"):=by decide +kernel
 dsimp only;rw[spl];dsimp only;refine ae (zk (b:=true) hT2 sub_set_self ?_);rw[if_neg (by decide),if_pos (by decide +kernel)];refine ae (qi hT2 (aj ?_));rw[if_pos (by decide +kernel)];refine ae (uf ?_);refine ae (ZP (s:={ s with heap:=(s.heap.push (seqObj "list" #[] 0)).push (jU a 0 0 es.size ep) }) (up2 _ _ hS1) λh3 c hS3 up3=>?_);have neS:∀b o,s.heap.get? b=some o->b≠s.heap.objs.size:=λb o e=>ay (ar e);have P3:Parts prog w h3 a kb o es ep t:=P2.at' (up3 a o (ay la) P2.obj);have hI3:h3.get? (s.heap.objs.size+1)=some (jU a 0 0 es.size ep):=up3 _ _ (rp _) hI2;have hz:gL w t 0=0:=by unfold gL;split <;> rfl
 have hh2:A.in1.handled=none:=by simp[hh]
 have nin:s.heap.objs.size∉[s.heap.objs.size+1,a]:=λm=>by
  rcases bf.mp m with e|m
  ·exact rp _ e.symm
  ·exact ji la (dh.mp m)
 refine aj ⟨plainId_quiet F.plain_extend_loop _,codeAny_extend_loopS (A:=A) ((ZO (kb:=kb) (o:=o) (t:=t) (ep:=ep) (es:=es) hh2 (s.heap.objs.size+1) (a:=a) (ay (kr la))).toS) hn s.heap.objs.size nin _ es.size 0 { s with heap:=h3 } #[] c rfl (jl _)
  ⟨P3,by rw[hz];exact hI3⟩ hS3 (ItemsOf.nil _) λs' acc c' mv hS' ia=>?_⟩
 have eacc:acc.toList=(iJ w a ep es).toList.map (·.2):=by
  apply nh
  intro i;rw[nr,df,nr]
  cases q:acc[i]? with
  |some v=>obtain⟨x,h1,h2⟩:=ia.2 i v q;rw[h1,h2];rfl
  |none=>have h1:acc.size<=i:=Array.getElem?_eq_none_iff.mp q;rw[rn (by rw[xO,<-ia.1];exact h1)];rfl
 obtain⟨hp,gs,dr,tk,os⟩:=s';have e1:gs=s.gens:=mv.gens;have e2:dr=s.drawn:=mv.drawn;have e3:os=s.os:=mv.os;subst e1;subst e2;subst e3;show wpAny _ A (load s.heap.objs.size >>= _) _ _ _;refine ae (wpAny_load hS' (aj ?_));rw[eacc];refine q hp tk (λb o e=>mv.heap b o (λm=>?_) (up3 b o (neS b o e) (up2 b o (up1 b o e)))) (gh (ar hS'))
 rcases bf.mp m with z|m
 ·exact neS b o e z
 ·exact ay (kr (ar e)) (dh.mp m)
end
open PySem.W SoM L2
section
variable{prog:bj}{w:cm}{A:cj}{E:af->ag->Prop}{s:ag}
theorem LQ {fin:Bool}{Q:Bool->ag->Prop}:∀{kx ky:List Int}{vx vy:List af}(i:Nat),ItemsAre (intKind prog w) kx vx->ItemsAre (intKind prog w) ky vy->fin=decide (vx.length<vy.length)->Q (cJ kx ky) s->KatLex prog w A true fin Q (vx.zip vy) i s
 |_,_,_,_,i,.nil,.nil,hf,h=>by subst hf;exact kat_nil h
 |_,_,_,_,i,.nil,.cons _ _,hf,h=>by subst hf;refine kat_nil ?_;rw[decide_eq_true (by simp)];exact h
 |_,_,_,_,i,.cons _ _,.nil,hf,h=>by subst hf;refine kat_nil ?_;rw[decide_eq_false (by simp)];exact h
 |_,_,_,_,i,.cons (k:=a) hu hx,.cons (k:=b) hv hy,hf,h=>by
  obtain⟨t,rfl⟩:=mr hu;obtain⟨t',rfl⟩:=mr hv;refine kat_cons (wpAny_eqBool_int (kat_go (λe=>?_) λe=>?_))
  ·refine kat_yes (LQ (i+1) hx hy (hf.trans (by simp)) ?_);rw[cJ,if_pos e]at h;exact h
  ·have h':Q (decide (a<b)) s:=by rw[cJ,if_neg (by rw[e];simp)]at h;exact h
   refine kat_no ?_
   cases q:i==0 with
   |true=>exact oneLt_int h'
   |false=>exact kat_one _ _ (wt h')
theorem ZR {x y:ah}{kx ky:List Int}{Q:Bool->ag->Prop}(hx:gm (intKind prog w) s.heap kx x) (hy:gm (intKind prog w) s.heap ky y) (h:Q (cJ kx ky) s):wpAny (model prog w) A (keyLt' (tuples' true) (.ref x) (.ref y)) Q E s:=by obtain⟨ox,ix,nx,e1,_,d1,i1⟩:=hx;obtain⟨oy,iy,ny,e2,_,d2,i2⟩:=hy;exact kat_lt e1 d1 e2 d2 (LQ 0 i1 i2 (by simp) h)
def KeysAt (prog:bj) (w:cm) (h:cq) (n:Nat) (ad:Nat->ah) (ky:Nat->List Int):Prop:=∀i,i<n->gm (intKind prog w) h (ky i) (ad i)/\ky i≠[]
def bT (n:Nat) (ad:Nat->ah):List af:=(ba n).map λi=>.ref (ad i)
theorem jV (n:Nat) (ad:Nat->ah):(bT n ad).length=n:=by simp[bT]
theorem CD {n:Nat}{ad:Nat->ah}{i:Nat}(h:i<n):(bT n ad).getD i jm=.ref (ad i):=by simp[bT,h]
theorem LR:∀(l:List Nat) {ad:Nat->ah}{ky:Nat->List Int},(∀i∈l,gm (intKind prog w) s.heap (ky i) (ad i)/\ky i≠[])->∃fs:List af,KatTups s.heap (l.map λi=>.ref (ad i)) fs/\fs.length=l.length/\∀v∈fs,∃a t,v=.int a t
 | [],_,_,_=>⟨[],trivial,rfl,by simp⟩
 |i::l,ad,ky,h=>by
  obtain⟨fs,t,hl,hv⟩:=LR l (ad:=ad) (ky:=ky) λj hj=>h j (ax _ hj);obtain⟨⟨o,its,n,e,c,d,r⟩,ne⟩:=h i (bo ..)
  cases q:its.toList with
  |nil=>rw[q]at r;cases hk:ky i with
   |nil=>exact absurd hk ne
   |cons a b=>rw[hk]at r;cases r
  |cons v vs=>
   rw[q]at r
   cases hk:ky i with
   |nil=>exact absurd hk ne
   |cons a b=>
    rw[hk]at r
    cases r with
    |cons hu _=>
     obtain⟨tk,rfl⟩:=mr hu;refine⟨.int a tk::fs,KatTups.cons e c d (by rw[<-nr,q];rfl) t,by simp[hl],λv hv'=>?_⟩
     rcases bf.mp hv' with rfl|hv'
     ·exact⟨_,_,rfl⟩
     ·exact hv v hv'
theorem ZS {n:Nat}{ad:Nat->ah}{ky:Nat->List Int}{G:Array Nat->ag->Prop}(h2:2<=n) (hk:KeysAt prog w s.heap n ad ky)
  (h:∀p,Ent n p->eX cJ (p.toList.map ky)->G p s):
  wpAny (model prog w) A (keyKind' (bT n ad).toArray) (λκ s'=>(kas_sort (bT n ad).length).kasWp (kas_ask prog w A κ (bT n ad)) G s') (λ_ _=>False) s:=by
 obtain⟨fs,t,hl,hv⟩:=LR (prog:=prog) (w:=w) (s:=s) (ba n) (ad:=ad) (ky:=ky) λi hi=>hk i (bw.mp hi);refine kat_kind (T:=.type "int") t (by rw[hl,km];omega) (λv hv'=>?_) (by decide) ?_
 ·obtain⟨a,tk,rfl⟩:=hv v hv';exact .now
 ·rw[jV]
  let ks:=(ba n).map ky
  have mem:∀i,i<n->ky i∈ks:=λi hi=>cp.mpr ⟨i,bw.mpr hi,rfl⟩;refine J9 (n:=n) (f:=λi=>rk cJ ks (ky i)) (I:=λs'=>s'=s) (λi j C s' hs hi hj hC=>?_) (kas_sort n) (λp=>Ent n p/\eX cJ (p.toList.map ky)) G s s (YI (by omega) λp e inc=>⟨e, ?_⟩) rfl λp s' hp hs=>by subst hs;exact h p hp.1 hp.2
  ·subst hs;show wpAny (model prog w) A (keyLt' (tuples' true) ((bT n ad).getD i jm) ((bT n ad).getD j jm)) C (λ_ _=>False) s';rw[CD hi,CD hj];refine ZR (hk i hi).1 (hk j hj).1 ?_;have:=hC s' rfl;rwa [KJ stoL (mem i hi)]at this
  ·refine gw.mpr λi j hi hj hij=>?_;have hj':j<p.size:=by simpa using hj
   have hi':i<p.size:=by omega
   have z:=inc i j (gh hij) (by rw[<-e.1];exact hj');unfold SoM.F at z;have ei:p.getD i 0=p[i]:=by simp[ka,hi']
   have ej:p.getD j 0=p[j]:=by simp[ka,hj']
   rw[ei,ej]at z;have lt:∀k (hk:k<p.size),p[k]<n:=λk hk=>bw.mp (e.2.mem_iff.mp (by simp));have:=YL stoL (mem _ (lt j hj')) z;simpa using this
end
section
variable{prog:bj}{w:cm}{A:cj}{E:af->ag->Prop}{s:ag}
abbrev xP (h h':cq):Prop:=∀b o,h.get? b=some o->h'.get? b=some o
def Sorted (n:Nat) (ad:Nat->ah) (ky:Nat->List Int) (out:List af):Prop:=∃p:List Nat,p.Perm (ba n)/\eX cJ (p.map ky)/\out=p.map λi=>.ref (ad i)
theorem Sorted.len {n:Nat}{ad:Nat->ah}{ky:Nat->List Int}{out:List af}(h:Sorted n ad ky out):out.length=n:=by obtain⟨p,pp,_,e⟩:=h;rw[e,bh,pp.length_eq,km]
theorem KeysAt.keep {h h':cq}{n:Nat}{ad:Nat->ah}{ky:Nat->List Int}(k:KeysAt prog w h n ad ky) (g:∀i,i<n->∀o,h.get? (ad i)=some o->h'.get? (ad i)=some o):KeysAt prog w h' n ad ky:=λi hi=>⟨xM (k i hi).1 (g i hi),(k i hi).2⟩
theorem ZT {a:ah}{n c:Nat}{ad:Nat->ah}{ky:Nat->List Int}{P:Fin->ag->Prop}(ho:s.heap.get? a=some (seqObj "list" (bT n ad).toArray c)) (h64:n<64) (hk:KeysAt prog w s.heap n ad ky)
  (q:∀h' e out,Sorted n ad ky out->h'.get? a=some (seqObj "list" out.toArray e)->(∀b o,b≠a->s.heap.get? b=some o->h'.get? b=some o)->P (.done (.ret .none)) { s with heap:=h' }):
  wpAny (model prog w) A (my.«list.sort» ⟨[.ref a],[]⟩) P E s:=by
 have la:a<s.heap.objs.size:=ar ho;obtain⟨e1,g1⟩:∃e1,(s.heap.update a (oi λ_=>(#[]:Array af))).get? a=some (seqObj "list" #[] e1):=⟨_,ui ho λ_=>#[]⟩
 have k1:∀b o,b≠a->s.heap.get? b=some o->(s.heap.update a (oi λ_=>(#[]:Array af))).get? b=some o:=λb o hb e=>by rw[ly _ _ _ _ hb];exact e
 generalize hH1:s.heap.update a (oi λ_=>(#[]:Array af))=H1 at g1 k1;have k3:xP H1 ((H1.push (seqObj "tuple" (bT n ad).toArray 0)).push (seqObj "list" #[] 0)):=λb o e=>ak _ (ak _ e);have ne:∀i,i<n->ad i≠a:=λi hi e=>by obtain⟨⟨o,its,m,e1,c1,_⟩,_⟩:=hk i hi;rw[e,ho]at e1;cases e1;exact absurd (Value.type.inj c1) (by decide)
 have K3:KeysAt prog w ((H1.push (seqObj "tuple" (bT n ad).toArray 0)).push (seqObj "list" #[] 0)) n ad ky:=hk.keep λi hi o e=>k3 _ o (k1 _ o (ne i hi) e);have g3:=k3 a _ g1;have kk:∀b o,b≠a->s.heap.get? b=some o->((H1.push (seqObj "tuple" (bT n ad).toArray 0)).push (seqObj "list" #[] 0)).get? b=some o:=λb o hb e=>k3 b o (k1 b o hb e);have sl:n<=ck:=by rw[je];omega
 have fin:∀(out:List af),Sorted n ad ky out->wpAny (model prog w) A (do
   let touched:=(<-seqEpoch a) != e1
   Builtin.List.listUpdate (.ref a) λ_=>out.toArray
   if let some e:=(none:Option af)then rule "list.sort.comparison-raised"; throw e
   if touched then rule "list.sort.modified"; raiseError "ValueError" "list modified during sort"
   ret .none) P E { s with heap:=(H1.push (seqObj "tuple" (bT n ad).toArray 0)).push (seqObj "list" #[] 0) }:=λout ho'=>by
  refine ae (seqEpoch_at g3 rfl ?_);refine ae (wd g3 rfl ?_ (jl _) (by rw[av,ho'.len];omega));simp only[bne_self_eq_false,cn,if_false];exact aj (q _ _ out ho' (ui g3 λ_=>out.toArray) λb o hb e=>by rw[ly _ _ _ _ hb];exact kk b o hb e)
 generalize hH3:(H1.push (seqObj "tuple" (bT n ad).toArray 0)).push (seqObj "list" #[] 0)=H3 at k3 K3 g3 kk fin;rw[list_sort_plain];refine ae (listItems_at ho rfl (ae (wd ho rfl ?_ (by rw[av,jV];exact sl) (jl _))));rw[hH1];refine ae (seqEpoch_at g1 rfl (ae (wpAny_newTuple (ae (Bl (ig ?_) (jl _))) (by show(bT n ad).length<=_;rw[jV];exact sl))));show wpAny (model prog w) A _ P E { s with heap:=(H1.push (seqObj "tuple" (bT n ad).toArray 0)).push (seqObj "list" #[] 0) };rw[hH3];have hz:(bT n ad).toArray.size=n:=by rw[av,jV]
 dsimp only
 by_cases h2:n<2
 ·rw[if_pos (by rw[hz];exact h2),if_pos (by rw[hz];exact h2)];refine ae (aj ?_);rw[StateT.run_pure];refine ae (aj ?_);have e:(arrOf (SortSt.mk' general' ((bT n ad).toArray.zip (bT n ad).toArray) #[] 7 none)).map (·.2)=(bT n ad).toArray:=by show(((bT n ad).toArray.zip (bT n ad).toArray)).map (·.2)=_;rw[Array.map_snd_zip (ao _)]
  dsimp only;rw[e];refine fin _ ⟨ba n,.refl _, ?_,rfl⟩;refine gw.mpr λi j hi hj hij=>?_;rw[bh,km]at hj;omega
 ·have h2':2<=n:=by omega
  rw[if_neg (by rw[hz];exact h2),if_neg (by rw[hz];exact h2)];refine ae (jx (ZS (A:=A) (s:={ s with heap:=H3 }) (G:=λp s'=>s'={ s with heap:=H3 }/\Ent n p/\eX cJ (p.toList.map ky)) h2' K3 λp e r=>⟨rfl,e,r⟩) (λκ s0 hκ=>?_) λ_ _ x=>x.elim);refine ae (jx (kat_run (ks:=bT n ad) (vs:=bT n ad) (Q:=λst' s'=>∃p:Array Nat,p.size=(bT n ad).length/\arrOf st'=p.map (kas_item ((bT n ad).toArray.zip (bT n ad).toArray))/\failedOf st'=none/\s'={ s with heap:=H3 }/\Ent n p/\eX cJ (p.toList.map ky))
   rfl (by rw[jV];exact h2') (by rw[jV];exact h64) (λp st' s' z1 z2 z3 z4=>⟨p,z1,z2,z3,z4⟩) hκ) ?_ λ_ _ e=>e)
  rintro ⟨⟨⟩,st'⟩ s' ⟨p,_,z2,z3,rfl,z5,z6⟩
  dsimp only;rw[kat_snds rfl z2,z3];have e:(p.toList.map λi=>(bT n ad).getD i jm)=p.toList.map λi=>.ref (ad i):=Bm λi hi=>CD (bw.mp (z5.2.mem_iff.mp hi));rw[e];exact fin _ ⟨p.toList,z5.2,z6,rfl⟩
theorem LU {x:af}{n:Nat}{ad:Nat->ah}{ky:Nat->List Int}{Q:af->ag->Prop}(h64:n<64) (hk:KeysAt prog w s.heap n ad ky)
  (hc:∀(Q':List af->ag->Prop) (E':af->ag->Prop),(∀h' tk,xP s.heap h'->s.heap.objs.size<=h'.objs.size->Q' (bT n ad) { s with heap:=h',toks:=tk })->wpAny (model prog w) A.in1 (collect x) Q' E' s)
  (q:∀h' tk D e out,Sorted n ad ky out->s.heap.objs.size<=D->h'.get? D=some (seqObj "list" out.toArray e)->xP s.heap h'->Q (.ref D) { s with heap:=h',toks:=tk }):
  wpAny (model prog w) A (call (.builtin "sorted") [x]) Q E s:=by
 refine Calls.call_function_entry kind_sorted plain_sorted entry_sorted (args_sorted1 _) ?_;unfold my.«sorted»;refine ae (m:=checkCount "sorted" 1 1 _) (aj (ae (hc _ _ λh1 tk k1 sz=>ae (Bl ?_ (by rw[jV,je];omega)))));have g:(h1.push (seqObj "list" (bT n ad).toArray 0)).get? h1.objs.size=some (seqObj "list" (bT n ad).toArray 0):=bg _ rfl;have k2:xP s.heap (h1.push (seqObj "list" (bT n ad).toArray 0)):=λb o e=>ak _ (k1 b o e);refine ae (ig (ib slot_list_sort ⟨_,g,rfl⟩ entry_list_sort (ZT (s:={ s with heap:=h1.push (seqObj "list" (bT n ad).toArray 0),toks:=tk }) g h64 (hk.keep λi hi o e=>k2 _ o e) λh' e out so ho ke=>⟨_,rfl, ?_⟩) (args_list_sort _)));exact aj ⟨_,rfl,q h' tk h1.objs.size e out so sz ho λb o e=>ke b o (ay (au (ar e) sz)) (k2 b o e)⟩
end
def bare (w:cm):Obj:={ cls:=.type "set",dict:=none,data:=.set #[] 0 (.fresh 0 0 (!w.params.followText "set-order")) }
section
variable{prog:bj}{w:cm}{A:cj}{E:af->ag->Prop}{s:ag}
theorem ZU {h:cq}{a:ah}(e:h.get? a=some (bare w)):kP prog w h a []:=by
 have tok:∀led:Bool,TOk (.fresh 0 0 led) []:=λled=>⟨rfl,.nil,rfl,(λj hj=>nomatch hj),jl _,.inl rfl,(λi h j e=>nomatch e),rfl⟩
 exact⟨bare w,#[],0,_,e,⟨rfl,rfl,rfl⟩,rfl,rfl,tok _,.nil,(by show 0*5<7*3;decide),rfl⟩
theorem ZV (a:af) {Q:af->ag->Prop}(q:Q (.ref s.heap.objs.size) { s with heap:=s.heap.push (bare w) }):
  codeAny (model prog w) A (.call (.builtin "set.__new__") ⟨[.type "set",a],[]⟩) (wants Q E) s:=by
 refine ve F.plain_set_new F.entry_set_new (zr (F.newCall_set_1 a) ?_);have self:=sub_set_self;unfold my.«set.__new__» Builtin.Frozenset.newClass;cases s
 wp_walk
 exact mm (aj (ae (wpAny_alloc (aj (aj q)))))
theorem ZW {v:af}{Q N:af->ag->Prop}(hn:codeAny (model prog w) A.in1 (.call (.builtin "set.__new__") ⟨[.type "set",v],[]⟩) (wants N E) s)
  (hi:∀x s1,N x s1->s1.TypeIs x "set"/\codeAny (model prog w) A.in1 (.call (.builtin "set.__init__") ⟨[x,v],[]⟩) (wants (λr s2=>r=.none/\Q x s2) E) s1):wpAny (model prog w) A (call (.type "set") [v]) Q E s:=by
 have f:=F.called_set;obtain⟨_,_,fm⟩:=f.mro;have fd:=f.made;have fs:=f.sub;have ft:=f.notType;have fc:=f.canCreate;have fk:=F.typeCall_set_1 v;have fl:=f.init.lookup;have q:(Code.builtin "type.__call__" ⟨[.type "set",v],[]⟩).quiet=true:=Code.quiet_builtin _ (by decide +kernel);refine wpAny_call (codeAny_of_tree (aj ⟨q,qe F.entry_type_call ?_⟩));rw[Around.under_plain (weight_type_call_type "set" [v] []) rfl]
 repeat (any_goals (first|assumption|wp_step))
 refine qf hn ?_
 rintro (e|fl1) s1 h1
 ·exact h1
 ·cases fl1 <;> try exact h1.elim
  rename_i x;obtain⟨hx,hr⟩:=hi x s1 h1;have fb:=f.init.bind x
  repeat (any_goals (first|assumption|wp_step))
  refine qf hr ?_
  rintro (e|fl2) s2 h2
  ·exact h2
  ·cases fl2 <;> try exact h2.elim
   obtain⟨rfl,h3⟩:=h2
   repeat (any_goals (first|assumption|wp_step))
theorem LV {l:ah}{T:String}{it:Obj}{n:Nat}{P:Nat->af->Prop}{St:Nat->cq->Prop}{fp wr:List ah}(ad:Nat->ah) (ky:Nat->List Int) (U:List (List Int)) {Q:af->ag->Prop}
  (hu:A.units+8<cLine) (hT:s.TypeIs (.ref l) T) (n1:isSubtype (.type T) (.type "set")=pure false) (n2:isSubtype (.type T) (.type "frozenset")=pure false) (n3:(Bf T==Bf "dict")=false)
  (hi:∀(B:cj) (Q':af->ag->Prop) (E':af->ag->Prop),Q' (.ref (s.heap.objs.size+1)) { s with heap:=(s.heap.push (bare w)).push it }->wpAny (model prog w) B (pyIter (.ref l)) Q' E' { s with heap:=s.heap.push (bare w) })
  (W:Walks prog w A.in1.in1.in1 (s.heap.objs.size+1) fp wr n P St) (hfp:s.heap.objs.size∉fp) (hwr:∀b∈wr,s.heap.objs.size<b) (h0:St 0 ((s.heap.push (bare w)).push it))
  (hval:∀i v,P i v->v=.ref (ad i)) (hU:U.length<=76) (hky:∀i,i<n->ky i∈U) (hkeys:∀j,j<n->gm (intKind prog w) s.heap (ky j) (ad j))
  (q:∀(h':cq) (tk:Nat) kb,kP prog w h' s.heap.objs.size kb->Upto ky ad n kb->(∀b o,s.heap.get? b=some o->h'.get? b=some o)->Q (.ref s.heap.objs.size) { s with heap:=h',toks:=tk }):
  wpAny (model prog w) A (call (.type "set") [.ref l]) Q E s:=by
 refine ZW (N:=λx s1=>x=.ref s.heap.objs.size/\s1={ s with heap:=s.heap.push (bare w) }) (ZV _ ⟨rfl,rfl⟩) ?_
 rintro x s1 ⟨rfl,rfl⟩
 have up:∀b o,s.heap.get? b=some o->(s.heap.push (bare w)).get? b=some o:=λb o e=>ak _ e;have hb:(s.heap.push (bare w)).get? s.heap.objs.size=some (bare w):=bg _ rfl;have hS:ug { s with heap:=s.heap.push (bare w) } (.ref s.heap.objs.size) "set" := ⟨_,hb,rfl⟩;refine⟨hS,ve F.called_set.init.plain F.entry_set_init (check_set_init_1 hS ?_)⟩;obtain⟨ol,el,cl⟩:=hT;have hl1:ug { s with heap:=s.heap.push (bare w) } (.ref l) T:=⟨ol,up l ol el,cl⟩
 have lt:∀j,j<n->ad j<s.heap.objs.size:=λj hj=>let ⟨_,_,_,e,_⟩:=hkeys j hj;ar e;have hb2:((s.heap.push (bare w)).push it).get? s.heap.objs.size=some (bare w):=ak _ hb;have run:∀(R:yj->ag->Prop),(∀h' tk kb,kP prog w h' s.heap.objs.size kb->Upto ky ad n kb->(∀b o,s.heap.get? b=some o->h'.get? b=some o)->R (.ok (.ret .none)) { s with heap:=h',toks:=tk })->
   codeAny (model prog w) A.in1.in1 (.builtin "set.update.loop" ⟨[.ref s.heap.objs.size,.ref (s.heap.objs.size+1)],[]⟩) R { s with heap:=(s.heap.push (bare w)).push it }:=λR hR=>by
  refine ZF W s.heap.objs.size hfp ad ky hval (by show A.units+1+1+2<cLine;omega) U hU hky (λj hj=>⟨ay (lt j hj),λm=>Nat.lt_asymm (lt j hj) (hwr _ m)⟩) n 0 _ [] rfl (jl _) h0 (ZU hb2)
   ⟨(λp hp=>nomatch hp),λj hj=>absurd hj (Nat.not_lt_zero j)⟩ (λj hj=>xM (hkeys j hj) λo e=>ak _ (up _ o e)) λh' tk kb keep S u=>hR h' tk kb S u λb o e=>?_
  have hlt:=ar e;exact keep b o (λm=>(bf.mp m).elim (ay hlt) λm=>Nat.lt_asymm hlt (hwr b m)) (ak _ (up b o e))
 unfold my.«set.__init__» noKeywords Builtin.Frozenset.updateFrom;generalize hPI:pyIter=PI;unfold bare at hb
 wp_walk
 subst hPI;refine hi _ _ _ ?_;refine ae (wpAny_runValue (run _ λh' tk kb S u keep=>?_));exact aj (aj ⟨rfl,q h' tk kb S u keep⟩)
end
end SR
namespace L2.Mr
open PySem PySem.Spec PyProof.Rows SR
def TupsAre (H:Hp):List V->List (List Int)->Prop
 | [],[]=>True
 |v::vs,k::ks=>(∃b,v=.ref b/\H b=some (.tup (k.map V.int)))/\TupsAre H vs ks
 |_,_=>False
def ZX:V->ah
 | .ref b=>b
 |_=>0
def eW (vs:List V) (i:Nat):ah:=ZX (vs.getD i .non)
section
variable{X:Cx}{pins:List (ah×Obj)}{σ:St}{H H':Hp}{s:ag}
theorem TupsAre.len:∀{vs:List V}{ks:List (List Int)},TupsAre H vs ks->vs.length=ks.length
 | [],[],_=>rfl
 | [],_::_,h=>h.elim
 |_::_,[],h=>h.elim
 |v::vs,k::ks,h=>by rw[dg,dg,TupsAre.len h.2]
theorem TupsAre.at_:∀{vs:List V}{ks:List (List Int)}{i:Nat},TupsAre H vs ks->i<ks.length->vs[i]?=some (.ref (eW vs i))/\H (eW vs i)=some (.tup ((ks.getD i []).map V.int))
 | [],[],_,_,h=>by simp at h
 | [],_::_,_,h,_=>h.elim
 |_::_,[],_,h,_=>h.elim
 |v::vs,k::ks,0,h,_=>by obtain⟨⟨b,rfl,e⟩,_⟩:=h;exact⟨rfl,e⟩
 |v::vs,k::ks,i+1,h,hi=>by
  obtain⟨e1,e2⟩:=TupsAre.at_ (i:=i) h.2 (by simpa using hi);have ea:eW (v::vs) (i+1)=eW vs i:=by simp[eW]
  exact⟨by rw[ea];simpa using e1,by rw[ea];simpa using e2⟩
theorem LW:∀{k:List Int}{its:List af}{prog:bj}{w:cm},Vals (k.map V.int) its->ItemsAre (intKind prog w) k its
 | [],_,_,_,.nil=>.nil
 |n::k,_,_,_,.cons h1 h2=>by obtain⟨t,rfl⟩:=h1;exact .cons (intKind_is _ _ _ _) (LW h2)
theorem xQ (I:Inv X pins σ H s) {b:ah}{k:List Int}(e:H b=some (.tup (k.map V.int))):gm (intKind X.prog X.w) s.heap k b:=by obtain⟨_,its,r,o,e1,c,_,n,d⟩:=I.hok b _ e;exact⟨o,its.toArray,n,e1,c,d,LW r⟩
theorem ZY (I:Inv X pins σ H s) {vs:List V}{ks:List (List Int)}(h:TupsAre H vs ks) (ne:∀k∈ks,k≠[]):KeysAt X.prog X.w s.heap ks.length (eW vs) (λi=>ks.getD i []):=λi hi=>by refine⟨xQ I (h.at_ hi).2,ne _ ?_⟩;simp[hi]
theorem CF {vs:List V}{ks:List (List Int)}{its:List af}(h:TupsAre H vs ks) (r:Vals vs its):its=bT ks.length (eW vs):=by
 have hl:=r.length;have hl2:=h.len
 apply nh
 intro i
 by_cases hi:i<ks.length
 ·obtain⟨e1,_⟩:=h.at_ hi;obtain⟨u,e2,e3⟩:=r.get e1;cases e3;rw[e2];simp[bT,hi]
 ·rw[Ax (by omega),Ax (by rw[jV];omega)]
theorem LX {n:Nat}{ad:Nat->ah}{ky:Nat->List Int}{out:List af}(so:Sorted n ad ky out) (hH:∀i,i<n->H (ad i)=some (.tup ((ky i).map V.int))):
  ∃(p:List Nat) (vs':List V),p.Perm (ba n)/\eX cJ (p.map ky)/\Vals vs' out/\TupsAre H vs' (p.map ky):=by
 obtain⟨p,pp,r,rfl⟩:=so;refine⟨p,p.map λi=>V.ref (ad i),pp,r, ?_, ?_⟩
 ·clear pp r
  induction p with
  |nil=>exact .nil
  |cons i p ih=>exact .cons rfl ih
 ·have:∀q:List Nat,(∀i∈q,i<n)->TupsAre H (q.map λi=>V.ref (ad i)) (q.map ky):=λq=>by
   induction q with
   |nil=>intro _;trivial
   |cons i q ih=>exact λh=>⟨⟨_,rfl,hH i (h i (bo ..))⟩,ih λj hj=>h j (ax _ hj)⟩
  exact this p λi hi=>bw.mp (pp.mem_iff.mp hi)
theorem LY {α:Type}{p:List Nat}{n:Nat}{l:List α}{d:α}(h:p.Perm (ba n)) (hl:l.length=n):(p.map λi=>l.getD i d).Perm l:=by
 refine(h.map _).trans ?_;have:(ba n).map (λi=>l.getD i d)=l:=by
  apply List.ext_getElem (by simp[hl])
  intro i h1 h2;simp[h2]
 rw[this]
abbrev xR:List V->Hp->VK->Prop:=λxs H Q=>∃(p:ah) (vs:List V) (ks:List (List Int)),xs=[.ref p]/\H p=some (.lst vs)/\TupsAre H vs ks/\(∀k∈ks,k≠[])/\ks.length<64/\∀l vs',H l=none->TupsAre H vs' (eI cJ ks)->Q (.ref l) (aQ H l (.lst vs'))
theorem ZZ:CallR X (.builtin "sorted") xR:=by
 intro pins s σ H xs us Q I rv ⟨p,vs,ks,e,hp,ht,ne,h64,q⟩;subst e;obtain⟨u,rfl,ru⟩:=jK rv;cases ru;obtain⟨its,rits,pl,hz⟩:=I.list (SqL.of hp);have hits:=CF ht rits;refine LU h64 (ZY I ht ne) (λQ' E' hQ=>?_) λh' tk D e out so hD ho k=>?_
 ·refine collect_list (vs:=bT ks.length (eW vs)) (by rw[<-hits];exact pl.isList) ?_ (by rw[jV,je];omega);refine hQ _ s.toks (λb o e=>?_) ?_
  ·have hlt:=ar e;rw[ly _ _ _ _ (ay hlt),Heap.get?_push_ne _ _ _ (ay hlt)];exact e
  ·rw[Heap.size_update,Aw];exact wq _
 ·obtain⟨pp,vs',h1,h2,h3,h4⟩:=LX (H:=H) so λi hi=>(ht.at_ hi).2;have e1:pp.map (λi=>ks.getD i [])=eI cJ ks:=YJ stoL h2 (LY h1 rfl);rw[e1]at h4;have hl:=h4.len;refine⟨.ref D,_,I.laid (t':=tk) k hD (show ObjOk X.prog X.w _ _ _ (.lst vs') from⟨?_,out,e,h3,ho⟩),rfl,q D vs' (I.hok.fresh hD) h4⟩;rw[hl,(xH ks).length_eq,je];omega
def xS (prog:bj) (w:cm) (l:ah) (o:Obj) (kb:KB):Prop:=∃es ep t,∀h:cq,h.get? l=some o->Parts prog w h l kb o es ep t
structure KbOk (H:Hp) (kb:KB) (ks:List (List Int)):Prop where
 tup:∀p∈kb,H p.2=some (.tup (p.1.map V.int))
 frm:∀p∈kb,p.1∈ks
 all:∀k∈ks,k∈kb.map dz
abbrev LZ (X:Cx):List V->Hp->VK->Prop:=λxs H Q=>∃(p:ah) (vs:List V) (ks:List (List Int)),xs=[.ref p]/\H p=some (.lst vs)/\TupsAre H vs ks/\(dW cJ ks).length<=76/\∀l o kb,H l=none->xS X.prog X.w l o kb->KbOk H kb ks->Q (.ref l) (aQ H l (.frz o (.own 0)))
theorem sub_list:isSubtype (.type "list") (.type "set")=pure false/\isSubtype (.type "list") (.type "frozenset")=pure false:=⟨F.sub_list_set,F.sub_list_frozenset⟩
theorem Z0 {k:Nat}(rm:Room k X.A):CallR X (.type "set") (LZ X):=by
 intro pins s σ H xs us Q I rv ⟨p,vs,ks,e,hp,ht,hU,q⟩;subst e;obtain⟨u,rfl,ru⟩:=jK rv;cases ru;obtain⟨its,rits,pl,hz⟩:=I.list (SqL.of hp);have hits:=CF ht rits;have lp:=I.hok.lt hp;have hI:s.heap.IsList p (bT ks.length (eW vs)).toArray:=by rw[<-hits];exact pl.isList
 have hsz:(bT ks.length (eW vs)).toArray.size=ks.length:=by rw[av,jV]
 have hh:X.A.in1.in1.in1.handled=none:=rm.hd;have hne:p≠s.heap.objs.size+1:=ay (kr lp);have hb:(s.heap.push (bare X.w)).IsList p (bT ks.length (eW vs)).toArray:=hI.push _;have hs1:(s.heap.push (bare X.w)).objs.size=s.heap.objs.size+1:=Aw _ _;have W:=Bj (prog:=X.prog) (w:=X.w) (A:=X.A.in1.in1.in1) hh (s.heap.objs.size+1) p hne (bT ks.length (eW vs)).toArray;rw[hsz]at W;refine LV (T := "list") (it:={ cls:=.type "list_iterator",data:=.fields #[.ref p,.int 0 0] }) (eW vs) (λi=>ks.getD i []) (dW cJ ks) (by have:=rm.un;omega) hI.typeIs sub_list.1 sub_list.2 (by decide) (λB Q' E' hQ=>?_) W ?_ ?_ ?_ (λi v hv=>?_) hU (λi hi=>?_) (λj hj=>?_) λh' tk kb hS hup k=>?_
 ·refine sd hb ?_;rw[<-hs1]at hQ;exact hQ
 ·intro m
  rcases bf.mp m with z|m
  ·exact rp _ z.symm
  ·exact ji lp (dh.mp m)
 ·intro b hb;rw[dh.mp hb];exact jy _
 ·refine⟨⟨{ cls:=.type "list_iterator",data:=.fields #[.ref p,.int 0 0] }, ?_,rfl,rfl⟩,hb.push _⟩;rw[<-hs1];exact bg _ rfl
 ·have hi:i<ks.length:=by have:=(dj.mp hv).1;rwa [hsz]at this
  have:(bT ks.length (eW vs))[i]?=some (.ref (eW vs i)):=by simp[bT,hi]
  rw[Ay,this]at hv;exact(cf hv).symm
 ·refine(mO stoL _ _).mpr ?_;show ks.getD i []∈ks;simp[hi]
 ·exact xQ I (ht.at_ hj).2
 ·obtain⟨o,es,ep,t,P⟩:=hS;refine⟨.ref s.heap.objs.size,_,I.laid (t':=tk) (o:=.frz o (.own 0)) k (ao _) ⟨P.obj,o,P.obj⟩,rfl,q _ o kb (I.hok.fresh (ao _)) ⟨es,ep,t,λh e=>P.at' e⟩ ⟨λz hz=>?_,λz hz=>?_,λz hz=>?_⟩⟩
  ·obtain⟨j,hj,rfl⟩:=hup.from_ z hz;exact(ht.at_ hj).2
  ·obtain⟨j,hj,rfl⟩:=hup.from_ z hz;show ks.getD j []∈ks;simp[hj]
  ·obtain⟨j,hj,rfl⟩:=jg hz;have:=hup.all j hj;simpa[hj]using this
abbrev L0 (X:Cx):List V->Hp->VK->Prop:=λxs H Q=>∃(l:ah) (o:Obj) (kb:KB) (ks:List (List Int)),xs=[.ref l]/\H l=some (.frz o (.own 0))/\xS X.prog X.w l o kb/\KbOk H kb ks/\(∀k∈ks,k≠[])/\(dW cJ ks).length<64/\∀D vs',H D=none->TupsAre H vs' (dW cJ ks)->Q (.ref D) (aQ H D (.lst vs'))
theorem Z1 {α β:Type}{f:α->β}:∀{l:List β}{l':List β},l.Perm l'->∀xs:List α,l'=xs.map f->∃ys:List α,ys.Perm xs/\l=ys.map f:=by
 intro l l' h
 induction h with
 |nil=>intro xs e;exact⟨xs,.refl _,e⟩
 |cons a _ ih=>
  intro xs e
  cases xs with
  |nil=>cases e
  |cons x xs=>simp only[cy,Bd]at e;obtain⟨ys,p,e'⟩:=ih xs e.2;exact⟨x::ys,p.cons x,by simp[e.1,e']⟩
 |swap a b l=>
  intro xs e
  cases xs with
  |nil=>cases e
  |cons x xs=>
   cases xs with
   |nil=>simp at e
   |cons y xs=>simp only[cy,Bd]at e;exact⟨y::x::xs,.swap ..,by simp[e.1,e.2.1,e.2.2]⟩
 |trans _ _ ih1 ih2=>intro xs e;obtain⟨ys,p,e'⟩:=ih2 xs e;obtain⟨zs,p',e''⟩:=ih1 ys e';exact⟨zs,p'.trans p,e''⟩
theorem Z2 {k:Nat}(rm:Room k X.A):CallR X (.builtin "sorted") (L0 X):=by
 intro pins s σ H xs us Q I rv ⟨l,o,kb,ks,e,hl,⟨es,ep,t,hP⟩,kO,ne,h64,q⟩;subst e;obtain⟨u,rfl,ru⟩:=jK rv;cases ru;have P:=hP s.heap (I.hok l _ hl).1;have pe:(iJ X.w l ep es).toList.Perm (gK X.prog X.w kb):=by rw[<-P.es];exact LO _ _ _ _
 obtain⟨kc,pk,ek⟩:=Z1 pe kb rfl;have mem:∀i,i<kc.length->kc.getD i ([],0)∈kb:=λi hi=>pk.mem_iff.mp (by simp[hi]);have hn:(kb.map dz).length=(dW cJ ks).length:=by refine List.Perm.length_eq ((pv P.nd (tV stoL (tU stoL ks))).mpr λz=>?_);rw[mO stoL];refine⟨λh=>?_,λh=>kO.all z h⟩;obtain⟨p,hp,rfl⟩:=cp.mp h;exact kO.frm p hp
 have hlen:kc.length<64:=by rw[pk.length_eq];rw[bh]at hn;omega
 have hes:es.size=kc.length:=by rw[P.size,pk.length_eq]
 have KA:KeysAt X.prog X.w s.heap kc.length (λi=>(kc.getD i ([],0)).2) (λi=>(kc.getD i ([],0)).1):=λi hi=>⟨xQ I (kO.tup _ (mem i hi)),ne _ (kO.frm _ (mem i hi))⟩
 have er:(iJ X.w l ep es).toList.map (·.2)=bT kc.length (λi=>(kc.getD i ([],0)).2):=by
  rw[ek,ni]
  apply List.ext_getElem (by simp[jV])
  intro i h1 h2;have hi:i<kc.length:=by simpa using h1
  simp[bT,hi]
 refine LU hlen KA (λQ' E' hQ=>?_) λh' tk D e out so hD ho k=>?_
 ·refine ZQ (show X.A.in1.handled=none from rm.hd) P (by rw[hes,je];omega) λh' tk kk sz=>?_;rw[er];exact hQ h' tk kk sz
 ·obtain⟨pp,vs',h1,h2,h3,h4⟩:=LX (H:=H) so λi hi=>kO.tup _ (mem i hi);have pm:(pp.map λi=>(kc.getD i ([],0)).1).Perm (kb.map dz):=by have:=((LY (d:=(([],0):List Int×ah)) h1 rfl).trans pk).map dz;rwa [ni]at this
  have nd:(pp.map λi=>(kc.getD i ([],0)).1).Nodup:=pm.nodup_iff.mpr P.nd;have rs:eV cJ (pp.map λi=>(kc.getD i ([],0)).1):=by
   refine(h2.and nd).imp λ{a b} ⟨x,y⟩=>?_
   cases q:cJ a b with
   |true=>rfl
   |false=>exact absurd (stoL.tot a b q x) y
  have e1:(pp.map λi=>(kc.getD i ([],0)).1)=dW cJ ks:=YK stoL rs λz=>by rw[pm.mem_iff];refine⟨λh=>?_,λh=>kO.all z h⟩;obtain⟨p,hp,rfl⟩:=cp.mp h;exact kO.frm p hp
  rw[e1]at h4;refine⟨.ref D,_,I.laid (t':=tk) k hD (show ObjOk X.prog X.w _ _ _ (.lst vs') from⟨?_,out,e,h3,ho⟩),rfl,q D vs' (I.hok.fresh hD) h4⟩;rw[h4.len,je];omega
end
def lF:Dv->Option (List Int)
 | .tup xs=>bP iP xs
 |_=>none
def pC (k:List Int):Dv:=.tup (k.map Dv.int)
section
variable{X:Cx}{G:Cfg}{E:XK}{k:Nat}{e a b:bp}{es:List bp}{ma mb:M Dv}{aS:M (List Dv)}{p p2 pos pos2:Pos}
theorem xT {μ:Nat->ah}{n:Nat}{H:Hp}:∀{xs:List Dv}{vs:List V}{ks:List (List Int)},RelDL G μ n H xs vs->bP lF xs=some ks->TupsAre H vs ks
 | [],_,ks,r,e=>by cases e;rw[RelDL]at r;subst r;trivial
 |x::xs,_,ks,r,e=>by
  rw[RelDL]at r;obtain⟨v,rr,rfl,r1,r2⟩:=r;unfold bP at e
  cases x with
  |tup ds=>
   dsimp only[lF]at e
   cases q:bP iP ds with
   |none=>rw[q]at e;cases e
   |some zs=>
    rw[q]at e;dsimp only at e
    cases q2:bP lF xs with
    |none=>rw[q2]at e;cases e
    |some ys=>rw[q2]at e;cases e;rw[RelD]at r1;obtain⟨b,us,rfl,h1,h2⟩:=r1;rw[tN h2 q]at h1;exact⟨⟨b,rfl,h1⟩,xT r2 q2⟩
  |_=>cases e
theorem CG {μ:Nat->ah}{n:Nat}{H:Hp}:∀{vs:List V}{ks:List (List Int)},TupsAre H vs ks->RelDL G μ n H (ks.map pC) vs
 | [],[],_=>RelDL.nil
 | [],_::_,h=>h.elim
 |_::_,[],h=>h.elim
 |v::vs,k::ks,h=>by obtain⟨⟨b,rfl,e⟩,h2⟩:=h;refine RelDL.cons ?_ (CG h2);unfold pC;rw[RelD];exact⟨b,_,rfl,e,pY k⟩
def pD (ks:List (List Int)):Bool:=ks.all λk=>!k.isEmpty
theorem L6 {ks:List (List Int)}(h:pD ks=true):∀k∈ks,k≠[]:=λk hk e=>by have:=fy.mp h k hk;rw[e]at this;cases this
def qQ (x:Dv) (h:Hs):Rs Dv:=match x with
 | .ref i=>match getL h i with
  |some xs=>match bP lF xs with
   |some ks=>if(pD ks&&decide (ks.length<64))=true then .ok (.ref h.length) (h++[.lst ((eI cJ ks).map pC)])else .bad
   |none=>.bad
  |none=>.bad
 |_=>.bad
theorem L7:kC G (λx H Q=>xR [x] H Q) qQ:=by
 intro E μ h H x vx Q s r o
 cases x with
 |ref i=>
  dsimp only[qQ]at o
  cases q:getL h i with
  |none=>rw[q]at o;exact o.elim
  |some xs=>
   rw[q]at o;dsimp only at o
   cases q2:bP lF xs with
   |none=>rw[q2]at o;exact o.elim
   |some ks=>
    rw[q2]at o;dsimp only at o
    split at o
    ·rename_i h0;rw[dm]at h0;obtain⟨vs,e1,r1⟩:=s.ob i _ (cM q);obtain⟨_,rfl⟩:=r;exact⟨_,vs,ks,rfl,e1,xT r1 q2,L6 h0.1,by simpa using h0.2,λl vs' hl ht=>lZ s (CG ht) hl o⟩
    ·exact o.elim
 |_=>exact o.elim
def kQ (x:Dv) (h:Hs):Rs Dv:=match nX x h with
 | .ok d h1=>.ok d h1
 |_=>qQ x h
abbrev L8:List V->Hp->VK->Prop:=λxs H Q=>∃(p:ah) (ns:List Int),xs=[.ref p]/\H p=some (.lst (ns.map V.int))/\ns.length<64/\∀l,H l=none->Q (.ref l) (aQ H l (.lst ((jS ns).map V.int)))
theorem Z3:kC G (λx H Q=>L8 [x] H Q∨xR [x] H Q) kQ:=by
 intro E μ h H x vx Q s r o;unfold kQ at o
 cases q:nX x h with
 |ok d h1=>rw[q]at o;obtain⟨p,ns,e,r1⟩:=YB E μ h H x vx Q s r (by rw[q];exact o);exact .inl ⟨p,ns,by rw[e],r1⟩
 |ex c h1=>rw[q]at o;exact .inr (L7 E μ h H x vx Q s r o)
 |bad=>rw[q]at o;exact .inr (L7 E μ h H x vx Q s r o)
theorem Z4:CallR X (.builtin "sorted") (λxs H Q=>L8 xs H Q∨xR xs H Q):=by
 intro pins s σ H xs us Q I rv h
 rcases h with h|h
 ·exact YA pins s σ H xs us Q I rv h
 ·exact ZZ pins s σ H xs us Q I rv h
theorem L9 (hg:Gl X "sorted") (hm:X.mg "sorted" = none) (ha:dY X G E [e] aS)
  (he:aw [e] X.env=[(false,eval e X.env)]:=by rfl):aK X G E (.Call (.Name "sorted" p) [e] [] pos) (aF (f1 kQ) aS):=
 sN (CallR.imp Z4 λxs H Q ⟨v,h1,h2⟩=>by rw[h1];exact h2) (sP Z3) hg hm JX ha (by decide) (by decide) he rfl
theorem Z5:dv "set" = some (.type "set"):=by decide +kernel
end
open PySem.SeqAt PySem.MeetsSeq PySem.MeetsSeq2 PySem.MeetsSeq3
section
variable{X:Cx}{G:Cfg}{E:XK}{k:Nat}{e a b o:bp}{es:List bp}{mo me ma mb:M Dv}{aS:M (List Dv)}{p p2 pos pos2 apos cpos np:Pos}{y:Str}
theorem Z6 {prog:bj}{w:cm}{A:cj}{Ee:af->ag->Prop}{s:ag}{t sl:ah}{items:Array af}{vl vu:af}{lo hi:Option Int}{Q:af->ag->Prop}(ht:IsTup s.heap t items) (hs:s.heap.IsSliceOf sl vl vu .none) (pl:uz vl lo) (pu:uz vu hi)
  (h0:HT.sIx items.size 0 lo=0) (h1:HT.sIx items.size items.size hi=items.size) (h:Q (.ref t) s):wpAny (model prog w) A (getItem (.ref t) (.ref sl)) Q Ee s:=by
 obtain⟨os,hos,hcs,hds⟩:=id hs;have hTs:s.TypeIs (.ref sl) "slice" := ⟨os,hos,hcs⟩;have tt:=ht.typeIs;obtain⟨ot,et,ct,_⟩:=id ht;unfold getItem
 try with_reducible refine ig ?_
 first|refine ae (aj ?_)|skip
 refine ae (wpAny_sequenceKey tt (by decide) (ae (gv (name:=lr "__getitem__") tt gg (ib gg tt PySem.F.entry_tuple_getitem ?_ (PySem.F.args_tuple_getitem_2 _ _)))));refine ae (m:=slotArgs "__getitem__" 1 ⟨[.ref t,.ref sl],[]⟩) (aj (ae (tupleItemsOf_ ht (ae (qi hTs ?_)))));rw[if_pos (by decide)];refine ae (HT.sliceApplied_gen hs pl pu ?_);rw[h0,h1];show wpAny _ _ (if(((0:Nat):Int)==0&&(1:Int)==1&&(items.size - 0)==items.size)=true then _ else _) _ _ s;rw[if_pos (by simp)];unfold Builtin.Tuple.tupleIsExact;refine ae (ae (qi tt (aj ?_)));rw[if_pos (by decide)];refine ae (uf (aj ⟨_,rfl,aj h⟩))
theorem Z7:SlR X (λx lo hi H Q=>∃a xs,x=.ref a/\SqT X.K H a xs/\HT.sIx xs.length 0 lo=0/\HT.sIx xs.length xs.length hi=xs.length/\Q (.ref a) H):=by
 intro pins s σ H x v vl vu lo hi sl Q I rx hs pl pu ⟨a,xs,ex,hx,h0,h1,q⟩;subst ex;cases rx;obtain⟨its,r,ht,hz⟩:=I.tuple hx;have hlen:its.toArray.size=xs.length:=by rw[av];exact r.length.symm
 exact⟨"tuple",_,gg.lookup,ht.typeIs,Z6 ht hs pl pu (by rw[hlen];exact h0) (by rw[hlen];exact h1) ⟨.ref a,H,I,rfl,q⟩⟩
def xU (x:Dv) (lo hi:Option Int) (h:Hs):Rs Dv:=match x with
 | .ref j=>match getL h j with
  |some xs=>.ok (.ref h.length) (h++[.lst (nQ xs lo hi)])
  |none=>.bad
 | .tup xs=>.ok (.tup (nQ xs lo hi)) h
 |_=>.bad
theorem Z8 {xs:List Dv}{lo hi:Option Int}(h0:HT.sIx xs.length 0 lo=0) (h1:HT.sIx xs.length xs.length hi=xs.length):nQ xs lo hi=xs:=by unfold nQ;rw[h0,h1];simp
def tZ (m:M Dv) (lo hi:MO):M Dv:=λρ h=>(m ρ h).bind λx h1=>(lo ρ h1).bind λl h2=>(hi ρ h2).bind λu h3=>xU x l u h3
theorem Z9 {lo hi:Option bp}{ml mh:MO}(ho:aK X G E o mo) (hl:xA X G E lo ml) (hh:xA X G E hi mh):aK X G E (.Subscript o (.Slice lo hi none p2) pos) (tZ mo ml mh):=λhK=>
 PE.imp (SV (SlR.or (SlR.or TB SY) Z7) (ho hK) (hl hK) (hh hK)) λσ H Q ⟨μ,ρ,h,rs,s,oo⟩=>eR rs s oo λμ1 x h1 vx H1 x1 rs1 s1 r1 o1=>by
  refine⟨μ1,ρ,h1,rs1,s1,(o1.bind (R1:=λ_ _ _ a b=>b=a)).mono λl' H2 ⟨μ2,l,h2,x2,s2,el,o2⟩=>?_⟩;subst el;refine⟨μ2,ρ,h2,rs1.mono x2,s2,(o2.bind (R1:=λ_ _ _ a b=>b=a)).mono λu' H3 ⟨μ3,u,h3,x3,s3,eu,o3⟩=>?_⟩;subst eu;have r3:=RelD.mono (x2.trans x3) _ _ r1
  cases x with
  |ref j=>
   dsimp only[xU]at o3
   cases q:getL h3 j with
   |none=>rw[q]at o3;exact o3.elim
   |some xs=>rw[q]at o3;obtain⟨vs,ea,ra⟩:=s3.ob j _ (cM q);obtain⟨_,rfl⟩:=r3;exact .inl (.inl ⟨_,vs,rfl,SqL.of ea,λp hp=>lZ s3 (JM ra _ _) hp o3⟩)
  |tup xs=>
   dsimp only[xU]at o3;obtain⟨a,vs,rfl,ea,ra⟩:=r3
   by_cases hw:HT.sIx xs.length 0 l'=0/\HT.sIx xs.length xs.length u'=xs.length
   ·refine .inr ⟨a,vs,rfl,SqT.of ea,by rw[ra.length];exact hw.1,by rw[ra.length];exact hw.2,o3 μ3 _ _ Ext.refl s3 ?_⟩;rw[Z8 hw.1 hw.2];exact⟨a,vs,rfl,ea,ra⟩
   ·exact .inl (.inr ⟨a,vs,rfl,SqT.of ea,by rw[ra.length];exact hw,λp hp=>o3 μ3 _ _ (Ext.same (cP hp)) (s3.same (cP hp)) ⟨p,_,rfl,cS,RelDL.mono (Ext.same (cP hp)) _ _ (JM ra _ _)⟩⟩)
  |_=>exact o3.elim
def gM (x y:Dv) (h:Hs):Rs Dv:=match x,y with
 | .int i,.int j=>.ok (.bl (decide (i<j))) h
 | .tup xs,.tup ys=>match bP iP xs,bP iP ys with
  |some ns,some ms=>.ok (.bl (HT.lexLt ns ms)) h
  |_,_=>.bad
 |_,_=>.bad
theorem MA:∀x y:List Int,HT.lexLt x y=cJ x y
 | [],[]=>rfl
 | [],_::_=>rfl
 |_::_,[]=>rfl
 |a::x,b::y=>by
  rw[HT.lexLt_cons,cJ,MA x y]
  by_cases h:a=b <;> simp[h]
theorem MB:fJ G (λx y H Q=>(jJ λi j=>.bl (decide (i<j))) x y H Q∨GO G.K x y H Q) gM:=by
 intro E μ h H x y vx vy Q s rx ry o;unfold gM at o
 split at o
 ·rename_i i j;exact .inl (sJ E μ h H (.int i) (.int j) vx vy Q s rx ry o)
 ·rename_i xs ys
  cases q1:bP iP xs with
  |none=>rw[q1]at o;exact o.elim
  |some ns=>
   cases q2:bP iP ys with
   |none=>rw[q1,q2]at o;exact o.elim
   |some ms=>rw[q1,q2]at o;obtain⟨a,us,rfl,ea,ra⟩:=rx;obtain⟨b,ws,rfl,eb,rb⟩:=ry;exact .inr ⟨a,b,ns,ms,rfl,rfl,SqT.of (by rw[ea,tN ra q1]),SqT.of (by rw[eb,tN rb q2]),o.val s rfl⟩
 ·exact o.elim
theorem MD (g:Good X G E k) (ha:aK X G E a ma) (hb:aK X G E b mb):aK X G E (.Compare a [.Lt] [b] pos) (m2 gM ma mb):=λhK=>pS (OpR.or F3 (GP (by have:=g.room.un;omega))) (by rw[hK];exact MB) ha hb (mY _) hK
theorem ME (g:Good X G E k) (ha:aK X G E a ma) (hb:aK X G E b mb):gE X G E (.Compare a [.Lt] [b] pos) (mB (m2 gM ma mb)):=λhK=>pT (OpR.or F3 (GP (by have:=g.room.un;omega))) (by rw[hK];exact MB) ha hb (mY _) hK
def iK (j:Int):List Int:=(ba j.toNat).map λk:Nat=>(k:Int)
theorem b9:CallR X (.type "range") (λxs H Q=>∃j:Int,xs=[.int j]/\∀l,H l=none->Q (.ref l) (aQ H l (.rng 0 j))):=by intro pins s σ H xs us Q I rv ⟨j,e,q⟩;subst e;obtain⟨u,rfl,ru⟩:=jK rv;obtain⟨t,rfl⟩:=ru;refine call_range_1 ⟨.ref s.heap.objs.size,_,I.laid (t':=s.toks+1+1) (o:=.rng 0 j) (λb ob q=>ak _ q) (ao _) ⟨_,_,_,bg _ rfl⟩,rfl,q _ (I.hok.fresh (ao _))⟩
theorem d3 (rm:Room k X.A):CallR X (.type "list") (λxs H Q=>∃(l:ah) (j:Int),xs=[.ref l]/\H l=some (.rng 0 j)/\0<=j/\j<=1000/\∀D,H D=none->Q (.ref D) (aQ H D (.lst ((iK j).map V.int)))):=by
 intro pins s σ H xs us Q I rv ⟨l,j,e,hl,h0,h1,q⟩;subst e;obtain⟨u,rfl,ru⟩:=jK rv;cases ru;obtain⟨t,u,v,hr⟩:=I.hok l _ hl;refine call_list_range (n:=j.toNat) (a:=0) (b:=j) (c:=1) rm.hd hr (small_one (by omega) (by omega) (by omega) (by omega)) ?_ (by omega) λh' tk acc c ke ho ia=>?_
 ·rw[rangeSize_one]
  split <;> omega
 ·have hv:Vals ((iK j).map V.int) acc.toList:=by
   have:∀(n:Nat) (as:List af),as.length=n->(∀(i:Nat) (v:af),as[i]?=some v->∃t,v=Value.int (0+(i:Int)*1) t)->Vals (((ba n).map λk:Nat=>(k:Int)).map V.int) as:=λn=>by
    induction n with
    |zero=>intro as hl _;rw[Ae.mp hl];exact .nil
    |succ n ih=>
     intro as hl hi;have hne:as≠[]:=λz=>by rw[z]at hl;cases hl
     have e:=List.dropLast_concat_getLast hne;rw[<-e,tj,gr,gr];have hlast:as[n]?=some (as.getLast hne):=by
      rw[List.getLast_eq_getElem,az (by omega)]
      congr 2;omega
     obtain⟨t,ht⟩:=hi n _ hlast;refine Vals.append (ih as.dropLast (by simp[hl]) λi v hv=>hi i v ?_) ?_
     ·rw[List.getElem?_dropLast]at hv
      split at hv
      ·exact hv
      ·cases hv
     ·refine .cons ?_ .nil;show RelV (.int (n:Int)) _;rw[ht];exact⟨t,by simp⟩
   refine this j.toNat acc.toList (by simpa using ia.1) λi v hv=>?_;exact ia.2 i v (by simpa using hv)
  refine⟨.ref s.heap.objs.size,_,I.laid (t':=tk) ke (ao _) (show ObjOk X.prog X.w _ _ _ (.lst ((iK j).map V.int)) from⟨?_,acc.toList,c,hv, ?_⟩),rfl,q _ (I.hok.fresh (ao _))⟩
  ·rw[bh,iK,bh,km,je];omega
  ·rw[ho]
def qR:Dv->Hs->Rs Dv
 | .int j,h=>if(decide (0<=j)&&decide (j<=1000))=true then .ok (.ref h.length) (h++[.lst ((iK j).map Dv.int)])else .bad
 |_,_=>.bad
theorem d4 (g:Good X G E k) (hg:Gl X "list") (hm:X.mg "list" = none) (hg2:Gl X "range") (hm2:X.mg "range" = none) (ha:dY X G E [e] aS)
  (he:aw [e] X.env=[(false,eval e X.env)]:=by rfl) (he2:aw [Expr.Call (.Name "range" p2) [e] [] pos2] X.env=[(false,eval (.Call (.Name "range" p2) [e] [] pos2) X.env)]:=by rfl):
  aK X G E (.Call (.Name "list" p) [.Call (.Name "range" p2) [e] [] pos2] [] pos) (aF (f1 qR) aS):=λhK=>
 PE.imp (vG (d3 g.room) hg hm wC (iA (vG b9 hg2 hm2 boot_range (ha hK) (by decide) (by decide) he rfl) jL he2) (by decide) (by decide) he2 rfl) λσ H Q ⟨μ,ρ,h,rs,s,o⟩=>by
  refine kB rs s o λμ1 ds h1 vs H1 x1 rs1 s1 r1 o1=>?_;unfold f1 at o1
  split at o1
  ·rename_i d;obtain⟨v,rfl,rv⟩:=sO r1
   cases d with
   |int j=>
    dsimp only[qR]at o1
    split at o1
    ·rename_i h0;rw[dm]at h0;have j0:0<=j:=by simpa using h0.1
     have j1:j<=1000:=by simpa using h0.2
     rw[RelD]at rv;subst rv;refine⟨j,rfl,λl hl=>?_⟩;have sm:=cP (o:=.rng 0 j) hl;refine⟨l,j,rfl,cS,j0,j1,λD hD=>?_⟩;exact lZ (E:=E) (s1.same sm) (pY _) hD (λμ' H' v x'=>o1 μ' H' v ((Ext.same sm).trans x'))
    ·exact o1.elim
   |_=>exact o1.elim
  ·exact o1.elim
end
section
variable{mo me:M Dv}{ml mh:MO}
end
section
variable{X:Cx}{G:Cfg}{E:XK}{k:Nat}{e a b o:bp}{es:List bp}{mo me ma mb:M Dv}{aS:M (List Dv)}{p p2 pos pos2 apos cpos np:Pos}{y:Str}
theorem sub_tuple:isSubtype (.type "tuple") (.type "set")=pure false/\isSubtype (.type "tuple") (.type "frozenset")=pure false:=by constructor <;> (rw[isSubtype_type];kernel_rfl)
abbrev MF (X:Cx):List V->Hp->VK->Prop:=λxs H Q=>∃(p:ah) (vs:List V) (ks:List (List Int)),xs=[.ref p]/\H p=some (.tup vs)/\TupsAre H vs ks/\(dW cJ ks).length<=76/\∀l o kb,H l=none->xS X.prog X.w l o kb->KbOk H kb ks->Q (.ref l) (aQ H l (.frz o (.own 0)))
theorem d6 (rm:Room k X.A):CallR X (.type "set") (MF X):=by
 intro pins s σ H xs us Q I rv ⟨p,vs,ks,e,hp,ht,hU,q⟩;subst e;obtain⟨u,rfl,ru⟩:=jK rv;cases ru;obtain⟨its,rits,pl,hz⟩:=I.tuple (SqT.of hp);have hits:=CF ht rits;have lp:=I.hok.lt hp;have hI:s.heap.IsTuple p (bT ks.length (eW vs)).toArray:=by rw[<-hits];exact pl
 have hsz:(bT ks.length (eW vs)).toArray.size=ks.length:=by rw[av,jV]
 have hne:p≠s.heap.objs.size+1:=ay (kr lp);have hb:(s.heap.push (bare X.w)).IsTuple p (bT ks.length (eW vs)).toArray:=IsTup.push (items:=(bT ks.length (eW vs)).toArray) hI _;have hs1:(s.heap.push (bare X.w)).objs.size=s.heap.objs.size+1:=Aw _ _;have W:=Walks.tuple (prog:=X.prog) (w:=X.w) (A:=X.A.in1.in1.in1) (show X.A.in1.in1.in1.handled=none from rm.hd) (s.heap.objs.size+1) p hne (bT ks.length (eW vs)).toArray;rw[hsz]at W;refine LV (T := "tuple") (it:={ cls:=.type "tuple_iterator",data:=.fields #[.ref p,.int 0 0] }) (eW vs) (λi=>ks.getD i []) (dW cJ ks) (by have:=rm.un;omega) hI.typeIs sub_tuple.1 sub_tuple.2 (by decide) (λB Q' E' hQ=>?_) W (λm=>?_) (λb hb=>?_) ⟨⟨{ cls:=.type "tuple_iterator",data:=.fields #[.ref p,.int 0 0] }, ?_,rfl,rfl⟩,IsTup.push (items:=(bT ks.length (eW vs)).toArray) hb _⟩ (λi v hv=>?_) hU (λi hi=>?_) (λj hj=>xQ I (ht.at_ hj).2) λh' tk kb hS hup k=>?_
 ·refine qr hb ?_;rw[<-hs1]at hQ;exact hQ
 ·rcases bf.mp m with z|m
  ·exact rp _ z.symm
  ·exact ji lp (dh.mp m)
 ·rw[dh.mp hb];exact jy _
 ·rw[<-hs1];exact bg _ rfl
 ·have hi:i<ks.length:=by have:=(dj.mp hv).1;rwa [hsz]at this
  have:(bT ks.length (eW vs))[i]?=some (.ref (eW vs i)):=by simp[bT,hi]
  rw[Ay,this]at hv;exact(cf hv).symm
 ·refine(mO stoL _ _).mpr ?_;show ks.getD i []∈ks;simp[hi]
 ·obtain⟨o,es,ep,t,P⟩:=hS;refine⟨.ref s.heap.objs.size,_,I.laid (t':=tk) (o:=.frz o (.own 0)) k (ao _) ⟨P.obj,o,P.obj⟩,rfl,q _ o kb (I.hok.fresh (ao _)) ⟨es,ep,t,λh e=>P.at' e⟩ ⟨λz hz=>?_,λz hz=>?_,λz hz=>?_⟩⟩
  ·obtain⟨j,hj,rfl⟩:=hup.from_ z hz;exact(ht.at_ hj).2
  ·obtain⟨j,hj,rfl⟩:=hup.from_ z hz;show ks.getD j []∈ks;simp[hj]
  ·obtain⟨j,hj,rfl⟩:=jg hz;have:=hup.all j hj;simpa[hj]using this
theorem d7 (rm:Room k X.A):CallR X (.type "set") (λxs H Q=>LZ X xs H Q∨MF X xs H Q):=by
 intro pins s σ H xs us Q I rv h
 rcases h with h|h
 ·exact Z0 rm pins s σ H xs us Q I rv h
 ·exact d6 rm pins s σ H xs us Q I rv h
def pE (x:Dv) (h:Hs):Option (List (List Int)):=match x with
 | .ref i=>match getL h i with
  |some xs=>bP lF xs
  |none=>none
 | .tup xs=>bP lF xs
 |_=>none
def lG (x:Dv) (h:Hs):Rs Dv:=match pE x h with
 |some ks=>if(pD ks&&decide ((dW cJ ks).length<64))=true then .ok (.ref h.length) (h++[.lst ((dW cJ ks).map pC)])else .bad
 |none=>.bad
theorem MG (g:Good X G E k) (hg:Gl X "sorted") (hm:X.mg "sorted" = none) (hg2:Gl X "set") (hm2:X.mg "set" = none) (ha:dY X G E [e] aS)
  (he:aw [e] X.env=[(false,eval e X.env)]:=by rfl) (he2:aw [Expr.Call (.Name "set" p2) [e] [] pos2] X.env=[(false,eval (.Call (.Name "set" p2) [e] [] pos2) X.env)]:=by rfl):
  aK X G E (.Call (.Name "sorted" p) [.Call (.Name "set" p2) [e] [] pos2] [] pos) (aF (f1 lG) aS):=λhK=>
 PE.imp (rW (Z2 g.room) hg hm JX (iA (vG (d7 g.room) hg2 hm2 Z5 (ha hK) (by decide) (by decide) he rfl) jL he2) (by decide) (by decide) he2 rfl) λσ H Q ⟨μ,ρ,h,rs,s,o⟩=>by
  refine kB rs s o λμ1 ds h1 vs H1 x1 rs1 s1 r1 o1=>?_;unfold f1 at o1
  split at o1
  ·rename_i d;obtain⟨v,rfl,rv⟩:=sO r1;unfold lG at o1
   cases q:pE d h1 with
   |none=>rw[q]at o1;exact o1.elim
   |some ks=>
    rw[q]at o1;dsimp only at o1
    split at o1
    ·rename_i h0;rw[dm]at h0;have h64:(dW cJ ks).length<64:=by simpa using h0.2
     have fin:∀(l:ah) (o:Obj) (kb:KB),H1 l=none->xS X.prog X.w l o kb->KbOk H1 kb ks->L0 X [.ref l] (aQ H1 l (.frz o (.own 0))) Q:=λl o kb hl so ko=>by have sm:=cP (o:=.frz o (.own 0)) hl;refine⟨l,o,kb,ks,rfl,cS,so,⟨λp hp=>sm _ _ (ko.tup p hp),ko.frm,ko.all⟩,L6 h0.1,h64,λD vs' hD ht=>?_⟩;exact lZ (E:=E) (s1.same sm) (CG ht) hD (λμ' H' v x'=>o1 μ' H' v ((Ext.same sm).trans x'))
     cases d with
     |ref i=>
      dsimp only[pE]at q
      cases q1:getL h1 i with
      |none=>rw[q1]at q;cases q
      |some xs=>rw[q1]at q;obtain⟨vs,e1,r2⟩:=s1.ob i _ (cM q1);obtain⟨_,rfl⟩:=rv;exact .inl ⟨_,vs,ks,rfl,e1,xT r2 q,by omega,fin⟩
     |tup xs=>obtain⟨a,vs,rfl,e1,r2⟩:=rv;exact .inr ⟨_,vs,ks,rfl,e1,xT r2 q,by omega,fin⟩
     |_=>cases q
    ·exact o1.elim
  ·exact o1.elim
end
theorem MH {α β:Type}{f g:α->Option β}:∀l:List α,(∀x∈l,f x=g x)->l.filterMap f=l.filterMap g
 | [],_=>rfl
 |x::l,h=>by rw[bu,bu,h x (by simp),MH l λy hy=>h y (by simp[hy])]
section
variable{X:Cx}{G:Cfg}{E:XK}{o:bp}{mo:M Dv}{ms:MO}{se:bp}{p2 pos:Pos}
end
end L2.Mr
namespace L2.Mr.Com
open PySem PySem.Spec PyProof.Rows L2 L2.Mr
def CH:MS:=(aR (dM (m1 (bC qK) (aB 0)) (m1 pV (m1 (bC mJ) (aB 0)))))
def F_q0:List Dv->Hs->Rs Dv:=aV 1 1 (CH)
def xV:MS:=(aR (dM (aF F_q0 (aA (aB 0) aC)) (pU qH qH (aB 1) (aB 0) (aB 2))))
def F_qn:List Dv->Hs->Rs Dv:=aV 3 3 (xV)
def MI:MS:=(aR (mL jP (bL (aS qF (aA (aB 0) (aA (tZ (aB 0) (tI (mC (.int 1))) tH) aC))) [none,none] (cG 2 (aY (aE 0) (aY (aE 1) cI))) cU (bB (m2 gM (aB 0) (aB 1))))))
def F_qw:List Dv->Hs->Rs Dv:=aV 1 1 (MI)
def CI:MS:=(aR (aF F_qn (aA (aB 1) (aA (mC (.int 0)) (aA (m2 mI (aB 0) (mC (.int 1))) aC)))))
def F_qz:List Dv->Hs->Rs Dv:=aV 2 2 (CI)
def xW:MS:=(aR (dM (m1 (bC gJ) (aB 1)) (mL jP (bL (bO dS (aB 1)) [none,some 0] (aE 0) cU (bB (aF F_qz (aA (aB 1) (aA (aB 0) aC))))))))
def F_qm:List Dv->Hs->Rs Dv:=aV 2 2 (xW)
def qS:MS:=(aR (dM (aF F_qm (aA (aB 0) (aA (aB 1) aC))) (m2 bW (aF (f1 fK) (aA (aB 1) aC)) (mC (.int 2)))))
def F_q1:List Dv->Hs->Rs Dv:=aV 2 2 (qS)
def CJ:MS:=(aR (mL jP (bL (bO dS (aB 1)) [none,some 0] (aE 0) cU (bB (aF F_q1 (aA (aB 1) (aA (aB 0) aC)))))))
def F_qu:List Dv->Hs->Rs Dv:=aV 2 2 (CJ)
def MJ:MS:=(aR (mL sW (bL (bO dS (aB 0)) [none,none] (cG 2 (aY (aE 0) (aY (aE 1) cI))) cU (bB (m2 bW (aB 0) (aB 1))))))
def F_qv:List Dv->Hs->Rs Dv:=aV 1 1 (MJ)
def MK:MS:=(aR (mL jP (bL (bO dS (aB 0)) [none,none,none,none,some 0] (cG 2 (aY (aE 0) (aY (aE 1) cI))) cU (kE (bO dS (aB 4)) (cG 2 (aY (aE 2) (aY (aE 3) cI))) (mB (m2 bW (aB 1) (aB 2))) (bB (m2 (dR false) (aL (aA (aB 0) (aA (aB 3) aC))) (aB 4)))))))
def F_qg:List Dv->Hs->Rs Dv:=aV 1 1 (MK)
def pF:MS:=(aJ (bE (iL (cF (bD (m1 (bC gJ) (aB 0)))) (mB (m2 cB (aF (f1 fK) (aA (aB 0) aC)) (mC (.int 2))))) (aR (mC (.bl false))) bQ) (aJ (aM (aB 0) (cG 2 (aY (aE 1) (aY (aE 2) cI)))) (aJ (bE (iL (cF (bD (aF F_qn (aA (aB 1) (aA (mC (.int 1)) (aA (mC (.int 6)) aC)))))) (cF (bD (m1 (bC gJ) (aB 2))))) (aR (mC (.bl false))) bQ) (aJ (bE (iL (cF (bD (aF F_qu (aA (aB 1) (aA (aB 2) aC))))) (cF (bD (aF F_qw (aA (aB 2) aC))))) (aR (mC (.bl false))) bQ) (aR (dM (m1 pV (aF F_qv (aA (aB 2) aC))) (aF F_qg (aA (aB 2) aC))))))))
def F_qy:List Dv->Hs->Rs Dv:=aV 1 3 (pF)
def xX (scr:List Int):MS:=(aJ (bE (mB (m2 gM (aB 1) (aF (f1 (iC scr)) (aA (aB 0) aC)))) (aR (m2 (gG scr) (aB 0) (aB 1))) bQ) (aR (mC (.int 0))))
def F_qd (scr:List Int):List Dv->Hs->Rs Dv:=aV 2 2 (xX scr)
def xY (scr:List Int):MS:=(aJ (aM (aF (F_qd scr) (aA (aB 0) (aA (aB 1) aC))) (aE 2)) (aJ (bE (mB (m2 xC (aB 2) (m2 oW (mC (.int 10)) (mC (.int 18))))) (aR (aU (aA (m2 mI (aB 2) (m2 oW (mC (.int 10)) (mC (.int 18)))) (aA (mC (.bl true)) aC)))) bQ) (aR (aU (aA (m2 lA (aB 2) (mC (.int 2147483647))) (aA (mC (.bl false)) aC))))))
def F_ql (scr:List Int):List Dv->Hs->Rs Dv:=aV 2 3 (xY scr)
def CK:MS:=(aJ (bE (bD (m2 aT (aB 0) (mC (.int 1)))) (aJ (aM (m2 lA (m2 aT (aB 0) (mC (.int 0))) (aB 1)) (aE 2)) (aJ (sY (aB 0) (mC (.int 0)) (m2 tP (m2 aT (aB 0) (mC (.int 0))) (aB 1))) (aR (aB 2)))) bQ) (aJ (sY (aB 0) (mC (.int 0)) (m2 lA (m2 bX (m2 oV (m2 aT (aB 0) (mC (.int 0))) (mC (.int 48271))) (mC (.int 29))) (mC (.int 2147483647)))) (aJ (aM (m2 lA (m2 bX (m2 bX (m2 oV (m2 aT (aB 0) (mC (.int 0))) (m2 aT (aB 0) (mC (.int 0)))) (m2 oV (mC (.int 39373)) (m2 aT (aB 0) (mC (.int 0))))) (mC (.int 7))) (mC (.int 2147483629))) (aE 3)) (aJ (aM (m2 lA (m2 bX (m2 oV (aB 3) (aB 3)) (m2 oV (mC (.int 16807)) (aB 3))) (mC (.int 2147483587))) (aE 3)) (aR (m2 lA (m2 tP (aB 3) (mC (.int 8))) (aB 1)))))))
def F_qs:List Dv->Hs->Rs Dv:=aV 2 4 (CK)
def CL:MS:=(aJ (aM (aF (f1 kK) (aA (aB 1) aC)) (aE 2)) (aJ (aM (aU aC) (aE 3)) (aJ (iI (mB (m2 cB (aB 2) (aU aC))) (bG (cO (aB 3) (tG (aB 2) (aF F_qs (aA (aB 0) (aA (aF (f1 fK) (aA (aB 2) aC)) aC)))))) 40) (aR (aB 3)))))
def F_qc:List Dv->Hs->Rs Dv:=aV 2 4 (CL)
def iS:MS:=(aJ (aM (aF (f1 lG) (aA (aB 0) aC)) (aE 1)) (iI (bD (mC (.bl true))) (aJ (aM (aF (f1 kK) (aA (aB 1) aC)) (aE 2)) (aJ (dN (bO dD (aB 1)) (cG 2 (aY (aE 3) (aY (aE 4) cI))) (bG (oU (aB 2) (bL (bO dD (aB 1)) [none,none,some 3,some 4] (cG 2 (aY (aE 0) (aY (aE 1) cI))) (mB (m2 bW (aB 3) (aB 0))) (bB (aL (aA (aB 2) (aA (aB 1) aC)))))))) (aJ (aM (aF (f1 lG) (aA (aB 2) aC)) (aE 2)) (aJ (bE (mB (m2 bW (aB 2) (aB 1))) (aR (aB 1)) bQ) (aM (aB 2) (aE 1)))))) 40))
def F_qf:List Dv->Hs->Rs Dv:=aV 1 5 (iS)
def iT:MS:=(aJ (aM (m2 mI (aB 1) (m2 aT (aU (aA (mC (.int 0)) (aA (mC (.int 0)) (aA (mC (.int 1)) (aA (mC (.int 2)) (aA (mC (.int 0)) (aA (mC (.int 3)) (aA (mC (.int 1)) (aA (mC (.int 4)) aC))))))))) (aF F_qs (aA (aB 0) (aA (mC (.int 8)) aC))))) (aE 2)) (aJ (aM (aF mE (aA (mC (.int 1)) (aA (aB 2) aC))) (aE 2)) (aJ (aM (aF F_qc (aA (aB 0) (aA (aF (f1 qR) (aA (aB 2) aC)) aC))) (aE 3)) (aJ (aM (aF F_qs (aA (aB 0) (aA (mC (.int 5)) aC))) (aE 4)) (aJ (aM (aU aC) (aE 5)) (aJ (aM (bR (bL (bO dD (aB 3)) [none,some 0] (aE 0) cU (bB (aF F_qs (aA (aB 1) (aA (mC (.int 3)) aC)))))) (aE 6)) (aJ (dN (aS cN (aA (aB 2) aC)) (aE 7) (dN (aS gR (aA (m2 bX (aB 7) (mC (.int 1))) (aA (aB 2) aC))) (aE 8) (aJ (aM (aU (aA (m2 bW (aF F_qs (aA (aB 0) (aA (mC (.int 6)) aC))) (mC (.int 0))) (aA (m2 bW (aF F_qs (aA (aB 0) (aA (mC (.int 2)) aC))) (mC (.int 0))) (aA (m2 xB (aF F_qs (aA (aB 0) (aA (mC (.int 4)) aC))) (mC (.int 0))) aC)))) (aE 9)) (aJ (aM (m2 bX (aB 9) (aU (aA (m2 gM (m2 aT (aB 6) (aB 7)) (m2 aT (aB 6) (aB 8))) (aA (m2 bW (m2 aT (aB 6) (aB 7)) (m2 aT (aB 6) (aB 8))) aC)))) (aE 9)) (bE (bD (m2 aT (aB 9) (aB 4))) (bG (cO (aB 5) (aL (aA (m2 aT (aB 3) (aB 7)) (aA (m2 aT (aB 3) (aB 8)) aC))))) bQ))))) (aJ (bE (mB (m2 bW (aB 4) (mC (.int 3)))) (aJ (aM (aU aC) (aE 5)) (dN (aS cN (aA (aB 2) aC)) (aE 7) (aM (m2 bX (aB 5) (bR (bL (aS cN (aA (aB 2) aC)) [none,some 7,some 6] (aE 0) (mB (m2 gM (m2 aT (aB 2) (aB 1)) (m2 aT (aB 2) (aB 0)))) (bB (aL (aA (aB 1) (aA (aB 0) aC))))))) (aE 5)))) bQ) (aR (aL (aA (aB 2) (aA (aF (f1 hJ) (aA (aF F_qf (aA (aB 5) aC)) aC)) aC))))))))))))
def F_qj:List Dv->Hs->Rs Dv:=aV 2 10 (iT)
def iU:MS:=(aJ (aM (aU (aA (mC .non) (aA (mC (.int 0)) (aA (aL aC) (aA (aL (aA (mC (.int 0)) (aA (aL aC) aC))) (aA (aL (aA (mC (.int 7)) (aA (aL aC) aC))) (aA (aL (aA (mC (.bl true)) (aA (aL aC) aC))) (aA (aL (aA (mC (.int 2)) (aA (aU aC) aC))) (aA (aU (aA (mC (.int 2)) (aA (aL aC) aC))) (aA (aL (aA (mC (.int 2)) (aA (aL (aA (aL (aA (mC (.int 0)) (aA (mC (.int 1)) aC))) (aA (aL (aA (mC (.int 0)) (aA (mC (.int 1)) aC))) aC))) aC))) (aA (aL (aA (mC (.int 2)) (aA (aL (aA (aL (aA (mC (.int 1)) (aA (mC (.int 0)) aC))) (aA (aL (aA (mC (.int 0)) (aA (mC (.int 1)) aC))) aC))) aC))) aC))))))))))) (aE 1)) (aJ (aM (m2 bX (aB 1) (aU (aA (aL (aA (mC (.int 3)) (aA (aL (aA (aL (aA (mC (.int 0)) (aA (mC (.int 1)) aC))) (aA (aL (aA (mC (.int 1)) (aA (mC (.int 2)) aC))) aC))) aC))) (aA (aL (aA (mC (.int 2)) (aA (aL (aA (aL (aA (mC (.int 0)) (aA (mC (.int 0)) aC))) aC)) aC))) (aA (aL (aA (mC (.int 2)) (aA (aL (aA (aL (aA (mC (.int 0)) (aA (mC (.int 2)) aC))) aC)) aC))) (aA (aL (aA (mC (.int 2)) (aA (aL (aA (aL (aA (mC (.int 0)) (aA (mC (.bl true)) aC))) aC)) aC))) (aA (aL (aA (mC (.int 2)) (aA (aL (aA (aL (aA (mC (.int 0)) (aA (mC (.int 1)) (aA (mC (.int 1)) aC)))) aC)) aC))) (aA (mC .edc) aC)))))))) (aE 1)) (aJ (aM (m2 bX (aB 1) (aU (aA (mC (.str "2:")) (aA (aL (aA (mC (.int 2)) (aA (aL (aA (mC (.int 0)) (aA (mC (.int 1)) aC))) aC))) (aA (aL (aA (mC (.int 3)) (aA (aL (aA (aL (aA (mC (.int 0)) (aA (mC (.int 2)) aC))) (aA (aL (aA (mC (.int 0)) (aA (mC (.int 1)) aC))) aC))) aC))) (aA (aL (aA (mC (.int 2)) (aA (mC .non) aC))) (aA (aL (aA (mC (.int 2)) (aA (aL aC) (aA (aL aC) aC)))) (aA (aL (aA (mC (.int 2)) aC)) (aA (aL (aA (mC (.int 2)) (aA (aL (aA (aU (aA (mC (.int 0)) (aA (mC (.int 1)) aC))) aC)) aC))) (aA (aL (aA (mC (.int 2)) (aA (aL (aA (mC .non) aC)) aC))) aC)))))))))) (aE 1)) (aR (m2 aT (aB 1) (aF F_qs (aA (aB 0) (aA (mC (.int 24)) aC))))))))
def F_qb:List Dv->Hs->Rs Dv:=aV 1 2 (iU)
end L2.Mr.Com
namespace L2.Mr
open PySem PySem.Spec PyProof.Rows
structure Lm where
 Nl:List Str
 par:jw
 bod:bp
 scp:fq
 caps:List Nat
 me:M Dv
def LamFn (G:Cf0) (env:Env) (L:Lm) (H:Hp) (a:ah):Prop:=∃c' pm ctv oc,H a=some (.frz (jz "<lambda>" G.lq L.par L.bod L.scp (cW env L.scp.names []) pm c' ctv) (.own 0))/\H c'=some (.frz oc (.own 0))/\vU G.lq oc
theorem LamFn.keep {G:Cf0}{env:Env}{L:Lm}{H H':Hp}{a:ah}(h:LamFn G env L H a) (k:∀a o,vT o->H a=some o->H' a=some o):LamFn G env L H' a:=by obtain⟨c',pm,ctv,oc,h1,h2,h3⟩:=h;exact⟨c',pm,ctv,oc,k _ _ trivial h1,k _ _ trivial h2,h3⟩
def eJ (k t:Nat):M Dv:=λ_ h=>if t<=h.length then .ok (.ref h.length) (h++[.clo k t])else .bad
section
variable{X:Cx}{G:Cfg}{E:XK}{c P:ah}{lpos:Pos}{k t:Nat}
theorem d8 (L:Lm) (hdef:defaultsOf L.par X.env=([],[])) (hq:X.env.qual ++ "<lambda>" = G.lq) (hP:G.tab=some P) (hcode:X.env.code=.ref c) (hC:jv X.base c P) (hB:kG X.mg X.base)
  (LS:LamScope L.Nl L.scp) (hkind:∀y∈L.Nl,X.env.scope.names.lookup y=some .cell) (hG:∀μ n H a,LamFn G X.env L H a->G.clo μ n H k t a):
  aK X G E (.Lambda L.par L.bod L.scp lpos) (eJ k t):=λhK=>by
 have hfree:∀y,(y,bz)∈L.scp.names->X.env.kindOf y=some .cell∨X.env.kindOf y=some .free:=λy hy=>.inl (hkind y (LS.all _ hy rfl));refine PE.imp (W0 (G:=G) (lpos:=lpos) (body:=L.bod) hdef hq hP hcode hC hB hfree) λσ H Q ⟨μ,ρ,h,rs,sm,o⟩=>⟨sm.tab,λf c' pm ctv oc H1 hf st tb e1 e2 e3=>?_⟩
 unfold eJ at o
 split at o
 ·rename_i ht;have hl:(h++[Ob.clo k t]).length=h.length+1:=by simp
  have hne:=sm.not hf;have x:Ext μ h.length H (λi=>if i=h.length then f else μ i) (h++[Ob.clo k t]).length H1:=⟨by omega,λi hi=>if_neg (ay hi),λa u im z=>st a u (λps w=>by subst w;exact im) z⟩
  refine o _ H1 (.ref f) x ⟨λi j hi hj e=>?_,λi ob q=>?_,tb⟩ ⟨by omega,by show V.ref f=V.ref (if h.length=h.length then f else μ h.length);rw[if_pos rfl]⟩
  ·rw[hl]at hi hj
   by_cases h1:i=h.length <;> by_cases h2:j=h.length
   ·omega
   ·rw[if_pos h1,if_neg h2]at e;exact absurd e.symm (hne j (by omega))
   ·rw[if_neg h1,if_pos h2]at e;exact absurd e (hne i (by omega))
   ·rw[if_neg h1,if_neg h2]at e;exact sm.inj i j (by omega) (by omega) e
  ·by_cases h1:i<h.length
   ·rw[du h1]at q;have r1:=sm.ob i ob q;rw[if_neg (ay h1)]
    cases ob with
    |lst xs=>obtain⟨ws,z1,z2⟩:=r1;exact⟨ws,st _ _ (λ_ w=>by cases w) z1,RelDL.mono x _ _ z2⟩
    |clo k t=>exact r1.clo x
   ·rw[fh (by omega)]at q;have h2:i=h.length:=by have:=(bc.mp q).1;simp at this;omega
    subst h2;simp at q;subst q;rw[if_pos rfl];exact⟨by omega,⟨_,_,e1⟩,hG _ _ _ _ ⟨c',pm,ctv,oc,e1,e2,e3⟩⟩
 ·exact o.elim
end
def Cfg.wf (G:Cfg) (env:Env) (t0:Nat) (ls:Nat->Option Lm):Cfg:=
 { G with
  clo:=λμ n H k t a=>G.clo μ n H k t a/\∀L,ls k=some L->t=t0->LamFn G env L H a
  cloM:=λx ⟨h1,h2⟩=>⟨G.cloM x h1,λL e1 e2=>(h2 L e1 e2).keep x.im⟩ }
section
variable{G:Cfg}{env:Env}{t0:Nat}{ls:Nat->Option Lm}{μ:Nat->ah}{h:Hs}{H:Hp}
theorem Sim.wf (s:Sim G μ h H):Sim (G.wf env h.length ls) μ h H:=⟨s.inj,λi o q=>by
 have r:=s.ob i o q
 cases o with
 |lst xs=>exact r
 |clo k t=>obtain⟨h1,h2,h3⟩:=r;exact⟨h1,h2,h3,λL _ e=>absurd e (ay h1)⟩,s.tab⟩
theorem Sim.unwf (s:Sim (G.wf env t0 ls) μ h H):Sim G μ h H:=⟨s.inj,λi o q=>by
 have r:=s.ob i o q
 cases o with
 |lst xs=>exact r
 |clo k t=>obtain⟨h1,h2,h3,_⟩:=r;exact⟨h1,h2,h3⟩,s.tab⟩
end
def uA (p n:Nat) (mb:Nat->MS):List Dv->Hs->Rs Dv:=λds h=>if ds.length=p then bK (mb h.length (bH n ds) h)else .bad
section
variable{P:bj}{w:cm}{K:aq}{mg:Str->Option af}{base:cq}{N:List Str}{f:ah}{G:Cfg}{k:Nat}{ls:Nat->Option Lm}
theorem d9 {x qual:Str}{st:gy}{fd:bq}{ps:List Str}{mb:Nat->MS}(Fn:Fun K x qual st f fd) (S:FnScope N ps (aO st)) (hK:K=G.K)
  (hbody:∀(cdv:af) (A:cj) (outer:List Env) (s:ag) (H:Hp) (E₀ E:XK) (t:Nat),fd.code=cdv->Good (eQ (aZ P w base) P w K mg base N qual (aO st) f cdv A outer s H E₀) (G.wf (eQ (aZ P w base) P w K mg base N qual (aO st) f cdv A outer s H E₀).env t ls) E k->
   iN (eQ (aZ P w base) P w K mg base N qual (aO st) f cdv A outer s H E₀) (G.wf (eQ (aZ P w base) P w K mg base N qual (aO st) f cdv A outer s H E₀).env t ls) E (eZ st) (mb t)):
  FnOk P w K mg base (aZ P w base) (k+1) f fd ps (cH G (uA ps.length N.length mb)):=by
 obtain⟨oc,od,kV,doc,pm,an,cdv,ct,osl,rfl,lk,hcd⟩:=Fn.ex;have hlen:∀vs H Q E,cH G (uA ps.length N.length mb) vs H Q E->vs.length=ps.length:=λvs H Q E ⟨μ,h,ds,r,sm,o⟩=>by
  rw[r.length];unfold uA at o
  by_cases hd:ds.length=ps.length
  ·exact hd
  ·rw[if_neg hd]at o;exact o.elim
 refine vE lk hcd S hlen λA outer s H vs Q E hr hsp=>?_;have hl:=hlen _ _ _ _ hsp;obtain⟨μ,h,ds,r,sm,o⟩:=hsp;have o':Out G E μ h.length H (bK (mb h.length (bH N.length ds) h)) (RelD G) Q:=by unfold uA at o;rw[if_pos (by rw[<-r.length];exact hl)]at o;exact o
 generalize hX:(eQ (aZ P w base) P w K mg base N qual (aO st) f cdv A outer s H E).env=env;have hb:=hbody cdv A outer s H E (EB (G.wf env h.length ls) μ h.length H (mb h.length (bH N.length ds) h)) h.length rfl;rw[hX]at hb;refine⟨_,hb (wK hr hK (λu H' ⟨c,h',μ',er,x,s',fl⟩=>?_) wM) hK, ?_⟩
 ·rw[er]at o';exact o' μ' H' u x s'.unwf fl
 ·refine⟨μ,bH N.length ds,h,⟨(wL (G:=G) r N).len,(wL (G:=G) r N).at_⟩,sm.wf, ?_⟩
  cases q:mb h.length (bH N.length ds) h with
  |bad=>rw[q]at o';exact o'.elim
  |bk ρ h'=>rw[q]at o';exact o'.elim
  |ct ρ h'=>rw[q]at o';exact o'.elim
  |rt d h'=>rw[q]at o';exact λμ' H' v x' s' r'=>o' μ' H' v x' s'.unwf r'
  |nx ρ h'=>rw[q]at o';exact λμ' H' σ' x' s' rs'=>o' μ' H' .non x' s'.unwf rfl
  |ex c h'=>exact λμ' H' u x' s' fl=>⟨c,h',μ',rfl,x',s',fl⟩
end
def fW (h:Hs) (j:Nat):Option (Nat×Nat):=match h[j]? with
 |some (.clo k t)=>some (k,t)
 |_=>none
def kR (lc:Nat->Option (List Nat×M Dv)) (t n ncl:Nat) (mb:MS) (ρ:Ev):M Dv:=λρb h=>match (ρb[0]?:Option (Option Dv))with
 |some (some (Dv.ref j))=>(match fW h j with
  |some (k,t')=>if t'=t then(match lc k with
   |some (caps,me)=>(match nL caps ρ with
    |some ds=>tE n ncl mb (me (ds.map some) h)
    |none=>.bad)
   |none=>.bad)else .bad
  |none=>.bad)
 |_=>.bad
def nZ (mi:M Src) (lc:Nat->Option (List Nat×M Dv)) (t n ncl:Nat) (mb:MS):M (List Dv):=λρ h=>bL mi [none] (aE 0) cU (bB (kR lc t n ncl mb ρ)) ρ h
def CM (G:Cfg) (ρ:Ev) (σ:St) (me:M Dv):TE:=λσb H Q=>∃μ ρb h,RelS G μ h.length H ρ σ/\RelS G μ h.length H ρb σb/\Sim G μ h H/\Out G L2.E0 μ h.length H (me ρb h) (RelD G) Q
section
variable{G:Cfg}
theorem h8 {src:Src}{st:cY}{me:M Dv}{ti:TC}{J:It}{μ1:Nat->ah}{h1:Hs}{H1:Hp}{ρ:Ev}{σ:St}{ρb ρ':Ev}{σb:St}{xs xs':List Dv}{vs:List V}{h':Hs}{K:St->Hp->List V->Prop}
  (hti:∀σb H vs K,vO (CM G ρ σ me) σb H vs K->ti σb H vs K)
  (ok:ItOk G μ1 h1.length H1 src J) (ro:RelS G μ1 h1.length H1 ρ σ) (rs:RelS G μ1 h1.length H1 ρb σb) (s1:Sim G μ1 h1 H1) (r:RelDL G μ1 h1.length H1 xs vs) (e:eE src st cU (bB me) src.n 0 ρb h1 xs=.ok (ρ',xs') h')
  (k:∀μ' H' σ' vs',Ext μ1 h1.length H1 μ' h'.length H'->Sim G μ' h' H'->RelS G μ' h'.length H' ρ' σ'->RelDL G μ' h'.length H' xs' vs'->K σ' H' vs'):
  pR J (qB G st) HD ti K σb H1 vs:=by
 refine⟨λi m σ H vs=>∃μ2 ρ2 h2 xs2,Ext μ1 h1.length H1 μ2 h2.length H/\RelS G μ2 h2.length H ρ2 σ/\Sim G μ2 h2 H/\RelDL G μ2 h2.length H xs2 vs/\i+m=src.n/\eE src st cU (bB me) m i ρ2 h2 xs2=.ok (ρ',xs') h',⟨src.n,μ1,ρb,h1,xs,Ext.refl,rs,s1,r,Aq _,e⟩, ?_⟩
 rintro i m σ2 H2 vs2 ⟨μ2,ρ2,h2,xs2,x2,rs2,s2,r2,him,e2⟩
 cases m with
 |zero=>
  unfold eE at e2
  split at e2
  ·rename_i hf;cases e2;exact .inl ⟨(ok i μ2 _ H2 x2 s2).2 (by omega) hf,k μ2 H2 σ2 vs2 x2 s2 rs2 r2⟩
  ·cases e2
 |succ m=>
  unfold eE at e2
  cases q:src.get i h2 with
  |none=>rw[q]at e2;cases e2
  |some d=>
   rw[q]at e2;dsimp only at e2
   cases q2:st d ρ2 with
   |none=>rw[q2]at e2;cases e2
   |some ρ3=>
    rw[q2]at e2;dsimp only[cU]at e2;obtain⟨go,yl⟩:=(ok i μ2 h2 H2 x2 s2).1 (by omega) d q;refine .inr ⟨go,λσ' H' vs'=>∃μ3 ρ4 h4 xs4,Ext μ1 h1.length H1 μ3 h4.length H'/\RelS G μ3 h4.length H' ρ4 σ'/\Sim G μ3 h4 H'/\RelDL G μ3 h4.length H' xs4 vs'/\(i+1)+m=src.n/\eE src st cU (bB me) m (i+1) ρ4 h4 xs4=.ok (ρ',xs') h',
     λσ' H' vs' z=>⟨m,jy m,z⟩,λx H' hy=>?_⟩
    obtain⟨sm,rx⟩:=yl x H' hy;have xsm:Ext μ2 h2.length H2 μ2 h2.length H':=Ext.same sm;refine⟨μ2,ρ2,h2.length,d,ρ3,rs2.mono xsm,rx,q2,λσ3 rs3=>?_⟩;show ti σ3 H' vs2 _;refine hti _ _ _ _ ⟨μ2,ρ3,h2,ro.mono (x2.trans xsm),rs3,s2.same sm, ?_⟩;unfold bB at e2
    cases q4:me ρ3 h2 with
    |bad=>rw[q4]at e2;cases e2
    |ex c h5=>rw[q4]at e2;cases e2
    |ok d' h5=>
     rw[q4]at e2;dsimp only at e2
     by_cases hl:xs2.length<1000000
     ·rw[if_pos hl]at e2;intro μ6 H6 v x6 s6 r6;refine⟨by rw[r2.length];exact au hl (by decide),μ6,ρ3,h5,xs2++[d'],(x2.trans xsm).trans x6,rs3.mono x6,s6,(RelDL.mono (xsm.trans x6) _ _ r2).append (RelDL.cons r6 RelDL.nil),by omega,e2⟩
     ·rw[if_neg hl]at e2;cases e2
end
section
variable{X:Cx}{G:Cfg}{E:XK}{k:Nat}{q x y:Str}{p p2 py pos ps:Pos}{fr:ah}{fdr:bq}{n ncl j t:Nat}{mb:MS}{ls:Nat->Option Lm}{lc:Nat->Option (List Nat×M Dv)}{sc:fq}{iter:bp}{mi:M Src}
theorem h9 {pins0:List (ah×Obj)}{s0:ag}{σ:St}{H0:Hp}{ex:List ah}{ρ:Ev}(g:Good X G E k) (hj:j<=k) (hfn:∀y,X.fn y=true)
  (F:∀k L,ls k=some L->∀base,X.K.In base->base.Ns da X.mg->FnOk X.prog X.w X.K X.mg base (aZ X.prog X.w base) j fr fdr [x] (iO G base L.Nl L.par L.bod L.scp L.me n ncl mb))
  (hg:Gl (bV X sc [y] s0 H0 ex) q) (hv:lW (bV X sc [y] s0 H0 ex).env.scope y) (hm:X.mg q=some (.ref fr)) (hk:ju X.K (.ref fr)=true) (hb:Binds X.K fdr [x] [])
  (hL:∀k L,ls k=some L->LamScope L.Nl L.scp/\(∀z∈L.Nl,X.env.scope.names.lookup z=some .cell)/\L.caps.length=L.Nl.length/\∀(i j:Nat) (z:Str),L.caps[i]?=some j->L.Nl[i]?=some z->X.N[j]?=some z)
  (hG:∀μ n H k L a,ls k=some L->G.clo μ n H k t a->LamFn G X.env L H a) (hlc:∀k c m,lc k=some (c,m)->∃L,ls k=some L/\L.caps=c/\L.me=m)
  (hd1:(y==("__debug__" : Str))=false) (hd2:(y==("__classdict__" : Str))=false) (hdb:(q==("__debug__" : Str))=false)
  (I0:Inv X pins0 σ H0 s0) (hex:∀b∈ex,cV X pins0 H0 b/\b<s0.heap.objs.size):
  PE (bV X sc [y] s0 H0 ex) (.Call (.Name q p) [.Name y p2] [] pos) (CM G ρ σ (kR lc t n ncl mb ρ)):=by
 intro pins s σb H Q I ⟨μ,ρb,h,ro,rs,sm,o⟩;unfold kR at o
 split at o
 rotate_left
 ·exact o.elim
 rename_i i hρ
 split at o
 rotate_left
 ·exact o.elim
 rename_i kk t' hca
 split at o
 rotate_left
 ·exact o.elim
 rename_i ht;subst ht
 split at o
 rotate_left
 ·exact o.elim
 rename_i caps me hlk;obtain⟨L,hls,rfl,rfl⟩:=hlc _ _ _ hlk
 split at o
 rotate_left
 ·exact o.elim
 rename_i ds hcd;obtain⟨hdl,hdg⟩:=JF hcd;obtain⟨LS,hkind,hcl,hcap⟩:=hL kk L hls;have hob:h[i]?=some (.clo kk t'):=by
  unfold fW at hca
  split at hca
  ·rename_i k2 t2 e;cases hca;exact e
  ·cases hca
 obtain⟨v0,hv0,hi,hv0'⟩:=rs.at_ 0 (.ref i) hρ;subst hv0';obtain⟨_,_,hclo⟩:=sm.ob i _ hob;obtain⟨c',pm,ctv,oc,e1,e2,e3⟩:=hG _ _ _ kk L _ hls hclo;have hfree:∀y,(y,bz)∈L.scp.names->X.env.kindOf y=some .cell∨X.env.kindOf y=some .free:=λy hy=>.inl (hkind y (LS.all _ hy rfl));have hfc:∀y,(y,bz)∈L.scp.names->∃c,X.env.cells.lookup y=some c:=λy hy=>I0.ok.has y (hfree y hy);generalize hcs:cW X.env L.scp.names []=cl at *;have kb:∀b u,X.base.get? b=some u->(iH X.base s0.heap (cl.map (·.2))).get? b=some u:=λb u e=>BF (I0.bk _ _ e) (.inl ⟨u,e⟩);have memc:∀b,b∈cl.map (·.2)->∃y,X.env.cells.lookup y=some b:=λb hb=>by
  obtain⟨⟨y,cc⟩,hm1,rfl⟩:=cp.mp hb;have:∀(l:List (Str×kg)) (acc:List (Str×ah)),(∀y cc,(y,cc)∈acc->X.env.cells.lookup y=some cc)->(∀y,(y,bz)∈l->∃c,X.env.cells.lookup y=some c)->∀y cc,(y,cc)∈cW X.env l acc->X.env.cells.lookup y=some cc:=by
   intro l
   induction l with
   |nil=>exact λacc h1 _=>h1
   |cons a l ih=>
    obtain⟨y0,k0⟩:=a;intro acc h1 h2;rw[cW];refine ih _ (λy cc hm2=>?_) λy hy=>h2 y (ax _ hy)
    cases hk0:k0==bz with
    |true=>
     rw[hk0,if_pos rfl]at hm2
     rcases bf.mp hm2 with z|z
     ·cases z;have ek:k0=.free:=by cases k0 <;> first|rfl|cases hk0
      subst ek;obtain⟨c3,h3⟩:=h2 y0 (bo ..);rw[h3];rfl
     ·exact h1 _ _ z
    |false=>rw[hk0,if_neg (by simp)]at hm2;exact h1 _ _ hm2
  exact⟨y,this L.scp.names [] (λ_ _ z=>by cases z) hfc y cc (by rw[hcs];exact hm1)⟩
 have M0:=I0.ok.mod;have nsk:∀{a:ah}{m:Str->Option af},X.base.Ns a m->(iH X.base s0.heap (cl.map (·.2))).Ns a m:=λhn=>hn.keeps kb;have hM:Mod X.K X.mg (iH X.base s0.heap (cl.map (·.2))):=⟨M0.kin.keeps kb,nsk M0.glob,(let ⟨mb,a,b⟩:=M0.blt;⟨mb,nsk a,b⟩),M0.nolimit.keeps kb⟩
 have hbs:∀b u,(iH X.base s0.heap (cl.map (·.2))).get? b=some u->s0.heap.get? b=some u/\H0 b=none:=λb u e=>by
  obtain⟨g1,g2⟩:=BG e;refine⟨g1, ?_⟩
  rcases g2 with⟨u',g2⟩|g2
  ·exact(I0.bs _ _ g2).2
  ·obtain⟨y,hy⟩:=memc b g2;exact I0.freeC y b hy
 have nbf:∀b∈dH X.stack,(iH X.base s0.heap (cl.map (·.2))).get? b=none:=λb hb=>by
  cases qq:(iH X.base s0.heap (cl.map (·.2))).get? b with
  |none=>rfl
  |some u=>
   exfalso
   obtain⟨g1,g2⟩:=BG qq
   rcases g2 with⟨u',g2⟩|g2
   ·have:=(I0.stack.mem hb).1;rw[this]at g2;cases g2
   ·obtain⟨y,hy⟩:=memc b g2
    rcases bf.mp (I0.stkSub b hb)with z|z
    ·exact I0.cne y b hy z
    ·have fm:∀z∈X.fs,z<X.s₀.heap.objs.size:=λz hz=>by obtain⟨_,o2,h2,_⟩:=I0.ok.funs.mem hz;exact ar h2
     exact absurd (au (fm b z) (I0.ok.cab y b (hfn y) hy)) (gu _)
 have hfun:s0.heap.FunFrames (iH X.base s0.heap (cl.map (·.2))) X.stack:=by
  have all:∀(l:List Env),(∀b∈dH l,b∈dH X.stack)->s0.heap.FunFrames X.base l->s0.heap.FunFrames (iH X.base s0.heap (cl.map (·.2))) l:=by
   intro l
   induction l with
   |nil=>intro _ _;trivial
   |cons env r ih=>
    intro hs hl;obtain⟨hk',⟨L,o',hf',hn',ho',hd'⟩,hr'⟩:=hl;have hL:L∈dH (env::r):=by unfold dH;rw[bu,hf'];exact bo
    exact⟨hk',⟨L,o',hf',nbf L (hs L hL),ho',hd'⟩,ih (λb hb=>hs b (by unfold dH;rw[bu,hf'];exact ax _ hb)) hr'⟩
  exact all X.stack (λ_ hb=>hb) I0.stack
 have ok:=I.ok;have ok':({ bV X sc [y] s0 H0 ex with base:=iH X.base s0.heap (cl.map (·.2)) }:Cx).Ok:=
  ⟨hM,ok.kind,ok.glob,ok.blt,ok.above,ok.inj,ok.has,ok.cab,ok.hd,ok.frames,ok.stk,ok.exf,hbs,pj (Ab _ _),λb u e hb=>by
   obtain⟨g1,g2⟩:=BG e
   rcases g2 with⟨u',g2⟩|g2
   ·exact ok.noex b u' g2 hb
   ·obtain⟨y,hy⟩:=memc b g2;exact(hex b hb).1.2.2.2.2.1 y b hy rfl,ok.exfs,hfun,ok.frf⟩
 have I':Inv { bV X sc [y] s0 H0 ex with base:=iH X.base s0.heap (cl.map (·.2)) } pins σb H s:=⟨ok',I.os,I.bare,I.base,I.loc,I.cell,I.free,I.freeC,I.pin,I.hok,I.len⟩
 have look:∀y cc,cl.lookup y=some cc->(y,bz)∈L.scp.names/\X.env.cells.lookup y=some cc:=λy cc e=>W2 hfc (by rw[hcs];exact e);have memL:∀y cc,cl.lookup y=some cc->cc∈cl.map (·.2):=λy cc e=>cp.mpr ⟨(y,cc),fg e,rfl⟩;have LA:LamAt G (iH X.base s0.heap (cl.map (·.2))) H μ h.length L.Nl L.par L.bod L.scp (μ i) c' cl ds:=by
  refine⟨⟨pm,ctv,e1⟩,⟨oc,e2,e3⟩,λy z cc a b=>I0.ok.inj y z cc (look y cc a).2 (look z cc b).2,hdl.trans hcl,λi y hy=>?_,λy cc e=>?_,λi y cc d hy hd e=>?_⟩
  ·have hf1:=LS.fr y (cb hy);have:=rY (env:=X.env) (x:=y) L.scp.names [] (.inl (fg hf1));rw[hcs]at this;exact⟨_,this⟩
  ·obtain⟨v0,ob,ho1,hd1⟩:=I0.cell y cc (look y cc e).2;exact⟨ob,v0,BF ho1 (.inr (memL y cc e)),hd1⟩
  ·obtain⟨jj,hjj,hρ⟩:=hdg i d hd;obtain⟨v,hv,rd⟩:=ro.at_ jj d hρ;have hNj:=hcap i jj y hjj hy;have hyk:=hkind y (cb hy);obtain⟨m,hn,hl⟩:=I0.loc;obtain⟨u,ru,lk⟩:=hl jj y v hNj hv (.inr (.inl hyk))
   rcases lk with⟨kl,_⟩|⟨_,c4,ec4,ob,ho1,hd1⟩
   ·have kl':X.env.scope.names.lookup y=some .local:=kl;rw[hyk]at kl';cases kl'
   ·rw[(look y cc e).2]at ec4;cases ec4;exact⟨ob,u,v,BF ho1 (.inr (memL y cc e)),hd1,ru,rd⟩
 have hall:∀y cc,cl.lookup y=some cc->y∈L.Nl:=λy cc e=>LS.all _ (look y cc e).1 rfl;refine jx (GC (X:={ bV X sc [y] s0 H0 ex with base:=iH X.base s0.heap (cl.map (·.2)) }) (E:=L2.E0) (F kk L hls _ hM.kin hM.glob) (g.room.mono hj) hg hm hk hb .nil (λ_ _ _ _ _ _ _ ⟨_,_,_,_,_,_,_,_,_,z⟩=>z)
  (iA (uY (i:=0) (pos:=p2) rfl hv hd1 hd2) jL rfl) hdb rfl rfl pins s σb H Q I' ⟨.ref (μ i),hv0, ?_⟩) (λu s' ⟨v,H',J,rv,qq⟩=>⟨v,H',⟨ok,J.os,J.bare,J.base,J.loc,J.cell,J.free,J.freeC,J.pin,J.hok,J.len⟩,rv,qq⟩) λ_ _ z=>z
 exact⟨μ i,c',cl,ds,μ,h,rfl,LA,hall,sm,o⟩
theorem i0 (g:Good X G E k) (hj:j<=k) (hfn:∀y,X.fn y=true) (C:CapOk X sc [y] [none]) (hi:jB X G E (.Name y py) iter mi) (hgt:∀s H ex,jN (bV X sc [y] s H ex) G (.Name y py) (aE 0))
  (F:∀k L,ls k=some L->∀base,X.K.In base->base.Ns da X.mg->FnOk X.prog X.w X.K X.mg base (aZ X.prog X.w base) j fr fdr [x] (iO G base L.Nl L.par L.bod L.scp L.me n ncl mb))
  (hg:∀s H ex,Gl (bV X sc [y] s H ex) q) (hv:∀s H ex,lW (bV X sc [y] s H ex).env.scope y) (hm:X.mg q=some (.ref fr)) (hk:ju X.K (.ref fr)=true) (hb:Binds X.K fdr [x] [])
  (hL:∀k L,ls k=some L->LamScope L.Nl L.scp/\(∀z∈L.Nl,X.env.scope.names.lookup z=some .cell)/\L.caps.length=L.Nl.length/\∀(i j:Nat) (z:Str),L.caps[i]?=some j->L.Nl[i]?=some z->X.N[j]?=some z)
  (hG:∀μ n H k L a,ls k=some L->G.clo μ n H k t a->LamFn G X.env L H a) (hlc:∀k c m,lc k=some (c,m)->∃L,ls k=some L/\L.caps=c/\L.me=m)
  (hd1:(y==("__debug__" : Str))=false:=by decide) (hd2:(y==("__classdict__" : Str))=false:=by decide) (hdb:(q==("__debug__" : Str))=false:=by decide) (hs:∀x,foldedSetIterable iter X.env x=pure x:=by intro _;rfl):
  mH X G E (.ListComp (.Call (.Name q p) [.Name y p2] [] pos) [⟨.Name y py,iter,[],0⟩] sc ps) (nZ mi lc t n ncl mb):=λhK=>
 PE.imp (UC (ti:=λσ σb H vs K=>∃ρ,vO (CM G ρ σ (kR lc t n ncl mb ρ)) σb H vs K) g.calm C rfl (λit D env=>AO _ _ iter [] sc ps (.ref it) D env) (hi hK) (λs H ex=>hgt s H ex hK) (λs H ex=>HE)
  (λpins s σ H ex D I hex=>λpins' s' σ' H' xs K I' a f ⟨ρ,h⟩=>vP (h9 (ρ:=ρ) g hj hfn F (hg s H ex) (hv s H ex) hm hk hb hL hG hlc hd1 hd2 hdb I hex) pins' s' σ' H' xs K I' a f h) hs) λσ H Q ⟨μ,ρ,h,rs,s,o⟩=>by
  unfold nZ bL at o;refine⟨μ,ρ,h,rs,s,(o.bind (R1:=ItOk G)).mono λJ H1 ⟨μ1,src,h1,x1,s1,ok,o1⟩=>?_⟩
  cases q:eE src (aE 0) cU (bB (kR lc t n ncl mb ρ)) src.n 0 (fT [none] ρ) h1 []with
  |bad=>rw[q]at o1;exact o1.elim
  |ex c h2=>rw[q]at o1;exact o1.elim
  |ok r h2=>rw[q]at o1;obtain⟨ρ',xs'⟩:=r;refine h8 (λ_ _ _ _ z=>⟨ρ,z⟩) ok (rs.mono x1) (IA (rs.mono x1) [none]) s1 RelDL.nil q λμ2 H2 σ2 vs2 x2 s2 rs2 r2 p hp=>?_;exact o1 μ2 _ _ (x2.trans (Ext.same (cP hp))) (s2.same (cP hp)) ⟨p,vs2,rfl,cS,s2.not hp,RelDL.mono (Ext.same (cP hp)) _ _ r2⟩
end
def CN (K:aq) (t u:ah):It:=
 ⟨λi H=>∃vs ws v w,SqL K H t vs/\SqL K H u ws/\vs[i]?=some v/\ws[i]?=some w,
  λi H x H'=>∃p v w,x=.ref p/\H p=none/\H'=aQ H p (.tup [v,w])/\(∀vs,SqL K H t vs->vs[i]?=some v)/\∀ws,SqL K H u ws->ws[i]?=some w,
  λi H=>∃vs ws,SqL K H t vs/\SqL K H u ws/\(vs.length<=i∨ws.length<=i)⟩
structure ZipAtL (z TI TO i j t u:ah) (n:Nat) (h:cq):Prop where
 zp:xc h z TI TO .none
 ti:kv h TI (.ref i) (.ref j)
 to:∃a b,kv h TO a b
 i1:h.IsListIter i t n
 i2:h.IsListIter j u n
theorem i5 {P:bj}{w:cm}{K:aq}{elts:List bp}{kk:Nat}{tp:Pos}{z TI TO i j t u:ah}(F4:ZipApart z TI TO i j t u):
  Turn P w K (.Tuple elts kk tp) (CN K t u) [z,TI,TO,i,j] z (ZipAtL z TI TO i j t u) where
 mem:=by simp
 obj:=λn h st b hb=>by
  obtain⟨zp,ti,⟨a,b',to⟩,⟨o1,e1,_,d1⟩,⟨o2,e2,_,d2⟩⟩:=st;simp at hb
  rcases hb with rfl|rfl|rfl|rfl|rfl
  ·exact⟨_,zp,λv q=>by cases q⟩
  ·exact⟨_,ti,λv q=>by cases q⟩
  ·exact⟨_,to,λv q=>by cases q⟩
  ·exact⟨_,e1,λv q=>by rw[d1]at q;cases q⟩
  ·exact⟨_,e2,λv q=>by rw[d2]at q;cases q⟩
 keep:=λn h h' st k=>by obtain⟨zp,ti,⟨a,b',to⟩,⟨o1,e1,r1⟩,⟨o2,e2,r2⟩⟩:=st;exact⟨k _ (by simp) _ zp,k _ (by simp) _ ti,⟨a,b',k _ (by simp) _ to⟩,⟨o1,k _ (by simp) _ e1,r1⟩,⟨o2,k _ (by simp) _ e2,r2⟩⟩
 item:=by
  intro X hP hw hK hc n pins s σ H E I hf st hg;subst hP hw hK;obtain⟨vs,ws,v,w',hq,hr,hv,hw'⟩:=hg;obtain⟨its,rv,p1,z1⟩:=I.list hq;obtain⟨jts,rw',p2,z2⟩:=I.list hr;obtain⟨x,hx,rx⟩:=rv.get hv;obtain⟨y,hy,ry⟩:=rw'.get hw';obtain⟨zp,ti,⟨a,b,to⟩,i1,i2⟩:=st;refine wpAny_pyNext_zip_item F4 zp ti to i1 i2 p1.isList p2.isList (x:=x) (y:=y) (by simpa using hx) (by simpa using hy) λh' a1 a3 a4 a5 a6 hsz bt=>⟨_,rfl, ?_⟩
  have a2:kv h' TI (.ref i) (.ref j):=bt _ _ F4.TIz F4.TITO F4.TIi1 F4.TIi2 ti;refine Bc a1 λh2 z2' sb=>?_;have kp:∀b o,b∉[z,TI,TO,i,j]->s.heap.get? b=some o->h2.get? b=some o:=λb o hb q=>by simp at hb;obtain⟨n1,n2,n3,n4,n5⟩:=hb;exact sb.extBut _ _ n1 (bt b o n1 n3 n4 n5 q)
  have Tz:s.heap.objs.size≠z:=ji (ar zp);have T2:kv h2 s.heap.objs.size x y:=sb.extBut _ _ Tz a6;have th:∀b∈[z,TI,TO,i,j],∃o,h2.get? b=some o:=λb hb=>by
   obtain⟨o1,e1,_⟩:=a4;obtain⟨o2,e2,_⟩:=a5;simp at hb
   rcases hb with rfl|rfl|rfl|rfl|rfl
   ·exact⟨_,z2'⟩
   ·exact⟨_,sb.extBut _ _ F4.TIz a2⟩
   ·exact⟨_,sb.extBut _ _ F4.TOz a3⟩
   ·exact⟨_,sb.extBut _ _ F4.i1z e1⟩
   ·exact⟨_,sb.extBut _ _ F4.i2z e2⟩
  have I2:=Inv.turns (T:=s.heap.objs.size) (vs:=[v,w']) (its:=[x,y]) I hf kp th (ao _) (.cons rx (.cons ry .nil)) (by show 2<=ck;decide) ⟨_,T2,rfl,rfl,_,rfl⟩;have nT:H s.heap.objs.size=none:=I.hok.fresh (ao _);refine⟨.ref s.heap.objs.size,_,I2,rfl,⟨s.heap.objs.size,v,w',rfl,nT,rfl,λvs' h'=>by rw[I.list_inj h' hq];exact hv,λws' h'=>by rw[I.list_inj h' hr];exact hw'⟩, ?_,λb hb=>?_⟩
  ·exact⟨z2',sb.extBut _ _ F4.TIz a2,⟨_,_,sb.extBut _ _ F4.TOz a3⟩,a4.at λo e=>sb.extBut _ _ F4.i1z e,a5.at λo e=>sb.extBut _ _ F4.i2z e⟩
  ·obtain⟨o,q,_⟩:∃o,s.heap.get? b=some o/\True:=by
    obtain⟨o1,e1,_⟩:=i1;obtain⟨o2,e2,_⟩:=i2;simp at hb
    rcases hb with rfl|rfl|rfl|rfl|rfl
    ·exact⟨_,zp,trivial⟩
    ·exact⟨_,ti,trivial⟩
    ·exact⟨_,to,trivial⟩
    ·exact⟨_,e1,trivial⟩
    ·exact⟨_,e2,trivial⟩
   rw[bN (ay (ar q))];exact(hf b hb).1
 done:=by
  intro X hP hw hK hc n pins s σ H E I hf st hg;subst hP hw hK;obtain⟨vs,ws,hq,hr,hend⟩:=hg;obtain⟨its,rv,p1,z1⟩:=I.list hq;obtain⟨jts,rw',p2,z2⟩:=I.list hr;have l1:=rv.length;have l2:=rw'.length;obtain⟨zp,ti,⟨a,b,to⟩,i1,i2⟩:=st;refine wpAny_pyNext_zip_end (I.ok.hd hc) F4 zp ti to i1 i2 p1.isList p2.isList (by
    rcases hend with q|q
    ·exact .inl (by simp;omega)
    ·exact .inr (by simp;omega)) λh' bt=>⟨rfl, ?_⟩
  refine Inv.turns0 I hf λb o hb q=>?_;simp at hb;exact bt b o hb.1 hb.2.2.1 hb.2.2.2.1 hb.2.2.2.2 q
 self:=λ_ _ _ _ _ st h=>pg st.zp h
section
variable{X:Cx}{G:Cfg}{E:XK}{a b:bp}{elts:List bp}{kk:Nat}{tp p pos:Pos}{ta:TA}{ms:M (List Dv)}
def i6 (K:aq) (ta:TA):TI:=λσ H R=>ta σ H λvs H1=>∃t u,vs=[.ref t,.ref u]/\((∃xs ys,SqT K H1 t xs/\SqT K H1 u ys/\R (wW K t u) H1)∨∃xs ys,SqL K H1 t xs/\SqL K H1 u ys/\R (CN K t u) H1)
theorem i7 (n t u:Nat) (lt:t<n) (lu:u<n):ZipApart (n+4) (n+2) (n+3) n (n+1) t u:=by
 have ne:∀{a b:Nat},(a<b∨b<a)->a≠b:=λh=>by omega
 exact⟨ne (by omega),ne (by omega),ne (by omega),ne (by omega),ne (by omega),ne (by omega),ne (by omega),ne (by omega),ne (by omega),ne (by omega),ne (by omega),ne (by omega),ne (by omega),ne (by omega),ne (by omega),ne (by omega),ne (by omega),ne (by omega)⟩
theorem i8 (hg:Gl X "zip") (hm:X.mg "zip" = none) (ha:PA X [a,b] ta) (hs:aw [a,b] X.env=[(false,eval a X.env),(false,eval b X.env)]:=by rfl) (hs2:aw [b] X.env=[(false,eval b X.env)]:=by rfl):
  PI X (.Tuple elts kk tp) (.Call (.Name "zip" p) [a,b] [] pos) (i6 X.K ta):=by
 intro pins s σ H R I h;refine Call_ (oO I hg hm JA (jb (aW (ha pos pins s σ H _ I h) λus s1 ⟨vs,H1,I1,r1,q1⟩=>?_) (by rw[hs,hs2]) (by rw[hs2];rfl)));obtain⟨t,u,e,q⟩:=q1;subst e;obtain⟨u1,u2,rfl,e1,e2⟩:=pP r1;cases e1;cases e2
 rcases q with⟨xs,ys,hq,hr,q⟩|⟨xs,ys,hq,hr,q⟩
 ·obtain⟨its,rv,p1,_⟩:=I1.tuple hq;obtain⟨jts,rw',p2,_⟩:=I1.tuple hr;refine callType_new F.called_zip (by decide) (F.typeCall_zip_2 _ _) (F.newCall_zip_2 _ _) (λobj=>F.args_object_init_3 obj _ _) F.entry_zip_new (IZ its.toArray jts.toArray) ⟨p1,p2,λh' z nz=>?_⟩;obtain⟨TI,TO,i,j,za,f4,fresh,kp⟩:=nz;refine⟨⟨_,za.zp,rfl⟩, ?_⟩;have I2:Inv X pins σ H1 { s1 with heap:=h' }:=I1.kept (t':=s1.toks) kp;refine pg za.zp ⟨z,[z,TI,TO,i,j],_,_,H1,rfl,I2,IX f4 f4.u3 f4.v4,za,λb hb=>I1.fpOk (fresh b hb) (I1.hok.fresh (fresh b hb)),q⟩
 ·obtain⟨its,rv,p1,_⟩:=I1.list hq;obtain⟨jts,rw',p2,_⟩:=I1.list hr;refine call_zip_2 p1.isList p2.isList λh' hz hTI hTO h1 h2 hsz kp=>?_;have I2:Inv X pins σ H1 { s1 with heap:=h' }:=I1.kept (t':=s1.toks) kp;have lt:t<s1.heap.objs.size:=by obtain⟨o,e,_⟩:=p1.isList;exact ar e
  have lu:u<s1.heap.objs.size:=by obtain⟨o,e,_⟩:=p2.isList;exact ar e
  have fresh:∀b∈[s1.heap.objs.size+4,s1.heap.objs.size+2,s1.heap.objs.size+3,s1.heap.objs.size,s1.heap.objs.size+1],s1.heap.objs.size<=b:=λb hb=>by
   simp at hb
   rcases hb with rfl|rfl|rfl|rfl|rfl <;> first|exact oj _ _|exact ao _
  exact pg hz ⟨_,_,_,_,H1,rfl,I2,i5 (i7 _ t u lt lu),⟨hz,hTI,⟨_,_,hTO⟩,h1,h2⟩,λb hb=>I1.fpOk (fresh b hb) (I1.hok.fresh (fresh b hb)),q⟩
def lI (i j n m:Nat) (h:Hs):Option (List (Dv×Dv)):=match getL h i,getL h j with
 |some xs,some ys=>if xs.length=n/\ys.length=m then some (xs.zip ys)else none
 |_,_=>none
def pG (i j n m:Nat):Src:=⟨min n m,λk h=>match lI i j n m h with
 |some zs=>(zs[k]?).map λq=>.tup [q.1,q.2]
 |none=>none,λh=>(lI i j n m h).isSome⟩
def pH:List Dv->Hs->Rs Src
 | [.tup xs,.tup ys],h=>.ok (kZ xs ys) h
 | [.ref i,.ref j],h=>match getL h i,getL h j with
  |some xs,some ys=>.ok (pG i j xs.length ys.length) h
  |_,_=>.bad
 |_,_=>.bad
theorem ML {i j n m:Nat}{h:Hs}{zs:List (Dv×Dv)}(e:lI i j n m h=some zs):∃xs ys,getL h i=some xs/\getL h j=some ys/\xs.length=n/\ys.length=m/\zs=xs.zip ys:=by
 unfold lI at e
 split at e
 ·rename_i xs ys e1 e2
  split at e
  ·rename_i hl;cases e;exact⟨xs,ys,e1,e2,hl.1,hl.2,rfl⟩
  ·cases e
 ·cases e
theorem ItOk.zipL {μ:Nat->ah}{nn:Nat}{H:Hp}{i j n m:Nat}{K:aq}(hi:i<nn) (hj:j<nn):ItOk G μ nn H (pG i j n m) (CN K (μ i) (μ j)):=by
 intro k μ2 h2 H2 x2 s2;have ei:=x2.mu i hi;have ej:=x2.mu j hj;constructor
 ·intro hk d hd;have hd':(match lI i j n m h2 with|some zs=>(zs[k]?).map λq=>Dv.tup [q.1,q.2]|none=>none)=some d:=hd
  cases qz:lI i j n m h2 with
  |none=>rw[qz]at hd';cases hd'
  |some zs=>
   rw[qz]at hd';obtain⟨xs,ys,g1,g2,l1,l2,rfl⟩:=ML qz;obtain⟨vs,f,g⟩:=s2.ob i _ (cM g1);obtain⟨ws,f',g'⟩:=s2.ob j _ (cM g2);rw[ei]at f;rw[ej]at f'
   cases q:(xs.zip ys)[k]? with
   |none=>dsimp only at hd';rw[q]at hd';cases hd'
   |some xy=>
    dsimp only at hd';rw[q]at hd';cases hd';obtain⟨qx,qy⟩:=lx.mp q;obtain⟨v,ev,rv⟩:=g.get qx;obtain⟨w',ew,rw'⟩:=g'.get qy;refine⟨⟨vs,ws,v,w',SqL.of f,SqL.of f',ev,ew⟩,λx H' hy=>?_⟩;obtain⟨pp,v1,w1,rfl,np,rfl,a1,a2⟩:=hy;have b1:=a1 vs (SqL.of f);have b2:=a2 ws (SqL.of f');rw[ev]at b1;rw[ew]at b2
    cases b1;cases b2
    have sm:Same H2 (aQ H2 pp (.tup [v,w'])):=cP np;exact⟨sm,pp,_,rfl,cS,RelDL.cons (RelD.mono (Ext.same sm) _ _ rv) (RelDL.cons (RelD.mono (Ext.same sm) _ _ rw') RelDL.nil)⟩
 ·intro hk hf;have hf':(lI i j n m h2).isSome=true:=hf
  cases qz:lI i j n m h2 with
  |none=>rw[qz]at hf';cases hf'
  |some zs=>obtain⟨xs,ys,g1,g2,l1,l2,rfl⟩:=ML qz;obtain⟨vs,f,g⟩:=s2.ob i _ (cM g1);obtain⟨ws,f',g'⟩:=s2.ob j _ (cM g2);rw[ei]at f;rw[ej]at f';refine⟨vs,ws,SqL.of f,SqL.of f', ?_⟩;have hk':k=min n m:=hk;rw[g.length,g'.length];omega
theorem i9 (hg:Gl X "zip") (hm:X.mg "zip" = none) (ha:dY X G E [a,b] ms) (hs:aw [a,b] X.env=[(false,eval a X.env),(false,eval b X.env)]:=by rfl) (hs2:aw [b] X.env=[(false,eval b X.env)]:=by rfl):
  jB X G E (.Tuple elts kk tp) (.Call (.Name "zip" p) [a,b] [] pos) (aS pH ms):=λhK=>
 PI.imp (i8 hg hm (ha hK) hs hs2) λσ H R ⟨μ,ρ,h,rs,s,o⟩=>kB rs s o λμ1 ds h1 vs H1 x1 rs1 s1 r1 o1=>by
  unfold pH at o1
  split at o1
  ·rename_i xs ys;obtain⟨v,v',rfl,rv,rv'⟩:=sQ r1;obtain⟨t,us,rfl,e,r⟩:=rv;obtain⟨u,ws,rfl,e',r'⟩:=rv';exact⟨t,u,rfl,.inl ⟨us,ws,SqT.of e,SqT.of e',o1.val s1 (ItOk.zip e e' r r')⟩⟩
  ·rename_i i j;obtain⟨v,v',rfl,rv,rv'⟩:=sQ r1;obtain⟨hi,rfl⟩:=rv;obtain⟨hj,rfl⟩:=rv'
   split at o1
   ·rename_i xs ys g1 g2;obtain⟨us,f,_⟩:=s1.ob i _ (cM g1);obtain⟨ws,f',_⟩:=s1.ob j _ (cM g2);exact⟨_,_,rfl,.inr ⟨us,ws,SqL.of f,SqL.of f',o1.val s1 (ItOk.zipL hi hj)⟩⟩
   ·exact o1.elim
  ·exact o1.elim
end
open PySem.Calls
section
variable{X:Cx}{G:Cfg}{E:XK}{o e i:bp}{mo me mi:M Dv}{ml:M (List Dv)}{pos apos cpos:Pos}
theorem j3 {a b:bp}{sp:Pos}(ho:aK X G E (.Subscript a b sp) mo) (he:aK X G E e me) (hs:aw [e] X.env=[(false,eval e X.env)]:=by rfl) (hl:(apos.endLine==cpos.line)=true:=by rfl):aK X G E (.Call (.Attribute (.Subscript a b sp) "append" apos) [e] [] cpos) (cO mo me):=λhK=>
 PE.imp (vI md xa xb G2 (ho hK) (iA (he hK) jL hs) rfl (by rw[hs];rfl) hl hs rfl) λσ H Q ⟨μ,ρ,h,rs,s,oo⟩=>eR rs s oo λμ1 x h1 vx H1 x1 rs1 s1 r1 o1=>by
  split at o1
  ·rename_i hl;refine⟨wO s1 r1 hl,eR rs1 s1 o1 λμ2 d h2 vd H2 x2 rs2 s2 r2 o2=>?_⟩
   cases x with
   |ref j=>
    dsimp only[jQ]at o2
    cases q:getL h2 j with
    |none=>rw[q]at o2;exact o2.elim
    |some xs=>
     rw[q]at o2;dsimp only at o2
     split at o2
     ·rename_i hz;obtain⟨vs,ea,ra⟩:=s2.ob j _ (cM q);obtain⟨_,rfl⟩:=RelD.mono x2 _ _ r1;obtain⟨x3,s3⟩:=s2.write (cM q) (ra.append (RelDL.cons r2 RelDL.nil));exact⟨_,vs,vd,rfl,rfl,ea,by rw[ra.length];exact au hz (by decide),o2 μ2 _ _ x3 s3 rfl⟩
     ·exact o2.elim
   |_=>exact o2.elim
  ·exact o1.elim
end
def j5:bp:=.Constant .none 0 ⟨0,0,0,0⟩
def j6:gy->bp
 | .Assign _ v _=>v
 | .Expr v _=>v
 | .If t _ _ _=>t
 | .Return (some v) _=>v
 |_=>j5
def oA (st:gy):bp:=match j6 st with
 | .List (l::_) _=>l
 | .Call _ (l::_) _ _=>l
 |e=>e
def oC:bp->jw
 | .Lambda p _ _ _=>p
 |_=>⟨[],[],none,[],[],none,[]⟩
def oD:bp->bp
 | .Lambda _ b _ _=>b
 |e=>e
def oE (d:fq):bp->fq
 | .Lambda _ _ s _=>s
 |_=>d
structure LmOk (os:fq) (oN:List Str) (L:Lm):Prop where
 ls:LamScope L.Nl L.scp
 kind:∀z∈L.Nl,os.names.lookup z=some .cell
 len:L.caps.length=L.Nl.length
 cap:∀z∈L.caps.zip L.Nl,oN[z.1]?=some z.2
section
variable{X:Cx}{G:Cfg}{E:XK}{c P:ah}{lpos:Pos}{k t:Nat}{ls:Nat->Option Lm}{os:fq}{oN:List Str}
theorem oF (L:Lm) (hls:ls k=some L) (hT:∀μ n H k t a,G.clo μ n H k t a) (hq:X.env.qual ++ "<lambda>" = G.lq) (hP:G.tab=some P) (hcode:X.env.code=.ref c) (hC:jv X.base c P) (hB:kG X.mg X.base) (O:LmOk os oN L)
  (hs:X.env.scope.names=os.names:=by rfl) (hdef:defaultsOf L.par X.env=([],[]):=by rfl):aK X (G.wf X.env t ls) E (.Lambda L.par L.bod L.scp lpos) (eJ k t):=
 d8 (G:=G.wf X.env t ls) L hdef hq hP hcode hC hB O.ls (λy hy=>by rw[hs];exact O.kind y hy) λμ n H a h=>⟨hT μ n H k t a,λL' e _=>by rw[hls]at e;cases e;exact h⟩
variable{q x y:Str}{p p2 py pos ps:Pos}{fr:ah}{fdr:bq}{n ncl j:Nat}{mb:MS}{lc:Nat->Option (List Nat×M Dv)}{sc:fq}{iter:bp}{mi:M Src}
theorem MM (g:Good X (G.wf X.env t ls) E k) (hj:j<=k) (hfn:∀y,X.fn y=true) (C:CapOk X sc [y] [none]) (hi:jB X (G.wf X.env t ls) E (.Name y py) iter mi) (hgt:∀s H ex,jN (bV X sc [y] s H ex) (G.wf X.env t ls) (.Name y py) (aE 0))
  (F:∀k L,ls k=some L->∀base,X.K.In base->base.Ns da X.mg->FnOk X.prog X.w X.K X.mg base (aZ X.prog X.w base) j fr fdr [x] (iO (G.wf X.env t ls) base L.Nl L.par L.bod L.scp L.me n ncl mb))
  (hm:X.mg q=some (.ref fr)) (hk:ju X.K (.ref fr)=true) (hb:Binds X.K fdr [x] []) (O:∀k L,ls k=some L->LmOk os oN L) (hlc:∀k c m,lc k=some (c,m)->∃L,ls k=some L/\L.caps=c/\L.me=m)
  (hs:X.env.scope.names=os.names:=by rfl) (hN:X.N=oN:=by rfl) (hg:∀s H ex,Gl (bV X sc [y] s H ex) q:=by intro _ _ _;rfl) (hv:∀s H ex,lW (bV X sc [y] s H ex).env.scope y:=by intro _ _ _;exact Or.inl rfl)
  (hd1:(y==("__debug__" : Str))=false:=by decide) (hd2:(y==("__classdict__" : Str))=false:=by decide) (hdb:(q==("__debug__" : Str))=false:=by decide) (hf:∀x,foldedSetIterable iter X.env x=pure x:=by intro _;rfl):
  mH X (G.wf X.env t ls) E (.ListComp (.Call (.Name q p) [.Name y p2] [] pos) [⟨.Name y py,iter,[],0⟩] sc ps) (nZ mi lc t n ncl mb):=
 i0 (ls:=ls) g hj hfn C hi hgt F hg hv hm hk hb (λk L e=>⟨(O k L e).ls,λz hz=>by rw[hs];exact(O k L e).kind z hz,(O k L e).len,λi j z e1 e2=>by rw[hN];exact(O k L e).cap (j,z) (cb (i:=i) (lx.mpr ⟨e1,e2⟩))⟩) (λ_ _ _ _ L _ e h=>h.2 L e rfl) hlc hd1 hd2 hdb hf
end
end L2.Mr
namespace L2.Mr.Sam
open PySem PySem.Spec PyProof.Rows L2 L2.Mr
open L2.Mr.Com
def gW (Fs:List Dv->Hs->Rs Dv):MS:=(aJ (bE (bD (m1 (bC oX) (aB 1))) (aJ (bE (iL (mB (m2 cB (m1 (bC gJ) (aB 0)) (m1 (bC gJ) (aB 1)))) (mB (m2 cB (m1 (bC mK) (aB 0)) (m1 (bC mK) (aB 1))))) (aR (mC (.bl false))) bQ) (aJ (bE (mB (m2 cB (aF (f1 fK) (aA (aB 0) aC)) (aF (f1 fK) (aA (aB 1) aC)))) (aR (mC (.bl false))) bQ) (aR (mL jP (bL (aS pH (aA (aB 0) (aA (aB 1) aC))) [none,none] (cG 2 (aY (aE 0) (aY (aE 1) cI))) cU (bB (aF Fs (aA (aB 0) (aA (aB 1) aC))))))))) bQ) (aR (dM (m2 bW (aB 0) (aB 1)) (m2 bW (m1 (bC mJ) (aB 0)) (m1 (bC mJ) (aB 1))))))
def F_qr:Nat->List Dv->Hs->Rs Dv
 |0=>λ_ _=>.bad
 |n+1=>aV 2 2 (gW (F_qr n))
end L2.Mr.Sam
namespace L2.Mr.K03
open PySem PySem.Spec PyProof.Rows L2 L2.Mr
open L2.Mr.Com
open L2.Mr.Sam
def tblV:List (Nat×Bool):=[(0,true),(4,true)]
def tbl0:List (Nat×Bool):=[(0,true),(4,false)]
def tbl1:List (Nat×Bool):=[(0,false),(4,false)]
def tbl2:List (Nat×Bool):=[(0,false),(4,false)]
def tbl3:List (Nat×Bool):=[(0,false),(4,false)]
def tbl4:List (Nat×Bool):=[(0,false),(4,true)]
def tbl5:List (Nat×Bool):=[(0,false),(4,false)]
def tbl6:List (Nat×Bool):=[(0,false),(4,false)]
def tbl7:List (Nat×Bool):=[(0,false),(4,false)]
def tbl8:List (Nat×Bool):=[(0,false),(4,false)]
def tbl9:List (Nat×Bool):=[(0,false),(4,false)]
def tbl10:List (Nat×Bool):=[(0,false),(4,false)]
def uB:MS:=(bE (cF (bD (aF F_qy (aA (aB 0) aC)))) (qD 0 (aA (mC (.str "this is no order")) aC)) bQ)
def F_qp:List Dv->Hs->Rs Dv:=aV 1 1 (uB)
def xZ:MS:=(aJ (bG (aF F_qp (aA (aB 0) aC))) (bE (cF (bD (aF F_qz (aA (m2 aT (aB 0) (mC (.int 0))) (aA (aB 1) aC))))) (qD 4 (aA (mC (.str "this is no thing of the order")) aC)) bQ))
def F_qq:List Dv->Hs->Rs Dv:=aV 2 2 (xZ)
def j7:MS:=(aJ (bG (aF F_qq (aA (aB 0) (aA (aB 1) aC)))) (aR (bR (bL (bO dS (m2 aT (aB 0) (mC (.int 1)))) [none,none,some 1] (cG 2 (aY (aE 0) (aY (aE 1) cI))) (mB (m2 bW (aB 1) (aB 2))) (bB (aB 0))))))
def F_qx:List Dv->Hs->Rs Dv:=aV 2 2 (j7)
def j8:MS:=(aJ (bG (aF F_qq (aA (aB 0) (aA (aB 1) aC)))) (aR (bR (bL (bO dS (m2 aT (aB 0) (mC (.int 1)))) [none,none,some 1] (cG 2 (aY (aE 0) (aY (aE 1) cI))) (mB (m2 bW (aB 0) (aB 2))) (bB (aB 1))))))
def F_q2:List Dv->Hs->Rs Dv:=aV 2 2 (j8)
def qT:MS:=(aJ (aM (m2 aT (aB 0) (mC (.int 1))) (aE 3)) (aR (dM (m2 cB (aB 1) (aB 2)) (dM (m2 (dR true) (aL (aA (aB 1) (aA (aB 2) aC))) (aB 3)) (m2 (dR true) (aL (aA (aB 2) (aA (aB 1) aC))) (aB 3))))))
def F_qt:List Dv->Hs->Rs Dv:=aV 3 4 (qT)
def j9:MS:=(aJ (bG (aF F_qq (aA (aB 0) (aA (aB 1) aC)))) (aR (bR (bL (aS cN (aA (m2 aT (aB 0) (mC (.int 0))) aC)) [none,some 0,some 1] (aE 0) (bD (aF F_qt (aA (aB 1) (aA (aB 2) (aA (aB 0) aC))))) (bB (aB 0))))))
def F_qo:List Dv->Hs->Rs Dv:=aV 2 2 (j9)
def CO:MS:=(aJ (bG (aF F_qp (aA (aB 0) aC))) (aJ (aM (m2 aT (aB 0) (mC (.int 0))) (aE 1)) (aR (bR (bL (aS cN (aA (aB 1) aC)) [none,none,some 0,some 1] (aE 0) cU (kE (aS gR (aA (m2 bX (aB 0) (mC (.int 1))) (aA (aB 3) aC))) (aE 1) (bD (aF F_qt (aA (aB 2) (aA (aB 0) (aA (aB 1) aC))))) (bB (aL (aA (aB 0) (aA (aB 1) aC))))))))))
def F_qh:List Dv->Hs->Rs Dv:=aV 1 2 (CO)
def CP:MS:=(aJ (bG (aF F_qp (aA (aB 0) aC))) (aJ (aM (aB 0) (cG 2 (aY (aE 1) (aY (aE 2) cI)))) (aR (aL (aA (aB 1) (aA (aF (f1 hJ) (aA (aF (f1 kQ) (aA (bR (bL (bO dS (aB 2)) [none,none] (cG 2 (aY (aE 0) (aY (aE 1) cI))) cU (bB (aL (aA (aB 1) (aA (aB 0) aC)))))) aC)) aC)) aC))))))
def F_q3:List Dv->Hs->Rs Dv:=aV 1 3 (CP)
def uC:MS:=(aJ (aM (aU aC) (aE 1)) (aJ (dN (aS cN (aA (m2 aT (aB 0) (mC (.int 0))) aC)) (aE 2) (dN (aS gR (aA (m2 bX (aB 2) (mC (.int 1))) (aA (m2 aT (aB 0) (mC (.int 0))) aC))) (aE 3) (bE (nB (mB (m2 (dR true) (aL (aA (aB 2) (aA (aB 3) aC))) (m2 aT (aB 0) (mC (.int 1))))) (mB (m2 (dR true) (aL (aA (aB 3) (aA (aB 2) aC))) (m2 aT (aB 0) (mC (.int 1)))))) (bG (cO (aB 1) (aL (aA (aB 2) (aA (aB 3) aC))))) bQ))) (aR (aB 1))))
def F_qi:List Dv->Hs->Rs Dv:=aV 1 4 (uC)
def eM:MS:=(aJ (aM (aU (aA (m1 (bC (eG none tbl0)) (aB 1)) (aA (m1 (bC (eG none tbl1)) (aB 1)) (aA (m1 (bC (eG none tbl2)) (aB 1)) aC)))) (aE 3)) (aJ (aM (m2 bX (aB 3) (aU (aA (m1 (bC (eG none tbl3)) (aB 1)) (aA (m1 (bC (eG none tbl4)) (aB 1)) (aA (m1 (bC (eG none tbl5)) (aB 1)) aC))))) (aE 3)) (aJ (aM (m2 bX (aB 3) (aU (aA (m1 (bC (eG none tbl6)) (aB 1)) (aA (m1 (bC (eG none tbl7)) (aB 1)) (aA (m1 (bC (eG none tbl8)) (aB 1)) aC))))) (aE 3)) (aJ (aM (m2 bX (aB 3) (aU (aA (m1 (bC (eG none tbl9)) (aB 1)) (aA (m1 (bC (eG none tbl10)) (aB 1)) aC)))) (aE 3)) (aJ (bE (cF (bD (m1 (bC (eG none tblV)) (aB 1)))) (aR (mC .non)) bQ) (aR (bR (bL (aS cN (aA (mC (.int 11)) aC)) [none,some 3] (aE 0) (bD (m2 aT (aB 1) (aB 0))) (bB (aB 0))))))))))
def CQ:MS:=(aJ (aM (aB 0) (cG 2 (aY (aE 2) (aY (aE 3) cI)))) (aJ (aM (bR (bL (aS cN (aA (aB 2) aC)) [none,some 1] (aE 0) (mB (m2 cB (aB 0) (aB 1))) (bB (aB 0)))) (aE 4)) (aJ (aM (aU (aA (bR (bL (bO dD (aB 4)) [none,some 3,some 1] (aE 0) (mB (m2 (dR false) (aL (aA (aB 0) (aA (aB 2) aC))) (aB 1))) (bB (aB 0)))) (aA (bR (bL (bO dD (aB 4)) [none,some 3,some 1] (aE 0) (mB (m2 (dR false) (aL (aA (aB 2) (aA (aB 0) aC))) (aB 1))) (bB (aB 0)))) aC))) (aE 5)) (aJ (bG (cO (aB 5) (bR (bL (bO dD (aB 4)) [none,some 5] (aE 0) (mB (m2 (dR true) (aB 0) (m2 bX (m2 aT (aB 1) (mC (.int 0))) (m2 aT (aB 1) (mC (.int 1)))))) (bB (aB 0)))))) (aJ (dN (aS cN (aA (mC (.int 3)) aC)) (aE 6) (aJ (aM (aU (aA (aF F_qx (aA (aB 0) (aA (aB 1) aC))) (aA (aF F_q2 (aA (aB 0) (aA (aB 1) aC))) (aA (aF F_qo (aA (aB 0) (aA (aB 1) aC))) aC)))) (aE 7)) (aJ (bE (cF (bD (aF (F_qr 6) (aA (aB 7) (aA (aB 5) aC))))) (aR (mC (.bl false))) bQ) (bG (cO (m2 aT (aB 7) (aB 6)) (aB 1)))))) (aR (mC (.bl true))))))))
def F_qk:List Dv->Hs->Rs Dv:=aV 2 8 (CQ)
def MN:M Dv:=(aF F_qx (aA (aB 0) (aA (aB 1) aC)))
def MP:M Dv:=(aF F_q2 (aA (aB 0) (aA (aB 1) aC)))
def MQ:M Dv:=(aF F_qo (aA (aB 0) (aA (aB 1) aC)))
def MR:M Dv:=(aF F_qx (aA (aB 0) (aA (aB 1) aC)))
def MT:M Dv:=(aF F_q2 (aA (aB 0) (aA (aB 1) aC)))
def MU:M Dv:=(aF F_qo (aA (aB 0) (aA (aB 1) aC)))
def MV:M Dv:=(aF F_qh (aA (aB 0) aC))
def MW:M Dv:=(aF F_q3 (aA (aB 0) aC))
def iV:Nat->Option (List Nat×M Dv)
 |0=>some ([1,3],MN)
 |1=>some ([1,3],MP)
 |2=>some ([1,3],MQ)
 |3=>some ([2,3],MR)
 |4=>some ([2,3],MT)
 |5=>some ([2,3],MU)
 |6=>some ([2],MV)
 |7=>some ([2],MW)
 |_=>none
def yA (t:Nat):MS:=(aJ (aM (aL (aA (aF F_qb (aA (aB 0) aC)) (aA (m2 aT (aU (aA (m2 aT (aB 1) (mC (.int 0))) (aA (m1 tJ (mC (.int 1))) (aA (mC (.bl true)) (aA (mC .non) (aA (mC (.str "0")) (aA (aL (aA (mC (.int 0)) aC)) (aA (m2 oW (mC (.int 10)) (mC (.int 29))) aC)))))))) (aF F_qs (aA (aB 0) (aA (mC (.int 7)) aC)))) aC))) (cG 2 (aY (aE 2) (aY (aE 3) cI)))) (aJ (aM (aU (aA (eJ 0 t) aC)) (aE 4)) (aJ (bG (cO (aB 4) (eJ 1 t))) (aJ (bG (cO (aB 4) (eJ 2 t))) (aJ (bE (mB (m2 cB (bR (nZ (bO dD (aB 4)) iV t 4 11 eM)) (m2 nV (aU (aA (aU (aA (mC (.int 4)) aC)) aC)) (mC (.int 3))))) (aR (mC (.bl false))) bQ) (aJ (aM (aU (aA (eJ 3 t) aC)) (aE 4)) (aJ (bG (cO (aB 4) (eJ 4 t))) (aJ (bG (cO (aB 4) (eJ 5 t))) (aJ (bG (cO (aB 4) (eJ 6 t))) (aJ (bG (cO (aB 4) (eJ 7 t))) (aR (m2 bW (bR (nZ (bO dD (aB 4)) iV t 4 11 eM)) (m2 nV (aU (aA (aU (aA (mC (.int 0)) aC)) aC)) (mC (.int 5)))))))))))))))
def F_qa:List Dv->Hs->Rs Dv:=uA 2 5 yA
def yB (scr:List Int):MS:=(aJ (aM (aF (F_ql scr) (aA (aB 0) (aA (aB 1) aC))) (aE 2)) (aJ (aM (aF F_qj (aA (aB 2) (aA (mC (.int 6)) aC))) (aE 3)) (aJ (bE (mB (m2 cB (bR (bL (aS cN (aA (m2 aT (aB 3) (mC (.int 0))) aC)) [none,some 3] (aE 0) (cF (bD (aF F_qk (aA (aB 1) (aA (aB 0) aC))))) (bB (aB 0)))) (aU aC))) (aR (mC (.bl false))) bQ) (aJ (dN (aS cN (aA (mC (.int 2)) aC)) (aE 4) (aJ (aM (aF F_qh (aA (aB 3) aC)) (aE 5)) (aJ (bE (cF (bD (aF (F_qr 6) (aA (aB 5) (aA (aF F_qi (aA (aB 3) aC)) aC))))) (aR (mC (.bl false))) bQ) (bG (cO (aB 5) (aL aC)))))) (aJ (bE (cF (bD (aF (F_qr 6) (aA (aF F_q3 (aA (aB 3) aC)) (aA (aL (aA (m2 aT (aB 3) (mC (.int 0))) (aA (aF (f1 hJ) (aA (aF (f1 kQ) (aA (bR (bL (bO dS (m2 aT (aB 3) (mC (.int 1)))) [none,none] (cG 2 (aY (aE 0) (aY (aE 1) cI))) cU (bB (aL (aA (aB 1) (aA (aB 0) aC)))))) aC)) aC)) aC))) aC))))) (aR (mC (.bl false))) bQ) (bE (cF (bD (aF F_qa (aA (aB 2) (aA (aB 3) aC))))) (aR (mC (.bl false))) bQ))))))
def MX (scr:List Int):MS:=(dN (aS cN (aA (aF mE (aA (mC (.int 1)) (aA (aF pZ (aA (aF (f1 (iC scr)) (aA (aB 0) aC)) (aA (mC (.int 8)) aC))) aC))) aC)) (aE 1) (yB scr))
def k6:MS:=(aR (mC (.bl true)))
def yC (scr:List Int):MS:=(aJ (MX scr) k6)
def F_q4 (scr:List Int):List Dv->Hs->Rs Dv:=aV 1 6 (yC scr)
end L2.Mr.K03
namespace L2.Mr
open PySem PySem.Spec PyProof.Rows L2
section
variable{X:Cx}{G:Cfg}{E:XK}{pos:Pos}
end
def oG:M Dv:=λ_ _=>.bad
def yD (f:bp->M Dv):List bp->M (List Dv)
 | []=>aC
 |e::es=>aA (f e) (yD f es)
def mQ (lk:Str->Option Nat):Nat->bp->M Dv
 |0,_=>oG
 |n+1,e=>match e with
  | .Constant c _ _=>match c with
   | .int i=>mC (.int i)
   | .bool b=>mC (.bl b)
   | .none=>mC .non
   | .str x=>mC (.str x)
   |_=>oG
  | .Tuple es _ _=>aL (yD (mQ lk n) es)
  | .List es _=>aU (yD (mQ lk n) es)
  | .Dict [] [] _=>mC .edc
  | .Name x _=>match lk x with
   |some i=>aB i
   |none=>oG
  | .UnaryOp .USub a _=>m1 tJ (mQ lk n a)
  |_=>oG
def MY (e:bp):Prop:=∀es env,aw (e::es) env=(false,eval e env)::aw es env
section
variable{X:Cx}{G:Cfg}{E:XK}{lk:Str->Option Nat}
theorem yE {e:bp}:aK X G E e oG:=λ_ pins s σ H Q _ ⟨_,_,_,_,_,o⟩=>o.elim
theorem k7 {e:bp}{es:List bp}{ms:M (List Dv)}:dY X G E (e::es) (aA oG ms):=λ_ pos pins s σ H Q _ ⟨_,_,_,_,_,o⟩=>o.elim
theorem CS {f:bp->M Dv}(hf:∀e,aK X G E e (f e)/\(MY e∨f e=oG)):∀es,dY X G E es (yD f es)
 | []=>aN
 |e::es=>by
  obtain⟨a,b|b⟩:=hf e
  ·exact aH a (CS hf es) (b es X.env)
  ·show dY X G E (e::es) (aA (f e) _);rw[b];exact k7
theorem yF (hv:∀x i pos,lk x=some i->aK X G E (.Name x pos) (aB i)):∀n e,aK X G E e (mQ lk n e)/\(MY e∨mQ lk n e=oG)
 |0,_=>⟨yE,.inr rfl⟩
 |n+1,e=>by
  unfold mQ
  split
  ·split
   ·exact⟨bA,.inl λ_ _=>rfl⟩
   ·exact⟨gF,.inl λ_ _=>rfl⟩
   ·exact⟨AY,.inl λ_ _=>rfl⟩
   ·exact⟨vV,.inl λ_ _=>rfl⟩
   ·exact⟨yE,.inr rfl⟩
  ·exact⟨fP (CS (yF hv n) _),.inl λ_ _=>rfl⟩
  ·exact⟨fR (CS (yF hv n) _),.inl λ_ _=>rfl⟩
  ·exact⟨W8,.inl λ_ _=>rfl⟩
  ·rename_i x pos
   split
   ·rename_i i q;exact⟨hv x i pos q,.inl λ_ _=>rfl⟩
   ·exact⟨yE,.inr rfl⟩
  ·exact⟨JQ (yF hv n _).1,.inl λ_ _=>rfl⟩
  ·exact⟨yE,.inr rfl⟩
theorem qU (n:Nat) {e:bp}{m:M Dv}(h:mQ (λ_=>none) n e=m:=by rfl):aK X G E e m:=h▸(yF (λ_ _ _ h=>by cases h) n e).1
end
structure SW (X:Cx) (G:Cfg) (E:XK) (st:gy) (m:MS):Prop where
 ok:iM X G E st m
structure SWs (X:Cx) (G:Cfg) (E:XK) (st:List gy) (m:MS):Prop where
 ok:iN X G E st m
section
variable{X:Cx}{G:Cfg}{E:XK}{st:gy}{rest:List gy}{m u:MS}{pos:Pos}
theorem CT (a:SW X G E st m) (b:SWs X G E rest u):SWs X G E (st::rest) (aJ m u):=⟨aX a.ok b.ok⟩
theorem k8 (a:SW X G E st m):SWs X G E [st] m:=⟨bF a.ok⟩
theorem k9 (n:Nat) {i:Nat}{x:Str}{pos':Pos}{e:bp}{me:M Dv}(hN:X.N.Nodup) (hi:X.N[i]?=some x) (hx:kT X.env.scope x) (h:mQ (λ_=>none) n e=me:=by rfl) (hs:swapsWith e (some (.Name x pos')) pos.line X.env=pure false:=by rfl) (hf:X.fn x=true∨X.env.scope.names.lookup x=some .local:=by first|exact .inl rfl|exact .inr rfl|assumption):
  SW X G E (.Assign [.Name x pos'] e pos) (aM me (aE i)):=⟨A5 hN hi hx (qU n h) hs hf⟩
theorem MZ (n:Nat) {i:Nat}{x:Str}{pos' p2 p3:Pos}{e:bp}{me:M Dv}(hN:X.N.Nodup) (hi:X.N[i]?=some x) (hx:kT X.env.scope x) (hv:aK X G E (.Name x p2) (aB i)) (h:mQ (λ_=>none) n e=me:=by rfl) (hs:swapsWith (.BinOp (.Name x p2) .Add e p3) (some (.Name x pos')) pos.line X.env=pure false:=by rfl) (hf:X.fn x=true∨X.env.scope.names.lookup x=some .local:=by first|exact .inl rfl|exact .inr rfl|assumption):
  SW X G E (.Assign [.Name x pos'] (.BinOp (.Name x p2) .Add e p3) pos) (aM (m2 bX (aB i) me) (aE i)):=⟨A5 hN hi hx (iQ hv (qU n h)) hs hf⟩
end
section
variable{P:bj}{w:cm}{K:aq}{mg:Str->Option af}{base:cq}{G:Cfg}{N:List Str}{f:ah}{k:Nat}
theorem l6 {x qual:Str}{st:gy}{fd:bq}{ps:List Str}{mb:MS}(Fn:Fun K x qual st f fd) (S:FnScope N ps (aO st)) (hK:K=G.K)
  (hbody:∀(cdv:af) (A:cj) (outer:List Env) (s:ag) (H:Hp) (E₀ E:XK),Good (eQ (aZ P w base) P w K mg base N qual (aO st) f cdv A outer s H E₀) G E k->SWs (eQ (aZ P w base) P w K mg base N qual (aO st) f cdv A outer s H E₀) G E (eZ st) mb):
  FnOk P w K mg base (aZ P w base) (k+1) f fd ps (cH G (aV ps.length N.length mb)):=dQ Fn S hK λcdv A outer s H E₀ E g=>(hbody cdv A outer s H E₀ E g).ok
end
open SR
section
variable{prog:bj}{w:cm}{A:cj}{E:af->ag->Prop}{s:ag}
end
section
variable{X:Cx}{G:Cfg}{E:XK}{k:Nat}{e:bp}{aS:M (List Dv)}{p p2 pos pos2:Pos}
end
section
variable{prog:bj}{w:cm}{A:cj}{E:af->ag->Prop}{s:ag}{z TI TO i j u v T:ah}{xs ys:List af}{st su:Nat->cq->Prop}{f1:Bool}
end
section
variable{X:Cx}{pins:List (ah×Obj)}{σ:St}{H:Hp}{s:ag}{B:cj}{z TI TO i j t u:ah}{vs ws:List V}{n:Nat}
end
section
variable{X:Cx}{pins:List (ah×Obj)}{σ:St}{B:cj}{z TI TO i j t u S:ah}{vs ws:List V}{H0:Hp}
end
section
variable{X:Cx}{G:Cfg}{E:XK}{a b:bp}{ta:TA}{ms:M (List Dv)}{p p2 pos pos2:Pos}
end
open PySem.SeqAt PySem.MeetsSeq PySem.MeetsSeq2 PySem.MeetsSeq3
section
variable{prog:bj}{w:cm}{A:cj}{Ee:af->ag->Prop}{s:ag}
end
section
variable{X:Cx}{G:Cfg}{E:XK}{k:Nat}{e:bp}{aS:M (List Dv)}{p p2 pos pos2:Pos}
end
section
variable{prog:bj}{w:cm}{A:cj}{I S:ah}{fp wr:List ah}{n:Nat}{P:Nat->af->Prop}{St:Nat->cq->Prop}{R:yj->ag->Prop}{ky:Nat->Int}{d:af}
end
section
variable{X:Cx}{G:Cfg}{E:XK}{e:bp}{ml:M (List Dv)}{p pos kpos:Pos}
end
section
variable{X:Cx}{G:Cfg}{E:XK}{o i o' i' e:bp}{me mo mi mo' mi':M Dv}{pos spos spos' tpos:Pos}{kt:Nat}
end
section
variable{X:Cx}{G:Cfg}{E:XK}{e:bp}{aS:M (List Dv)}{p pos:Pos}
end
section
variable{X:Cx}{G:Cfg}{E:XK}{e:bp}{me:M Dv}{pos pos':Pos}{i:Nat}{x:Str}
theorem bU (hN:X.N.Nodup) (hi:X.N[i]?=some x:=by rfl) (hx:kT X.env.scope x:=by first|exact .inl rfl|exact .inr rfl) (hf:X.fn x=true∨X.env.scope.names.lookup x=some .local:=by first|exact .inl rfl|exact .inr rfl|assumption):jN X G (.Name x pos) (aE i):=VE hN hi hx hf
theorem cX (hN:X.N.Nodup) (he:aK X G E e me) (hi:X.N[i]?=some x:=by rfl) (hx:kT X.env.scope x:=by first|exact .inl rfl|exact .inr rfl) (hs:swapsWith e (some (.Name x pos')) pos.line X.env=pure false:=by rfl) (hf:X.fn x=true∨X.env.scope.names.lookup x=some .local:=by first|exact .inl rfl|exact .inr rfl|assumption):iM X G E (.Assign [.Name x pos'] e pos) (aM me (aE i)):=A5 hN hi hx he hs hf
theorem eY {sc os:fq}{oN N:List Str}{cap:List (Option Nat)}(hs:X.env.scope.names=os.names:=by rfl) (hN:X.N=oN:=by rfl) (h1:sc.kind=.function:=by rfl) (h2:∀p∈sc.names,p.2=.local->sc.names.lookup p.1=some .local:=by decide +kernel) (h3:cap.length=N.length:=by rfl)
  (h4:∀p∈sc.names,p.2=.free->os.names.lookup p.1=some .cell∨os.names.lookup p.1=some .free:=by decide +kernel) (h5:∀p∈sc.names,p.2=.free->(p.1,dk)∉sc.names:=by decide +kernel) (h6:∀q∈cap.zip N,∀j∈q.1,oN[j]?=some q.2/\sc.names.lookup q.2=some .free:=by decide +kernel):CapOk X sc N cap:=XD hs hN h1 h2 h3 h4 h5 h6
end
theorem dE {N P:List Str}{sc:fq}(h1:sc.kind=.function:=by rfl) (h2:sc.isCoroutine=false:=by rfl) (h3:sc.isGenerator=false:=by rfl) (h4:N.Nodup:=by decide +kernel) (h5:N.take P.length=P:=by rfl) (h6:∀x∈P,sc.names.lookup x=some .local∨sc.names.lookup x=some .cell:=by decide +kernel) (h7:∀y∈sc.names,y.2≠.free:=by decide +kernel):FnScope N P sc:=⟨h1,h2,h3,h4,h5,h6,h7⟩
theorem bS {k:Nat}{f:ah}{X:Cx}{G:Cfg}{E:XK}{F:List Dv->Hs->Rs Dv}{ps:List Str}{fd:bq}{x:Str}{p pos:Pos}{e:bp}{es:List bp}{ms:M (List Dv)}{j:Nat}(g:Good X G E k) (Fn:FnOk X.prog X.w X.K X.mg X.base (aZ X.prog X.w X.base) j f fd ps (cH G F))
  (hm:X.mg x=some (.ref f)) (hk:ju X.K (.ref f)=true) (hb:Binds X.K fd ps []) (ha:dY X G E (e::es) ms) (hj:j<=k:=by decide) (hg:Gl X x:=by exact rfl)
  (hdb:(x==("__debug__" : Str))=false:=by decide) (he:aw (e::es) X.env=(false,eval e X.env)::aw es X.env:=by rfl) (hpl:(backTo pos (aw es X.env)).any (·.1)=false:=by rfl):
  aK X G E (.Call (.Name x p) (e::es) [] pos) (aF F ms):=IJ g Fn hj hg hm hk hb ha hdb he hpl
open PySem.W in
theorem dF {F:List (Frag->Bool)}{K:Frag}{l m:List (Option bq)}(hf:l=m) (hc:F.all (λf=>f K)=true) (f:ah) (st:gy) (n:Str) (c:ah) (ps:List Str) (i j k:Nat)
  (hb:∀(kV doc pm:af) (an:Option ah) (cdv ct:af) (us:List af),us.length=ps.length->bindArgs (fnOf n n (nA st) (eZ st) (aO st) .none kV doc pm an cdv ct) ⟨us,[]⟩=pure (ps.zip us))
  (h1:l[i]?=some (cT K f):=by rfl) (h2:m[i]?=some (some (fnOf n n (nA st) (eZ st) (aO st) .none .none .none .none none (.ref c) .none)):=by rfl) (h3:F[j]?=some (codeIn · (.ref c) n):=by rfl) (h4:F[k]?=some (keepIn · (.ref f)):=by rfl):
  ∃fd:bq,Fun K n n st f fd/\Binds K fd ps []/\fd.code=.ref c/\∀us:List af,us.length=ps.length->bindArgs fd ⟨us,[]⟩=pure (ps.zip us):=XC (O9 hf i h1 h2) (mW hc j h3) (mW hc k h4) hb
end L2.Mr
namespace L2.Mr.K03
open PySem PySem.Spec PyProof.Rows L2 L2.Mr
open L2.Mr.Com
open L2.Mr.Sam
def dG (i:Nat):gy:=aa.main.body.getD i (.Pass ⟨0,0,0,0⟩)
abbrev CU:gy:=dG 14
abbrev CV:gy:=dG 15
abbrev yG:gy:=dG 16
abbrev CW:gy:=dG 19
abbrev yH:gy:=dG 20
abbrev CY:gy:=dG 21
abbrev yI:gy:=dG 22
abbrev yJ:gy:=dG 23
abbrev yK:gy:=dG 24
abbrev CZ:gy:=dG 25
abbrev DC:gy:=dG 26
abbrev DD:gy:=dG 27
abbrev yL:gy:=dG 28
abbrev yM:gy:=dG 29
abbrev DE:gy:=dG 30
abbrev yN:gy:=dG 31
abbrev yO:gy:=dG 32
abbrev yP:gy:=dG 33
abbrev DF:gy:=dG 35
abbrev DG:gy:=dG 36
abbrev DH:gy:=dG 37
abbrev DI:gy:=dG 38
abbrev yQ:gy:=dG 39
abbrev uD:gy:=dG 40
abbrev DJ:gy:=dG 41
abbrev DK:gy:=dG 42
abbrev yR:gy:=dG 43
abbrev pI:gy:=dG 44
abbrev pJ:gy:=dG 45
abbrev cK:gy:=dG 46
abbrev uE:gy:=dG 47
structure Ad where
 f_q0:ah
 fd_q0:bq
 f_qn:ah
 fd_qn:bq
 f_qw:ah
 fd_qw:bq
 f_qz:ah
 fd_qz:bq
 f_qm:ah
 fd_qm:bq
 f_q1:ah
 fd_q1:bq
 f_qu:ah
 fd_qu:bq
 f_qv:ah
 fd_qv:bq
 f_qg:ah
 fd_qg:bq
 f_qy:ah
 fd_qy:bq
 f_qp:ah
 fd_qp:bq
 f_qq:ah
 fd_qq:bq
 f_qx:ah
 fd_qx:bq
 f_q2:ah
 fd_q2:bq
 f_qt:ah
 fd_qt:bq
 f_qo:ah
 fd_qo:bq
 f_qh:ah
 fd_qh:bq
 f_q3:ah
 fd_q3:bq
 f_qd:ah
 fd_qd:bq
 f_ql:ah
 fd_ql:bq
 f_qs:ah
 fd_qs:bq
 f_qc:ah
 fd_qc:bq
 f_qf:ah
 fd_qf:bq
 f_qj:ah
 fd_qj:bq
 f_qi:ah
 fd_qi:bq
 f_qb:ah
 fd_qb:bq
 f_qr:ah
 fd_qr:bq
 f_qe:ah
 fd_qe:bq
 f_qk:ah
 fd_qk:bq
 f_qa:ah
 fd_qa:bq
 f_q4:ah
 fd_q4:bq
 c_NoOrder:ah
 c_NoNumber:ah
 c_NoPairs:ah
 c_Round:ah
 c_NoThing:ah
 c_NoRow:ah
 c_TooMany:ah
 c_TooFew:ah
 c_NoText:ah
 c_NoLine:ah
 c_NoDeed:ah
 t_MOST_THINGS:Tok
 NE:ah
 cc:ah
 P:ah
structure Tx (K:aq) (mg:Str->Option af) (G:Cf0) (A:Ad):Prop where
 hK:K=G.K
 F_q0:Fun K "is_whole" "is_whole" CU A.f_q0 A.fd_q0
 B_q0:Binds K A.fd_q0 ["thing"] []
 m_q0:mg "is_whole" = some (.ref A.f_q0)
 F_qn:Fun K "is_between" "is_between" CV A.f_qn A.fd_qn
 B_qn:Binds K A.fd_qn ["thing","low","high"] []
 m_qn:mg "is_between" = some (.ref A.f_qn)
 F_qw:Fun K "is_rising" "is_rising" yG A.f_qw A.fd_qw
 B_qw:Binds K A.fd_qw ["parts"] []
 m_qw:mg "is_rising" = some (.ref A.f_qw)
 F_qz:Fun K "is_thing" "is_thing" CW A.f_qz A.fd_qz
 B_qz:Binds K A.fd_qz ["many","thing"] []
 m_qz:mg "is_thing" = some (.ref A.f_qz)
 F_qm:Fun K "are_things" "are_things" yH A.f_qm A.fd_qm
 B_qm:Binds K A.fd_qm ["many","thing"] []
 m_qm:mg "are_things" = some (.ref A.f_qm)
 F_q1:Fun K "is_pair" "is_pair" CY A.f_q1 A.fd_q1
 B_q1:Binds K A.fd_q1 ["many","thing"] []
 m_q1:mg "is_pair" = some (.ref A.f_q1)
 F_qu:Fun K "are_pairs" "are_pairs" yI A.f_qu A.fd_qu
 B_qu:Binds K A.fd_qu ["many","things"] []
 m_qu:mg "are_pairs" = some (.ref A.f_qu)
 F_qv:Fun K "has_alike" "has_alike" yJ A.f_qv A.fd_qv
 B_qv:Binds K A.fd_qv ["pairs"] []
 m_qv:mg "has_alike" = some (.ref A.f_qv)
 F_qg:Fun K "is_complete" "is_complete" yK A.f_qg A.fd_qg
 B_qg:Binds K A.fd_qg ["pairs"] []
 m_qg:mg "is_complete" = some (.ref A.f_qg)
 F_qy:Fun K "is_order" "is_order" CZ A.f_qy A.fd_qy
 B_qy:Binds K A.fd_qy ["thing"] []
 m_qy:mg "is_order" = some (.ref A.f_qy)
 F_qp:Fun K "need_order" "need_order" DC A.f_qp A.fd_qp
 B_qp:Binds K A.fd_qp ["order"] []
 m_qp:mg "need_order" = some (.ref A.f_qp)
 F_qq:Fun K "need_thing" "need_thing" DD A.f_qq A.fd_qq
 B_qq:Binds K A.fd_qq ["order","thing"] []
 m_qq:mg "need_thing" = some (.ref A.f_qq)
 F_qx:Fun K "ahead_of" "ahead_of" yL A.f_qx A.fd_qx
 B_qx:Binds K A.fd_qx ["order","thing"] []
 m_qx:mg "ahead_of" = some (.ref A.f_qx)
 F_q2:Fun K "behind" "behind" yM A.f_q2 A.fd_q2
 B_q2:Binds K A.fd_q2 ["order","thing"] []
 m_q2:mg "behind" = some (.ref A.f_q2)
 F_qt:Fun K "are_loose" "are_loose" DE A.f_qt A.fd_qt
 B_qt:Binds K A.fd_qt ["order","one","other"] []
 m_qt:mg "are_loose" = some (.ref A.f_qt)
 F_qo:Fun K "loose_from" "loose_from" yN A.f_qo A.fd_qo
 B_qo:Binds K A.fd_qo ["order","thing"] []
 m_qo:mg "loose_from" = some (.ref A.f_qo)
 F_qh:Fun K "loose_pairs" "loose_pairs" yO A.f_qh A.fd_qh
 B_qh:Binds K A.fd_qh ["order"] []
 m_qh:mg "loose_pairs" = some (.ref A.f_qh)
 F_q3:Fun K "turned" "turned" yP A.f_q3 A.fd_q3
 B_q3:Binds K A.fd_q3 ["order"] []
 m_q3:mg "turned" = some (.ref A.f_q3)
 F_qd:Fun K "_law_cell_at" "_law_cell_at" DF A.f_qd A.fd_qd
 B_qd:Binds K A.fd_qd ["_law_script","_law_k"] []
 m_qd:mg "_law_cell_at" = some (.ref A.f_qd)
 F_ql:Fun K "_law_state" "_law_state" DG A.f_ql A.fd_ql
 B_ql:Binds K A.fd_ql ["_law_script","_law_k"] []
 m_ql:mg "_law_state" = some (.ref A.f_ql)
 F_qs:Fun K "_law_take" "_law_take" DH A.f_qs A.fd_qs
 B_qs:Binds K A.fd_qs ["_law_state_here","_law_many"] []
 m_qs:mg "_law_take" = some (.ref A.f_qs)
 F_qc:Fun K "_law_mixed_row" "_law_mixed_row" DI A.f_qc A.fd_qc
 B_qc:Binds K A.fd_qc ["_law_state_here","_law_things"] []
 m_qc:mg "_law_mixed_row" = some (.ref A.f_qc)
 F_qf:Fun K "_law_closed" "_law_closed" yQ A.f_qf A.fd_qf
 B_qf:Binds K A.fd_qf ["_law_pairs"] []
 m_qf:mg "_law_closed" = some (.ref A.f_qf)
 F_qj:Fun K "_law_order" "_law_order" uD A.f_qj A.fd_qj
 B_qj:Binds K A.fd_qj ["_law_state_here","_law_most"] []
 m_qj:mg "_law_order" = some (.ref A.f_qj)
 F_qi:Fun K "_law_loose" "_law_loose" DJ A.f_qi A.fd_qi
 B_qi:Binds K A.fd_qi ["_law_order_here"] []
 m_qi:mg "_law_loose" = some (.ref A.f_qi)
 F_qb:Fun K "_law_bad_order" "_law_bad_order" DK A.f_qb A.fd_qb
 B_qb:Binds K A.fd_qb ["_law_state_here"] []
 m_qb:mg "_law_bad_order" = some (.ref A.f_qb)
 F_qr:Fun K "_law_same" "_law_same" yR A.f_qr A.fd_qr
 B_qr:Binds K A.fd_qr ["_law_found","_law_due"] []
 m_qr:mg "_law_same" = some (.ref A.f_qr)
 F_qe:Fun K "_law_refused" "_law_refused" pI A.f_qe A.fd_qe
 B_qe:Binds K A.fd_qe ["_law_call"] []
 m_qe:mg "_law_refused" = some (.ref A.f_qe)
 F_qk:Fun K "_law_right" "_law_right" pJ A.f_qk A.fd_qk
 B_qk:Binds K A.fd_qk ["_law_order_here","_law_thing"] []
 m_qk:mg "_law_right" = some (.ref A.f_qk)
 F_qa:Fun K "_law_refusals_right" "_law_refusals_right" cK A.f_qa A.fd_qa
 B_qa:Binds K A.fd_qa ["_law_state_here","_law_order_here"] []
 m_qa:mg "_law_refusals_right" = some (.ref A.f_qa)
 F_q4:Fun K "law" "law" uE A.f_q4 A.fd_q4
 B_q4:Binds K A.fd_q4 ["_law_script"] []
 m_q4:mg "law" = some (.ref A.f_q4)
 z_ValueError:mg "ValueError" = none
 z_all:mg "all" = none
 z_any:mg "any" = none
 z_bool:mg "bool" = none
 z_int:mg "int" = none
 z_isinstance:mg "isinstance" = none
 z_len:mg "len" = none
 z_list:mg "list" = none
 z_max:mg "max" = none
 z_min:mg "min" = none
 z_range:mg "range" = none
 z_set:mg "set" = none
 z_sorted:mg "sorted" = none
 z_tuple:mg "tuple" = none
 z_zip:mg "zip" = none
 c_MOST_THINGS:mg "MOST_THINGS" = some (.int 6 A.t_MOST_THINGS)
 n_NoOrder:mg "NoOrder" = some (.ref A.c_NoOrder)
 n_NoNumber:mg "NoNumber" = some (.ref A.c_NoNumber)
 n_NoPairs:mg "NoPairs" = some (.ref A.c_NoPairs)
 n_Round:mg "Round" = some (.ref A.c_Round)
 n_NoThing:mg "NoThing" = some (.ref A.c_NoThing)
 n_NoRow:mg "NoRow" = some (.ref A.c_NoRow)
 n_TooMany:mg "TooMany" = some (.ref A.c_TooMany)
 n_TooFew:mg "TooFew" = some (.ref A.c_TooFew)
 n_NoText:mg "NoText" = some (.ref A.c_NoText)
 n_NoLine:mg "NoLine" = some (.ref A.c_NoLine)
 n_NoDeed:mg "NoDeed" = some (.ref A.c_NoDeed)
 ns_NoOrder:ur K da "NoOrder" = some (some (.ref A.c_NoOrder))
 x_NoOrder:ub K A.c_NoOrder wN "ValueError.__new__" = true
 ce_NoOrder:A.c_NoOrder=G.cl 0
 ns_NoThing:ur K da "NoThing" = some (some (.ref A.c_NoThing))
 x_NoThing:ub K A.c_NoThing wN "ValueError.__new__" = true
 ce_NoThing:A.c_NoThing=G.cl 4
 ktV:∀c b,tblV.lookup c=some b->de G.K (.ref (G.cl c)) (.type "ValueError")=some b/\ExK G.K (G.cl c)
 kt0:∀c b,tbl0.lookup c=some b->de G.K (.ref (G.cl c)) (.ref A.c_NoOrder)=some b/\ExK G.K (G.cl c)
 kt1:∀c b,tbl1.lookup c=some b->de G.K (.ref (G.cl c)) (.ref A.c_NoNumber)=some b/\ExK G.K (G.cl c)
 kt2:∀c b,tbl2.lookup c=some b->de G.K (.ref (G.cl c)) (.ref A.c_NoPairs)=some b/\ExK G.K (G.cl c)
 kt3:∀c b,tbl3.lookup c=some b->de G.K (.ref (G.cl c)) (.ref A.c_Round)=some b/\ExK G.K (G.cl c)
 kt4:∀c b,tbl4.lookup c=some b->de G.K (.ref (G.cl c)) (.ref A.c_NoThing)=some b/\ExK G.K (G.cl c)
 kt5:∀c b,tbl5.lookup c=some b->de G.K (.ref (G.cl c)) (.ref A.c_NoRow)=some b/\ExK G.K (G.cl c)
 kt6:∀c b,tbl6.lookup c=some b->de G.K (.ref (G.cl c)) (.ref A.c_TooMany)=some b/\ExK G.K (G.cl c)
 kt7:∀c b,tbl7.lookup c=some b->de G.K (.ref (G.cl c)) (.ref A.c_TooFew)=some b/\ExK G.K (G.cl c)
 kt8:∀c b,tbl8.lookup c=some b->de G.K (.ref (G.cl c)) (.ref A.c_NoText)=some b/\ExK G.K (G.cl c)
 kt9:∀c b,tbl9.lookup c=some b->de G.K (.ref (G.cl c)) (.ref A.c_NoLine)=some b/\ExK G.K (G.cl c)
 kt10:∀c b,tbl10.lookup c=some b->de G.K (.ref (G.cl c)) (.ref A.c_NoDeed)=some b/\ExK G.K (G.cl c)
 n_NearError:mg "NearError" = some (.ref A.NE)
 e1:jq K (.ref A.NE) (.type "BaseException")=some true
 e2:jq K (.type "type") (.type "tuple")=some false
 e3:wm K (.ref A.NE) (.ref A.NE)=some true
 e4:∀c,c<11->jq K (.ref (G.cl c)) (.ref A.NE)=some true
 lq:(("_law_refusals_right" : Str) ++ ".<locals>.") ++ "<lambda>" = G.lq
 tab:G.tab=some A.P
 code:A.fd_qa.code=.ref A.cc
theorem M4:(["one","other"]:List Str).Nodup:=by decide +kernel
theorem l8:(["part","many"]:List Str).Nodup:=by decide +kernel
theorem l9:(["thing","many"]:List Str).Nodup:=by decide +kernel
theorem yS:(["a","b"]:List Str).Nodup:=by decide +kernel
theorem yT:(["a","b","middle","c","pairs"]:List Str).Nodup:=by decide +kernel
theorem M5:(["thing","many","pairs"]:List Str).Nodup:=by decide +kernel
theorem yU:(["a","b","thing"]:List Str).Nodup:=by decide +kernel
theorem m6:(["order","one","other","pairs"]:List Str).Nodup:=by decide +kernel
theorem m7:(["other","order","thing"]:List Str).Nodup:=by decide +kernel
theorem m8:(["order","many"]:List Str).Nodup:=by decide +kernel
theorem M6:(["a","b","order","many"]:List Str).Nodup:=by decide +kernel
theorem M7:(["order","many","pairs"]:List Str).Nodup:=by decide +kernel
theorem m9:(["_law_script","_law_k","_law_cell"]:List Str).Nodup:=by decide +kernel
theorem DL:(["_law_state_here","_law_many","_law_found","_law_stirred"]:List Str).Nodup:=by decide +kernel
theorem M8:(["_law_state_here","_law_things","_law_left","_law_found"]:List Str).Nodup:=by decide +kernel
theorem qV:(["_law_pairs","_law_found","_law_later","_law_a","_law_b"]:List Str).Nodup:=by decide +kernel
theorem M9:(["_law_c","_law_d","_law_a","_law_b"]:List Str).Nodup:=by decide +kernel
theorem jF:(["_law_state_here","_law_most","_law_many","_law_row","_law_way","_law_pairs","_law_marks","_law_i","_law_j","_law_near"]:List Str).Nodup:=by decide +kernel
theorem n9:(["_law_thing","_law_state_here"]:List Str).Nodup:=by decide +kernel
theorem o7:(["_law_j","_law_i","_law_marks"]:List Str).Nodup:=by decide +kernel
theorem DM:(["_law_order_here","_law_found","_law_a","_law_b"]:List Str).Nodup:=by decide +kernel
theorem DN:(["_law_state_here","_law_some"]:List Str).Nodup:=by decide +kernel
theorem NA:(["_law_one","_law_other"]:List Str).Nodup:=by decide +kernel
theorem yV:(["_law_call","_law_error","e","_law_marks"]:List Str).Nodup:=by decide +kernel
theorem p0:(["_law_k","_law_marks"]:List Str).Nodup:=by decide +kernel
theorem qW:(["_law_order_here","_law_thing","_law_many","_law_pairs","_law_others","_law_due","_law_turn","_law_found"]:List Str).Nodup:=by decide +kernel
theorem p6:(["_law_other","_law_thing"]:List Str).Nodup:=by decide +kernel
theorem p7:(["_law_b","_law_pairs","_law_thing"]:List Str).Nodup:=by decide +kernel
theorem p8:(["_law_a","_law_pairs","_law_thing"]:List Str).Nodup:=by decide +kernel
theorem p9:(["_law_other","_law_due"]:List Str).Nodup:=by decide +kernel
theorem yW:(["_law_state_here","_law_order_here","_law_bad","_law_none","_law_calls"]:List Str).Nodup:=by decide +kernel
theorem NB:(["_law_call"]:List Str).Nodup:=by decide +kernel
theorem uF:(["_law_script","_law_k","_law_state_here","_law_order_here","_law_turn","_law_found"]:List Str).Nodup:=by decide +kernel
theorem q5:(["_law_thing","_law_order_here"]:List Str).Nodup:=by decide +kernel
theorem NC:(["_law_a","_law_b"]:List Str).Nodup:=by decide +kernel
section
variable{P:bj}{w:cm}{K:aq}{mg:Str->Option af}{base:cq}{G:Cfg}{A:Ad}
theorem q9:FnScope ["thing"] ["thing"] (aO CU):=dE
theorem r8 (T:Tx K mg G A):FnOk P w K mg base (aZ P w base) 1 A.f_q0 A.fd_q0 ["thing"] (cH G F_q0):=dQ (k:=0) T.F_q0 q9 T.hK λ_ _ _ _ _ _ _ g=>(bF (cC (nE (XT rfl T.z_isinstance rfl T.z_int (aD 0)) (oQ (HJ (BK rfl T.z_isinstance rfl T.z_bool (aD 0)))))))
theorem r9:FnScope ["thing","low","high"] ["thing","low","high"] (aO CV):=dE
theorem ND (T:Tx K mg G A):FnOk P w K mg base (aZ P w base) 2 A.f_qn A.fd_qn ["thing","low","high"] (cH G F_qn):=dQ (k:=1) T.F_qn r9 T.hK λ_ _ _ _ _ _ _ g=>(bF (cC (nE (bS g (r8 T) T.m_q0 T.F_q0.kp T.B_q0 (aH (aD 0) aN)) (oQ (XH (aD 1) (aD 0) (aD 2))))))
theorem t9:FnScope ["parts"] ["parts"] (aO yG):=dE
theorem u0 (T:Tx K mg G A):FnOk P w K mg base (aZ P w base) 1 A.f_qw A.fd_qw ["parts"] (cH G F_qw):=dQ (k:=0) T.F_qw t9 T.hK λ_ _ _ _ _ _ _ g=>(bF (cC (sX g.calm rfl T.z_all (gI g.calm (eY (N:=["one","other"]) (cap:=[none,none]) (os:=(aO yG)) (oN:=["parts"])) (WN rfl T.z_zip (aH (aD 0) (aH (Z9 (aD 0) (W7 bA) W6) aN))) (λ_ _ _=>(iE (dO g).calm (dI (bU (i:=0) M4) (dI (bU (i:=1) M4) iD)))) (λ_ _ _=>kX) (λ_ _ _=>(MD (dO g) (aD 0) (aD 1)))))))
theorem u5:FnScope ["many","thing"] ["many","thing"] (aO CW):=dE
theorem NF (T:Tx K mg G A):FnOk P w K mg base (aZ P w base) 3 A.f_qz A.fd_qz ["many","thing"] (cH G F_qz):=dQ (k:=2) T.F_qz u5 T.hK λ_ _ _ _ _ _ _ g=>(bF (cC (bS g (ND T) T.m_qn T.F_qn.kp T.B_qn (aH (aD 1) (aH bA (aH (BI (aD 0) bA) aN))))))
theorem u6:FnScope ["many","thing"] ["many","thing"] (aO yH):=dE
theorem u7 (T:Tx K mg G A):FnOk P w K mg base (aZ P w base) 4 A.f_qm A.fd_qm ["many","thing"] (cH G F_qm):=dQ (k:=3) T.F_qm u6 T.hK λ_ _ _ _ _ _ _ g=>(bF (cC (nE (tL rfl T.z_isinstance rfl T.z_tuple (aD 1)) (oQ (sX g.calm rfl T.z_all (gI g.calm (eY (N:=["part","many"]) (cap:=[none,some 0]) (os:=(aO yH)) (oN:=["many","thing"])) (mF (aD 1)) (λ_ _ _=>(bU (i:=0) l8)) (λ_ _ _=>kX) (λ_ _ _=>(bS (dO g) (NF T) T.m_qz T.F_qz.kp T.B_qz (aH (aD 1) (aH (aD 0) aN))))))))))
theorem u9:FnScope ["many","thing"] ["many","thing"] (aO CY):=dE
theorem v5 (T:Tx K mg G A):FnOk P w K mg base (aZ P w base) 5 A.f_q1 A.fd_q1 ["many","thing"] (cH G F_q1):=dQ (k:=4) T.F_q1 u9 T.hK λ_ _ _ _ _ _ _ g=>(bF (cC (nE (bS g (u7 T) T.m_qm T.F_qm.kp T.B_qm (aH (aD 0) (aH (aD 1) aN))) (oQ (nS g (tM rfl T.z_len (aH (aD 1) aN)) bA)))))
theorem v7:FnScope ["many","things"] ["many","things"] (aO yI):=dE
theorem v8 (T:Tx K mg G A):FnOk P w K mg base (aZ P w base) 6 A.f_qu A.fd_qu ["many","things"] (cH G F_qu):=dQ (k:=5) T.F_qu v7 T.hK λ_ _ _ _ _ _ _ g=>(bF (cC (sX g.calm rfl T.z_all (gI g.calm (eY (N:=["thing","many"]) (cap:=[none,some 0]) (os:=(aO yI)) (oN:=["many","things"])) (mF (aD 1)) (λ_ _ _=>(bU (i:=0) l9)) (λ_ _ _=>kX) (λ_ _ _=>(bS (dO g) (v5 T) T.m_q1 T.F_q1.kp T.B_q1 (aH (aD 1) (aH (aD 0) aN))))))))
theorem v9:FnScope ["pairs"] ["pairs"] (aO yJ):=dE
theorem y8 (T:Tx K mg G A):FnOk P w K mg base (aZ P w base) 1 A.f_qv A.fd_qv ["pairs"] (cH G F_qv):=dQ (k:=0) T.F_qv v9 T.hK λ_ _ _ _ _ _ _ g=>(bF (cC (WA g.calm rfl T.z_any (gI g.calm (eY (N:=["a","b"]) (cap:=[none,none]) (os:=(aO yJ)) (oN:=["pairs"])) (mF (aD 0)) (λ_ _ _=>(iE (dO g).calm (dI (bU (i:=0) yS) (dI (bU (i:=1) yS) iD)))) (λ_ _ _=>kX) (λ_ _ _=>(nS (dO g) (aD 0) (aD 1)))))))
theorem y9:FnScope ["pairs"] ["pairs"] (aO yK):=dE
theorem z9 (T:Tx K mg G A):FnOk P w K mg base (aZ P w base) 1 A.f_qg A.fd_qg ["pairs"] (cH G F_qg):=dQ (k:=0) T.F_qg y9 T.hK λ_ _ _ _ _ _ _ g=>(bF (cC (sX g.calm rfl T.z_all (ID g.calm (eY (N:=["a","b","middle","c","pairs"]) (cap:=[none,none,none,none,some 0]) (os:=(aO yK)) (oN:=["pairs"])) (mF (aD 0)) (λ_ _ _=>(iE (dO g).calm (dI (bU (i:=0) yT) (dI (bU (i:=1) yT) iD)))) (λ_ _ _=>kX) (λ_ _ _=>(mF (aD 4))) (λ_ _ _=>(iE (dO g).calm (dI (bU (i:=2) yT) (dI (bU (i:=3) yT) iD)))) (λ_ _ _=>(jC (qJ (dO g) (aD 1) (aD 2)))) (λ_ _ _=>(YF (dO g) (fP (aH (aD 0) (aH (aD 3) aN))) (aD 4)))))))
theorem z00:FnScope ["thing","many","pairs"] ["thing"] (aO CZ):=dE
theorem z01 (T:Tx K mg G A):FnOk P w K mg base (aZ P w base) 7 A.f_qy A.fd_qy ["thing"] (cH G F_qy):=dQ (k:=6) T.F_qy z00 T.hK λ_ _ _ _ _ _ _ g=>(aX (fG (SndW.t (vX (iY (fS (tL rfl T.z_isinstance rfl T.z_tuple (aD 0)))) (vW (nU g (tM rfl T.z_len (aH (aD 0) aN)) bA)))) (bF (cC gF)) fF) (aX (wG (aD 0) (iE g.calm (dI (bU (i:=1) M5) (dI (bU (i:=2) M5) iD)))) (aX (fG (SndW.t (vX (iY (fS (bS g (ND T) T.m_qn T.F_qn.kp T.B_qn (aH (aD 1) (aH bA (aH (W9 rfl T.c_MOST_THINGS) aN)))))) (vW (iY (fS (tL rfl T.z_isinstance rfl T.z_tuple (aD 2))))))) (bF (cC gF)) fF) (aX (fG (SndW.t (vX (iY (fS (bS g (v8 T) T.m_qu T.F_qu.kp T.B_qu (aH (aD 1) (aH (aD 2) aN))))) (vW (iY (fS (bS g (u0 T) T.m_qw T.F_qw.kp T.B_qw (aH (aD 2) aN))))))) (bF (cC gF)) fF) (bF (cC (nE (HJ (bS g (y8 T) T.m_qv T.F_qv.kp T.B_qv (aH (aD 2) aN))) (oQ (bS g (z9 T) T.m_qg T.F_qg.kp T.B_qg (aH (aD 2) aN))))))))))
theorem z02:FnScope ["order"] ["order"] (aO DC):=dE
theorem DO (T:Tx K mg G A):FnOk P w K mg base (aZ P w base) 8 A.f_qp A.fd_qp ["order"] (cH G F_qp):=dQ (k:=7) T.F_qp z02 T.hK λ_ _ _ _ _ _ _ g=>(bF (fG (iY (fS (bS g (z01 T) T.m_qy T.F_qy.kp T.B_qy (aH (aD 0) aN)))) (bF (IK g rfl T.n_NoOrder T.ns_NoOrder T.x_NoOrder T.ce_NoOrder (aH vV aN))) fF))
theorem z03:FnScope ["order","thing"] ["order","thing"] (aO DD):=dE
theorem DP (T:Tx K mg G A):FnOk P w K mg base (aZ P w base) 9 A.f_qq A.fd_qq ["order","thing"] (cH G F_qq):=dQ (k:=8) T.F_qq z03 T.hK λ_ _ _ _ _ _ _ g=>(aX (fZ (bS g (DO T) T.m_qp T.F_qp.kp T.B_qp (aH (aD 0) aN))) (bF (fG (iY (fS (bS g (NF T) T.m_qz T.F_qz.kp T.B_qz (aH (cQ (aD 0) bA) (aH (aD 1) aN))))) (bF (IK g rfl T.n_NoThing T.ns_NoThing T.x_NoThing T.ce_NoThing (aH vV aN))) fF)))
theorem z04:FnScope ["order","thing"] ["order","thing"] (aO yL):=dE
theorem DQ (T:Tx K mg G A):FnOk P w K mg base (aZ P w base) 10 A.f_qx A.fd_qx ["order","thing"] (cH G F_qx):=dQ (k:=9) T.F_qx z04 T.hK λ_ _ _ _ _ _ _ g=>(aX (fZ (bS g (DP T) T.m_qq T.F_qq.kp T.B_qq (aH (aD 0) (aH (aD 1) aN)))) (bF (cC (iG (gI g.calm (eY (N:=["a","b","thing"]) (cap:=[none,none,some 1]) (os:=(aO yL)) (oN:=["order","thing"])) (mF (cQ (aD 0) bA)) (λ_ _ _=>(iE (dO g).calm (dI (bU (i:=0) yU) (dI (bU (i:=1) yU) iD)))) (λ_ _ _=>(jC (qJ (dO g) (aD 1) (aD 2)))) (λ_ _ _=>(aD 0)))))))
theorem z05:FnScope ["order","thing"] ["order","thing"] (aO yM):=dE
theorem DR (T:Tx K mg G A):FnOk P w K mg base (aZ P w base) 10 A.f_q2 A.fd_q2 ["order","thing"] (cH G F_q2):=dQ (k:=9) T.F_q2 z05 T.hK λ_ _ _ _ _ _ _ g=>(aX (fZ (bS g (DP T) T.m_qq T.F_qq.kp T.B_qq (aH (aD 0) (aH (aD 1) aN)))) (bF (cC (iG (gI g.calm (eY (N:=["a","b","thing"]) (cap:=[none,none,some 1]) (os:=(aO yM)) (oN:=["order","thing"])) (mF (cQ (aD 0) bA)) (λ_ _ _=>(iE (dO g).calm (dI (bU (i:=0) yU) (dI (bU (i:=1) yU) iD)))) (λ_ _ _=>(jC (qJ (dO g) (aD 0) (aD 2)))) (λ_ _ _=>(aD 1)))))))
theorem z06:FnScope ["order","one","other","pairs"] ["order","one","other"] (aO DE):=dE
theorem NG (T:Tx K mg G A):FnOk P w K mg base (aZ P w base) 1 A.f_qt A.fd_qt ["order","one","other"] (cH G F_qt):=dQ (k:=0) T.F_qt z06 T.hK λ_ _ _ _ _ _ _ g=>(aX (cX (i:=3) m6 (cQ (aD 0) bA)) (bF (cC (nE (XF g (aD 1) (aD 2)) (nE (J0 g (fP (aH (aD 1) (aH (aD 2) aN))) (aD 3)) (oQ (J0 g (fP (aH (aD 2) (aH (aD 1) aN))) (aD 3))))))))
theorem z07:FnScope ["order","thing"] ["order","thing"] (aO yN):=dE
theorem DS (T:Tx K mg G A):FnOk P w K mg base (aZ P w base) 10 A.f_qo A.fd_qo ["order","thing"] (cH G F_qo):=dQ (k:=9) T.F_qo z07 T.hK λ_ _ _ _ _ _ _ g=>(aX (fZ (bS g (DP T) T.m_qq T.F_qq.kp T.B_qq (aH (aD 0) (aH (aD 1) aN)))) (bF (cC (iG (gI g.calm (eY (N:=["other","order","thing"]) (cap:=[none,some 0,some 1]) (os:=(aO yN)) (oN:=["order","thing"])) (jO rfl T.z_range (aH (cQ (aD 0) bA) aN)) (λ_ _ _=>(bU (i:=0) m7)) (λ_ _ _=>(jC (fS (bS (dO g) (NG T) T.m_qt T.F_qt.kp T.B_qt (aH (aD 1) (aH (aD 2) (aH (aD 0) aN))))))) (λ_ _ _=>(aD 0)))))))
theorem z08:FnScope ["order","many"] ["order"] (aO yO):=dE
theorem NH (T:Tx K mg G A):FnOk P w K mg base (aZ P w base) 9 A.f_qh A.fd_qh ["order"] (cH G F_qh):=dQ (k:=8) T.F_qh z08 T.hK λ_ _ _ _ _ _ _ g=>(aX (fZ (bS g (DO T) T.m_qp T.F_qp.kp T.B_qp (aH (aD 0) aN))) (aX (cX (i:=1) m8 (cQ (aD 0) bA)) (bF (cC (iG (ID g.calm (eY (N:=["a","b","order","many"]) (cap:=[none,none,some 0,some 1]) (os:=(aO yO)) (oN:=["order","many"])) (jO rfl T.z_range (aH (aD 1) aN)) (λ_ _ _=>(bU (i:=0) M6)) (λ_ _ _=>kX) (λ_ _ _=>(A7 rfl T.z_range (aH (iQ (aD 0) bA) (aH (aD 3) aN)))) (λ_ _ _=>(bU (i:=1) M6)) (λ_ _ _=>(jC (fS (bS (dO g) (NG T) T.m_qt T.F_qt.kp T.B_qt (aH (aD 2) (aH (aD 0) (aH (aD 1) aN))))))) (λ_ _ _=>(fP (aH (aD 0) (aH (aD 1) aN))))))))))
theorem z09:FnScope ["order","many","pairs"] ["order"] (aO yP):=dE
theorem NI (T:Tx K mg G A):FnOk P w K mg base (aZ P w base) 9 A.f_q3 A.fd_q3 ["order"] (cH G F_q3):=dQ (k:=8) T.F_q3 z09 T.hK λ_ _ _ _ _ _ _ g=>(aX (fZ (bS g (DO T) T.m_qp T.F_qp.kp T.B_qp (aH (aD 0) aN))) (aX (wG (aD 0) (iE g.calm (dI (bU (i:=1) M7) (dI (bU (i:=2) M7) iD)))) (bF (cC (fP (aH (aD 1) (aH (A4 rfl T.z_tuple (aH (L9 rfl T.z_sorted (aH (iG (gI g.calm (eY (N:=["a","b"]) (cap:=[none,none]) (os:=(aO yP)) (oN:=["order","many","pairs"])) (mF (aD 2)) (λ_ _ _=>(iE (dO g).calm (dI (bU (i:=0) yS) (dI (bU (i:=1) yS) iD)))) (λ_ _ _=>kX) (λ_ _ _=>(fP (aH (aD 1) (aH (aD 0) aN)))))) aN)) aN)) aN)))))))
theorem z0a:FnScope ["_law_script","_law_k"] ["_law_script","_law_k"] (aO DF):=dE
theorem z0b (T:Tx K mg G A):FnOk P w K mg base (aZ P w base) 1 A.f_qd A.fd_qd ["_law_script","_law_k"] (cH G (F_qd G.scr)):=dQ (k:=0) (N:=["_law_script","_law_k"]) (mb:=(xX G.scr)) T.F_qd z0a T.hK λ_ _ _ _ _ _ _ g=>(aX (fG (ME g (aD 1) (HW rfl T.z_len (aH (aD 0) aN))) (bF (cC (UU (aD 0) (aD 1)))) fF) (bF (cC bA)))
theorem z0c:FnScope ["_law_script","_law_k","_law_cell"] ["_law_script","_law_k"] (aO DG):=dE
theorem z0d (T:Tx K mg G A):FnOk P w K mg base (aZ P w base) 2 A.f_ql A.fd_ql ["_law_script","_law_k"] (cH G (F_ql G.scr)):=dQ (k:=1) (N:=["_law_script","_law_k","_law_cell"]) (mb:=(xY G.scr)) T.F_ql z0c T.hK λ_ _ _ _ _ _ _ g=>(aX (cX (i:=2) m9 (bS g (z0b T) T.m_qd T.F_qd.kp T.B_qd (aH (aD 0) (aH (aD 1) aN)))) (aX (fG (XG (aD 2) (BJ bA bA)) (bF (cC (fR (aH (BI (aD 2) (BJ bA bA)) (aH gF aN))))) fF) (bF (cC (fR (aH (qI (aD 2) bA) (aH gF aN)))))))
theorem z0e:FnScope ["_law_state_here","_law_many","_law_found","_law_stirred"] ["_law_state_here","_law_many"] (aO DH):=dE
theorem mR (T:Tx K mg G A):FnOk P w K mg base (aZ P w base) 1 A.f_qs A.fd_qs ["_law_state_here","_law_many"] (cH G F_qs):=dQ (k:=0) T.F_qs z0e T.hK λ_ _ _ _ _ _ _ g=>(aX (fG (fS (cQ (aD 0) bA)) (aX (cX (i:=2) DL (qI (cQ (aD 0) bA) (aD 1))) (aX (IW (aD 0) bA (JY (cQ (aD 0) bA) (aD 1))) (bF (cC (aD 2))))) fF) (aX (IW (aD 0) bA (qI (iQ (tK (cQ (aD 0) bA) bA) bA) bA)) (aX (cX (i:=3) DL (qI (iQ (iQ (tK (cQ (aD 0) bA) (cQ (aD 0) bA)) (tK bA (cQ (aD 0) bA))) bA) bA)) (aX (cX (i:=3) DL (qI (iQ (tK (aD 3) (aD 3)) (tK bA (aD 3))) bA)) (bF (cC (qI (JY (aD 3) bA) (aD 1))))))))
theorem z0f:FnScope ["_law_state_here","_law_things","_law_left","_law_found"] ["_law_state_here","_law_things"] (aO DI):=dE
theorem z0g (T:Tx K mg G A):FnOk P w K mg base (aZ P w base) 2 A.f_qc A.fd_qc ["_law_state_here","_law_things"] (cH G F_qc):=dQ (k:=1) T.F_qc z0f T.hK λ_ _ _ _ _ _ _ g=>(aX (cX (i:=2) M8 (JS rfl T.z_list (aH (aD 1) aN))) (aX (cX (i:=3) M8 (fR aN)) (aX (JK 40 g.own (nU g (aD 2) (fR aN)) (bF (fZ (kF (aD 3) (W4 (aD 2) (bS g (mR T) T.m_qs T.F_qs.kp T.B_qs (aH (aD 0) (aH (tM rfl T.z_len (aH (aD 2) aN)) aN)))))))) (bF (cC (aD 3))))))
theorem z0h:FnScope ["_law_pairs","_law_found","_law_later","_law_a","_law_b"] ["_law_pairs"] (aO yQ):=dE
theorem z0i (T:Tx K mg G A):FnOk P w K mg base (aZ P w base) 1 A.f_qf A.fd_qf ["_law_pairs"] (cH G F_qf):=dQ (k:=0) T.F_qf z0h T.hK λ_ _ _ _ _ _ _ g=>(aX (cX (i:=1) qV (MG g rfl T.z_sorted rfl T.z_set (aH (aD 0) aN))) (bF (JK 40 g.own (fS gF) (aX (cX (i:=2) qV (JS rfl T.z_list (aH (aD 1) aN))) (aX (mG g.own g.calm (nI (aD 1)) (iE g.calm (dI (bU (i:=3) qV) (dI (bU (i:=4) qV) iD))) (bF (fZ (WC (aD 2) (gI g.calm (eY (N:=["_law_c","_law_d","_law_a","_law_b"]) (cap:=[none,none,some 3,some 4]) (os:=(aO yQ)) (oN:=["_law_pairs","_law_found","_law_later","_law_a","_law_b"])) (nI (aD 1)) (λ_ _ _=>(iE (dO g).calm (dI (bU (i:=0) M9) (dI (bU (i:=1) M9) iD)))) (λ_ _ _=>(jC (qJ (dO g) (aD 3) (aD 0)))) (λ_ _ _=>(fP (aH (aD 2) (aH (aD 1) aN))))))))) (aX (cX (i:=2) qV (MG g rfl T.z_sorted rfl T.z_set (aH (aD 2) aN))) (aX (fG (qJ g (aD 2) (aD 1)) (bF (cC (aD 1))) fF) (bF (cX (i:=1) qV (aD 2))))))))))
theorem z0j:FnScope ["_law_state_here","_law_most","_law_many","_law_row","_law_way","_law_pairs","_law_marks","_law_i","_law_j","_law_near"] ["_law_state_here","_law_most"] (aO uD):=dE
theorem z0k (T:Tx K mg G A):FnOk P w K mg base (aZ P w base) 3 A.f_qj A.fd_qj ["_law_state_here","_law_most"] (cH G F_qj):=dQ (k:=2) T.F_qj z0j T.hK λ_ _ _ _ _ _ _ g=>(aX (cX (i:=2) jF (BI (aD 1) (cQ (qU 2) (bS g (mR T) T.m_qs T.F_qs.kp T.B_qs (aH (aD 0) (aH bA aN)))))) (aX (cX (i:=2) jF (HY g.calm rfl T.z_max (aH bA (aH (aD 2) aN)))) (aX (cX (i:=3) jF (bS g (z0g T) T.m_qc T.F_qc.kp T.B_qc (aH (aD 0) (aH (d4 g rfl T.z_list rfl T.z_range (aH (aD 2) aN)) aN)))) (aX (cX (i:=4) jF (bS g (mR T) T.m_qs T.F_qs.kp T.B_qs (aH (aD 0) (aH bA aN)))) (aX (cX (i:=5) jF (fR aN)) (aX (cX (i:=6) jF (iG (gI g.calm (eY (N:=["_law_thing","_law_state_here"]) (cap:=[none,some 0]) (os:=(aO uD)) (oN:=["_law_state_here","_law_most","_law_many","_law_row","_law_way","_law_pairs","_law_marks","_law_i","_law_j","_law_near"])) (nI (aD 3)) (λ_ _ _=>(bU (i:=0) n9)) (λ_ _ _=>kX) (λ_ _ _=>(bS (dO g) (mR T) T.m_qs T.F_qs.kp T.B_qs (aH (aD 1) (aH bA aN))))))) (aX (mG g.own g.calm (jO rfl T.z_range (aH (aD 2) aN)) (bU (i:=7) jF) (bF (mG g.own g.calm (A7 rfl T.z_range (aH (iQ (aD 7) bA) (aH (aD 2) aN))) (bU (i:=8) jF) (aX (cX (i:=9) jF (fR (aH (nS g (bS g (mR T) T.m_qs T.F_qs.kp T.B_qs (aH (aD 0) (aH bA aN))) bA) (aH (nS g (bS g (mR T) T.m_qs T.F_qs.kp T.B_qs (aH (aD 0) (aH bA aN))) bA) (aH (XE (bS g (mR T) T.m_qs T.F_qs.kp T.B_qs (aH (aD 0) (aH bA aN))) bA) aN))))) (aX (cX (i:=9) jF (iQ (aD 9) (fR (aH (MD g (cQ (aD 6) (aD 7)) (cQ (aD 6) (aD 8))) (aH (nS g (cQ (aD 6) (aD 7)) (cQ (aD 6) (aD 8))) aN))))) (bF (fG (fS (cQ (aD 9) (aD 4))) (bF (fZ (kF (aD 5) (fP (aH (cQ (aD 3) (aD 7)) (aH (cQ (aD 3) (aD 8)) aN)))))) fF))))))) (aX (fG (qJ g (aD 4) bA) (aX (cX (i:=5) jF (fR aN)) (bF (mG g.own g.calm (jO rfl T.z_range (aH (aD 2) aN)) (bU (i:=7) jF) (bF (cX (i:=5) jF (iQ (aD 5) (iG (gI g.calm (eY (N:=["_law_j","_law_i","_law_marks"]) (cap:=[none,some 7,some 6]) (os:=(aO uD)) (oN:=["_law_state_here","_law_most","_law_many","_law_row","_law_way","_law_pairs","_law_marks","_law_i","_law_j","_law_near"])) (jO rfl T.z_range (aH (aD 2) aN)) (λ_ _ _=>(bU (i:=0) o7)) (λ_ _ _=>(jC (ME (dO g) (cQ (aD 2) (aD 1)) (cQ (aD 2) (aD 0))))) (λ_ _ _=>(fP (aH (aD 1) (aH (aD 0) aN)))))))))))) fF) (bF (cC (fP (aH (aD 2) (aH (A4 rfl T.z_tuple (aH (bS g (z0i T) T.m_qf T.F_qf.kp T.B_qf (aH (aD 5) aN)) aN)) aN)))))))))))))
theorem z0l:FnScope ["_law_order_here","_law_found","_law_a","_law_b"] ["_law_order_here"] (aO DJ):=dE
theorem z0m (T:Tx K mg G A):FnOk P w K mg base (aZ P w base) 1 A.f_qi A.fd_qi ["_law_order_here"] (cH G F_qi):=dQ (k:=0) T.F_qi z0l T.hK λ_ _ _ _ _ _ _ g=>(aX (cX (i:=1) DM (fR aN)) (aX (mG g.own g.calm (jO rfl T.z_range (aH (cQ (aD 0) bA) aN)) (bU (i:=2) DM) (bF (mG g.own g.calm (A7 rfl T.z_range (aH (iQ (aD 2) bA) (aH (cQ (aD 0) bA) aN))) (bU (i:=3) DM) (bF (fG (SndW.t (UM (BO g (fP (aH (aD 2) (aH (aD 3) aN))) (cQ (aD 0) bA)) (UJ (BO g (fP (aH (aD 3) (aH (aD 2) aN))) (cQ (aD 0) bA))))) (bF (fZ (kF (aD 1) (fP (aH (aD 2) (aH (aD 3) aN)))))) fF))))) (bF (cC (aD 1)))))
theorem z0n:FnScope ["_law_state_here","_law_some"] ["_law_state_here"] (aO DK):=dE
theorem z0o (T:Tx K mg G A):FnOk P w K mg base (aZ P w base) 2 A.f_qb A.fd_qb ["_law_state_here"] (cH G F_qb):=l6 (k:=1) T.F_qb z0n T.hK λ_ _ _ _ _ _ _ g=>(CT (k9 5 (i:=1) DN rfl (by first|exact .inl rfl|exact .inr rfl)) (CT (MZ 5 (i:=1) DN rfl (by first|exact .inl rfl|exact .inr rfl) (aD 1)) (CT (MZ 5 (i:=1) DN rfl (by first|exact .inl rfl|exact .inr rfl) (aD 1)) (k8 (SW.mk (cC (cQ (aD 1) (bS g (mR T) T.m_qs T.F_qs.kp T.B_qs (aH (aD 0) (aH bA aN))))))))))
theorem z0p:FnScope ["_law_found","_law_due"] ["_law_found","_law_due"] (aO yR):=dE
theorem yX (T:Tx K mg G A):∀n,FnOk P w K mg base (aZ P w base) n A.f_qr A.fd_qr ["_law_found","_law_due"] (cH G (F_qr n))
 |0=>XZ
 |n+1=>by have okS:=yX T n;exact dQ (N:=["_law_found","_law_due"]) (mb:=gW (F_qr n)) T.F_qr z0p T.hK λ_ _ _ _ _ _ _ g=>(aX (fG (fS (XW rfl T.z_isinstance rfl T.z_tuple rfl T.z_list (aD 1))) (aX (fG (SndW.t (vX (nU g (tL rfl T.z_isinstance rfl T.z_tuple (aD 0)) (tL rfl T.z_isinstance rfl T.z_tuple (aD 1))) (vW (nU g (JR rfl T.z_isinstance rfl T.z_list (aD 0)) (JR rfl T.z_isinstance rfl T.z_list (aD 1)))))) (bF (cC gF)) fF) (aX (fG (nU g (tM rfl T.z_len (aH (aD 0) aN)) (tM rfl T.z_len (aH (aD 1) aN))) (bF (cC gF)) fF) (bF (cC (sX g.calm rfl T.z_all (gI g.calm (eY (N:=["_law_one","_law_other"]) (cap:=[none,none]) (os:=(aO yR)) (oN:=["_law_found","_law_due"])) (i9 rfl T.z_zip (aH (aD 0) (aH (aD 1) aN))) (λ_ _ _=>(iE (dO g).calm (dI (bU (i:=0) NA) (dI (bU (i:=1) NA) iD)))) (λ_ _ _=>kX) (λ_ _ _=>(IJ (dO g) okS (ao _) rfl T.m_qr T.F_qr.kp T.B_qr (aH (aD 0) (aH (aD 1) aN)))))))))) fF) (bF (cC (nE (nS g (aD 0) (aD 1)) (oQ (nS g (BK rfl T.z_isinstance rfl T.z_bool (aD 0)) (BK rfl T.z_isinstance rfl T.z_bool (aD 1))))))))
theorem z0q:FnScope ["_law_call","_law_error","e","_law_marks"] ["_law_call"] (aO pI):=dE
theorem z0r {k:Nat}(T:Tx K mg G A) (cdv:af) (Ar:cj) (outer:List Env) (s:ag) (H:Hp) (E₀ E:XK) (g:Good (eQ (aZ P w base) P w K mg base ["_law_call","_law_error","e","_law_marks"] "_law_refused" (aO pI) A.f_qe cdv Ar outer s H E₀) G E k):iN (eQ (aZ P w base) P w K mg base ["_law_call","_law_error","e","_law_marks"] "_law_refused" (aO pI) A.f_qe cdv Ar outer s H E₀) G E ((eZ pI).drop 2) eM:=(aX (cX (i:=3) yV (fR (aH (kJ rfl T.z_isinstance rfl T.n_NoOrder (aD 1) (λ_ h=>by cases h) T.kt0) (aH (kJ rfl T.z_isinstance rfl T.n_NoNumber (aD 1) (λ_ h=>by cases h) T.kt1) (aH (kJ rfl T.z_isinstance rfl T.n_NoPairs (aD 1) (λ_ h=>by cases h) T.kt2) aN))))) (aX (cX (i:=3) yV (iQ (aD 3) (fR (aH (kJ rfl T.z_isinstance rfl T.n_Round (aD 1) (λ_ h=>by cases h) T.kt3) (aH (kJ rfl T.z_isinstance rfl T.n_NoThing (aD 1) (λ_ h=>by cases h) T.kt4) (aH (kJ rfl T.z_isinstance rfl T.n_NoRow (aD 1) (λ_ h=>by cases h) T.kt5) aN)))))) (aX (cX (i:=3) yV (iQ (aD 3) (fR (aH (kJ rfl T.z_isinstance rfl T.n_TooMany (aD 1) (λ_ h=>by cases h) T.kt6) (aH (kJ rfl T.z_isinstance rfl T.n_TooFew (aD 1) (λ_ h=>by cases h) T.kt7) (aH (kJ rfl T.z_isinstance rfl T.n_NoText (aD 1) (λ_ h=>by cases h) T.kt8) aN)))))) (aX (cX (i:=3) yV (iQ (aD 3) (fR (aH (kJ rfl T.z_isinstance rfl T.n_NoLine (aD 1) (λ_ h=>by cases h) T.kt9) (aH (kJ rfl T.z_isinstance rfl T.n_NoDeed (aD 1) (λ_ h=>by cases h) T.kt10) aN))))) (aX (fG (iY (fS (XX rfl T.z_isinstance rfl T.z_ValueError (aD 1) (λ_ h=>by cases h) T.ktV))) (bF (cC AY)) fF) (bF (cC (iG (gI g.calm (eY (N:=["_law_k","_law_marks"]) (cap:=[none,some 3]) (os:=(aO pI)) (oN:=["_law_call","_law_error","e","_law_marks"])) (jO rfl T.z_range (aH bA aN)) (λ_ _ _=>(bU (i:=0) p0)) (λ_ _ _=>(jC (fS (cQ (aD 1) (aD 0))))) (λ_ _ _=>(aD 0)))))))))))
theorem oH {k:Nat}{Nl:List Str}{params:jw}{body:bp}{scope:fq}{me:M Dv}(T:Tx K mg G A) (LS:LamScope Nl scope) (hb:∀(cl:List (Str×ah)) (pm cdv ct:af),bindArgs (ph "<lambda>" G.lq params body scope cl pm cdv ct) ⟨[],[]⟩=pure [])
  (hbody:∀(f:ah) (cdv:af) (cl:List (Str×ah)) (A:cj) (outer:List Env) (s:ag) (H:Hp) (E₀ E:XK),Good (jD P w K mg base Nl G.lq scope f cdv cl A outer s H E₀) G E k->aK (jD P w K mg base Nl G.lq scope f cdv cl A outer s H E₀) G E body me):
  FnOk P w K mg base (aZ P w base) (k+2) A.f_qe A.fd_qe ["_law_call"] (iO G base Nl params body scope me 4 11 eM):=
 WW T.F_qe z0q T.hK rfl rfl rfl rfl rfl rfl rfl (by decide) (by decide) (by decide) (by decide) (by decide) (λ_ _=>rfl) (λ_ _=>rfl) (λ_ _=>rfl) rfl T.n_NearError T.e1 T.e2 T.e3 T.e4 LS hb hbody (z0r T)
theorem z0s:FnScope ["_law_order_here","_law_thing","_law_many","_law_pairs","_law_others","_law_due","_law_turn","_law_found"] ["_law_order_here","_law_thing"] (aO pJ):=dE
theorem z0t (T:Tx K mg G A):FnOk P w K mg base (aZ P w base) 11 A.f_qk A.fd_qk ["_law_order_here","_law_thing"] (cH G F_qk):=dQ (k:=10) T.F_qk z0s T.hK λ_ _ _ _ _ _ _ g=>(aX (wG (aD 0) (iE g.calm (dI (bU (i:=2) qW) (dI (bU (i:=3) qW) iD)))) (aX (YG (i:=4) qW rfl g.calm (eY (N:=["_law_other","_law_thing"]) (cap:=[none,some 1]) (os:=(aO pJ)) (oN:=["_law_order_here","_law_thing","_law_many","_law_pairs","_law_others","_law_due","_law_turn","_law_found"])) (jO rfl T.z_range (aH (aD 2) aN)) (λ_ _ _=>(bU (i:=0) p6)) (λ_ _ _=>(jC (nU (dO g) (aD 0) (aD 1)))) (λ_ _ _=>(aD 0))) (aX (cX (i:=5) qW (fR (aH (iG (gI g.calm (eY (N:=["_law_a","_law_pairs","_law_thing"]) (cap:=[none,some 3,some 1]) (os:=(aO pJ)) (oN:=["_law_order_here","_law_thing","_law_many","_law_pairs","_law_others","_law_due","_law_turn","_law_found"])) (nI (aD 4)) (λ_ _ _=>(bU (i:=0) p8)) (λ_ _ _=>(jC (J1 (dO g) (fP (aH (aD 0) (aH (aD 2) aN))) (aD 1)))) (λ_ _ _=>(aD 0)))) (aH (iG (gI g.calm (eY (N:=["_law_b","_law_pairs","_law_thing"]) (cap:=[none,some 3,some 1]) (os:=(aO pJ)) (oN:=["_law_order_here","_law_thing","_law_many","_law_pairs","_law_others","_law_due","_law_turn","_law_found"])) (nI (aD 4)) (λ_ _ _=>(bU (i:=0) p7)) (λ_ _ _=>(jC (J1 (dO g) (fP (aH (aD 2) (aH (aD 0) aN))) (aD 1)))) (λ_ _ _=>(aD 0)))) aN)))) (aX (fZ (kF (aD 5) (iG (gI g.calm (eY (N:=["_law_other","_law_due"]) (cap:=[none,some 5]) (os:=(aO pJ)) (oN:=["_law_order_here","_law_thing","_law_many","_law_pairs","_law_others","_law_due","_law_turn","_law_found"])) (nI (aD 4)) (λ_ _ _=>(bU (i:=0) p9)) (λ_ _ _=>(jC (BO (dO g) (aD 0) (iQ (cQ (aD 1) bA) (cQ (aD 1) bA))))) (λ_ _ _=>(aD 0)))))) (aX (mG g.own g.calm (jO rfl T.z_range (aH bA aN)) (bU (i:=6) qW) (aX (cX (i:=7) qW (fR (aH (bS g (DQ T) T.m_qx T.F_qx.kp T.B_qx (aH (aD 0) (aH (aD 1) aN))) (aH (bS g (DR T) T.m_q2 T.F_q2.kp T.B_q2 (aH (aD 0) (aH (aD 1) aN))) (aH (bS g (DS T) T.m_qo T.F_qo.kp T.B_qo (aH (aD 0) (aH (aD 1) aN))) aN))))) (aX (fG (iY (fS (bS g (yX T 6) T.m_qr T.F_qr.kp T.B_qr (aH (aD 7) (aH (aD 5) aN))))) (bF (cC gF)) fF) (bF (fZ (j3 (cQ (aD 7) (aD 6)) (aD 1))))))) (bF (cC gF)))))))
def DT:bp:=oA ((eZ cK).getD 1 (.Pass ⟨0,0,0,0⟩))
def lm0:Lm:=⟨["_law_order_here","_law_none"],oC DT,oD DT,oE (aO cK) DT,[1,3],MN⟩
theorem ol0:LmOk (aO cK) ["_law_state_here","_law_order_here","_law_bad","_law_none","_law_calls"] lm0:=⟨⟨rfl,rfl,rfl,by decide +kernel,by decide +kernel,by decide +kernel⟩,by decide +kernel,rfl,by decide +kernel⟩
def DU:bp:=oA ((eZ cK).getD 2 (.Pass ⟨0,0,0,0⟩))
def lm1:Lm:=⟨["_law_order_here","_law_none"],oC DU,oD DU,oE (aO cK) DU,[1,3],MP⟩
theorem ol1:LmOk (aO cK) ["_law_state_here","_law_order_here","_law_bad","_law_none","_law_calls"] lm1:=⟨⟨rfl,rfl,rfl,by decide +kernel,by decide +kernel,by decide +kernel⟩,by decide +kernel,rfl,by decide +kernel⟩
def DV:bp:=oA ((eZ cK).getD 3 (.Pass ⟨0,0,0,0⟩))
def lm2:Lm:=⟨["_law_order_here","_law_none"],oC DV,oD DV,oE (aO cK) DV,[1,3],MQ⟩
theorem ol2:LmOk (aO cK) ["_law_state_here","_law_order_here","_law_bad","_law_none","_law_calls"] lm2:=⟨⟨rfl,rfl,rfl,by decide +kernel,by decide +kernel,by decide +kernel⟩,by decide +kernel,rfl,by decide +kernel⟩
def DW:bp:=oA ((eZ cK).getD 5 (.Pass ⟨0,0,0,0⟩))
def lm3:Lm:=⟨["_law_bad","_law_none"],oC DW,oD DW,oE (aO cK) DW,[2,3],MR⟩
theorem ol3:LmOk (aO cK) ["_law_state_here","_law_order_here","_law_bad","_law_none","_law_calls"] lm3:=⟨⟨rfl,rfl,rfl,by decide +kernel,by decide +kernel,by decide +kernel⟩,by decide +kernel,rfl,by decide +kernel⟩
def DX:bp:=oA ((eZ cK).getD 6 (.Pass ⟨0,0,0,0⟩))
def lm4:Lm:=⟨["_law_bad","_law_none"],oC DX,oD DX,oE (aO cK) DX,[2,3],MT⟩
theorem ol4:LmOk (aO cK) ["_law_state_here","_law_order_here","_law_bad","_law_none","_law_calls"] lm4:=⟨⟨rfl,rfl,rfl,by decide +kernel,by decide +kernel,by decide +kernel⟩,by decide +kernel,rfl,by decide +kernel⟩
def DY:bp:=oA ((eZ cK).getD 7 (.Pass ⟨0,0,0,0⟩))
def lm5:Lm:=⟨["_law_bad","_law_none"],oC DY,oD DY,oE (aO cK) DY,[2,3],MU⟩
theorem ol5:LmOk (aO cK) ["_law_state_here","_law_order_here","_law_bad","_law_none","_law_calls"] lm5:=⟨⟨rfl,rfl,rfl,by decide +kernel,by decide +kernel,by decide +kernel⟩,by decide +kernel,rfl,by decide +kernel⟩
def DZ:bp:=oA ((eZ cK).getD 8 (.Pass ⟨0,0,0,0⟩))
def lm6:Lm:=⟨["_law_bad"],oC DZ,oD DZ,oE (aO cK) DZ,[2],MV⟩
theorem ol6:LmOk (aO cK) ["_law_state_here","_law_order_here","_law_bad","_law_none","_law_calls"] lm6:=⟨⟨rfl,rfl,rfl,by decide +kernel,by decide +kernel,by decide +kernel⟩,by decide +kernel,rfl,by decide +kernel⟩
def EA:bp:=oA ((eZ cK).getD 9 (.Pass ⟨0,0,0,0⟩))
def lm7:Lm:=⟨["_law_bad"],oC EA,oD EA,oE (aO cK) EA,[2],MW⟩
theorem ol7:LmOk (aO cK) ["_law_state_here","_law_order_here","_law_bad","_law_none","_law_calls"] lm7:=⟨⟨rfl,rfl,rfl,by decide +kernel,by decide +kernel,by decide +kernel⟩,by decide +kernel,rfl,by decide +kernel⟩
def qX:Nat->Option Lm
 |0=>some lm0
 |1=>some lm1
 |2=>some lm2
 |3=>some lm3
 |4=>some lm4
 |5=>some lm5
 |6=>some lm6
 |7=>some lm7
 |_=>none
theorem NJ:∀k L,qX k=some L->LmOk (aO cK) ["_law_state_here","_law_order_here","_law_bad","_law_none","_law_calls"] L
 |0,_,h=>by cases h;exact ol0
 |1,_,h=>by cases h;exact ol1
 |2,_,h=>by cases h;exact ol2
 |3,_,h=>by cases h;exact ol3
 |4,_,h=>by cases h;exact ol4
 |5,_,h=>by cases h;exact ol5
 |6,_,h=>by cases h;exact ol6
 |7,_,h=>by cases h;exact ol7
 |_+8,_,h=>by cases h
theorem NK:∀k c m,iV k=some (c,m)->∃L,qX k=some L/\L.caps=c/\L.me=m
 |0,_,_,h=>by cases h;exact⟨lm0,rfl,rfl,rfl⟩
 |1,_,_,h=>by cases h;exact⟨lm1,rfl,rfl,rfl⟩
 |2,_,_,h=>by cases h;exact⟨lm2,rfl,rfl,rfl⟩
 |3,_,_,h=>by cases h;exact⟨lm3,rfl,rfl,rfl⟩
 |4,_,_,h=>by cases h;exact⟨lm4,rfl,rfl,rfl⟩
 |5,_,_,h=>by cases h;exact⟨lm5,rfl,rfl,rfl⟩
 |6,_,_,h=>by cases h;exact⟨lm6,rfl,rfl,rfl⟩
 |7,_,_,h=>by cases h;exact⟨lm7,rfl,rfl,rfl⟩
 |_+8,_,_,h=>by cases h
theorem z0u (T:Tx K mg G A):FnOk P w K mg base (aZ P w base) (11+2) A.f_qe A.fd_qe ["_law_call"] (iO G base lm0.Nl lm0.par lm0.bod lm0.scp lm0.me 4 11 eM):=oH (k:=11) T ol0.ls (λ_ _ _ _=>rfl) (λ_ _ _ _ _ _ _ _ _ g=>(bS g (DQ T) T.m_qx T.F_qx.kp T.B_qx (aH (aD 0) (aH (aD 1) aN))))
theorem z0v (T:Tx K mg G A):FnOk P w K mg base (aZ P w base) (11+2) A.f_qe A.fd_qe ["_law_call"] (iO G base lm1.Nl lm1.par lm1.bod lm1.scp lm1.me 4 11 eM):=oH (k:=11) T ol1.ls (λ_ _ _ _=>rfl) (λ_ _ _ _ _ _ _ _ _ g=>(bS g (DR T) T.m_q2 T.F_q2.kp T.B_q2 (aH (aD 0) (aH (aD 1) aN))))
theorem z0w (T:Tx K mg G A):FnOk P w K mg base (aZ P w base) (11+2) A.f_qe A.fd_qe ["_law_call"] (iO G base lm2.Nl lm2.par lm2.bod lm2.scp lm2.me 4 11 eM):=oH (k:=11) T ol2.ls (λ_ _ _ _=>rfl) (λ_ _ _ _ _ _ _ _ _ g=>(bS g (DS T) T.m_qo T.F_qo.kp T.B_qo (aH (aD 0) (aH (aD 1) aN))))
theorem z0x (T:Tx K mg G A):FnOk P w K mg base (aZ P w base) (11+2) A.f_qe A.fd_qe ["_law_call"] (iO G base lm3.Nl lm3.par lm3.bod lm3.scp lm3.me 4 11 eM):=oH (k:=11) T ol3.ls (λ_ _ _ _=>rfl) (λ_ _ _ _ _ _ _ _ _ g=>(bS g (DQ T) T.m_qx T.F_qx.kp T.B_qx (aH (aD 0) (aH (aD 1) aN))))
theorem z0y (T:Tx K mg G A):FnOk P w K mg base (aZ P w base) (11+2) A.f_qe A.fd_qe ["_law_call"] (iO G base lm4.Nl lm4.par lm4.bod lm4.scp lm4.me 4 11 eM):=oH (k:=11) T ol4.ls (λ_ _ _ _=>rfl) (λ_ _ _ _ _ _ _ _ _ g=>(bS g (DR T) T.m_q2 T.F_q2.kp T.B_q2 (aH (aD 0) (aH (aD 1) aN))))
theorem z0z (T:Tx K mg G A):FnOk P w K mg base (aZ P w base) (11+2) A.f_qe A.fd_qe ["_law_call"] (iO G base lm5.Nl lm5.par lm5.bod lm5.scp lm5.me 4 11 eM):=oH (k:=11) T ol5.ls (λ_ _ _ _=>rfl) (λ_ _ _ _ _ _ _ _ _ g=>(bS g (DS T) T.m_qo T.F_qo.kp T.B_qo (aH (aD 0) (aH (aD 1) aN))))
theorem z10 (T:Tx K mg G A):FnOk P w K mg base (aZ P w base) (11+2) A.f_qe A.fd_qe ["_law_call"] (iO G base lm6.Nl lm6.par lm6.bod lm6.scp lm6.me 4 11 eM):=oH (k:=11) T ol6.ls (λ_ _ _ _=>rfl) (λ_ _ _ _ _ _ _ _ _ g=>(bS g (NH T) T.m_qh T.F_qh.kp T.B_qh (aH (aD 0) aN)))
theorem z11 (T:Tx K mg G A):FnOk P w K mg base (aZ P w base) (11+2) A.f_qe A.fd_qe ["_law_call"] (iO G base lm7.Nl lm7.par lm7.bod lm7.scp lm7.me 4 11 eM):=oH (k:=11) T ol7.ls (λ_ _ _ _=>rfl) (λ_ _ _ _ _ _ _ _ _ g=>(bS g (NI T) T.m_q3 T.F_q3.kp T.B_q3 (aH (aD 0) aN)))
theorem NL (T:Tx K mg G A):∀k L,qX k=some L->FnOk P w K mg base (aZ P w base) (11+2) A.f_qe A.fd_qe ["_law_call"] (iO G base L.Nl L.par L.bod L.scp L.me 4 11 eM)
 |0,_,h=>by cases h;exact z0u T
 |1,_,h=>by cases h;exact z0v T
 |2,_,h=>by cases h;exact z0w T
 |3,_,h=>by cases h;exact z0x T
 |4,_,h=>by cases h;exact z0y T
 |5,_,h=>by cases h;exact z0z T
 |6,_,h=>by cases h;exact z10 T
 |7,_,h=>by cases h;exact z11 T
 |_+8,_,h=>by cases h
theorem z12:FnScope ["_law_state_here","_law_order_here","_law_bad","_law_none","_law_calls"] ["_law_state_here","_law_order_here"] (aO cK):=dE
theorem z13 (T:Tx K mg G A) (hT:∀μ n H k t a,G.clo μ n H k t a) (hC:jv base A.cc A.P) (hB:kG mg base):FnOk P w K mg base (aZ P w base) 14 A.f_qa A.fd_qa ["_law_state_here","_law_order_here"] (cH G F_qa):=d9 (k:=13) (N:=["_law_state_here","_law_order_here","_law_bad","_law_none","_law_calls"]) (ls:=qX) (mb:=yA) T.F_qa z12 T.hK λcdv Ar outer s H E₀ E t hcd g=>(aX (wG (fP (aH (bS g (z0o T) T.m_qb T.F_qb.kp T.B_qb (aH (aD 0) aN)) (aH (cQ (fR (aH (cQ (aD 1) bA) (aH (JQ bA) (aH gF (aH AY (aH vV (aH (qU 2) (aH (BJ bA bA) aN)))))))) (bS g (mR T) T.m_qs T.F_qs.kp T.B_qs (aH (aD 0) (aH bA aN)))) aN))) (iE g.calm (dI (bU (i:=2) yW) (dI (bU (i:=3) yW) iD)))) (aX (cX (i:=4) yW (fR (aH (oF (os:=aO cK) (oN:=["_law_state_here","_law_order_here","_law_bad","_law_none","_law_calls"]) lm0 rfl hT T.lq T.tab (hcd.symm.trans T.code) hC hB ol0) aN))) (aX (fZ (kF (aD 4) (oF (os:=aO cK) (oN:=["_law_state_here","_law_order_here","_law_bad","_law_none","_law_calls"]) lm1 rfl hT T.lq T.tab (hcd.symm.trans T.code) hC hB ol1))) (aX (fZ (kF (aD 4) (oF (os:=aO cK) (oN:=["_law_state_here","_law_order_here","_law_bad","_law_none","_law_calls"]) lm2 rfl hT T.lq T.tab (hcd.symm.trans T.code) hC hB ol2))) (aX (fG (nU g (iG (MM (os:=aO cK) (oN:=["_law_state_here","_law_order_here","_law_bad","_law_none","_law_calls"]) g (j:=11+2) (by decide) (λ_=>rfl) (eY (N:=["_law_call"]) (cap:=[none]) (os:=(aO cK)) (oN:=["_law_state_here","_law_order_here","_law_bad","_law_none","_law_calls"])) (nI (aD 4)) (λ_ _ _=>(bU (i:=0) NB)) (λk L h base _ _=>NL (G:=G.wf _ t qX) T k L h) T.m_qe T.F_qe.kp T.B_qe NJ NK)) (JT (qU 3) bA)) (bF (cC gF)) fF) (aX (cX (i:=4) yW (fR (aH (oF (os:=aO cK) (oN:=["_law_state_here","_law_order_here","_law_bad","_law_none","_law_calls"]) lm3 rfl hT T.lq T.tab (hcd.symm.trans T.code) hC hB ol3) aN))) (aX (fZ (kF (aD 4) (oF (os:=aO cK) (oN:=["_law_state_here","_law_order_here","_law_bad","_law_none","_law_calls"]) lm4 rfl hT T.lq T.tab (hcd.symm.trans T.code) hC hB ol4))) (aX (fZ (kF (aD 4) (oF (os:=aO cK) (oN:=["_law_state_here","_law_order_here","_law_bad","_law_none","_law_calls"]) lm5 rfl hT T.lq T.tab (hcd.symm.trans T.code) hC hB ol5))) (aX (fZ (kF (aD 4) (oF (os:=aO cK) (oN:=["_law_state_here","_law_order_here","_law_bad","_law_none","_law_calls"]) lm6 rfl hT T.lq T.tab (hcd.symm.trans T.code) hC hB ol6))) (aX (fZ (kF (aD 4) (oF (os:=aO cK) (oN:=["_law_state_here","_law_order_here","_law_bad","_law_none","_law_calls"]) lm7 rfl hT T.lq T.tab (hcd.symm.trans T.code) hC hB ol7))) (bF (cC (nS g (iG (MM (os:=aO cK) (oN:=["_law_state_here","_law_order_here","_law_bad","_law_none","_law_calls"]) g (j:=11+2) (by decide) (λ_=>rfl) (eY (N:=["_law_call"]) (cap:=[none]) (os:=(aO cK)) (oN:=["_law_state_here","_law_order_here","_law_bad","_law_none","_law_calls"])) (nI (aD 4)) (λ_ _ _=>(bU (i:=0) NB)) (λk L h base _ _=>NL (G:=G.wf _ t qX) T k L h) T.m_qe T.F_qe.kp T.B_qe NJ NK)) (JT (qU 3) bA))))))))))))))
theorem z14:FnScope ["_law_script","_law_k","_law_state_here","_law_order_here","_law_turn","_law_found"] ["_law_script"] (aO uE):=dE
theorem z15 (T:Tx K mg G A) (hT:∀μ n H k t a,G.clo μ n H k t a) (hC:jv base A.cc A.P) (hB:kG mg base):FnOk P w K mg base (aZ P w base) 15 A.f_q4 A.fd_q4 ["_law_script"] (cH G (F_q4 G.scr)):=XY (k:=14) (N:=["_law_script","_law_k","_law_state_here","_law_order_here","_law_turn","_law_found"]) (mb:=yC G.scr) T.F_q4 z14 T.hK λcdv Ar outer s H E₀ E hcd g=>(aX (mG g.own g.calm (jO rfl T.z_range (aH (HY g.calm rfl T.z_max (aH bA (aH (VD g.calm rfl T.z_min (aH (HW rfl T.z_len (aH (aD 0) aN)) (aH bA aN))) aN))) aN)) (bU (i:=1) uF) (aX (cX (i:=2) uF (bS g (z0d T) T.m_ql T.F_ql.kp T.B_ql (aH (aD 0) (aH (aD 1) aN)))) (aX (cX (i:=3) uF (bS g (z0k T) T.m_qj T.F_qj.kp T.B_qj (aH (aD 2) (aH bA aN)))) (aX (fG (nU g (iG (gI g.calm (eY (N:=["_law_thing","_law_order_here"]) (cap:=[none,some 3]) (os:=(aO uE)) (oN:=["_law_script","_law_k","_law_state_here","_law_order_here","_law_turn","_law_found"])) (jO rfl T.z_range (aH (cQ (aD 3) bA) aN)) (λ_ _ _=>(bU (i:=0) q5)) (λ_ _ _=>(jC (iY (fS (bS (dO g) (z0t T) T.m_qk T.F_qk.kp T.B_qk (aH (aD 1) (aH (aD 0) aN))))))) (λ_ _ _=>(aD 0)))) (fR aN)) (bF (cC gF)) fF) (aX (mG g.own g.calm (jO rfl T.z_range (aH bA aN)) (bU (i:=4) uF) (aX (cX (i:=5) uF (bS g (NH T) T.m_qh T.F_qh.kp T.B_qh (aH (aD 3) aN))) (aX (fG (iY (fS (bS g (yX T 6) T.m_qr T.F_qr.kp T.B_qr (aH (aD 5) (aH (bS g (z0m T) T.m_qi T.F_qi.kp T.B_qi (aH (aD 3) aN)) aN))))) (bF (cC gF)) fF) (bF (fZ (kF (aD 5) (fP aN))))))) (aX (fG (iY (fS (bS g (yX T 6) T.m_qr T.F_qr.kp T.B_qr (aH (bS g (NI T) T.m_q3 T.F_q3.kp T.B_q3 (aH (aD 3) aN)) (aH (fP (aH (cQ (aD 3) bA) (aH (A4 rfl T.z_tuple (aH (L9 rfl T.z_sorted (aH (iG (gI g.calm (eY (N:=["_law_a","_law_b"]) (cap:=[none,none]) (os:=(aO uE)) (oN:=["_law_script","_law_k","_law_state_here","_law_order_here","_law_turn","_law_found"])) (mF (cQ (aD 3) bA)) (λ_ _ _=>(iE (dO g).calm (dI (bU (i:=0) NC) (dI (bU (i:=1) NC) iD)))) (λ_ _ _=>kX) (λ_ _ _=>(fP (aH (aD 1) (aH (aD 0) aN)))))) aN)) aN)) aN))) aN))))) (bF (cC gF)) fF) (bF (fG (iY (fS (bS g (z13 T hT hC hB) T.m_qa T.F_qa.kp T.B_qa (aH (aD 2) (aH (aD 3) aN))))) (bF (cC gF)) fF)))))))) (bF (cC gF)))
end
end L2.Mr.K03
namespace L2.Mr
open PySem PySem.Spec PyProof.Rows L2
section
variable{H:Hs}{j:Nat}{up up1:List Int}{b v:Int}{ρ:Ev}{x:Nat}
end
section
variable{d:Dv}{r:Int}{i j:Nat}{fs:List Int}
end
section
variable{d:Dv}{n r:Int}{ps qs:List (Int×Int)}{Fl:List Dv->Hs->Rs Dv}
end
theorem yY {α:Type}{src:Src}{sg:cY}{t:M Bool}{m:MC}(xs:List α) (out:α->List Dv) (S:Ev->Hs->Prop)
  (fin:∀ρ h,S ρ h->src.fin h=true)
  (step:∀k (hk:k<xs.length) ρ h,S ρ h->∃d ρ1,src.get k h=some d/\sg d ρ=some ρ1 /\
   ((∃h2,t ρ1 h=.ok false h2/\out xs[k]=[]/\S ρ1 h2)∨∃h2,t ρ1 h=.ok true h2/\∀acc:List Dv,acc.length+(out xs[k]).length<=900000->∃ρ3 h3,m ρ1 h2 acc=.ok (ρ3,acc++out xs[k]) h3/\S ρ3 h3)):
  ∀(f k:Nat) (ρ:Ev) (h:Hs) (acc:List Dv),f+k=xs.length->S ρ h->acc.length+((xs.drop k).flatMap out).length<=900000->∃ρ' h',eE src sg t m f k ρ h acc=.ok (ρ',acc++(xs.drop k).flatMap out) h'/\S ρ' h'
 |0,k,ρ,h,acc,e,s,hl=>by have:xs.drop k=[]:=List.drop_eq_nil_of_le (by omega);exact⟨ρ,h,by simp[eE,fin ρ h s,this],s⟩
 |f+1,k,ρ,h,acc,e,s,hl=>by
  have hk:k<xs.length:=by omega
  obtain⟨d,ρ1,e1,e2,e3⟩:=step k hk ρ h s;rw[List.drop_eq_getElem_cons hk,kn]at hl ⊢;rw[bx]at hl
  rcases e3 with⟨h2,e3,e4,s2⟩|⟨h2,e3,e4⟩
  ·obtain⟨ρ',h',e5,s5⟩:=yY xs out S fin step f (k+1) ρ1 h2 acc (by omega) s2 (by omega);exact⟨ρ',h',by simp[eE,e1,e2,e3,e4,e5],s5⟩
  ·obtain⟨ρ3,h3,e6,s3⟩:=e4 acc (by omega);obtain⟨ρ',h',e5,s5⟩:=yY xs out S fin step f (k+1) ρ3 h3 (acc++out xs[k]) (by omega) s3 (by rw[bx];omega);exact⟨ρ',h',by simp[eE,e1,e2,e3,e6,e5],s5⟩
theorem NM {α:Type}{mi:M Src}{cap:List (Option Nat)}{src:Src}{sg:cY}{t:M Bool}{m:MC}{ρ:Ev}{H H1:Hs}(xs:List α) (out:α->List Dv) (S:Ev->Hs->Prop)
  (hi:mi ρ H=.ok src H1) (hn:src.n=xs.length) (s0:S (fT cap ρ) H1) (fin:∀ρ h,S ρ h->src.fin h=true)
  (step:∀k (hk:k<xs.length) ρ h,S ρ h->∃d ρ1,src.get k h=some d/\sg d ρ=some ρ1 /\
   ((∃h2,t ρ1 h=.ok false h2/\out xs[k]=[]/\S ρ1 h2)∨∃h2,t ρ1 h=.ok true h2/\∀acc:List Dv,acc.length+(out xs[k]).length<=900000->∃ρ3 h3,m ρ1 h2 acc=.ok (ρ3,acc++out xs[k]) h3/\S ρ3 h3))
  (hl:(xs.flatMap out).length<=900000):∃ρ' H',bL mi cap sg t m ρ H=.ok (xs.flatMap out) H'/\S ρ' H':=by
 obtain⟨ρ',h',e,s⟩:=yY xs out S fin step xs.length 0 (fT cap ρ) H1 [] (by omega) s0 (by simpa using hl);refine⟨ρ',h', ?_,s⟩;unfold bL;rw[hi,Rs.bind_ok,hn,e];simp
theorem NN {e:M Dv}{ρ:Ev}{h h1:Hs}{d:Dv}{acc:List Dv}(he:e ρ h=.ok d h1) (hl:acc.length+[d].length<=900000):bB e ρ h acc=.ok (ρ,acc++[d]) h1:=by
 have:acc.length<1000000:=by simp at hl;omega
 simp[bB,he,this]
theorem hW {α:Type}{mi:M Src}{cap:List (Option Nat)}{src:Src}{sg:cY}{t:M Bool}{e:M Dv}{ρ:Ev}{H H1:Hs}(xs:List α) (g:α->Option Dv) (S:Ev->Prop)
  (hi:mi ρ H=.ok src H1) (hn:src.n=xs.length) (s0:S (fT cap ρ)) (fin:src.fin H1=true)
  (step:∀k (hk:k<xs.length) ρ,S ρ->∃d ρ1,src.get k H1=some d/\sg d ρ=some ρ1/\S ρ1/\match g xs[k]with
   |none=>t ρ1 H1=.ok false H1
   |some v=>t ρ1 H1=.ok true H1/\e ρ1 H1=.ok v H1)
  (hl:xs.length<=900000):bL mi cap sg t (bB e) ρ H=.ok (xs.filterMap g) H1:=by
 have fm:∀l:List α,l.flatMap (λx=>(g x).toList)=l.filterMap g:=λl=>by
  induction l with
  |nil=>rfl
  |cons x l ih=>rw[kn,ih,bu];cases g x <;> rfl
 have len:(xs.filterMap g).length<=xs.length:=mf g xs;obtain⟨ρ',H',h,_,rfl⟩:=NM (mi:=mi) (cap:=cap) (src:=src) (sg:=sg) (t:=t) (m:=bB e) (ρ:=ρ) (H:=H) (H1:=H1) xs (λx=>(g x).toList) (λρ h=>S ρ/\h=H1) hi hn ⟨s0,rfl⟩ (λρ h s=>by rw[s.2];exact fin)
  (λk hk ρ h ⟨s,e1⟩=>by
   subst e1;obtain⟨d,ρ1,e1,e2,s1,e3⟩:=step k hk ρ s;refine⟨d,ρ1,e1,e2, ?_⟩
   cases q:g xs[k]with
   |none=>rw[q]at e3;exact .inl ⟨h,e3,rfl,s1,rfl⟩
   |some v=>rw[q]at e3;exact .inr ⟨h,e3.1,λacc hl=>⟨ρ1,h,NN e3.2 hl,s1,rfl⟩⟩) (by rw[fm];omega)
 rw[h,fm]
theorem NO {α β:Type}{mi mj:M Src}{cap:List (Option Nat)}{src:Src}{sg sg2:cY}{t2:M Bool}{e:M Dv}{ρ:Ev}{H H1:Hs}(xs:List α) (ys:α->List β) (g:α->β->Option Dv) (S:Ev->Prop)
  (hi:mi ρ H=.ok src H1) (hn:src.n=xs.length) (s0:S (fT cap ρ)) (fin:src.fin H1=true)
  (step:∀k (hk:k<xs.length) ρ,S ρ->∃(d:Dv) (ρ1:Ev) (src2:Src) (S2:Ev->Prop),src.get k H1=some d/\sg d ρ=some ρ1/\S2 ρ1/\(∀ρ,S2 ρ->S ρ)/\mj ρ1 H1=.ok src2 H1/\src2.n=(ys xs[k]).length/\src2.fin H1=true /\
   ∀j (hj:j<(ys xs[k]).length) ρ,S2 ρ->∃d ρ2,src2.get j H1=some d/\sg2 d ρ=some ρ2/\S2 ρ2/\match g xs[k] (ys xs[k])[j]with
    |none=>t2 ρ2 H1=.ok false H1
    |some v=>t2 ρ2 H1=.ok true H1/\e ρ2 H1=.ok v H1)
  (hl:(xs.flatMap λx=>(ys x).filterMap (g x)).length<=900000):bL mi cap sg cU (kE mj sg2 t2 (bB e)) ρ H=.ok (xs.flatMap λx=>(ys x).filterMap (g x)) H1:=by
 have fm:∀(x:α) (l:List β),l.flatMap (λy=>(g x y).toList)=l.filterMap (g x):=λx l=>by
  induction l with
  |nil=>rfl
  |cons y l ih=>rw[kn,ih,bu];cases g x y <;> rfl
 obtain⟨ρ',H',h,_,rfl⟩:=NM (mi:=mi) (cap:=cap) (src:=src) (sg:=sg) (t:=cU) (m:=kE mj sg2 t2 (bB e)) (ρ:=ρ) (H:=H) (H1:=H1) xs (λx=>(ys x).filterMap (g x)) (λρ h=>S ρ/\h=H1) hi hn ⟨s0,rfl⟩ (λρ h s=>by rw[s.2];exact fin)
  (λk hk ρ h ⟨s,e1⟩=>by
   subst e1;obtain⟨d,ρ1,src2,S2,e1,e2,s1,sS,e3,e4,e5,e6⟩:=step k hk ρ s;refine⟨d,ρ1,e1,e2,.inr ⟨h,rfl,λacc hl=>?_⟩⟩;obtain⟨ρ3,h3,r,s3,rfl⟩:=yY (src:=src2) (sg:=sg2) (t:=t2) (m:=bB e) (ys xs[k]) (λy=>(g xs[k] y).toList) (λρ hh=>S2 ρ/\hh=h) (λρ hh s=>by rw[s.2];exact e5)
    (λj hj ρ hh ⟨s,e1⟩=>by
     subst e1;obtain⟨d,ρ2,z1,z2,z3,z4⟩:=e6 j hj ρ s;refine⟨d,ρ2,z1,z2, ?_⟩
     cases q:g xs[k] (ys xs[k])[j]with
     |none=>rw[q]at z4;exact .inl ⟨hh,z4,rfl,z3,rfl⟩
     |some v=>rw[q]at z4;exact .inr ⟨hh,z4.1,λacc hl=>⟨ρ2,hh,NN z4.2 hl,z3,rfl⟩⟩) (ys xs[k]).length 0 ρ1 h acc (by omega) ⟨s1,rfl⟩ (by rw[List.drop_zero,fm];exact hl)
   refine⟨ρ3,h3, ?_,sS ρ3 s3,rfl⟩;unfold kE;rw[e3];dsimp only;rw[e4,r,List.drop_zero,fm]) hl
 exact h
theorem z16 {c:M Bool}{b:MS}{f:Nat}{ρ:Ev}{h h1:Hs}(e:c ρ h=.ok false h1):iI c b (f+1) ρ h=.nx ρ h1:=by show(c ρ h).thenS _=_;rw[e];rfl
theorem NP {c:M Bool}{b:MS}{f:Nat}{ρ ρ2:Ev}{h h1 h2:Hs}(e:c ρ h=.ok true h1) (q:b ρ h1=.nx ρ2 h2):iI c b (f+1) ρ h=iI c b f ρ2 h2:=by show(c ρ h).thenS _=_;rw[e];simp[Rs.thenS,q]
theorem z17 {c:M Bool}{b:MS}{f:Nat}{ρ:Ev}{d:Dv}{h h1 h2:Hs}(e:c ρ h=.ok true h1) (q:b ρ h1=.rt d h2):iI c b (f+1) ρ h=.rt d h2:=by show(c ρ h).thenS _=_;rw[e];simp[Rs.thenS,q]
theorem yZ:∀bs:List Bool,bP nJ (bs.map Dv.bl)=some bs
 | []=>rfl
 |b::bs=>by rw[cy,bP,yZ bs];rfl
end L2.Mr
namespace L2.Mr.Com
open PySem PySem.Spec PyProof.Rows L2 L2.Mr
def aI (n:Nat) (ps:List (Int×Int)):Dv:=.tup [.int n,.tup (ps.map aG)]
theorem NQ {n:Nat}{ps:List (Int×Int)}(H:Hs):aT (aI n ps) (.int 0) H=.ok (.int n) H:=rfl
theorem zA {n:Nat}{ps:List (Int×Int)}(H:Hs):aT (aI n ps) (.int 1) H=.ok (.tup (ps.map aG)) H:=rfl
theorem qY {α:Type}{ml:M (List Dv)}{ρ:Ev}{H H1:Hs}{xs:List α}{f:α->Bool}(h:ml ρ H=.ok (xs.filterMap λx=>some (.bl (f x))) H1):mL jP ml ρ H=.ok (.bl (xs.all f)) H1:=by
 have e:(xs.filterMap λx=>some (Dv.bl (f x)))=(xs.map f).map Dv.bl:=by simp
 unfold mL;rw[h,Rs.bind_ok,e];unfold jP;rw[yZ];simp[List.all_map]
theorem z18 {α:Type}{ml:M (List Dv)}{ρ:Ev}{H H1:Hs}{xs:List α}{f:α->Bool}(h:ml ρ H=.ok (xs.filterMap λx=>some (.bl (f x))) H1):mL sW ml ρ H=.ok (.bl (xs.any f)) H1:=by
 have e:(xs.filterMap λx=>some (Dv.bl (f x)))=(xs.map f).map Dv.bl:=by simp
 unfold mL;rw[h,Rs.bind_ok,e];unfold sW;rw[yZ];simp[Ak]
section
variable{H:Hs}{n x:Int}{ps:List (Int×Int)}
theorem NR:F_q0 [.int x] H=.ok (.bl true) H:=by simp[F_q0,CH,aV,bH,aR,dM,m1,aB,bC,fU,qK,mJ,pV,bK]
theorem EC {lo hi:Int}:F_qn [.int x,.int lo,.int hi] H=.ok (.bl (decide (lo<=x)&&decide (x<=hi))) H:=by
 by_cases h:lo<=x
 ·simp[F_qn,xV,aV,bH,aR,dM,aF,aA,aB,aC,NR,pU,qH,iZ,h,bK]
 ·simp[F_qn,xV,aV,bH,aR,dM,aF,aA,aB,aC,NR,pU,qH,iZ,h,bK]
def isT (n x:Int):Bool:=decide (0<=x)&&decide (x<=n - 1)
theorem NS:F_qz [.int n,.int x] H=.ok (.bl (isT n x)) H:=by simp[F_qz,CI,aV,bH,aR,aF,aA,aB,aC,mC,m2,mI,iZ,EC,bK,isT]
theorem z19 {xs:List Int}(hl:xs.length<=1000):F_qm [.int n,.tup (xs.map Dv.int)] H=.ok (.bl (xs.all (isT n))) H:=by have h:bL (bO dS (aB 1)) [none,some 0] (aE 0) cU (bB (aF F_qz (aA (aB 1) (aA (aB 0) aC)))) [some (.int n),some (.tup (xs.map Dv.int))] H=.ok (xs.filterMap λx=>some (.bl (isT n x))) H:=hW xs (λx=>some (.bl (isT n x))) (λρ=>∃a,ρ=[a,some (.int n)]) rfl (by simp[cZ]) ⟨_,rfl⟩ rfl (λk hk ρ ⟨a,e⟩=>by subst e;exact⟨.int xs[k],_,by simp[cZ,hk],rfl,⟨_,rfl⟩,rfl,by simp[aF,aA,aB,aC,NS]⟩) (by omega);simp[F_qm,xW,aV,bH,aR,dM,m1,bC,aB,fU,gJ,qY h,bK]
def lJ (n:Int) (p:Int×Int):Bool:=isT n p.1&&isT n p.2
theorem z1a (p:Int×Int):F_q1 [.int n,aG p] H=.ok (.bl (lJ n p)) H:=by
 have h:F_qm [.int n,aG p] H=.ok (.bl (lJ n p)) H:=by have:=z19 (H:=H) (n:=n) (xs:=[p.1,p.2]) (by simp);simpa[aG,lJ]using this
 have hlen:f1 fK [aG p] H=.ok (.int 2) H:=rfl
 cases q:lJ n p with
 |false=>simp[F_q1,qS,aV,bH,aR,dM,aF,aA,aB,aC,h,q,bK]
 |true=>simp[F_q1,qS,aV,bH,aR,dM,aF,aA,aB,aC,h,q,bK,m2,hlen,mC,bW,bY,bM,bJ]
theorem z1b (hl:ps.length<=1000):F_qu [.int n,.tup (ps.map aG)] H=.ok (.bl (ps.all (lJ n))) H:=by have h:bL (bO dS (aB 1)) [none,some 0] (aE 0) cU (bB (aF F_q1 (aA (aB 1) (aA (aB 0) aC)))) [some (.int n),some (.tup (ps.map aG))] H=.ok (ps.filterMap λp=>some (.bl (lJ n p))) H:=hW ps (λp=>some (.bl (lJ n p))) (λρ=>∃a,ρ=[a,some (.int n)]) rfl (by simp[cZ]) ⟨_,rfl⟩ rfl (λk hk ρ ⟨a,e⟩=>by subst e;exact⟨aG ps[k],_,by simp[cZ,hk],rfl,⟨_,rfl⟩,rfl,by simp[aF,aA,aB,aC,z1a]⟩) (by omega);simp[F_qu,CJ,aV,bH,aR,qY h,bK]
theorem z1c (hl:ps.length<=1000):F_qv [.tup (ps.map aG)] H=.ok (.bl (ps.any λp=>decide (p.1=p.2))) H:=by have h:bL (bO dS (aB 0)) [none,none] (cG 2 (aY (aE 0) (aY (aE 1) cI))) cU (bB (m2 bW (aB 0) (aB 1))) [some (.tup (ps.map aG))] H=.ok (ps.filterMap λp=>some (.bl (decide (p.1=p.2)))) H:=hW ps (λp=>some (.bl (decide (p.1=p.2)))) (λρ=>∃a b,ρ=[a,b]) rfl (by simp[cZ]) ⟨_,_,rfl⟩ rfl (λk hk ρ ⟨a,b,e⟩=>by subst e;refine⟨aG ps[k],[some (.int ps[k].1),some (.int ps[k].2)],by simp[cZ,hk],rfl,⟨_,_,rfl⟩,rfl, ?_⟩;simp[m2,aB,bW,bY,bM,bJ];rw[fw];simp) (by omega);simp[F_qv,MJ,aV,bH,aR,z18 h,bK]
theorem z1d (p q:Int×Int):gM (aG p) (aG q) H=.ok (.bl (cE p q)) H:=by simp only[gM,aG,bP,iP,MA];rw[<-qO];rfl
def lK (ps:List (Int×Int)):Bool:=(ps.zip (ps.drop 1)).all λq=>cE q.1 q.2
theorem rising_of:∀{ps:List (Int×Int)},lK ps=true↔eV cE ps
 | []=>by simp[lK,eV]
 | [p]=>by simp[lK,eV]
 |p::q::r=>by
  have ih:=rising_of (ps:=q::r);have e:lK (p::q::r)=(cE p q&&lK (q::r)):=by simp[lK]
  rw[e,dm,ih];constructor
  ·rintro ⟨h1,h2⟩
   refine cx.mpr ⟨λz hz=>?_,h2⟩
   rcases bf.mp hz with rfl|hz
   ·exact h1
   ·exact stoP.tr _ _ _ h1 ((cx.mp h2).1 z hz)
  ·intro h;have:=cx.mp h;exact⟨this.1 q (by simp),this.2⟩
theorem z1e (ds:List Dv):nQ ds (some 1) none=ds.drop 1:=by
 unfold nQ;rw[show HT.sIx ds.length 0 (some 1)=min 1 ds.length from HT.sIx_nat ds.length 0 1,HT.sIx_none]
 cases ds with
 |nil=>rfl
 |cons a r=>simp
theorem z1f (hl:ps.length<=1000):F_qw [.tup (ps.map aG)] H=.ok (.bl (lK ps)) H:=by
 have hi:aS qF (aA (aB 0) (aA (tZ (aB 0) (tI (mC (.int 1))) tH) aC)) [some (.tup (ps.map aG))] H=.ok (kZ (ps.map aG) ((ps.drop 1).map aG)) H:=by simp[aS,aA,aB,tZ,tI,mC,JN,tH,xU,aC,qF,z1e,uv]
 have hz:((ps.map aG).zip ((ps.drop 1).map aG)).map (λq=>Dv.tup [q.1,q.2])=(ps.zip (ps.drop 1)).map λq=>Dv.tup [aG q.1,aG q.2]:=by rw[List.zip_map,ni];rfl
 have h:bL (aS qF (aA (aB 0) (aA (tZ (aB 0) (tI (mC (.int 1))) tH) aC))) [none,none] (cG 2 (aY (aE 0) (aY (aE 1) cI))) cU (bB (m2 gM (aB 0) (aB 1))) [some (.tup (ps.map aG))] H=.ok ((ps.zip (ps.drop 1)).filterMap λq=>some (.bl (cE q.1 q.2))) H:=
  hW (ps.zip (ps.drop 1)) (λq=>some (.bl (cE q.1 q.2))) (λρ=>∃a b,ρ=[a,b]) hi (by simp[kZ,cZ]) ⟨_,_,rfl⟩ rfl (λk hk ρ ⟨a,b,e⟩=>by
   subst e;refine⟨.tup [aG (ps.zip (ps.drop 1))[k].1,aG (ps.zip (ps.drop 1))[k].2],[some (aG (ps.zip (ps.drop 1))[k].1),some (aG (ps.zip (ps.drop 1))[k].2)], ?_,rfl,⟨_,_,rfl⟩,rfl, ?_⟩
   ·show(((ps.map aG).zip ((ps.drop 1).map aG)).map (λq=>Dv.tup [q.1,q.2]))[k]?=_;rw[hz,df,az hk];rfl
   ·simp only[m2,aB];exact z1d _ _) (by rw[List.length_zip];omega)
 simp[F_qw,MI,aV,bH,aR,qY h,bK,lK]
def uG (ps:List (Int×Int)):Bool:=ps.all λp=>ps.all λq=>!decide (p.2=q.1)||decide ((p.1,q.2)∈ps)
theorem z1g (hl:ps.length<=900):F_qg [.tup (ps.map aG)] H=.ok (.bl (uG ps)) H:=by
 let g:Int×Int->Int×Int->Option Dv:=λp q=>if p.2=q.1 then some (.bl (decide ((p.1,q.2)∈ps)))else none
 have h:bL (bO dS (aB 0)) [none,none,none,none,some 0] (cG 2 (aY (aE 0) (aY (aE 1) cI))) cU (kE (bO dS (aB 4)) (cG 2 (aY (aE 2) (aY (aE 3) cI))) (mB (m2 bW (aB 1) (aB 2))) (bB (m2 (dR false) (aL (aA (aB 0) (aA (aB 3) aC))) (aB 4)))) [some (.tup (ps.map aG))] H=.ok (ps.flatMap λp=>ps.filterMap (g p)) H:=
  NO ps (λ_=>ps) g (λρ=>∃a b c d,ρ=[a,b,c,d,some (.tup (ps.map aG))]) rfl (by simp[cZ]) ⟨_,_,_,_,rfl⟩ rfl (λk hk ρ ⟨a,b,c,d,e⟩=>by
   subst e;refine⟨aG ps[k],[some (.int ps[k].1),some (.int ps[k].2),c,d,some (.tup (ps.map aG))],cZ (ps.map aG),λρ=>∃c d,ρ=[some (.int ps[k].1),some (.int ps[k].2),c,d,some (.tup (ps.map aG))],by simp[cZ,hk],rfl,⟨_,_,rfl⟩,λρ ⟨c,d,e⟩=>⟨_,_,_,_,e⟩,rfl,by simp[cZ],rfl,λj hj ρ ⟨c,d,e⟩=>?_⟩;subst e;refine⟨aG ps[j],[some (.int ps[k].1),some (.int ps[k].2),some (.int ps[j].1),some (.int ps[j].2),some (.tup (ps.map aG))],by simp[cZ,hj],rfl,⟨_,_,rfl⟩, ?_⟩;have te:mB (m2 bW (aB 1) (aB 2)) [some (.int ps[k].1),some (.int ps[k].2),some (.int ps[j].1),some (.int ps[j].2),some (.tup (ps.map aG))] H=.ok (decide (ps[k].2=ps[j].1)) H:=by simp[mB,m2,aB,bW,bY,bM,bJ,eS];rw[fw];simp
   by_cases c1:ps[k].2=ps[j].1
   ·rw[decide_eq_true c1]at te;have hg:g ps[k] ps[j]=some (.bl (decide ((ps[k].1,ps[j].2)∈ps))):=if_pos c1;rw[hg];refine⟨te, ?_⟩;have hx:aL (aA (aB 0) (aA (aB 3) aC)) [some (.int ps[k].1),some (.int ps[k].2),some (.int ps[j].1),some (.int ps[j].2),some (.tup (ps.map aG))] H=.ok (aG (ps[k].1,ps[j].2)) H:=rfl;unfold m2;rw[hx,Rs.bind_ok];show(Rs.ok (Dv.tup (ps.map aG)) H).bind _=_;rw[Rs.bind_ok,kM];rfl
   ·rw[decide_eq_false c1]at te;have hg:g ps[k] ps[j]=none:=if_neg c1;rw[hg];exact te) (by
   have:∀l:List (Int×Int),(l.flatMap λp=>ps.filterMap (g p)).length<=l.length*ps.length:=λl=>by
    induction l with
    |nil=>simp
    |cons p l ih=>rw[kn,bx,dg,sk];have:=mf (g p) ps;omega
   have h2:=this ps;have h3:ps.length*ps.length<=900*900:=kz hl hl;omega)
 have hb:(ps.flatMap λp=>ps.filterMap (g p))=(ps.flatMap λp=>ps.filterMap λq=>if p.2=q.1 then some (decide ((p.1,q.2)∈ps))else none).map Dv.bl:=by
  rw[List.map_flatMap]
  congr 1
  funext p
  rw[uy]
  congr 1
  funext q
  show(if p.2=q.1 then some (Dv.bl (decide ((p.1,q.2)∈ps)))else none)=_
  split <;> rfl
 have hall:mL jP (bL (bO dS (aB 0)) [none,none,none,none,some 0] (cG 2 (aY (aE 0) (aY (aE 1) cI))) cU (kE (bO dS (aB 4)) (cG 2 (aY (aE 2) (aY (aE 3) cI))) (mB (m2 bW (aB 1) (aB 2))) (bB (m2 (dR false) (aL (aA (aB 0) (aA (aB 3) aC))) (aB 4))))) [some (.tup (ps.map aG))] H=.ok (.bl (uG ps)) H:=by
  unfold mL;rw[h,Rs.bind_ok,hb];unfold jP;rw[yZ];dsimp only
  congr 2
  rw[fw];unfold uG;simp only[fy,we,gq,id];constructor
  ·intro h p hp q hq
   by_cases c:p.2=q.1
   ·have:=h (decide ((p.1,q.2)∈ps)) ⟨p,hp,q,hq,if_pos c⟩;simp[c,this]
   ·simp[c]
  ·rintro h b ⟨p,hp,q,hq,e⟩
   have:=h p hp q hq
   by_cases c:p.2=q.1
   ·rw[if_pos c]at e;cases e;simpa[c]using this
   ·rw[if_neg c]at e;cases e
 simp[F_qg,MK,aV,bH,aR,hall,bK]
def qZ (n:Int) (ps:List (Int×Int)):Bool:=decide (1<=n)&&decide (n<=6)&&ps.all (lJ n)&&lK ps&&!(ps.any λp=>decide (p.1=p.2))&&uG ps
theorem NT {n:Int}(hl:ps.length<=900):F_qy [.tup [.int n,.tup (ps.map aG)]] H=.ok (.bl (qZ n ps)) H:=by
 have b:=EC (H:=H) (x:=n) (lo:=1) (hi:=6);have p1:=z1b (H:=H) (n:=n) (ps:=ps) (by omega);have p2:=z1f (H:=H) (ps:=ps) (by omega);have p3:=z1c (H:=H) (ps:=ps) (by omega);have p4:=z1g (H:=H) (ps:=ps) hl;have hlen:f1 fK [.tup [.int n,.tup (ps.map aG)]] H=.ok (.int 2) H:=rfl;unfold qZ;generalize (decide (1<=n)&&decide (n<=6))=c0 at b ⊢;generalize ps.all (lJ n)=c1 at p1 ⊢;generalize lK ps=c2 at p2 ⊢;generalize (ps.any λp=>decide (p.1=p.2))=c3 at p3 ⊢;generalize uG ps=c4 at p4 ⊢
 cases c0 <;> cases c1 <;> cases c2 <;> cases c3 <;> cases c4 <;>
  simp[F_qy,pF,aV,bH,aJ,bE,iL,cF,bD,m1,bC,aB,fU,gJ,dZ,mB,m2,aF,aA,aC,hlen,mC,cB,bY,bM,bJ,eS,bQ,aM,cG,aY,aE,cI,b,p1,p2,p3,p4,aR,dM,pV,bK]
end
structure OrdP (n:Nat) (ps:List (Int×Int)):Prop where
 n1:1<=n
 n6:n<=6
 rng:∀p∈ps,0<=p.1/\p.1<n/\0<=p.2/\p.2<n
 rise:eV cE ps
 irr:∀p∈ps,p.1≠p.2
 tr:∀p∈ps,∀q∈ps,p.2=q.1->(p.1,q.2)∈ps
section
variable{n:Nat}{ps:List (Int×Int)}{H:Hs}
def ED (n:Nat):List (Int×Int):=(ba n).flatMap λa:Nat=>(ba n).map λb:Nat=>((a:Int),(b:Int))
theorem z1h (n:Nat):(ED n).length=n*n:=by
 unfold ED;have:∀l:List Nat,(l.flatMap λa:Nat=>(ba n).map λb:Nat=>((a:Int),(b:Int))).length=l.length*n:=λl=>by
  induction l with
  |nil=>simp
  |cons a l ih=>rw[kn,bx,ih,dg,sk];simp;omega
 rw[this];simp
theorem z1i {p:Int×Int}(h:0<=p.1/\p.1<n/\0<=p.2/\p.2<n):p∈ED n:=by obtain⟨a,b⟩:=p;simp only at h;refine we.mpr ⟨a.toNat,bw.mpr (by omega),cp.mpr ⟨b.toNat,bw.mpr (by omega), ?_⟩⟩;simp;omega
theorem uH (hr:eV cE ps) (hp:∀p∈ps,0<=p.1/\p.1<n/\0<=p.2/\p.2<n):ps.length<=n*n:=by rw[<-z1h n];exact(tV stoP hr).length_le_of_subset λp h=>z1i (hp p h)
theorem OrdP.len (o:OrdP n ps):ps.length<=36:=by have h1:=uH o.rise o.rng;have h2:n*n<=6*6:=kz o.n6 o.n6;omega
theorem OrdP.b (o:OrdP n ps):qZ n ps=true:=by
 have h1:=o.n1;have h6:=o.n6;unfold qZ;simp only[dm,decide_eq_true_eq,vm];refine⟨⟨⟨⟨⟨by omega,by omega⟩, ?_⟩,rising_of.mpr o.rise⟩, ?_⟩, ?_⟩
 ·refine fy.mpr λp hp=>?_;have:=o.rng p hp;simp[lJ,isT];omega
 ·refine List.any_eq_false.mpr λp hp=>?_;simpa using o.irr p hp
 ·refine fy.mpr λp hp=>fy.mpr λq hq=>?_
  by_cases c:p.2=q.1
  ·simp[c,o.tr p hp q hq c]
  ·simp[c]
theorem z1j (o:OrdP n ps):F_qy [aI n ps] H=.ok (.bl true) H:=by have:=NT (H:=H) (n:=(n:Int)) (ps:=ps) (by have:=o.len;omega);rw[o.b]at this;exact this
end
theorem z1k (H:Hs) (n:Nat) (a:Int) (b:Bool) (m:Int) (h0:0<m) (h1:m<18446744073709551616) (e:getL H n=some [.int a,.bl b]):
  ∃r a',0<=r/\r<m/\F_qs [.ref n,.int m] H=.ok (.int r) (H.set n (.lst [.int a',.bl b])):=by
 cases b with
 |true=>refine⟨a % m,a / m,Int.emod_nonneg _ (by omega),Int.emod_lt_of_pos _ h0, ?_⟩;simp[F_qs,CK,aV,bH,aJ,bE,bD,m2,aB,mC,aT,fV,gG,e,kD,gQ,fO,dZ,aM,lA,kW,pX,h0,aE,sY,tP,tO,h1,wR,aR,bK]
 |false=>
  have q1:∀ys,getL (H.set n (.lst ys)) n=some ys:=λys=>lB e;generalize hs:(a*48271+29) % 2147483647=s;have s0:0<=s:=by omega
  have s1:s<2147483647:=by omega
  generalize ht:(s*s+39373*s+7) % 2147483629=t;have t0:0<=t:=by omega
  have t1:t<2147483629:=by omega
  generalize hu:(t*t+16807*t) % 2147483587=u;refine⟨u / 8 % m,s,Int.emod_nonneg _ (by omega),Int.emod_lt_of_pos _ h0, ?_⟩;have w1:jA s=true:=by simp[jA];omega
  have w2:jA t=true:=by simp[jA];omega
  have w3:jA 48271=true:=by decide
  have w4:jA 39373=true:=by decide
  have w5:jA 16807=true:=by decide
  simp[F_qs,CK,aV,bH,aJ,bE,bD,m2,aB,mC,aT,fV,gG,e,kD,gQ,fO,dZ,aM,lA,kW,pX,h0,aE,sY,tP,tO,h1,wR,aR,bK,bQ,bX,mD,oV,wB,w1,w2,w3,w4,w5,q1,hs,ht,hu]
def St (n:Nat) (H:Hs):Prop:=∃a b,getL H n=some [.int a,.bl b]
theorem St.fr {n:Nat}{S:List Nat}{H H':Hs}(s:St n H) (f:Fr S H H') (h:n∉S):St n H':=let ⟨a,b,e⟩:=s;⟨a,b,f.getL e h⟩
theorem mS {H:Hs}{n:Nat}(m:Int) (s:St n H) (h0:0<m:=by decide) (h1:m<18446744073709551616:=by decide):
  ∃r H',0<=r/\r<m/\F_qs [.ref n,.int m] H=.ok (.int r) H'/\Fr [n] H H'/\St n H':=by
 obtain⟨a,b,e⟩:=s;obtain⟨r,a',r0,r1,ht⟩:=z1k H n a b m h0 h1 e;exact⟨r,_,r0,r1,ht,Fr.set,a',b,lB e⟩
theorem z1l (scr:List Int) (k:Nat) (h:Hs):∃H',F_ql scr [.scr,.int k] h=.ok (.ref h.length) H'/\Fr [] h H'/\St h.length H':=by
 have cell:∃c,F_qd scr [.scr,.int k] h=.ok (.int c) h:=by
  by_cases hk:k<scr.length
  ·refine⟨scr[k], ?_⟩;have hk':(k:Int)<scr.length:=by omega
   simp[F_qd,xX,aV,bH,aJ,bE,mB,m2,aB,mC,gM,aF,f1,iC,fY,aA,aC,eS,hk',hk,gG,kD,gQ,fO,aR,bK]
  ·refine⟨0, ?_⟩;have hk':¬ (k:Int)<scr.length:=by omega
   simp[F_qd,xX,aV,bH,aJ,bE,mB,m2,aB,mC,gM,aF,f1,iC,fY,aA,aC,eS,hk',hk,gG,kD,gQ,fO,aR,bK,bQ]
 obtain⟨c,hc⟩:=cell;have fin:∀a b,Fr [] h (h++[Ob.lst [.int a,.bl b]])/\St h.length (h++[Ob.lst [.int a,.bl b]]):=λa b=>⟨Fr.app,a,b,by rw[X4];rfl⟩
 by_cases hg:c>=1000000000000000000
 ·refine⟨_, ?_,fin (c - 1000000000000000000) true⟩;simp[F_ql,xY,aV,bH,aJ,aM,aF,aA,aB,aC,hc,aE,bE,mB,m2,xC,iZ,oW,kW,sM,mC,eS,hg,aR,aU,mI,lim,bK]
 ·refine⟨_, ?_,fin (c % 2147483647) false⟩;simp[F_ql,xY,aV,bH,aJ,aM,aF,aA,aB,aC,hc,aE,bE,mB,m2,xC,iZ,oW,kW,sM,mC,eS,hg,aR,aU,mI,lim,bK,bQ,lA,pX]
theorem St.lt {st:Nat}{H:Hs}(s:St st H):st<H.length:=let ⟨_,_,e⟩:=s;kL e
theorem z1m {H:Hs}{q:Nat}{ks:List Int}(e:getL H q=some (ks.map Dv.int)):cB (.ref q) (.ref H.length) (H++[.lst []])=.ok (.bl (!ks.isEmpty)) (H++[.lst []]):=by
 have p1:bM bY (H++[.lst []]) (.ref q)=some (.lst (ks.map Dt.int)):=by show bM (28+1+1) (H++[.lst []]) (.ref q)=_;rw[bM];simp only[iR (l:=[.lst []]) e,BQ]
 have p2:bM bY (H++[.lst []]) (.ref H.length)=some (.lst []):=by
  show bM (28+1+1) (H++[.lst []]) (.ref H.length)=_;rw[bM];have:getL (H++[.lst []]) H.length=some []:=by simp[getL]
  simp only[this];rfl
 unfold cB;rw[p1,p2]
 cases ks <;> simp[bJ,fX]
def zB:M Bool:=mB (m2 cB (aB 2) (aU aC))
def zC:MS:=bG (cO (aB 3) (tG (aB 2) (aF F_qs (aA (aB 0) (aA (aF (f1 fK) (aA (aB 2) aC)) aC)))))
theorem z1n:CL=aJ (aM (aF (f1 kK) (aA (aB 1) aC)) (aE 2)) (aJ (aM (aU aC) (aE 3)) (aJ (iI zB zC 40) (aR (aB 3)))):=rfl
section
variable{st a b:Nat}{d:Dv}
theorem NU (hab:a≠b) (has:a≠st) (hbs:b≠st):∀(f:Nat) (ls fs:List Int) (H:Hs),ls.length<f->ls.length+fs.length<=100->getL H a=some (ls.map Dv.int)->getL H b=some (fs.map Dv.int)->St st H->
  ∃(H':Hs) (ys:List Int),iI zB zC f [some (.ref st),some d,some (.ref a),some (.ref b)] H=.nx [some (.ref st),some d,some (.ref a),some (.ref b)] H'/\getL H' b=some (ys.map Dv.int)/\ys.Perm (fs++ls)/\St st H'/\Fr [st,a,b] H H'
 |0,ls,fs,H,h,_,_,_,_=>by omega
 |f+1,ls,fs,H,h,hl,ea,eb,s=>by
  have tc:zB [some (.ref st),some d,some (.ref a),some (.ref b)] H=.ok (!ls.isEmpty) (H++[.lst []]):=by simp[zB,mB,m2,aB,aU,aC,lim,z1m ea,eS]
  have ea1:=iR (l:=[Ob.lst []]) ea;have eb1:=iR (l:=[Ob.lst []]) eb;have g1:Fr [st,a,b] H (H++[Ob.lst []]):=Fr.app;have s1:=s.fr (Fr.app (S:=[]) (l:=[Ob.lst []])) (by simp);generalize H++[Ob.lst []]=H1 at tc ea1 eb1 g1 s1
  cases hls:ls with
  |nil=>subst hls;refine⟨H1,fs, ?_,eb1,by simp,s1,g1⟩;exact z16 tc
  |cons x r=>
   have hne:ls.isEmpty=false:=by rw[hls];rfl
   have hpos:(0:Int)<ls.length:=by rw[hls];simp
   obtain⟨k,H2,k0,k1,ht,f2,s2⟩:=mS (ls.length:Int) s1 hpos (by omega);have ea2:=f2.getL ea1 (by simpa using has);have eb2:=f2.getL eb1 (by simpa using hbs);have hk:k.toNat<ls.length:=by omega
   have ixk:fO (ls.map Dv.int).length k=some k.toNat:=by unfold fO;rw[if_pos k0,bh,if_pos k1]
   have getk:(ls.map Dv.int)[k.toNat]?=some (.int ls[k.toNat]):=by simp[hk]
   have hlen:f1 fK [.ref a] H1=.ok (.int ls.length) H1:=by show(if fV (.ref a)=true then iC [] (.ref a) H1 else .bad)=_;simp[fV,iC,fY,ea1]
   have hz:(ls.map Dv.int).length<=1000000:=by rw[bh];omega
   have pop:wZ (.ref a) (.int k) H2=.ok (.int ls[k.toNat]) (H2.set a (.lst ((ls.eraseIdx k.toNat).map Dv.int))):=by
    simp only[wZ,ea2,ixk,getk,hz,if_true];have em:(ls.map Dv.int).eraseIdx k.toNat=(ls.eraseIdx k.toNat).map Dv.int:=by rw[wa,wa,gr,Aa,uv]
    rw[em]
   have eb3:getL (H2.set a (.lst ((ls.eraseIdx k.toNat).map Dv.int))) b=some (fs.map Dv.int):=by rw[tR hab];exact eb2
   have ea3:getL (H2.set a (.lst ((ls.eraseIdx k.toNat).map Dv.int))) a=some ((ls.eraseIdx k.toNat).map Dv.int):=lB ea2;have f3:Fr [st,a,b] H2 (H2.set a (.lst ((ls.eraseIdx k.toNat).map Dv.int))):=Fr.set.mono (by simp);have s3:St st (H2.set a (.lst ((ls.eraseIdx k.toNat).map Dv.int))):=s2.fr Fr.set (by simpa using cw has);generalize hH3:H2.set a (.lst ((ls.eraseIdx k.toNat).map Dv.int))=H3 at pop eb3 ea3 f3 s3;have hfl:(fs.map Dv.int).length<1000000:=by rw[bh];omega
   have body:zC [some (.ref st),some d,some (.ref a),some (.ref b)] H1=.nx [some (.ref st),some d,some (.ref a),some (.ref b)] (H3.set b (.lst ((fs++[ls[k.toNat]]).map Dv.int))):=by
    have isA:gS (.ref a) H1=true:=by simp[gS,ea1]
    have isB:gS (.ref b) H1=true:=by simp[gS,eb1]
    have hpop:tG (aB 2) (aF F_qs (aA (aB 0) (aA (aF (f1 fK) (aA (aB 2) aC)) aC))) [some (.ref st),some d,some (.ref a),some (.ref b)] H1=.ok (.int ls[k.toNat]) H3:=by simp[tG,aB,isA,aF,aA,aC,hlen,ht,pop]
    have happ:jQ (.ref b) (.int ls[k.toNat]) H3=.ok .non (H3.set b (.lst ((fs++[ls[k.toNat]]).map Dv.int))):=by simp only[jQ,eb3,hfl,if_true,gr];rfl
    simp[zC,bG,cO,aB,isB,hpop,happ]
   have hlen2:(ls.eraseIdx k.toNat).length=ls.length - 1:=yg hk;obtain⟨H',ys,w,e',pm,s',f'⟩:=NU hab has hbs f (ls.eraseIdx k.toNat) (fs++[ls[k.toNat]]) (H3.set b (.lst ((fs++[ls[k.toNat]]).map Dv.int))) (by omega) (by rw[bx];simp;omega) (by rw[tR (cw hab)];exact ea3) (lB eb3) (s3.fr Fr.set (by simpa using cw hbs));refine⟨H',ys, ?_,e', ?_,s', ?_⟩
   ·rw[hne]at tc;rw[NP tc body];exact w
   ·rw[<-hls];refine pm.trans ?_;rw[nc];refine yh fs ?_;have:=SR.erase_perm ls k.toNat hk;simpa using this
   ·exact(((g1.trans f2 (by simp)).trans f3 (by simp)).trans (T:=[b]) Fr.set (by simp)).trans f' (by simp)
theorem z1o {H:Hs}{j:Nat}{xs:List Int}(s:St st H) (e:getL H j=some (xs.map Dv.int)) (hl:xs.length<=20):∃(i:Nat) (ys:List Int) (H':Hs),F_qc [.ref st,.ref j] H=.ok (.ref i) H'/\getL H' i=some (ys.map Dv.int)/\ys.Perm xs/\H.length<=i/\St st H'/\Fr [st] H H':=by
 have lt:=s.lt;have w0:aM (aF (f1 kK) (aA (aB 1) aC)) (aE 2) [some (.ref st),some (.ref j),none,none] H=.nx [some (.ref st),some (.ref j),some (.ref H.length),none] (H++[.lst (xs.map Dv.int)]):=by simp[aM,aF,f1,kK,fV,qA,fY,aA,aB,aC,e,aE]
 have w1:aM (aU aC) (aE 3) [some (.ref st),some (.ref j),some (.ref H.length),none] (H++[.lst (xs.map Dv.int)])=.nx [some (.ref st),some (.ref j),some (.ref H.length),some (.ref (H.length+1))] (H++[.lst (xs.map Dv.int)]++[.lst []]):=by simp[aM,aU,aC,lim,aE]
 have ea:getL (H++[.lst (xs.map Dv.int)]++[.lst []]) H.length=some (xs.map Dv.int):=iR (by simp[getL]);have eb:getL (H++[.lst (xs.map Dv.int)]++[.lst []]) (H.length+1)=some (([]:List Int).map Dv.int):=by simp[getL]
 have f0:Fr [st] H (H++[.lst (xs.map Dv.int)]++[.lst []]):=Fr.trans (T:=[]) Fr.app Fr.app (by simp);have s0:St st (H++[.lst (xs.map Dv.int)]++[.lst []]):=(s.fr (Fr.app (S:=[]) (l:=[.lst (xs.map Dv.int)])) (by simp)).fr (Fr.app (S:=[])) (by simp);obtain⟨H',ys,w2,e2,pm,s2,f2⟩:=NU (st:=st) (a:=H.length) (b:=H.length+1) (d:=.ref j) (by omega) (by omega) (by omega) 40 xs [] _ (by omega) (by simp;omega) ea eb s0;refine⟨H.length+1,ys,H', ?_,e2,by simpa using pm,by omega,s2,f0.trans f2 (by simp)⟩;show bK (CL [some (.ref st),some (.ref j),none,none] H)=_;rw[z1n,bI w0,bI w1,bI w2];rfl
end
def eK (ps:List (Int×Int)) (p:Int×Int):List (Int×Int):=(ps.filter λq=>decide (p.2=q.1)).map λq=>(p.1,q.2)
def dX (ps:List (Int×Int)):List (Int×Int):=dW cE (ps++ps.flatMap (eK ps))
def uI:Nat->List (Int×Int)->Option (List (Int×Int))
 |0,_=>none
 |f+1,ps=>if dX ps=ps then some ps else uI f (dX ps)
def mT (n:Nat) (ps:List (Int×Int)):Prop:=∀p∈ps,0<=p.1/\p.1<n/\0<=p.2/\p.2<n
def Tr (ps:List (Int×Int)):Prop:=∀p∈ps,∀q∈ps,p.2=q.1->(p.1,q.2)∈ps
theorem z1p {ps:List (Int×Int)}{p r:Int×Int}:r∈eK ps p↔∃q∈ps,p.2=q.1/\r=(p.1,q.2):=by
 simp only[eK,cp,iq,decide_eq_true_eq];constructor
 ·rintro ⟨q,⟨h1,h2⟩,h3⟩;exact⟨q,h1,h2,h3.symm⟩
 ·rintro ⟨q,h1,h2,h3⟩;exact⟨q,⟨h1,h2⟩,h3.symm⟩
theorem step_mem {ps:List (Int×Int)}{r:Int×Int}:r∈dX ps↔r∈ps∨∃p∈ps,∃q∈ps,p.2=q.1/\r=(p.1,q.2):=by unfold dX;rw[mO stoP,dy,we];simp only[z1p]
theorem EE {n:Nat}{ps:List (Int×Int)}(h:mT n ps):mT n (dX ps):=λr hr=>by
 rcases step_mem.mp hr with hr|⟨p,hp,q,hq,_,rfl⟩
 ·exact h r hr
 ·exact⟨(h p hp).1,(h p hp).2.1,(h q hq).2.2.1,(h q hq).2.2.2⟩
theorem uJ (ps:List (Int×Int)):eV cE (dX ps):=tU stoP _
theorem z1q {ps:List (Int×Int)}(hr:eV cE ps):dX ps=ps↔Tr ps:=by
 constructor
 ·intro h p hp q hq e;rw[<-h];exact step_mem.mpr (.inr ⟨p,hp,q,hq,e,rfl⟩)
 ·intro h;refine qN stoP (uJ ps) hr λr=>?_;rw[step_mem];constructor
  ·rintro (hr|⟨p,hp,q,hq,e,rfl⟩)
   ·exact hr
   ·exact h p hp q hq e
  ·exact λh=>.inl h
theorem z1r {ps:List (Int×Int)}(hr:eV cE ps) (hne:dX ps≠ps):ps.length<(dX ps).length:=by
 have nd:=tV stoP hr;have sub:∀r∈ps,r∈dX ps:=λr h=>step_mem.mpr (.inl h);have h1:=nd.length_le_of_subset sub
 rcases iz ps.length (dX ps).length with h|h
 ·exact h
 ·exfalso
  apply hne
  have sub2:∀r∈dX ps,r∈ps:=λr hr'=>by
   by_cases hm:r∈ps
   ·exact hm
   ·exfalso
    have nd2:(r::ps).Nodup:=jo.mpr ⟨hm,nd⟩;have:=nd2.length_le_of_subset (l₂:=dX ps) λx hx=>by
     rcases bf.mp hx with rfl|hx
     ·exact hr'
     ·exact sub x hx
    simp at this;omega
  exact qN stoP (uJ ps) hr λr=>⟨sub2 r,sub r⟩
theorem NV {n:Nat}(hn:n<=6):∀(f:Nat) (ps:List (Int×Int)),eV cE ps->mT n ps->36<f+ps.length->∃cs,uI f ps=some cs/\eV cE cs/\mT n cs/\Tr cs/\(∀p∈ps,p∈cs)/\∀R:Int->Int->Prop,(∀a b c,R a b->R b c->R a c)->(∀p∈ps,R p.1 p.2)->∀p∈cs,R p.1 p.2
 |0,ps,hr,hi,h=>by have h1:=uH hr hi;have h2:n*n<=6*6:=kz hn hn;omega
 |f+1,ps,hr,hi,h=>by
  unfold uI
  split
  ·rename_i e;exact⟨ps,rfl,hr,hi,(z1q hr).mp e,λp hp=>hp,λR _ h=>h⟩
  ·rename_i e;have:=z1r hr e;obtain⟨cs,h1,h2,h3,h4,h5,h6⟩:=NV hn f (dX ps) (uJ ps) (EE hi) (by omega);refine⟨cs,h1,h2,h3,h4,λp hp=>h5 p (step_mem.mpr (.inl hp)),λR ht hR=>h6 R ht λr hr'=>?_⟩
   rcases step_mem.mp hr' with hr'|⟨p,hp,q,hq,e,rfl⟩
   ·exact hR r hr'
   ·refine ht _ p.2 _ (hR p hp) ?_;rw[e];exact hR q hq
theorem uK {α:Type}{f:α->Dv}{H:Hs}{i k:Nat}{xs:List α}(e:getL H i=some (xs.map f)) (hk:k<xs.length):(eC i xs.length).get k H=some (f xs[k]):=by simp[eC,e,hk]
theorem uL {α:Type}{f:α->Dv}{H:Hs}{i:Nat}{xs:List α}(e:getL H i=some (xs.map f)):(eC i xs.length).fin H=true:=by simp[eC,e]
theorem NW:∀ps:List (Int×Int),bP lF (ps.map aG)=some (ps.map gA)
 | []=>rfl
 |p::ps=>by rw[cy,bP,NW ps];rfl
theorem z1s (ps:List (Int×Int)):pD (ps.map gA)=true:=by simp[pD,gA]
theorem z1t (ps:List (Int×Int)):(ps.map gA).map pC=ps.map aG:=by rw[ni];rfl
section
variable{H:Hs}{ps:List (Int×Int)}{d:Dv}
theorem NX (h:pE d H=some (ps.map gA)) (hl:(dW cE ps).length<64):lG d H=.ok (.ref H.length) (H++[.lst ((dW cE ps).map aG)]):=by unfold lG;rw[h];dsimp only;rw[KQ qO,bh,if_pos (by rw[z1s];simpa using hl),z1t]
theorem z1u {i j:Nat}{ps qs:List (Int×Int)}(ei:getL H i=some (ps.map aG)) (ej:getL H j=some (qs.map aG)):bW (.ref i) (.ref j) H=.ok (.bl (decide (ps=qs))) H:=by
 have p:∀(i:Nat) (ps:List (Int×Int)),getL H i=some (ps.map aG)->bM bY H (.ref i)=some (.lst (ps.map jT)):=λi ps e=>by show bM (27+2+1) H (.ref i)=_;rw[bM];simp only[e,BR]
 have dq:∀ps qs:List (Int×Int),fX (ps.map jT) (qs.map jT)=decide (ps=qs):=λps=>by
  induction ps with
  |nil=>intro qs;cases qs <;> simp[fX]
  |cons p ps ih=>
   intro qs
   cases qs with
   |nil=>simp[fX]
   |cons q qs=>simp only[cy,fX,J4,ih];rw[fw];simp
 unfold bW;rw[p i ps ei,p j qs ej];simp only[bJ,dq]
def rD:M (List Dv):=bL (bO dD (aB 1)) [none,none,some 3,some 4] (cG 2 (aY (aE 0) (aY (aE 1) cI))) (mB (m2 bW (aB 3) (aB 0))) (bB (aL (aA (aB 2) (aA (aB 1) aC))))
def rE:MS:=aJ (aM (aF (f1 kK) (aA (aB 1) aC)) (aE 2)) (aJ (dN (bO dD (aB 1)) (cG 2 (aY (aE 3) (aY (aE 4) cI))) (bG (oU (aB 2) rD))) (aJ (aM (aF (f1 lG) (aA (aB 2) aC)) (aE 2)) (aJ (bE (mB (m2 bW (aB 2) (aB 1))) (aR (aB 1)) bQ) (aM (aB 2) (aE 1)))))
theorem z1v:iS=aJ (aM (aF (f1 lG) (aA (aB 0) aC)) (aE 1)) (iI (bD (mC (.bl true))) rE 40):=rfl
theorem z1w {x0 x2:Option Dv}{i:Nat}{p:Int×Int}(hl:ps.length<=1000) (e:getL H i=some (ps.map aG)):rD [x0,some (.ref i),x2,some (.int p.1),some (.int p.2)] H=.ok ((eK ps p).map aG) H:=by
 have hi:bO dD (aB 1) [x0,some (.ref i),x2,some (.int p.1),some (.int p.2)] H=.ok (eC i ps.length) H:=by simp[bO,aB,dD,e]
 have h:rD [x0,some (.ref i),x2,some (.int p.1),some (.int p.2)] H=.ok (ps.filterMap λq=>if p.2=q.1 then some (aG (p.1,q.2))else none) H:=
  hW ps (λq=>if p.2=q.1 then some (aG (p.1,q.2))else none) (λρ=>∃a b,ρ=[a,b,some (.int p.1),some (.int p.2)]) hi rfl ⟨_,_,rfl⟩ (by simp[eC,e]) (λk hk ρ ⟨a,b,er⟩=>by
   subst er;refine⟨aG ps[k],[some (.int ps[k].1),some (.int ps[k].2),some (.int p.1),some (.int p.2)],by simp[eC,e,hk],rfl,⟨_,_,rfl⟩, ?_⟩;have te:mB (m2 bW (aB 3) (aB 0)) [some (.int ps[k].1),some (.int ps[k].2),some (.int p.1),some (.int p.2)] H=.ok (decide (p.2=ps[k].1)) H:=by simp[mB,m2,aB,bW,bY,bM,bJ,eS];rw[fw];simp
   by_cases c:p.2=ps[k].1
   ·rw[if_pos c];rw[decide_eq_true c]at te;exact⟨te,rfl⟩
   ·rw[if_neg c];rw[decide_eq_false c]at te;exact te) (by omega)
 rw[h]
 congr 1
 unfold eK;rw[ni];have:∀l:List (Int×Int),l.filterMap (λq=>if p.2=q.1 then some (aG (p.1,q.2))else none)=(l.filter λq=>decide (p.2=q.1)).map (aG∘λq=>(p.1,q.2)):=λl=>by
  induction l with
  |nil=>rfl
  |cons q l ih=>
   rw[bu,List.filter_cons,ih]
   by_cases c:p.2=q.1 <;> simp[c]
 exact this ps
theorem NY (ps:List (Int×Int)) (p:Int×Int):(eK ps p).length<=ps.length:=by unfold eK;rw[bh];exact jn _ _
theorem NZ (ps:List (Int×Int)):∀l:List (Int×Int),(l.flatMap (eK ps)).length<=l.length*ps.length
 | []=>by simp
 |p::l=>by have h1:=NY ps p;have h2:=NZ ps l;rw[kn,bx,dg,sk];omega
theorem z1x {x0 x3 x4:Option Dv}{i j:Nat}(hij:i≠j) (hl:ps.length<=40) (ei:getL H i=some (ps.map aG)) (ej:getL H j=some (ps.map aG)):
  ∃y3 y4,dN (bO dD (aB 1)) (cG 2 (aY (aE 3) (aY (aE 4) cI))) (bG (oU (aB 2) rD)) [x0,some (.ref i),some (.ref j),x3,x4] H=.nx [x0,some (.ref i),some (.ref j),y3,y4] (H.set j (.lst ((ps++ps.flatMap (eK ps)).map aG))):=by
 have hi:bO dD (aB 1) [x0,some (.ref i),some (.ref j),x3,x4] H=.ok (eC i ps.length) H:=by simp[bO,aB,dD,ei]
 have self:H.set j (.lst (ps.map aG))=H:=by
  apply nh
  intro k
  by_cases hk:j=k
  ·subst hk;rw[cz (kL ej),cM ej]
  ·rw[dw hk]
 obtain⟨ρ',H',h1,y3,y4,h2,h3⟩:=qL (b:=bG (oU (aB 2) rD)) (sg:=cG 2 (aY (aE 3) (aY (aE 4) cI))) hi (λk ρ H'=>∃(y3 y4:Option Dv),ρ=[x0,some (.ref i),some (.ref j),y3,y4]/\H'=H.set j (.lst ((ps++(ps.take k).flatMap (eK ps)).map aG)))
  (λk ρ H' hk ⟨y3,y4,e1,e2⟩=>by
   subst e1;subst e2;have hk':k<ps.length:=hk;have ei':getL (H.set j (.lst ((ps++(ps.take k).flatMap (eK ps)).map aG))) i=some (ps.map aG):=by rw[tR (cw hij)];exact ei
   have ej':getL (H.set j (.lst ((ps++(ps.take k).flatMap (eK ps)).map aG))) j=some ((ps++(ps.take k).flatMap (eK ps)).map aG):=lB ej;have hlen:(ps++(ps.take k).flatMap (eK ps)).length<=40+40*40:=by have h1:=NZ ps (ps.take k);have h2:(ps.take k).length*ps.length<=40*40:=kz (by rw[jk];omega) hl;rw[bx];omega
   have hf:=NY ps ps[k];refine⟨aG ps[k],[x0,some (.ref i),some (.ref j),some (.int ps[k].1),some (.int ps[k].2)],[x0,some (.ref i),some (.ref j),some (.int ps[k].1),some (.int ps[k].2)],_,uK ei' hk',rfl, ?_,_,_,rfl,rfl⟩;have hc:=z1w (x0:=x0) (x2:=some (.ref j)) (p:=ps[k]) (by omega) ei';generalize hG:H.set j (.lst ((ps++(ps.take k).flatMap (eK ps)).map aG))=G at ei' ej' hc;have isJ:gS (.ref j) G=true:=by simp[gS,ej']
   have hz:((ps++(ps.take k).flatMap (eK ps)).map aG).length+((eK ps ps[k]).map aG).length<=1000000:=by rw[bh,bh];omega
   have hx:wQ (.ref j) ((eK ps ps[k]).map aG) G=.ok .non (G.set j (.lst ((ps++(ps.take (k+1)).flatMap (eK ps)).map aG))):=by unfold wQ;simp only[ej',lim,hz,if_true];rw[vn hk',Bn,<-gr];simp[nc]
   have:oU (aB 2) rD [x0,some (.ref i),some (.ref j),some (.int ps[k].1),some (.int ps[k].2)] G=.ok .non (G.set j (.lst ((ps++(ps.take (k+1)).flatMap (eK ps)).map aG))):=by unfold oU;show(Rs.ok (Dv.ref j) G).bind _=_;rw[Rs.bind_ok,if_pos isJ,hc,Rs.bind_ok,hx]
   unfold bG;rw[this,<-hG,List.set_set];rfl)
  (λρ H' ⟨_,_,_,e2⟩=>by
   subst e2;have ei':getL (H.set j (.lst ((ps++(ps.take (eC i ps.length).n).flatMap (eK ps)).map aG))) i=some (ps.map aG):=by rw[tR (cw hij)];exact ei
   exact uL ei') ⟨x3,x4,rfl,by simp[self]⟩
 refine⟨y3,y4, ?_⟩;rw[h1,h2,h3];simp[eC]
end
section
variable{H:Hs}{ps:List (Int×Int)}
theorem N0 {i:Nat}(e:getL H i=some (ps.map aG)):pE (.ref i) H=some (ps.map gA):=by simp only[pE,e,NW]
theorem EF {x0 x2 x3 x4:Option Dv}{i:Nat}(hl:ps.length<=40) (hs:(dX ps).length<64) (e:getL H i=some (ps.map aG)):
  ∃H',Fr [] H H'/\getL H' i=some (ps.map aG)/\if dX ps=ps then rE [x0,some (.ref i),x2,x3,x4] H=.rt (.ref i) H' else ∃(j:Nat) (y2 y3 y4:Option Dv),rE [x0,some (.ref i),x2,x3,x4] H=.nx [x0,some (.ref j),y2,y3,y4] H'/\getL H' j=some ((dX ps).map aG):=by
 have li:=kL e;have w0:aM (aF (f1 kK) (aA (aB 1) aC)) (aE 2) [x0,some (.ref i),x2,x3,x4] H=.nx [x0,some (.ref i),some (.ref H.length),x3,x4] (H++[.lst (ps.map aG)]):=by simp[aM,aF,f1,kK,fV,qA,fY,aA,aB,aC,e,aE]
 have ei:=iR (l:=[Ob.lst (ps.map aG)]) e;have ej:getL (H++[Ob.lst (ps.map aG)]) H.length=some (ps.map aG):=by simp[getL]
 have f0:Fr [] H (H++[Ob.lst (ps.map aG)]):=Fr.app;generalize H++[Ob.lst (ps.map aG)]=H0 at w0 ei ej f0;obtain⟨y3,y4,w1⟩:=z1x (x0:=x0) (x3:=x3) (x4:=x4) (i:=i) (j:=H.length) (by omega) hl ei ej;have ei1:getL (H0.set H.length (.lst ((ps++ps.flatMap (eK ps)).map aG))) i=some (ps.map aG):=by rw[tR (by omega)];exact ei
 have ej1:getL (H0.set H.length (.lst ((ps++ps.flatMap (eK ps)).map aG))) H.length=some ((ps++ps.flatMap (eK ps)).map aG):=lB ej;have f1':Fr [] H (H0.set H.length (.lst ((ps++ps.flatMap (eK ps)).map aG))):=f0.trans (T:=[H.length]) Fr.set (by simp);generalize H0.set H.length (.lst ((ps++ps.flatMap (eK ps)).map aG))=H1 at w1 ei1 ej1 f1';have w2:aM (aF (f1 lG) (aA (aB 2) aC)) (aE 2) [x0,some (.ref i),some (.ref H.length),y3,y4] H1=.nx [x0,some (.ref i),some (.ref H1.length),y3,y4] (H1++[.lst ((dX ps).map aG)]):=by have hq:=NX (N0 ej1) hs;simp[aM,aF,f1,aA,aB,aC,hq,aE,dX]
 have ei2:=iR (l:=[Ob.lst ((dX ps).map aG)]) ei1;have ej2:getL (H1++[Ob.lst ((dX ps).map aG)]) H1.length=some ((dX ps).map aG):=by simp[getL]
 have f2:Fr [] H (H1++[Ob.lst ((dX ps).map aG)]):=f1'.trans (T:=[]) Fr.app (by simp);generalize hH2:H1++[Ob.lst ((dX ps).map aG)]=H2 at w2 ei2 ej2 f2;have t:mB (m2 bW (aB 2) (aB 1)) [x0,some (.ref i),some (.ref H1.length),y3,y4] H2=.ok (decide (dX ps=ps)) H2:=by simp[mB,m2,aB,z1u ej2 ei2,eS]
 refine⟨H2,f2,ei2, ?_⟩
 by_cases c:dX ps=ps
 ·rw[if_pos c];unfold rE;rw[bI w0,bI w1,bI w2];unfold aJ;rw[BP (t.trans (by rw[decide_eq_true c]))];rfl
 ·rw[if_neg c];refine⟨H1.length,some (.ref H1.length),y3,y4, ?_,ej2⟩;unfold rE;rw[bI w0,bI w1,bI w2,bI (ρ1:=[x0,some (.ref i),some (.ref H1.length),y3,y4]) (h1:=H2) (by rw[oZ (t.trans (by rw[decide_eq_false c]))];rfl)];rfl
theorem N1 {n:Nat}(hn:n<=6) {cs:List (Int×Int)}:∀(f:Nat) (ps:List (Int×Int)) (H:Hs) (i:Nat) (x0 x2 x3 x4:Option Dv),eV cE ps->mT n ps->uI f ps=some cs->getL H i=some (ps.map aG)->
  ∃(j:Nat) (H':Hs),iI (bD (mC (.bl true))) rE f [x0,some (.ref i),x2,x3,x4] H=.rt (.ref j) H'/\getL H' j=some (cs.map aG)/\Fr [] H H'
 |0,ps,H,i,x0,x2,x3,x4,hr,hi,h,e=>by cases h
 |f+1,ps,H,i,x0,x2,x3,x4,hr,hi,h,e=>by
  have sq:n*n<=6*6:=kz hn hn;have l1:=uH hr hi;have l2:=uH (uJ ps) (EE hi);obtain⟨H1,f1,e1,c1⟩:=EF (x0:=x0) (x2:=x2) (x3:=x3) (x4:=x4) (by omega) (by omega) e;have tt:bD (mC (.bl true)) [x0,some (.ref i),x2,x3,x4] H=.ok true H:=rfl;unfold uI at h
  split at h
  ·rename_i c;cases h;rw[if_pos c]at c1;exact⟨i,H1,z17 tt c1,e1,f1⟩
  ·rename_i c;rw[if_neg c]at c1;obtain⟨j,y2,y3,y4,c2,ej⟩:=c1;obtain⟨k,H2,w,ek,f2⟩:=N1 hn f (dX ps) H1 j x0 y2 y3 y4 (uJ ps) (EE hi) h ej;exact⟨k,H2,by rw[NP tt c2];exact w,ek,f1.trans f2 (by simp)⟩
def N2 (n:Nat) (ps cs:List (Int×Int)):Prop:=eV cE cs/\mT n cs/\Tr cs/\(∀p∈ps,p∈cs)/\∀R:Int->Int->Prop,(∀a b c,R a b->R b c->R a c)->(∀p∈ps,R p.1 p.2)->∀p∈cs,R p.1 p.2
theorem z1y {n:Nat}{d:Dv}(hn:n<=6) (hi:mT n ps) (h:pE d H=some (ps.map gA)):∃(cs:List (Int×Int)) (j:Nat) (H':Hs),N2 n ps cs/\F_qf [d] H=.ok (.ref j) H'/\getL H' j=some (cs.map aG)/\Fr [] H H':=by
 have hs:mT n (dW cE ps):=λp hp=>hi p ((mO stoP p ps).mp hp);have hr:=tU stoP ps;have sq:n*n<=6*6:=kz hn hn;have l1:=uH hr hs;obtain⟨cs,c1,c2,c3,c4,c5,c6⟩:=NV hn 40 _ hr hs (by omega);have w0:aM (aF (f1 lG) (aA (aB 0) aC)) (aE 1) [some d,none,none,none,none] H=.nx [some d,some (.ref H.length),none,none,none] (H++[.lst ((dW cE ps).map aG)]):=by have hq:=NX h (by omega);simp[aM,aF,f1,aA,aB,aC,hq,aE]
 obtain⟨j,H',w1,ej,f1'⟩:=N1 hn 40 (dW cE ps) (H++[.lst ((dW cE ps).map aG)]) H.length (some d) none none none hr hs c1 (by simp[getL]);refine⟨cs,j,H',⟨c2,c3,c4,λp hp=>c5 p ((mO stoP p ps).mpr hp),λR ht hR=>c6 R ht λp hp=>hR p ((mO stoP p ps).mp hp)⟩, ?_,ej,(Fr.app (S:=[]) (l:=[.lst ((dW cE ps).map aG)])).trans f1' (by simp)⟩;show bK (iS [some d,none,none,none,none] H)=_;rw[z1v,bI w0,w1];rfl
end
theorem pK {H:Hs}{i k:Nat}{xs:List Int}(e:getL H i=some (xs.map Dv.int)) (hk:k<xs.length):aT (.ref i) (.int (k:Int)) H=.ok (.int xs[k]) H:=by
 have h1:fO (xs.map Dv.int).length (k:Int)=some k:=by unfold fO;rw[bh,if_pos (by omega),if_pos (by omega)];simp
 have h2:gQ (xs.map Dv.int) (k:Int)=some (.int xs[k]):=by unfold gQ;rw[h1];simp[hk]
 simp only[aT,fV,gG,e,kD,h2,if_true]
theorem zD (x y:Int) (H:Hs):bW (.int x) (.int y) H=.ok (.bl (x==y)) H:=by simp[bW,bY,bM,bJ]
theorem EG:∀{ys:List Int},ys.Nodup->∀i (h:i<ys.length),tQ ys[i] ys=some i
 | [],_,i,h=>by simp at h
 |y::ys,nd,0,h=>by simp[tQ]
 |y::ys,nd,i+1,h=>by
  have h1:=jo.mp nd;have hi:i<ys.length:=by simpa using h
  have ne:y≠ys[i]:=λz=>h1.1 (by rw[z];exact fz hi);simp[tQ,ne,EG h1.2 i hi]
def zE (n:Nat) (ps:List (Int×Int)):Prop:=mT n ps/\∃f:Int->Int,∀p∈ps,f p.1<f p.2
theorem z1z {n:Nat}{ps cs:List (Int×Int)}(n1:1<=n) (n6:n<=6) (g:zE n ps) (c:N2 n ps cs):OrdP n cs:=by obtain⟨h1,h2,h3,h4,h5⟩:=c;obtain⟨_,f,hf⟩:=g;refine⟨n1,n6,h2,h1,λp hp e=>?_,h3⟩;have:=h5 (λa b=>f a<f b) (λa b c x y=>by omega) hf p hp;rw[e]at this;omega
section
variable{st ir ip im n:Nat}{ys ms:List Int}{w:Int}{d1:Dv}
def EH:MS:=aM (aU (aA (m2 bW (aF F_qs (aA (aB 0) (aA (mC (.int 6)) aC))) (mC (.int 0))) (aA (m2 bW (aF F_qs (aA (aB 0) (aA (mC (.int 2)) aC))) (mC (.int 0))) (aA (m2 xB (aF F_qs (aA (aB 0) (aA (mC (.int 4)) aC))) (mC (.int 0))) aC)))) (aE 9)
def EI:MS:=aM (m2 bX (aB 9) (aU (aA (m2 gM (m2 aT (aB 6) (aB 7)) (m2 aT (aB 6) (aB 8))) (aA (m2 bW (m2 aT (aB 6) (aB 7)) (m2 aT (aB 6) (aB 8))) aC)))) (aE 9)
def oB:MS:=aJ EH (aJ EI (bE (bD (m2 aT (aB 9) (aB 4))) (bG (cO (aB 5) (aL (aA (m2 aT (aB 3) (aB 7)) (aA (m2 aT (aB 3) (aB 8)) aC))))) bQ))
structure Std (st ir im:Nat) (ys ms:List Int) (H:Hs):Prop where
 s:St st H
 r:getL H ir=some (ys.map Dv.int)
 m:getL H im=some (ms.map Dv.int)
theorem Std.fr {H H':Hs}{S:List Nat}(h:Std st ir im ys ms H) (f:Fr S H H') (s':St st H') (h1:ir∉S) (h2:im∉S):Std st ir im ys ms H':=⟨s',f.getL h.r h1,f.getL h.m h2⟩
theorem lL {H:Hs}{x9:Option Dv}{ps:List (Int×Int)}{i j:Nat}(D:Std st ir im ys ms H) (ep:getL H ip=some (ps.map aG)) (hw:0<=w/\w<5) (hi:i<n) (hj:j<n) (hy:ys.length=n) (hm:ms.length=n) (hl:ps.length<=1000)
  (h1:ir≠st) (h2:im≠st) (h3:ip≠st) (h4:ir≠ip) (h5:im≠ip):
  ∃(x9':Option Dv) (H':Hs) (ps':List (Int×Int)),oB [some (.ref st),some d1,some (.int n),some (.ref ir),some (.int w),some (.ref ip),some (.ref im),some (.int i),some (.int j),x9] H=.nx [some (.ref st),some d1,some (.int n),some (.ref ir),some (.int w),some (.ref ip),some (.ref im),some (.int i),some (.int j),x9'] H'/\getL H' ip=some (ps'.map aG)/\(ps'=ps∨ps'=ps++[(ys.getD i 0,ys.getD j 0)])/\Std st ir im ys ms H'/\Fr [st,ip] H H':=by
 obtain⟨r0,H0,_,_,t0,f0,s0⟩:=mS 6 D.s;obtain⟨r1,H1,_,_,t1,f1,s1⟩:=mS 2 s0;obtain⟨r2,H2,_,_,t2,f2,s2⟩:=mS 4 s1;have f02:Fr [st] H H2:=(f0.trans f1 (by simp)).trans f2 (by simp);have D2:=D.fr f02 s2 (by simpa using h1) (by simpa using h2);have ep2:=f02.getL ep (by simpa using h3);have w1:EH [some (.ref st),some d1,some (.int n),some (.ref ir),some (.int w),some (.ref ip),some (.ref im),some (.int i),some (.int j),x9] H=.nx [some (.ref st),some d1,some (.int n),some (.ref ir),some (.int w),some (.ref ip),some (.ref im),some (.int i),some (.int j),some (.ref H2.length)] (H2++[.lst [.bl (r0==0),.bl (r1==0),.bl (decide (r2>0))]]):=by simp[EH,aM,aU,aA,m2,aF,aB,mC,aC,t0,t1,t2,zD,xB,iZ,lim,aE]
 have fA:Fr [] H2 (H2++[.lst [.bl (r0==0),.bl (r1==0),.bl (decide (r2>0))]]):=Fr.app;have eA:getL (H2++[.lst [.bl (r0==0),.bl (r1==0),.bl (decide (r2>0))]]) H2.length=some [.bl (r0==0),.bl (r1==0),.bl (decide (r2>0))]:=by simp[getL]
 have DA:=D2.fr fA (s2.fr fA (by simp)) (by simp) (by simp);have epA:=fA.getL ep2 (by simp);have fHA:Fr [st] H (H2++[.lst [.bl (r0==0),.bl (r1==0),.bl (decide (r2>0))]]):=f02.trans fA (by simp);generalize H2++[Ob.lst [.bl (r0==0),.bl (r1==0),.bl (decide (r2>0))]]=HA at w1 fA eA DA epA fHA;have hmi:=pK DA.m (k:=i) (by omega);have hmj:=pK DA.m (k:=j) (by omega);have eA':=iR (l:=[Ob.lst [.bl (decide (ms[i]<ms[j])),.bl (ms[i]==ms[j])]]) eA;have eB:getL (HA++[Ob.lst [.bl (decide (ms[i]<ms[j])),.bl (ms[i]==ms[j])]]) HA.length=some [.bl (decide (ms[i]<ms[j])),.bl (ms[i]==ms[j])]:=by simp[getL]
 have w2:EI [some (.ref st),some d1,some (.int n),some (.ref ir),some (.int w),some (.ref ip),some (.ref im),some (.int i),some (.int j),some (.ref H2.length)] HA=.nx [some (.ref st),some d1,some (.int n),some (.ref ir),some (.int w),some (.ref ip),some (.ref im),some (.int i),some (.int j),some (.ref (HA.length+1))] (HA++[.lst [.bl (decide (ms[i]<ms[j])),.bl (ms[i]==ms[j])]]++[.lst [.bl (r0==0),.bl (r1==0),.bl (decide (r2>0)),.bl (decide (ms[i]<ms[j])),.bl (ms[i]==ms[j])]]):=by simp[EI,aM,m2,aU,aA,aB,hmi,hmj,gM,zD,aC,lim,bX,mD,eA',eB,aE]
 have fB:Fr [] HA (HA++[.lst [.bl (decide (ms[i]<ms[j])),.bl (ms[i]==ms[j])]]++[.lst [.bl (r0==0),.bl (r1==0),.bl (decide (r2>0)),.bl (decide (ms[i]<ms[j])),.bl (ms[i]==ms[j])]]):=Fr.trans (T:=[]) Fr.app Fr.app (by simp);have eN:getL (HA++[.lst [.bl (decide (ms[i]<ms[j])),.bl (ms[i]==ms[j])]]++[.lst [.bl (r0==0),.bl (r1==0),.bl (decide (r2>0)),.bl (decide (ms[i]<ms[j])),.bl (ms[i]==ms[j])]]) (HA.length+1)=some [.bl (r0==0),.bl (r1==0),.bl (decide (r2>0)),.bl (decide (ms[i]<ms[j])),.bl (ms[i]==ms[j])]:=by simp[getL]
 have DB:=DA.fr fB (DA.s.fr fB (by simp)) (by simp) (by simp);have epB:=fB.getL epA (by simp);have fHB:=fHA.trans fB (by simp);generalize HA++[Ob.lst [.bl (decide (ms[i]<ms[j])),.bl (ms[i]==ms[j])]]++[Ob.lst [.bl (r0==0),.bl (r1==0),.bl (decide (r2>0)),.bl (decide (ms[i]<ms[j])),.bl (ms[i]==ms[j])]]=HB at w2 fB eN DB epB fHB;have near:∃b,aT (.ref (HA.length+1)) (.int w) HB=.ok (.bl b) HB:=by
  have hw':w=0∨w=1∨w=2∨w=3∨w=4:=by omega
  rcases hw' with rfl|rfl|rfl|rfl|rfl
  ·exact⟨_,by simp only[aT,fV,gG,eN];rfl⟩
  ·exact⟨_,by simp only[aT,fV,gG,eN];rfl⟩
  ·exact⟨_,by simp only[aT,fV,gG,eN];rfl⟩
  ·exact⟨_,by simp only[aT,fV,gG,eN];rfl⟩
  ·exact⟨_,by simp only[aT,fV,gG,eN];rfl⟩
 obtain⟨b,hb⟩:=near;have t:bD (m2 aT (aB 9) (aB 4)) [some (.ref st),some d1,some (.int n),some (.ref ir),some (.int w),some (.ref ip),some (.ref im),some (.int i),some (.int j),some (.ref (HA.length+1))] HB=.ok b HB:=by simp[bD,m2,aB,hb,dZ]
 cases b with
 |false=>refine⟨some (.ref (HA.length+1)),HB,ps, ?_,epB,.inl rfl,DB,fHB.mono (by simp)⟩;unfold oB;rw[bI w1,bI w2,oZ t];rfl
 |true=>
  have hyi:=pK DB.r (k:=i) (by omega);have hyj:=pK DB.r (k:=j) (by omega);have gi:ys[i]=ys.getD i 0:=by simp[show i<ys.length by omega]
  have gj:ys[j]=ys.getD j 0:=by simp[show j<ys.length by omega]
  rw[gi]at hyi;rw[gj]at hyj;generalize ys.getD i 0=va at hyi ⊢;generalize ys.getD j 0=vb at hyj ⊢;have hz:(ps.map aG).length<1000000:=by rw[bh];omega
  have fC:Fr [ip] HB (HB.set ip (.lst ((ps++[(va,vb)]).map aG))):=Fr.set;refine⟨some (.ref (HA.length+1)),HB.set ip (.lst ((ps++[(va,vb)]).map aG)),ps++[(va,vb)], ?_,lB epB,.inr rfl,DB.fr fC (DB.s.fr fC (by simpa using cw h3)) (by simpa using h4) (by simpa using h5),(fHB.mono (T:=[st,ip]) (by simp)).trans fC (by simp)⟩;unfold oB;rw[bI w1,bI w2,BP t];have isP':gS (.ref ip) HB=true:=by simp[gS,epB]
  have happ:jQ (.ref ip) (.tup [.int (va),.int (vb)]) HB=.ok .non (HB.set ip (.lst ((ps++[(va,vb)]).map aG))):=by simp only[jQ,epB,hz,if_true,gr];rfl
  simp[bG,cO,aB,isP',aL,aA,m2,hyi,hyj,aC,lim,happ]
end
theorem EJ {m:Int}(h0:0<=m) (h:m<=100):iF m=true:=by
 have h1:(-4611686018427387904:Int)<=m:=by omega
 have h2:m<4611686018427387904:=by omega
 unfold iF;rw[decide_eq_true h1,decide_eq_true h2];rfl
theorem zF {H:Hs}{j:Int}(h0:0<=j) (h1:j<=100):cN [.int j] H=.ok (cA 0 j) H:=by simp only[cN,EJ h0 h1,if_true]
theorem N3 {H:Hs}{i j:Int}(h0:0<=i) (h1:i<=100) (h2:0<=j) (h3:j<=100):gR [.int i,.int j] H=.ok (cA i j) H:=by simp only[gR,EJ h0 h1,EJ h2 h3,and_self,if_true]
def rG (ys:List Int) (n:Nat) (ps:List (Int×Int)):Prop:=∀p∈ps,∃i j,i<j/\j<n/\p=(ys.getD i 0,ys.getD j 0)
section
variable{st ir ip im n:Nat}{ys ms:List Int}{w:Int}{d1:Dv}
abbrev bZ (st ir ip im n:Nat) (w:Int) (d1:Dv) (x7 x8 x9:Option Dv):Ev:=[some (.ref st),some d1,some (.int n),some (.ref ir),some (.int w),some (.ref ip),some (.ref im),x7,x8,x9]
def jG:MS:=dN (aS gR (aA (m2 bX (aB 7) (mC (.int 1))) (aA (aB 2) aC))) (aE 8) oB
theorem lM {H:Hs}{x8 x9:Option Dv}{ps:List (Int×Int)}{i:Nat}(D:Std st ir im ys ms H) (ep:getL H ip=some (ps.map aG)) (hw:0<=w/\w<5) (hi:i<n) (hn:n<=6) (hy:ys.length=n) (hm:ms.length=n) (hl:ps.length<=500) (hb:rG ys n ps)
  (h1:ir≠st) (h2:im≠st) (h3:ip≠st) (h4:ir≠ip) (h5:im≠ip):
  ∃(x8' x9':Option Dv) (H':Hs) (ps':List (Int×Int)),jG (bZ st ir ip im n w d1 (some (.int i)) x8 x9) H=.nx (bZ st ir ip im n w d1 (some (.int i)) x8' x9') H'/\getL H' ip=some (ps'.map aG)/\rG ys n ps'/\ps'.length<=ps.length+6/\Std st ir im ys ms H'/\Fr [st,ip] H H':=by
 have hi0:aS gR (aA (m2 bX (aB 7) (mC (.int 1))) (aA (aB 2) aC)) (bZ st ir ip im n w d1 (some (.int i)) x8 x9) H=.ok (cA ((i:Int)+1) n) H:=by have q:aA (m2 bX (aB 7) (mC (.int 1))) (aA (aB 2) aC) (bZ st ir ip im n w d1 (some (.int i)) x8 x9) H=.ok [.int ((i:Int)+1),.int n] H:=rfl;unfold aS;rw[q,Rs.bind_ok];exact N3 (by omega) (by omega) (by omega) (by omega)
 have hN:(cA ((i:Int)+1) (n:Int)).n=n - (i+1):=by show((n:Int) - ((i:Int)+1)).toNat=_;omega
 obtain⟨ρ',H',r1,x8',x9',ps',e1,e2,e3,e4,e5,e6⟩:=qL (b:=oB) (sg:=aE 8) hi0 (λk ρ H'=>∃(x8' x9':Option Dv) (ps':List (Int×Int)),ρ=bZ st ir ip im n w d1 (some (.int i)) x8' x9'/\getL H' ip=some (ps'.map aG)/\rG ys n ps'/\ps'.length<=ps.length+k/\Std st ir im ys ms H'/\Fr [st,ip] H H')
  (λk ρ H' hk ⟨x8',x9',ps',e1,e2,e3,e4,e5,e6⟩=>by
   subst e1;rw[hN]at hk;have hj:i+1+k<n:=by omega
   obtain⟨x9n,H2,ps2,b1,b2,b3,b4,b5⟩:=lL (x9:=x9') (w:=w) (d1:=d1) (ip:=ip) (n:=n) (i:=i) (j:=i+1+k) e5 e2 hw hi hj hy hm (by omega) h1 h2 h3 h4 h5;have ej:(((i+1+k:Nat)):Int)=(i:Int)+1+(k:Int):=by omega
   rw[ej]at b1;refine⟨.int ((i:Int)+1+(k:Int)),bZ st ir ip im n w d1 (some (.int i)) (some (.int ((i:Int)+1+(k:Int)))) x9',_,H2,rfl,rfl,b1,_,_,ps2,rfl,b2, ?_, ?_,b4,e6.trans b5 λj hj=>.inl hj⟩
   ·rcases b3 with rfl|rfl
    ·exact e3
    ·intro p hp
     rcases dy.mp hp with hp|hp
     ·exact e3 p hp
     ·rw[dh.mp hp];exact⟨i,i+1+k,by omega,hj,rfl⟩
   ·rcases b3 with rfl|rfl
    ·omega
    ·rw[bx];simp;omega) (λ_ _ _=>rfl) ⟨x8,x9,ps,rfl,ep,hb,by omega,D,Fr.refl⟩
 rw[hN]at e4;exact⟨x8',x9',H',ps',by unfold jG;rw[r1,e1],e2,e3,by omega,e5,e6⟩
def jW:MS:=dN (aS cN (aA (aB 2) aC)) (aE 7) jG
theorem lN {H:Hs}{x7 x8 x9:Option Dv}(D:Std st ir im ys ms H) (ep:getL H ip=some (([]:List (Int×Int)).map aG)) (hw:0<=w/\w<5) (hn:n<=6) (hy:ys.length=n) (hm:ms.length=n)
  (h1:ir≠st) (h2:im≠st) (h3:ip≠st) (h4:ir≠ip) (h5:im≠ip):
  ∃(x7' x8' x9':Option Dv) (H':Hs) (ps':List (Int×Int)),jW (bZ st ir ip im n w d1 x7 x8 x9) H=.nx (bZ st ir ip im n w d1 x7' x8' x9') H'/\getL H' ip=some (ps'.map aG)/\rG ys n ps'/\Std st ir im ys ms H'/\Fr [st,ip] H H':=by
 have hi0:aS cN (aA (aB 2) aC) (bZ st ir ip im n w d1 x7 x8 x9) H=.ok (cA 0 n) H:=by have q:aA (aB 2) aC (bZ st ir ip im n w d1 x7 x8 x9) H=.ok [.int n] H:=rfl;unfold aS;rw[q,Rs.bind_ok];exact zF (by omega) (by omega)
 have hN:(cA 0 (n:Int)).n=n:=by simp[cA]
 obtain⟨ρ',H',r1,x7',x8',x9',ps',e1,e2,e3,e4,e5,e6⟩:=qL (b:=jG) (sg:=aE 7) hi0 (λk ρ H'=>∃(x7' x8' x9':Option Dv) (ps':List (Int×Int)),ρ=bZ st ir ip im n w d1 x7' x8' x9'/\getL H' ip=some (ps'.map aG)/\rG ys n ps'/\ps'.length<=6*k/\Std st ir im ys ms H'/\Fr [st,ip] H H')
  (λk ρ H' hk ⟨x7',x8',x9',ps',e1,e2,e3,e4,e5,e6⟩=>by
   subst e1;rw[hN]at hk;obtain⟨x8n,x9n,H2,ps2,b1,b2,b3,b4,b5,b6⟩:=lM (x8:=x8') (x9:=x9') (w:=w) (d1:=d1) (ip:=ip) (n:=n) (i:=k) e5 e2 hw hk hn hy hm (by omega) e3 h1 h2 h3 h4 h5;have ek:(0:Int)+(k:Int)=(k:Int):=by omega
   refine⟨.int (0+(k:Int)),bZ st ir ip im n w d1 (some (.int k)) x8' x9',_,H2,rfl,by rw[ek];rfl,b1,_,_,_,ps2,rfl,b2,b3,by omega,b5,e6.trans b6 λj hj=>.inl hj⟩) (λ_ _ _=>rfl) ⟨x7,x8,x9,[],rfl,ep,λp hp=>by simp at hp,by simp,D,Fr.refl⟩
 exact⟨x7',x8',x9',H',ps',by unfold jW;rw[r1,e1],e2,e3,e5,e6⟩
theorem z20 (pm:ys.Perm (iK n)) {ps:List (Int×Int)}(h:rG ys n ps):zE n ps:=by
 have hl:ys.length=n:=by rw[pm.length_eq];simp[iK]
 have nd:ys.Nodup:=by refine pm.nodup_iff.mpr ?_;unfold iK;simp only[fe];refine List.Pairwise.map _ ?_ (rh (n:=n));intro a b h e;exact h (by omega)
 have mem:∀i,i<n->0<=ys.getD i 0/\ys.getD i 0<n:=λi hi=>by have hm:ys.getD i 0∈iK n:=pm.mem_iff.mp (by simp[show i<ys.length by omega]);simp only[iK,cp,bw,fe]at hm;obtain⟨k,hk,e⟩:=hm;omega
 refine⟨λp hp=>?_,λa=>((tQ a ys).getD 0:Nat),λp hp=>?_⟩
 ·obtain⟨i,j,hij,hj,rfl⟩:=h p hp;exact⟨(mem i (by omega)).1,(mem i (by omega)).2,(mem j hj).1,(mem j hj).2⟩
 ·obtain⟨i,j,hij,hj,rfl⟩:=h p hp;have hi':i<ys.length:=by omega
  have hj':j<ys.length:=by omega
  have e1:ys.getD i 0=ys[i]:=by simp[hi']
  have e2:ys.getD j 0=ys[j]:=by simp[hj']
  simp only[e1,e2,EG nd i hi',EG nd j hj',Option.getD_some];omega
def EK (ms:List Int) (n:Nat) (ps:List (Int×Int)):Prop:=∀p∈ps,∃i j:Nat,i<n/\j<n/\ms.getD i 0<ms.getD j 0/\p=((i:Int),(j:Int))
theorem z21 {ps:List (Int×Int)}(h:EK ms n ps):zE n ps:=by
 refine⟨λp hp=>?_,λa=>ms.getD a.toNat 0,λp hp=>?_⟩
 ·obtain⟨i,j,hi,hj,_,rfl⟩:=h p hp;exact⟨by simp,by simpa using hi,by simp,by simpa using hj⟩
 ·obtain⟨i,j,hi,hj,hlt,rfl⟩:=h p hp;simpa using hlt
def zG:M (List Dv):=bL (aS cN (aA (aB 2) aC)) [none,some 7,some 6] (aE 0) (mB (m2 gM (m2 aT (aB 2) (aB 1)) (m2 aT (aB 2) (aB 0)))) (bB (aL (aA (aB 1) (aA (aB 0) aC))))
def uM:MS:=aM (m2 bX (aB 5) (bR zG)) (aE 5)
def gN (ms:List Int) (n i:Nat):List (Int×Int):=(ba n).filterMap λj=>if ms.getD i 0<ms.getD j 0 then some ((i:Int),(j:Int))else none
theorem z22 {H:Hs}{x8 x9:Option Dv}{i:Nat}(em:getL H im=some (ms.map Dv.int)) (hi:i<n) (hn:n<=6) (hm:ms.length=n):
  zG (bZ st ir ip im n w d1 (some (.int i)) x8 x9) H=.ok ((gN ms n i).map aG) H:=by
 have hi0:aS cN (aA (aB 2) aC) (bZ st ir ip im n w d1 (some (.int i)) x8 x9) H=.ok (cA 0 n) H:=by have q:aA (aB 2) aC (bZ st ir ip im n w d1 (some (.int i)) x8 x9) H=.ok [.int n] H:=rfl;unfold aS;rw[q,Rs.bind_ok];exact zF (by omega) (by omega)
 have h:zG (bZ st ir ip im n w d1 (some (.int i)) x8 x9) H=.ok ((ba n).filterMap λj=>if ms.getD i 0<ms.getD j 0 then some (aG ((i:Int),(j:Int)))else none) H:=
  hW (ba n) (λj=>if ms.getD i 0<ms.getD j 0 then some (aG ((i:Int),(j:Int)))else none) (λρ=>∃a,ρ=[a,some (.int i),some (.ref im)]) hi0 (by simp[cA]) ⟨_,rfl⟩ rfl (λk hk ρ ⟨a,er⟩=>by
   subst er;have hk':k<n:=by simpa using hk
   have gk:(ba n)[k]=k:=by simp
   rw[gk];have ek:(0:Int)+(k:Int)=(k:Int):=by omega
   refine⟨.int (0+(k:Int)),[some (.int k),some (.int i),some (.ref im)],rfl,by rw[ek];rfl,⟨_,rfl⟩, ?_⟩;have x1:=pK em (k:=i) (by omega);have x2:=pK em (k:=k) (by omega);have g1:ms[i]=ms.getD i 0:=by simp[show i<ms.length by omega]
   have g2:ms[k]=ms.getD k 0:=by simp[show k<ms.length by omega]
   rw[g1]at x1;rw[g2]at x2;generalize ms.getD i 0=va at x1 ⊢;generalize ms.getD k 0=vb at x2 ⊢;have te:mB (m2 gM (m2 aT (aB 2) (aB 1)) (m2 aT (aB 2) (aB 0))) [some (.int k),some (.int i),some (.ref im)] H=.ok (decide (va<vb)) H:=by simp[mB,m2,aB,x1,x2,gM,eS]
   by_cases c:va<vb
   ·rw[if_pos c];rw[decide_eq_true c]at te;exact⟨te,rfl⟩
   ·rw[if_neg c];rw[decide_eq_false c]at te;exact te) (by simp;omega)
 have e:((ba n).filterMap λj=>if ms.getD i 0<ms.getD j 0 then some (aG ((i:Int),(j:Int)))else none)=(gN ms n i).map aG:=by
  unfold gN;rw[uy];refine MH _ λj _=>?_
  split <;> rfl
 rw[h,e]
theorem z23 {H:Hs}{ip0:Nat}{x7 x8 x9:Option Dv}(D:Std st ir im ys ms H) (ep:getL H ip0=some (([]:List (Int×Int)).map aG)) (hn:n<=6) (hm:ms.length=n):
  ∃(ip':Nat) (x7':Option Dv) (H':Hs) (ps':List (Int×Int)),dN (aS cN (aA (aB 2) aC)) (aE 7) uM (bZ st ir ip0 im n w d1 x7 x8 x9) H=.nx (bZ st ir ip' im n w d1 x7' x8 x9) H'/\getL H' ip'=some (ps'.map aG)/\EK ms n ps'/\Fr [] H H':=by
 have hi0:aS cN (aA (aB 2) aC) (bZ st ir ip0 im n w d1 x7 x8 x9) H=.ok (cA 0 n) H:=by have q:aA (aB 2) aC (bZ st ir ip0 im n w d1 x7 x8 x9) H=.ok [.int n] H:=rfl;unfold aS;rw[q,Rs.bind_ok];exact zF (by omega) (by omega)
 have hN:(cA 0 (n:Int)).n=n:=by simp[cA]
 obtain⟨ρ',H',r1,ip',x7',ps',e1,e2,e3,e4,e5⟩:=qL (b:=uM) (sg:=aE 7) hi0 (λk ρ H'=>∃(ip':Nat) (x7':Option Dv) (ps':List (Int×Int)),ρ=bZ st ir ip' im n w d1 x7' x8 x9/\getL H' ip'=some (ps'.map aG)/\EK ms n ps'/\ps'.length<=6*k/\Fr [] H H')
  (λk ρ H' hk ⟨ip',x7',ps',e1,e2,e3,e4,e5⟩=>by
   subst e1;rw[hN]at hk;have em:=e5.getL D.m (by simp);have hc:=z22 (st:=st) (ir:=ir) (ip:=ip') (w:=w) (d1:=d1) (x8:=x8) (x9:=x9) em hk hn hm;have hrl:(gN ms n k).length<=6:=by have:=mf (λj=>if ms.getD k 0<ms.getD j 0 then some ((k:Int),(j:Int))else none) (ba n);unfold gN;rw[km]at this;omega
   have ek:(0:Int)+(k:Int)=(k:Int):=by omega
   have ep1:=iR (l:=[Ob.lst ((gN ms n k).map aG)]) e2;have eq1:getL (H'++[Ob.lst ((gN ms n k).map aG)]) H'.length=some ((gN ms n k).map aG):=by simp[getL]
   have hz:(ps'.map aG).length+((gN ms n k).map aG).length<=1000000:=by rw[bh,bh];omega
   have hb:uM (bZ st ir ip' im n w d1 (some (.int k)) x8 x9) H'=.nx (bZ st ir (H'.length+1) im n w d1 (some (.int k)) x8 x9) (H'++[Ob.lst ((gN ms n k).map aG)]++[Ob.lst ((ps'++gN ms n k).map aG)]):=by
    have ha:bX (.ref ip') (.ref H'.length) (H'++[Ob.lst ((gN ms n k).map aG)])=.ok (.ref (H'.length+1)) (H'++[Ob.lst ((gN ms n k).map aG)]++[Ob.lst ((ps'++gN ms n k).map aG)]):=by show mD (.ref ip') (.ref H'.length) (H'++[Ob.lst ((gN ms n k).map aG)])=_;simp only[mD,ep1,eq1,lim,hz,if_true];simp
    have hal:bR zG (bZ st ir ip' im n w d1 (some (.int k)) x8 x9) H'=.ok (.ref H'.length) (H'++[Ob.lst ((gN ms n k).map aG)]):=by unfold bR;rw[hc];rfl
    unfold uM aM m2;show((Rs.ok (Dv.ref ip') H').bind _).thenS _=_;rw[Rs.bind_ok,hal,Rs.bind_ok,ha];rfl
   refine⟨.int (0+(k:Int)),bZ st ir ip' im n w d1 (some (.int k)) x8 x9,_,_,rfl,by rw[ek];rfl,hb,H'.length+1,_,ps'++gN ms n k,rfl,by simp[getL], ?_,by rw[bx];omega,e5.trans (Fr.trans (T:=[]) (Fr.app (S:=[])) Fr.app (by simp)) (by simp)⟩;intro p hp
   rcases dy.mp hp with hp|hp
   ·exact e3 p hp
   ·unfold gN at hp;obtain⟨j,hj,e⟩:=gq.mp hp
    split at e
    ·rename_i c;cases e;exact⟨k,j,hk,bw.mp hj,c,rfl⟩
    ·cases e) (λ_ _ _=>rfl) ⟨ip0,x7,[],rfl,ep,λp hp=>by simp at hp,by simp,Fr.refl⟩
 exact⟨ip',x7',H',ps',by rw[r1,e1],e2,e3,e5⟩
end
def o1:MS:=aM (m2 mI (aB 1) (m2 aT (aU (aA (mC (.int 0)) (aA (mC (.int 0)) (aA (mC (.int 1)) (aA (mC (.int 2)) (aA (mC (.int 0)) (aA (mC (.int 3)) (aA (mC (.int 1)) (aA (mC (.int 4)) aC))))))))) (aF F_qs (aA (aB 0) (aA (mC (.int 8)) aC))))) (aE 2)
def o2:MS:=aM (aF mE (aA (mC (.int 1)) (aA (aB 2) aC))) (aE 2)
def o3:MS:=aM (aF F_qc (aA (aB 0) (aA (aF (f1 qR) (aA (aB 2) aC)) aC))) (aE 3)
def o4:MS:=aM (aF F_qs (aA (aB 0) (aA (mC (.int 5)) aC))) (aE 4)
def o5:MS:=aM (aU aC) (aE 5)
def jX:M (List Dv):=bL (bO dD (aB 3)) [none,some 0] (aE 0) cU (bB (aF F_qs (aA (aB 1) (aA (mC (.int 3)) aC))))
def o6:MS:=aM (bR jX) (aE 6)
def o8:MS:=bE (mB (m2 bW (aB 4) (mC (.int 3)))) (aJ (aM (aU aC) (aE 5)) (dN (aS cN (aA (aB 2) aC)) (aE 7) uM)) bQ
def o9:MS:=aR (aL (aA (aB 2) (aA (aF (f1 hJ) (aA (aF F_qf (aA (aB 5) aC)) aC)) aC)))
theorem lO:iT=aJ o1 (aJ o2 (aJ o3 (aJ o4 (aJ o5 (aJ o6 (aJ jW (aJ o8 o9))))))):=rfl
section
variable{st:Nat}
theorem lQ {H:Hs}{m:Int}{x2 x3 x4 x5 x6 x7 x8 x9:Option Dv}(s:St st H):∃(v:Int) (H':Hs),0<=v/\v<=4/\o1 [some (.ref st),some (.int m),x2,x3,x4,x5,x6,x7,x8,x9] H=.nx [some (.ref st),some (.int m),some (.int (m - v)),x3,x4,x5,x6,x7,x8,x9] H'/\St st H'/\Fr [st] H H':=by
 have fA:Fr [] H (H++[Ob.lst [.int 0,.int 0,.int 1,.int 2,.int 0,.int 3,.int 1,.int 4]]):=Fr.app;have eA:getL (H++[Ob.lst [.int 0,.int 0,.int 1,.int 2,.int 0,.int 3,.int 1,.int 4]]) H.length=some (([0,0,1,2,0,3,1,4]:List Int).map Dv.int):=by simp[getL]
 have sA:=s.fr fA (by simp);have lt:=s.lt;have hd:aU (aA (mC (.int 0)) (aA (mC (.int 0)) (aA (mC (.int 1)) (aA (mC (.int 2)) (aA (mC (.int 0)) (aA (mC (.int 3)) (aA (mC (.int 1)) (aA (mC (.int 4)) aC)))))))) [some (.ref st),some (.int m),x2,x3,x4,x5,x6,x7,x8,x9] H=.ok (.ref H.length) (H++[Ob.lst [.int 0,.int 0,.int 1,.int 2,.int 0,.int 3,.int 1,.int 4]]):=rfl;generalize H++[Ob.lst [.int 0,.int 0,.int 1,.int 2,.int 0,.int 3,.int 1,.int 4]]=HA at fA eA sA hd;obtain⟨r,H1,r0,r1,t1,f1,s1⟩:=mS 8 sA;have e1:=f1.getL eA (by simp;omega);obtain⟨k,rfl⟩:∃k:Nat,r=k:=⟨r.toNat,by omega⟩
 have hk:k<8:=by omega
 have hx:=pK e1 (k:=k) (by simpa using hk);have hv:0<=([0,0,1,2,0,3,1,4]:List Int)[k]/\([0,0,1,2,0,3,1,4]:List Int)[k]<=4:=by
  match k,hk with
  |0,_=>simp
  |1,_=>simp
  |2,_=>simp
  |3,_=>simp
  |4,_=>simp
  |5,_=>simp
  |6,_=>simp
  |7,_=>simp
 generalize ([0,0,1,2,0,3,1,4]:List Int)[k]=v at hx hv;refine⟨v,H1,hv.1,hv.2, ?_,s1,fA.mono (T:=[st]) (by simp) |>.trans f1 (by simp)⟩;have ht:aF F_qs (aA (aB 0) (aA (mC (.int 8)) aC)) [some (.ref st),some (.int m),x2,x3,x4,x5,x6,x7,x8,x9] HA=.ok (.int k) H1:=by simp[aF,aA,aB,mC,aC,t1]
 unfold o1 aM m2;show((Rs.ok (Dv.int m) H).bind _).thenS _=_;rw[Rs.bind_ok,hd,Rs.bind_ok,ht,Rs.bind_ok,hx,Rs.bind_ok];rfl
theorem lR {H:Hs}{ir:Nat}{ys:List Int}{x1 x2 x4 x5 x6 x7 x8 x9:Option Dv}(s:St st H) (er:getL H ir=some (ys.map Dv.int)) (hrs:ir≠st) (hl:ys.length<=100):∃(ms:List Int) (H':Hs),ms.length=ys.length/\o6 [some (.ref st),x1,x2,some (.ref ir),x4,x5,x6,x7,x8,x9] H=.nx [some (.ref st),x1,x2,some (.ref ir),x4,x5,some (.ref H'.length),x7,x8,x9] (H'++[.lst (ms.map Dv.int)])/\St st H'/\Fr [st] H H':=by
 have hi:bO dD (aB 3) [some (.ref st),x1,x2,some (.ref ir),x4,x5,x6,x7,x8,x9] H=.ok (eC ir ys.length) H:=by simp[bO,aB,dD,er]
 obtain⟨ρ',H',acc',h1,a,ms,h2,h3,h4,h5,h6⟩:=qM (src:=eC ir ys.length) (sg:=aE 0) (t:=cU) (m:=bB (aF F_qs (aA (aB 1) (aA (mC (.int 3)) aC))))
  (λk ρ H' acc=>∃(a:Option Dv) (ms:List Int),ρ=[a,some (.ref st)]/\acc=ms.map Dv.int/\ms.length=k/\St st H'/\Fr [st] H H')
  (λk ρ H' acc hk ⟨a,ms,e1,e2,e3,e4,e5⟩=>by
   subst e1;subst e2;have hk':k<ys.length:=hk;obtain⟨r,H1,r0,r1,t1,f1,s1⟩:=mS 3 e4;have er':=e5.getL er (by simpa using hrs);refine⟨.int ys[k],[some (.int ys[k]),some (.ref st)],uK er' hk',rfl,.inr ⟨H',[some (.int ys[k]),some (.ref st)],(ms++[r]).map Dv.int,H1,rfl, ?_,_,ms++[r],rfl,rfl,by simp[e3],s1,e5.trans f1 (by simp)⟩⟩;have hz:ms.length<1000000:=by omega
   simp[bB,aF,aA,aB,mC,aC,t1,hz]) (λρ H' acc ⟨_,_,_,_,_,_,e5⟩=>uL (e5.getL er (by simpa using hrs))) ys.length 0 [none,some (.ref st)] H [] (by simp[eC]) ⟨none,[],rfl,rfl,rfl,s,Fr.refl⟩
 refine⟨ms,H',h4, ?_,h5,h6⟩;have hc:jX [some (.ref st),x1,x2,some (.ref ir),x4,x5,x6,x7,x8,x9] H=.ok (ms.map Dv.int) H':=by unfold jX bL;rw[hi,Rs.bind_ok];have hcap:fT [none,some 0] [some (.ref st),x1,x2,some (.ref ir),x4,x5,x6,x7,x8,x9]=[none,some (.ref st)]:=rfl;rw[hcap,show(eC ir ys.length).n=ys.length from rfl,h1];dsimp only;rw[h3]
 unfold o6 aM bR;rw[hc];rfl
theorem lS {H:Hs}(s:St st H):∃(n:Nat) (cs:List (Int×Int)) (H':Hs),F_qj [.ref st,.int 6] H=.ok (aI n cs) H'/\OrdP n cs/\St st H'/\Fr [st] H H':=by
 have lt:=s.lt;obtain⟨v,H1,v0,v1,w1,s1,f1'⟩:=lQ (m:=6) (x2:=none) (x3:=none) (x4:=none) (x5:=none) (x6:=none) (x7:=none) (x8:=none) (x9:=none) s;obtain⟨n,hn⟩:∃n:Nat,(6:Int) - v=n:=⟨(6 - v).toNat,by omega⟩
 have n1:1<=n:=by omega
 have n6:n<=6:=by omega
 rw[hn]at w1;have w2:o2 [some (.ref st),some (.int 6),some (.int n),none,none,none,none,none,none,none] H1=.nx [some (.ref st),some (.int 6),some (.int n),none,none,none,none,none,none,none] H1:=by
  have hm:mE [.int 1,.int (n:Int)] H1=.ok (.int n) H1:=by
   show Rs.ok (Dv.int (if(n:Int)>1 then(n:Int)else 1)) H1=_
   split
   ·rfl
   ·rw[show(1:Int)=n by omega]
  simp[o2,aM,aF,aA,mC,aB,aC,hm,aE]
 have hL:qR (.int n) H1=.ok (.ref H1.length) (H1++[.lst ((iK n).map Dv.int)]):=by
  have c:(decide (0<=(n:Int))&&decide ((n:Int)<=1000))=true:=by simp;omega
  simp only[qR,c,if_true]
 have fL:Fr [] H1 (H1++[Ob.lst ((iK n).map Dv.int)]):=Fr.app;obtain⟨ir,ys,H2,t2,er,pm,hir,s2,f2⟩:=z1o (s1.fr fL (by simp)) (j:=H1.length) (xs:=iK n) (by simp[getL]) (by simp[iK];omega);have l1:=s1.lt;have hir':H1.length+1<=ir:=by simpa using hir
 have w3:o3 [some (.ref st),some (.int 6),some (.int n),none,none,none,none,none,none,none] H1=.nx [some (.ref st),some (.int 6),some (.int n),some (.ref ir),none,none,none,none,none,none] H2:=by simp[o3,aM,aF,aA,aB,aC,f1,hL,t2,aE]
 have hy:ys.length=n:=by rw[pm.length_eq];simp[iK]
 obtain⟨w,H3,w0,w5,t3,f3,s3⟩:=mS 5 s2;have er3:=f3.getL er (by simp;omega);have w4:o4 [some (.ref st),some (.int 6),some (.int n),some (.ref ir),none,none,none,none,none,none] H2=.nx [some (.ref st),some (.int 6),some (.int n),some (.ref ir),some (.int w),none,none,none,none,none] H3:=by simp[o4,aM,aF,aA,aB,mC,aC,t3,aE]
 have w5':o5 [some (.ref st),some (.int 6),some (.int n),some (.ref ir),some (.int w),none,none,none,none,none] H3=.nx [some (.ref st),some (.int 6),some (.int n),some (.ref ir),some (.int w),some (.ref H3.length),none,none,none,none] (H3++[.lst []]):=rfl;have fM:Fr [] H3 (H3++[Ob.lst []]):=Fr.app;have eP:getL (H3++[Ob.lst []]) H3.length=some (([]:List (Int×Int)).map aG):=by simp[getL]
 have l2:=kL er;have l3:=kL er3;have l4:=s3.lt;obtain⟨ms,H4,hm,w6,s4,f4⟩:=lR (x1:=some (.int 6)) (x2:=some (.int n)) (x4:=some (.int w)) (x5:=some (.ref H3.length)) (x6:=none) (x7:=none) (x8:=none) (x9:=none) (s3.fr fM (by simp)) (fM.getL er3 (by simp)) (by omega) (by omega);have eP4:=f4.getL eP (by simp;omega);have er4:=f4.getL (fM.getL er3 (by simp)) (by simp;omega);have hle:H3.length+1<=H4.length:=by have:=f4.le;simpa using this
 have fN:Fr [] H4 (H4++[Ob.lst (ms.map Dv.int)]):=Fr.app;have D:Std st ir H4.length ys ms (H4++[Ob.lst (ms.map Dv.int)]):=⟨s4.fr fN (by simp),fN.getL er4 (by simp),by simp[getL]⟩
 obtain⟨x7,x8,x9,H5,ps,w7,eP5,hb,D5,f5⟩:=lN (d1:=.int 6) (w:=w) (ip:=H3.length) (n:=n) (x7:=none) (x8:=none) (x9:=none) D (fN.getL eP4 (by simp)) ⟨w0,w5⟩ n6 hy (by omega) (by omega) (by omega) (by omega) (by omega) (by omega);have fall:Fr [st] H H5:=by
  have g1:Fr [st] H H2:=(f1'.trans fL (by simp)).trans f2 (by simp);have g2:Fr [st] H (H3++[Ob.lst []]):=(g1.trans f3 (by simp)).trans fM (by simp);have g3:Fr [st] H (H4++[Ob.lst (ms.map Dv.int)]):=(g2.trans f4 (by simp)).trans fN (by simp);refine g3.trans f5 λj hj=>?_
  rcases bf.mp hj with rfl|hj
  ·exact .inl (by simp)
  ·rw[dh.mp hj];have:=f1'.le;have:=f2.le;have:=f3.le;right;omega
 have fin:∀(q:Nat) (y7:Option Dv) (H6:Hs) (qs:List (Int×Int)),getL H6 q=some (qs.map aG)->zE n qs->Fr [] H5 H6->o8 (bZ st ir H3.length H4.length n w (.int 6) x7 x8 x9) H5=.nx (bZ st ir q H4.length n w (.int 6) y7 x8 x9) H6->
   ∃(cs:List (Int×Int)) (H':Hs),F_qj [.ref st,.int 6] H=.ok (aI n cs) H'/\OrdP n cs/\St st H'/\Fr [st] H H':=λq y7 H6 qs eq6 g6 f6 w8=>by
  obtain⟨cs,j,H7,hc,tc,ec,f7⟩:=z1y n6 g6.1 (N0 eq6);refine⟨cs,H7, ?_,z1z n1 n6 g6 hc,(D5.s.fr f6 (by simp)).fr f7 (by simp),(fall.trans f6 (by simp)).trans f7 (by simp)⟩;have w9:o9 (bZ st ir q H4.length n w (.int 6) y7 x8 x9) H6=.rt (aI n cs) H7:=by
   have h1:aF F_qf (aA (aB 5) aC) (bZ st ir q H4.length n w (.int 6) y7 x8 x9) H6=.ok (.ref j) H7:=by simp[aF,aA,aB,aC,tc]
   have h2:aF (f1 hJ) (aA (aF F_qf (aA (aB 5) aC)) aC) (bZ st ir q H4.length n w (.int 6) y7 x8 x9) H6=.ok (.tup (cs.map aG)) H7:=by
    have h0:aA (aF F_qf (aA (aB 5) aC)) aC (bZ st ir q H4.length n w (.int 6) y7 x8 x9) H6=.ok [.ref j] H7:=by show(aF F_qf (aA (aB 5) aC) (bZ st ir q H4.length n w (.int 6) y7 x8 x9) H6).bind _=_;rw[h1];rfl
    show(aA (aF F_qf (aA (aB 5) aC)) aC (bZ st ir q H4.length n w (.int 6) y7 x8 x9) H6).bind _=_;rw[h0];simp[f1,hJ,ec]
   unfold o9 aR aL;rw[show aA (aB 2) (aA (aF (f1 hJ) (aA (aF F_qf (aA (aB 5) aC)) aC)) aC) (bZ st ir q H4.length n w (.int 6) y7 x8 x9) H6=.ok [.int n,.tup (cs.map aG)] H7 by unfold aA;show((Rs.ok (Dv.int n) H6).bind _)=_;rw[Rs.bind_ok];show((aF (f1 hJ) (aA (aF F_qf (aA (aB 5) aC)) aC) (bZ st ir q H4.length n w (.int 6) y7 x8 x9) H6).bind _).bind _=_;rw[h2];rfl];rfl
  show bK (iT [some (.ref st),some (.int 6),none,none,none,none,none,none,none,none] H)=_;rw[lO,bI w1,bI w2,bI w3,bI w4,bI w5',bI w6,bI w7,bI w8,w9];rfl
 have t8:mB (m2 bW (aB 4) (mC (.int 3))) (bZ st ir H3.length H4.length n w (.int 6) x7 x8 x9) H5=.ok (w==3) H5:=by simp[mB,m2,aB,mC,zD,eS]
 by_cases h3:w=3
 ·have fQ:Fr [] H5 (H5++[Ob.lst []]):=Fr.app;obtain⟨q,y7,H6,qs,k1,k2,k3,k4⟩:=z23 (st:=st) (ir:=ir) (im:=H4.length) (n:=n) (w:=w) (d1:=.int 6) (ip0:=H5.length) (x7:=x7) (x8:=x8) (x9:=x9) (D5.fr fQ (D5.s.fr fQ (by simp)) (by simp) (by simp)) (by simp[getL]) n6 (by omega);obtain⟨cs,H',r⟩:=fin q y7 H6 qs k2 (z21 k3) (fQ.trans k4 (by simp)) (by unfold o8;have wA:aM (aU aC) (aE 5) (bZ st ir H3.length H4.length n w (.int 6) x7 x8 x9) H5=.nx (bZ st ir H5.length H4.length n w (.int 6) x7 x8 x9) (H5++[Ob.lst []]):=rfl;rw[BP (t8.trans (by rw[h3];rfl)),bI wA,k1]);exact⟨n,cs,H',r⟩
 ·obtain⟨cs,H',r⟩:=fin H3.length x7 H5 ps eP5 (z20 pm hb) Fr.refl (by
   unfold o8;have:(w==3)=false:=by simpa using h3
   rw[oZ (t8.trans (by rw[this]))];rfl)
  exact⟨n,cs,H',r⟩
end
end L2.Mr.Com
namespace L2
open PySem PySem.Spec PyProof.Rows
section
variable{X:Cx}{D:ah}
end
section
variable{X:Cx}
end
end L2
namespace L2.Mr
open PySem PySem.Spec PyProof.Rows
section
variable{M:zo}{A:cj}{E:af->ag->Prop}{s:ag}{base:cq}{env:Env}{outer:List Env}{L e T:ah}{C a0:af}{Q:Unit->ag->Prop}
end
section
variable{P:bj}{w:cm}{M:zo}{A:cj}{E:af->ag->Prop}{s:ag}{H H0:Hp}{base:cq}{env:Env}{outer:List Env}{L e:ah}{C:af}{Q:Unit->ag->Prop}
end
section
variable{P:bj}{w:cm}{K:aq}{mg:Str->Option af}{base:cq}{N:List Str}{qual:Str}{scope:fq}{f:ah}{cdv:af}{A:cj}{outer:List Env}{s0:ag}{H0:Hp}{E0:XK}{G:Cfg}{E:XK}{k:Nat}
end
section
variable{G:Cfg}
end
section
variable{X:Cx}{G:Cfg}{E:XK}{elt tg iter:bp}{ifs:List bp}{sc:fq}{ps pos:Pos}{mi:M Src}{st:cY}{test:M Bool}{me:M Dv}{N:List Str}{cap:List (Option Nat)}
end
section
variable{P:bj}{w:cm}{K:aq}{mg:Str->Option af}{base:cq}{N:List Str}{qual:Str}{f:ah}{G:Cfg}{k:Nat}
end
end L2.Mr
namespace L2.Mr.Cod
open PySem PySem.Spec PyProof.Rows L2 L2.Mr L2.Mr.Com
def uB:MS:=(bE (cF (bD (aF F_qy (aA (aB 0) aC)))) (qD 0 (aA (mC (.str "this is no order")) aC)) bQ)
def F_qp:List Dv->Hs->Rs Dv:=aV 1 1 (uB)
def qT:MS:=(aJ (aM (m2 aT (aB 0) (mC (.int 1))) (aE 3)) (aR (dM (m2 cB (aB 1) (aB 2)) (dM (m2 (dR true) (aL (aA (aB 1) (aA (aB 2) aC))) (aB 3)) (m2 (dR true) (aL (aA (aB 2) (aA (aB 1) aC))) (aB 3))))))
def F_qt:List Dv->Hs->Rs Dv:=aV 3 4 (qT)
def uC:MS:=(aJ (aM (aU aC) (aE 1)) (aJ (dN (aS cN (aA (m2 aT (aB 0) (mC (.int 0))) aC)) (aE 2) (dN (aS gR (aA (m2 bX (aB 2) (mC (.int 1))) (aA (m2 aT (aB 0) (mC (.int 0))) aC))) (aE 3) (bE (nB (mB (m2 (dR true) (aL (aA (aB 2) (aA (aB 3) aC))) (m2 aT (aB 0) (mC (.int 1))))) (mB (m2 (dR true) (aL (aA (aB 3) (aA (aB 2) aC))) (m2 aT (aB 0) (mC (.int 1)))))) (bG (cO (aB 1) (aL (aA (aB 2) (aA (aB 3) aC))))) bQ))) (aR (aB 1))))
def F_qi:List Dv->Hs->Rs Dv:=aV 1 4 (uC)
open L2.Mr.Com hiding iS F_qf iT F_qj iU F_qb
section
variable{st n:Nat}
end
section
variable{n i:Nat}{H:Hs}{S:List (Int×Int)}{m a b:Int}{x0 x1 x3 x4 x5:Option Dv}
end
open L2.Mr.Com hiding iS F_qf iT F_qj iU F_qb oB lL lM lN jG jW o1 o2 o3 o4 o5 o6 jX o8 o9 lO lQ lR lS bZ
section
variable{st ip im n:Nat}{ys ms:List Int}{w:Int}{d1:Dv}
end
section
variable{st:Nat}
end
end L2.Mr.Cod
namespace L2.Mr.K01
open PySem PySem.Spec PyProof.Rows L2 L2.Mr L2.Mr.Com
end L2.Mr.K01
namespace L2.Mr.Com
open PySem PySem.Spec PyProof.Rows L2 L2.Mr
def T0 (H:Hs):Dv->Prop
 | .ref i=>∃xs,getL H i=some xs
 | .exc _=>False
 | .scr=>False
 |_=>True
def TK:Nat->Hs->Dv->Prop
 |0,H,d=>T0 H d
 |k+1,H,d=>T0 H d/\∀ds,d=.tup ds->ds.length<=500/\∀x∈ds,TK k H x
theorem TK.t0:∀{k:Nat}{H:Hs}{d:Dv},TK k H d->T0 H d
 |0,_,_,h=>h
 |_+1,_,_,h=>h.1
theorem TK.tup {k:Nat}{H:Hs}{ds:List Dv}(hl:ds.length<=500) (h:∀x∈ds,TK k H x):TK (k+1) H (.tup ds):=⟨trivial,λ_ e=>by cases e;exact⟨hl,h⟩⟩
theorem TK.of {k:Nat}{H:Hs}{d:Dv}(h0:T0 H d) (h:∀ds,d≠.tup ds):TK k H d:=by
 cases k with
 |zero=>exact h0
 |succ k=>exact⟨h0,λds e=>absurd e (h ds)⟩
theorem T0.fr {st:Nat}{H H':Hs}{d:Dv}(h:T0 H d) (f:Fr [st] H H') (s:St st H'):T0 H' d:=by
 cases d with
 |ref i=>
  obtain⟨xs,e⟩:=h
  by_cases c:i=st
  ·subst c;obtain⟨a,b,e⟩:=s;exact⟨_,e⟩
  ·exact⟨xs,f.getL e (by simpa using c)⟩
 |_=>exact h
theorem TK.fr {st:Nat}{H H':Hs}(f:Fr [st] H H') (s:St st H'):∀{k:Nat}{d:Dv},TK k H d->TK k H' d
 |0,_,h=>T0.fr h f s
 |k+1,_,h=>⟨h.1.fr f s,λds e=>⟨(h.2 ds e).1,λx hx=>TK.fr f s ((h.2 ds e).2 x hx)⟩⟩
def pL:Dv->Bool
 | .tup _=>true
 |_=>false
def isInt:Dv->Bool
 | .int _=>true
 |_=>false
section
variable{H:Hs}{d:Dv}{n:Int}
theorem EL (h:T0 H d):bC gJ d H=.ok (.bl (pL d)) H:=by
 cases d with
 |ref i=>obtain⟨xs,e⟩:=h;simp[bC,fU,e,gJ,pL]
 |exc c=>exact h.elim
 |scr=>exact h.elim
 |_=>rfl
theorem z24 (h:T0 H d):bC qK d H=.ok (.bl (match d with | .int _=>true | .bl _=>true|_=>false)) H:=by
 cases d with
 |ref i=>obtain⟨xs,e⟩:=h;simp[bC,fU,e,qK]
 |exc c=>exact h.elim
 |scr=>exact h.elim
 |_=>rfl
theorem z25 (h:T0 H d):bC mJ d H=.ok (.bl (match d with | .bl _=>true|_=>false)) H:=by
 cases d with
 |ref i=>obtain⟨xs,e⟩:=h;simp[bC,fU,e,mJ]
 |exc c=>exact h.elim
 |scr=>exact h.elim
 |_=>rfl
theorem z26 (h:T0 H d):F_q0 [d] H=.ok (.bl (isInt d)) H:=by
 have e1:=z24 h;have e2:=z25 h
 cases d <;> simp[F_q0,CH,aV,bH,aR,dM,m1,aB,e1,e2,pV,bK,isInt]
def oI (lo hi:Int):Dv->Bool
 | .int x=>decide (lo<=x)&&decide (x<=hi)
 |_=>false
theorem N4 {lo hi:Int}(h:T0 H d):F_qn [d,.int lo,.int hi] H=.ok (.bl (oI lo hi d)) H:=by
 have w:=z26 h
 cases d with
 |int x=>exact EC
 |_=>simp[F_qn,xV,aV,bH,aR,dM,aF,aA,aB,aC,w,isInt,bK,oI]
def tB (n:Int) (d:Dv):Bool:=oI 0 (n - 1) d
theorem N5 (h:T0 H d):F_qz [.int n,d] H=.ok (.bl (tB n d)) H:=by simp[F_qz,CI,aV,bH,aR,aF,aA,aB,aC,mC,m2,mI,iZ,N4 h,bK,tB]
def rH (n:Int):Dv->Bool
 | .tup ys=>ys.all (tB n)
 |_=>false
theorem z27 (h:TK 1 H d):F_qm [.int n,d] H=.ok (.bl (rH n d)) H:=by
 have e:=EL h.1
 cases d with
 |tup xs=>obtain⟨hl,hx⟩:=h.2 xs rfl;have h:bL (bO dS (aB 1)) [none,some 0] (aE 0) cU (bB (aF F_qz (aA (aB 1) (aA (aB 0) aC)))) [some (.int n),some (.tup xs)] H=.ok (xs.filterMap λx=>some (.bl (tB n x))) H:=hW xs (λx=>some (.bl (tB n x))) (λρ=>∃a,ρ=[a,some (.int n)]) rfl (by simp[cZ]) ⟨_,rfl⟩ rfl (λk hk ρ ⟨a,e⟩=>by subst e;exact⟨xs[k],_,by simp[cZ,hk],rfl,⟨_,rfl⟩,rfl,by simp[aF,aA,aB,aC,N5 (hx xs[k] (fz hk))]⟩) (by omega);simp[F_qm,xW,aV,bH,aR,dM,m1,bC,aB,fU,gJ,qY h,bK,rH]
 |_=>simp[F_qm,xW,aV,bH,aR,dM,m1,aB,e,pL,bK,rH]
def pB (n:Int):Dv->Bool
 | .tup ys=>ys.all (tB n)&&decide (ys.length=2)
 |_=>false
theorem z28 (ys:List Dv):f1 fK [.tup ys] H=.ok (.int ys.length) H:=rfl
theorem z29 (h:TK 1 H d):F_q1 [.int n,d] H=.ok (.bl (pB n d)) H:=by
 have h1:=z27 (n:=n) h
 cases d with
 |tup ys=>
  cases q:ys.all (tB n)with
  |false=>simp[F_q1,qS,aV,bH,aR,dM,aF,aA,aB,aC,h1,rH,pB,q,bK]
  |true=>
   have e:((ys.length:Int)==2)=decide (ys.length=2):=by rw[fw];simp;omega
   simp[F_q1,qS,aV,bH,aR,dM,aF,aA,aB,aC,h1,rH,pB,q,bK,m2,z28,mC,zD,e]
 |_=>simp[F_q1,qS,aV,bH,aR,dM,aF,aA,aB,aC,h1,rH,pB,bK]
theorem z2a {xs:List Dv}(h:TK 2 H (.tup xs)):F_qu [.int n,.tup xs] H=.ok (.bl (xs.all (pB n))) H:=by obtain⟨hl,hx⟩:=h.2 xs rfl;have h:bL (bO dS (aB 1)) [none,some 0] (aE 0) cU (bB (aF F_q1 (aA (aB 1) (aA (aB 0) aC)))) [some (.int n),some (.tup xs)] H=.ok (xs.filterMap λp=>some (.bl (pB n p))) H:=hW xs (λp=>some (.bl (pB n p))) (λρ=>∃a,ρ=[a,some (.int n)]) rfl (by simp[cZ]) ⟨_,rfl⟩ rfl (λk hk ρ ⟨a,e⟩=>by subst e;exact⟨xs[k],_,by simp[cZ,hk],rfl,⟨_,rfl⟩,rfl,by simp[aF,aA,aB,aC,z29 (hx xs[k] (fz hk))]⟩) (by omega);simp[F_qu,CJ,aV,bH,aR,qY h,bK]
def pM:Dv->Option (Int×Int)
 | .tup [.int a,.int b]=>some (a,b)
 |_=>none
theorem z2b {x:Dv}(h:pB n x=true):∃p,x=aG p/\pM x=some p:=by
 match x,h with
 | .tup [.int a,.int b],_=>exact⟨(a,b),rfl,rfl⟩
 | .tup [a,b],h=>
  simp[pB]at h;obtain⟨h1,h2⟩:=h
  cases a <;> first|(cases h1;done)|skip
  cases b <;> first|(cases h2;done)|skip
  exact⟨_,rfl,rfl⟩
 | .tup [],h=>simp[pB]at h
 | .tup [_],h=>simp[pB]at h
 | .tup (_::_::_::_),h=>simp[pB]at h
theorem N6:∀{xs:List Dv},(∀x∈xs,∃p,x=aG p/\pM x=some p)->xs=(xs.filterMap pM).map aG
 | [],_=>rfl
 |x::xs,h=>by obtain⟨p,e,q⟩:=h x (by simp);rw[List.filterMap_cons_some q,cy,<-N6 λy hy=>h y (by simp[hy]),<-e]
def gB:Dv->Bool
 | .tup [.int n,.tup xs]=>xs.all (pB n)&&qZ n (xs.filterMap pM)
 |_=>false
theorem hO {ds:List Dv}(h:ds.length≠2):∃L:Int,f1 fK [.tup ds] H=.ok (.int L) H/\cB (.int L) (.int 2) H=.ok (.bl true) H:=by
 refine⟨ds.length,rfl, ?_⟩;have:((ds.length:Int)==2)=false:=by simp;omega
 simp[cB,bY,bM,bJ,this]
theorem EM {ds:List Dv}(h:ds.length≠2):F_qy [.tup ds] H=.ok (.bl false) H:=by obtain⟨L,hlen,hne⟩:=hO (H:=H) h;have e:bC gJ (.tup ds) H=.ok (.bl true) H:=rfl;simp[F_qy,pF,aV,bH,aJ,bE,iL,cF,bD,m1,aB,mB,m2,aF,aA,aC,mC,aR,e,dZ,hlen,hne,eS,bK]
theorem EN {ds:List Dv}(h:ds.length≠2):gB (.tup ds)=false:=by
 unfold gB
 split
 ·rename_i e;cases e;simp at h
 ·rfl
theorem z2c (h:TK 3 H d):F_qy [d] H=.ok (.bl (gB d)) H:=by
 have e:=EL h.1
 cases d with
 |tup ds=>
  obtain⟨hl,hx⟩:=h.2 ds rfl
  match ds,hl,hx,e,h with
  | [a,b],hl,hx,e,h=>
   have ha:=hx a (by simp);have hb:=hx b (by simp);have b1:=N4 (lo:=1) (hi:=6) ha.t0;have b2:=EL hb.t0;have hlen:f1 fK [.tup [a,b]] H=.ok (.int 2) H:=rfl
   cases q1:oI 1 6 a with
   |false=>
    rw[q1]at b1;have:gB (.tup [a,b])=false:=by
     cases a with
     |int n=>
      cases b with
      |tup xs=>
       have:¬ (1<=n/\n<=6):=by simpa[oI]using q1
       simp only[gB,Bool.and_eq_false_iff];right;unfold qZ
       by_cases c:1<=n
       ·have:¬ n<=6:=λc'=>this ⟨c,c'⟩;simp[this]
       ·simp[c]
      |_=>rfl
     |_=>rfl
    rw[this];simp[F_qy,pF,aV,bH,aJ,bE,iL,cF,bD,m1,aB,e,pL,dZ,mB,m2,aF,aA,aC,hlen,mC,cB,bY,bM,bJ,eS,bQ,aM,cG,aY,aE,cI,b1,aR,bK]
   |true=>
    rw[q1]at b1
    cases a with
    |int n=>
     cases b with
     |tup xs=>
      have p1:=z2a (n:=n) hb
      cases q2:xs.all (pB n)with
      |false=>rw[q2]at p1;simp[gB,q2,F_qy,pF,aV,bH,aJ,bE,iL,cF,bD,m1,aB,e,b2,pL,dZ,mB,m2,aF,aA,aC,hlen,mC,cB,bY,bM,bJ,eS,bQ,aM,cG,aY,aE,cI,b1,p1,aR,bK]
      |true=>
       have ex:=N6 λx hx=>z2b (fy.mp q2 x hx);have hle:(xs.filterMap pM).length<=900:=by have:=mf pM xs;have:=(hb.2 xs rfl).1;omega
       have:=NT (H:=H) (n:=n) (ps:=xs.filterMap pM) hle;rw[<-ex]at this;rw[this];simp[gB,q2]
     |_=>simp[gB,F_qy,pF,aV,bH,aJ,bE,iL,cF,bD,m1,aB,e,b2,pL,dZ,mB,m2,aF,aA,aC,hlen,mC,cB,bY,bM,bJ,eS,bQ,aM,cG,aY,aE,cI,b1,aR,bK]
    |_=>cases q1
  | [],hl,hx,e,h=>exact(EM (by simp)).trans (by rw[EN (by simp)])
  | [a],hl,hx,e,h=>exact(EM (by simp)).trans (by rw[EN (by simp)])
  |a::b::c::r,hl,hx,e,h=>exact(EM (by simp)).trans (by rw[EN (by simp)])
 |_=>simp[F_qy,pF,aV,bH,aJ,bE,iL,cF,bD,m1,aB,e,pL,dZ,mC,aR,bK,gB]
end
section
variable{H:Hs}{d:Dv}{n:Int}
end
section
variable{H:Hs}{d:Dv}
end
theorem T0.fr0 {H H':Hs}{d:Dv}(h:T0 H d) (f:Fr [] H H'):T0 H' d:=by
 cases d with
 |ref i=>obtain⟨xs,e⟩:=h;exact⟨xs,f.getL e (by simp)⟩
 |_=>exact h
theorem TK.fr0 {H H':Hs}(f:Fr [] H H'):∀{k:Nat}{d:Dv},TK k H d->TK k H' d
 |0,_,h=>T0.fr0 h f
 |k+1,_,h=>⟨h.1.fr0 f,λds e=>⟨(h.2 ds e).1,λx hx=>TK.fr0 f ((h.2 ds e).2 x hx)⟩⟩
def N7 (P:Ev->Hs->Prop):Prop:=∀ρ H H',P ρ H->Fr [] H H'->P ρ H'
def Wr (P:Ev->Hs->Prop) (k:Nat) (m:M Dv):Prop:=∀ρ H,P ρ H->∃d H',m ρ H=.ok d H'/\Fr [] H H'/\TK k H' d
def lT (P:Ev->Hs->Prop) (k n:Nat) (ms:M (List Dv)):Prop:=∀ρ H,P ρ H->∃ds H',ms ρ H=.ok ds H'/\Fr [] H H'/\ds.length=n/\∀x∈ds,TK k H' x
section
variable{P:Ev->Hs->Prop}{k n m':Nat}{m:M Dv}{ms:M (List Dv)}
theorem EO:lT P k 0 aC:=λρ H _=>⟨[],H,rfl,Fr.refl,rfl,λx hx=>by cases hx⟩
theorem ER (hP:N7 P) (h:Wr P k m) (hs:lT P k n ms):lT P k (n+1) (aA m ms):=λρ H p=>by
 obtain⟨d,H1,e1,f1,t1⟩:=h ρ H p;obtain⟨ds,H2,e2,f2,l2,t2⟩:=hs ρ H1 (hP ρ H H1 p f1);refine⟨d::ds,H2, ?_,f1.trans f2 (by simp),by simp[l2],λx hx=>?_⟩
 ·unfold aA;rw[e1,Rs.bind_ok,e2,Rs.bind_ok]
 ·rcases bf.mp hx with rfl|hx
  ·exact t1.fr0 f2
  ·exact t2 x hx
theorem uN (h:∀ρ H,P ρ H->∃d,m ρ H=.ok d H/\TK k H d):Wr P k m:=λρ H p=>let ⟨d,e,t⟩:=h ρ H p;⟨d,H,e,Fr.refl,t⟩
theorem ES {i:Int}:Wr P k (mC (.int i)):=uN λρ H _=>⟨_,rfl,TK.of trivial λ_ e=>by cases e⟩
theorem ET {i:Bool}:Wr P k (mC (.bl i)):=uN λρ H _=>⟨_,rfl,TK.of trivial λ_ e=>by cases e⟩
theorem EU:Wr P k (mC .non):=uN λρ H _=>⟨_,rfl,TK.of trivial λ_ e=>by cases e⟩
theorem EV {s}:Wr P k (mC (.str s)):=uN λρ H _=>⟨_,rfl,TK.of trivial λ_ e=>by cases e⟩
theorem EW:Wr P k (mC .edc):=uN λρ H _=>⟨_,rfl,TK.of trivial λ_ e=>by cases e⟩
theorem zH (h:lT P k n ms) (hn:n<=500):Wr P (k+1) (aL ms):=λρ H p=>by obtain⟨ds,H1,e1,f1,l1,t1⟩:=h ρ H p;refine⟨.tup ds,H1, ?_,f1,TK.tup (by omega) t1⟩;unfold aL lim;rw[e1,Rs.bind_ok,if_pos (by omega)]
theorem EX (h:lT P 0 n ms) (hn:n<=500):Wr P 0 (aL ms):=λρ H p=>let ⟨d,H',e,f,t⟩:=zH h hn ρ H p;⟨d,H',e,f,t.1⟩
theorem EY (h:lT P 0 n ms) (hn:n<=500):Wr P k (aU ms):=λρ H p=>by obtain⟨ds,H1,e1,f1,l1,t1⟩:=h ρ H p;refine⟨.ref H1.length,H1++[.lst ds], ?_,f1.trans (T:=[]) Fr.app (by simp),TK.of ⟨ds,by simp[getL]⟩ λ_ e=>by cases e⟩;unfold aU lim;rw[e1,Rs.bind_ok,if_pos (by omega)]
end
def uO:M (List Dv):=(aA (mC .non) (aA (mC (.int 0)) (aA (aL aC) (aA (aL (aA (mC (.int 0)) (aA (aL aC) aC))) (aA (aL (aA (mC (.int 7)) (aA (aL aC) aC))) (aA (aL (aA (mC (.bl true)) (aA (aL aC) aC))) (aA (aL (aA (mC (.int 2)) (aA (aU aC) aC))) (aA (aU (aA (mC (.int 2)) (aA (aL aC) aC))) (aA (aL (aA (mC (.int 2)) (aA (aL (aA (aL (aA (mC (.int 0)) (aA (mC (.int 1)) aC))) (aA (aL (aA (mC (.int 0)) (aA (mC (.int 1)) aC))) aC))) aC))) (aA (aL (aA (mC (.int 2)) (aA (aL (aA (aL (aA (mC (.int 1)) (aA (mC (.int 0)) aC))) (aA (aL (aA (mC (.int 0)) (aA (mC (.int 1)) aC))) aC))) aC))) aC))))))))))
def uP:M (List Dv):=(aA (aL (aA (mC (.int 3)) (aA (aL (aA (aL (aA (mC (.int 0)) (aA (mC (.int 1)) aC))) (aA (aL (aA (mC (.int 1)) (aA (mC (.int 2)) aC))) aC))) aC))) (aA (aL (aA (mC (.int 2)) (aA (aL (aA (aL (aA (mC (.int 0)) (aA (mC (.int 0)) aC))) aC)) aC))) (aA (aL (aA (mC (.int 2)) (aA (aL (aA (aL (aA (mC (.int 0)) (aA (mC (.int 2)) aC))) aC)) aC))) (aA (aL (aA (mC (.int 2)) (aA (aL (aA (aL (aA (mC (.int 0)) (aA (mC (.bl true)) aC))) aC)) aC))) (aA (aL (aA (mC (.int 2)) (aA (aL (aA (aL (aA (mC (.int 0)) (aA (mC (.int 1)) (aA (mC (.int 1)) aC)))) aC)) aC))) (aA (mC .edc) aC))))))
def uQ:M (List Dv):=(aA (mC (.str "2:")) (aA (aL (aA (mC (.int 2)) (aA (aL (aA (mC (.int 0)) (aA (mC (.int 1)) aC))) aC))) (aA (aL (aA (mC (.int 3)) (aA (aL (aA (aL (aA (mC (.int 0)) (aA (mC (.int 2)) aC))) (aA (aL (aA (mC (.int 0)) (aA (mC (.int 1)) aC))) aC))) aC))) (aA (aL (aA (mC (.int 2)) (aA (mC .non) aC))) (aA (aL (aA (mC (.int 2)) (aA (aL aC) (aA (aL aC) aC)))) (aA (aL (aA (mC (.int 2)) aC)) (aA (aL (aA (mC (.int 2)) (aA (aL (aA (aU (aA (mC (.int 0)) (aA (mC (.int 1)) aC))) aC)) aC))) (aA (aL (aA (mC (.int 2)) (aA (aL (aA (mC .non) aC)) aC))) aC))))))))
theorem z2d:iU=aJ (aM (aU uO) (aE 1)) (aJ (aM (m2 bX (aB 1) (aU uP)) (aE 1)) (aJ (aM (m2 bX (aB 1) (aU uQ)) (aE 1)) (aR (m2 aT (aB 1) (aF F_qs (aA (aB 0) (aA (mC (.int 24)) aC))))))):=rfl
theorem EZ {ρ:Ev}{H H1 H2:Hs}{st i j:Nat}{ml:M Dv}(hv:aB st ρ H=.ok (.ref i) H) (e1:ml ρ H=.ok (.ref j) H1) (e2:bX (.ref i) (.ref j) H1=.ok (.ref H1.length) H2):m2 bX (aB st) ml ρ H=.ok (.ref H1.length) H2:=by unfold m2;rw[hv,Rs.bind_ok,e1,Rs.bind_ok,e2]
end L2.Mr.Com
namespace L2.Mr.Cod
open PySem PySem.Spec PyProof.Rows L2 L2.Mr
open L2.Mr.Com hiding iS F_qf iT F_qj iU F_qb oB lL lM lN jG jW o1 o2 o3 o4 o5 o6 jX o8 o9 lO lQ lR lS bZ
section
variable{H:Hs}
theorem kS {i j:Nat}{xs ys:List Dv}(e1:getL H i=some xs) (e2:getL H j=some ys) (hl:xs.length+ys.length<=500):bX (.ref i) (.ref j) H=.ok (.ref H.length) (H++[.lst (xs++ys)]):=by simp[bX,mD,e1,e2,lim];omega
theorem hY {i j:Nat}{ds:List Dv}(e:getL H i=some ds) (hj:j<ds.length):aT (.ref i) (.int j) H=.ok ds[j] H:=by
 have h1:fO ds.length (j:Int)=some j:=by unfold fO;rw[if_pos (by omega),if_pos (by omega)];simp
 have h2:gQ ds (j:Int)=some ds[j]:=by unfold gQ;rw[h1];simp[hj]
 simp only[aT,fV,gG,e,kD,h2,if_true]
theorem cR {x:List Dv}:getL (H++[.lst x]) H.length=some x:=by simp[getL]
end
section
variable{n m:Nat}{H H':Hs}{i j:Nat}
end
end L2.Mr.Cod
namespace L2.Mr
open PySem PySem.Spec PyProof.Rows L2
end L2.Mr
namespace L2.Mr.Cod
open PySem PySem.Spec PyProof.Rows L2 L2.Mr
open L2.Mr.Com hiding iS F_qf iT F_qj iU F_qb oB lL lM lN jG jW o1 o2 o3 o4 o5 o6 jX o8 o9 lO lQ lR lS bZ
def hZ (ps:List (Int×Int)) (a:Nat):Nat->List (Int×Int)
 |0=>[]
 |k+1=>hZ ps a k++if((a:Int),(a:Int)+1+(k:Int))∈ps∨((a:Int)+1+(k:Int),(a:Int))∈ps then[]else[((a:Int),(a:Int)+1+(k:Int))]
def gO (n:Nat) (ps:List (Int×Int)):Nat->List (Int×Int)
 |0=>[]
 |k+1=>gO n ps k++hZ ps k (n - (k+1))
def dP (n:Nat) (ps:List (Int×Int)):List (Int×Int):=gO n ps n
theorem looseB_len (ps:List (Int×Int)) (a:Nat):∀k,(hZ ps a k).length<=k
 |0=>ao _
 |k+1=>by
  have:=looseB_len ps a k;unfold hZ
  split <;> simp <;> omega
theorem N8 (n:Nat) (ps:List (Int×Int)):∀k,(gO n ps k).length<=k*n
 |0=>by simp[gO]
 |k+1=>by have h1:=N8 n ps k;have h2:=looseB_len ps k (n - (k+1));unfold gO;rw[bx,sk];omega
section
variable{n:Nat}{ps:List (Int×Int)}{i:Nat}
def oJ:MS:=bE (nB (mB (m2 (dR true) (aL (aA (aB 2) (aA (aB 3) aC))) (m2 aT (aB 0) (mC (.int 1))))) (mB (m2 (dR true) (aL (aA (aB 3) (aA (aB 2) aC))) (m2 aT (aB 0) (mC (.int 1)))))) (bG (cO (aB 1) (aL (aA (aB 2) (aA (aB 3) aC))))) bQ
theorem z2e {H:Hs}{a b:Int}{acc:List (Int×Int)}(e:getL H i=some (acc.map aG)) (hl:acc.length<1000):
  oJ [some (aI n ps),some (.ref i),some (.int a),some (.int b)] H=.nx [some (aI n ps),some (.ref i),some (.int a),some (.int b)] (H.set i (.lst ((acc++if(a,b)∈ps∨(b,a)∈ps then[]else[(a,b)]).map aG))):=by
 have self:H.set i (.lst (acc.map aG))=H:=by
  apply nh
  intro k
  by_cases hk:i=k
  ·subst hk;rw[cz (kL e),cM e]
  ·rw[dw hk]
 have t1:∀(x y:Int),mB (m2 (dR true) (λ_ h=>.ok (aG (x,y)) h) (λ_ h=>.ok (.tup (ps.map aG)) h)) [] H=.ok (!decide ((x,y)∈ps)) H:=λx y=>by simp[mB,m2,kM,eS]
 have hl':acc.length<1000000:=by omega
 by_cases h1:(a,b)∈ps
 ·simp[oJ,bE,nB,mB,m2,aL,aA,aB,aC,lim,mC,zA];rw[show Dv.tup [.int a,.int b]=aG (a,b) from rfl,kM];simp[h1,eS,bQ,self]
 ·by_cases h2:(b,a)∈ps
  ·simp[oJ,bE,nB,mB,m2,aL,aA,aB,aC,lim,mC,zA];rw[show Dv.tup [.int a,.int b]=aG (a,b) from rfl,show Dv.tup [.int b,.int a]=aG (b,a) from rfl,kM];simp[h1,eS,kM,h2,bQ,self]
  ·simp[oJ,bE,nB,mB,m2,aL,aA,aB,aC,lim,mC,zA];rw[show Dv.tup [.int a,.int b]=aG (a,b) from rfl,show Dv.tup [.int b,.int a]=aG (b,a) from rfl,kM];simp only[h1,Rs.bind_ok,eS,kM];simp[h2,h1,bG,cO,aB,gS,e,aL,aA,aC,lim,jQ,hl'];rfl
theorem z2f {a:Nat}{x3:Option Dv}{H:Hs}{acc:List (Int×Int)}(hn:n<=10) (ha:a<n) (hl:acc.length<=200) (e:getL H i=some (acc.map aG)):
  ∃y3,dN (aS gR (aA (m2 bX (aB 2) (mC (.int 1))) (aA (m2 aT (aB 0) (mC (.int 0))) aC))) (aE 3) oJ [some (aI n ps),some (.ref i),some (.int a),x3] H =
   .nx [some (aI n ps),some (.ref i),some (.int a),y3] (H.set i (.lst ((acc++hZ ps a (n - (a+1))).map aG))):=by
 have hi:aS gR (aA (m2 bX (aB 2) (mC (.int 1))) (aA (m2 aT (aB 0) (mC (.int 0))) aC)) [some (aI n ps),some (.ref i),some (.int a),x3] H=.ok (cA ((a:Int)+1) n) H:=by have q:aA (m2 bX (aB 2) (mC (.int 1))) (aA (m2 aT (aB 0) (mC (.int 0))) aC) [some (aI n ps),some (.ref i),some (.int a),x3] H=.ok [.int ((a:Int)+1),.int n] H:=rfl;unfold aS;rw[q,Rs.bind_ok];exact N3 (by omega) (by omega) (by omega) (by omega)
 have hN:(cA ((a:Int)+1) n).n=n - (a+1):=by show((n:Int) - ((a:Int)+1)).toNat=_;omega
 obtain⟨ρ',H',h1,y3,h2,h3⟩:=qL (b:=oJ) (sg:=aE 3) hi (λk ρ H'=>∃y3,ρ=[some (aI n ps),some (.ref i),some (.int a),y3]/\H'=H.set i (.lst ((acc++hZ ps a k).map aG)))
  (λk ρ H' hk ⟨y3,e1,e2⟩=>by
   subst e1;subst e2;have e':getL (H.set i (.lst ((acc++hZ ps a k).map aG))) i=some ((acc++hZ ps a k).map aG):=lB e;refine⟨.int ((a:Int)+1+(k:Int)),_,_,_,rfl,rfl,z2e e' (by have:=looseB_len ps a k;rw[bx];omega),_,rfl, ?_⟩;rw[List.set_set,hZ,nc]) (λ_ _ _=>rfl) ⟨x3,rfl,by
   have self:H.set i (.lst (acc.map aG))=H:=by
    apply nh
    intro k
    by_cases hk:i=k
    ·subst hk;rw[cz (kL e),cM e]
    ·rw[dw hk]
   rw[hZ,ow,self]⟩
 rw[hN]at h3;exact⟨y3,by rw[h1,h2,h3]⟩
theorem loose_ok {H:Hs}(hn:n<=10):F_qi [aI n ps] H=.ok (.ref H.length) (H++[.lst ((dP n ps).map aG)]):=by
 have e0:getL (H++[.lst []]) H.length=some (([]:List (Int×Int)).map aG):=by simp[getL]
 have w0:aM (aU aC) (aE 1) [some (aI n ps),none,none,none] H=.nx [some (aI n ps),some (.ref H.length),none,none] (H++[.lst []]):=rfl;have hi:aS cN (aA (m2 aT (aB 0) (mC (.int 0))) aC) [some (aI n ps),some (.ref H.length),none,none] (H++[.lst []])=.ok (cA 0 n) (H++[.lst []]):=by have q:aA (m2 aT (aB 0) (mC (.int 0))) aC [some (aI n ps),some (.ref H.length),none,none] (H++[.lst []])=.ok [.int n] (H++[.lst []]):=rfl;unfold aS;rw[q,Rs.bind_ok];exact zF (by omega) (by omega)
 have hN:(cA 0 (n:Int)).n=n:=by simp[cA]
 obtain⟨ρ',H',h1,y2,y3,h2,h3⟩:=qL (b:=dN (aS gR (aA (m2 bX (aB 2) (mC (.int 1))) (aA (m2 aT (aB 0) (mC (.int 0))) aC))) (aE 3) oJ) (sg:=aE 2) hi
  (λk ρ H'=>∃y2 y3,ρ=[some (aI n ps),some (.ref H.length),y2,y3]/\H'=H++[.lst ((gO n ps k).map aG)])
  (λk ρ H' hk ⟨y2,y3,e1,e2⟩=>by
   subst e1;subst e2;rw[hN]at hk;have e':getL (H++[.lst ((gO n ps k).map aG)]) H.length=some ((gO n ps k).map aG):=by simp[getL]
   have hb:(gO n ps k).length<=200:=by have h1:=N8 n ps k;have h2:k*n<=10*10:=kz (by omega) hn;omega
   obtain⟨z3,hz⟩:=z2f (x3:=y3) (ps:=ps) hn hk hb e';refine⟨.int (0+(k:Int)),[some (aI n ps),some (.ref H.length),some (.int (k:Int)),y3],_,_,rfl,by simp[aE],hz,_,_,rfl, ?_⟩;rw[X6,gO];rfl) (λ_ _ _=>rfl) ⟨none,none,rfl,rfl⟩
 rw[hN]at h3;show bK (uC [some (aI n ps),none,none,none] H)=_;have z:uC [some (aI n ps),none,none,none] H=.rt (.ref H.length) (H++[.lst ((dP n ps).map aG)]):=by show aJ (aM (aU aC) (aE 1)) (aJ (dN (aS cN (aA (m2 aT (aB 0) (mC (.int 0))) aC)) (aE 2) (dN (aS gR (aA (m2 bX (aB 2) (mC (.int 1))) (aA (m2 aT (aB 0) (mC (.int 0))) aC))) (aE 3) oJ)) (aR (aB 1))) _ _=_;rw[bI w0,bI h1,h2,h3];rfl
 rw[z];rfl
end
def eO (ps:List (Int×Int)) (a b:Int):Prop:=a≠b/\(a,b)∉ps/\(b,a)∉ps
instance (ps:List (Int×Int)) (a b:Int):Decidable (eO ps a b):=by unfold eO;infer_instance
section
variable{n:Nat}{ps:List (Int×Int)}{r:Int}{fs:List Int}
end
section
variable{n:Nat}{ps:List (Int×Int)}{r:Int}{fs:List Int}
end
section
variable{n:Nat}{ps:List (Int×Int)}{r:Int}{H:Hs}
theorem loose_is {a b:Int}:F_qt [aI n ps,.int a,.int b] H=.ok (.bl (decide (eO ps a b))) H:=by
 have h1:=zA (n:=n) (ps:=ps) H;have t1:=kM true H (a,b) ps;have t2:=kM true H (b,a) ps;simp only[aG,if_true]at t1 t2;have hne:cB (.int a) (.int b) H=.ok (.bl (!(a==b))) H:=by simp[cB,bY,bM,bJ]
 generalize aI n ps=d at h1;simp only[eO]
 by_cases c0:a=b
 ·subst c0;simp[F_qt,qT,aV,bH,aJ,aM,m2,aB,mC,h1,aE,aR,dM,hne,bK]
 ·have c0':(a==b)=false:=by simpa using c0
  by_cases c1:(a,b)∈ps
  ·simp[F_qt,qT,aV,bH,aJ,aM,m2,aB,mC,h1,aE,aR,dM,hne,c0',aL,aA,aC,lim,t1,c1,bK]
  ·simp[F_qt,qT,aV,bH,aJ,aM,m2,aB,mC,h1,aE,aR,dM,hne,c0',c0,aL,aA,aC,lim,t1,c1,t2,bK]
end
section
variable{n:Nat}{ps:List (Int×Int)}{r:Int}{H:Hs}{i j:Nat}{fs:List Int}{nd:List (Int×Int×Int)}
end
section
variable{n:Nat}{ps:List (Int×Int)}{r:Int}{H:Hs}{i j:Nat}{fs:List Int}{nd:List (Int×Int×Int)}{d:Dv}
theorem need_ok (o:OrdP n ps):F_qp [aI n ps] H=.ok .non H:=by simp[F_qp,uB,aV,bH,bE,cF,bD,aF,aA,aB,aC,z1j o,dZ,bQ,bK]
theorem need_bad (h:TK 3 H d) (hb:gB d=false):F_qp [d] H=.ex 0 H:=by have e:=z2c h;rw[hb]at e;simp[F_qp,uB,aV,bH,bE,cF,bD,aF,aA,aB,aC,e,dZ,qD,mC,bK]
end
end L2.Mr.Cod
namespace L2.Mr.Com
open PySem PySem.Spec PyProof.Rows L2 L2.Mr
section
variable{P:Ev->Hs->Prop}{l l':Nat}{m m':M Dv}
end
section
variable{st n:Nat}{cs:List (Int×Int)}{at_ a b:Int}
variable(o:OrdP n cs)
include o
end
end L2.Mr.Com
namespace L2.Mr.Gen
open PySem PySem.Spec PyProof.Rows L2 L2.Mr L2.Mr.Com
section
variable{H:Hs}{xs:List Int}
theorem zI {m:M Dv}{ρ:Ev}{H:Hs}{L:Int}(e:m ρ H=.ok (.int L) H) (h0:0<=L) (h1:L<=1000):aS cN (aA m aC) ρ H=.ok (cA 0 L) H:=by
 have hr:iF L=true:=by simp[iF];omega
 simp[aS,aA,e,aC,cN,hr]
theorem z2g (neg:Bool) (x:Int) {i:Nat}(e:getL H i=some (xs.map Dv.int)):dR neg (.int x) (.ref i) H=.ok (.bl (if neg then !decide (x∈xs)else decide (x∈xs))) H:=by
 have e':(xs.map Dt.int).any (λt=>bJ t (.int x))=decide (x∈xs):=by
  rw[fw];simp only[Ak,qw,Function.comp,decide_eq_true_eq];constructor
  ·rintro ⟨q,hq,h⟩
   have:q=x:=by simpa[bJ]using h
   rw[<-this];exact hq
  ·intro h;exact⟨x,h,by simp[bJ]⟩
 have h1:bP (bM bY H) (xs.map Dv.int)=some (xs.map Dt.int):=BQ 29 H xs;have h2:bM bY H (.int x)=some (.int x):=rfl;show nM [] neg (.int x) (.ref i) H=_;simp only[nM,fY,e,h1,h2,e']
theorem E1 {mi:M Src}{cap:List (Option Nat)}{sg:cY}{t:M Bool}{m:MC}{ρ ρ':Ev}{H H1 H':Hs}{src:Src}{acc:List Dv}(e:mi ρ H=.ok src H1) (h:eE src sg t m src.n 0 (fT cap ρ) H1 []=.ok (ρ',acc) H'):bL mi cap sg t m ρ H=.ok acc H':=by unfold bL;rw[e,Rs.bind_ok,h]
theorem z2h {S:List Dv->Hs->Rs Dv}{ma mb:M Dv}{v:Dv}{ρ:Ev}{H H1 H2:Hs}(ha:ma ρ H=.ok v H1) (hb:mb ρ H1=.ok v H2) (hs:S [v,v] H2=.ok (.bl true) H2):
  bE (cF (bD (aF S (aA ma (aA mb aC))))) (aR (mC (.bl false))) bQ ρ H=.nx ρ H2:=by
 simp[bE,cF,bD,aF,aA,ha,hb,aC,hs,dZ,bQ]
theorem uR {m:M Dv}{ρ ρ1:Ev}{i:Nat}{H H':Hs}{v:Dv}(e:m ρ H=.ok v H') (hs:aE i v ρ=some ρ1):aM m (aE i) ρ H=.nx ρ1 H':=by simp[aM,e,hs]
theorem gX {f:Dv->Dv->Hs->Rs Dv}{ma mb:M Dv}{ρ:Ev}{H H1 H2 H3:Hs}{x y z:Dv}(ha:ma ρ H=.ok x H1) (hb:mb ρ H1=.ok y H2) (hf:f x y H2=.ok z H3):m2 f ma mb ρ H=.ok z H3:=by unfold m2;rw[ha,Rs.bind_ok,hb,Rs.bind_ok,hf]
end
end L2.Mr.Gen
namespace L2.Mr.Sam
open PySem PySem.Spec PyProof.Rows L2 L2.Mr L2.Mr.Gen
open L2.Mr.Com
section
variable{H:Hs}
theorem E2 {n:Nat}{x:Int}:F_qr (n+1) [.int x,.int x] H=.ok (.bl true) H:=by simp[F_qr,gW,aV,bH,aJ,bE,bD,m1,bC,aB,fU,oX,dZ,bQ,aR,dM,m2,bW,bY,bM,bJ,mJ,bK]
abbrev N9 (n:Nat):M (List Dv):=bL (aS pH (aA (aB 0) (aA (aB 1) aC))) [none,none] (cG 2 (aY (aE 0) (aY (aE 1) cI))) cU (bB (aF (F_qr n) (aA (aB 0) (aA (aB 1) aC))))
theorem OA {n:Nat}{d e:Dv}{src:Src}(zs:List (Dv×Dv)) (hi:aS pH (aA (aB 0) (aA (aB 1) aC)) [some d,some e] H=.ok src H) (hn:src.n=zs.length) (hf:src.fin H=true) (hg:∀k (hk:k<zs.length),src.get k H=some (.tup [zs[k].1,zs[k].2]))
  (hl:zs.length<=1000) (h:∀z∈zs,F_qr n [z.1,z.2] H=.ok (.bl true) H):mL jP (N9 n) [some d,some e] H=.ok (.bl true) H:=by
 have hc:N9 n [some d,some e] H=.ok (zs.filterMap λx=>some (.bl ((λ_=>true) x))) H:=hW zs (λx=>some (.bl ((λ_=>true) x))) (λρ=>∃a b,ρ=[a,b]) hi hn ⟨_,_,rfl⟩ hf (λk hk ρ ⟨a,b,e⟩=>by subst e;refine⟨.tup [zs[k].1,zs[k].2],[some zs[k].1,some zs[k].2],hg k hk,rfl,⟨_,_,rfl⟩,rfl, ?_⟩;have:=h zs[k] (fz hk);simp[aF,aA,aB,aC,this]) (by omega);have hz:=qY hc;have ht:zs.all (λ_=>true)=true:=by simp
 rw[ht]at hz;exact hz
theorem E3 {n:Nat}{xs:List Dv}(hl:xs.length<=1000) (h:∀x∈xs,F_qr n [x,x] H=.ok (.bl true) H):F_qr (n+1) [.tup xs,.tup xs] H=.ok (.bl true) H:=by
 have hz:=OA (H:=H) (n:=n) (d:=.tup xs) (e:=.tup xs) (src:=kZ xs xs) (xs.map λx=>(x,x)) rfl (by simp[kZ,cZ]) rfl (λk hk=>by
  have hk':k<xs.length:=by simpa using hk
  simp[kZ,cZ,hk']) (by simpa using hl) (λz hz=>by
  obtain⟨x,hx,rfl⟩:=cp.mp hz;exact h x hx)
 have e1:bC oX (.tup xs) H=.ok (.bl true) H:=rfl;have e2:bC gJ (.tup xs) H=.ok (.bl true) H:=rfl;have e3:bC mK (.tup xs) H=.ok (.bl false) H:=rfl;have e4:f1 fK [.tup xs] H=.ok (.int xs.length) H:=rfl;have n1:cB (.bl true) (.bl true) H=.ok (.bl false) H:=rfl;have n2:cB (.bl false) (.bl false) H=.ok (.bl false) H:=rfl;have n3:∀i:Int,cB (.int i) (.int i) H=.ok (.bl false) H:=λi=>by simp[cB,bY,bM,bJ]
 simp[F_qr,gW,aV,bH,aJ,bE,bD,m1,aB,e1,e2,e3,dZ,iL,mB,m2,n1,n2,eS,bQ,aF,aA,aC,e4,n3,aR,hz,bK]
theorem OB {n i j:Nat}{xs ys:List Dv}(gi:getL H i=some xs) (gj:getL H j=some ys) (hy:ys.length=xs.length) (hl:xs.length<=1000) (h:∀z∈xs.zip ys,F_qr n [z.1,z.2] H=.ok (.bl true) H):F_qr (n+1) [.ref i,.ref j] H=.ok (.bl true) H:=by
 have hb:pH [.ref i,.ref j] H=.ok (pG i j xs.length ys.length) H:=by simp[pH,gi,gj]
 have hza:lI i j xs.length ys.length H=some (xs.zip ys):=by simp[lI,gi,gj]
 have hz:=OA (H:=H) (n:=n) (d:=.ref i) (e:=.ref j) (src:=pG i j xs.length ys.length) (xs.zip ys) (by simp[aS,aA,aB,aC,hb]) (by simp[pG,hy]) (by simp[pG,hza]) (λk hk=>by simp only[pG,hza,az hk,Option.map_some]) (by simp[hy];omega) h;have e1:bC oX (.ref j) H=.ok (.bl true) H:=by simp[bC,fU,gj,oX]
 have e2:bC gJ (.ref i) H=.ok (.bl false) H:=by simp[bC,fU,gi,gJ]
 have e2':bC gJ (.ref j) H=.ok (.bl false) H:=by simp[bC,fU,gj,gJ]
 have e3:bC mK (.ref i) H=.ok (.bl true) H:=by simp[bC,fU,gi,mK]
 have e3':bC mK (.ref j) H=.ok (.bl true) H:=by simp[bC,fU,gj,mK]
 have e4:f1 fK [.ref i] H=.ok (.int xs.length) H:=by simp[f1,fK,fV,iC,fY,gi]
 have e4':f1 fK [.ref j] H=.ok (.int xs.length) H:=by simp[f1,fK,fV,iC,fY,gj,hy]
 have n1:cB (.bl true) (.bl true) H=.ok (.bl false) H:=rfl;have n2:cB (.bl false) (.bl false) H=.ok (.bl false) H:=rfl;have n3:∀i:Int,cB (.int i) (.int i) H=.ok (.bl false) H:=λi=>by simp[cB,bY,bM,bJ]
 simp[F_qr,gW,aV,bH,aJ,bE,bD,m1,aB,e1,e2,e2',e3,e3',dZ,iL,mB,m2,n1,n2,eS,bQ,aF,aA,aC,e4,e4',n3,aR,hz,bK]
theorem OC {n:Nat}{xs:List Int}(hl:xs.length<=1000):F_qr (n+2) [.tup (xs.map Dv.int),.tup (xs.map Dv.int)] H=.ok (.bl true) H:=E3 (by simpa using hl) λy hy=>by obtain⟨p,_,rfl⟩:=cp.mp hy;exact E2
theorem OD {n i j:Nat}{xs:List Dv}(gi:getL H i=some xs) (gj:getL H j=some xs) (hl:xs.length<=1000) (h:∀x∈xs,F_qr n [x,x] H=.ok (.bl true) H):F_qr (n+1) [.ref i,.ref j] H=.ok (.bl true) H:=
 OB gi gj rfl hl λz hz=>by
  have:z.1∈xs/\z.1=z.2:=by obtain⟨k,hk,e⟩:=jg hz;rw[List.getElem_zip]at e;rw[<-e];exact⟨fz _,rfl⟩
  rw[<-this.2];exact h z.1 this.1
theorem E4 {n i j:Nat}{xs:List Int}(gi:getL H i=some (xs.map Dv.int)) (gj:getL H j=some (xs.map Dv.int)) (hl:xs.length<=1000):F_qr (n+2) [.ref i,.ref j] H=.ok (.bl true) H:=OD gi gj (by simpa using hl) λy hy=>by obtain⟨p,_,rfl⟩:=cp.mp hy;exact E2
theorem z2i {m:Nat}{ps:List (Int×Int)}(hl:ps.length<=900):F_qr 6 [aI m ps,aI m ps] H=.ok (.bl true) H:=by
 refine E3 (n:=5) (xs:=[.int m,.tup (ps.map aG)]) (by simp) λx hx=>?_;simp only[bf,wg,or_false]at hx
 rcases hx with rfl|rfl
 ·exact E2
 ·refine E3 (n:=4) (by simpa using(by omega:ps.length<=1000)) λy hy=>?_;obtain⟨q,_,rfl⟩:=cp.mp hy;exact OC (n:=2) (xs:=[q.1,q.2]) (by simp)
end
end L2.Mr.Sam
namespace L2.Mr.K03
open PySem PySem.Spec PyProof.Rows L2 L2.Mr L2.Mr.Gen
open L2.Mr.Com
open L2.Mr.Sam
open L2.Mr.Cod (dP gO hZ eO cR kS hY)
section
variable{n:Nat}{ps:List (Int×Int)}{H:Hs}{d y:Dv}{x:Int}{ρ:Ev}
theorem need_ok (o:OrdP n ps):F_qp [aI n ps] H=.ok .non H:=Cod.need_ok o
theorem need_bad (h:TK 3 H d) (hb:gB d=false):F_qp [d] H=.ex 0 H:=Cod.need_bad h hb
theorem loose_is {a b:Int}:F_qt [aI n ps,.int a,.int b] H=.ok (.bl (decide (eO ps a b))) H:=Cod.loose_is
theorem z2j (hn:n<=10):F_qi [aI n ps] H=.ok (.ref H.length) (H++[.lst ((dP n ps).map aG)]):=Cod.loose_ok hn
theorem E5 (o:OrdP n ps) (h0:0<=x) (h1:x<n):F_qq [aI n ps,.int x] H=.ok .non H:=by
 have ht:Com.isT (n:Int) x=true:=by simp[Com.isT];omega
 have h:=NS (H:=H) (n:=(n:Int)) (x:=x);rw[ht]at h;have hx:=NQ (n:=n) (ps:=ps) H;have hn:=need_ok (H:=H) o;generalize aI n ps=d at hx hn;simp[F_qq,xZ,aV,bH,aJ,bG,aF,aA,aB,aC,hn,bE,cF,bD,m2,mC,hx,h,dZ,bQ,bK]
theorem E6 (o:OrdP n ps) (h:T0 H y) (hb:Com.tB n y=false):F_qq [aI n ps,y] H=.ex 4 H:=by have h:=N5 (n:=(n:Int)) h;rw[hb]at h;have hx:=NQ (n:=n) (ps:=ps) H;have hn:=need_ok (H:=H) o;generalize aI n ps=d at hx hn;simp[F_qq,xZ,aV,bH,aJ,bG,aF,aA,aB,aC,hn,bE,cF,bD,m2,mC,hx,h,dZ,qD,bK]
theorem z2k (h:TK 3 H d) (hb:gB d=false):F_qq [d,y] H=.ex 0 H:=by simp[F_qq,xZ,aV,bH,aJ,bG,aF,aA,aB,aC,need_bad h hb,bK]
theorem E7 {F:List Dv->Hs->Rs Dv}{N:List Dv->Hs->Rs Dv}{c:Nat}{m:MS}{k:Nat}(hF:F=aV 2 k (aJ (bG (aF N (aA (aB 0) (aA (aB 1) aC)))) m)) (hk:2<=k) {a b:Dv}(e:N [a,b] H=.ex c H):F [a,b] H=.ex c H:=by
 subst hF;obtain⟨j,rfl⟩:∃j,k=j+2:=⟨k - 2,by omega⟩
 simp[aV,bH,aJ,bG,aF,aA,aB,aC,e,bK]
theorem OE {F:List Dv->Hs->Rs Dv}{N:List Dv->Hs->Rs Dv}{c:Nat}{m:MS}{k:Nat}(hF:F=aV 1 k (aJ (bG (aF N (aA (aB 0) aC))) m)) (hk:1<=k) {a:Dv}(e:N [a] H=.ex c H):F [a] H=.ex c H:=by
 subst hF;obtain⟨j,rfl⟩:∃j,k=j+1:=⟨k - 1,by omega⟩
 simp[aV,bH,aJ,bG,aF,aA,aB,aC,e,bK]
theorem OF {a b:Dv}{c:Nat}(e:F_qq [a,b] H=.ex c H):F_qx [a,b] H=.ex c H:=E7 (N:=F_qq) rfl (by decide) e
theorem OG {a b:Dv}{c:Nat}(e:F_qq [a,b] H=.ex c H):F_q2 [a,b] H=.ex c H:=E7 (N:=F_qq) rfl (by decide) e
theorem OH {a b:Dv}{c:Nat}(e:F_qq [a,b] H=.ex c H):F_qo [a,b] H=.ex c H:=E7 (N:=F_qq) rfl (by decide) e
theorem z2l {a:Dv}{c:Nat}(e:F_qp [a] H=.ex c H):F_qh [a] H=.ex c H:=OE (N:=F_qp) rfl (by decide) e
theorem z2m {a:Dv}{c:Nat}(e:F_qp [a] H=.ex c H):F_q3 [a] H=.ex c H:=OE (N:=F_qp) rfl (by decide) e
def rJ (ps:List (Int×Int)) (x:Int):List Int:=ps.filterMap λq=>if q.2=x then some q.1 else none
def rK (ps:List (Int×Int)) (x:Int):List Int:=ps.filterMap λq=>if q.1=x then some q.2 else none
def uS (n:Nat) (ps:List (Int×Int)) (x:Int):List Int:=(ba n).filterMap λk:Nat=>if eO ps x k then some (k:Int)else none
theorem OI {i j:Nat}{a b:Int}(ha:aB i ρ H=.ok (.int a) H) (hb:aB j ρ H=.ok (.int b) H):mB (m2 bW (aB i) (aB j)) ρ H=.ok (decide (a=b)) H:=by
 have:(a==b)=decide (a=b):=by rw[fw];simp
 simp[mB,m2,ha,hb,bW,bY,bM,bJ,this,eS]
theorem z2n {i j:Nat}{a b:Int}(ha:aB i ρ H=.ok (.int a) H) (hb:aB j ρ H=.ok (.int b) H):mB (m2 cB (aB i) (aB j)) ρ H=.ok (!decide (a=b)) H:=by
 have:(a==b)=decide (a=b):=by rw[fw];simp
 simp[mB,m2,ha,hb,cB,bY,bM,bJ,this,eS]
theorem OJ {α:Type}(p:α->Bool) (f:α->Int) (l:List α):(l.filterMap λq=>if p q then some (Dv.int (f q))else none)=(l.filterMap λq=>if p q then some (f q)else none).map Dv.int:=by
 rw[uy]
 congr 1
 funext q
 split <;> rfl
abbrev E8:M (List Dv):=bL (bO dS (m2 aT (aB 0) (mC (.int 1)))) [none,none,some 1] (cG 2 (aY (aE 0) (aY (aE 1) cI))) (mB (m2 bW (aB 1) (aB 2))) (bB (aB 0))
abbrev E9:M (List Dv):=bL (bO dS (m2 aT (aB 0) (mC (.int 1)))) [none,none,some 1] (cG 2 (aY (aE 0) (aY (aE 1) cI))) (mB (m2 bW (aB 0) (aB 2))) (bB (aB 1))
abbrev FA:M (List Dv):=bL (aS cN (aA (m2 aT (aB 0) (mC (.int 0))) aC)) [none,some 0,some 1] (aE 0) (bD (aF F_qt (aA (aB 1) (aA (aB 2) (aA (aB 0) aC))))) (bB (aB 0))
theorem z2o (hl:ps.length<=900):E8 [some (aI n ps),some (.int x)] H=.ok ((rJ ps x).map Dv.int) H:=by
 have h:E8 [some (aI n ps),some (.int x)] H=.ok (ps.filterMap λq=>if decide (q.2=x)then some (.int q.1)else none) H:=
  hW ps (λq=>if decide (q.2=x)then some (.int q.1)else none) (λρ=>∃a b,ρ=[a,b,some (.int x)]) (src:=cZ (ps.map aG)) rfl (by simp[cZ]) ⟨_,_,rfl⟩ rfl (λk hk ρ ⟨a,b,e⟩=>by
   subst e;refine⟨aG ps[k],[some (.int ps[k].1),some (.int ps[k].2),some (.int x)],by simp[cZ,hk],rfl,⟨_,_,rfl⟩, ?_⟩;have t:=OI (H:=H) (ρ:=[some (.int ps[k].1),some (.int ps[k].2),some (.int x)]) (i:=1) (j:=2) rfl rfl
   cases c:decide (ps[k].2=x)with
   |true=>rw[c]at t;exact⟨t,rfl⟩
   |false=>rw[c]at t;exact t) (by omega)
 rw[h,OJ];unfold rJ
 congr 3
 funext q
 simp
theorem z2p (hl:ps.length<=900):E9 [some (aI n ps),some (.int x)] H=.ok ((rK ps x).map Dv.int) H:=by
 have h:E9 [some (aI n ps),some (.int x)] H=.ok (ps.filterMap λq=>if decide (q.1=x)then some (.int q.2)else none) H:=
  hW ps (λq=>if decide (q.1=x)then some (.int q.2)else none) (λρ=>∃a b,ρ=[a,b,some (.int x)]) (src:=cZ (ps.map aG)) rfl (by simp[cZ]) ⟨_,_,rfl⟩ rfl (λk hk ρ ⟨a,b,e⟩=>by
   subst e;refine⟨aG ps[k],[some (.int ps[k].1),some (.int ps[k].2),some (.int x)],by simp[cZ,hk],rfl,⟨_,_,rfl⟩, ?_⟩;have t:=OI (H:=H) (ρ:=[some (.int ps[k].1),some (.int ps[k].2),some (.int x)]) (i:=0) (j:=2) rfl rfl
   cases c:decide (ps[k].1=x)with
   |true=>rw[c]at t;exact⟨t,rfl⟩
   |false=>rw[c]at t;exact t) (by omega)
 rw[h,OJ];unfold rK
 congr 3
 funext q
 simp
theorem z2q {F:List Dv->Hs->Rs Dv}{a b c:Dv}{v:Bool}(ha:aB 1 ρ=λH=>.ok a H) (hb:aB 2 ρ=λH=>.ok b H) (hc:aB 0 ρ=λH=>.ok c H) (e:F [a,b,c] H=.ok (.bl v) H):bD (aF F (aA (aB 1) (aA (aB 2) (aA (aB 0) aC)))) ρ H=.ok v H:=by simp[bD,aF,aA,ha,hb,hc,aC,e,dZ]
theorem z2r (hn:n<=6):FA [some (aI n ps),some (.int x)] H=.ok ((uS n ps x).map Dv.int) H:=by
 have h:FA [some (aI n ps),some (.int x)] H=.ok ((ba n).filterMap λk:Nat=>if decide (eO ps x k)then some (.int (k:Int))else none) H:=
  hW (ba n) (λk:Nat=>if decide (eO ps x k)then some (.int (k:Int))else none) (λρ=>∃a,ρ=[a,some (aI n ps),some (.int x)]) (src:=cA 0 n) (zI (L:=n) rfl (by omega) (by omega)) (by simp[cA]) ⟨_,rfl⟩ rfl (λk hk ρ ⟨a,e⟩=>by
   subst e;refine⟨.int (0+k),[some (.int (0+k)),some (aI n ps),some (.int x)],rfl,rfl,⟨_,rfl⟩, ?_⟩;have h0:(0+(k:Int))=(k:Int):=by omega
   rw[h0,kd];have t:=z2q (ρ:=[some (.int (k:Int)),some (aI n ps),some (.int x)]) rfl rfl rfl (loose_is (n:=n) (ps:=ps) (H:=H) (a:=x) (b:=(k:Int)))
   cases c:decide (eO ps x k)with
   |true=>rw[c]at t;exact⟨t,rfl⟩
   |false=>rw[c]at t;exact t) (by simp;omega)
 rw[h];have:∀l:List Nat,(l.filterMap λk:Nat=>if decide (eO ps x k)then some (Dv.int (k:Int))else none)=(l.filterMap λk:Nat=>if eO ps x k then some (k:Int)else none).map Dv.int:=λl=>by
  induction l with
  |nil=>rfl
  |cons k l ih=>
   rw[bu,bu,ih]
   by_cases c:eO ps x k
   ·rw[if_pos c,if_pos (decide_eq_true c)];rfl
   ·rw[if_neg c,if_neg (by simpa using c)]
 rw[this];rfl
theorem FC {F N:List Dv->Hs->Rs Dv}{C:M (List Dv)}{d y:Dv}{xs:List Dv}(hF:F=aV 2 2 (aJ (bG (aF N (aA (aB 0) (aA (aB 1) aC)))) (aR (bR C)))) (e:N [d,y] H=.ok .non H) (c:C [some d,some y] H=.ok xs H):F [d,y] H=.ok (.ref H.length) (H++[.lst xs]):=by
 subst hF;have ea:bR C [some d,some y] H=.ok (.ref H.length) (H++[.lst xs]):=by unfold bR;rw[c];rfl
 generalize bR C=M at ea;simp[aV,bH,aJ,bG,aF,aA,aB,aC,e,aR,ea,bK]
theorem z2s (o:OrdP n ps) (h0:0<=x) (h1:x<n):F_qx [aI n ps,.int x] H=.ok (.ref H.length) (H++[.lst ((rJ ps x).map Dv.int)]):=FC (N:=F_qq) (C:=E8) rfl (E5 o h0 h1) (z2o (by have:=o.len;omega))
theorem z2t (o:OrdP n ps) (h0:0<=x) (h1:x<n):F_q2 [aI n ps,.int x] H=.ok (.ref H.length) (H++[.lst ((rK ps x).map Dv.int)]):=FC (N:=F_qq) (C:=E9) rfl (E5 o h0 h1) (z2p (by have:=o.len;omega))
theorem z2u (o:OrdP n ps) (h0:0<=x) (h1:x<n):F_qo [aI n ps,.int x] H=.ok (.ref H.length) (H++[.lst ((uS n ps x).map Dv.int)]):=FC (N:=F_qq) (C:=FA) rfl (E5 o h0 h1) (z2r o.n6)
end
section
variable{n:Nat}{ps:List (Int×Int)}{H:Hs}{ns:List Int}
def lU (ps:List (Int×Int)) (a j:Nat):Option Dv:=if decide (eO ps a ((a:Int)+1+j))then some (aG ((a:Int),(a:Int)+1+j))else none
theorem OK (a:Nat):∀k,(ba k).filterMap (lU ps a)=(hZ ps a k).map aG
 |0=>rfl
 |k+1=>by
  rw[tj,List.filterMap_append,OK a k,hZ,gr]
  congr 1
  show(List.filterMap (lU ps a) [k])=_;have ne:(a:Int)≠(a:Int)+1+k:=by omega
  by_cases c1:((a:Int),(a:Int)+1+(k:Int))∈ps
  ·simp[lU,eO,c1]
  ·by_cases c2:((a:Int)+1+(k:Int),(a:Int))∈ps
   ·simp[lU,eO,c1,c2]
   ·have:eO ps a ((a:Int)+1+k):=⟨ne,c1,c2⟩
    simp[lU,this,c1,c2]
theorem OL:∀k,(ba k).flatMap (λa=>(ba (n - (a+1))).filterMap (lU ps a))=(gO n ps k).map aG
 |0=>rfl
 |k+1=>by rw[tj,Bn,OL k,gO,gr];simp[OK]
theorem OM (hn:n<=6):(dP n ps).length<=36:=by
 have hB:∀k,(gO n ps k).length<=k*6:=by
  intro k
  induction k with
  |zero=>exact ao _
  |succ k ih=>rw[gO,bx];have:=Cod.looseB_len ps k (n - (k+1));omega
 have:=hB n;unfold dP;omega
def FD:M (List Dv):=bL (aS cN (aA (aB 1) aC)) [none,none,some 0,some 1] (aE 0) cU (kE (aS gR (aA (m2 bX (aB 0) (mC (.int 1))) (aA (aB 3) aC))) (aE 1) (bD (aF F_qt (aA (aB 2) (aA (aB 0) (aA (aB 1) aC))))) (bB (aL (aA (aB 0) (aA (aB 1) aC)))))
theorem z2v:CO=aJ (bG (aF F_qp (aA (aB 0) aC))) (aJ (aM (m2 aT (aB 0) (mC (.int 0))) (aE 1)) (aR (bR FD))):=rfl
theorem z2w {F:List Dv->Hs->Rs Dv}{a b c:Dv}{ρ:Ev}{v:Bool}(ha:aB 2 ρ=λH=>.ok a H) (hb:aB 0 ρ=λH=>.ok b H) (hc:aB 1 ρ=λH=>.ok c H) (e:F [a,b,c] H=.ok (.bl v) H):bD (aF F (aA (aB 2) (aA (aB 0) (aA (aB 1) aC)))) ρ H=.ok v H:=by simp[bD,aF,aA,ha,hb,hc,aC,e,dZ]
theorem z2x {ma mb:M Dv}{ρ:Ev}{A B:Int}(ea:ma ρ H=.ok (.int A) H) (eb:mb ρ H=.ok (.int B) H) (a0:0<=A) (a1:A<=1000) (b0:0<=B) (b1:B<=1000):aS gR (aA ma (aA mb aC)) ρ H=.ok (cA A B) H:=by
 have h1:iF A=true:=by simp[iF];omega
 have h2:iF B=true:=by simp[iF];omega
 simp[aS,aA,ea,eb,aC,gR,h1,h2]
theorem z2y (hn:n<=6):FD [some (aI n ps),some (.int n)] H=.ok ((dP n ps).map aG) H:=by
 have hr:=OL (n:=n) (ps:=ps) n;have hlen:((ba n).flatMap (λa=>(ba (n - (a+1))).filterMap (lU ps a))).length<=900000:=by rw[hr,bh];have:=OM (ps:=ps) hn;unfold dP at this;omega
 have w:FD [some (aI n ps),some (.int n)] H=.ok ((ba n).flatMap (λa=>(ba (n - (a+1))).filterMap (lU ps a))) H:=
  NO (ba n) (λa=>ba (n - (a+1))) (lU ps) (λρ=>∃x y,ρ=[x,y,some (aI n ps),some (.int n)]) (src:=cA 0 n) (zI rfl (by omega) (by omega)) (by simp[cA]) ⟨_,_,rfl⟩ rfl (λk hk ρ ⟨x,y,e⟩=>by
   subst e;have hk':k<n:=by simpa using hk
   have gk:(ba n)[k]=k:=kd ..;have h00:(0+(k:Int))=(k:Int):=by omega
   refine⟨.int (0+k),[some (.int (0+k)),y,some (aI n ps),some (.int n)],cA ((k:Int)+1) n,λρ=>∃y,ρ=[some (.int (k:Int)),y,some (aI n ps),some (.int n)],rfl,rfl,⟨y,by rw[h00]⟩,λρ ⟨y,e⟩=>⟨_,y,e⟩, ?_, ?_,rfl, ?_⟩
   ·rw[h00];exact z2x (A:=(k:Int)+1) (B:=(n:Int)) rfl rfl (by omega) (by omega) (by omega) (by omega)
   ·rw[gk];simp[cA];omega
   ·intro j hj ρ ⟨y,e⟩;subst e;have gj:(ba (n - ((ba n)[k]+1)))[j]=j:=kd ..;refine⟨.int ((k:Int)+1+j),[some (.int (k:Int)),some (.int ((k:Int)+1+j)),some (aI n ps),some (.int n)],rfl,rfl,⟨_,rfl⟩, ?_⟩;have t:=z2w (ρ:=[some (.int (k:Int)),some (.int ((k:Int)+1+j)),some (aI n ps),some (.int n)]) rfl rfl rfl (loose_is (n:=n) (ps:=ps) (H:=H) (a:=(k:Int)) (b:=(k:Int)+1+j));rw[gj,gk];unfold lU
    cases c:decide (eO ps (k:Int) ((k:Int)+1+j))with
    |true=>rw[c]at t;exact⟨t,rfl⟩
    |false=>rw[c]at t;exact t) hlen
 rw[hr]at w;exact w
theorem z2z (o:OrdP n ps):F_qh [aI n ps] H=.ok (.ref H.length) (H++[.lst ((dP n ps).map aG)]):=by
 have hn:=need_ok (H:=H) o;have w1:bG (aF F_qp (aA (aB 0) aC)) [some (aI n ps),none] H=.nx [some (aI n ps),none] H:=by generalize aI n ps=z at hn;simp[bG,aF,aA,aB,aC,hn]
 have w2:aM (m2 aT (aB 0) (mC (.int 0))) (aE 1) [some (aI n ps),none] H=.nx [some (aI n ps),some (.int n)] H:=rfl;show bK (CO [some (aI n ps),none] H)=_;rw[z2v,bI w1,bI w2];unfold aR bR;rw[z2y o.n6];rfl
end
section
variable{n:Nat}{ps qs:List (Int×Int)}{H:Hs}{ρ:Ev}
theorem z30 (qs:List (Int×Int)):bP lF (qs.map aG)=some (qs.map gA):=by
 induction qs with
 |nil=>rfl
 |cons q qs ih=>simp[bP,ih,aG,lF,iP,gA]
theorem z31 {i:Nat}(g:getL H i=some (qs.map aG)) (hl:qs.length<64):kQ (.ref i) H=.ok (.ref H.length) (H++[.lst ((eI cE qs).map aG)]):=by
 cases qs with
 |nil=>
  have h1:nX (.ref i) H=.ok (.ref H.length) (H++[.lst []]):=by simp[nX,g,bP,jS]
  unfold kQ;rw[h1];rfl
 |cons q qs=>
  have h1:nX (.ref i) H=.bad:=by simp[nX,g,bP,aG,iP]
  have hk:=z30 (q::qs);have hn:pD ((q::qs).map gA)=true:=by unfold pD;rw[fy];intro k hk;obtain⟨z,_,rfl⟩:=cp.mp hk;rfl
  have hs:(eI cJ ((q::qs).map gA)).map pC=(eI cE (q::qs)).map aG:=by rw[KN qO,ni];rfl
  have hl':((q::qs).map gA).length<64:=by simpa using hl
  have h2:qQ (.ref i) H=.ok (.ref H.length) (H++[.lst ((eI cJ ((q::qs).map gA)).map pC)]):=by simp only[qQ,g,hk,hn,decide_eq_true hl',Bool.and_self,if_true]
  unfold kQ;rw[h1];show qQ (.ref i) H=_;rw[h2,hs]
def jH (ps:List (Int×Int)):List (Int×Int):=ps.map λq=>(q.2,q.1)
def rL (mi:M Src):M (List Dv):=bL mi [none,none] (cG 2 (aY (aE 0) (aY (aE 1) cI))) cU (bB (aL (aA (aB 1) (aA (aB 0) aC))))
theorem ON {mi:M Src}(hi:mi ρ H=.ok (cZ (ps.map aG)) H) (hl:ps.length<=900):rL mi ρ H=.ok ((jH ps).map aG) H:=by have h:rL mi ρ H=.ok (ps.filterMap λq=>some (aG (q.2,q.1))) H:=hW ps (λq=>some (aG (q.2,q.1))) (λρ=>∃a b,ρ=[a,b]) hi (by simp[cZ]) ⟨_,_,rfl⟩ rfl (λk hk ρ ⟨a,b,e⟩=>by subst e;exact⟨aG ps[k],[some (.int ps[k].1),some (.int ps[k].2)],by simp[cZ,hk],rfl,⟨_,_,rfl⟩,rfl,rfl⟩) (by omega);rw[h,jH,ni,List.filterMap_eq_map'];rfl
theorem OO {mn ma:M Dv}{i:Nat}{H1:Hs}(h0:mn ρ H=.ok (.int n) H) (ha:ma ρ H=.ok (.ref i) H1) (g:getL H1 i=some (qs.map aG)) (hl:qs.length<64):
  aL (aA mn (aA (aF (f1 hJ) (aA (aF (f1 kQ) (aA ma aC)) aC)) aC)) ρ H=.ok (aI n (eI cE qs)) (H1++[.lst ((eI cE qs).map aG)]):=by
 have s:=z31 g hl;have g2:getL (H1++[Ob.lst ((eI cE qs).map aG)]) H1.length=some ((eI cE qs).map aG):=cR;have t:hJ (.ref H1.length) (H1++[Ob.lst ((eI cE qs).map aG)])=.ok (.tup ((eI cE qs).map aG)) (H1++[Ob.lst ((eI cE qs).map aG)]):=by simp[hJ,g2]
 simp[aL,aA,h0,aF,ha,aC,f1,s,t,lim,aI]
theorem FE (hl:ps.length<=36):(jH ps).length<64:=by simp[jH];omega
theorem z32:CP=aJ (bG (aF F_qp (aA (aB 0) aC))) (aJ (aM (aB 0) (cG 2 (aY (aE 1) (aY (aE 2) cI)))) (aR (aL (aA (aB 1) (aA (aF (f1 hJ) (aA (aF (f1 kQ) (aA (bR (rL (bO dS (aB 2)))) aC)) aC)) aC))))):=rfl
theorem z33 (o:OrdP n ps):∃H',F_q3 [aI n ps] H=.ok (aI n (eI cE (jH ps))) H'/\Fr [] H H':=by
 have hn:=need_ok (H:=H) o;have hl:=o.len;have w1:bG (aF F_qp (aA (aB 0) aC)) [some (aI n ps),none,none] H=.nx [some (aI n ps),none,none] H:=by generalize aI n ps=z at hn;simp[bG,aF,aA,aB,aC,hn]
 have w2:aM (aB 0) (cG 2 (aY (aE 1) (aY (aE 2) cI))) [some (aI n ps),none,none] H=.nx [some (aI n ps),some (.int n),some (.tup (ps.map aG))] H:=rfl;have e:=ON (ps:=ps) (H:=H) (ρ:=[some (aI n ps),some (.int n),some (.tup (ps.map aG))]) (mi:=bO dS (aB 2)) rfl (by omega);have ea:bR (rL (bO dS (aB 2))) [some (aI n ps),some (.int n),some (.tup (ps.map aG))] H=.ok (.ref H.length) (H++[.lst ((jH ps).map aG)]):=by unfold bR;rw[e];rfl
 have t:=OO (n:=n) (ρ:=[some (aI n ps),some (.int n),some (.tup (ps.map aG))]) (mn:=aB 1) rfl ea cR (FE hl);refine⟨H++[Ob.lst ((jH ps).map aG)]++[Ob.lst ((eI cE (jH ps)).map aG)], ?_,Fr.trans (T:=[]) Fr.app Fr.app (by simp)⟩;show bK (CP [some (aI n ps),none,none] H)=_;rw[z32,bI w1,bI w2];unfold aR;rw[t];rfl
def OP:M Dv:=aL (aA (m2 aT (aB 3) (mC (.int 0))) (aA (aF (f1 hJ) (aA (aF (f1 kQ) (aA (bR (rL (bO dS (m2 aT (aB 3) (mC (.int 1)))))) aC)) aC)) aC))
theorem z34 (o:OrdP n ps) (h3:aB 3 ρ=λH=>.ok (aI n ps) H):∃H',OP ρ H=.ok (aI n (eI cE (jH ps))) H'/\Fr [] H H':=by
 have hl:=o.len;have h0:m2 aT (aB 3) (mC (.int 0)) ρ H=.ok (.int n) H:=gX (by rw[h3]) (mb:=mC (.int 0)) rfl rfl;have h1:bO dS (m2 aT (aB 3) (mC (.int 1))) ρ H=.ok (cZ (ps.map aG)) H:=by have:m2 aT (aB 3) (mC (.int 1)) ρ H=.ok (.tup (ps.map aG)) H:=gX (by rw[h3]) (mb:=mC (.int 1)) rfl rfl;unfold bO;rw[this];rfl
 have e:=ON h1 (by omega);have ea:bR (rL (bO dS (m2 aT (aB 3) (mC (.int 1))))) ρ H=.ok (.ref H.length) (H++[.lst ((jH ps).map aG)]):=by unfold bR;rw[e];rfl
 exact⟨_,OO h0 ea cR (FE hl),Fr.trans (T:=[]) Fr.app Fr.app (by simp)⟩
end
section
variable{H:Hs}{ρ:Ev}{mi:M Src}{cap:List (Option Nat)}{t:M Bool}{i:Nat}{xs:List Int}{p:Int->Bool}{r:Ev}
theorem OQ (p:Int->Bool) (xs:List Int):(xs.filterMap λv=>if p v then some (Dv.int v)else none)=(xs.filter p).map Dv.int:=by
 induction xs with
 |nil=>rfl
 |cons v xs ih=>
  rw[bu,List.filter_cons]
  cases c:p v with
  |true=>simp[ih]
  |false=>simp[ih]
theorem OR (hi:mi ρ H=.ok (eC i xs.length) H) (g:getL H i=some (xs.map Dv.int)) (hc:fT cap ρ=none::r) (ht:∀v,t (some (.int v)::r) H=.ok (p v) H) (hl:xs.length<=900):bL mi cap (aE 0) t (bB (aB 0)) ρ H=.ok ((xs.filter p).map Dv.int) H:=by
 have h:bL mi cap (aE 0) t (bB (aB 0)) ρ H=.ok (xs.filterMap λv=>if p v then some (Dv.int v)else none) H:=
  hW xs (λv=>if p v then some (Dv.int v)else none) (λρ=>∃a,ρ=a::r) hi rfl ⟨none,hc⟩ (uL g) (λk hk ρ ⟨a,e⟩=>by
   subst e;refine⟨.int xs[k],some (.int xs[k])::r,uK g hk,rfl,⟨_,rfl⟩, ?_⟩;have t':=ht xs[k]
   cases c:p xs[k]with
   |true=>rw[c]at t';exact⟨t',rfl⟩
   |false=>rw[c]at t';exact t') (by omega)
 rw[h,OQ]
theorem z35 (hi:mi ρ H=.ok (eC i xs.length) H) (g:getL H i=some (xs.map Dv.int)) (hc:fT cap ρ=none::r) (ht:∀v H',Fr [] H H'->∃H'',t (some (.int v)::r) H'=.ok (p v) H''/\Fr [] H' H'') (hl:xs.length<=900):∃H',bL mi cap (aE 0) t (bB (aB 0)) ρ H=.ok ((xs.filter p).map Dv.int) H'/\Fr [] H H':=by
 obtain⟨ρ',H',acc',e,hP⟩:=qM (src:=eC i xs.length) (sg:=aE 0) (t:=t) (m:=bB (aB 0)) (λk ρ' H' acc=>(∃a,ρ'=a::r)/\Fr [] H H'/\acc=((xs.take k).filter p).map Dv.int)
  (λk ρ' H' acc hk ⟨⟨a,e⟩,f,ea⟩=>by
   subst e;have hk':k<xs.length:=hk;obtain⟨H2,t',f2⟩:=ht xs[k] H' f;refine⟨.int xs[k],some (.int xs[k])::r,uK (f.getL g (by simp)) hk',rfl, ?_⟩;have tk:xs.take (k+1)=xs.take k++[xs[k]]:=by rw[vn hk']
   cases c:p xs[k]with
   |false=>rw[c]at t';refine .inl ⟨H2,t',⟨_,rfl⟩,f.trans f2 (by simp), ?_⟩;rw[ea,tk,List.filter_append];simp[c]
   |true=>
    rw[c]at t';have hacc:acc.length<1000000:=by
     rw[ea,bh];have h1:=jn p (xs.take k);have h2:(xs.take k).length<=xs.length:=by simp;omega
     omega
    refine .inr ⟨H2,some (.int xs[k])::r,acc++[.int xs[k]],H2,t', ?_,⟨_,rfl⟩,f.trans f2 (by simp), ?_⟩
    ·show(if acc.length<1000000 then _ else _)=_;rw[if_pos hacc]
    ·rw[ea,tk,List.filter_append];simp[c]) (λρ' H' acc ⟨_,f,_⟩=>uL (f.getL g (by simp))) xs.length 0 (none::r) H [] rfl ⟨⟨_,rfl⟩,Fr.refl,by simp⟩
 obtain⟨_,f,ea⟩:=hP;have ea':acc'=(xs.filter p).map Dv.int:=by rw[ea];show((xs.take xs.length).filter p).map Dv.int=_;rw[List.take_length]
 exact⟨H',E1 (ρ':=ρ') hi (by rw[hc];exact e.trans (by rw[ea'])),f⟩
end
section
variable{n:Nat}{ps:List (Int×Int)}{x:Int}{H:Hs}
def iW (n:Nat) (x:Int):List Int:=((ba n).map λk:Nat=>(k:Int)).filter λv=>!decide (v=x)
def A0 (n:Nat) (ps:List (Int×Int)) (x:Int):List Int:=(iW n x).filter λv=>decide ((v,x)∈ps)
def B0 (n:Nat) (ps:List (Int×Int)) (x:Int):List Int:=(iW n x).filter λv=>decide ((x,v)∈ps)
def C0 (n:Nat) (ps:List (Int×Int)) (x:Int):List Int:=(iW n x).filter λv=>!decide (v∈A0 n ps x++B0 n ps x)
theorem z36 (n:Nat):eV lD ((ba n).map λk:Nat=>(k:Int)):=by refine ql.mpr (sf.imp λh=>?_);simp[lD];omega
theorem FF (n:Nat) (x:Int):eV lD (iW n x):=(z36 n).filter _
theorem zJ {v:Int}:v∈iW n x↔(0<=v/\v<n)/\v≠x:=by
 unfold iW;rw[iq,cp];simp only[bw,vm,decide_eq_false_iff_not];constructor
 ·rintro ⟨⟨k,hk,rfl⟩,h⟩;exact⟨by omega,h⟩
 ·rintro ⟨h,h2⟩;exact⟨⟨v.toNat,by omega,by omega⟩,h2⟩
theorem z37 (o:OrdP n ps):rJ ps x=A0 n ps x:=by
 refine qN BZ ?_ ((FF n x).filter _) λv=>?_
 ·unfold rJ;refine rj.mpr (o.rise.imp λ{a b} h u hu w hw=>?_);have h1:a.2=x/\a.1=u:=by
   by_cases c:a.2=x
   ·simp[c]at hu;exact⟨c,hu⟩
   ·simp[c]at hu
  have h2:b.2=x/\b.1=w:=by
   by_cases c:b.2=x
   ·simp[c]at hw;exact⟨c,hw⟩
   ·simp[c]at hw
  unfold cE at h;rw[h1.1,h2.1,h1.2,h2.2]at h;unfold lD
  by_cases c:u=w
  ·simp[c]at h
  ·have:(u==w)=false:=by simpa using c
   rw[this]at h;simpa using h
 ·unfold A0 rJ;rw[iq,zJ,gq];simp only[decide_eq_true_eq];constructor
  ·rintro ⟨q,hq,e⟩
   by_cases c:q.2=x
   ·simp[c]at e;have r:=o.rng q hq;have i:=o.irr q hq;have hq':(v,x)∈ps:=by rw[<-e,<-c];exact hq
    exact⟨⟨by omega,by rw[<-e,<-c];exact i⟩,hq'⟩
   ·simp[c]at e
  ·rintro ⟨_,h⟩;exact⟨(v,x),h,by simp⟩
theorem z38 (o:OrdP n ps):rK ps x=B0 n ps x:=by
 refine qN BZ ?_ ((FF n x).filter _) λv=>?_
 ·unfold rK;refine rj.mpr (o.rise.imp λ{a b} h u hu w hw=>?_);have h1:a.1=x/\a.2=u:=by
   by_cases c:a.1=x
   ·simp[c]at hu;exact⟨c,hu⟩
   ·simp[c]at hu
  have h2:b.1=x/\b.2=w:=by
   by_cases c:b.1=x
   ·simp[c]at hw;exact⟨c,hw⟩
   ·simp[c]at hw
  unfold cE at h;rw[h1.1,h2.1,h1.2,h2.2]at h;unfold lD;simpa using h
 ·unfold B0 rK;rw[iq,zJ,gq];simp only[decide_eq_true_eq];constructor
  ·rintro ⟨q,hq,e⟩
   by_cases c:q.1=x
   ·simp[c]at e;have r:=o.rng q hq;have i:=o.irr q hq;have hq':(x,v)∈ps:=by rw[<-e,<-c];exact hq
    exact⟨⟨by omega,by rw[<-e,<-c];exact cw i⟩,hq'⟩
   ·simp[c]at e
  ·rintro ⟨_,h⟩;exact⟨(x,v),h,by simp⟩
theorem z39:uS n ps x=C0 n ps x:=by
 refine qN BZ ?_ ((FF n x).filter _) λv=>?_
 ·unfold uS;refine rj.mpr (sf.imp λ{a b} h u hu w hw=>?_);have h1:(a:Int)=u:=by
   by_cases c:eO ps x a
   ·rw[if_pos c]at hu;exact cf hu
   ·rw[if_neg c]at hu;cases hu
  have h2:(b:Int)=w:=by
   by_cases c:eO ps x b
   ·rw[if_pos c]at hw;exact cf hw
   ·rw[if_neg c]at hw;cases hw
  unfold lD;simp;omega
 ·unfold C0 uS A0 B0;rw[iq,zJ,gq];simp only[vm,decide_eq_false_iff_not,dy,iq,zJ,decide_eq_true_eq,bw];constructor
  ·rintro ⟨k,hk,e⟩
   by_cases c:eO ps x k
   ·rw[if_pos c]at e;have e':(k:Int)=v:=cf e;obtain⟨c1,c2,c3⟩:=c;rw[e']at c1 c2 c3;refine⟨⟨by omega,cw c1⟩, ?_⟩
    rintro (⟨_,h⟩|⟨_,h⟩)
    ·exact c3 h
    ·exact c2 h
   ·rw[if_neg c]at e;cases e
  ·rintro ⟨⟨h1,h2⟩,h3⟩
   have ev:((v.toNat:Nat):Int)=v:=by omega
   have c:eO ps x (v.toNat:Nat):=by rw[ev];exact⟨cw h2,λz=>h3 (.inr ⟨⟨h1,h2⟩,z⟩),λz=>h3 (.inl ⟨⟨h1,h2⟩,z⟩)⟩
   exact⟨v.toNat,by omega,by rw[if_pos c,ev]⟩
theorem rM (hn:n<=6):(iW n x).length<=6:=by unfold iW;have:=jn (λv=>!decide (v=x)) ((ba n).map λk:Nat=>(k:Int));simp at this;omega
end
abbrev r2:M (List Dv):=bL (aS cN (aA (aB 2) aC)) [none,some 1] (aE 0) (mB (m2 cB (aB 0) (aB 1))) (bB (aB 0))
abbrev rA:M (List Dv):=bL (bO dD (aB 4)) [none,some 3,some 1] (aE 0) (mB (m2 (dR false) (aL (aA (aB 0) (aA (aB 2) aC))) (aB 1))) (bB (aB 0))
abbrev rB:M (List Dv):=bL (bO dD (aB 4)) [none,some 3,some 1] (aE 0) (mB (m2 (dR false) (aL (aA (aB 2) (aA (aB 0) aC))) (aB 1))) (bB (aB 0))
abbrev rC:M (List Dv):=bL (bO dD (aB 4)) [none,some 5] (aE 0) (mB (m2 (dR true) (aB 0) (m2 bX (m2 aT (aB 1) (mC (.int 0))) (m2 aT (aB 1) (mC (.int 1)))))) (bB (aB 0))
abbrev rF:M Dv:=aU (aA (aF F_qx (aA (aB 0) (aA (aB 1) aC))) (aA (aF F_q2 (aA (aB 0) (aA (aB 1) aC))) (aA (aF F_qo (aA (aB 0) (aA (aB 1) aC))) aC)))
abbrev rI:MS:=bE (cF (bD (aF (F_qr 6) (aA (aB 7) (aA (aB 5) aC))))) (aR (mC (.bl false))) bQ
abbrev rP:MS:=bG (cO (m2 aT (aB 7) (aB 6)) (aB 1))
abbrev rT:MS:=aJ (aM rF (aE 7)) (aJ rI rP)
theorem z3a:CQ=aJ (aM (aB 0) (cG 2 (aY (aE 2) (aY (aE 3) cI)))) (aJ (aM (bR r2) (aE 4)) (aJ (aM (aU (aA (bR rA) (aA (bR rB) aC))) (aE 5)) (aJ (bG (cO (aB 5) (bR rC))) (aJ (dN (aS cN (aA (mC (.int 3)) aC)) (aE 6) rT) (aR (mC (.bl true))))))):=rfl
section
variable{n:Nat}{ps:List (Int×Int)}{x:Int}{H:Hs}{ρ:Ev}
theorem z3b (h2:aB 2 ρ=λH=>.ok (.int n) H) (hc:fT [none,some 1] ρ=[none,some (.int x)]) (hn:n<=6):r2 ρ H=.ok ((iW n x).map Dv.int) H:=by
 have h:r2 ρ H=.ok (((ba n).map λk:Nat=>(k:Int)).filterMap λv=>if !decide (v=x)then some (Dv.int v)else none) H:=
  hW ((ba n).map λk:Nat=>(k:Int)) (λv=>if !decide (v=x)then some (Dv.int v)else none) (λρ=>∃a,ρ=[a,some (.int x)]) (src:=cA 0 n) (zI (by rw[h2]) (by omega) (by omega)) (by simp[cA]) ⟨none,hc⟩ rfl (λk hk ρ ⟨a,e⟩=>by
   subst e;have hk':k<n:=by simpa using hk
   refine⟨.int (0+k),[some (.int (0+k)),some (.int x)],rfl,rfl,⟨_,rfl⟩, ?_⟩;have h0:(0+(k:Int))=(k:Int):=by omega
   rw[h0,List.getElem_map,kd];have t:=z2n (H:=H) (ρ:=[some (.int (k:Int)),some (.int x)]) (i:=0) (j:=1) rfl rfl
   cases c:!decide ((k:Int)=x)with
   |true=>rw[c]at t;exact⟨t,rfl⟩
   |false=>rw[c]at t;exact t) (by simp;omega)
 rw[h,OQ];rfl
theorem zK {i:Nat}{xs:List Dv}(h4:aB 4 ρ=λH=>.ok (.ref i) H) (g:getL H i=some xs):bO dD (aB 4) ρ H=.ok (eC i xs.length) H:=by
 have:dD (.ref i) H=.ok (eC i xs.length) H:=by simp[dD,g]
 unfold bO;rw[h4];exact this
theorem rN {C:M (List Dv)}{xs:List Dv}{H1:Hs}(e:C ρ H=.ok xs H1):bR C ρ H=.ok (.ref H1.length) (H1++[.lst xs]):=by unfold bR;rw[e];rfl
theorem z3c {i:Nat}(h4:aB 4 ρ=λH=>.ok (.ref i) H) (hc:fT [none,some 3,some 1] ρ=[none,some (.tup (ps.map aG)),some (.int x)]) (g:getL H i=some ((iW n x).map Dv.int)) (hn:n<=6):rA ρ H=.ok ((A0 n ps x).map Dv.int) H:=by have hi:=zK h4 g;rw[bh]at hi;have:=rM (x:=x) hn;refine OR hi g hc (λv=>?_) (by omega);have e:=kM false H (v,x) ps;have t:aL (aA (aB 0) (aA (aB 2) aC)) [some (.int v),some (.tup (ps.map aG)),some (.int x)] H=.ok (aG (v,x)) H:=rfl;unfold mB;rw[gX t (mb:=aB 1) rfl e];rfl
theorem z3d {i:Nat}(h4:aB 4 ρ=λH=>.ok (.ref i) H) (hc:fT [none,some 3,some 1] ρ=[none,some (.tup (ps.map aG)),some (.int x)]) (g:getL H i=some ((iW n x).map Dv.int)) (hn:n<=6):rB ρ H=.ok ((B0 n ps x).map Dv.int) H:=by have hi:=zK h4 g;rw[bh]at hi;have:=rM (x:=x) hn;refine OR hi g hc (λv=>?_) (by omega);have e:=kM false H (x,v) ps;have t:aL (aA (aB 2) (aA (aB 0) aC)) [some (.int v),some (.tup (ps.map aG)),some (.int x)] H=.ok (aG (x,v)) H:=rfl;unfold mB;rw[gX t (mb:=aB 1) rfl e];rfl
theorem OS (hn:n<=6):(A0 n ps x).length<=6:=cu (jn _ _) (rM hn)
theorem OT (hn:n<=6):(B0 n ps x).length<=6:=cu (jn _ _) (rM hn)
theorem z3e (hn:n<=6):(C0 n ps x).length<=6:=cu (jn _ _) (rM hn)
theorem z3f {i di ai bi:Nat}(h4:aB 4 ρ=λH=>.ok (.ref i) H) (hc:fT [none,some 5] ρ=[none,some (.ref di)]) (g:getL H i=some ((iW n x).map Dv.int)) (gd:getL H di=some [.ref ai,.ref bi]) (ga:getL H ai=some ((A0 n ps x).map Dv.int)) (gb:getL H bi=some ((B0 n ps x).map Dv.int)) (hn:n<=6):
  ∃H',rC ρ H=.ok ((C0 n ps x).map Dv.int) H'/\Fr [] H H':=by
 have hi:=zK h4 g;rw[bh]at hi;have:=rM (x:=x) hn;refine z35 hi g hc (λv H' f=>?_) (by omega);have gd':=f.getL gd (by simp);have ga':=f.getL ga (by simp);have gb':=f.getL gb (by simp);have x0:=hY (j:=0) gd' (by simp);have x1:=hY (j:=1) gd' (by simp);have e0:m2 aT (aB 1) (mC (.int 0)) [some (.int v),some (.ref di)] H'=.ok (.ref ai) H':=gX (ma:=aB 1) rfl (mb:=mC (.int 0)) rfl x0;have e1:m2 aT (aB 1) (mC (.int 1)) [some (.int v),some (.ref di)] H'=.ok (.ref bi) H':=gX (ma:=aB 1) rfl (mb:=mC (.int 1)) rfl x1;have la:=OS (ps:=ps) (x:=x) hn;have lb:=OT (ps:=ps) (x:=x) hn;have e2:=gX e0 e1 (kS ga' gb' (by simp;omega));have g2:getL (H'++[Ob.lst ((A0 n ps x).map Dv.int++(B0 n ps x).map Dv.int)]) H'.length=some ((A0 n ps x++B0 n ps x).map Dv.int):=by rw[gr];exact cR
 have e3:=gX (ma:=aB 0) (ρ:=[some (.int v),some (.ref di)]) (x:=.int v) rfl e2 (z2g true v g2);refine⟨H'++[Ob.lst ((A0 n ps x).map Dv.int++(B0 n ps x).map Dv.int)], ?_,Fr.app⟩;unfold mB;rw[e3];rfl
structure Due (n:Nat) (ps:List (Int×Int)) (x:Int) (di ai bi ci:Nat) (H:Hs):Prop where
 d:getL H di=some [.ref ai,.ref bi,.ref ci]
 a:getL H ai=some ((A0 n ps x).map Dv.int)
 b:getL H bi=some ((B0 n ps x).map Dv.int)
 c:getL H ci=some ((C0 n ps x).map Dv.int)
theorem Due.fr {di ai bi ci:Nat}{S:List Nat}{H':Hs}(h:Due n ps x di ai bi ci H) (f:Fr S H H') (hs:∀j∈S,H.length<=j):Due n ps x di ai bi ci H':=by
 have key:∀{i:Nat}{xs:List Dv},getL H i=some xs->getL H' i=some xs:=λ{i xs} g=>f.getL g λz=>by have:=hs i z;have:=kL g;omega
 exact⟨key h.d,key h.a,key h.b,key h.c⟩
theorem EF (o:OrdP n ps) (h0:0<=x) (h1:x<n) {di ai bi ci:Nat}(D:Due n ps x di ai bi ci H) {k:Nat}(hk:k<3) {x2 x3 x4 x7:Option Dv}:
  ∃y7 H',rT [some (aI n ps),some (.int x),x2,x3,x4,some (.ref di),some (.int k),x7] H=.nx [some (aI n ps),some (.int x),x2,x3,x4,some (.ref di),some (.int k),y7] H'/\Due n ps x di ai bi ci H'/\Fr [] H H':=by
 have n6:=o.n6;have la:=OS (ps:=ps) (x:=x) n6;have lb:=OT (ps:=ps) (x:=x) n6;have lc:=z3e (ps:=ps) (x:=x) n6;obtain⟨K1,hK1⟩:∃K1,K1=H++[Ob.lst ((A0 n ps x).map Dv.int)]:=⟨_,rfl⟩
 obtain⟨K2,hK2⟩:∃K2,K2=K1++[Ob.lst ((B0 n ps x).map Dv.int)]:=⟨_,rfl⟩
 obtain⟨K3,hK3⟩:∃K3,K3=K2++[Ob.lst ((C0 n ps x).map Dv.int)]:=⟨_,rfl⟩
 obtain⟨K4,hK4⟩:∃K4,K4=K3++[Ob.lst [.ref H.length,.ref K1.length,.ref K2.length]]:=⟨_,rfl⟩
 have ea:=z2s (H:=H) o h0 h1;rw[z37 o,<-hK1]at ea;have eb:=z2t (H:=K1) o h0 h1;rw[z38 o,<-hK2]at eb;have ec:=z2u (H:=K2) o h0 h1;rw[z39,<-hK3]at ec;have f1:Fr [] H K1:=by rw[hK1];exact Fr.app
 have f2:Fr [] K1 K2:=by rw[hK2];exact Fr.app
 have f3:Fr [] K2 K3:=by rw[hK3];exact Fr.app
 have f4:Fr [] K3 K4:=by rw[hK4];exact Fr.app
 have f34:Fr [] K2 K4:=f3.trans f4 (by simp);have f24:Fr [] K1 K4:=f2.trans f34 (by simp);have f14:Fr [] H K4:=f1.trans f24 (by simp);have ga:getL K4 H.length=some ((A0 n ps x).map Dv.int):=f24.getL (by rw[hK1];exact cR) (by simp);have gb:getL K4 K1.length=some ((B0 n ps x).map Dv.int):=f34.getL (by rw[hK2];exact cR) (by simp);have gc:getL K4 K2.length=some ((C0 n ps x).map Dv.int):=f4.getL (by rw[hK3];exact cR) (by simp);have gf:getL K4 K3.length=some [.ref H.length,.ref K1.length,.ref K2.length]:=by rw[hK4];exact cR
 have eF:rF [some (aI n ps),some (.int x),x2,x3,x4,some (.ref di),some (.int k),x7] H=.ok (.ref K3.length) K4:=by
  have a1:aF F_qx (aA (aB 0) (aA (aB 1) aC)) [some (aI n ps),some (.int x),x2,x3,x4,some (.ref di),some (.int k),x7] H=.ok (.ref H.length) K1:=by generalize aI n ps=z at ea;generalize F_qx=F at ea;simp[aF,aA,aB,aC,ea]
  have a2:aF F_q2 (aA (aB 0) (aA (aB 1) aC)) [some (aI n ps),some (.int x),x2,x3,x4,some (.ref di),some (.int k),x7] K1=.ok (.ref K1.length) K2:=by generalize aI n ps=z at eb;generalize F_q2=F at eb;simp[aF,aA,aB,aC,eb]
  have a3:aF F_qo (aA (aB 0) (aA (aB 1) aC)) [some (aI n ps),some (.int x),x2,x3,x4,some (.ref di),some (.int k),x7] K2=.ok (.ref K2.length) K3:=by generalize aI n ps=z at ec;generalize F_qo=F at ec;simp[aF,aA,aB,aC,ec]
  unfold rF;generalize aF F_qx (aA (aB 0) (aA (aB 1) aC))=M1 at a1;generalize aF F_q2 (aA (aB 0) (aA (aB 1) aC))=M2 at a2;generalize aF F_qo (aA (aB 0) (aA (aB 1) aC))=M3 at a3;simp[aU,aA,a1,a2,a3,aC,lim,hK4]
 have w1:aM rF (aE 7) [some (aI n ps),some (.int x),x2,x3,x4,some (.ref di),some (.int k),x7] H=.nx [some (aI n ps),some (.int x),x2,x3,x4,some (.ref di),some (.int k),some (.ref K3.length)] K4:=uR eF rfl;have D4:=D.fr f14 (by simp);have sm:F_qr 6 [.ref K3.length,.ref di] K4=.ok (.bl true) K4:=by
  refine OB (n:=5) gf D4.d rfl (by simp) λz hz=>?_;simp only[ux,List.zip_nil_right,bf,wg,or_false]at hz
  rcases hz with rfl|rfl|rfl
  ·exact E4 (n:=3) ga D4.a (by omega)
  ·exact E4 (n:=3) gb D4.b (by omega)
  ·exact E4 (n:=3) gc D4.c (by omega)
 have w2:rI [some (aI n ps),some (.int x),x2,x3,x4,some (.ref di),some (.int k),some (.ref K3.length)] K4=.nx [some (aI n ps),some (.int x),x2,x3,x4,some (.ref di),some (.int k),some (.ref K3.length)] K4:=by unfold rI;generalize F_qr 6=F at sm;simp[bE,cF,bD,aF,aA,aB,aC,sm,dZ,bQ]
 have hK:∀j ys,getL K4 j=some ys->ys.length<=10->H.length<=j->m2 aT (aB 7) (aB 6) [some (aI n ps),some (.int x),x2,x3,x4,some (.ref di),some (.int k),some (.ref K3.length)] K4=.ok (.ref j) K4->∃y7 H',rT [some (aI n ps),some (.int x),x2,x3,x4,some (.ref di),some (.int k),x7] H=.nx [some (aI n ps),some (.int x),x2,x3,x4,some (.ref di),some (.int k),y7] H'/\Due n ps x di ai bi ci H'/\Fr [] H H':=by
  intro j ys g hl hj e;have hx:ys.length<1000000:=by omega
  have w3:rP [some (aI n ps),some (.int x),x2,x3,x4,some (.ref di),some (.int k),some (.ref K3.length)] K4=.nx [some (aI n ps),some (.int x),x2,x3,x4,some (.ref di),some (.int k),some (.ref K3.length)] (K4.set j (.lst (ys++[.int x]))):=by unfold rP;generalize m2 aT (aB 7) (aB 6)=M at e;simp[bG,cO,e,gS,g,aB,jQ,hx]
  have f5:Fr [j] K4 (K4.set j (.lst (ys++[.int x]))):=Fr.set;have f5':Fr [] H (K4.set j (.lst (ys++[.int x]))):=f14.trans f5 (λz hz=>by simp only[dh]at hz;right;omega);refine⟨some (.ref K3.length),_, ?_,D.fr f5' (by simp),f5'⟩;show aJ (aM rF (aE 7)) (aJ rI rP) _ _=_;rw[bI w1,bI w2,w3]
 have l1:K1.length=H.length+1:=by rw[hK1];simp
 have l2:K2.length=H.length+2:=by rw[hK2];simp[l1]
 match k,hk with
 |0,_=>exact hK _ _ ga (by simp;omega) (ao _) (gX (ma:=aB 7) (mb:=aB 6) rfl rfl (hY (j:=0) gf (by simp)))
 |1,_=>exact hK _ _ gb (by simp;omega) (by omega) (gX (ma:=aB 7) (mb:=aB 6) rfl rfl (hY (j:=1) gf (by simp)))
 |2,_=>exact hK _ _ gc (by simp;omega) (by omega) (gX (ma:=aB 7) (mb:=aB 6) rfl rfl (hY (j:=2) gf (by simp)))
theorem OU (o:OrdP n ps) (h0:0<=x) (h1:x<n) {di ai bi ci:Nat}{x2 x3 x4:Option Dv}:∀(f k:Nat) (x6 x7:Option Dv) (H:Hs),f+k<=3->Due n ps x di ai bi ci H->
  ∃y6 y7 H',gH (cA 0 3) (aE 6) rT f k [some (aI n ps),some (.int x),x2,x3,x4,some (.ref di),x6,x7] H=.nx [some (aI n ps),some (.int x),x2,x3,x4,some (.ref di),y6,y7] H'/\Fr [] H H'
 |0,k,x6,x7,H,_,_=>⟨x6,x7,H,rfl,Fr.refl⟩
 |f+1,k,x6,x7,H,hk,D=>by obtain⟨y7,H1,e1,D1,f1⟩:=EF (x2:=x2) (x3:=x3) (x4:=x4) (x7:=x7) o h0 h1 D (k:=k) (by omega);obtain⟨z6,z7,H2,e2,f2⟩:=OU o h0 h1 (x2:=x2) (x3:=x3) (x4:=x4) f (k+1) (some (.int k)) y7 H1 (by omega) D1;refine⟨z6,z7,H2, ?_,f1.trans f2 (by simp)⟩;rw[<-e2];exact xF (d:=.int k) (ρ1:=[some (aI n ps),some (.int x),x2,x3,x4,some (.ref di),some (.int k),x7]) (by simp[cA]) rfl e1
theorem z3g (o:OrdP n ps) (h0:0<=x) (h1:x<n):∃H',F_qk [aI n ps,.int x] H=.ok (.bl true) H'/\Fr [] H H':=by
 have n6:=o.n6;have w1:aM (aB 0) (cG 2 (aY (aE 2) (aY (aE 3) cI))) [some (aI n ps),some (.int x),none,none,none,none,none,none] H=.nx [some (aI n ps),some (.int x),some (.int n),some (.tup (ps.map aG)),none,none,none,none] H:=rfl;obtain⟨H1,hH1⟩:∃H1,H1=H++[Ob.lst ((iW n x).map Dv.int)]:=⟨_,rfl⟩
 have w2:aM (bR r2) (aE 4) [some (aI n ps),some (.int x),some (.int n),some (.tup (ps.map aG)),none,none,none,none] H=.nx [some (aI n ps),some (.int x),some (.int n),some (.tup (ps.map aG)),some (.ref H.length),none,none,none] H1:=by rw[hH1];exact uR (rN (z3b rfl rfl n6)) rfl
 have f1:Fr [] H H1:=by rw[hH1];exact Fr.app
 have go1:getL H1 H.length=some ((iW n x).map Dv.int):=by rw[hH1];exact cR
 obtain⟨H2,hH2⟩:∃H2,H2=H1++[Ob.lst ((A0 n ps x).map Dv.int)]:=⟨_,rfl⟩
 have f2:Fr [] H1 H2:=by rw[hH2];exact Fr.app
 obtain⟨H3,hH3⟩:∃H3,H3=H2++[Ob.lst ((B0 n ps x).map Dv.int)]:=⟨_,rfl⟩
 have f3:Fr [] H2 H3:=by rw[hH3];exact Fr.app
 obtain⟨H4,hH4⟩:∃H4,H4=H3++[Ob.lst [.ref H1.length,.ref H2.length]]:=⟨_,rfl⟩
 have f4:Fr [] H3 H4:=by rw[hH4];exact Fr.app
 have ea:=rN (z3c (ps:=ps) (H:=H1) (ρ:=[some (aI n ps),some (.int x),some (.int n),some (.tup (ps.map aG)),some (.ref H.length),none,none,none]) rfl rfl go1 n6);rw[<-hH2]at ea;have eb:=rN (z3d (ps:=ps) (H:=H2) (ρ:=[some (aI n ps),some (.int x),some (.int n),some (.tup (ps.map aG)),some (.ref H.length),none,none,none]) rfl rfl (f2.getL go1 (by simp)) n6);rw[<-hH3]at eb;have w3:aM (aU (aA (bR rA) (aA (bR rB) aC))) (aE 5) [some (aI n ps),some (.int x),some (.int n),some (.tup (ps.map aG)),some (.ref H.length),none,none,none] H1=.nx [some (aI n ps),some (.int x),some (.int n),some (.tup (ps.map aG)),some (.ref H.length),some (.ref H3.length),none,none] H4:=by refine uR (v:=.ref H3.length) ?_ rfl;generalize bR rA=M1 at ea;generalize bR rB=M2 at eb;simp[aU,aA,ea,eb,aC,lim,hH4]
 have f24:Fr [] H2 H4:=f3.trans f4 (by simp);have f14:Fr [] H1 H4:=f2.trans f24 (by simp);have go4:=f14.getL go1 (by simp);have ga4:getL H4 H1.length=some ((A0 n ps x).map Dv.int):=f24.getL (by rw[hH2];exact cR) (by simp);have gb4:getL H4 H2.length=some ((B0 n ps x).map Dv.int):=f4.getL (by rw[hH3];exact cR) (by simp);have gd4:getL H4 H3.length=some [.ref H1.length,.ref H2.length]:=by rw[hH4];exact cR
 obtain⟨H5,ec,f5⟩:=z3f (H:=H4) (ρ:=[some (aI n ps),some (.int x),some (.int n),some (.tup (ps.map aG)),some (.ref H.length),some (.ref H3.length),none,none]) rfl rfl go4 gd4 ga4 gb4 n6;have ec':=rN ec;obtain⟨H6,hH6⟩:∃H6,H6=H5++[Ob.lst ((C0 n ps x).map Dv.int)]:=⟨_,rfl⟩
 rw[<-hH6]at ec';have f6:Fr [] H5 H6:=by rw[hH6];exact Fr.app
 have f46:Fr [] H4 H6:=f5.trans f6 (by simp);have gd6:=f46.getL gd4 (by simp);have l4:=kL gd4;have l5:H4.length<=H5.length:=f5.le;have w4:bG (cO (aB 5) (bR rC)) [some (aI n ps),some (.int x),some (.int n),some (.tup (ps.map aG)),some (.ref H.length),some (.ref H3.length),none,none] H4=.nx [some (aI n ps),some (.int x),some (.int n),some (.tup (ps.map aG)),some (.ref H.length),some (.ref H3.length),none,none] (H6.set H3.length (.lst [.ref H1.length,.ref H2.length,.ref H5.length])):=by generalize bR rC=M at ec';simp[bG,cO,aB,gS,gd4,ec',jQ,gd6]
 have f7:Fr [H3.length] H6 (H6.set H3.length (.lst [.ref H1.length,.ref H2.length,.ref H5.length])):=Fr.set;have l1:H1.length<H3.length:=by rw[hH3,hH2];simp
 have l2:H2.length<H3.length:=by rw[hH3];simp
 have D:Due n ps x H3.length H1.length H2.length H5.length (H6.set H3.length (.lst [.ref H1.length,.ref H2.length,.ref H5.length])):=⟨lB gd6,f7.getL (f46.getL ga4 (by simp)) (by simp;omega),f7.getL (f46.getL gb4 (by simp)) (by simp;omega),f7.getL (by rw[hH6];exact cR) (by simp;omega)⟩
 obtain⟨y6,y7,H8,e8,f8⟩:=OU o h0 h1 (x2:=some (.int n)) (x3:=some (.tup (ps.map aG))) (x4:=some (.ref H.length)) 3 0 none none _ (by omega) D;have w5:dN (aS cN (aA (mC (.int 3)) aC)) (aE 6) rT [some (aI n ps),some (.int x),some (.int n),some (.tup (ps.map aG)),some (.ref H.length),some (.ref H3.length),none,none] (H6.set H3.length (.lst [.ref H1.length,.ref H2.length,.ref H5.length]))=.nx [some (aI n ps),some (.int x),some (.int n),some (.tup (ps.map aG)),some (.ref H.length),some (.ref H3.length),y6,y7] H8:=(xE (src:=cA 0 3) rfl).trans e8;have hle:H.length<=H3.length:=by have:=f1.le;omega
 have fa:Fr [] H (H6.set H3.length (.lst [.ref H1.length,.ref H2.length,.ref H5.length])):=((f1.trans f14 (by simp)).trans f46 (by simp)).trans f7 (λz hz=>by simp only[dh]at hz;right;omega);refine⟨H8, ?_,fa.trans f8 (by simp)⟩;show bK (CQ [some (aI n ps),some (.int x),none,none,none,none,none,none] H)=_;rw[z3a,bI w1,bI w2,bI w3,bI w4,bI w5];rfl
end
open L2.Mr.Cod (cR kS hY)
def rq (a b c:Nat):List Dv:=[.bl (a==c),.bl (a+1==c),.bl (a+2==c)].take b
def rs1:M (List Dv):=(aA (m1 (bC (eG none tbl0)) (aB 1)) (aA (m1 (bC (eG none tbl1)) (aB 1)) (aA (m1 (bC (eG none tbl2)) (aB 1)) aC)))
def rs2:M (List Dv):=(aA (m1 (bC (eG none tbl3)) (aB 1)) (aA (m1 (bC (eG none tbl4)) (aB 1)) (aA (m1 (bC (eG none tbl5)) (aB 1)) aC)))
def rs3:M (List Dv):=(aA (m1 (bC (eG none tbl6)) (aB 1)) (aA (m1 (bC (eG none tbl7)) (aB 1)) (aA (m1 (bC (eG none tbl8)) (aB 1)) aC)))
def oK:M (List Dv):=(aA (m1 (bC (eG none tbl9)) (aB 1)) (aA (m1 (bC (eG none tbl10)) (aB 1)) aC))
def zL:M (List Dv):=bL (aS cN (aA (mC (.int 11)) aC)) [none,some 3] (aE 0) (bD (m2 aT (aB 1) (aB 0))) (bB (aB 0))
def OV:MS:=bE (cF (bD (m1 (bC (eG none tblV)) (aB 1)))) (aR (mC .non)) bQ
theorem z3h:eM=aJ (aM (aU rs1) (aE 3)) (aJ (aM (m2 bX (aB 3) (aU rs2)) (aE 3)) (aJ (aM (m2 bX (aB 3) (aU rs3)) (aE 3)) (aJ (aM (m2 bX (aB 3) (aU oK)) (aE 3)) (aJ OV (aR (bR zL)))))):=rfl
section
variable{c:Nat}(hc:c=0∨c=4) {H:Hs}{x0 x2 x3:Option Dv}
include hc
theorem z3i:aU rs1 [x0,some (.exc c),x2,x3] H=.ok (.ref H.length) (H++[.lst (rq 0 3 c)]):=by rcases hc with rfl|rfl <;> rfl
theorem z3j:aU rs2 [x0,some (.exc c),x2,x3] H=.ok (.ref H.length) (H++[.lst (rq 3 3 c)]):=by rcases hc with rfl|rfl <;> rfl
theorem z3k:aU rs3 [x0,some (.exc c),x2,x3] H=.ok (.ref H.length) (H++[.lst (rq 6 3 c)]):=by rcases hc with rfl|rfl <;> rfl
theorem z3l:aU oK [x0,some (.exc c),x2,x3] H=.ok (.ref H.length) (H++[.lst (rq 9 2 c)]):=by rcases hc with rfl|rfl <;> rfl
theorem z3m:OV [x0,some (.exc c),x2,x3] H=.nx [x0,some (.exc c),x2,x3] H:=by rcases hc with rfl|rfl <;> rfl
theorem z3n {i:Nat}(e:getL H i=some ((ba 11).map λk=>Dv.bl (k==c))):zL [x0,some (.exc c),x2,some (.ref i)] H=.ok [.int c] H:=by
 have h:zL [x0,some (.exc c),x2,some (.ref i)] H=.ok ((ba 11).filterMap λk=>if k==c then some (.int k)else none) H:=
  hW (ba 11) (λk=>if k==c then some (.int (k:Nat))else none) (λρ=>∃a,ρ=[a,some (.ref i)]) (src:=cA 0 11) rfl rfl ⟨_,rfl⟩ rfl (λk hk ρ ⟨a,e'⟩=>by
   subst e';have hk':k<11:=by simpa using hk
   refine⟨.int (0+k),[some (.int (0+k)),some (.ref i)],rfl,rfl,⟨_,rfl⟩, ?_⟩;have ht:=hY (H:=H) (j:=k) e (by simpa using hk');rw[List.getElem_map,kd]at ht;have h0:(0+(k:Int))=(k:Int):=by omega
   rw[h0,kd]
   cases q:k==c with
   |true=>simp[bD,m2,aB,ht,q,dZ]
   |false=>simp[bD,m2,aB,ht,q,dZ]) (by simp)
 rw[h]
 rcases hc with rfl|rfl <;> rfl
theorem z3o:∃i H',tE 4 11 eM (.ex c H)=.ok (.ref i) H'/\getL H' i=some [.int c]/\Fr [] H H':=by
 obtain⟨H1,hH1⟩:∃H1,H1=H++[Ob.lst (rq 0 3 c)]:=⟨_,rfl⟩
 have g1:getL H1 H.length=some (rq 0 3 c):=by rw[hH1];exact cR
 have f1:Fr [] H H1:=by rw[hH1];exact Fr.app
 have w1:∀x0 x2 x3,aM (aU rs1) (aE 3) [x0,some (.exc c),x2,x3] H=.nx [x0,some (.exc c),x2,some (.ref H.length)] H1:=λx0 x2 x3=>by unfold aM;rw[z3i hc,hH1];rfl
 have step:∀(G0:Hs) (i:Nat) (xs ys:List Dv) (m:M (List Dv)),getL G0 i=some xs->(∀x0 x2 x3 (G:Hs),aU m [x0,some (.exc c),x2,x3] G=.ok (.ref G.length) (G++[.lst ys]))->xs.length+ys.length<=500->
   ∃G' j,(∀x0 x2,aM (m2 bX (aB 3) (aU m)) (aE 3) [x0,some (.exc c),x2,some (.ref i)] G0=.nx [x0,some (.exc c),x2,some (.ref j)] G')/\getL G' j=some (xs++ys)/\Fr [] G0 G':=by
  intro G0 i xs ys m e hm hl;refine⟨_,_,λx0 x2=>?_,cR (H:=G0++[.lst ys]) (x:=xs++ys),Fr.trans (T:=[]) Fr.app Fr.app (by simp)⟩;have a:=kS (H:=G0++[.lst ys]) (iR e) (cR (H:=G0) (x:=ys)) hl;unfold aM;rw[EZ rfl (hm _ _ _ _) a];rfl
 obtain⟨H2,i2,w2,g2,f2⟩:=step H1 H.length (rq 0 3 c) (rq 3 3 c) rs2 g1 (λ_ _ _ _=>z3j hc) (by simp[rq]);obtain⟨H3,i3,w3,g3,f3⟩:=step H2 i2 _ (rq 6 3 c) rs3 g2 (λ_ _ _ _=>z3k hc) (by simp[rq]);obtain⟨H4,i4,w4,g4,f4⟩:=step H3 i3 _ (rq 9 2 c) oK g3 (λ_ _ _ _=>z3l hc) (by simp[rq]);have g5':getL H4 i4=some ((ba 11).map λk=>Dv.bl (k==c)):=by rw[g4];rfl
 refine⟨H4.length,H4++[.lst [.int c]], ?_,cR,((f1.trans f2 (by simp)).trans f3 (by simp)).trans (T:=[]) (f4.trans (T:=[]) Fr.app (by simp)) (by simp)⟩;have hlt:c<11:=by omega
 show(if c<11 then tD (eM (nK 4 (.exc c)) H)else .bad)=_;rw[if_pos hlt,z3h];show tD (aJ _ _ [none,some (.exc c),none,none] H)=_;rw[bI (w1 _ _ _),bI (w2 _ _),bI (w3 _ _),bI (w4 _ _),bI (z3m hc)];have hr:bR zL [none,some (.exc c),none,some (.ref i4)] H4=.ok (.ref H4.length) (H4++[.lst [.int c]]):=by unfold bR;rw[z3n hc g5'];rfl
 unfold aR;rw[hr];rfl
end
theorem z3p {ρ:Ev}{H H':Hs}{ds:List Dv}(e:uO ρ H=.ok ds H'):∀x∈ds,gB x=false:=by
 have e2:Rs.ok _ _=Rs.ok ds H':=e;injection e2 with e3 e4;subst e3
 repeat' (first|exact uj _|refine ud.mpr ⟨rfl, ?_⟩)
theorem z3q {ρ:Ev}{H H':Hs}{ds:List Dv}(e:uP ρ H=.ok ds H'):∀x∈ds,gB x=false:=by
 have e2:Rs.ok _ _=Rs.ok ds H':=e;injection e2 with e3 e4;subst e3
 repeat' (first|exact uj _|refine ud.mpr ⟨rfl, ?_⟩)
theorem z3r {ρ:Ev}{H H':Hs}{ds:List Dv}(e:uQ ρ H=.ok ds H'):∀x∈ds,gB x=false:=by
 have e2:Rs.ok _ _=Rs.ok ds H':=e;injection e2 with e3 e4;subst e3
 repeat' (first|exact uj _|refine ud.mpr ⟨rfl, ?_⟩)
def MnB (n:Nat) (H:Hs) (i:Nat):Prop:=∃ds,getL H i=some ds/\ds.length=n/\(∀x∈ds,TK 3 H x)/\∀x∈ds,gB x=false
section
variable{n m:Nat}{H H':Hs}{i j:Nat}
theorem MnB.fr0 (h:MnB n H i) (f:Fr [] H H'):MnB n H' i:=by obtain⟨ds,e,l,t,b⟩:=h;exact⟨ds,f.getL e (by simp),l,λx hx=>(t x hx).fr0 f,b⟩
theorem MnB.fr {st:Nat}(h:MnB n H i) (f:Fr [st] H H') (s:Com.St st H') (hi:i≠st):MnB n H' i:=by obtain⟨ds,e,l,t,b⟩:=h;exact⟨ds,f.getL e (by simpa using hi),l,λx hx=>(t x hx).fr f s,b⟩
theorem FG {ms:M (List Dv)}{ρ:Ev}(h:lT (λ_ _=>True) 3 n ms) (hb:∀{ρ:Ev}{H H':Hs}{ds:List Dv},ms ρ H=.ok ds H'->∀x∈ds,gB x=false) (hn:n<=500):∃i H',aU ms ρ H=.ok (.ref i) H'/\MnB n H' i/\Fr [] H H'/\H.length<=i:=by obtain⟨ds,H1,e1,f1,l1,t1⟩:=h ρ H trivial;refine⟨H1.length,H1++[.lst ds], ?_,⟨ds,cR,l1,λx hx=>(t1 x hx).fr0 Fr.app,hb e1⟩,f1.trans (T:=[]) Fr.app (by simp),f1.le⟩;unfold aU lim;rw[e1,Rs.bind_ok,if_pos (by omega)]
theorem OW (a:MnB n H i) (b:MnB m H j) (hn:n+m<=500):∃H',bX (.ref i) (.ref j) H=.ok (.ref H.length) H'/\MnB (n+m) H' H.length/\Fr [] H H':=by
 obtain⟨ds,e1,l1,t1,b1⟩:=a;obtain⟨es,e2,l2,t2,b2⟩:=b;refine⟨_,kS e1 e2 (by omega),⟨ds++es,cR,by simp[l1,l2],λx hx=>?_,λx hx=>?_⟩,Fr.app⟩
 ·rcases dy.mp hx with hx|hx
  ·exact(t1 x hx).fr0 Fr.app
  ·exact(t2 x hx).fr0 Fr.app
 ·rcases dy.mp hx with hx|hx
  ·exact b1 x hx
  ·exact b2 x hx
end
theorem z3s {st:Nat}{H:Hs}(s:Com.St st H):∃d H',F_qb [.ref st] H=.ok d H'/\TK 3 H' d/\gB d=false/\Com.St st H'/\Fr [st] H H':=by
 have hP:N7 λ_ _=>True:=λ_ _ _ _ _=>trivial;have lt:=s.lt;have k1:lT (λ_ _=>True) 3 10 uO:=(by
   unfold uO
   repeat' (first|exact EO|apply ER hP|exact ES|exact ET|exact EU|exact EV|exact EW|apply zH|apply EX|apply EY)
   all_goals decide)
 have k2:lT (λ_ _=>True) 3 6 uP:=(by
   unfold uP
   repeat' (first|exact EO|apply ER hP|exact ES|exact ET|exact EU|exact EV|exact EW|apply zH|apply EX|apply EY)
   all_goals decide)
 have k3:lT (λ_ _=>True) 3 8 uQ:=(by
   unfold uQ
   repeat' (first|exact EO|apply ER hP|exact ES|exact ET|exact EU|exact EV|exact EW|apply zH|apply EX|apply EY)
   all_goals decide)
 obtain⟨i1,H1,e1,m1,f1,l1⟩:=FG (ρ:=[some (.ref st),none]) (H:=H) k1 z3p (by decide);obtain⟨j2,H2,e2,m2',f2,l2⟩:=FG (ρ:=[some (.ref st),some (.ref i1)]) (H:=H1) k2 z3q (by decide);obtain⟨H3,e3,m3,f3⟩:=OW (m1.fr0 f2) m2' (by decide);obtain⟨j4,H4,e4,m4,f4,l4⟩:=FG (ρ:=[some (.ref st),some (.ref H2.length)]) (H:=H3) k3 z3r (by decide);obtain⟨H5,e5,m5,f5⟩:=OW (m3.fr0 f4) m4 (by decide);have g:Fr [] H H5:=(((f1.trans f2 (by simp)).trans f3 (by simp)).trans f4 (by simp)).trans f5 (by simp);obtain⟨r,H6,r0,r1,t6,f6,s6⟩:=mS 24 (s.fr g (by simp));have hle:H.length<=H4.length:=((f1.trans (f2.trans (f3.trans f4 (by simp)) (by simp)) (by simp)):Fr [] H H4).le;obtain⟨ds,e7,l7,t7,b7⟩:=m5.fr f6 s6 (by omega);obtain⟨j,rfl⟩:∃j:Nat,r=j:=⟨r.toNat,by omega⟩
 have hj:j<ds.length:=by omega
 have e8:=hY e7 hj;refine⟨ds[j],H6, ?_,t7 _ (fz hj),b7 _ (fz hj),s6,(g.mono (T:=[st]) (by simp)).trans f6 (by simp)⟩;show bK (iU [some (.ref st),none] H)=_;have w1:aM (aU uO) (aE 1) [some (.ref st),none] H=.nx [some (.ref st),some (.ref i1)] H1:=by unfold aM;rw[e1];rfl
 have w2:aM (L2.Mr.m2 bX (aB 1) (aU uP)) (aE 1) [some (.ref st),some (.ref i1)] H1=.nx [some (.ref st),some (.ref H2.length)] H3:=by unfold aM;rw[EZ rfl e2 e3];rfl
 have w3:aM (L2.Mr.m2 bX (aB 1) (aU uQ)) (aE 1) [some (.ref st),some (.ref H2.length)] H3=.nx [some (.ref st),some (.ref H4.length)] H5:=by unfold aM;rw[EZ rfl e4 e5];rfl
 rw[z2d,bI w1,bI w2,bI w3];simp[aR,L2.Mr.m2,aB,aF,aA,mC,aC,t6,e8,bK]
def Calls (p t:Nat) (ks:List Nat) (H:Hs):Prop:=∃js:List Nat,getL H p=some (js.map Dv.ref)/\js.map (fW H)=ks.map λk=>some (k,t)
section
variable{H H':Hs}{ρ:Ev}{p t k c:Nat}{ks js:List Nat}
theorem zM {S:List Nat}{j:Nat}{q:Nat×Nat}(e:fW H j=some q) (f:Fr S H H') (h:j∉S):fW H' j=some q:=by
 unfold fW at e ⊢;have hj:j<H.length:=by
  cases z:H[j]? with
  |none=>rw[z]at e;cases e
  |some o=>exact(bc.mp z).1
 rw[f.at_ j hj h];exact e
theorem z3t {j:Nat}{q:Nat×Nat}(e:fW H j=some q):getL H j=none:=by
 unfold fW at e;unfold getL
 split at e
 ·rename_i k t h;rw[h]
 ·cases e
theorem OX {S:List Nat}(e:js.map (fW H)=ks.map λk=>some (k,t)) (f:Fr S H H') (h:∀j∈js,j∉S):js.map (fW H')=ks.map λk=>some (k,t):=by
 rw[<-e];refine Bm λj hj=>?_;have hs:∃q,fW H j=some q:=by
  have hm:fW H j∈ks.map λk=>some (k,t):=by rw[<-e];exact Bo hj
  obtain⟨k,_,e2⟩:=cp.mp hm;exact⟨_,e2.symm⟩
 obtain⟨q,hq⟩:=hs;rw[hq,zM hq f (h j hj)]
theorem Calls.cap (h:Calls p t ks H):∃js:List Nat,getL H p=some (js.map Dv.ref)/\js.map (fW H)=(ks.map λk=>some (k,t))/\js.length=ks.length:=by obtain⟨js,g,e⟩:=h;exact⟨js,g,e,by have:=congrArg qg e;simpa using this⟩
theorem FH:fW (H++[.clo k t]) H.length=some (k,t):=by simp[fW]
theorem OY (ht:t<=H.length) (h4:4<ρ.length):∃H',aM (aU (aA (eJ k t) aC)) (aE 4) ρ H=.nx (ρ.set 4 (some (.ref (H.length+1)))) H'/\Calls (H.length+1) t [k] H'/\Fr [] H H':=by
 refine⟨(H++[.clo k t])++[.lst [.ref H.length]], ?_,⟨[H.length], ?_, ?_⟩,Fr.trans (T:=[]) Fr.app Fr.app (by simp)⟩
 ·have e:aU (aA (eJ k t) aC) ρ H=.ok (.ref (H.length+1)) ((H++[.clo k t])++[.lst [.ref H.length]]):=by simp[aU,aA,eJ,ht,aC,lim]
  exact uR e rfl
 ·have:(H++[Ob.clo k t]).length=H.length+1:=by simp
  rw[<-this];exact cR
 ·simp only[cy,vh];rw[zM FH (Fr.app (S:=[])) (by simp)]
theorem rO (ht:t<=H.length) (h4:aB 4 ρ=λH=>.ok (.ref p) H) (h:Calls p t ks H) (hl:ks.length<=100):∃H',bG (cO (aB 4) (eJ k t)) ρ H=.nx ρ H'/\Calls p t (ks++[k]) H'/\Fr [p] H H':=by
 obtain⟨js,g,e,le⟩:=h.cap;have g1:getL (H++[Ob.clo k t]) p=some (js.map Dv.ref):=iR g;have hx:(js.map Dv.ref).length<1000000:=by simp;omega
 have f1:Fr [] H (H++[Ob.clo k t]):=Fr.app;have f2:Fr [p] (H++[Ob.clo k t]) ((H++[Ob.clo k t]).set p (.lst (js.map Dv.ref++[.ref H.length]))):=Fr.set;have e1:=OX e f1 (by simp);have np:∀j,(∃q,fW (H++[Ob.clo k t]) j=some q)->j∉[p]:=λj ⟨q,hq⟩ z=>by simp only[dh]at z;subst z;rw[z3t hq]at g1;cases g1
 refine⟨_, ?_,⟨js++[H.length], ?_, ?_⟩,(f1.mono (T:=[p]) (by simp)).trans f2 (by simp)⟩
 ·simp only[bG,cO,h4,Rs.bind_ok,gS,g,Az,if_true,eJ,ht,jQ,g1,hx,Rs.thenS_ok]
 ·rw[gr];exact lB g1
 ·rw[gr,gr]
  congr 1
  ·refine OX e1 f2 λj hj=>np j ?_;have hm:fW (H++[Ob.clo k t]) j∈ks.map λk=>some (k,t):=by rw[<-e1];exact Bo hj
   obtain⟨k',_,e2⟩:=cp.mp hm;exact⟨_,e2.symm⟩
  ·simp only[cy,vh];rw[zM FH f2 (np _ ⟨_,FH⟩)]
def zN (ρ:Ev) (c:Nat) (H:Hs) (k:Nat):Prop:=∃caps me ds,iV k=some (caps,me)/\nL caps ρ=some ds/\∀H',Fr [] H H'->me (ds.map some) H'=.ex c H'
theorem z3u (hc:c=0∨c=4) (h4:aB 4 ρ=λH=>.ok (.ref p) H) (h:Calls p t ks H) (hr:∀k∈ks,zN ρ c H k) (hl:ks.length<=100):
  ∃(rs:List Nat) (H':Hs),nZ (bO dD (aB 4)) iV t 4 11 eM ρ H=.ok (rs.map Dv.ref) H'/\Fr [] H H'/\rs.length=ks.length/\∀r∈rs,getL H' r=some [.int c]:=by
 obtain⟨js,g,e,le⟩:=h.cap;have hi:bO dD (aB 4) ρ H=.ok (eC p js.length) H:=by have:=zK h4 g;rwa [bh]at this
 obtain⟨ρ',H',acc',ec,hP⟩:=qM (src:=eC p js.length) (sg:=aE 0) (t:=cU) (m:=bB (kR iV t 4 11 eM ρ)) (λk ρ' H' acc=>(∃a,ρ'=[a])/\Fr [] H H'/\∃rs:List Nat,acc=rs.map Dv.ref/\rs.length=k/\∀r∈rs,getL H' r=some [.int c])
  (λk ρ' H' acc hk ⟨⟨a,ea⟩,f,rs,eacc,el,er⟩=>by
   subst ea;have hk':k<js.length:=hk;refine⟨.ref js[k],[some (.ref js[k])],uK (f.getL g (by simp)) hk',rfl,.inr ?_⟩;have hkk:k<ks.length:=by omega
   have ej:fW H js[k]=some (ks[k],t):=by
    have h1:(js.map (fW H))[k]?=some (fW H js[k]):=by rw[df,az hk'];rfl
    rw[e,df,az hkk]at h1;exact(cf h1).symm
   obtain⟨caps,me,ds,l1,l2,l3⟩:=hr ks[k] (fz hkk);have ej':=zM ej f (by simp);obtain⟨i,H2,e2,g2,f2⟩:=z3o hc (H:=H');have em:kR iV t 4 11 eM ρ [some (.ref js[k])] H'=.ok (.ref i) H2:=by
    have:kR iV t 4 11 eM ρ [some (.ref js[k])] H'=tE 4 11 eM (me (ds.map some) H'):=by simp[kR,ej',l1,l2]
    rw[this,l3 H' f,e2]
   have hacc:acc.length<1000000:=by rw[eacc,bh];omega
   refine⟨H',[some (.ref js[k])],acc++[.ref i],H2,rfl, ?_,⟨_,rfl⟩,f.trans f2 (by simp),rs++[i],by rw[eacc];simp,by simp[el],λr hr=>?_⟩
   ·unfold bB;rw[em];exact if_pos hacc
   ·rcases dy.mp hr with hr|hr
    ·exact f2.getL (er r hr) (by simp)
    ·simp only[dh]at hr;subst hr;exact g2) (λρ' H' acc ⟨_,f,_⟩=>uL (f.getL g (by simp))) js.length 0 [none] H [] rfl ⟨⟨_,rfl⟩,Fr.refl,[],rfl,rfl,by simp⟩
 obtain⟨_,f,rs,eacc,el,er⟩:=hP;refine⟨rs,H', ?_,f, ?_,er⟩
 ·show bL (bO dD (aB 4)) [none] (aE 0) cU (bB (kR iV t 4 11 eM ρ)) ρ H=_;exact E1 (ρ':=ρ') hi (by show eE (eC p js.length) (aE 0) cU (bB (kR iV t 4 11 eM ρ)) js.length 0 [none] H []=_;rw[ec,eacc])
 ·have:(eC p js.length).n=js.length:=rfl;omega
theorem zO {m i:Nat}{xs:List Dv}{ts:List Dt}(g:getL H i=some xs) (h:bP (bM m H) xs=some ts):bM (m+1) H (.ref i)=some (.lst ts):=by unfold bM;dsimp only;rw[g];dsimp only;rw[h]
theorem OZ {rs:List Nat}(m:Nat) (h:∀r∈rs,getL H r=some [.int c]):bP (bM (m+2) H) (rs.map Dv.ref)=some (br rs.length (.lst [.int c])):=by
 induction rs with
 |nil=>rfl
 |cons r rs ih=>
  have h1:bM (m+2) H (.ref r)=some (.lst [.int c]):=by simp[bM,h r (bo ..),bP]
  rw[cy,bP,h1,ih λr hr=>h r (ax _ hr)];rfl
theorem z3v (m:Nat) (a:Dt) (h:bJ a a=true):fX (br m a) (br m a)=true:=by
 induction m with
 |zero=>rfl
 |succ m ih=>rw[gz,fX,h,ih];rfl
abbrev mU (c n:Int):M Dv:=m2 nV (aU (aA (aU (aA (mC (.int c)) aC)) aC)) (mC (.int n))
theorem z3w {n:Nat}(hn:n<=100):∃(L:Nat) (H':Hs),mU c n ρ H=.ok (.ref L) H'/\Fr [] H H'/\bM bY H' (.ref L)=some (.lst (br n (.lst [.int c]))):=by
 obtain⟨H1,hH1⟩:∃H1,H1=H++[Ob.lst [.int (c:Int)]]:=⟨_,rfl⟩
 obtain⟨H2,hH2⟩:∃H2,H2=H1++[Ob.lst [.ref H.length]]:=⟨_,rfl⟩
 have e1:aU (aA (aU (aA (mC (.int c)) aC)) aC) ρ H=.ok (.ref H1.length) H2:=by rw[hH2,hH1];simp[aU,aA,mC,aC,lim]
 have g2:getL H2 H1.length=some [.ref H.length]:=by rw[hH2];exact cR
 have g1:getL H2 H.length=some [.int (c:Int)]:=by rw[hH2,hH1];exact iR cR
 have hr:nV (.ref H1.length) (.int (n:Int)) H2=.ok (.ref H2.length) (H2++[.lst (br n (Dv.ref H.length))]):=by
  have c1:jA (n:Int)=true:=by simp[jA];omega
  have c2:decide ((n:Int)<9223372036854775808)=true:=decide_eq_true (by omega);have c3:decide ((-9223372036854775808:Int)<=(n:Int))=true:=decide_eq_true (by omega);have c4:decide ([Dv.ref H.length].length*(n:Int).toNat<=1000000)=true:=decide_eq_true (by have:(n:Int).toNat=n:=fe n;rw[this];show 1*n<=1000000;omega);have:∀m,(br m [Dv.ref H.length]).flatten=br m (Dv.ref H.length):=λm=>by
   induction m with
   |zero=>rfl
   |succ m ih=>rw[gz,jt,ih];rfl
  unfold nV;dsimp only;rw[g2];dsimp only;rw[c1,c2,c3,c4,fe,this];rfl
 refine⟨H2.length,_,gX e1 (mb:=mC (.int n)) rfl hr, ?_, ?_⟩
 ·have f1:Fr [] H H1:=by rw[hH1];exact Fr.app
  have f2:Fr [] H1 H2:=by rw[hH2];exact Fr.app
  exact(f1.trans f2 (by simp)).trans (T:=[]) Fr.app (by simp)
 ·have g3:getL (H2++[Ob.lst (br n (Dv.ref H.length))]) H2.length=some ((br n H.length).map Dv.ref):=by rw[List.map_replicate];exact cR
  have hp:=OZ (H:=H2++[Ob.lst (br n (Dv.ref H.length))]) (rs:=br n H.length) (c:=c) 27 (λr hr=>by rw[List.mem_replicate]at hr;rw[hr.2];exact iR g1);rw[An]at hp;exact zO (m:=29) g3 hp
theorem O2 {n:Nat}(hc:c=0∨c=4) (h4:aB 4 ρ=λH=>.ok (.ref p) H) (h:Calls p t ks H) (hr:∀k∈ks,zN ρ c H k) (hn:ks.length=n) (hl:n<=100):
  ∃(a b:Nat) (H1 H2:Hs),bR (nZ (bO dD (aB 4)) iV t 4 11 eM) ρ H=.ok (.ref a) H1/\mU c n ρ H1=.ok (.ref b) H2/\Fr [] H H2/\cB (.ref a) (.ref b) H2=.ok (.bl false) H2/\bW (.ref a) (.ref b) H2=.ok (.bl true) H2:=by
 obtain⟨rs,H1,e1,f1,l1,g1⟩:=z3u hc h4 h hr (by omega);have ea:=rN e1;obtain⟨b,H2,e2,f2,p2⟩:=z3w (c:=c) (ρ:=ρ) (H:=H1++[.lst (rs.map Dv.ref)]) hl;have ga:=f2.getL (cR (H:=H1) (x:=rs.map Dv.ref)) (by simp);have hp:=OZ (H:=H2) (rs:=rs) (c:=c) 27 (λr hr=>f2.getL (iR (g1 r hr)) (by simp));have p1:bM bY H2 (.ref H1.length)=some (.lst (br n (.lst [.int c]))):=by rw[l1,hn]at hp;exact zO (m:=29) ga hp
 have hd:bJ (.lst (br n (.lst [.int (c:Int)]))) (.lst (br n (.lst [.int (c:Int)])))=true:=by show fX _ _=true;exact z3v n _ (by simp[bJ,fX])
 refine⟨H1.length,b,_,H2,ea,e2,(f1.trans (T:=[]) Fr.app (by simp)).trans f2 (by simp), ?_, ?_⟩
 ·simp[cB,p1,p2,hd]
 ·simp[bW,p1,p2,hd]
end
abbrev zP:M (List Dv):=(aA (m2 aT (aB 1) (mC (.int 0))) (aA (m1 tJ (mC (.int 1))) (aA (mC (.bl true)) (aA (mC .non) (aA (mC (.str "0")) (aA (aL (aA (mC (.int 0)) aC)) (aA (m2 oW (mC (.int 10)) (mC (.int 29))) aC)))))))
abbrev q0:M Dv:=aL (aA (aF F_qb (aA (aB 0) aC)) (aA (m2 aT (aU zP) (aF F_qs (aA (aB 0) (aA (mC (.int 7)) aC)))) aC))
abbrev cL (t:Nat):M Dv:=bR (nZ (bO dD (aB 4)) iV t 4 11 eM)
theorem z3x (t:Nat):yA t=aJ (aM q0 (cG 2 (aY (aE 2) (aY (aE 3) cI)))) (aJ (aM (aU (aA (eJ 0 t) aC)) (aE 4)) (aJ (bG (cO (aB 4) (eJ 1 t))) (aJ (bG (cO (aB 4) (eJ 2 t))) (aJ (bE (mB (m2 cB (cL t) (mU 4 3))) (aR (mC (.bl false))) bQ)
  (aJ (aM (aU (aA (eJ 3 t) aC)) (aE 4)) (aJ (bG (cO (aB 4) (eJ 4 t))) (aJ (bG (cO (aB 4) (eJ 5 t))) (aJ (bG (cO (aB 4) (eJ 6 t))) (aJ (bG (cO (aB 4) (eJ 7 t))) (aR (m2 bW (cL t) (mU 0 5)))))))))))):=rfl
section
variable{n st:Nat}{ps:List (Int×Int)}{H:Hs}{ρ:Ev}
def oM (n:Nat):List Dv:=[.int n,.int (-1),.bl true,.non,.str "0",.tup [.int 0],.int 100000000000000000000000000000]
theorem z3y {x2 x3 x4:Option Dv}:zP [some (.ref st),some (aI n ps),x2,x3,x4] H=.ok (oM n) H:=rfl
theorem O3 (hn:n<=6) {y:Dv}(h:y∈oM n):T0 H y/\Com.tB n y=false:=by
 simp only[oM,bf,wg,or_false]at h
 rcases h with rfl|rfl|rfl|rfl|rfl|rfl|rfl
 ·exact⟨trivial,by simp[Com.tB,oI];omega⟩
 ·exact⟨trivial,by simp[Com.tB,oI]⟩
 ·exact⟨trivial,rfl⟩
 ·exact⟨trivial,rfl⟩
 ·exact⟨trivial,rfl⟩
 ·exact⟨trivial,rfl⟩
 ·exact⟨trivial,by simp[Com.tB,oI];omega⟩
theorem z3z {F:List Dv->Hs->Rs Dv}{a b:Dv}{c:Nat}(e:F [a,b] H=.ex c H):aF F (aA (aB 0) (aA (aB 1) aC)) ([a,b].map some) H=.ex c H:=by simp[aF,aA,aB,aC,e]
theorem z40 {F:List Dv->Hs->Rs Dv}{a:Dv}{c:Nat}(e:F [a] H=.ex c H):aF F (aA (aB 0) aC) ([a].map some) H=.ex c H:=by simp[aF,aA,aB,aC,e]
theorem rQ {k c:Nat}{caps:List Nat}{F:List Dv->Hs->Rs Dv}{a b:Dv}(h1:iV k=some (caps,aF F (aA (aB 0) (aA (aB 1) aC)))) (h2:nL caps ρ=some [a,b]) (h3:∀H',Fr [] H H'->F [a,b] H'=.ex c H'):zN ρ c H k:=⟨_,_,_,h1,h2,λH' f=>z3z (h3 H' f)⟩
theorem O4 {k c:Nat}{caps:List Nat}{F:List Dv->Hs->Rs Dv}{a:Dv}(h1:iV k=some (caps,aF F (aA (aB 0) aC))) (h2:nL caps ρ=some [a]) (h3:∀H',Fr [] H H'->F [a] H'=.ex c H'):zN ρ c H k:=⟨_,_,_,h1,h2,λH' f=>z40 (h3 H' f)⟩
theorem z41 (o:OrdP n ps) (s:Com.St st H) {x2 x3 x4:Option Dv}:∃d y H',q0 [some (.ref st),some (aI n ps),x2,x3,x4] H=.ok (.tup [d,y]) H'/\TK 3 H' d/\gB d=false/\T0 H' y/\Com.tB n y=false/\(∀K,T0 K y)/\Com.St st H'/\Fr [st] H H':=by
 obtain⟨d,H1,h1,td,bd,s1,f1⟩:=z3s s;obtain⟨H2,hH2⟩:∃H2,H2=H1++[Ob.lst (oM n)]:=⟨_,rfl⟩
 have f2:Fr [] H1 H2:=by rw[hH2];exact Fr.app
 have e2:aU zP [some (.ref st),some (aI n ps),x2,x3,x4] H1=.ok (.ref H1.length) H2:=by unfold aU;rw[z3y,hH2];rfl
 obtain⟨r,H3,r0,r1,t3,f3,s3⟩:=mS 7 (s1.fr f2 (by simp));obtain⟨j,rfl⟩:∃j:Nat,r=j:=⟨r.toNat,by omega⟩
 have g2:getL H2 H1.length=some (oM n):=by rw[hH2];exact cR
 have lt:=s1.lt;have g3:=f3.getL g2 (by simp;omega);have hj:j<(oM n).length:=by show j<7;omega
 have x3':=hY g3 hj;have ek:aF F_qs (aA (aB 0) (aA (mC (.int 7)) aC)) [some (.ref st),some (aI n ps),x2,x3,x4] H2=.ok (.int j) H3:=by generalize F_qs=F at t3;simp[aF,aA,aB,mC,aC,t3]
 have ey:=gX e2 ek x3';have ed:aF F_qb (aA (aB 0) aC) [some (.ref st),some (aI n ps),x2,x3,x4] H=.ok d H1:=by generalize F_qb=F at h1;simp[aF,aA,aB,aC,h1]
 have hy:=O3 (H:=H3) o.n6 (fz hj);have hy':∀K,T0 K (oM n)[j]:=λK=>(O3 (H:=K) o.n6 (fz hj)).1;have td3:TK 3 H3 d:=(td.fr0 f2).fr f3 s3;refine⟨d,(oM n)[j],H3, ?_,td3,bd,hy.1,hy.2,hy',s3,(f1.trans f2 (by simp)).trans f3 (by simp)⟩;unfold q0;generalize aF F_qb (aA (aB 0) aC)=M1 at ed;generalize m2 aT (aU zP) (aF F_qs (aA (aB 0) (aA (mC (.int 7)) aC)))=M2 at ey;simp[aL,aA,ed,ey,aC,lim]
theorem jY {p:Nat}{H0 H1 H2:Hs}(a:Fr [st] H0 H1) (b:Fr [p] H1 H2) (hp:H0.length<=p):Fr [st] H0 H2:=a.trans b λj hj=>by simp only[dh]at hj;right;omega
theorem z42 (o:OrdP n ps) (s:Com.St st H):∃H',F_qa [.ref st,aI n ps] H=.ok (.bl true) H'/\Com.St st H'/\Fr [st] H H':=by
 obtain⟨d,y,H1,e1,td,bd,ty,by_,tyA,s1,f1⟩:=z41 (x2:=none) (x3:=none) (x4:=none) o s;have w1:aM q0 (cG 2 (aY (aE 2) (aY (aE 3) cI))) [some (.ref st),some (aI n ps),none,none,none] H=.nx [some (.ref st),some (aI n ps),some d,some y,none] H1:=by unfold aM;rw[e1];rfl
 have t1:H.length<=H1.length:=f1.le;have lt:=s.lt;obtain⟨H2,w2,c2,f2⟩:=OY (k:=0) (ρ:=[some (.ref st),some (aI n ps),some d,some y,none]) t1 (by simp);have hp:H.length<=H1.length+1:=by omega
 have hp1:H1.length<=H1.length+1:=by omega
 generalize H1.length+1=p at w2 c2 hp hp1;have w2':aM (aU (aA (eJ 0 H.length) aC)) (aE 4) [some (.ref st),some (aI n ps),some d,some y,none] H1=.nx [some (.ref st),some (aI n ps),some d,some y,some (.ref p)] H2:=w2;have a2:=f1.trans f2 (by simp);obtain⟨H3,w3,c3,f3⟩:=rO (k:=1) (ρ:=[some (.ref st),some (aI n ps),some d,some y,some (.ref p)]) a2.le rfl c2 (by simp);have a3:=jY a2 f3 hp;obtain⟨H4,w4,c4,f4⟩:=rO (k:=2) (ρ:=[some (.ref st),some (aI n ps),some d,some y,some (.ref p)]) a3.le rfl c3 (by simp);have a4:=jY a3 f4 hp;have ns:∀{Hx Hy:Hs},Fr [p] Hx Hy->Com.St st Hx->p≠st->Com.St st Hy:=λf s h=>s.fr f (by simpa using cw h);have hps:p≠st:=by omega
 have s4:Com.St st H4:=ns f4 (ns f3 (s1.fr f2 (by simp)) hps) hps;obtain⟨a,b,H5,H6,e5,e6,f6,n6,_⟩:=O2 (c:=4) (n:=3) (.inr rfl) (ρ:=[some (.ref st),some (aI n ps),some d,some y,some (.ref p)]) rfl c4 (λk hk=>by
  have hk':k=0∨k=1∨k=2:=by simpa using hk
  rcases hk' with rfl|rfl|rfl
  ·exact rQ (F:=F_qx) (caps:=[1,3]) rfl rfl λK _=>OF (E6 o (tyA K) by_)
  ·exact rQ (F:=F_q2) (caps:=[1,3]) rfl rfl λK _=>OG (E6 o (tyA K) by_)
  ·exact rQ (F:=F_qo) (caps:=[1,3]) rfl rfl λK _=>OH (E6 o (tyA K) by_)) rfl (by decide)
 have w5:bE (mB (m2 cB (cL H.length) (mU 4 3))) (aR (mC (.bl false))) bQ [some (.ref st),some (aI n ps),some d,some y,some (.ref p)] H4=.nx [some (.ref st),some (aI n ps),some d,some y,some (.ref p)] H6:=by
  have t:mB (m2 cB (cL H.length) (mU 4 3)) [some (.ref st),some (aI n ps),some d,some y,some (.ref p)] H4=.ok false H6:=by have e6':mU 4 3 [some (.ref st),some (aI n ps),some d,some y,some (.ref p)] H5=.ok (.ref b) H6:=e6;have e5':cL H.length [some (.ref st),some (aI n ps),some d,some y,some (.ref p)] H4=.ok (.ref a) H5:=e5;unfold mB;rw[gX e5' e6' n6];rfl
  exact(oZ t).trans rfl
 have a6:=a4.trans f6 (by simp);have s6:=s4.fr f6 (by simp);obtain⟨H7,w7,c7,f7⟩:=OY (k:=3) (ρ:=[some (.ref st),some (aI n ps),some d,some y,some (.ref p)]) a6.le (by simp);have hq:H.length<=H6.length+1:=by have:=a6.le;omega
 have hq1:H1.length<=H6.length+1:=by have:=f2.le;have:=f3.le;have:=f4.le;have:=f6.le;omega
 generalize H6.length+1=q at w7 c7 hq hq1;have w7':aM (aU (aA (eJ 3 H.length) aC)) (aE 4) [some (.ref st),some (aI n ps),some d,some y,some (.ref p)] H6=.nx [some (.ref st),some (aI n ps),some d,some y,some (.ref q)] H7:=w7;have a7:=a6.trans f7 (by simp);obtain⟨H8,w8,c8,f8⟩:=rO (k:=4) (ρ:=[some (.ref st),some (aI n ps),some d,some y,some (.ref q)]) a7.le rfl c7 (by simp);have a8:=jY a7 f8 hq;obtain⟨H9,w9,c9,f9⟩:=rO (k:=5) (ρ:=[some (.ref st),some (aI n ps),some d,some y,some (.ref q)]) a8.le rfl c8 (by simp);have a9:=jY a8 f9 hq;obtain⟨H10,w10,c10,f10⟩:=rO (k:=6) (ρ:=[some (.ref st),some (aI n ps),some d,some y,some (.ref q)]) a9.le rfl c9 (by simp);have a10:=jY a9 f10 hq;obtain⟨H11,w11,c11,f11⟩:=rO (k:=7) (ρ:=[some (.ref st),some (aI n ps),some d,some y,some (.ref q)]) a10.le rfl c10 (by simp);have a11:=jY a10 f11 hq;have hqs:q≠st:=by omega
 have nq:∀{Hx Hy:Hs},Fr [q] Hx Hy->Com.St st Hx->Com.St st Hy:=λf s=>s.fr f (by simpa using cw hqs);have s11:Com.St st H11:=nq f11 (nq f10 (nq f9 (nq f8 (s6.fr f7 (by simp)))));have tdA:TK 3 H11 d:=by have h:∀K,Fr [st] H1 K->Com.St st K->TK 3 K d:=λK f s=>td.fr f s;refine h H11 ?_ s11;have b2:Fr [st] H1 H2:=f2.mono (by simp);exact(jY (jY (jY (jY ((((jY (jY b2 f3 (by omega)) f4 (by omega)).trans f6 (by simp)).trans f7 (by simp))) f8 (by omega)) f9 (by omega)) f10 (by omega)) f11 (by omega))
 have nT:∀K,Fr [] H11 K->F_qq [d,y] K=.ex 0 K:=λK f=>z2k (tdA.fr0 f) bd;have nO:∀K,Fr [] H11 K->F_qp [d] K=.ex 0 K:=λK f=>need_bad (tdA.fr0 f) bd;obtain⟨a',b',H12,H13,e12,e13,f13,_,n13⟩:=O2 (c:=0) (n:=5) (.inl rfl) (ρ:=[some (.ref st),some (aI n ps),some d,some y,some (.ref q)]) rfl c11 (λk hk=>by
  have hk':k=3∨k=4∨k=5∨k=6∨k=7:=by simpa using hk
  rcases hk' with rfl|rfl|rfl|rfl|rfl
  ·exact rQ (F:=F_qx) (caps:=[2,3]) rfl rfl λK f=>OF (nT K f)
  ·exact rQ (F:=F_q2) (caps:=[2,3]) rfl rfl λK f=>OG (nT K f)
  ·exact rQ (F:=F_qo) (caps:=[2,3]) rfl rfl λK f=>OH (nT K f)
  ·exact O4 (F:=F_qh) (caps:=[2]) rfl rfl λK f=>z2l (nO K f)
  ·exact O4 (F:=F_q3) (caps:=[2]) rfl rfl λK f=>z2m (nO K f)) rfl (by decide)
 have w12:aR (m2 bW (cL H.length) (mU 0 5)) [some (.ref st),some (aI n ps),some d,some y,some (.ref q)] H11=.rt (.bl true) H13:=by have e13':mU 0 5 [some (.ref st),some (aI n ps),some d,some y,some (.ref q)] H12=.ok (.ref b') H13:=e13;have e12':cL H.length [some (.ref st),some (aI n ps),some d,some y,some (.ref q)] H11=.ok (.ref a') H12:=e12;unfold aR;rw[gX e12' e13' n13];rfl
 refine⟨H13, ?_,s11.fr f13 (by simp),a11.trans f13 (by simp)⟩;show bK (yA H.length [some (.ref st),some (aI n ps),none,none,none] H)=_;rw[z3x,bI w1,bI w2',bI w3,bI w4,bI w5,bI w7',bI w8,bI w9,bI w10,bI w11,w12];rfl
end
open L2.Mr.Cod (dP cR kS hY)
abbrev FI:M (List Dv):=bL (aS cN (aA (m2 aT (aB 3) (mC (.int 0))) aC)) [none,some 3] (aE 0) (cF (bD (aF F_qk (aA (aB 1) (aA (aB 0) aC))))) (bB (aB 0))
abbrev sI:MS:=bE (mB (m2 cB (bR FI) (aU aC))) (aR (mC (.bl false))) bQ
abbrev sL:MS:=aJ (aM (aF F_qh (aA (aB 3) aC)) (aE 5)) (aJ (bE (cF (bD (aF (F_qr 6) (aA (aB 5) (aA (aF F_qi (aA (aB 3) aC)) aC))))) (aR (mC (.bl false))) bQ) (bG (cO (aB 5) (aL aC))))
abbrev sT:MS:=bE (cF (bD (aF (F_qr 6) (aA (aF F_q3 (aA (aB 3) aC)) (aA OP aC))))) (aR (mC (.bl false))) bQ
abbrev sR:MS:=bE (cF (bD (aF F_qa (aA (aB 2) (aA (aB 3) aC))))) (aR (mC (.bl false))) bQ
theorem z43 (scr:List Int):yB scr=aJ (aM (aF (F_ql scr) (aA (aB 0) (aA (aB 1) aC))) (aE 2)) (aJ (aM (aF F_qj (aA (aB 2) (aA (mC (.int 6)) aC))) (aE 3)) (aJ sI (aJ (dN (aS cN (aA (mC (.int 2)) aC)) (aE 4) sL) (aJ sT sR)))):=rfl
section
variable{n st:Nat}{ps:List (Int×Int)}{H:Hs}{ρ:Ev}
theorem O5 {F:List Dv->Hs->Rs Dv}{a b:Dv}{i j:Nat}{H':Hs}(ha:aB i ρ=λH=>.ok a H) (hb:aB j ρ=λH=>.ok b H) (e:F [a,b] H=.ok (.bl true) H'):cF (bD (aF F (aA (aB i) (aA (aB j) aC)))) ρ H=.ok false H':=by simp[cF,bD,aF,aA,ha,hb,aC,e,dZ]
theorem z44 {F:List Dv->Hs->Rs Dv}{a v:Dv}{x:Nat}{H':Hs}(ha:aB x ρ=λH=>.ok a H) (e:F [a] H=.ok v H'):aF F (aA (aB x) aC) ρ H=.ok v H':=by simp[aF,aA,ha,aC,e]
theorem z45 {S:List Dv->Hs->Rs Dv}{ma mb:M Dv}{x y:Dv}{H1 H2:Hs}(ha:ma ρ H=.ok x H1) (hb:mb ρ H1=.ok y H2) (hs:S [x,y] H2=.ok (.bl true) H2):cF (bD (aF S (aA ma (aA mb aC)))) ρ H=.ok false H2:=by simp[cF,bD,aF,aA,ha,hb,aC,hs,dZ]
theorem z46 {o m:M Dv}{p:Nat}{xs:List Dv}{d:Dv}(eo:o ρ H=.ok (.ref p) H) (em:m ρ H=.ok d H) (g:getL H p=some xs) (hl:xs.length<1000000):bG (cO o m) ρ H=.nx ρ (H.set p (.lst (xs++[d]))):=by simp[bG,cO,eo,gS,g,em,jQ,hl]
theorem z47 (o:OrdP n ps) (h3:aB 3 ρ=λH=>.ok (aI n ps) H) (hc:fT [none,some 3] ρ=[none,some (aI n ps)]):∃H',FI ρ H=.ok [] H'/\Fr [] H H':=by
 have n6:=o.n6;have h0:m2 aT (aB 3) (mC (.int 0)) ρ H=.ok (.int n) H:=gX (by rw[h3]) (mb:=mC (.int 0)) rfl rfl;have hi:=zI h0 (by omega) (by omega);have hn:(cA 0 (n:Int)).n=n:=by simp[cA]
 obtain⟨ρ',H',acc',e,hP⟩:=qM (src:=cA 0 n) (sg:=aE 0) (t:=cF (bD (aF F_qk (aA (aB 1) (aA (aB 0) aC))))) (m:=bB (aB 0)) (λk ρ' H' acc=>(∃a,ρ'=[a,some (aI n ps)])/\Fr [] H H'/\acc=[])
  (λk ρ' H' acc hk ⟨⟨a,ea⟩,f,eacc⟩=>by
   subst ea;have hk':k<n:=by omega
   obtain⟨H2,e2,f2⟩:=z3g (H:=H') o (x:=(k:Int)) (by omega) (by omega);refine⟨.int (0+k),[some (.int (0+k)),some (aI n ps)],rfl,rfl,.inl ⟨H2, ?_,⟨_,rfl⟩,f.trans f2 (by simp),eacc⟩⟩;have hz:(0+(k:Int))=(k:Int):=by omega
   rw[hz];exact O5 (F:=F_qk) rfl rfl e2) (λ_ _ _ _=>rfl) (cA 0 (n:Int)).n 0 [none,some (aI n ps)] H [] (by omega) ⟨⟨_,rfl⟩,Fr.refl,rfl⟩
 obtain⟨_,f,eacc⟩:=hP;exact⟨H',E1 (ρ':=ρ') hi (by rw[hc,e,eacc]),f⟩
theorem z48 (o:OrdP n ps) (h3:aB 3 ρ=λH=>.ok (aI n ps) H) (hc:fT [none,some 3] ρ=[none,some (aI n ps)]):∃H',sI ρ H=.nx ρ H'/\Fr [] H H':=by
 obtain⟨H1,e1,f1⟩:=z47 (H:=H) o h3 hc;have ea:=rN e1;have f2:Fr [] H1 ((H1++[Ob.lst []])++[Ob.lst []]):=Fr.trans (T:=[]) Fr.app Fr.app (by simp);have eb:aU aC ρ (H1++[Ob.lst []])=.ok (.ref (H1++[Ob.lst []]).length) ((H1++[Ob.lst []])++[Ob.lst []]):=rfl;have ga:getL ((H1++[Ob.lst []])++[Ob.lst []]) H1.length=some []:=iR cR;have gb:getL ((H1++[Ob.lst []])++[Ob.lst []]) (H1++[Ob.lst []]).length=some []:=cR;have pa:bM bY ((H1++[Ob.lst []])++[Ob.lst []]) (.ref H1.length)=some (.lst []):=zO (m:=29) ga rfl;have pb:bM bY ((H1++[Ob.lst []])++[Ob.lst []]) (.ref (H1++[Ob.lst []]).length)=some (.lst []):=zO (m:=29) gb rfl;have hne:cB (.ref H1.length) (.ref (H1++[Ob.lst []]).length) ((H1++[Ob.lst []])++[Ob.lst []])=.ok (.bl false) ((H1++[Ob.lst []])++[Ob.lst []]):=by unfold cB;rw[pa,pb];rfl
 refine⟨_, ?_,f1.trans f2 (by simp)⟩;have t:mB (m2 cB (bR FI) (aU aC)) ρ H=.ok false ((H1++[Ob.lst []])++[Ob.lst []]):=by unfold mB;rw[gX ea eb hne];rfl
 exact(oZ t).trans rfl
theorem z49 (o:OrdP n ps) {x0 x1 x2 x4 x5:Option Dv}:∃y5 H',sL [x0,x1,x2,some (aI n ps),x4,x5] H=.nx [x0,x1,x2,some (aI n ps),x4,y5] H'/\Fr [] H H':=by
 have n6:=o.n6;have ll:=OM (ps:=ps) n6;obtain⟨H1,hH1⟩:∃H1,H1=H++[Ob.lst ((dP n ps).map aG)]:=⟨_,rfl⟩
 obtain⟨H2,hH2⟩:∃H2,H2=H1++[Ob.lst ((dP n ps).map aG)]:=⟨_,rfl⟩
 have e1:=z2z (H:=H) o;rw[<-hH1]at e1;have e2:=z2j (n:=n) (ps:=ps) (H:=H1) (by omega);rw[<-hH2]at e2;have w1:aM (aF F_qh (aA (aB 3) aC)) (aE 5) [x0,x1,x2,some (aI n ps),x4,x5] H=.nx [x0,x1,x2,some (aI n ps),x4,some (.ref H.length)] H1:=by refine uR (v:=.ref H.length) ?_ rfl;generalize aI n ps=z at e1;generalize F_qh=F at e1;simp[aF,aA,aB,aC,e1]
 have f2:Fr [] H1 H2:=by rw[hH2];exact Fr.app
 have ga:getL H2 H.length=some ((dP n ps).map aG):=f2.getL (by rw[hH1];exact cR) (by simp);have gb:getL H2 H1.length=some ((dP n ps).map aG):=by rw[hH2];exact cR
 have sm:F_qr 6 [.ref H.length,.ref H1.length] H2=.ok (.bl true) H2:=OD (n:=5) ga gb (by simp;omega) λy hy=>by obtain⟨q,_,rfl⟩:=cp.mp hy;exact OC (n:=3) (xs:=[q.1,q.2]) (by simp)
 have w2:bE (cF (bD (aF (F_qr 6) (aA (aB 5) (aA (aF F_qi (aA (aB 3) aC)) aC))))) (aR (mC (.bl false))) bQ [x0,x1,x2,some (aI n ps),x4,some (.ref H.length)] H1=.nx [x0,x1,x2,some (aI n ps),x4,some (.ref H.length)] H2:=by
  have e3:aF F_qi (aA (aB 3) aC) [x0,x1,x2,some (aI n ps),x4,some (.ref H.length)] H1=.ok (.ref H1.length) H2:=by exact z44 (F:=F_qi) rfl e2
  have t:cF (bD (aF (F_qr 6) (aA (aB 5) (aA (aF F_qi (aA (aB 3) aC)) aC)))) [x0,x1,x2,some (aI n ps),x4,some (.ref H.length)] H1=.ok false H2:=by exact z45 (S:=F_qr 6) (ma:=aB 5) rfl e3 sm
  exact(oZ t).trans rfl
 have hx:((dP n ps).map aG).length<1000000:=by simp;omega
 have w3:bG (cO (aB 5) (aL aC)) [x0,x1,x2,some (aI n ps),x4,some (.ref H.length)] H2=.nx [x0,x1,x2,some (aI n ps),x4,some (.ref H.length)] (H2.set H.length (.lst ((dP n ps).map aG++[.tup []]))):=z46 (o:=aB 5) (m:=aL aC) rfl rfl ga hx;have f3:Fr [H.length] H2 (H2.set H.length (.lst ((dP n ps).map aG++[.tup []]))):=Fr.set;have f1:Fr [] H H1:=by rw[hH1];exact Fr.app
 refine⟨some (.ref H.length),_, ?_,(f1.trans f2 (by simp)).trans f3 (λz hz=>by simp only[dh]at hz;right;omega)⟩;unfold sL;rw[bI w1,bI w2,w3]
theorem O6 (o:OrdP n ps) {x0 x1 x2:Option Dv}:∀(f k:Nat) (x4 x5:Option Dv) (H:Hs),∃y4 y5 H',gH (cA 0 2) (aE 4) sL f k [x0,x1,x2,some (aI n ps),x4,x5] H=.nx [x0,x1,x2,some (aI n ps),y4,y5] H'/\Fr [] H H'
 |0,k,x4,x5,H=>⟨x4,x5,H,rfl,Fr.refl⟩
 |f+1,k,x4,x5,H=>by obtain⟨y5,H1,e1,f1⟩:=z49 (H:=H) (x0:=x0) (x1:=x1) (x2:=x2) (x4:=some (.int k)) (x5:=x5) o;obtain⟨z4,z5,H2,e2,f2⟩:=O6 o (x0:=x0) (x1:=x1) (x2:=x2) f (k+1) (some (.int k)) y5 H1;refine⟨z4,z5,H2, ?_,f1.trans f2 (by simp)⟩;rw[<-e2];exact xF (d:=.int k) (ρ1:=[x0,x1,x2,some (aI n ps),some (.int k),x5]) (by simp[cA]) rfl e1
theorem z4a (o:OrdP n ps) {x0 x1 x2 x4 x5:Option Dv}:∃H',sT [x0,x1,x2,some (aI n ps),x4,x5] H=.nx [x0,x1,x2,some (aI n ps),x4,x5] H'/\Fr [] H H':=by
 obtain⟨H1,e1,f1⟩:=z33 (H:=H) o;obtain⟨H2,e2,f2⟩:=z34 (H:=H1) (ρ:=[x0,x1,x2,some (aI n ps),x4,x5]) o rfl;have c1:aF F_q3 (aA (aB 3) aC) [x0,x1,x2,some (aI n ps),x4,x5] H=.ok (aI n (eI cE (jH ps))) H1:=by generalize aI n ps=z at e1;generalize F_q3=F at e1;simp[aF,aA,aB,aC,e1]
 have hl:(eI cE (jH ps)).length<=900:=by rw[(xH (lt:=cE) (jH ps)).length_eq];have:=FE o.len;omega
 exact⟨H2,z2h (S:=F_qr 6) c1 e2 (z2i hl),f1.trans f2 (by simp)⟩
theorem z4b (o:OrdP n ps) (s:Com.St st H) {x0 x1 x4 x5:Option Dv}:∃H',sR [x0,x1,some (.ref st),some (aI n ps),x4,x5] H=.nx [x0,x1,some (.ref st),some (aI n ps),x4,x5] H':=by obtain⟨H1,e1,s1,f1⟩:=z42 (H:=H) o s;exact⟨H1,(oZ (O5 (F:=F_qa) rfl rfl e1):bE _ (aR (mC (.bl false))) bQ _ _=_).trans rfl⟩
theorem z4c (scr:List Int) (k:Nat) (H:Hs) (x2 x3 x4 x5:Option Dv):∃H' y2 y3 y4 y5,yB scr [some .scr,some (.int k),x2,x3,x4,x5] H=.nx [some .scr,some (.int k),y2,y3,y4,y5] H':=by
 obtain⟨H1,h1,f1',s1⟩:=z1l scr k H;have w1:aM (aF (F_ql scr) (aA (aB 0) (aA (aB 1) aC))) (aE 2) [some .scr,some (.int k),x2,x3,x4,x5] H=.nx [some .scr,some (.int k),some (.ref H.length),x3,x4,x5] H1:=by simp[aM,aF,aA,aB,aC,h1,aE]
 obtain⟨n,cs,H2,h2,o,s2,f2⟩:=lS s1;have w2:aM (aF F_qj (aA (aB 2) (aA (mC (.int 6)) aC))) (aE 3) [some .scr,some (.int k),some (.ref H.length),x3,x4,x5] H1=.nx [some .scr,some (.int k),some (.ref H.length),some (aI n cs),x4,x5] H2:=by simp[aM,aF,aA,aB,mC,aC,h2,aE]
 generalize H.length=st at s1 s2 f2 h2 w1 w2;obtain⟨H3,w3,f3⟩:=z48 (H:=H2) (ρ:=[some .scr,some (.int k),some (.ref st),some (aI n cs),x4,x5]) o rfl rfl;obtain⟨y4,y5,H4,e4,f4⟩:=O6 o (x0:=some .scr) (x1:=some (.int k)) (x2:=some (.ref st)) (cA 0 2).n 0 x4 x5 H3;have w4:dN (aS cN (aA (mC (.int 2)) aC)) (aE 4) sL [some .scr,some (.int k),some (.ref st),some (aI n cs),x4,x5] H3=.nx [some .scr,some (.int k),some (.ref st),some (aI n cs),y4,y5] H4:=(xE (src:=cA 0 2) rfl).trans e4;obtain⟨H5,w5,f5⟩:=z4a (H:=H4) (x0:=some .scr) (x1:=some (.int k)) (x2:=some (.ref st)) (x4:=y4) (x5:=y5) o;obtain⟨H6,w6⟩:=z4b (H:=H5) (x0:=some .scr) (x1:=some (.int k)) (x4:=y4) (x5:=y5) o (s2.fr ((f3.trans f4 (by simp)).trans f5 (by simp):Fr [] H2 H5) (by simp));refine⟨H6,some (.ref st),some (aI n cs),y4,y5, ?_⟩;rw[z43,bI w1,bI w2,bI w3,bI w4,bI w5,w6]
end
theorem loop (scr:List Int) (m:Int):∀(f k:Nat) (H:Hs) (x1 x2 x3 x4 x5:Option Dv),∃ρ' H',gH (cA 0 m) (aE 1) (yB scr) f k [some .scr,x1,x2,x3,x4,x5] H=.nx ρ' H'
 |0,k,H,x1,x2,x3,x4,x5=>⟨_,H,rfl⟩
 |f+1,k,H,x1,x2,x3,x4,x5=>by obtain⟨H1,y2,y3,y4,y5,h⟩:=z4c scr k H x2 x3 x4 x5;obtain⟨ρ',H2,h2⟩:=loop scr m f (k+1) H1 (some (.int k)) y2 y3 y4 y5;refine⟨ρ',H2, ?_⟩;rw[<-h2];exact xF (d:=.int k) (ρ1:=[some .scr,some (.int k),x2,x3,x4,x5]) (by simp[cA]) rfl h
theorem z4d (scr:List Int):∃hh,F_q4 scr [.scr] []=.ok (.bl true) hh:=by
 have hi:∃m:Int,aS cN (aA (aF mE (aA (mC (.int 1)) (aA (aF pZ (aA (aF (f1 (iC scr)) (aA (aB 0) aC)) (aA (mC (.int 8)) aC))) aC))) aC) [some .scr,none,none,none,none,none] []=.ok (cA 0 m) []:=by
  generalize hz:(if(8:Int)<scr.length then(8:Int)else scr.length)=z;have z0:0<=z:=by split at hz <;> omega
  have z1:z<=8:=by split at hz <;> omega
  generalize hm:(if z>(1:Int)then z else 1)=m;have m0:1<=m:=by split at hm <;> omega
  have m1':m<=8:=by split at hm <;> omega
  have hr:iF m=true:=by simp[iF];omega
  refine⟨m, ?_⟩;have e1:pZ [.int scr.length,.int 8] []=.ok (.int z) []:=by rw[<-hz];rfl
  have e2:mE [.int 1,.int z] []=.ok (.int m) []:=by rw[<-hm];rfl
  simp[aS,aA,aF,mC,aB,aC,f1,iC,fY,e1,e2,cN,hr]
 obtain⟨m,hi⟩:=hi;obtain⟨ρ',H',h⟩:=loop scr m (cA 0 m).n 0 [] none none none none none;refine⟨H', ?_⟩;show bK (yC scr [some .scr,none,none,none,none,none] [])=_;unfold yC MX;rw[bI ((xE hi).trans h)];rfl
open PySem.Calls PySem.W
theorem mk_of {l:OpenLaw}{w:cm}{K:Frag}{h:cq}{mg:Str->Option af}{fa:ah}(hob:ob K=obE) (hnt:noTabs K=true) (X:K.In h) (G:h.Ns da mg) (hfa:mg "law" = some (.ref fa)):
  ∃(fd:bq) (c P:ah),(∀(s:ag) (u:af),Ag s fd ⟨[u],[]⟩ [("_law_script",u)])/\tabIn K "_law_refusals_right" = some (c,P)/\noTabs K=true /\
   ∀(base:cq) (a:ah) (ns:List Int),ns.length<=63->K.In base->base.Ns da mg->CodeHd base c P->kG mg base->Lawful l.prog w K mg base 15 fa fd "_law_script" P a ns:=by
 have hc:obF.all (λf=>f K)=true:=congrArg dz hob;have hf:zS K=zT:=congrArg pw hob;have e:=hfa.symm.trans (mg_of X G (v:=.ref 342) (dB hc 30));cases e;refine(λ(z:∀R:Prop,(_->R)->R)=>z _ id) λR hR=>?_;obtain⟨g0,U0,B0,C0,D0⟩:=dF hf hc 166 CU "is_whole" 165 ["thing"] 0 58 89 λ_ _ _ _ _ _=>jE λ_=>rfl;obtain⟨g1,U1,B1,C1,D1⟩:=dF hf hc 173 CV "is_between" 172 ["thing","low","high"] 1 59 90 λ_ _ _ _ _ _=>JP λ_ _ _=>rfl;obtain⟨g2,U2,B2,C2,D2⟩:=dF hf hc 178 yG "is_rising" 177 ["parts"] 2 60 91 λ_ _ _ _ _ _=>jE λ_=>rfl;obtain⟨g3,U3,B3,C3,D3⟩:=dF hf hc 185 CW "is_thing" 184 ["many","thing"] 3 61 92 λ_ _ _ _ _ _=>hV λ_ _=>rfl;obtain⟨g4,U4,B4,C4,D4⟩:=dF hf hc 190 yH "are_things" 189 ["many","thing"] 4 62 93 λ_ _ _ _ _ _=>hV λ_ _=>rfl;obtain⟨g5,U5,B5,C5,D5⟩:=dF hf hc 197 CY "is_pair" 196 ["many","thing"] 5 63 94 λ_ _ _ _ _ _=>hV λ_ _=>rfl;obtain⟨g6,U6,B6,C6,D6⟩:=dF hf hc 202 yI "are_pairs" 201 ["many","things"] 6 64 95 λ_ _ _ _ _ _=>hV λ_ _=>rfl;obtain⟨g7,U7,B7,C7,D7⟩:=dF hf hc 207 yJ "has_alike" 206 ["pairs"] 7 65 96 λ_ _ _ _ _ _=>jE λ_=>rfl;obtain⟨g8,U8,B8,C8,D8⟩:=dF hf hc 212 yK "is_complete" 211 ["pairs"] 8 66 97 λ_ _ _ _ _ _=>jE λ_=>rfl;obtain⟨g9,U9,B9,C9,D9⟩:=dF hf hc 219 CZ "is_order" 218 ["thing"] 9 67 98 λ_ _ _ _ _ _=>jE λ_=>rfl;obtain⟨g10,U10,B10,C10,D10⟩:=dF hf hc 226 DC "need_order" 225 ["order"] 10 68 99 λ_ _ _ _ _ _=>jE λ_=>rfl;obtain⟨g11,U11,B11,C11,D11⟩:=dF hf hc 233 DD "need_thing" 232 ["order","thing"] 11 69 100 λ_ _ _ _ _ _=>hV λ_ _=>rfl;obtain⟨g12,U12,B12,C12,D12⟩:=dF hf hc 238 yL "ahead_of" 237 ["order","thing"] 12 70 101 λ_ _ _ _ _ _=>hV λ_ _=>rfl;obtain⟨g13,U13,B13,C13,D13⟩:=dF hf hc 243 yM "behind" 242 ["order","thing"] 13 71 102 λ_ _ _ _ _ _=>hV λ_ _=>rfl;obtain⟨g14,U14,B14,C14,D14⟩:=dF hf hc 250 DE "are_loose" 249 ["order","one","other"] 14 72 103 λ_ _ _ _ _ _=>JP λ_ _ _=>rfl;obtain⟨g15,U15,B15,C15,D15⟩:=dF hf hc 255 yN "loose_from" 254 ["order","thing"] 15 73 104 λ_ _ _ _ _ _=>hV λ_ _=>rfl;obtain⟨g16,U16,B16,C16,D16⟩:=dF hf hc 260 yO "loose_pairs" 259 ["order"] 16 74 105 λ_ _ _ _ _ _=>jE λ_=>rfl;obtain⟨g17,U17,B17,C17,D17⟩:=dF hf hc 265 yP "turned" 264 ["order"] 17 75 106 λ_ _ _ _ _ _=>jE λ_=>rfl;obtain⟨g18,U18,B18,C18,D18⟩:=dF hf hc 272 DF "_law_cell_at" 271 ["_law_script","_law_k"] 18 76 107 λ_ _ _ _ _ _=>hV λ_ _=>rfl;obtain⟨g19,U19,B19,C19,D19⟩:=dF hf hc 279 DG "_law_state" 278 ["_law_script","_law_k"] 19 77 108 λ_ _ _ _ _ _=>hV λ_ _=>rfl;obtain⟨g20,U20,B20,C20,D20⟩:=dF hf hc 286 DH "_law_take" 285 ["_law_state_here","_law_many"] 20 78 109 λ_ _ _ _ _ _=>hV λ_ _=>rfl;obtain⟨g21,U21,B21,C21,D21⟩:=dF hf hc 293 DI "_law_mixed_row" 292 ["_law_state_here","_law_things"] 21 79 110 λ_ _ _ _ _ _=>hV λ_ _=>rfl;obtain⟨g22,U22,B22,C22,D22⟩:=dF hf hc 298 yQ "_law_closed" 297 ["_law_pairs"] 22 80 111 λ_ _ _ _ _ _=>jE λ_=>rfl;obtain⟨g23,U23,B23,C23,D23⟩:=dF hf hc 303 uD "_law_order" 302 ["_law_state_here","_law_most"] 23 81 112 λ_ _ _ _ _ _=>hV λ_ _=>rfl;obtain⟨g24,U24,B24,C24,D24⟩:=dF hf hc 310 DJ "_law_loose" 309 ["_law_order_here"] 24 82 113 λ_ _ _ _ _ _=>jE λ_=>rfl;obtain⟨g25,U25,B25,C25,D25⟩:=dF hf hc 317 DK "_law_bad_order" 316 ["_law_state_here"] 25 83 114 λ_ _ _ _ _ _=>jE λ_=>rfl;obtain⟨g26,U26,B26,C26,D26⟩:=dF hf hc 322 yR "_law_same" 321 ["_law_found","_law_due"] 26 84 115 λ_ _ _ _ _ _=>hV λ_ _=>rfl;obtain⟨g27,U27,B27,C27,D27⟩:=dF hf hc 327 pI "_law_refused" 326 ["_law_call"] 27 85 116 λ_ _ _ _ _ _=>jE λ_=>rfl;obtain⟨g28,U28,B28,C28,D28⟩:=dF hf hc 332 pJ "_law_right" 331 ["_law_order_here","_law_thing"] 28 86 117 λ_ _ _ _ _ _=>hV λ_ _=>rfl;obtain⟨g29,U29,B29,C29,D29⟩:=dF hf hc 337 cK "_law_refusals_right" 336 ["_law_state_here","_law_order_here"] 29 87 118 λ_ _ _ _ _ _=>hV λ_ _=>rfl;obtain⟨g30,U30,B30,C30,D30⟩:=dF hf hc 342 uE "law" 341 ["_law_script"] 30 88 119 λ_ _ _ _ _ _=>jE λ_=>rfl;obtain⟨t_MOST_THINGS,c_MOST_THINGS⟩:=PB (n := "MOST_THINGS") (v:=6) (mW hc 120 rfl);have ex_NoOrder:ExK K 37:=⟨dB hc 155,dB hc 156,dB hc 157,dB hc 158,dB hc 159,dB hc 160,FJ (mW hc 161 rfl)⟩
 have ex_NoThing:ExK K 85:=⟨dB hc 162,dB hc 163,dB hc 164,dB hc 165,dB hc 166,dB hc 167,FJ (mW hc 168 rfl)⟩
 refine hR ⟨g30,336,334,λs v=>.of_eq (D30 [v] rfl),dB hc 121,hnt,λbase a ns hlen _ _ hC hB=>⟨?_⟩⟩;obtain⟨hh,hl⟩:=z4d ns;refine⟨{ K:=K,cl:=λc=>match c with|0=>37|1=>49|2=>61|3=>73|4=>85|5=>97|6=>109|7=>121|8=>133|9=>145|10=>157|_=>24,scr:=ns,sa:=a,tab:=some 334,lq:=(("_law_refusals_right" : Str) ++ ".<locals>.") ++ "<lambda>" },F_q4 ns,hh,rfl,rfl,rfl,rfl,hl, ?_⟩;refine z15 (A:=⟨166,g0,173,g1,178,g2,185,g3,190,g4,197,g5,202,g6,207,g7,212,g8,219,g9,226,g10,233,g11,238,g12,243,g13,250,g14,255,g15,260,g16,265,g17,272,g18,279,g19,286,g20,293,g21,298,g22,303,g23,310,g24,317,g25,322,g26,327,g27,332,g28,337,g29,342,g30,37,49,61,73,85,97,109,121,133,145,157,t_MOST_THINGS,24,336,334⟩) ?_ (λ_ _ _ _ _ _=>trivial) hC hB;exact⟨rfl,U0,B0,cD X G hc 0,U1,B1,cD X G hc 1,U2,B2,cD X G hc 2,U3,B3,cD X G hc 3,U4,B4,cD X G hc 4,U5,B5,cD X G hc 5,U6,B6,cD X G hc 6,U7,B7,cD X G hc 7,U8,B8,cD X G hc 8,U9,B9,cD X G hc 9,U10,B10,cD X G hc 10,U11,B11,cD X G hc 11,U12,B12,cD X G hc 12,U13,B13,cD X G hc 13,U14,B14,cD X G hc 14,U15,B15,cD X G hc 15,U16,B16,cD X G hc 16,U17,B17,cD X G hc 17,U18,B18,cD X G hc 18,U19,B19,cD X G hc 19,U20,B20,cD X G hc 20,U21,B21,cD X G hc 21,U22,B22,cD X G hc 22,U23,B23,cD X G hc 23,U24,B24,cD X G hc 24,U25,B25,cD X G hc 25,U26,B26,cD X G hc 26,U27,B27,cD X G hc 27,U28,B28,cD X G hc 28,U29,B29,cD X G hc 29,U30,B30,cD X G hc 30,mg_none_of X G (dB hc 43),mg_none_of X G (dB hc 44),mg_none_of X G (dB hc 45),mg_none_of X G (dB hc 46),mg_none_of X G (dB hc 47),mg_none_of X G (dB hc 48),mg_none_of X G (dB hc 49),mg_none_of X G (dB hc 50),mg_none_of X G (dB hc 51),mg_none_of X G (dB hc 52),mg_none_of X G (dB hc 53),mg_none_of X G (dB hc 54),mg_none_of X G (dB hc 55),mg_none_of X G (dB hc 56),mg_none_of X G (dB hc 57),mg_of X G c_MOST_THINGS,cD X G hc 31,cD X G hc 32,cD X G hc 33,cD X G hc 34,cD X G hc 35,cD X G hc 36,cD X G hc 37,cD X G hc 38,cD X G hc 39,cD X G hc 40,cD X G hc 41,dB hc 31,mW hc 169 rfl,rfl,dB hc 35,mW hc 170 rfl,rfl,eU ⟨dB hc 171,ex_NoOrder⟩ (eU ⟨dB hc 172,ex_NoThing⟩ jR),eU ⟨dB hc 133,ex_NoOrder⟩ (eU ⟨dB hc 144,ex_NoThing⟩ jR),eU ⟨dB hc 134,ex_NoOrder⟩ (eU ⟨dB hc 145,ex_NoThing⟩ jR),eU ⟨dB hc 135,ex_NoOrder⟩ (eU ⟨dB hc 146,ex_NoThing⟩ jR),eU ⟨dB hc 136,ex_NoOrder⟩ (eU ⟨dB hc 147,ex_NoThing⟩ jR),eU ⟨dB hc 137,ex_NoOrder⟩ (eU ⟨dB hc 148,ex_NoThing⟩ jR),eU ⟨dB hc 138,ex_NoOrder⟩ (eU ⟨dB hc 149,ex_NoThing⟩ jR),eU ⟨dB hc 139,ex_NoOrder⟩ (eU ⟨dB hc 150,ex_NoThing⟩ jR),eU ⟨dB hc 140,ex_NoOrder⟩ (eU ⟨dB hc 151,ex_NoThing⟩ jR),eU ⟨dB hc 141,ex_NoOrder⟩ (eU ⟨dB hc 152,ex_NoThing⟩ jR),eU ⟨dB hc 142,ex_NoOrder⟩ (eU ⟨dB hc 153,ex_NoThing⟩ jR),eU ⟨dB hc 143,ex_NoOrder⟩ (eU ⟨dB hc 154,ex_NoThing⟩ jR),cD X G hc 42,dB hc 173,dB hc 174,dB hc 175,kH (dB hc 122) (kH (dB hc 123) (kH (dB hc 124) (kH (dB hc 125) (kH (dB hc 126) (kH (dB hc 127) (kH (dB hc 128) (kH (dB hc 129) (kH (dB hc 130) (kH (dB hc 131) (kH (dB hc 132) XB)))))))))),rfl,rfl,C29⟩
end L2.Mr.K03
open PySem PySem.W PyProof.Rows
set_option maxRecDepth 100000 in
set_option maxHeartbeats 0 in
theorem PySem.Challenge.cw_nearorders_k03_things_ahead_behind_and_l_holds : PySem.Challenge.rw_nearorders_k03_things_ahead_behind_and_l.Holds := by
  w_on; o_law
  refine holds_open (XP := XL L2.Mr.K03.vw []) (YP := L2.Mr.Ys L2.Mr.K03.ob L2.Mr.K03.obE) L2.Mr.K03.left L2.Mr.ys_of L2.Mr.ys_keeps (fun s e => xl_of s (Bool.and_eq_true_iff.mp e).1) XL.keeps (by rfl) (by rfl) (by rfl) (fun s e => recFacts_of (Bool.and_eq_true_iff.mp e).2) (by rfl) (by first | assumption | decide +kernel) (by decide +kernel) ⟨rfl,rfl,rfl,rfl,rfl,by decide +kernel⟩ ?hw ?hc
  case hw => w_witness2
  case hc => exact L2.Mr.walkK2 (l := PySem.Challenge.rw_nearorders_k03_things_ahead_behind_and_l) (n := 63) (k := 15) (x := "_law_script") "_law_refusals_right" rfl (by decide) rfl ⟨rfl,by decide,by decide⟩ ⟨_,rfl,rfl⟩ (fun K w mg fa h hob hnt X G hmg => L2.Mr.K03.mk_of hob hnt X G hmg)
